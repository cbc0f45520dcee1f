import PyProof.Rows.All
import Wide.All
import OpenK.AllK
import Wide.FinOn
import HandS.ForMost
import HandS.IsInst
import PyProof.ReprRoads
import PyProof.ReprText
import HandS.Wide
import HandS.Walk
import HandS.Zip
import KE.KEqSeq
import HandS.TupMul
import KE.GoesEnum
import KE.GoesMore
import KE.KEqDeep
import OpenK.KMore
import PySem.Challenge.RW_rowcounts_k28_whole_multiples_of_forms
set_option Elab.async false
set_option linter.all false
set_option maxRecDepth 100000
set_option maxHeartbeats 4000000
namespace JP
open PySem PySem.Spec PyProof.Rows L2

/-! ## defs that are only called where no repr is going on -/
/-- a promise that is kept wherever no guard is on the stack -/
structure GOk (P : Program) (w : World) (K : PySem.W.Frag) (mg : Str → Option Value) (base : Heap) (k : Nat) (f : Addr) (fd : FuncData) (ps : List Str) (sp : Sp) : Prop where
  arity : ∀ vs H Q E, sp vs H Q E → vs.length = ps.length
  kept : ∀ (A : Around) (outer : List Env) (s : Shared) (H : Hp) (args : Args) (us : List Value) (vs : List V) (Q : VK) (E : XK), A.guards = some [] → Room k A →
    Env0 P w K mg base A outer s H → BindsTo s fd args (ps.zip us) → Vals vs us → sp vs H Q E → codeAny (model P w) A (.call (.ref f) args) (CR CX0 outer P w H s Q E) s

section
variable {P : Program} {w : World} {K : PySem.W.Frag} {mg : Str → Option Value} {base : Heap} {j k : Nat} {f : Addr} {fd : FuncData} {ps N : List Str} {sp : Sp}
theorem GOk.ofFn (F : FnOk P w K mg base CX0 k f fd ps sp) : GOk P w K mg base k f fd ps sp :=
  ⟨F.len, fun A outer s H args us vs Q E _ hr e0 hb hv hs => F.run A outer s H args us vs Q E hr e0 hb hv hs⟩
theorem GOk.mono (F : GOk P w K mg base j f fd ps sp) (h : j ≤ k) : GOk P w K mg base k f fd ps sp :=
  ⟨F.arity, fun A outer s H args us vs Q E g hr e0 hb hv hs => F.kept A outer s H args us vs Q E g (hr.mono h) e0 hb hv hs⟩

/-- a def of the text by its body; g: no guard around the body -/
theorem gok {x qual : Str} {st : Stmt} (F : Fun K x qual st f fd) (S : FnScope N ps (defScope st)) (len : ∀ vs H Q E, sp vs H Q E → vs.length = ps.length)
    (body : ∀ (cdv : Value) (A : Around) (outer : List Env) (s : Shared) (H : Hp) (vs : List V) (Q : VK) (E : XK), A.guards = some [] →
      Room k (A.deeper (envOfC qual (defScope st) s.heap.objs.size f cdv)) → sp vs H Q E →
      ∃ t, PSs (cxOf CX0 P w K mg base N qual (defScope st) f cdv A outer s H E).nox (defBody st) t ∧ t { nx := fun _ H' => Q .non H', rt := Q } (start N vs) H) :
    GOk P w K mg base (k + 1) f fd ps sp := by
  obtain ⟨oc, od, kV, doc, pm, an, cdv, ct, osl, rfl, lk, hcd⟩ := F.ex
  constructor
  · exact len
  intro A outer s H args us vs Q E g hr e0 hb r hs
  have hl := len vs H Q E hs
  have inK : K.In s.heap := e0.mod.kin.keeps fun b o q => (e0.bs b o q).1
  have nl : s.heap.NoLimit := e0.mod.nolimit.keeps fun b o q => (e0.bs b o q).1
  have kinds : ∀ y ∈ ps.zip us, (defScope st).names.lookup y.1 = some .local ∨ ((defScope st).names.lookup y.1 = some .cell ∧ ((cellsFrom (s.heap.objs.size + 1) (defScope st).names []).lookup y.1).isSome = true) := by
    intro y hy
    obtain ⟨n, v⟩ := y
    cases S.par n (List.of_mem_zip hy).1 with
    | inl q => exact Or.inl q
    | inr q => exact Or.inr (And.intro q (PySem.W.cellsFrom_some _ _ _ (Or.inl q)))
  apply codeAny_call_function hr.depth (inK _ _ lk) rfl S.co S.gen rfl (PySem.W.codeRec_of inK hcd)
  apply hb
  apply wpAny_newFunctionEnv_cells S.kind kinds
  intro env he s1 x1
  subst he
  refine And.intro (nl.keeps x1.toInCall.keep) (codeAny_func ?_)
  obtain ⟨t, ht, hq⟩ := body cdv A outer s H vs Q E g (hr.deeper _) hs
  have I : Inv (cxOf CX0 P w K mg base N qual (defScope st) f cdv A outer s H E) [] (start N vs) H s1 := inv_start S hr.hd e0 hl r x1
  apply wpAny_mono (ht.nox.run [] s1 (start N vs) H _ I hq)
  · intro fl s' q
    match fl, q with
    | .ret u, ⟨v, _, H', J, rv, z⟩ => exact ⟨v, H', J.os, J.bare, J.base, J.hok, rv, z⟩
    | .next, ⟨_, H', J, z⟩ => exact ⟨.non, H', J.os, J.bare, J.base, J.hok, rfl, z⟩
    | .brk, ⟨_, _, _, z⟩ => exact z.elim
    | .cont, ⟨_, _, _, z⟩ => exact z.elim
  · exact fun _ _ q => q
end

section
variable {X : Cx} {k : Nat} {f : Addr} {fd : FuncData} {ps : List Str} {sp : Sp} {x : Str} {p pos : Pos} {e : Expr} {es : List Expr} {t : TA} {dvs : List V} {ds : List Value} {E : XK}
theorem run_g {pins : List (Addr × Obj)} {σ : L2.St} {H : Hp} {s : Shared} {Q : VK} {us : List Value} {vs : List V} (F : GOk X.prog X.w X.K X.mg X.base k f fd ps sp) (g : X.A.guards = some []) (hr : Room k X.A)
    (hb : Binds X.K fd ps ds) (hd : Vals dvs ds) (I : Inv X pins σ H s) (r : Vals vs us) (h : sp (vs ++ dvs) H Q E) : wpAny (model X.prog X.w) X.A (call (.ref f) us) (EP X pins σ Q) X.xe s := by
  have r' := Vals.append r hd
  have n : (us ++ ds).length = ps.length := r'.length.symm.trans (F.arity _ _ _ _ h)
  apply wpAny_call
  apply codeAny_mono (F.kept X.A X.stack s H ⟨us, []⟩ (us ++ ds) (vs ++ dvs) Q E g hr I.env0 (hb s us I.kIn n) r' h)
  intro res s' q
  match res, q with
  | .ok (.ret u), q => exact I.after q
  | .ok .next, q => exact q.elim
  | .ok .brk, q => exact q.elim
  | .ok .cont, q => exact q.elim
  | .error _, q => exact False.elim q
/-- a call of such a def, by position -/
theorem pe_g (F : GOk X.prog X.w X.K X.mg X.base k f fd ps sp) (g : X.A.guards = some []) (hr : Room k X.A) (hg : Gl X x) (hm : X.mg x = some (.ref f)) (hk : PySem.W.keepIn X.K (.ref f) = true)
    (hb : Binds X.K fd ps ds) (hd : Vals dvs ds) (ha : PA X (e :: es) t) (hdb : (x == ("__debug__" : Str)) = false := by decide)
    (he : starEach (e :: es) X.env = (false, eval e X.env) :: starEach es X.env := by rfl) (hpl : (backTo pos (starEach es X.env)).any (·.1) = false := by rfl) :
    PE X (.Call (.Name x p) (e :: es) [] pos) (tCall sp dvs E t) := by
  constructor
  intro pins s σ H Q I h
  apply wpAny_Call_Name_kw
  apply ld_glob I hg hm _ hdb
  exact PySem.W.callWith_K (h₀ := X.base) I.ok.mod.kin hk (thn (ha.run pos pins s σ H _ I h) fun us s1 ⟨vs, H1, I1, r, q⟩ => ⟨I1.kIn, run_g F g hr hb hd I1 r q⟩) he hpl
end

/-! ## repr of data: none, bools, ints, texts, lists, tuples, dicts with text keys -/
mutual
inductive Dq (K : PySem.W.Frag) (H : Hp) : V → PyData → Prop
  | non : Dq K H .non .none
  | bl (b : Bool) : Dq K H (.bl b) (.bool b)
  | int (i : Int) : Dq K H (.int i) (.int i)
  | str (x : Str) : Dq K H (.str x) (.str x)
  | lst {a : Addr} {xs : List V} {ds : List PyData} : SqL K H a xs → DqAll K H xs ds → Dq K H (.ref a) (.list ds)
  | tup {a : Addr} {xs : List V} {ds : List PyData} : SqT K H a xs → DqAll K H xs ds → Dq K H (.ref a) (.tuple ds)
inductive DqAll (K : PySem.W.Frag) (H : Hp) : List V → List PyData → Prop
  | nil : DqAll K H [] []
  | cons {v : V} {vs : List V} {d : PyData} {ds : List PyData} : Dq K H v d → DqAll K H vs ds → DqAll K H (v :: vs) (d :: ds)
end
section
variable {X : Cx}
/-- repr(x) of such data -/
def rRepr (K : PySem.W.Frag) : List V → Hp → VK → Prop := fun xs H Q => ∃ x d, xs = [x] ∧ Dp K H x d ∧ d.showable = true ∧ d.hasDict = false ∧ d.depth ≤ 60 ∧ d.shown.length ≤ sizeLine ∧ Q (.str d.shown) H
theorem call_repr (g : X.A.guards = some []) (hu : X.A.units + 64 < cLine) : CallR X (.builtin "repr") (rRepr X.K) := by
  intro pins s σ H xs us Q I r h
  obtain ⟨x, d, rfl, hd, sh, nd, dp, sz, q⟩ := h
  obtain ⟨u, rfl, rv⟩ := vals1 r
  obtain ⟨as, rd⟩ := Dp.reads I d x u hd rv
  cases hd with
  | non =>
    cases rv
    refine PySem.P.repr_of_none ⟨.str _, H, I.tok _, ⟨_, rfl⟩, ?_⟩
    rw [PyData.shown_none] at q
    exact q
  | bl b =>
    cases rv
    refine PySem.P.repr_of_bool ⟨.str _, H, I.tok _, ⟨_, rfl⟩, ?_⟩
    rw [PyData.shown_bool] at q
    exact q
  | int i =>
    obtain ⟨t, rfl⟩ := rv
    refine PySem.P.repr_of_int (by simpa [PyData.showable] using sh) ⟨.str _, H, I.tok _, ⟨_, rfl⟩, ?_⟩
    rw [PyData.shown_int] at q
    exact q
  | str y =>
    obtain ⟨t, rfl⟩ := rv
    rw [PyData.shown_str] at q sz
    exact PySem.P.repr_of_str ⟨.str _, H, I.tok _, ⟨_, rfl⟩, q⟩ sz
  | lst a b =>
    cases rv
    exact repr_of_reads' rd sh (by rw [nd]; intro z; cases z) g (by omega) (fun _ _ e => e) (fun h' u tk k => ⟨.str _, H, I.kept k, ⟨_, rfl⟩, q⟩) sz
  | tup a b =>
    cases rv
    exact repr_of_reads' rd sh (by rw [nd]; intro z; cases z) g (by omega) (fun _ _ e => e) (fun h' u tk k => ⟨.str _, H, I.kept k, ⟨_, rfl⟩, q⟩) sz
end
end JP

namespace JP
open PySem PySem.Spec PySem.W PySem.Calls PyProof.Rows L2

/-! ## the end of a law's row, from a promise where no guard is on the stack -/
/-- the abstract heap at the law's call: the script at most -/
def scriptHp (K : PySem.W.Frag) (a : Addr) (o : Obj) (xs : List V) : Hp := fun b => if b = a ∧ K.lookup a = none then some (.frz o (.lst xs)) else none
section
variable {P : Program} {w : World} {K : PySem.W.Frag} {a b : Addr} {o : Obj} {xs : List V} {h : Heap}
theorem scriptHp_cases (b : Addr) : scriptHp K a o xs b = none ∨ (b = a ∧ K.lookup a = none ∧ scriptHp K a o xs b = some (.frz o (.lst xs))) := by
  unfold scriptHp
  by_cases c : b = a ∧ K.lookup a = none
  · right
    exact ⟨c.1, c.2, if_pos c⟩
  · left
    exact if_neg c
theorem scriptHp_some {u : HO} (e : scriptHp K a o xs b = some u) : b = a ∧ K.lookup a = none ∧ u = .frz o (.lst xs) := by
  rcases scriptHp_cases (K := K) (a := a) (o := o) (xs := xs) b with n | ⟨h1, h2, h3⟩
  · rw [n] at e
    cases e
  · rw [h3] at e
    exact ⟨h1, h2, (Option.some.inj e).symm⟩
theorem scriptHp_only : Only (scriptHp K a o xs) := fun b => by
  rcases scriptHp_cases (K := K) (a := a) (o := o) (xs := xs) b with n | ⟨_, _, e⟩
  · exact .inl n
  · exact .inr ⟨o, xs, e⟩
end

/-- the call of the law -/
theorem law_g {P : Program} {w : World} {K : PySem.W.Frag} {mg mb : Str → Option Value} {k : Nat} {fa a : Addr} {fd : FuncData} {x : Str} {sp : Sp} {s : Shared} {vs : List Value} {ns : List Int}
    (inK : K.In s.heap) (gl : s.heap.Ns mainGlobals mg) (bl : s.heap.Ns builtinsNs mb) (blt : ∀ x : Str, x ≠ "__name__" → mb x = bootBuiltins x) (nl : s.heap.NoLimit) (gens : s.gens = #[])
    (obj : s.heap.get? a = some { cls := .type "list", data := .seq vs.toArray }) (hnum : IntsAre vs ns) (small : ns.length ≤ sizeLine) (room : Room k callerA)
    (F : ∀ base : Heap, K.In base → base.Ns mainGlobals mg → GOk P w K mg base k fa fd [x] sp) (bind : ∀ (s : Shared) (u : Value), BindsTo s fd ⟨[u], []⟩ [(x, u)])
    (sat : ∀ H : Hp, Only H → SqL K H a (ns.map V.int) → sp [.ref a] H (fun v _ => v = .bl true) fun _ _ _ => False) :
    codeAny (model P w) callerA (.call (.ref fa) ⟨[.ref a], []⟩) (fun r s' => r = .ok (.ret (.bool true)) ∧ OldK s.heap s'.heap ∧ s'.os = s.os ∧ AllBare s'.gens) s := by
  have rel := vals_ints hnum
  have wide : (ns.map V.int).length ≤ sizeLine := by
    rw [List.length_map]
    exact small
  generalize hH : scriptHp K a { cls := .type "list", data := .seq vs.toArray } (ns.map V.int) = H
  have only : Only H := hH ▸ scriptHp_only
  have some_of : ∀ {b : Addr} {u : HO}, H b = some u → b = a ∧ K.lookup a = none ∧ u = .frz { cls := .type "list", data := .seq vs.toArray } (.lst (ns.map V.int)) := fun e => scriptHp_some (hH ▸ e)
  have held : HOk P w H s.heap := by
    intro b u e
    obtain ⟨rfl, _, rfl⟩ := some_of e
    exact ⟨obj, wide, vs, _, rel, obj⟩
  have seq : SqL K H a (ns.map V.int) := by
    cases q : K.lookup a with
    | none =>
      refine .inl (.inr ⟨{ cls := .type "list", data := .seq vs.toArray }, ?_⟩)
      rw [← hH]
      exact if_pos ⟨rfl, q⟩
    | some o =>
      have e := inK a o q
      rw [obj] at e
      cases e
      exact .inr ⟨_, vs.toArray, _, q, rfl, rfl, rfl, by
        rw [List.size_toArray, hnum.length]
        exact small, by simpa using rel⟩
  have free : ∀ {b : Addr} {ob : Obj}, s.heap.get? b = some ob → (∀ its n, ob.data ≠ .seq its n) → H b = none := fun {b ob} e d => by
    cases q : H b with
    | none => rfl
    | some u =>
      obtain ⟨rfl, _, _⟩ := some_of q
      rw [obj] at e
      cases e
      exact absurd rfl (d _ _)
  have nsOk : ∀ {b : Addr} {m : Str → Option Value}, s.heap.Ns b m → (hidT s.heap H).Ns b m := by
    intro b m z
    obtain ⟨ob, es, ep, e, d, r⟩ := z
    exact ⟨ob, es, ep, hidT_get e (free e (by intro its n z; rw [d] at z; cases z)), d, r⟩
  have inB : K.In (hidT s.heap H) := by
    intro b ob e
    refine hidT_get (inK b ob e) ?_
    cases q : H b with
    | none => rfl
    | some u =>
      obtain ⟨rfl, z, _⟩ := some_of q
      rw [z] at e
      cases e
  have mods : Mod K mg (hidT s.heap H) := by
    obtain ⟨mc, h1, h2⟩ := nl
    exact ⟨inB, nsOk gl, ⟨mb, nsOk bl, blt⟩, mc, nsOk h1, h2⟩
  have e0 : Env0 P w K mg (hidT s.heap H) callerA [] s H :=
    { frames := rfl, mod := mods, bs := fun b o e => of_hidT e, bsz := Nat.le_of_eq (hidT_size _ _), funs := trivial, frf := fun b z => (List.not_mem_nil z).elim, hok := held, bare := .of_eq gens }
  apply codeAny_mono ((F _ inB (nsOk gl)).kept callerA [] s H ⟨[.ref a], []⟩ [.ref a] [.ref a] _ _ rfl room e0 (bind s (.ref a)) (.cons rfl .nil) (sat H only seq))
  intro r s' z
  match r, z with
  | .error _, z => exact z.elim
  | .ok .next, z => exact z.elim
  | .ok .brk, z => exact z.elim
  | .ok .cont, z => exact z.elim
  | .ok (.ret u), ⟨v, H', os, bare, un, held', rv, z⟩ =>
    have ev : v = .bl true := z
    subst ev
    have eu : u = Value.bool true := rv
    subst eu
    refine ⟨rfl, OldK.of_keep ?_, os, bare⟩
    intro b ob e
    cases q : H b with
    | none => exact un.keep b ob e q List.not_mem_nil List.not_mem_nil
    | some u =>
      obtain ⟨rfl, _, rfl⟩ := some_of q
      have e1 := (held' _ _ (un.frzs _ _ _ q)).1
      rw [obj] at e
      cases e
      exact e1

theorem walk_g {l : PySem.W.OpenLaw} {n k : Nat} {q : Program} {loose : List Str} {XP : (Str → Option Value) → Heap → Prop} {YP : World → Heap → Prop} {d : DefRec} {K : PySem.Params → PySem.W.Frag} {sp : PySem.W.Frag → Sp} {x : Str}
    (hn : l.most = some n) (hn2 : n ≤ sizeLine) (hdf : d.params.defaults = []) (hr : Room k callerA) (hY : ∀ (w : World) (h : Heap), YP w h → (K w.params).In h)
    (F : ∀ (w : World) (mg : Str → Option Value) (fa : Addr) (h : Heap), (K w.params).In h → h.Ns mainGlobals mg → mg d.name = some (.ref fa) →
      ∃ fd : FuncData, (∀ (s : Shared) (u : Value), BindsTo s fd ⟨[u], []⟩ [(x, u)]) ∧ ∀ base : Heap, (K w.params).In base → base.Ns mainGlobals mg → GOk l.prog w (K w.params) mg base k fa fd [x] (sp (K w.params)))
    (sat : ∀ (K : PySem.W.Frag) (H : Hp) (a : Addr) (ns : List Int), ns.length ≤ n → Only H → SqL K H a (ns.map V.int) → sp K [.ref a] H (fun v _ => v = .bl true) fun _ _ _ => False) :
    PySem.W.WalkO q loose XP YP l.row.toRowW d [] (fun f vs => PySem.call f vs) := by
  apply Att.attach_call hn hdf
  intro w s₀ s mg mb fa o pm cd doc a vs ns G Y ho hd hcd hmg obj hnum len gens
  obtain ⟨fd, hb, hF⟩ := F w mg fa _ (hY w _ Y) G.T.g hmg
  exact law_g (hY w _ Y) G.T.g G.T.b G.T.builtins G.T.nolimit gens obj hnum (Nat.le_trans len hn2) hr hF hb fun H hO hS => sat _ H a ns len hO hS
end JP

namespace JP
open PySem PySem.Spec PyProof.Rows L2
/-! ### the pen: what a law draws from -/
def Pen (H : Hp) (p c : Addr) (m : Nat) : Prop := ∃ (ns : List Int) (n g : Int), H p = some (.lst [.ref c, .int n, .int g]) ∧ H c = some (.lst (ns.map V.int)) ∧ c ≠ p ∧ ns.length ≤ 63 ∧ 0 ≤ n ∧ n ≤ m ∧ 0 ≤ g
/-- all but the pen is as it was -/
def But (p : Addr) (H H' : Hp) : Prop := ∀ b o, b ≠ p → H b = some o → H' b = some o
theorem fmod_lo (x : Int) {y : Int} (h : 1 ≤ y) : 0 ≤ x.fmod y := by
  rw [Int.fmod_eq_emod_of_nonneg x (by omega)]
  exact Int.emod_nonneg x (by omega)
theorem fmod_lt (x : Int) {y : Int} (h : 1 ≤ y) : x.fmod y < y := by
  rw [Int.fmod_eq_emod_of_nonneg x (by omega)]
  exact Int.emod_lt_of_pos x (by omega)
theorem fmod_32 {x C : Int} (h1 : 1 ≤ C) (h2 : C ≤ 2 ^ 32) : x.fmod C < 2 ^ 32 := by
  have := fmod_lt x h1
  omega
theorem fmod_64 {x C : Int} (h1 : 1 ≤ C) (h2 : C ≤ 2 ^ 32) : -(2 ^ 64) < x.fmod C ∧ x.fmod C < 2 ^ 64 := by
  have := fmod_lt x h1
  have := fmod_lo x h1
  omega
theorem mix_bound {x C D E n : Int} {m : Nat} (h1 : 1 ≤ C) (h2 : C ≤ 2 ^ 32) (h3 : 0 ≤ D) (h4 : D ≤ 2 ^ 20) (h5 : 0 ≤ E) (h6 : E ≤ 2 ^ 20) (n0 : 0 ≤ n) (nm : n ≤ m) (hm : m ≤ 2 ^ 20) : (x.fmod C + D * n + E).natAbs < 2 ^ 64 := by
  have a := fmod_lo x h1
  have b := fmod_lt x h1
  have c : D * n ≤ 2 ^ 20 * 2 ^ 20 := Int.mul_le_mul h4 (by omega) n0 (by decide)
  have d : 0 ≤ D * n := Int.mul_nonneg h3 n0
  omega
theorem mix_bound2 {x C D E n : Int} {m : Nat} (h1 : 0 ≤ C) (h2 : C ≤ 2 ^ 20) (h3 : 0 ≤ D) (h4 : D ≤ 2 ^ 20) (h5 : 0 ≤ E) (h6 : E ≤ 2 ^ 20) (x0 : 0 ≤ x) (x1 : x < 2 ^ 32) (n0 : 0 ≤ n) (nm : n ≤ m) (hm : m ≤ 2 ^ 20) : (x * (2 * n + C) + D * n * n + E).natAbs < 2 ^ 64 := by
  have c : D * n ≤ 2 ^ 20 * 2 ^ 20 := Int.mul_le_mul h4 (by omega) n0 (by decide)
  have d : 0 ≤ D * n := Int.mul_nonneg h3 n0
  have c2 : D * n * n ≤ (2 ^ 20 * 2 ^ 20) * 2 ^ 20 := Int.mul_le_mul c (by omega) n0 (by decide)
  have d2 : 0 ≤ D * n * n := Int.mul_nonneg d n0
  have c3 : x * (2 * n + C) ≤ 2 ^ 32 * 2 ^ 22 := Int.mul_le_mul (by omega) (by omega) (by omega) (by decide)
  have d3 : 0 ≤ x * (2 * n + C) := Int.mul_nonneg x0 (by omega)
  omega
theorem but_upd {H : Hp} (p : Addr) (o : HO) : But p H (upd H p o) := fun b u n e => by
  rw [upd_ne n]
  exact e
theorem But.trans {p : Addr} {H H1 H2 : Hp} (a : But p H H1) (b : But p H1 H2) : But p H H2 := fun c o n e => b c o n (a c o n e)
theorem But.of_same {p : Addr} {H H1 : Hp} (a : Same H H1) : But p H H1 := fun c o _ e => a c o e
theorem but_new {H : Hp} {p a : Addr} {o : HO} (h : H a = none) : But p H (upd H a o) := fun b u _ e => by
  rw [upd_ne (ne_of_none e h)]
  exact e
theorem pen_set {H : Hp} {p c : Addr} {ns : List Int} {n g n' g' : Int} {m : Nat} (hp : H p = some (.lst [.ref c, .int n, .int g])) (hc : H c = some (.lst (ns.map V.int))) (ncp : c ≠ p) (hl : ns.length ≤ 63) (h0 : 0 ≤ n') (h1 : n' ≤ m) (h2 : 0 ≤ g') :
    Pen (upd H p (.lst [.ref c, .int n', .int g'])) p c m :=
  ⟨ns, n', g', upd_same, by
    rw [upd_ne ncp]
    exact hc, ncp, hl, h0, h1, h2⟩
theorem dp_ints {K : PySem.W.Frag} {H : Hp} : ∀ ns : List Int, DpAll K H (ns.map V.int) (ns.map PyData.int)
  | [] => .nil
  | n :: ns => .cons (.int n) (dp_ints ns)
theorem Pen.mono {H : Hp} {p c : Addr} {m n : Nat} (h : Pen H p c m) (k : m ≤ n) : Pen H p c n := by
  obtain ⟨ns, x, g, h1, h2, h3, h4, h5, h6, h7⟩ := h
  exact ⟨ns, x, g, h1, h2, h3, h4, h5, by omega, h7⟩
theorem Pen.same {H H' : Hp} {p c : Addr} {m : Nat} (h : Pen H p c m) (k : Same H H') : Pen H' p c m := by
  obtain ⟨ns, x, g, h1, h2, h3⟩ := h
  exact ⟨ns, x, g, k _ _ h1, k _ _ h2, h3⟩
theorem Pen.at_ {H : Hp} {p c : Addr} {m : Nat} (h : Pen H p c m) : ∃ xs, H p = some (.lst xs) := by
  obtain ⟨ns, x, g, h1, _⟩ := h
  exact ⟨_, h1⟩
theorem Pen.ne_none {H : Hp} {p c a : Addr} {m : Nat} (h : Pen H p c m) (e : H a = none) : a ≠ p := by
  obtain ⟨xs, q⟩ := h.at_
  exact (ne_of_none q e).symm
theorem Pen.ne_none2 {H : Hp} {p c a : Addr} {m : Nat} (h : Pen H p c m) (e : H a = none) : a ≠ c := by
  obtain ⟨ns, x, g, _, h2, _⟩ := h
  exact (ne_of_none h2 e).symm
/-- the pen stays where another object is written -/
theorem Pen.updN {H : Hp} {p c D : Addr} {m : Nat} {o : HO} (h : Pen H p c m) (n : D ≠ p) (n2 : D ≠ c) : Pen (upd H D o) p c m := by
  obtain ⟨ns, x, g, h1, h2, h3⟩ := h
  exact ⟨ns, x, g, (upd_ne n.symm).trans h1, (upd_ne n2.symm).trans h2, h3⟩
theorem same_new {H : Hp} {a : Addr} {o : HO} (h : H a = none) : Same H (upd H a o) := fun b u e => by
  rw [upd_ne (ne_of_none e h)]
  exact e
theorem But.seqL {K : PySem.W.Frag} {p a : Addr} {H H' : Hp} {xs : List V} (e : But p H H') (n : a ≠ p) (h : SqL K H a xs) : SqL K H' a xs := by
  rcases h with (h | ⟨o, h⟩) | h
  · exact .inl (.inl (e _ _ n h))
  · exact .inl (.inr ⟨o, e _ _ n h⟩)
  · exact .inr h
theorem But.seqT {K : PySem.W.Frag} {p a : Addr} {H H' : Hp} {xs : List V} (e : But p H H') (n : a ≠ p) (h : SqT K H a xs) : SqT K H' a xs := by
  rcases h with (h | ⟨o, h⟩) | h
  · exact .inl (.inl (e _ _ n h))
  · exact .inl (.inr ⟨o, e _ _ n h⟩)
  · exact .inr h
theorem same_seqT {K : PySem.W.Frag} {a : Addr} {H H' : Hp} {xs : List V} (e : Same H H') (h : SqT K H a xs) : SqT K H' a xs := by
  rcases h with (h | ⟨o, h⟩) | h
  · exact .inl (.inl (e _ _ h))
  · exact .inl (.inr ⟨o, e _ _ h⟩)
  · exact .inr h
theorem But.refl (p : Addr) (H : Hp) : But p H H := fun _ _ _ e => e
theorem atI_of {xs : List V} {r : Int} (h0 : 0 ≤ r) (h1 : r < xs.length) : ∃ v, atI xs r = some v ∧ v ∈ xs := by
  have hl : r.toNat < xs.length := by omega
  refine ⟨xs[r.toNat], ?_, List.getElem_mem hl⟩
  have := atI_nat (xs := xs) (j := r.toNat) (List.getElem?_eq_getElem hl)
  rw [Int.toNat_of_nonneg h0] at this
  exact this
theorem cut_all (xs : List V) {n : Nat} (h : xs.length ≤ n) : cutV xs none (some (n : Int)) = xs := by
  unfold cutV
  rw [show HT.sIx xs.length xs.length (some (n : Int)) = min n xs.length from HT.sIx_nat xs.length xs.length n, HT.sIx_none, Nat.min_eq_right h]
  simp
end JP

namespace JP
open PySem PySem.Spec PyProof.Rows L2

/-! ### values of several kinds, and isinstance of them -/
inductive Ki where
  | non | bl | int | str | lst | tup | dct
  deriving DecidableEq
def Ki.name : Ki → String
  | .non => "NoneType" | .bl => "bool" | .int => "int" | .str => "str" | .lst => "list" | .tup => "tuple" | .dct => "dict"
/-- x is of kind k in H -/
def IsKi (H : Hp) (x : V) : Ki → Prop
  | .non => x = .non
  | .bl => ∃ b, x = .bl b
  | .int => ∃ i, x = .int i
  | .str => ∃ s, x = .str s
  | .lst => ∃ a xs, x = .ref a ∧ H a = some (.lst xs)
  | .tup => ∃ a xs, x = .ref a ∧ H a = some (.tup xs)
  | .dct => ∃ a kvs, x = .ref a ∧ H a = some (.dK kvs)
theorem IsKi.ty {K : PySem.W.Frag} {H : Hp} {x : V} : ∀ {k : Ki}, IsKi H x k → TyX K H x (.type k.name)
  | .non, h => by
    cases h
    exact .base .non
  | .bl, h => by
    obtain ⟨b, rfl⟩ := h
    exact .base (.bl b)
  | .int, h => by
    obtain ⟨b, rfl⟩ := h
    exact .base (.int b)
  | .str, h => by
    obtain ⟨b, rfl⟩ := h
    exact .base (.str b)
  | .lst, h => by
    obtain ⟨a, xs, rfl, e⟩ := h
    exact .base (.lst e)
  | .tup, h => by
    obtain ⟨a, xs, rfl, e⟩ := h
    exact .base (.tup e)
  | .dct, h => by
    obtain ⟨a, xs, rfl, e⟩ := h
    exact .base (.dK e)
def Ki.below : Ki → Ki → Bool
  | .bl, .int => true
  | a, b => decide (a = b)
theorem ki_kit {K : PySem.W.Frag} : ∀ a b : Ki, PySem.W.kitOne K (.type a.name) (.type b.name) = some (a.below b) := by
  intro a b
  apply kit_ty
  cases a <;> cases b <;> decide +kernel
/-- isinstance(x, T) of such a value -/
theorem isi_ki {X : Cx} {H : Hp} {x : V} {Q : VK} {a : Ki} (b : Ki) (h : IsKi H x a) (q : Q (.bl (a.below b)) H) : rIsi X.K [x, .ty b.name] H Q :=
  ⟨x, .ty b.name, _, _, _, rfl, .ty _, h.ty, ki_kit a b, q⟩
theorem IsKi.same {H H' : Hp} (s : Same H H') {x : V} : ∀ {k : Ki}, IsKi H x k → IsKi H' x k
  | .non, h => h
  | .bl, h => h
  | .int, h => h
  | .str, h => h
  | .lst, ⟨a, xs, e, h⟩ => ⟨a, xs, e, s _ _ h⟩
  | .tup, ⟨a, xs, e, h⟩ => ⟨a, xs, e, s _ _ h⟩
  | .dct, ⟨a, xs, e, h⟩ => ⟨a, xs, e, s _ _ h⟩
/-- the kind of a value that stands for itself -/
def kiOf : V → Option Ki
  | .non => some .non
  | .bl _ => some .bl
  | .int _ => some .int
  | .str _ => some .str
  | _ => none
theorem kiOf_is {H : Hp} : ∀ {x : V} {k : Ki}, kiOf x = some k → IsKi H x k
  | .non, _, h => by
    cases h
    rfl
  | .bl b, _, h => by
    cases h
    exact ⟨b, rfl⟩
  | .int b, _, h => by
    cases h
    exact ⟨b, rfl⟩
  | .str b, _, h => by
    cases h
    exact ⟨b, rfl⟩
def isI : V → Bool
  | .int _ => true
  | _ => false
theorem isI_ki {x : V} {k : Ki} (h : kiOf x = some k) : isI x = decide (k = .int) := by
  cases x <;> cases h <;> rfl
end JP

namespace JP
open PySem PySem.Spec PyProof.Rows L2
open AutoSeq1 (wpAny_loadPart')

/-! ### tuples that stand in the heap: +, slices, times a number; the answer is a tuple, new or not -/
section
variable {X : Cx}
/-- t + u, any tuples -/
def rCat2 : R2 := fun x y H Q => ∃ a b xs ys, x = .ref a ∧ y = .ref b ∧ H a = some (.tup xs) ∧ H b = some (.tup ys) ∧ xs.length + ys.length ≤ sizeLine ∧
  ∀ p H', Same H H' → H' p = some (.tup (xs ++ ys)) → Q (.ref p) H'
theorem op_cat2 : OpR X (binaryOp .Add) rCat2 := by
  intro pins s σ H x y v u Q I rx ry h
  obtain ⟨a, b, xs, ys, rfl, rfl, ha, hb, hz, q⟩ := h
  cases rx
  cases ry
  by_cases hx : xs = []
  · subst hx
    obtain ⟨its, r1, p1, _⟩ := I.tuple (SqT.of ha)
    obtain ⟨its2, r2, p2, _⟩ := I.tuple (SqT.of hb)
    cases r1
    obtain ⟨⟨cls, dd, data, sl⟩, ho, hc, n, hd⟩ := id p1
    obtain ⟨⟨cls2, dd2, data2, sl2⟩, ho2, hc2, n2, hd2⟩ := id p2
    simp only at hc hd hc2 hd2
    subst hc hd hc2 hd2
    exact concat_meets ⟨_, ho, rfl⟩ ⟨_, ho2, rfl⟩ noFill_tuple_add seq_tuple_add PySem.F.slot_tuple_add PySem.F.entry_tuple_add (PySem.F.args_tuple_add_2 _ _)
      (tuple_addW0 a b _ _ n n2 dd dd2 sl sl2 (by rfl)) ⟨ho, ho2, ⟨.ref b, H, I.tok _, rfl, q b H (.refl H) (by rw [List.nil_append]; exact hb)⟩⟩
  · refine op_catT pins s σ H (.ref a) (.ref b) _ _ Q I rfl rfl ⟨a, b, xs, ys, rfl, rfl, .of ha, .of hb, hx, hz, fun e => ?_, fun _ p hp => ?_⟩
    · subst e
      exact q a H (.refl H) (by rw [List.append_nil]; exact ha)
    · exact q p _ (same_new hp) upd_same
/-- t[lo:hi] of any tuple: its items, in a new tuple or (the whole) in the same one -/
def rSl2 : V → Option Int → Option Int → Hp → VK → Prop := fun x lo hi H Q => ∃ a xs, x = .ref a ∧ H a = some (.tup xs) ∧ ∀ p H', Same H H' → H' p = some (.tup (cutV xs lo hi)) → Q (.ref p) H'
theorem getItem_tuple_whole {prog : Program} {w : World} {A : Around} {E : Value → Shared → Prop} {s : Shared} {t sl : Addr} {items : Array Value} {vl vu : Value} {lo hi : Option Int} {Q : Value → Shared → Prop} (ht : IsTup s.heap t items) (hs : s.heap.IsSliceOf sl vl vu .none) (pl : IsPart vl lo) (pu : IsPart vu hi)
    (hw : HT.sIx items.size 0 lo = 0 ∧ HT.sIx items.size items.size hi = items.size)
    (h : Q (.ref t) s) : wpAny (model prog w) A (getItem (.ref t) (.ref sl)) Q E s := by
  obtain ⟨⟨cls, dd, data, slo⟩, ho, hc, n, hd⟩ := id ht
  simp only at hc hd
  subst hc hd
  obtain ⟨os, hos, hcs, hds⟩ := id hs
  have hTs : s.TypeIs (.ref sl) "slice" := ⟨os, hos, hcs⟩
  unfold getItem
  try with_reducible refine wpAny_holding ?_
  first | refine wpAny_bind (wpAny_pure ?_) | skip
  refine wpAny_bind (wpAny_sequenceKey ht.typeIs (by decide) ?_)
  refine wpAny_bind (wpAny_callSpecial?_slot (name := Str.ofString "__getitem__") ht.typeIs PyProof.Rows.slot_tuple_getitem
    (wpAny_call_entry PyProof.Rows.slot_tuple_getitem ht.typeIs entry_tuple_getitem ?_ (args_tuple_getitem _ _)))
  show wpAny _ _ (Builtin.Tuple.tupleItemsOf (.ref t) >>= _) _ _ s
  refine wpAny_bind (tupleItemsOf_ ht ?_)
  refine wpAny_bind (wpAny_typeOf hTs ?_)
  rw [if_pos (by decide)]
  refine wpAny_bind (HT.sliceApplied_gen hs pl pu ?_)
  have hyes : (((HT.sIx items.size 0 lo : Nat) : Int) == 0 && (1 : Int) == 1 && (HT.sIx items.size items.size hi - HT.sIx items.size 0 lo) == items.size) = true := by
    rw [hw.1, hw.2]
    simp
  show wpAny _ _ (if (((HT.sIx items.size 0 lo : Nat) : Int) == 0 && (1 : Int) == 1 && (HT.sIx items.size items.size hi - HT.sIx items.size 0 lo) == items.size) = true then _ else _) _ _ s
  rw [if_pos hyes]
  wp_walk using wpAny_loadPart' ho
  exact ⟨_, rfl, wpAny_pure h⟩
theorem sl_tup2 : SlR X rSl2 := by
  intro pins s σ H x v vl vu lo hi sl Q I rx hs pl pu h
  obtain ⟨a, xs, rfl, hx, q⟩ := h
  by_cases hw : HT.sIx xs.length 0 lo = 0 ∧ HT.sIx xs.length xs.length hi = xs.length
  · cases rx
    obtain ⟨its, r, ht, hz⟩ := I.tuple (SqT.of hx)
    have hlen : its.toArray.size = xs.length := by rw [List.size_toArray]; exact r.length.symm
    refine ⟨"tuple", _, PyProof.Rows.slot_tuple_getitem.lookup, ht.typeIs, ?_⟩
    refine getItem_tuple_whole ht hs pl pu (by rw [hlen]; exact hw) ⟨.ref a, H, I, rfl, q a H (.refl H) ?_⟩
    have e : cutV xs lo hi = xs := by
      unfold cutV
      rw [hw.1, hw.2]
      simp
    rw [e]
    exact hx
  · exact sl_tup pins s σ H (.ref a) v vl vu lo hi sl Q I rx hs pl pu ⟨a, xs, rfl, .of hx, hw, fun p hp => q p _ (same_new hp) upd_same⟩
/-- t * k, k from 1 on -/
def rRep2 : R2 := fun x y H Q => ∃ l k xs, x = .ref l ∧ y = .int k ∧ H l = some (.tup xs) ∧ xs ≠ [] ∧ 1 ≤ k ∧ k ≤ 1000 ∧ xs.length ≤ 1000 ∧ ∀ p H', Same H H' → H' p = some (.tup (List.replicate k.toNat xs).flatten) → Q (.ref p) H'
theorem tuple_mulW1 (l : Addr) (items : Array Value) (n : Nat) (dd : Option Addr) (sl : Array (Option Value)) (u : Tok) :
    Meets (Builtin.«tuple.__mul__» ⟨[.ref l, .int 1 u], []⟩) (fun _ R s => s.heap.get? l = some { cls := .type "tuple", dict := dd, data := .seq items n, slots := sl } ∧
      R (.ok (.ret (Value.ref l))) { s with heap := s.heap, toks := s.toks }) :=
  .of_wp fun prog w A R s h => by
    obtain ⟨hp, g, d, tk, os⟩ := s
    obtain ⟨hl, h⟩ := h
    have f1 := AutoSeq1.idx_int
    have c1 : (items.isEmpty || (1 : Int) == 1) = true := by simp
    have c0 : (decide ((1 : Int) < -(2 ^ 63)) || decide ((1 : Int) ≥ 2 ^ 63)) = false := by decide
    wp_walk using wpAny_loadPart' hl
    repeat (first
      | (refine wpAny_ite_false (decide_eq_false (by rw [c0]; exact Bool.false_ne_true)) ?_; wp_walk using wpAny_loadPart' hl)
      | (refine wpAny_ite_true (decide_eq_true c1) ?_; wp_walk using wpAny_loadPart' hl))
    all_goals first | exact ⟨_, rfl, h⟩ | skip
theorem op_rep2 : OpR X (binaryOp .Mult) rRep2 := by
  intro pins s σ H x y v u Q I rx ry h
  obtain ⟨l, k, xs, rfl, rfl, hT, hne, h1, h2, hz, q⟩ := h
  by_cases hk : k = 1
  · subst hk
    cases rx
    obtain ⟨t, rfl⟩ := ry
    obtain ⟨its, r, ⟨⟨cls, dd, data, sl⟩, ho, hc, n, hd⟩, hs⟩ := I.tuple (SqT.of hT)
    simp only at hc hd
    subst hc hd
    refine wpAny_binaryOp_repeat_ref (T := "tuple") (U := "int") (by decide) ⟨_, ho, rfl⟩ (fun s' => typeIs_int s' 1 t) noFill_tuple_mul F.fills_int_mul F.slot_int_rmul repeat_tuple F.slot_int_index.lookup
      (call_meets F.slot_int_rmul (typeIs_int s 1 t) F.entry_int_rmul (F.args_int_rmul_2 _ _) (int_rmul_tuple 1 t l its.toArray n dd sl)
        ⟨ho, rfl, ⟨_, ho, rfl⟩, call_meets F.slot_tuple_mul ⟨_, ho, rfl⟩ F.entry_tuple_mul (F.args_tuple_mul_2 _ _) (tuple_mulW1 l its.toArray n dd sl t) ⟨ho, ?_⟩⟩)
    refine ⟨.ref l, H, I.tok _, rfl, q l H (.refl H) ?_⟩
    simpa using hT
  · exact op_repT pins s σ H (.ref l) (.int k) v u Q I rx ry ⟨l, k, xs, rfl, rfl, .of hT, hne, by omega, h2, hz, fun p hp => q p _ (same_new hp) upd_same⟩
end

/-! ### enumerate(tuple) -/
theorem enumT_end {prog : Program} {w : World} {A : Around} {E : Value → Shared → Prop} {s : Shared} {e it l : Addr} {i : Int} {n : Nat} {items : Array Value} {old : Value} {Q : Option Value → Shared → Prop} (hh : A.handled = none)
    (he : IsEnum s.heap e it i old) (hit : s.heap.IsTupleIter it l n) (hl : s.heap.IsTuple l items) (hx : items[n]? = none)
    (hQ : ∀ h', Heap.ExtBut it s.heap h' → Q none { s with heap := h' }) : wpAny (model prog w) A (pyNext (.ref e)) Q E s := by
  have hT : s.TypeIs (.ref e) "enumerate" := ⟨_, he, rfl⟩
  unfold pyNext
  refine wpAny_bind (wpAny_attempt (wpAny_callSpecial?_slot (name := Str.ofString "__next__") hT F.slot_enumerate_next
    (wpAny_call_entry F.slot_enumerate_next hT F.entry_enumerate_next ?_ (F.args_enumerate_next_1 _))))
  show wpAny _ _ (field (.ref e) 2 >>= _) _ _ _
  refine wpAny_bind (wpAny_field he rfl (x := .ref it) rfl ?_)
  refine wpAny_bind (wpAny_nextOf_tuple_end hh hit hl hx fun h' x he' hx' => ?_)
  obtain ⟨o, ho, hc⟩ := hx'
  refine wpAny_bind (wpAny_isInstance (T := "StopIteration") (b := true) ⟨o, ho, hc⟩ isSubtype_stop ?_)
  exact wpAny_pure (hQ _ he')
/-- the tuple at a as it stands at each turn, each item in a new pair -/
def IteT (K : PySem.W.Frag) (a : Addr) : It :=
  ⟨fun i H => ∃ (xs : List V) (x : V), SqT K H a xs ∧ xs[i]? = some x, fun i H v H' => ∃ T x, v = .ref T ∧ H T = none ∧ H' = upd H T (.tup [.int (i : Nat), x]) ∧ ∀ xs, SqT K H a xs → xs[i]? = some x, fun i H => ∃ xs : List V, SqT K H a xs ∧ xs.length ≤ i⟩
set_option maxHeartbeats 1000000 in
theorem meets_enumerate_newT {l : Addr} {items : Array Value} :
    Meets (Builtin.«enumerate.__new__» ⟨[.type "enumerate", .ref l], []⟩) (fun _ R s => s.heap.IsTuple l items ∧
      R (.ok (.ret (.ref (s.heap.push { cls := .type "tuple_iterator", data := .fields #[.ref l, .int 0 0] }).objs.size))) { s with heap := (s.heap.push { cls := .type "tuple_iterator", data := .fields #[.ref l, .int 0 0] }).push { cls := .type "enumerate", data := .fields #[.none, .bool false, .ref s.heap.objs.size, rawInt 0, .none, .none] } }) :=
  .of_wp fun prog w A R s h => by
    obtain ⟨hp, g, d, tk, os⟩ := s; obtain ⟨hL, h⟩ := h
    have hsub := sub_enumerate
    replace hL : Heap.IsTuple (Shared.heap ⟨hp, g, d, tk, os⟩) l items := hL
    wp_walk using wpAny_pyIter_tuple hL
    refine wpAny_stack_any fun st => wpAny_pure ?_
    split
    · rename_i c _ _ _ _ _
      cases (c == Value.type "enumerate")
      · wp_walk using wpAny_pyIter_tuple hL
        exact ⟨_, rfl, h⟩
      · wp_walk using wpAny_pyIter_tuple hL
        exact ⟨_, rfl, h⟩
    · wp_walk using wpAny_pyIter_tuple hL
      exact ⟨_, rfl, h⟩
theorem call_enumerate_tup {prog : Program} {w : World} {A : Around} {E : Value → Shared → Prop} {s : Shared} {l : Addr} {items : Array Value} {Q : Value → Shared → Prop} (hL : s.heap.IsTuple l items)
    (h : ∀ h', IsEnum h' (s.heap.objs.size + 1) s.heap.objs.size 0 .none → h'.IsTupleIter s.heap.objs.size l 0 → h'.objs.size = s.heap.objs.size + 2 →
      (∀ b o, s.heap.get? b = some o → h'.get? b = some o) → Q (.ref (s.heap.objs.size + 1)) { s with heap := h' }) :
    wpAny (model prog w) A (call (.type "enumerate") [.ref l]) Q E s := by
  refine callType_new F.called_enumerate (by decide) (F.typeCall_enumerate_1 _) (F.newCall_enumerate_1 _) (fun obj => F.args_object_init_2 obj _) F.entry_enumerate_new
    meets_enumerate_newT ⟨hL, ?_⟩
  have hz : (s.heap.push { cls := .type "tuple_iterator", data := .fields #[.ref l, .int 0 0] }).objs.size = s.heap.objs.size + 1 := Heap.size_push ..
  show _ ∧ _
  rw [hz]
  have he : IsEnum ((s.heap.push { cls := .type "tuple_iterator", data := .fields #[.ref l, .int 0 0] }).push
      { cls := .type "enumerate", data := .fields #[.none, .bool false, .ref s.heap.objs.size, rawInt 0, .none, .none] }) (s.heap.objs.size + 1) s.heap.objs.size 0 .none := by
    have := Heap.get?_push_size (s.heap.push { cls := .type "tuple_iterator", data := .fields #[.ref l, .int 0 0] })
      (o := { cls := .type "enumerate", data := .fields #[.none, .bool false, .ref s.heap.objs.size, rawInt 0, .none, .none] }) rfl
    rw [hz] at this; exact this
  refine ⟨⟨_, he, rfl⟩, h _ he ⟨_, Heap.get?_push_of_some _ (Heap.get?_push_size _ rfl), rfl, rfl⟩ (by rw [Heap.size_push, hz]) fun b o x => Heap.get?_push_of_some _ (Heap.get?_push_of_some _ x)⟩
theorem turn_enumT {P : Program} {w : World} {K : PySem.W.Frag} {elts : List Expr} {kk : Nat} {tpos : Pos} (a e it : Addr) (hai : a ≠ it) :
    Turn P w K (.Tuple elts kk tpos) (IteT K a) [e, it] e (fun i h => (∃ old, IsEnum h e it ((i : Nat) : Int) old) ∧ h.IsTupleIter it a i ∧ e ≠ it ∧ e ≠ a) where
  mem := by simp
  obj := fun i h st b hb => by
    obtain ⟨⟨old, he⟩, ⟨o, ho, hc, hd⟩, _⟩ := st
    have e' : b = e ∨ b = it := by simpa using hb
    rcases e' with z | z
    · rw [z]; exact ⟨_, he, fun v q => nomatch q⟩
    · rw [z]; exact ⟨o, ho, fun v q => by rw [hd] at q; cases q⟩
  keep := fun i h h' st k => let ⟨⟨old, he⟩, hi, hne⟩ := st; ⟨⟨old, k e (by simp) _ he⟩, hi.at fun o q => k it (by simp) o q, hne⟩
  item := by
    intro X hP hw hK hc i pins s σ H E I hf st hg
    subst hP hw hK
    obtain ⟨⟨old, he⟩, hit, hne, hnea⟩ := st
    obtain ⟨xs, x, hq, hx⟩ := hg
    obtain ⟨its, rv, p, hz⟩ := I.tuple hq
    obtain ⟨u, hu, ru⟩ := rv.get hx
    have hi : i < its.toArray.size := by
      rw [List.size_toArray]
      exact (List.getElem?_eq_some_iff.mp hu).1
    have hel : e < s.heap.objs.size := Heap.lt_size he
    have hil : it < s.heap.objs.size := by obtain ⟨_, q, _⟩ := hit; exact Heap.lt_size q
    refine wpAny_pyNext_enum_itemD (Draws.tuple (A := X.A.in1) (show X.A.in1.handled = none from I.ok.hd hc) it a hai its.toArray) he ⟨hit, p⟩ hi hne (by simp [hne, hnea]) fun u' h' tk hP ho hit' hT hsz hk => ?_
    have eu : u' = u := by
      have : its.toArray[i]? = some u := by simpa using hu
      rw [this] at hP
      exact (Option.some.inj hP).symm
    subst eu
    refine ⟨_, rfl, wpAny_letOwnedTupleGo_enum (s := { s with heap := h', toks := tk + 1 }) ho fun h'' he' sb => ?_⟩
    have hT2 : h''.get? s.heap.objs.size = some { cls := .type "tuple", data := .seq #[.int i tk, u'] } := (sb.2 _ (Nat.ne_of_gt hel)).trans hT
    have new : ObjOk X.prog X.w (upd H s.heap.objs.size (.tup [.int (i : Nat), x])) h'' s.heap.objs.size (.tup [.int (i : Nat), x]) :=
      ⟨by show 2 ≤ sizeLine; decide, [.int i tk, u'], .cons ⟨_, rfl⟩ (.cons ru .nil), ⟨_, hT2, rfl, _, rfl⟩⟩
    have I1 : Inv X pins σ (upd H s.heap.objs.size (.tup [.int (i : Nat), x])) { s with heap := h'', toks := tk + 1 } :=
      I.turnedNew (ch := [e, it]) (fun b ob hb q => (sb.2 b (fun z => hb (by simp [z]))).trans (hk b ob (fun z => hb (by simp [z])) (fun z => hb (by simp [z])) q)) hf (Nat.le_refl _) new
    refine ⟨.ref s.heap.objs.size, _, I1, rfl, ⟨_, x, rfl, I.hok.fresh (Nat.le_refl _), rfl, fun ys hy => by rw [I.tuple_inj hy hq]; exact hx⟩, ⟨⟨u', ?_⟩, hit'.1.at fun o q => (sb.2 it (Ne.symm hne)).trans q, hne, hnea⟩, fun b hb => ?_⟩
    · have e1 : ((i + 1 : Nat) : Int) = (i : Int) + 1 := by omega
      rw [e1]; exact he'
    · have hb' : b < s.heap.objs.size := by
        have e' : b = e ∨ b = it := by simpa using hb
        rcases e' with z | z
        · rw [z]; exact hel
        · rw [z]; exact hil
      rw [upd_ne (Nat.ne_of_lt hb')]
      exact (hf b hb).1
  done := by
    intro X hP hw hK hc i pins s σ H E I hf st hg
    subst hP hw hK
    obtain ⟨⟨old, he⟩, hit, hne, hnea⟩ := st
    obtain ⟨xs, hq, hx⟩ := hg
    obtain ⟨its, rv, p, hz⟩ := I.tuple hq
    obtain ⟨f0, f1, f2, f3, f4, f5⟩ := hf it (by simp)
    have hl := rv.length
    have hend : its.toArray[i]? = none := by simp; omega
    refine enumT_end (I.ok.hd hc) he hit p hend fun h' eb => ⟨rfl, I.turned (t' := s.toks) (fun b o hb q => eb b o hb q) f0 f1 f3 f4 f5⟩
  self := fun A i s Q E st h => let ⟨⟨_, he⟩, _⟩ := st; wpAny_pyIter_enum he h
def iEnumT (K : PySem.W.Frag) (ta : TA) : TI := fun σ H R => ta σ H fun vs H1 => ∃ a xs, vs = [.ref a] ∧ SqT K H1 a xs ∧ R (IteT K a) H1
theorem pi_enumT {X : Cx} {e : Expr} {ta : TA} {p pos tpos : Pos} {elts : List Expr} {kk : Nat} (hg : Gl X "enumerate") (hm : X.mg "enumerate" = none) (ha : PA X [e] ta) (hs : starEach [e] X.env = [(false, eval e X.env)] := by rfl) :
    PI X (.Tuple elts kk tpos) (.Call (.Name "enumerate" p) [e] [] pos) (iEnumT X.K ta) := by
  refine ⟨fun pins s σ H R I h => ?_⟩
  refine Call_ (ld_blt I hg hm boot_enumerate (PyProof.Rows.callWith_type1 (thn (ha.run pos pins s σ H _ I h) fun us s1 ⟨vs, H1, I1, r1, q1⟩ => ?_) hs rfl))
  obtain ⟨a, xs, ex, hq, q⟩ := q1
  subst ex
  cases r1 with
  | cons r rr =>
    cases rr
    cases r
    obtain ⟨its, rv, p', hz⟩ := I1.tuple hq
    have la : a < s1.heap.objs.size := p'.lt
    refine call_enumerate_tup p' fun h' he hit hsz hk => wpAny_pyIter_enum he ?_
    have I2 : Inv X pins σ H1 { s1 with heap := h' } := I1.kept (t' := s1.toks) hk
    refine ⟨s1.heap.objs.size + 1, [s1.heap.objs.size + 1, s1.heap.objs.size], _, _, H1, rfl, I2, turn_enumT a (s1.heap.objs.size + 1) s1.heap.objs.size (Nat.ne_of_lt la), ⟨⟨.none, he⟩, hit, Nat.succ_ne_self _, fun z => Nat.lt_irrefl a (Nat.lt_trans la (z ▸ Nat.lt_succ_self _))⟩, fun b hb => ?_, q⟩
    have e' : b = s1.heap.objs.size + 1 ∨ b = s1.heap.objs.size := by simpa using hb
    have hle : s1.heap.objs.size ≤ b := by
      rcases e' with z | z
      · rw [z]; exact Nat.le_add_right _ _
      · rw [z]; exact Nat.le_refl _
    exact I1.fpOk hle (I1.hok.fresh hle)
end JP

namespace JP
open PySem PySem.Spec PyProof.Rows L2

theorem same_updN {H H' : Hp} {D : Addr} {o : HO} (h : Same H H') (n : H D = none) : Same H (upd H' D o) := fun b u e => by
  rw [upd_ne (ne_of_none e n)]
  exact h b u e
theorem but_updN {p : Addr} {H H' : Hp} {D : Addr} {o : HO} (h : But p H H') (n : H D = none) : But p H (upd H' D o) := fun b u hb e => by
  rw [upd_ne (ne_of_none e n)]
  exact h b u hb e
/-- the list of a comprehension at D: what is made so far, and P of the turn, of it, of the heap -/
def AccP (D : Addr) (P : Nat → List V → Hp → Prop) (i : Nat) (H : Hp) : Prop := ∃ acc, H D = some (.lst acc) ∧ acc.length ≤ i ∧ P i acc H
theorem AccP.zero {D : Addr} {P : Nat → List V → Hp → Prop} {H : Hp} (h : P 0 [] (upd H D (.lst []))) : AccP D P 0 (upd H D (.lst [])) := ⟨[], upd_same, Nat.le_refl _, h⟩
theorem AccP.put {D : Addr} {P : Nat → List V → Hp → Prop} {H : Hp} {i : Nat} {acc : List V} {y : V} (hn : i < sizeLine) (e : H D = some (.lst acc)) (l : acc.length ≤ i) (p : P (i + 1) (acc ++ [y]) (upd H D (.lst (acc ++ [y])))) :
    ∃ acc, H D = some (.lst acc) ∧ acc.length < sizeLine ∧ AccP D P (i + 1) (upd H D (.lst (acc ++ [y]))) :=
  ⟨acc, e, by omega, acc ++ [y], upd_same, by simp; omega, p⟩
theorem AccP.skip {D : Addr} {P : Nat → List V → Hp → Prop} {H : Hp} {i : Nat} {acc : List V} (e : H D = some (.lst acc)) (l : acc.length ≤ i) (p : P (i + 1) acc H) : AccP D P (i + 1) H := ⟨acc, e, by omega, p⟩
theorem small_size {n : Nat} (h : n ≤ 1000) : n < sizeLine := by
  rw [sizeLine_eq]
  omega
theorem take_next {α : Type} {xs : List α} {i : Nat} {x : α} (h : xs[i]? = some x) : xs.take (i + 1) = xs.take i ++ [x] := by
  rw [List.take_succ, h]
  rfl
/-- the map so far -/
def MapP {α : Type} (Rl : Hp → Prop) (xs : List α) (f : α → V) : Nat → List V → Hp → Prop := fun i acc H => Rl H ∧ acc = (xs.take i).map f
theorem mapP_next {α : Type} {Rl : Hp → Prop} {xs : List α} {f : α → V} {i : Nat} {acc : List V} {H : Hp} {x : α} (h : xs[i]? = some x) (e : acc = (xs.take i).map f) (r : Rl H) : MapP Rl xs f (i + 1) (acc ++ [f x]) H := ⟨r, by rw [take_next h, e, List.map_append]; rfl⟩
theorem dec_int (a b : Int) : decide (V.int a = V.int b) = decide (a = b) := by simp
theorem walk_enumT {K : PySem.W.Frag} {a : Addr} {xs : List V} : Walk (IteT K a) xs.length (fun H => SqT K H a xs) (YPair (fun i => some (.int (i : Nat))) (fun i => xs[i]?)) := by
  refine ⟨fun i _ hi q => ⟨xs, xs[i], q, by simp [hi]⟩, fun _ q => ⟨xs, q, Nat.le_refl _⟩, fun i H v H' _ q y => ?_⟩
  obtain ⟨T, x, h1, h2, h3, h4⟩ := y
  exact ⟨T, .int (i : Nat), x, h1, h2, h3, rfl, h4 xs q⟩
theorem walk_zipT {K : PySem.W.Frag} {a b : Addr} {xs ys : List V} {n : Nat} (hn : n = min xs.length ys.length) : Walk (RZ.ItzT K a b) n (fun H => SqT K H a xs ∧ SqT K H b ys) (YPair (fun i => xs[i]?) (fun i => ys[i]?)) := by
  subst hn
  refine ⟨fun i _ hi q => ?_, fun _ q => ⟨xs, ys, q.1, q.2, by omega⟩, fun i H v H' _ q y => ?_⟩
  · have h1 : i < xs.length := by omega
    have h2 : i < ys.length := by omega
    exact ⟨xs, ys, xs[i], ys[i], q.1, q.2, by simp [h1], by simp [h2]⟩
  · obtain ⟨T, x, z, h1, h2, h3, h4, h5⟩ := y
    exact ⟨T, x, z, h1, h2, h3, h4 xs q.1, h5 ys q.2⟩
theorem get_int {ns : List Int} {i : Nat} {x : V} (h : (ns.map V.int)[i]? = some x) : ∃ n, ns[i]? = some n ∧ x = .int n := by
  rw [List.getElem?_map] at h
  obtain ⟨n, e, r⟩ := Option.map_eq_some_iff.mp h
  exact ⟨n, e, r.symm⟩
theorem atI_int {ns : List Int} {k : Nat} (h : k < ns.length) : atI (ns.map V.int) (k : Int) = some (.int (ns.getD k 0)) := atI_nat (by
  rw [List.getElem?_map, List.getD_eq_getElem?_getD, List.getElem?_eq_getElem h]
  rfl)
theorem getD_mem {ns : List Int} {k : Nat} (h : k < ns.length) : ns.getD k 0 ∈ ns := by
  rw [List.getD_eq_getElem?_getD, List.getElem?_eq_getElem h]
  exact List.getElem_mem h
theorem in64 {n : Int} (h : n.natAbs < 2 ^ 40) : -(2 ^ 64) < n ∧ n < 2 ^ 64 := by omega
theorem ixT {X : Cx} {K : PySem.W.Frag} (h : X.K = K) : IxR X (rIxT K) := h ▸ ix_tup
theorem ixL {X : Cx} {K : PySem.W.Frag} (h : X.K = K) : IxR X (rIxL K) := h ▸ ix_list
theorem eqD {X : Cx} {K : PySem.W.Frag} (hu : X.A.units + 64 < cLine) (h : X.K = K) : OpR X (compareOp .Eq) (rEqD K) := h ▸ op_eqD hu
theorem But.tup {p c a : Addr} {m : Nat} {H H' : Hp} {xs : List V} (b : But p H H') (hP : Pen H p c m) (h : H a = some (.tup xs)) : H' a = some (.tup xs) := by
  obtain ⟨ys, e⟩ := hP.at_
  exact b a _ (ne_of h e (by intro z; cases z)) h
theorem eqv_lI (a b : List Int) : PyData.eqv (.list (a.map .int)) (.list (b.map .int)) = decide (a = b) := by
  rw [← PySem.W.ked_eqvAll]
  simp [PyData.eqv]
theorem eqv_tI (a b : List Int) : PyData.eqv (.tuple (a.map .int)) (.tuple (b.map .int)) = decide (a = b) := by
  rw [← PySem.W.ked_eqvAll]
  simp [PyData.eqv]
/-- the numbers below i at which f holds -/
def pickI (f : Nat → Bool) (i : Nat) : List Int := ((List.range i).filter f).map fun (j : Nat) => (j : Int)
theorem pickI_succ (f : Nat → Bool) (i : Nat) : pickI f (i + 1) = if f i = true then pickI f i ++ [(i : Int)] else pickI f i := by
  unfold pickI
  rw [List.range_succ, List.filter_append, List.map_append, List.filter_cons, List.filter_nil]
  split
  · rfl
  · rw [List.map_nil, List.append_nil]
theorem pickI_len (f : Nat → Bool) (i : Nat) : (pickI f i).length ≤ i := by
  unfold pickI
  rw [List.length_map]
  exact Nat.le_trans (List.length_filter_le _ _) (by simp)
theorem pickI_nil (f : Nat → Bool) (i : Nat) : pickI f i = [] ↔ ∀ j, j < i → f j = false := by
  unfold pickI
  rw [List.map_eq_nil_iff, List.filter_eq_nil_iff]
  constructor
  · intro z j hj
    exact Bool.eq_false_iff.mpr (z j (List.mem_range.mpr hj))
  · intro z j hj
    exact Bool.eq_false_iff.mp (z j (List.mem_range.mp hj))
theorem pickI_first (f : Nat → Bool) {k : Nat} (hk : f k = true) (hz : ∀ j, j < k → f j = false) : ∀ i, k < i → ∃ r, pickI f i = (k : Int) :: r := by
  intro i hi
  induction i with
  | zero => omega
  | succ i ih =>
    rw [pickI_succ]
    by_cases e : i = k
    · subst e
      rw [if_pos hk, (pickI_nil f i).mpr hz]
      exact ⟨[], rfl⟩
    · obtain ⟨r, hr⟩ := ih (by omega)
      rw [hr]
      split
      · exact ⟨r ++ [(i : Int)], rfl⟩
      · exact ⟨r, rfl⟩
theorem toNat_len {α β : Type} (xs : List α) (f : α → β) : (((xs.map f).length : Nat) : Int).toNat = xs.length := by
  rw [List.length_map, Int.toNat_natCast]
theorem shapedT (ns : List Int) : SeqAt.shaped (.tuple (ns.map PyData.int)) = true := by
  simp [SeqAt.shaped, PyData.canLay0, PyData.depth, PySem.W.ke_canLayAll0, PySem.W.ke_depthAll]
end JP

namespace JP
open PySem PySem.Spec PyProof.Rows L2

/-! ### calls with keywords alone -/
section
variable {X : Cx} {CX : CXT} {k : Nat} {f : Addr} {fd : FuncData} {ps ks : List Str} {sp : Sp} {E : XK} {x : Str} {p pos : Pos} {kws : List Keyword} {tk : TA} {g : List Value → List Value → List Value} {gV : List V → List V → List V}
def tCallK0 (sp : Sp) (gV : List V → List V → List V) (E : XK) (tk : TA) : TE := fun σ H Q => tk σ H fun zs H2 => sp (gV [] zs) H2 Q E
/-- f(k = v, ..), nothing by position -/
theorem pe_callK0 (F : FnOk X.prog X.w X.K X.mg X.base CX k f fd ps sp) (hr : Room k X.A) (hg : Gl X x) (hm : X.mg x = some (.ref f)) (hk : PySem.W.keepIn X.K (.ref f) = true) (hb : KBinds X.K fd ps ks g gV) (hx : Passes CX X E)
    (hkw : PK X kws tk) (hall : (backToKw pos (keywordEach kws X.env)).all (·.1.isSome) = true := by rfl) (hks : (backToKw pos (keywordEach kws X.env)).filterMap (·.1) = ks := by rfl)
    (hdb : (x == ("__debug__" : Str)) = false := by decide)
    (hpl : ((backTo pos (starEach [] X.env)).any (·.1) || (backToKw pos (keywordEach kws X.env)).any (·.1.isNone)) = false := by rfl) :
    PE X (.Call (.Name x p) [] kws pos) (tCallK0 sp gV E tk) := by
  refine ⟨fun pins s σ H Q I h => ?_⟩
  refine wpAny_Call_Name_kw (ld_glob I hg hm ?_ hdb)
  refine PySem.W.callWith_KW0 (h₀ := X.base) I.ok.mod.kin hk hall (thn (hkw.run pos pins s σ H _ I h) fun ws s2 ⟨zs, H2, I2, rz, q2⟩ => ⟨I2.kIn, ?_⟩) hpl
  rw [hks]
  exact run_fnk (us := []) (vs := []) F hr hb hx I2 .nil rz q2
end
/-- the arguments in the parameters' order, told by their places among all arguments -/
def gPerm {α : Type} (np nk : Nat) (ix : List Nat) (us ws : List α) : List α := if us.length = np ∧ ws.length = nk then ix.filterMap (fun i => (us ++ ws)[i]?) else []
theorem gPerm_len {α : Type} {np nk n : Nat} {ix : List Nat} {us ws : List α} (h : (gPerm np nk ix us ws).length = n) (h0 : 0 < n) : us.length = np ∧ ws.length = nk := by
  unfold gPerm at h
  split at h
  · assumption
  · simp at h
    omega
theorem gPerm_rel {np nk : Nat} {ix : List Nat} {vs zs : List V} {us ws : List Value} (r : Vals vs us) (q : Vals zs ws) : Vals (gPerm np nk ix vs zs) (gPerm np nk ix us ws) := by
  unfold gPerm
  rw [r.length, q.length]
  split
  · have a := Vals.append r q
    clear r q
    generalize vs ++ zs = xs at a
    generalize us ++ ws = ys at a
    induction ix with
    | nil => exact .nil
    | cons i ix ih =>
      rw [List.filterMap_cons, List.filterMap_cons]
      cases e : xs[i]? with
      | none => rw [a.none_of e]; exact ih
      | some x =>
        obtain ⟨u, hu, ru⟩ := a.get e
        rw [hu]
        exact .cons ru ih
  · exact .nil
theorem same_seqL' {K : PySem.W.Frag} {a : Addr} {H H' : Hp} {xs : List V} (e : Same H H') (h : SqL K H a xs) : SqL K H' a xs := by
  rcases h with (h | ⟨o, h⟩) | h
  · exact .inl (.inl (e _ _ h))
  · exact .inl (.inr ⟨o, e _ _ h⟩)
  · exact .inr h
/-- for_it, the ends one by one -/
theorem for_it2 {J : It} {n : Nat} {G : Hp → Prop} {Y : Nat → Hp → V → Hp → Prop} (w : Walk J n G Y) {g : TG} {tb : TS} {B : L2.St → Hp → Prop} {R : VK} {σ : L2.St} {H : Hp} (Pv : Nat → L2.St → Hp → Prop) (h0 : Pv 0 σ H) (hG : ∀ i σ H, i ≤ n → Pv i σ H → G H)
    (hs : ∀ i x σ H H', i < n → Pv i σ H → Y i H x H' → g x σ H' fun σ2 H2 => tb { nx := Pv (i + 1), rt := R, bk := B, ct := Pv (i + 1) } σ2 H2) (hd : ∀ σ H, Pv n σ H → B σ H) :
    ∃ W : Nat → Nat → L2.St → Hp → Prop, (∃ m, W 0 m σ H) ∧ ∀ i m σ H, W i m σ H →
      (J.stop i H ∧ B σ H) ∨ (J.go i H ∧ ∃ N : L2.St → Hp → Prop, (∀ σ' H', N σ' H' → ∃ m', m' < m ∧ W (i + 1) m' σ' H') ∧ ∀ x H', J.yld i H x H' → g x σ H' fun σ2 H2 => tb { nx := N, rt := R, bk := B, ct := N } σ2 H2) :=
  for_it w (D := { nx := B, rt := R, bk := B, ct := B }) Pv h0 hG hs hd
end JP

namespace JP
open PySem PySem.Spec PyProof.Rows L2
def topS (i : Nat) : Stmt := PySem.Challenge.pw_rowcounts_k28_whole_multiples_of_forms.main.body.getD i (.Pass ⟨0, 0, 0, 0⟩)
abbrev sis_integer : Stmt := topS 1
abbrev Nis_integer : List Str := ["value"]
theorem scis_integer : FnScope Nis_integer ["value"] (defScope sis_integer) := ⟨rfl, rfl, rfl, by decide +kernel, rfl, by decide +kernel, by decide +kernel⟩
abbrev sis_multiple : Stmt := topS 4
abbrev Nis_multiple : List Str := ["one", "other", "at", "factor", "against"]
theorem scis_multiple : FnScope Nis_multiple ["one", "other"] (defScope sis_multiple) := ⟨rfl, rfl, rfl, by decide +kernel, rfl, by decide +kernel, by decide +kernel⟩
abbrev sfirst_factor : Stmt := topS 5
abbrev Nfirst_factor : List Str := ["form", "at", "factor"]
theorem scfirst_factor : FnScope Nfirst_factor ["form"] (defScope sfirst_factor) := ⟨rfl, rfl, rfl, by decide +kernel, rfl, by decide +kernel, by decide +kernel⟩
abbrev sis_form : Stmt := topS 6
abbrev Nis_form : List Str := ["value", "factor"]
theorem scis_form : FnScope Nis_form ["value"] (defScope sis_form) := ⟨rfl, rfl, rfl, by decide +kernel, rfl, by decide +kernel, by decide +kernel⟩
abbrev sis_form_of : Stmt := topS 7
abbrev Nis_form_of : List Str := ["value", "many"]
theorem scis_form_of : FnScope Nis_form_of ["value", "many"] (defScope sis_form_of) := ⟨rfl, rfl, rfl, by decide +kernel, rfl, by decide +kernel, by decide +kernel⟩
abbrev sis_nought : Stmt := topS 8
abbrev Nis_nought : List Str := ["form", "factor"]
theorem scis_nought : FnScope Nis_nought ["form"] (defScope sis_nought) := ⟨rfl, rfl, rfl, by decide +kernel, rfl, by decide +kernel, by decide +kernel⟩
abbrev s_law_pen : Stmt := topS 10
abbrev N_law_pen : List Str := ["_law_script"]
theorem sc_law_pen : FnScope N_law_pen ["_law_script"] (defScope s_law_pen) := ⟨rfl, rfl, rfl, by decide +kernel, rfl, by decide +kernel, by decide +kernel⟩
abbrev s_law_draw : Stmt := topS 11
abbrev N_law_draw : List Str := ["_law_pen_here", "_law_many", "_law_digit", "_law_at", "_law_cell", "_law_great", "_law_mixed"]
theorem sc_law_draw : FnScope N_law_draw ["_law_pen_here", "_law_many"] (defScope s_law_draw) := ⟨rfl, rfl, rfl, by decide +kernel, rfl, by decide +kernel, by decide +kernel⟩
abbrev s_law_pick : Stmt := topS 12
abbrev N_law_pick : List Str := ["_law_pen_here", "_law_some"]
theorem sc_law_pick : FnScope N_law_pick ["_law_pen_here", "_law_some"] (defScope s_law_pick) := ⟨rfl, rfl, rfl, by decide +kernel, rfl, by decide +kernel, by decide +kernel⟩
abbrev s_law_factor : Stmt := topS 13
abbrev N_law_factor : List Str := ["_law_pen_here"]
theorem sc_law_factor : FnScope N_law_factor ["_law_pen_here"] (defScope s_law_factor) := ⟨rfl, rfl, rfl, by decide +kernel, rfl, by decide +kernel, by decide +kernel⟩
abbrev s_law_form : Stmt := topS 14
abbrev N_law_form : List Str := ["_law_pen_here", "_law_many", "_law_k"]
theorem sc_law_form : FnScope N_law_form ["_law_pen_here", "_law_many"] (defScope s_law_form) := ⟨rfl, rfl, rfl, by decide +kernel, rfl, by decide +kernel, by decide +kernel⟩
abbrev s_law_due : Stmt := topS 15
abbrev N_law_due : List Str := ["_law_one", "_law_other", "_law_spots", "_law_top", "_law_bottom", "_law_at"]
theorem sc_law_due : FnScope N_law_due ["_law_one", "_law_other"] (defScope s_law_due) := ⟨rfl, rfl, rfl, by decide +kernel, rfl, by decide +kernel, by decide +kernel⟩
abbrev slaw : Stmt := topS 16
abbrev Nlaw : List Str := ["_law_script", "_law_pen_here", "_law_lap", "_law_many", "_law_base", "_law_top", "_law_bottom", "_law_one", "_law_other", "_law_at", "_law_bent", "_law_turned", "_law_thing", "_law_due_here", "_law_odd", "_law_told", "_law_factor_here"]
theorem sclaw : FnScope Nlaw ["_law_script"] (defScope slaw) := ⟨rfl, rfl, rfl, by decide +kernel, rfl, by decide +kernel, by decide +kernel⟩
structure Top (K : PySem.W.Frag) (mg : Str → Option Value) where
  a_is_integer : Addr
  d_is_integer : FuncData
  F_is_integer : Fun K "is_integer" "is_integer" sis_integer a_is_integer d_is_integer
  g_is_integer : mg "is_integer" = some (.ref a_is_integer)
  b_is_integer : Binds K d_is_integer ["value"] []
  a_is_multiple : Addr
  d_is_multiple : FuncData
  F_is_multiple : Fun K "is_multiple" "is_multiple" sis_multiple a_is_multiple d_is_multiple
  g_is_multiple : mg "is_multiple" = some (.ref a_is_multiple)
  b_is_multiple : Binds K d_is_multiple ["one", "other"] []
  a_first_factor : Addr
  d_first_factor : FuncData
  F_first_factor : Fun K "first_factor" "first_factor" sfirst_factor a_first_factor d_first_factor
  g_first_factor : mg "first_factor" = some (.ref a_first_factor)
  b_first_factor : Binds K d_first_factor ["form"] []
  a_is_form : Addr
  d_is_form : FuncData
  F_is_form : Fun K "is_form" "is_form" sis_form a_is_form d_is_form
  g_is_form : mg "is_form" = some (.ref a_is_form)
  b_is_form : Binds K d_is_form ["value"] []
  a_is_form_of : Addr
  d_is_form_of : FuncData
  F_is_form_of : Fun K "is_form_of" "is_form_of" sis_form_of a_is_form_of d_is_form_of
  g_is_form_of : mg "is_form_of" = some (.ref a_is_form_of)
  b_is_form_of : Binds K d_is_form_of ["value", "many"] []
  a_is_nought : Addr
  d_is_nought : FuncData
  F_is_nought : Fun K "is_nought" "is_nought" sis_nought a_is_nought d_is_nought
  g_is_nought : mg "is_nought" = some (.ref a_is_nought)
  b_is_nought : Binds K d_is_nought ["form"] []
  a__law_pen : Addr
  d__law_pen : FuncData
  F__law_pen : Fun K "_law_pen" "_law_pen" s_law_pen a__law_pen d__law_pen
  g__law_pen : mg "_law_pen" = some (.ref a__law_pen)
  b__law_pen : Binds K d__law_pen ["_law_script"] []
  a__law_draw : Addr
  d__law_draw : FuncData
  F__law_draw : Fun K "_law_draw" "_law_draw" s_law_draw a__law_draw d__law_draw
  g__law_draw : mg "_law_draw" = some (.ref a__law_draw)
  b__law_draw : Binds K d__law_draw ["_law_pen_here", "_law_many"] []
  a__law_pick : Addr
  d__law_pick : FuncData
  F__law_pick : Fun K "_law_pick" "_law_pick" s_law_pick a__law_pick d__law_pick
  g__law_pick : mg "_law_pick" = some (.ref a__law_pick)
  b__law_pick : Binds K d__law_pick ["_law_pen_here", "_law_some"] []
  a__law_factor : Addr
  d__law_factor : FuncData
  F__law_factor : Fun K "_law_factor" "_law_factor" s_law_factor a__law_factor d__law_factor
  g__law_factor : mg "_law_factor" = some (.ref a__law_factor)
  b__law_factor : Binds K d__law_factor ["_law_pen_here"] []
  a__law_form : Addr
  d__law_form : FuncData
  F__law_form : Fun K "_law_form" "_law_form" s_law_form a__law_form d__law_form
  g__law_form : mg "_law_form" = some (.ref a__law_form)
  b__law_form : Binds K d__law_form ["_law_pen_here", "_law_many"] []
  a__law_due : Addr
  d__law_due : FuncData
  F__law_due : Fun K "_law_due" "_law_due" s_law_due a__law_due d__law_due
  g__law_due : mg "_law_due" = some (.ref a__law_due)
  b__law_due : Binds K d__law_due ["_law_one", "_law_other"] []
  a_law : Addr
  d_law : FuncData
  F_law : Fun K "law" "law" slaw a_law d_law
  g_law : mg "law" = some (.ref a_law)
  b_law : Binds K d_law ["_law_script"] []
  kb_is_multiple_0 : KBinds K d_is_multiple ["one", "other"] ["other", "one"] (gPerm 0 2 [1, 0]) (gPerm 0 2 [1, 0])
  e_law : ∀ (s : Shared) (u : Value), BindsTo s d_law ⟨[u], []⟩ [("_law_script", u)]
  z_abs : mg "abs" = none
  z_all : mg "all" = none
  z_bool : mg "bool" = none
  z_enumerate : mg "enumerate" = none
  z_int : mg "int" = none
  z_isinstance : mg "isinstance" = none
  z_len : mg "len" = none
  z_list : mg "list" = none
  z_range : mg "range" = none
  z_repr : mg "repr" = none
  z_tuple : mg "tuple" = none
  z_zip : mg "zip" = none
  t_MOST_FACTORS : Tok
  c_MOST_FACTORS : mg "MOST_FACTORS" = some (.int 8 t_MOST_FACTORS)

section
variable {P : Program} {w : World} {K : PySem.W.Frag} {mg : Str → Option Value} {base : Heap}
def spDraw : Sp := fun vs H Q _ => ∃ (p c : Addr) (many : Int) (m : Nat), vs = [.ref p, .int many] ∧ Pen H p c m ∧ 1 ≤ many ∧ many < 2 ^ 60 ∧ m ≤ 2 ^ 20 ∧
  ∀ (r : Int) (H' : Hp), 0 ≤ r → r < many → Pen H' p c (m + 1) → But p H H' → Q (.int r) H'
theorem ok_draw (T : Top K mg) : FnOk P w K mg base CX0 (0 + 1) T.a__law_draw T.d__law_draw ["_law_pen_here", "_law_many"] spDraw := by
  refine T.F__law_draw.ok sc_law_draw (fun vs H Q E h => ?_) (fun cdv A outer s H vs Q E hr h => ?_)
  · obtain ⟨p, c, many, m, rfl, _⟩ := h
    rfl
  · obtain ⟨p, c, many, m, rfl, ⟨ns, n, g, hp, hc, ncp, hl, n0, nm, g0⟩, h1, h2, hm, q⟩ := h
    refine ⟨_, (pss_cons (ps_if (pt_cmpR op_gt (pe_ix (ixL (K := K) rfl) (pv 0) pe_int (fun _ _ => rfl)) pe_int (nomark _))
    (pss_cons (ps_set (i := 2) sc_law_draw.nd rfl (.inl rfl) (pe_op op_modN (pe_callTy call_int1 (by rfl) T.z_int (by decide +kernel) (pa_cons (pe_ix (ixL (K := K) rfl) (pv 0) pe_int (fun _ _ => rfl)) pa_nil)) (pv 1)))
  (pss_cons (ps_asg (pe_op op_fdivW (pe_callTy call_int1 (by rfl) T.z_int (by decide +kernel) (pa_cons (pe_ix (ixL (K := K) rfl) (pv 0) pe_int (fun _ _ => rfl)) pa_nil)) (pv 1)) (pg_sub (pv 0) pe_int set_list))
  (pss_one (ps_ret (pv 2)))))
    pss_nil)
  (pss_cons (ps_set (i := 3) sc_law_draw.nd rfl (.inl rfl) (pe_ix (ixL (K := K) rfl) (pv 0) pe_int (fun _ _ => rfl)))
  (pss_cons (ps_asg (pe_op op_add (pv 3) pe_int) (pg_sub (pv 0) pe_int set_list))
  (pss_cons (ps_set (i := 4) sc_law_draw.nd rfl (.inl rfl) (pe_op op_add (pe_op op_mul pe_int (pv 3)) pe_int))
  (pss_cons (ps_if (pt_cmpR (op_neD (Room.units hr)) (pe_ix (ixL (K := K) rfl) (pv 0) pe_int (fun _ _ => rfl)) (pe_lst pa_nil) (nomark _))
    (pss_one (ps_set (i := 4) sc_law_draw.nd rfl (.inl rfl) (pe_ix (ixL (K := K) rfl) (pe_ix (ixL (K := K) rfl) (pv 0) pe_int (fun _ _ => rfl)) (pe_op op_modN (pe_callTy call_int1 (by rfl) T.z_int (by decide +kernel) (pa_cons (pv 3) pa_nil)) (pe_callB call_len_seq (by rfl) T.z_len (by decide +kernel) (pa_cons (pe_ix (ixL (K := K) rfl) (pv 0) pe_int (fun _ _ => rfl)) pa_nil))) (fun _ _ => rfl))))
    pss_nil)
  (pss_cons (ps_if (PW.pt (pw_and (pt_cmpR op_lt (pv 3) (pe_callB call_len_seq (by rfl) T.z_len (by decide +kernel) (pa_cons (pe_ix (ixL (K := K) rfl) (pv 0) pe_int (fun _ _ => rfl)) pa_nil)) (nomark _)) (pw_and1 (pt_cmpR op_ge (pe_callB call_abs (by rfl) T.z_abs (by decide +kernel) (pa_cons (pv 4) pa_nil)) (pe_op op_pow pe_int pe_int) (nomark _)))))
    (pss_cons (ps_set (i := 5) sc_law_draw.nd rfl (.inl rfl) (pe_op op_add (pe_op op_mul pe_int (pe_op op_sub (pe_callB call_abs (by rfl) T.z_abs (by decide +kernel) (pa_cons (pv 4) pa_nil)) (pe_op op_pow pe_int pe_int))) (pe_callTy call_int1 (by rfl) T.z_int (by decide +kernel) (pa_cons (pe_cmpR op_lt (pv 4) pe_int (nomark _)) pa_nil))))
  (pss_cons (ps_asg (pe_op op_fdivW (pe_callTy call_int1 (by rfl) T.z_int (by decide +kernel) (pa_cons (pv 5) pa_nil)) (pv 1)) (pg_sub (pv 0) pe_int set_list))
  (pss_one (ps_ret (pe_op op_modN (pe_callTy call_int1 (by rfl) T.z_int (by decide +kernel) (pa_cons (pv 5) pa_nil)) (pv 1))))))
    pss_nil)
  (pss_cons (ps_set (i := 6) sc_law_draw.nd rfl (.inl rfl) (pe_op op_modN (pe_callTy call_int1 (by rfl) T.z_int (by decide +kernel) (pa_cons (pe_op op_pow (pe_op op_add (pe_op op_add (pe_op op_modN (pe_callTy call_int1 (by rfl) T.z_int (by decide +kernel) (pa_cons (pv 4) pa_nil)) pe_int) (pe_op op_mul pe_int (pv 3))) pe_int) pe_int) pa_nil)) pe_int))
  (pss_cons (ps_set (i := 6) sc_law_draw.nd rfl (.inl rfl) (pe_op op_modN (pe_callTy call_int1 (by rfl) T.z_int (by decide +kernel) (pa_cons (pe_op op_pow (pe_op op_add (pe_op op_add (pe_op op_mul (pv 6) (pe_op op_add (pe_op op_mul pe_int (pv 3)) pe_int)) (pe_op op_mul (pe_op op_mul pe_int (pv 3)) (pv 3))) pe_int) pe_int) pa_nil)) pe_int))
  (pss_one (ps_ret (pe_op op_modN (pe_callTy call_int1 (by rfl) T.z_int (by decide +kernel) (pa_cons (pe_op op_fdivW (pv 6) pe_int) pa_nil)) (pv 1)))))))))))), ?_⟩
    -- if pen[2] > 0
    refine ⟨.ref p, rfl, p, _, 2, .int g, rfl, rfl, .of hp, atI_nat (j := 2) rfl, _, _, rfl, rfl, _, rfl, ite2 (fun e => ?_) (fun e => ?_)⟩
    · have hg : (0 : Int) < g := of_decide_eq_true e
      -- digit = int(pen[2]) % many
      refine ⟨.ref p, rfl, p, _, 2, .int g, rfl, rfl, .of hp, atI_nat (j := 2) rfl, .inl ⟨g, rfl, .int many, rfl, g, many, rfl, rfl, by omega, ?_⟩⟩
      -- pen[2] = int(pen[2]) // many
      refine ⟨.ref p, rfl, p, _, 2, .int g, rfl, rfl, .of hp, atI_nat (j := 2) rfl, .inl ⟨g, rfl, .int many, rfl, g, many, rfl, rfl, wide_div (b := 60) (by omega) (by omega) (by omega) (by omega), .ref p, rfl, p, _, 2, 2, rfl, rfl, hp, rfl, ?_⟩⟩
      refine ⟨_, rfl, q _ _ (fmod_lo _ h1) (fmod_lt _ h1) (pen_set hp hc ncp hl n0 (by omega) (Int.ediv_nonneg g0 (by omega))) (but_upd _ _)⟩
    · -- at = pen[1]; pen[1] = at + 1
      refine ⟨.ref p, rfl, p, _, 1, .int n, rfl, rfl, .of hp, atI_nat (j := 1) rfl, ?_⟩
      refine ⟨.int n, rfl, n, 1, rfl, rfl, .ref p, rfl, p, _, 1, 1, rfl, rfl, hp, rfl, ?_⟩
      generalize hH1 : upd H p (.lst ([V.ref c, .int n, .int g].set 1 (.int (n + 1)))) = H1
      have hp1 : H1 p = some (.lst [.ref c, .int (n + 1), .int g]) := by
        rw [← hH1, upd_same]
        rfl
      have hc1 : H1 c = some (.lst (ns.map V.int)) := by
        rw [← hH1, upd_ne ncp]
        exact hc
      have hb1 : But p H H1 := by
        rw [← hH1]
        exact but_upd _ _
      -- cell = C * at + D
      refine ⟨.int n, rfl, _, n, rfl, rfl, .inl (by decide), _, _, rfl, rfl, ?_⟩
      -- if pen[0] != []
      refine ⟨.ref p, rfl, p, _, 0, .ref c, rfl, rfl, .of hp1, atI_nat (j := 0) rfl, Nat.zero_le _, fun o no => ?_⟩
      have hpo : p ≠ o := ne_of_none hp1 no
      have hco : c ≠ o := ne_of_none hc1 no
      refine ⟨.list (ns.map .int), .list [], .lst (.of ((upd_ne hco).trans hc1)) (dp_ints ns), .lst (.of upd_same) .nil, PySem.W.ke_shaped_ints ns, PySem.W.ke_shaped_ints [], _, rfl, ?_⟩
      generalize hH2 : upd H1 o (.lst []) = H2
      have hp2 : H2 p = some (.lst [.ref c, .int (n + 1), .int g]) := by
        rw [← hH2, upd_ne hpo]
        exact hp1
      have hc2 : H2 c = some (.lst (ns.map V.int)) := by
        rw [← hH2, upd_ne hco]
        exact hc1
      have hb2 : But p H H2 := by
        rw [← hH2]
        exact hb1.trans (but_new no)
      -- cell = pen[0][int(at) % len(pen[0])]
      refine ite2 (fun e2 => ?thn) (fun e2 => ?els)
      case' els =>
        dsimp only
        generalize ((_ : Int) * n + _ : Int) = cell
      case' thn =>
        have hn : ns ≠ [] := fun z => by
          subst z
          cases e2
        have hln : 0 < ns.length := List.length_pos_iff.mpr hn
        have hz : ((ns.map V.int).length : Int) = ns.length := by rw [List.length_map]
        have hj0 : 0 ≤ n.fmod (ns.map V.int).length := fmod_lo _ (by omega)
        have hj1 : n.fmod (ns.map V.int).length < ns.length := hz ▸ fmod_lt _ (by omega)
        have hat : atI (ns.map V.int) (n.fmod (ns.map V.int).length) = some (.int (ns.getD (n.fmod (ns.map V.int).length).toNat 0)) := by
          have := atI_nat (xs := ns.map V.int) (j := (n.fmod (ns.map V.int).length).toNat) (v := .int (ns.getD (n.fmod (ns.map V.int).length).toNat 0)) (by
            rw [List.getElem?_map, List.getD_eq_getElem?_getD, List.getElem?_eq_getElem (by omega)]
            rfl)
          rw [Int.toNat_of_nonneg hj0] at this
          exact this
        refine ⟨.ref p, rfl, p, _, 0, .ref c, rfl, rfl, .of hp2, atI_nat (j := 0) rfl, .int n, rfl, .inl ⟨n, rfl, .ref p, rfl, p, _, 0, .ref c, rfl, rfl, .of hp2, atI_nat (j := 0) rfl, c, _, rfl, .inl (.of hc2), n, _, rfl, rfl, by omega, c, _, _, _, rfl, rfl, .of hc2, hat, ?_⟩⟩
        clear hat hj1 hj0
        generalize ns.getD (n.fmod (ns.map V.int).length).toNat 0 = cell
      all_goals
        -- if at < len(pen[0]) and abs(cell) >= 10 ** 18
        refine ⟨.int n, rfl, .ref p, rfl, p, _, 0, .ref c, rfl, rfl, .of hp2, atI_nat (j := 0) rfl, c, _, rfl, .inl (.of hc2), n, _, rfl, rfl, _, rfl, ite2 (fun e3 => ?_) (fun e3 => ?_)⟩
        · refine ⟨.int cell, rfl, cell, rfl, 10, 18, rfl, rfl, ⟨by decide, by decide, by decide⟩, _, _, rfl, rfl, _, rfl, ite2 (fun e4 => ?_) (fun e4 => ?_)⟩
          · -- great = 2 * (abs(cell) - 10 ** 18) + int(cell < 0)
            have hbig : (10 : Int) ^ 18 ≤ if cell < 0 then -cell else cell := of_decide_eq_true e4
            refine ⟨.int cell, rfl, cell, rfl, 10, 18, rfl, rfl, ⟨by decide, by decide, by decide⟩, _, _, rfl, rfl, 2, _, rfl, rfl, .inl (by decide), .int cell, rfl, _, _, rfl, rfl, .inr ⟨_, rfl, _, _, rfl, rfl, ?_⟩⟩
            have hgr : ∀ k : Bool, 0 ≤ 2 * ((if cell < 0 then -cell else cell) - (10 : Int) ^ (18 : Int).toNat) + (if k = true then 1 else 0) := fun k => by
              have : (10 : Int) ^ (18 : Int).toNat = (10 : Int) ^ 18 := rfl
              rw [this]
              cases k <;> simp <;> omega
            refine ⟨_, rfl, .inl ⟨_, rfl, .int many, rfl, _, many, rfl, rfl, wide_div (b := 60) (by omega) (by omega) (by omega) (by omega), .ref p, rfl, p, _, 2, 2, rfl, rfl, hp2, rfl, ?_⟩⟩
            refine ⟨_, rfl, .inl ⟨_, rfl, .int many, rfl, _, many, rfl, rfl, by omega, ?_⟩⟩
            exact q _ _ (fmod_lo _ h1) (fmod_lt _ h1) (pen_set hp2 hc2 ncp hl (by omega) (by omega) (Int.ediv_nonneg (hgr _) (by omega))) (hb2.trans (but_upd _ _))
          · skip
            refine ⟨.int cell, rfl, .inl ⟨cell, rfl, cell, _, rfl, rfl, (by show (_ : Int) ≠ 0; decide), .int n, rfl, _, n, rfl, rfl, .inl (by decide), _, _, rfl, rfl, _, _, rfl, rfl, _, _, rfl, rfl, ⟨by decide, by decide, mix_bound (by decide) (by decide) (by decide) (by decide) (by decide) (by decide) n0 nm hm⟩, (.inl ⟨_, rfl, _, _, rfl, rfl, (by show (_ : Int) ≠ 0; decide), ?_⟩)⟩⟩
            refine ⟨_, rfl, .int n, rfl, 2, n, rfl, rfl, .inl (by decide), _, _, rfl, rfl, _, _, rfl, rfl, .inl (fmod_64 (by decide) (by decide)), .int n, rfl, _, n, rfl, rfl, .inl (by decide), .int n, rfl, _, n, rfl, rfl, .inr ⟨by omega, by omega⟩, _, _, rfl, rfl, _, _, rfl, rfl, _, _, rfl, rfl, ⟨by decide, by decide, mix_bound2 (by decide) (by decide) (by decide) (by decide) (by decide) (by decide) (fmod_lo _ (by decide)) (fmod_32 (by decide) (by decide)) n0 nm hm⟩, (.inl ⟨_, rfl, _, _, rfl, rfl, (by show (_ : Int) ≠ 0; decide), ?_⟩)⟩
            refine ⟨_, rfl, _, 32, rfl, rfl, ⟨by decide, by decide⟩, .inl ⟨_, rfl, .int many, rfl, _, many, rfl, rfl, by omega, ?_⟩⟩
            exact q _ _ (fmod_lo _ h1) (fmod_lt _ h1) ⟨ns, n + 1, g, hp2, hc2, ncp, hl, by omega, by omega, g0⟩ hb2
        · skip
          refine ⟨.int cell, rfl, .inl ⟨cell, rfl, cell, _, rfl, rfl, (by show (_ : Int) ≠ 0; decide), .int n, rfl, _, n, rfl, rfl, .inl (by decide), _, _, rfl, rfl, _, _, rfl, rfl, _, _, rfl, rfl, ⟨by decide, by decide, mix_bound (by decide) (by decide) (by decide) (by decide) (by decide) (by decide) n0 nm hm⟩, (.inl ⟨_, rfl, _, _, rfl, rfl, (by show (_ : Int) ≠ 0; decide), ?_⟩)⟩⟩
          refine ⟨_, rfl, .int n, rfl, 2, n, rfl, rfl, .inl (by decide), _, _, rfl, rfl, _, _, rfl, rfl, .inl (fmod_64 (by decide) (by decide)), .int n, rfl, _, n, rfl, rfl, .inl (by decide), .int n, rfl, _, n, rfl, rfl, .inr ⟨by omega, by omega⟩, _, _, rfl, rfl, _, _, rfl, rfl, _, _, rfl, rfl, ⟨by decide, by decide, mix_bound2 (by decide) (by decide) (by decide) (by decide) (by decide) (by decide) (fmod_lo _ (by decide)) (fmod_32 (by decide) (by decide)) n0 nm hm⟩, (.inl ⟨_, rfl, _, _, rfl, rfl, (by show (_ : Int) ≠ 0; decide), ?_⟩)⟩
          refine ⟨_, rfl, _, 32, rfl, rfl, ⟨by decide, by decide⟩, .inl ⟨_, rfl, .int many, rfl, _, many, rfl, rfl, by omega, ?_⟩⟩
          exact q _ _ (fmod_lo _ h1) (fmod_lt _ h1) ⟨ns, n + 1, g, hp2, hc2, ncp, hl, by omega, by omega, g0⟩ hb2
def spPen (K : PySem.W.Frag) : Sp := fun vs H Q _ => ∃ (a : Addr) (ns : List Int), vs = [.ref a] ∧ SqL K H a (ns.map V.int) ∧ ns.length ≤ 63 ∧
  ∀ (p c : Addr) (H' : Hp), Same H H' → H p = none → Pen H' p c 0 → Q (.ref p) H'
theorem ok_pen (T : Top K mg) : FnOk P w K mg base CX0 (0 + 1) T.a__law_pen T.d__law_pen ["_law_script"] (spPen K) := by
  refine T.F__law_pen.ok sc_law_pen (fun vs H Q E h => ?_) (fun cdv A outer s H vs Q E hr h => ?_)
  · obtain ⟨a, ns, rfl, _⟩ := h
    rfl
  · obtain ⟨a, ns, rfl, hS, hl, q⟩ := h
    refine ⟨_, (pss_one (ps_ret (pe_lst (pa_cons (pe_callTy call_list_of (by rfl) T.z_list (by decide +kernel) (pa_cons (pe_slice sl_list (pv 0) po_none (po_some pe_int)) pa_nil)) (pa_cons pe_int (pa_cons pe_int pa_nil)))))), ?_⟩
    refine ⟨.ref a, rfl, 63, rfl, a, _, rfl, hS, fun c nc => ?_⟩
    refine ⟨c, _, rfl, .inl (.of upd_same), fun l nl => ?_⟩
    refine ⟨(by show 3 ≤ sizeLine; decide), fun p np => ?_⟩
    have e : cutV (ns.map V.int) none (some 63) = ns.map V.int := cut_all _ (by
      rw [List.length_map]
      exact hl)
    refine q p l _ (((same_new nc).trans (same_new nl)).trans (same_new np)) (((same_new nc).trans (same_new nl)).free np) ⟨ns, 0, 0, upd_same, ?_, ne_of_none upd_same np, hl, by omega, by omega, by omega⟩
    rw [upd_ne (ne_of_none upd_same np), upd_same, e]
def spPick (K : PySem.W.Frag) : Sp := fun vs H Q _ => ∃ (p c l : Addr) (m : Nat) (xs : List V), vs = [.ref p, .ref l] ∧ Pen H p c m ∧ l ≠ p ∧ SqL K H l xs ∧ xs ≠ [] ∧ xs.length < 2 ^ 20 ∧ m ≤ 2 ^ 20 ∧
  ∀ (x : V) (H' : Hp), x ∈ xs → Pen H' p c (m + 1) → But p H H' → Q x H'
theorem ok_pick (T : Top K mg) : FnOk P w K mg base CX0 (1 + 1) T.a__law_pick T.d__law_pick ["_law_pen_here", "_law_some"] (spPick K) := by
  have G__law_draw := ok_draw (P := P) (w := w) (base := base) T
  refine T.F__law_pick.ok sc_law_pick (fun vs H Q E h => ?_) (fun cdv A outer s H vs Q E hr h => ?_)
  · obtain ⟨p, c, l, m, xs, rfl, _⟩ := h
    rfl
  · obtain ⟨p, c, l, m, xs, rfl, hP, nl, hS, ne, sz, hm, q⟩ := h
    have pos := List.length_pos_iff.mpr ne
    refine ⟨_, (pss_one (ps_ret (pe_ix (ixL (K := K) rfl) (pv 1) (pe_call G__law_draw hr (by rfl) T.g__law_draw T.F__law_draw.kp T.b__law_draw .nil pass0 (pa_cons (pv 0) (pa_cons (pe_callB call_len_seq (by rfl) T.z_len (by decide +kernel) (pa_cons (pv 1) pa_nil)) pa_nil))) (fun _ _ => rfl)))), ?_⟩
    refine ⟨.ref l, rfl, .ref p, rfl, .ref l, rfl, l, _, rfl, .inl hS, p, c, _, m, rfl, hP, by omega, by omega, hm, fun r H1 r0 r1 hP1 hB => ?_⟩
    obtain ⟨v, hv, mem⟩ := atI_of r0 r1
    exact ⟨l, _, r, v, rfl, rfl, hB.seqL nl hS, hv, q v H1 mem hP1 hB⟩
end


section
variable {P : Program} {w : World} {K : PySem.W.Frag} {mg : Str → Option Value} {base : Heap}
def spInteger : Sp := fun vs H Q _ => ∃ (x : V) (k : Ki), vs = [x] ∧ IsKi H x k ∧ Q (.bl (decide (k = .int))) H
theorem ok_is_integer (T : Top K mg) : FnOk P w K mg base CX0 (0 + 1) T.a_is_integer T.d_is_integer ["value"] spInteger := by
  refine T.F_is_integer.ok scis_integer (fun vs H Q E h => ?_) (fun cdv A outer s H vs Q E hr h => ?_)
  · obtain ⟨x, k, rfl, _⟩ := h
    rfl
  · obtain ⟨x, k, rfl, hk, q⟩ := h
    refine ⟨_, (pss_one (ps_ret (pe_and (pe_callB call_isi (by rfl) T.z_isinstance (by decide +kernel) (pa_cons (pv 0) (pa_cons (pe_bltn (by rfl) T.z_int (by decide +kernel) (show RelV (.ty "int") _ from rfl)) pa_nil))) (pe_one (pe_not (pe_callB call_isi (by rfl) T.z_isinstance (by decide +kernel) (pa_cons (pv 0) (pa_cons (pe_bltn (by rfl) T.z_bool (by decide +kernel) (show RelV (.ty "bool") _ from rfl)) pa_nil)))))))), ?_⟩
    refine ⟨x, rfl, _, _, _, _, _, rfl, .ty _, hk.ty, ki_kit _ .int, _, rfl, ?_⟩
    cases k
    case int => exact ⟨x, rfl, _, _, _, _, _, rfl, .ty _, hk.ty, ki_kit _ .bl, _, rfl, q⟩
    case bl => exact ⟨x, rfl, _, _, _, _, _, rfl, .ty _, hk.ty, ki_kit _ .bl, _, rfl, q⟩
    all_goals exact q
/-- a form is asked of any value: of no tuple (no), or of a tuple of values that stand for themselves -/
def FormArg (H : Hp) (x : V) (b : Bool) : Prop := (∃ k, k ≠ Ki.tup ∧ IsKi H x k ∧ b = false) ∨ ∃ a xs, x = .ref a ∧ H a = some (.tup xs) ∧ (∀ v ∈ xs, (kiOf v).isSome = true) ∧ b = (decide (xs.length ≤ 8) && xs.all isI)
def spForm : Sp := fun vs H Q _ => ∃ (x : V) (b : Bool), vs = [x] ∧ FormArg H x b ∧ ∀ H', Same H H' → Q (.bl b) H'
theorem ok_is_form (T : Top K mg) : FnOk P w K mg base CX0 (1 + 1) T.a_is_form T.d_is_form ["value"] spForm := by
  have G_is_integer := ok_is_integer (P := P) (w := w) (base := base) T
  refine T.F_is_form.ok scis_form (fun vs H Q E h => ?_) (fun cdv A outer s H vs Q E hr h => ?_)
  · obtain ⟨x, b, rfl, _⟩ := h
    rfl
  · obtain ⟨x, b, rfl, hF, q⟩ := h
    refine ⟨_, (pss_cons (ps_if (PW.pt (pw_or (pt_not (pt_val (pe_callB call_isi (by rfl) T.z_isinstance (by decide +kernel) (pa_cons (pv 0) (pa_cons (pe_bltn (by rfl) T.z_tuple (by decide +kernel) (show RelV (.ty "tuple") _ from rfl)) pa_nil))))) (pw_or1 (pt_cmpR op_gt (pe_callB call_len_seq (by rfl) T.z_len (by decide +kernel) (pa_cons (pv 0) pa_nil)) (pe_glob rfl T.c_MOST_FACTORS (show RelV (.int 8) _ from ⟨_, rfl⟩)) (nomark _)))))
    (pss_one (ps_ret pe_bl))
    pss_nil)
  (pss_one (ps_ret (pe_callB (cr_all rfl) (by rfl) T.z_all (by decide +kernel) (pa_cons (pe_lc (own := [("factor", 1)]) (g := gName 1) rfl scis_form.nd (pi_tup (pv 0)) (blkOk_by (own := [("factor", 1)]) (N := Nis_form) (sc := defScope sis_form) (by decide +kernel)) (fun _ _ _ _ _ => (pg_name (i := 1) scis_form.nd rfl (.inl rfl))) (fun _ _ _ _ _ => pts_nil) (fun _ _ _ _ _ => (pe_call G_is_integer hr (by rfl) T.g_is_integer T.F_is_integer.kp T.b_is_integer .nil pass0 (pa_cons (pv 1) pa_nil)))) pa_nil))))), ?_⟩
    rcases hF with ⟨k, nk, hk, rfl⟩ | ⟨a, xs, rfl, ha, hxs, rfl⟩
    · refine ⟨x, rfl, _, _, _, _, _, rfl, .ty _, hk.ty, ki_kit _ .tup, _, rfl, ?_⟩
      have : k.below .tup = false := by cases k <;> first | rfl | exact absurd rfl nk
      rw [this]
      exact q H (.refl H)
    · have hk : IsKi H (.ref a) .tup := ⟨a, xs, rfl, ha⟩
      refine ⟨.ref a, rfl, _, _, _, _, _, rfl, .ty _, hk.ty, ki_kit _ .tup, _, rfl, ?_⟩
      have small : xs.length ≤ sizeLine ∨ True := .inr trivial
      refine ⟨.ref a, rfl, a, xs, rfl, .inr (.of ha), _, _, rfl, rfl, _, rfl, ite2 (fun e => ?_) (fun e => ?_)⟩
      · have h8 : ¬ xs.length ≤ 8 := by
          have := of_decide_eq_true e
          omega
        have : (decide (xs.length ≤ 8) && xs.all isI) = false := by simp [h8]
        rw [this] at q
        exact q H (.refl H)
      · have h8 : xs.length ≤ 8 := by
          have : ¬ (8 : Int) < xs.length := fun z => e (decide_eq_true z)
          omega
        have e8 : (decide (xs.length ≤ 8) && xs.all isI) = xs.all isI := by simp [h8]
        rw [e8] at q
        refine ⟨.ref a, rfl, a, rfl, ⟨_, .of ha⟩, fun D nD => ?_⟩
        have naD : a ≠ D := ne_of_none ha nD
        refine lc_it (walk_tup (K := K) (a := a) (xs := xs)) (AccP D (MapP (Same H) xs fun v => .bl (isI v))) (.zero ⟨same_new nD, rfl⟩) (fun i H' _ ⟨_, _, _, z⟩ => same_seqT z.1 (.of ha)) (fun i x H' H'' hi ⟨acc, e1, l1, z, eacc⟩ y => ?_) (fun H' ⟨acc, e1, _, z, eacc⟩ => ?_)
        · obtain ⟨rfl, hx⟩ := y
          have mem := List.mem_of_getElem? hx
          obtain ⟨k, hk⟩ := Option.isSome_iff_exists.mp (hxs x mem)
          refine ⟨rfl, ?_⟩
          refine ⟨x, rfl, x, k, rfl, kiOf_is hk, ?_⟩
          rw [← isI_ki hk]
          exact AccP.put (small_size (by omega)) e1 l1 (mapP_next hx eacc (same_updN z nD))
        · refine ⟨D, xs.map isI, rfl, .of ?_, ?_⟩
          · rw [e1, eacc, List.take_length, List.map_map]
            rfl
          · rw [List.all_map]
            exact q H' z
def spFormOf : Sp := fun vs H Q _ => ∃ (x : V) (b : Bool) (n : Int), vs = [x, .int n] ∧ FormArg H x b ∧ (b = true → ∃ a xs, x = .ref a ∧ H a = some (.tup xs) ∧ ∀ H', Same H H' → Q (.bl (decide ((xs.length : Int) = n))) H') ∧ (b = false → ∀ H', Same H H' → Q (.bl false) H')
theorem ok_is_form_of (T : Top K mg) : FnOk P w K mg base CX0 (2 + 1) T.a_is_form_of T.d_is_form_of ["value", "many"] spFormOf := by
  have G_is_form := ok_is_form (P := P) (w := w) (base := base) T
  refine T.F_is_form_of.ok scis_form_of (fun vs H Q E h => ?_) (fun cdv A outer s H vs Q E hr h => ?_)
  · obtain ⟨x, b, n, rfl, _⟩ := h
    rfl
  · obtain ⟨x, b, n, rfl, hF, q1, q0⟩ := h
    refine ⟨_, (pss_one (ps_ret (pe_and (pe_call G_is_form hr (by rfl) T.g_is_form T.F_is_form.kp T.b_is_form .nil pass0 (pa_cons (pv 0) pa_nil)) (pe_one (pe_cmpR op_eq (pe_callB call_len_seq (by rfl) T.z_len (by decide +kernel) (pa_cons (pv 0) pa_nil)) (pv 1) (nomark _)))))), ?_⟩
    refine ⟨x, rfl, x, b, rfl, hF, fun H1 s1 => ⟨b, rfl, ?_⟩⟩
    cases b with
    | false => exact q0 rfl H1 s1
    | true =>
      obtain ⟨a, xs, rfl, ha, q⟩ := q1 rfl
      exact ⟨.ref a, rfl, a, xs, rfl, .inr (.of (s1 _ _ ha)), .int n, rfl, rfl, by rw [dec_int]; exact q H1 s1⟩
/-- a tuple of ints -/
def TupI (H : Hp) (x : V) (ns : List Int) : Prop := ∃ a, x = .ref a ∧ H a = some (.tup (ns.map V.int))
def spNought : Sp := fun vs H Q _ => ∃ (x : V) (ns : List Int), vs = [x] ∧ TupI H x ns ∧ ns.length ≤ 1000 ∧ ∀ H', Same H H' → Q (.bl (ns.all fun n => decide (n = 0))) H'
theorem ok_is_nought (T : Top K mg) : FnOk P w K mg base CX0 (0 + 1) T.a_is_nought T.d_is_nought ["form"] spNought := by
  refine T.F_is_nought.ok scis_nought (fun vs H Q E h => ?_) (fun cdv A outer s H vs Q E hr h => ?_)
  · obtain ⟨x, ns, rfl, _⟩ := h
    rfl
  · obtain ⟨x, ns, rfl, ⟨a, rfl, ha⟩, hn, q⟩ := h
    refine ⟨_, (pss_one (ps_ret (pe_callB (cr_all rfl) (by rfl) T.z_all (by decide +kernel) (pa_cons (pe_lc (own := [("factor", 1)]) (g := gName 1) rfl scis_nought.nd (pi_tup (pv 0)) (blkOk_by (own := [("factor", 1)]) (N := Nis_nought) (sc := defScope sis_nought) (by decide +kernel)) (fun _ _ _ _ _ => (pg_name (i := 1) scis_nought.nd rfl (.inl rfl))) (fun _ _ _ _ _ => pts_nil) (fun _ _ _ _ _ => (pe_cmpR op_eq (pv 1) pe_int (nomark _)))) pa_nil)))), ?_⟩
    refine ⟨.ref a, rfl, a, rfl, ⟨_, .of ha⟩, fun D nD => ?_⟩
    refine lc_it (walk_tup (K := K) (a := a) (xs := ns.map V.int)) (AccP D (MapP (Same H) ns fun n => .bl (decide (n = 0)))) (.zero ⟨same_new nD, rfl⟩) (fun i H' _ ⟨_, _, _, z⟩ => same_seqT z.1 (.of ha)) (fun i x H' H'' hi ⟨acc, e1, l1, z, eacc⟩ y => ?_) (fun H' ⟨acc, e1, _, z, eacc⟩ => ?_)
    · obtain ⟨rfl, hx⟩ := y
      rw [List.length_map] at hi
      rw [List.getElem?_map] at hx
      obtain ⟨n, hx', rfl⟩ := Option.map_eq_some_iff.mp hx
      refine ⟨rfl, ?_⟩
      refine ⟨.int n, rfl, rfl, ?_⟩
      rw [dec_int]
      exact AccP.put (small_size (by omega)) e1 l1 (mapP_next hx' eacc (same_updN z nD))
    · refine ⟨D, ns.map fun n => decide (n = 0), rfl, .of ?_, ?_⟩
      · rw [e1, eacc, List.length_map, List.take_length, List.map_map]
        rfl
      · rw [List.all_map]
        exact q H' z
end

/-- the place of the first one that is not 0 -/
def firstNz : List Int → Option Nat
  | [] => none
  | n :: ns => if n = 0 then (firstNz ns).map (· + 1) else some 0
theorem firstNz_none : ∀ {ns : List Int}, firstNz ns = none ↔ ∀ n ∈ ns, n = 0
  | [] => by simp [firstNz]
  | n :: ns => by
    unfold firstNz
    by_cases h : n = 0
    · rw [if_pos h, Option.map_eq_none_iff, firstNz_none]
      simp [h]
    · rw [if_neg h]
      simp [h]
theorem firstNz_some : ∀ {ns : List Int} {k : Nat}, firstNz ns = some k ↔ (∃ n, ns[k]? = some n ∧ n ≠ 0) ∧ ∀ j, j < k → ns[j]? = some 0
  | [], k => by simp [firstNz]
  | n :: ns, k => by
    unfold firstNz
    by_cases h : n = 0
    · rw [if_pos h]
      cases k with
      | zero => simp [h]
      | succ k =>
        rw [Option.map_eq_some_iff]
        constructor
        · rintro ⟨j, hj, e⟩
          have : j = k := by omega
          subst this
          obtain ⟨⟨m, hm, hne⟩, hz⟩ := firstNz_some.mp hj
          refine ⟨⟨m, by simpa using hm, hne⟩, fun i hi => ?_⟩
          cases i with
          | zero => simp [h]
          | succ i => simpa using hz i (by omega)
        · rintro ⟨⟨m, hm, hne⟩, hz⟩
          refine ⟨k, firstNz_some.mpr ⟨⟨m, by simpa using hm, hne⟩, fun i hi => ?_⟩, rfl⟩
          simpa using hz (i + 1) (by omega)
    · rw [if_neg h]
      cases k with
      | zero => simp [h]
      | succ k =>
        constructor
        · intro e
          cases e
        · rintro ⟨_, hz⟩
          have := hz 0 (by omega)
          simp at this
          exact absurd this h
def ofPlace : Option Nat → V
  | none => .non
  | some k => .int (k : Int)
section
variable {P : Program} {w : World} {K : PySem.W.Frag} {mg : Str → Option Value} {base : Heap}
def spFirst : Sp := fun vs H Q _ => ∃ (x : V) (ns : List Int), vs = [x] ∧ TupI H x ns ∧ ns.length ≤ 1000 ∧ ∀ H', Same H H' → Q (ofPlace (firstNz ns)) H'
theorem ok_first_factor (T : Top K mg) : FnOk P w K mg base CX0 (0 + 1) T.a_first_factor T.d_first_factor ["form"] spFirst := by
  refine T.F_first_factor.ok scfirst_factor (fun vs H Q E h => ?_) (fun cdv A outer s H vs Q E hr h => ?_)
  · obtain ⟨x, ns, rfl, _⟩ := h
    rfl
  · obtain ⟨x, ns, rfl, ⟨a, rfl, ha⟩, hn, q⟩ := h
    refine ⟨_, (pss_cons (ps_for PassesOwn.never rfl (pi_enumT (by rfl) T.z_enumerate (pa_cons (pv 0) pa_nil)) (pg_tup (by rfl) (pgs_cons (pg_name (i := 1) scfirst_factor.nd rfl (.inl rfl)) (pgs_cons (pg_name (i := 2) scfirst_factor.nd rfl (.inl rfl)) pgs_nil)))
    (pss_one (ps_if (pt_cmpR op_ne (pv 2) pe_int (nomark _))
    (pss_one (ps_ret (pv 1)))
    pss_nil)))
  (pss_one (ps_ret pe_non))), ?_⟩
    refine ⟨.ref a, rfl, a, ns.map V.int, rfl, .of ha, ?_⟩
    refine for_it (walk_enumT (K := K) (a := a) (xs := ns.map V.int)) (fun i σ H' => (∃ u v, σ = [some (.ref a), u, v]) ∧ Same H H' ∧ ∀ j, j < i → ns[j]? = some 0) ⟨⟨_, _, rfl⟩, .refl H, fun j hj => absurd hj (Nat.not_lt_zero j)⟩ (fun i σ H' _ z => same_seqT z.2.1 (.of ha)) (fun i x σ H' H'' hi z y => ?_) (fun σ H' z => ?_)
    · obtain ⟨⟨u, v, rfl⟩, hs, hz⟩ := z
      obtain ⟨t, _, _, rfl, nt, rfl, e1, e2⟩ := y
      cases e1
      obtain ⟨n, hx, rfl⟩ := get_int e2
      refine ⟨t, _, rfl, .of upd_same, rfl, _, _, rfl, _, _, rfl, rfl, ?_⟩
      refine ⟨.int n, rfl, rfl, _, rfl, ite2 (fun e => ?_) (fun e => ?_)⟩
      · have hne : n ≠ 0 := by simpa using e
        refine ⟨_, rfl, ?_⟩
        have : firstNz ns = some i := firstNz_some.mpr ⟨⟨n, hx, hne⟩, hz⟩
        rw [this] at q
        exact q _ (hs.trans (same_new nt))
      · have h0 : n = 0 := by simpa using e
        subst h0
        refine ⟨⟨_, _, rfl⟩, hs.trans (same_new nt), fun j hj => ?_⟩
        by_cases hj' : j = i
        · subst hj'
          exact hx
        · exact hz j (by omega)
    · obtain ⟨⟨u, v, rfl⟩, hs, hz⟩ := z
      have : firstNz ns = none := firstNz_none.mpr fun n hm => by
        obtain ⟨j, hj, e⟩ := List.getElem_of_mem hm
        have := hz j (by rw [List.length_map]; exact hj)
        rw [List.getElem?_eq_getElem hj] at this
        rw [← e]
        exact Option.some.inj this
      rw [this] at q
      exact q _ hs
end

/-- is_multiple of two forms -/
def multI (ns ms : List Int) : Bool :=
  match firstNz ms with
  | none => ns.all fun n => decide (n = 0)
  | some k => if ns.getD k 0 * ms.getD k 0 ≤ 0 then false else (ns.zip ms).all fun p => decide (p.1 * ms.getD k 0 = p.2 * ns.getD k 0)
def mult : Option (List Int) → Option (List Int) → Bool
  | some ns, some ms => decide ((ms.length : Int) = ns.length) && multI ns ms
  | _, _ => false
def Arg (H : Hp) (x : V) : Option (List Int) → Prop
  | some ns => ∃ a, x = .ref a ∧ H a = some (.tup (ns.map V.int)) ∧ ns.length ≤ 8 ∧ ∀ n ∈ ns, n.natAbs < 2 ^ 40
  | none => FormArg H x false
theorem FormArg.same {H H' : Hp} {x : V} {b : Bool} (s : Same H H') (h : FormArg H x b) : FormArg H' x b := by
  rcases h with ⟨k, nk, hk, e⟩ | ⟨a, xs, e, ha, r⟩
  · exact .inl ⟨k, nk, hk.same s, e⟩
  · exact .inr ⟨a, xs, e, s _ _ ha, r⟩
theorem Arg.same {H H' : Hp} {x : V} (s : Same H H') : ∀ {o : Option (List Int)}, Arg H x o → Arg H' x o
  | some ns, ⟨a, e, h, r⟩ => ⟨a, e, s _ _ h, r⟩
  | none, h => FormArg.same s h
theorem Arg.form {H : Hp} {x : V} : ∀ {o : Option (List Int)}, Arg H x o → FormArg H x o.isSome
  | none, h => h
  | some ns, ⟨a, e, h, l, _⟩ => .inr ⟨a, _, e, h, fun v hv => by
      obtain ⟨n, _, rfl⟩ := List.mem_map.mp hv
      rfl, by
      have : (ns.map V.int).all isI = true := by
        rw [List.all_map, List.all_eq_true]
        exact fun _ _ => rfl
      rw [this]
      simp [l]⟩
section
variable {P : Program} {w : World} {K : PySem.W.Frag} {mg : Str → Option Value} {base : Heap}
def spMult : Sp := fun vs H Q _ => ∃ (x y : V) (o p : Option (List Int)), vs = [x, y] ∧ Arg H x o ∧ Arg H y p ∧ ∀ H', Same H H' → Q (.bl (mult o p)) H'
theorem ok_is_multiple (T : Top K mg) : FnOk P w K mg base CX0 (3 + 1) T.a_is_multiple T.d_is_multiple ["one", "other"] spMult := by
  have G_is_form := (ok_is_form (P := P) (w := w) (base := base) T).mono (k := 3) (by decide)
  have G_is_form_of := ok_is_form_of (P := P) (w := w) (base := base) T
  have G_is_nought := (ok_is_nought (P := P) (w := w) (base := base) T).mono (k := 3) (by decide)
  have G_first_factor := (ok_first_factor (P := P) (w := w) (base := base) T).mono (k := 3) (by decide)
  refine T.F_is_multiple.ok scis_multiple (fun vs H Q E h => ?_) (fun cdv A outer s H vs Q E hr h => ?_)
  · obtain ⟨x, y, o, p, rfl, _⟩ := h
    rfl
  · obtain ⟨x, y, o, p, rfl, hx, hy, q⟩ := h
    refine ⟨_, (pss_cons (ps_if (PW.pt (pw_or (pt_not (pt_val (pe_call G_is_form hr (by rfl) T.g_is_form T.F_is_form.kp T.b_is_form .nil pass0 (pa_cons (pv 0) pa_nil)))) (pw_or1 (pt_not (pt_val (pe_call G_is_form_of hr (by rfl) T.g_is_form_of T.F_is_form_of.kp T.b_is_form_of .nil pass0 (pa_cons (pv 1) (pa_cons (pe_callB call_len_seq (by rfl) T.z_len (by decide +kernel) (pa_cons (pv 0) pa_nil)) pa_nil))))))))
    (pss_one (ps_ret pe_bl))
    pss_nil)
  (pss_cons (ps_set (i := 2) scis_multiple.nd rfl (.inr rfl) (pe_call G_first_factor hr (by rfl) T.g_first_factor T.F_first_factor.kp T.b_first_factor .nil pass0 (pa_cons (pv 1) pa_nil)))
  (pss_cons (ps_if (pt_cmpR op_isN (pv 2) pe_non (nomark _))
    (pss_one (ps_ret (pe_call G_is_nought hr (by rfl) T.g_is_nought T.F_is_nought.kp T.b_is_nought .nil pass0 (pa_cons (pv 0) pa_nil))))
    pss_nil)
  (pss_cons (ps_if (pt_cmpR op_le (pe_op op_mul (pe_ix (ixT (K := K) rfl) (pv 0) (pv 2) (fun _ _ => rfl)) (pe_ix (ixT (K := K) rfl) (pv 1) (pv 2) (fun _ _ => rfl))) pe_int (nomark _))
    (pss_one (ps_ret pe_bl))
    pss_nil)
  (pss_one (ps_ret (pe_callB (cr_all rfl) (by rfl) T.z_all (by decide +kernel) (pa_cons (pe_lc (own := [("factor", 3), ("against", 4)]) (g := gTup K 2 (gCons (gName 3) (gCons (gName 4) (gNil)))) rfl scis_multiple.nd (RZ.pi_zipA (by rfl) T.z_zip (pa_cons (pv 0) (pa_cons (pv 1) pa_nil))) (blkOk_by (own := [("factor", 3), ("against", 4)]) (N := Nis_multiple) (sc := defScope sis_multiple) (by decide +kernel)) (fun _ _ _ _ _ => (pg_tup (by rfl) (pgs_cons (pg_name (i := 3) scis_multiple.nd rfl (.inl rfl)) (pgs_cons (pg_name (i := 4) scis_multiple.nd rfl (.inl rfl)) pgs_nil)))) (fun _ _ _ _ _ => pts_nil) (fun _ _ _ _ _ => (pe_cmpR op_eq (pe_op op_mul (pv 3) (pe_ix (ixT (K := K) rfl) (pv 1) (pv 2) (fun _ _ => rfl))) (pe_op op_mul (pv 4) (pe_ix (ixT (K := K) rfl) (pv 0) (pv 2) (fun _ _ => rfl))) (nomark _)))) pa_nil)))))))), ?_⟩
    refine ⟨x, rfl, x, _, rfl, hx.form, fun H1 s1 => ⟨_, rfl, ?_⟩⟩
    cases o with
    | none => exact q H1 s1
    | some ns =>
      obtain ⟨a, rfl, ha, hl, hb⟩ := hx
      refine ⟨y, rfl, .ref a, rfl, a, _, rfl, .inr (.of (s1 _ _ ha)), y, p.isSome, _, rfl, (hy.same s1).form, fun hp => ?_, fun hp H2 s2 => ?_⟩
      · cases p with
        | none => cases hp
        | some ms =>
          obtain ⟨b, rfl, hb', hl', hb2⟩ := hy
          refine ⟨b, _, rfl, s1 _ _ hb', fun H2 s2 => ⟨_, rfl, ?_⟩⟩
          have s12 := s1.trans s2
          rw [List.length_map, List.length_map]
          by_cases hlen : (ms.length : Int) = ns.length
          · have em : mult (some ns) (some ms) = multI ns ms := by
              show (decide ((ms.length : Int) = ns.length) && multI ns ms) = _
              rw [decide_eq_true hlen, Bool.true_and]
            rw [em] at q
            rw [decide_eq_true hlen]
            refine ⟨.ref b, rfl, .ref b, ms, rfl, ⟨b, rfl, s12 _ _ hb'⟩, by omega, fun H3 s3 => ?_⟩
            have s13 := s12.trans s3
            cases hf : firstNz ms with
            | none =>
              have e2 : multI ns ms = ns.all fun n => decide (n = 0) := by
                unfold multI
                rw [hf]
              rw [e2] at q
              refine ⟨_, rfl, rfl, _, rfl, ?_⟩
              refine ⟨.ref a, rfl, .ref a, ns, rfl, ⟨a, rfl, s13 _ _ ha⟩, by omega, fun H4 s4 => q H4 (s13.trans s4)⟩
            | some k =>
              have e2 : multI ns ms = if ns.getD k 0 * ms.getD k 0 ≤ 0 then false else (ns.zip ms).all fun p => decide (p.1 * ms.getD k 0 = p.2 * ns.getD k 0) := by
                unfold multI
                rw [hf]
              rw [e2] at q
              have hk : k < ms.length := by
                obtain ⟨⟨n, hn, _⟩, _⟩ := firstNz_some.mp hf
                exact (List.getElem?_eq_some_iff.mp hn).1
              have hk' : k < ns.length := by omega
              have ha3 := s13 _ _ ha
              have hb3 := s13 _ _ hb'
              refine ⟨_, rfl, rfl, _, rfl, ?_⟩
              refine ⟨.ref a, rfl, .int k, rfl, a, _, _, _, rfl, rfl, .of ha3, atI_int hk', .ref b, rfl, .int k, rfl, b, _, _, _, rfl, rfl, .of hb3, atI_int hk, _, _, rfl, rfl, .inl (in64 (hb _ (getD_mem hk'))), _, _, rfl, rfl, _, rfl, ite2 (fun e => ?_) (fun e => ?_)⟩
              · have hle : ns.getD k 0 * ms.getD k 0 ≤ 0 := of_decide_eq_true e
                rw [if_pos hle] at q
                exact q H3 s13
              · have hgt : ¬ ns.getD k 0 * ms.getD k 0 ≤ 0 := fun z => e (decide_eq_true z)
                rw [if_neg hgt] at q
                refine ⟨.ref a, rfl, .ref b, rfl, a, b, _, _, rfl, .inr ⟨.of ha3, .of hb3, fun D nD => ?_⟩⟩
                refine lc_it (walk_zipT (K := K) (a := a) (b := b) (xs := ns.map V.int) (ys := ms.map V.int) (n := ns.length) (by simp; omega)) (AccP D (MapP (Same H3) (ns.zip ms) fun p => .bl (decide (p.1 * ms.getD k 0 = p.2 * ns.getD k 0)))) (.zero ⟨same_new nD, rfl⟩) (fun i H' _ ⟨_, _, _, z⟩ => ⟨.of (z.1 _ _ ha3), .of (z.1 _ _ hb3)⟩) (fun i x H' H'' hi ⟨acc, e1, l1, z, eacc⟩ y => ?_) (fun H' ⟨acc, e1, _, z, eacc⟩ => ?_)
                · obtain ⟨t, _, _, rfl, nt, rfl, g1, g2⟩ := y
                  obtain ⟨f, hf1, rfl⟩ := get_int g1
                  obtain ⟨g, hg1, rfl⟩ := get_int g2
                  have hz : (ns.zip ms)[i]? = some (f, g) := by
                    rw [List.getElem?_zip_eq_some]
                    exact ⟨hf1, hg1⟩
                  have ntD : D ≠ t := ne_of_none e1 nt
                  have sz : Same H3 (upd H' t (.tup [.int f, .int g])) := z.trans (same_new nt)
                  refine ⟨t, _, rfl, .of upd_same, rfl, _, _, rfl, _, _, rfl, rfl, ?_⟩
                  refine ⟨rfl, ?_⟩
                  refine ⟨.int f, rfl, .ref b, rfl, .int k, rfl, b, _, _, _, rfl, rfl, .of (sz _ _ hb3), atI_int hk, _, _, rfl, rfl, .inl (in64 (hb _ (List.mem_of_getElem? hf1))), ?_⟩
                  refine ⟨.int g, rfl, .ref a, rfl, .int k, rfl, a, _, _, _, rfl, rfl, .of (sz _ _ ha3), atI_int hk', _, _, rfl, rfl, .inl (in64 (hb2 _ (List.mem_of_getElem? hg1))), rfl, ?_⟩
                  rw [dec_int]
                  exact AccP.put (small_size (by omega)) ((upd_ne ntD).trans e1) l1 (mapP_next hz eacc (same_updN sz nD))
                · refine ⟨D, (ns.zip ms).map fun p => decide (p.1 * ms.getD k 0 = p.2 * ns.getD k 0), rfl, .of ?_, ?_⟩
                  · rw [e1, eacc, List.take_of_length_le (by simp; omega), List.map_map]
                    rfl
                  · rw [List.all_map]
                    exact q H' (s13.trans z)
          · have em : mult (some ns) (some ms) = false := by
              show (decide ((ms.length : Int) = ns.length) && multI ns ms) = _
              rw [decide_eq_false hlen, Bool.false_and]
            rw [em] at q
            rw [decide_eq_false hlen]
            exact q H2 s12
      · cases p with
        | none => exact ⟨_, rfl, q H2 (s1.trans s2)⟩
        | some ms => cases hp
end

section
variable {P : Program} {w : World} {K : PySem.W.Frag} {mg : Str → Option Value} {base : Heap}
/-- an int of small size -/
def Sm (k : Nat) (x : V) : Prop := ∃ i : Int, x = .int i ∧ i.natAbs ≤ k
def spFactor : Sp := fun vs H Q _ => ∃ (p c : Addr) (m : Nat), vs = [.ref p] ∧ Pen H p c m ∧ m + 2 ≤ 2 ^ 20 ∧
  ∀ (r : Int) (H' : Hp), r.natAbs ≤ 20 → Pen H' p c (m + 2) → But p H H' → Q (.int r) H'
theorem ok_factor (T : Top K mg) : FnOk P w K mg base CX0 (2 + 1) T.a__law_factor T.d__law_factor ["_law_pen_here"] spFactor := by
  have G__law_draw := (ok_draw (P := P) (w := w) (base := base) T).mono (k := 2) (by decide)
  have G__law_pick := ok_pick (P := P) (w := w) (base := base) T
  refine T.F__law_factor.ok sc_law_factor (fun vs H Q E h => ?_) (fun cdv A outer s H vs Q E hr h => ?_)
  · obtain ⟨p, c, m, rfl, _⟩ := h
    rfl
  · obtain ⟨p, c, m, rfl, hP, hm, q⟩ := h
    refine ⟨_, (pss_one (ps_ret (pe_call G__law_pick hr (by rfl) T.g__law_pick T.F__law_pick.kp T.b__law_pick .nil pass0 (pa_cons (pv 0) (pa_cons (pe_lst (pa_cons pe_int (pa_cons pe_int (pa_cons pe_int (pa_cons (pe_un un_neg pe_int) (pa_cons pe_int (pa_cons (pe_un un_neg pe_int) (pa_cons pe_int (pa_cons (pe_un un_neg pe_int) (pa_cons (pe_op op_sub (pe_call G__law_draw hr (by rfl) T.g__law_draw T.F__law_draw.kp T.b__law_draw .nil pass0 (pa_cons (pv 0) (pa_cons pe_int pa_nil))) pe_int) pa_nil)))))))))) pa_nil))))), ?_⟩
    refine ⟨.ref p, rfl, 1, rfl, 2, rfl, 5, rfl, .ref p, rfl, p, c, 40, m, rfl, hP, by decide, by decide, by omega, fun d H1 d0 d1 hP1 hB1 => ?_⟩
    refine ⟨_, _, rfl, rfl, (by show 9 ≤ sizeLine; decide), fun l nl => ?_⟩
    refine ⟨p, c, l, m + 1, _, rfl, hP1.same (same_new nl), (hP1.ne_none nl), .inl (.inl upd_same), by simp, (by show 9 < 2 ^ 20; decide), by omega, fun x H2 mem hP2 hB2 => ?_⟩
    have hx : ∃ r : Int, x = .int r ∧ r.natAbs ≤ 20 := by
      simp only [List.mem_cons, List.not_mem_nil, or_false] at mem
      rcases mem with rfl | rfl | rfl | rfl | rfl | rfl | rfl | rfl | rfl <;> refine ⟨_, rfl, ?_⟩ <;> omega
    obtain ⟨r, rfl, hr20⟩ := hx
    exact q r H2 hr20 hP2 ((hB1.trans (but_new nl)).trans hB2)
def spForm2 : Sp := fun vs H Q _ => ∃ (p c : Addr) (m n : Nat), vs = [.ref p, .int n] ∧ Pen H p c m ∧ m + 2 * n ≤ 2 ^ 20 ∧ n ≤ 1000 ∧
  ∀ (t : Addr) (ns : List Int) (H' : Hp), ns.length = n → (∀ r ∈ ns, r.natAbs ≤ 20) → H' t = some (.tup (ns.map V.int)) → Pen H' p c (m + 2 * n) → But p H H' → Q (.ref t) H'
theorem ok_form (T : Top K mg) : FnOk P w K mg base CX0 (3 + 1) T.a__law_form T.d__law_form ["_law_pen_here", "_law_many"] spForm2 := by
  have G__law_factor := ok_factor (P := P) (w := w) (base := base) T
  refine T.F__law_form.ok sc_law_form (fun vs H Q E h => ?_) (fun cdv A outer s H vs Q E hr h => ?_)
  · obtain ⟨p, c, m, n, rfl, _⟩ := h
    rfl
  · obtain ⟨p, c, m, n, rfl, hP, hm, hn, q⟩ := h
    refine ⟨_, (pss_one (ps_ret (pe_callTy call_tuple_of (by rfl) T.z_tuple (by decide +kernel) (pa_cons (pe_lc (own := [("_law_k", 2)]) (g := gName 2) rfl sc_law_form.nd (pi_range1 (by rfl) T.z_range (pa_cons (pv 1) pa_nil)) (blkOk_by (own := [("_law_k", 2)]) (N := N_law_form) (sc := defScope s_law_form) (by decide +kernel)) (fun _ _ _ _ _ => (pg_name (i := 2) sc_law_form.nd rfl (.inl rfl))) (fun _ _ _ _ _ => pts_nil) (fun _ _ _ _ _ => (pe_call G__law_factor hr (by rfl) T.g__law_factor T.F__law_factor.kp T.b__law_factor .nil pass0 (pa_cons (pv 0) pa_nil)))) pa_nil)))), ?_⟩
    refine ⟨.int n, rfl, n, rfl, by omega, by omega, fun D nD => ?_⟩
    have nDp := hP.ne_none nD
    have nDc := hP.ne_none2 nD
    refine lc_it (walk_range (lo := 0) (n := n)) (AccP D fun i acc H' => ∃ ns : List Int, acc = ns.map V.int ∧ ns.length = i ∧ (∀ r ∈ ns, r.natAbs ≤ 20) ∧ Pen H' p c (m + 2 * i) ∧ But p H H') (.zero ⟨[], rfl, rfl, by simp, hP.same (same_new nD), but_new nD⟩) (fun _ _ _ _ => trivial) (fun i x H' H'' hi ⟨acc, e1, l1, ns, e2, l2, hb, hP1, hB1⟩ y => ?_) (fun H' ⟨acc, e1, _, ns, e2, l2, hb, hP1, hB1⟩ => ?_)
    · obtain ⟨rfl, rfl⟩ := y
      refine ⟨rfl, ?_⟩
      refine ⟨.ref p, rfl, p, c, m + 2 * i, rfl, hP1, by omega, fun r H3 hr20 hP3 hB3 => ?_⟩
      have e3 : H3 D = some (.lst acc) := hB3 D _ nDp e1
      refine AccP.put (small_size (by omega)) e3 l1 ⟨ns ++ [r], by rw [e2, List.map_append]; rfl, by simp [l2], fun z hz => ?_, ?_, but_updN (hB1.trans hB3) nD⟩
      · rcases List.mem_append.mp hz with h1 | h1
        · exact hb z h1
        · rw [List.mem_singleton.mp h1]
          exact hr20
      · exact (hP3.mono (by omega)).updN nDp nDc
    · refine ⟨D, _, rfl, .inl ⟨.of e1, fun t nt => ?_⟩⟩
      refine q t ns _ l2 hb (by rw [upd_same, e2]) (hP1.same (same_new nt)) (hB1.trans (but_new nt))
end

/-- the places that are not 0 -/
def nz (ms : List Int) : Nat → Bool := fun j => decide (ms.getD j 0 ≠ 0)
theorem spots_none {ms : List Int} (h : firstNz ms = none) : pickI (nz ms) ms.length = [] := (pickI_nil _ _).mpr fun j hj => by
  have := firstNz_none.mp h _ (getD_mem hj)
  unfold nz
  rw [this]
  decide
theorem spots_some {ms : List Int} {k : Nat} (h : firstNz ms = some k) : ∃ r, pickI (nz ms) ms.length = (k : Int) :: r := by
  obtain ⟨⟨n, hn, hne⟩, hz⟩ := firstNz_some.mp h
  refine pickI_first _ ?_ (fun j hj => ?_) _ (List.getElem?_eq_some_iff.mp hn).1
  · unfold nz
    rw [List.getD_eq_getElem?_getD, hn]
    exact decide_eq_true hne
  · unfold nz
    rw [List.getD_eq_getElem?_getD, hz j hj]
    decide
theorem rep_zero (n : Nat) : (List.replicate (n : Int).toNat [V.int 0]).flatten = (List.replicate n (0 : Int)).map V.int := by
  rw [Int.toNat_natCast]
  induction n with
  | zero => rfl
  | succ n ih => rw [List.replicate_succ, List.flatten_cons, ih, List.replicate_succ]; rfl
theorem all_zero (ns : List Int) : (ns.all fun n => decide (n = 0)) = decide (ns = List.replicate ns.length 0) := by
  induction ns with
  | nil => rfl
  | cons n ns ih =>
    rw [List.all_cons, ih, List.length_cons, List.replicate_succ]
    by_cases h : n = 0 <;> simp [h]
/-- the places at which two forms do not go together -/
def wr (ns ms : List Int) (k : Nat) : Nat → Bool := fun j => decide (ns.getD j 0 * ms.getD k 0 ≠ ms.getD j 0 * ns.getD k 0)
theorem wrongs_all {ns ms : List Int} (h : ms.length = ns.length) (k : Nat) : decide (pickI (wr ns ms k) ns.length = []) = (ns.zip ms).all fun p => decide (p.1 * ms.getD k 0 = p.2 * ns.getD k 0) := by
  rw [Bool.eq_iff_iff, decide_eq_true_iff, pickI_nil, List.all_eq_true]
  constructor
  · intro z p hp
    obtain ⟨j, hj, ej⟩ := List.getElem_of_mem hp
    have hj1 : j < ns.length := by rw [List.length_zip] at hj; omega
    have hj2 : j < ms.length := by omega
    have := z j hj1
    unfold wr at this
    rw [decide_eq_false_iff_not, Decidable.not_not] at this
    rw [← ej, List.getElem_zip]
    simp only [List.getD_eq_getElem?_getD, List.getElem?_eq_getElem hj1, List.getElem?_eq_getElem hj2, Option.getD_some] at this ⊢
    exact decide_eq_true this
  · intro z j hj
    have hj2 : j < ms.length := by omega
    have := z (ns[j], ms[j]) (by
      rw [List.mem_iff_getElem]
      exact ⟨j, by rw [List.length_zip]; omega, List.getElem_zip⟩)
    have := of_decide_eq_true this
    unfold wr
    rw [decide_eq_false_iff_not, Decidable.not_not]
    simp only [List.getD_eq_getElem?_getD, List.getElem?_eq_getElem hj, List.getElem?_eq_getElem hj2, Option.getD_some] at this ⊢
    exact this
section
variable {P : Program} {w : World} {K : PySem.W.Frag} {mg : Str → Option Value} {base : Heap}
def spDue : Sp := fun vs H Q _ => ∃ (x y : V) (ns ms : List Int), vs = [x, y] ∧ TupI H x ns ∧ TupI H y ms ∧ ms.length = ns.length ∧ 1 ≤ ns.length ∧ ns.length ≤ 1000 ∧ (∀ n ∈ ns, n.natAbs < 2 ^ 40) ∧ (∀ n ∈ ms, n.natAbs < 2 ^ 40) ∧ ∀ H', Same H H' → Q (.bl (multI ns ms)) H'
theorem ok_due (T : Top K mg) : FnOk P w K mg base CX0 (0 + 1) T.a__law_due T.d__law_due ["_law_one", "_law_other"] spDue := by
  refine T.F__law_due.ok sc_law_due (fun vs H Q E h => ?_) (fun cdv A outer s H vs Q E hr h => ?_)
  · obtain ⟨x, y, ns, ms, rfl, _⟩ := h
    rfl
  · obtain ⟨x, y, ns, ms, rfl, ⟨a, rfl, ha⟩, ⟨b, rfl, hb⟩, hlen, hl1, hl2, hn, hm, q⟩ := h
    refine ⟨_, (pss_cons (ps_setLc (i := 2) (own := [("_law_at", 5)]) (g := gName 5) rfl sc_law_due.nd rfl rfl (sw_true rfl rfl rfl (by decide +kernel)) (pi_range1 (by rfl) T.z_range (pa_cons (pe_callB call_len_seq (by rfl) T.z_len (by decide +kernel) (pa_cons (pv 1) pa_nil)) pa_nil)) (blkOk_by (own := [("_law_at", 5)]) (N := N_law_due) (sc := defScope s_law_due) (by decide +kernel)) (fun _ _ _ _ _ => (pg_name (i := 5) sc_law_due.nd rfl (.inl rfl))) (fun _ _ _ _ _ => (pts_one (pt_cmpR op_ne (pe_ix (ixT (K := K) rfl) (pv 1) (pv 5) (fun _ _ => rfl)) pe_int (nomark _)))) (fun _ _ _ _ _ => (pv 5)))
  (pss_cons (ps_if (PW.pt (pw_or (pt_cmpR (op_eqD (Room.units hr)) (pv 2) (pe_lst pa_nil) (nomark _)) (pw_or1 (pt_cmpR op_le (pe_op op_mul (pe_ix (ixT (K := K) rfl) (pv 0) (pe_ix (ixL (K := K) rfl) (pv 2) pe_int (fun _ _ => rfl)) (fun _ _ => rfl)) (pe_ix (ixT (K := K) rfl) (pv 1) (pe_ix (ixL (K := K) rfl) (pv 2) pe_int (fun _ _ => rfl)) (fun _ _ => rfl))) pe_int (nomark _)))))
    (pss_one (ps_ret (pe_and (pe_cmpR (op_eqD (Room.units hr)) (pv 0) (pe_op op_rep2 (pe_tup (pa_cons pe_int pa_nil)) (pe_callB call_len_seq (by rfl) T.z_len (by decide +kernel) (pa_cons (pv 0) pa_nil))) (nomark _)) (pe_one (pe_cmpR (op_eqD (Room.units hr)) (pv 2) (pe_lst pa_nil) (nomark _))))))
    pss_nil)
  (pss_cons (ps_asg (pe_tup (pa_cons (pe_ix (ixT (K := K) rfl) (pv 0) (pe_ix (ixL (K := K) rfl) (pv 2) pe_int (fun _ _ => rfl)) (fun _ _ => rfl)) (pa_cons (pe_ix (ixT (K := K) rfl) (pv 1) (pe_ix (ixL (K := K) rfl) (pv 2) pe_int (fun _ _ => rfl)) (fun _ _ => rfl)) pa_nil))) (pg_tup (by rfl) (pgs_cons (pg_name (i := 3) sc_law_due.nd rfl (.inr rfl)) (pgs_cons (pg_name (i := 4) sc_law_due.nd rfl (.inr rfl)) pgs_nil))))
  (pss_one (ps_ret (pe_cmpR (op_eqD (Room.units hr)) (pe_lc (own := [("_law_at", 5)]) (g := gName 5) rfl sc_law_due.nd (pi_range1 (by rfl) T.z_range (pa_cons (pe_callB call_len_seq (by rfl) T.z_len (by decide +kernel) (pa_cons (pv 0) pa_nil)) pa_nil)) (blkOk_by (own := [("_law_at", 5)]) (N := N_law_due) (sc := defScope s_law_due) (by decide +kernel)) (fun _ _ _ _ _ => (pg_name (i := 5) sc_law_due.nd rfl (.inl rfl))) (fun _ _ _ _ _ => (pts_one (pt_cmpR op_ne (pe_op op_mul (pe_ix (ixT (K := K) rfl) (pv 0) (pv 5) (fun _ _ => rfl)) (pv 4)) (pe_op op_mul (pe_ix (ixT (K := K) rfl) (pv 1) (pv 5) (fun _ _ => rfl)) (pv 3)) (nomark _)))) (fun _ _ _ _ _ => (pv 5))) (pe_lst pa_nil) (nomark _))))))), ?_⟩
    refine ⟨.ref b, rfl, b, _, rfl, .inr (.of hb), _, rfl, ?_, ?_, fun D nD => ?_⟩
    · rw [List.length_map]; omega
    · rw [List.length_map]; omega
    rw [toNat_len]
    refine lc_it (walk_range (lo := 0) (n := ms.length)) (AccP D fun i acc H' => Same H H' ∧ acc = (pickI (nz ms) i).map V.int) (.zero ⟨same_new nD, rfl⟩) (fun _ _ _ _ => trivial) (fun i x H' H'' hi ⟨acc, e1, l1, s1, e2⟩ y => ?_) (fun H1 ⟨acc, e1, _, s1, e2⟩ => ?_)
    · obtain ⟨rfl, rfl⟩ := y
      refine ⟨rfl, ?_⟩
      have hi' : i < ms.length := hi
      refine ⟨.ref b, rfl, .int (0 + (i : Int)), rfl, b, _, _, _, rfl, rfl, .of (s1 _ _ hb), by rw [Int.zero_add]; exact atI_int hi', rfl, _, rfl, ?_⟩
      have en : (!decide (V.int (ms.getD i 0) = V.int 0)) = nz ms i := by
        rw [dec_int]
        unfold nz
        by_cases h : ms.getD i 0 = 0 <;> simp [h]
      refine ite2 (fun e => ?_) (fun e => ?_)
      · rw [en] at e
        refine ⟨_, rfl, ?_⟩
        dsimp only
        rw [Int.zero_add]
        exact AccP.put (small_size (by omega)) e1 l1 ⟨same_updN s1 nD, by rw [pickI_succ, if_pos e, List.map_append, e2]; rfl⟩
      · rw [en] at e
        exact AccP.skip e1 l1 ⟨s1, by rw [pickI_succ, if_neg e, e2]⟩
    · rw [e2] at e1
      refine ⟨.ref D, rfl, Nat.zero_le _, fun o no => ?_⟩
      have nDo : D ≠ o := ne_of_none e1 no
      have sO : Same H (upd H1 o (.lst [])) := s1.trans (same_new no)
      have eD : upd H1 o (.lst []) D = some (.lst ((pickI (nz ms) ms.length).map V.int)) := (upd_ne nDo).trans e1
      refine ⟨.list ((pickI (nz ms) ms.length).map .int), .list (([] : List Int).map .int), .lst (.of eD) (dp_ints _), .lst (.of upd_same) .nil, PySem.W.ke_shaped_ints _, PySem.W.ke_shaped_ints [], _, rfl, ?_⟩
      rw [eqv_lI]
      generalize hH2 : upd H1 o (.lst []) = H2
      rw [hH2] at sO eD
      clear hH2 nDo no e1 s1
      have hz : ∀ (Qd : Hp → Prop), (∀ (H' : Hp), Same H2 H' → Qd H') → True := fun _ _ => trivial
      cases hf : firstNz ms with
      | none =>
        have ez := spots_none hf
        have em : multI ns ms = decide (ns = List.replicate ns.length 0) := by
          unfold multI
          rw [hf]
          exact all_zero ns
        rw [em] at q
        rw [ez] at eD ⊢
        rw [show decide (([] : List Int) = []) = true from rfl]
        -- return one == (0,) * len(one) and spots == []
        refine ⟨.ref a, rfl, (by show 1 ≤ sizeLine; decide), fun t nt => ?_⟩
        have st : Same H2 (upd H2 t (.tup [.int 0])) := same_new nt
        refine ⟨.ref a, rfl, a, _, rfl, .inr (.of (st _ _ (sO _ _ ha))), t, _, [.int 0], rfl, rfl, upd_same, by simp, ?_, ?_, by simp, fun z H4 s4 ez4 => ?_⟩
        · rw [List.length_map]; omega
        · rw [List.length_map]; omega
        have s24 := st.trans s4
        rw [List.length_map, rep_zero] at ez4
        refine ⟨.tuple (ns.map .int), .tuple ((List.replicate ns.length (0 : Int)).map .int), .tup (.of (s24 _ _ (sO _ _ ha))) (dp_ints _), .tup (.of ez4) (dp_ints _), ?_, ?_, ?_⟩
        · exact shapedT _
        · exact shapedT _
        rw [eqv_tI]
        refine ⟨_, rfl, ?_⟩
        by_cases hns : ns = List.replicate ns.length 0
        · rw [decide_eq_true hns] at q ⊢
          refine ⟨.ref D, rfl, Nat.zero_le _, fun o2 no2 => ?_⟩
          have s5 := s24.trans (same_new (o := .lst []) no2)
          refine ⟨.list (([] : List Int).map .int), .list (([] : List Int).map .int), .lst (.of (s5 _ _ eD)) .nil, .lst (.of upd_same) .nil, PySem.W.ke_shaped_ints [], PySem.W.ke_shaped_ints [], ?_⟩
          rw [eqv_lI]
          exact q _ (sO.trans s5)
        · rw [decide_eq_false hns] at q ⊢
          exact q _ (sO.trans s24)
      | some k =>
        obtain ⟨r, er⟩ := spots_some hf
        have e2 : multI ns ms = if ns.getD k 0 * ms.getD k 0 ≤ 0 then false else (ns.zip ms).all fun p => decide (p.1 * ms.getD k 0 = p.2 * ns.getD k 0) := by
          unfold multI
          rw [hf]
        rw [e2] at q
        have hk : k < ms.length := by
          obtain ⟨⟨n, hn, _⟩, _⟩ := firstNz_some.mp hf
          exact (List.getElem?_eq_some_iff.mp hn).1
        have hk' : k < ns.length := by omega
        rw [er] at eD ⊢
        rw [show decide (((k : Int) :: r) = []) = false from rfl]
        have ha2 := sO _ _ ha
        have hb2 := sO _ _ hb
        have bk := in64 (hn _ (getD_mem hk'))
        refine ⟨.ref a, rfl, .ref D, rfl, D, _, 0, .int k, rfl, rfl, .of eD, atI_nat (j := 0) rfl, a, _, _, _, rfl, rfl, .of ha2, atI_int hk', .ref b, rfl, .ref D, rfl, D, _, 0, .int k, rfl, rfl, .of eD, atI_nat (j := 0) rfl, b, _, _, _, rfl, rfl, .of hb2, atI_int hk, _, _, rfl, rfl, .inl bk, _, _, rfl, rfl, _, rfl, ite2 (fun e => ?_) (fun e => ?_)⟩
        · have hle : ns.getD k 0 * ms.getD k 0 ≤ 0 := of_decide_eq_true e
          rw [if_pos hle] at q
          refine ⟨.ref a, rfl, (by show 1 ≤ sizeLine; decide), fun t nt => ?_⟩
          have st : Same H2 (upd H2 t (.tup [.int 0])) := same_new nt
          refine ⟨.ref a, rfl, a, _, rfl, .inr (.of (st _ _ ha2)), t, _, [.int 0], rfl, rfl, upd_same, by simp, ?_, ?_, by simp, fun z H4 s4 ez4 => ?_⟩
          · rw [List.length_map]; omega
          · rw [List.length_map]; omega
          have s24 := st.trans s4
          rw [List.length_map, rep_zero] at ez4
          refine ⟨.tuple (ns.map .int), .tuple ((List.replicate ns.length (0 : Int)).map .int), .tup (.of (s24 _ _ ha2)) (dp_ints _), .tup (.of ez4) (dp_ints _), shapedT _, shapedT _, ?_⟩
          rw [eqv_tI]
          refine ⟨_, rfl, ?_⟩
          by_cases hns : ns = List.replicate ns.length 0
          · rw [decide_eq_true hns]
            refine ⟨.ref D, rfl, Nat.zero_le _, fun o2 no2 => ?_⟩
            have s5 := s24.trans (same_new (o := .lst []) no2)
            refine ⟨.list (((k : Int) :: r).map .int), .list (([] : List Int).map .int), .lst (.of (s5 _ _ eD)) (dp_ints _), .lst (.of upd_same) .nil, PySem.W.ke_shaped_ints _, PySem.W.ke_shaped_ints [], ?_⟩
            rw [eqv_lI]
            exact q _ (sO.trans s5)
          · rw [decide_eq_false hns]
            exact q _ (sO.trans s24)
        · have hgt : ¬ ns.getD k 0 * ms.getD k 0 ≤ 0 := fun z => e (decide_eq_true z)
          rw [if_neg hgt] at q
          refine ⟨.ref a, rfl, .ref D, rfl, D, _, 0, .int k, rfl, rfl, .of eD, atI_nat (j := 0) rfl, a, _, _, _, rfl, rfl, .of ha2, atI_int hk', .ref b, rfl, .ref D, rfl, D, _, 0, .int k, rfl, rfl, .of eD, atI_nat (j := 0) rfl, b, _, _, _, rfl, rfl, .of hb2, atI_int hk, (by show 2 ≤ sizeLine; decide), fun t nt => ?_⟩
          refine ⟨t, _, rfl, .of upd_same, rfl, _, _, rfl, _, _, rfl, rfl, ?_⟩
          have s3 : Same H2 _ := same_new (o := .tup [.int (ns.getD k 0), .int (ms.getD k 0)]) nt
          generalize hH3 : upd H2 t (.tup [.int (ns.getD k 0), .int (ms.getD k 0)]) = H3
          rw [hH3] at s3
          have ha3 := s3 _ _ ha2
          have hb3 := s3 _ _ hb2
          have s03 := sO.trans s3
          refine ⟨.ref a, rfl, a, _, rfl, .inr (.of ha3), _, rfl, ?_, ?_, fun D2 nD2 => ?_⟩
          · rw [List.length_map]; omega
          · rw [List.length_map]; omega
          rw [toNat_len]
          refine lc_it (walk_range (lo := 0) (n := ns.length)) (AccP D2 fun i acc H' => Same H3 H' ∧ acc = (pickI (wr ns ms k) i).map V.int) (.zero ⟨same_new nD2, rfl⟩) (fun _ _ _ _ => trivial) (fun i x H' H'' hi ⟨acc, e1, l1, s1, e2⟩ y => ?_) (fun H4 ⟨acc, e1, _, s4, e2⟩ => ?_)
          · obtain ⟨rfl, rfl⟩ := y
            refine ⟨rfl, ?_⟩
            have hi' : i < ns.length := hi
            have hi2 : i < ms.length := by omega
            refine ⟨.ref a, rfl, .int (0 + (i : Int)), rfl, a, _, _, _, rfl, rfl, .of (s1 _ _ ha3), by rw [Int.zero_add]; exact atI_int hi', _, rfl, _, _, rfl, rfl, .inl (in64 (hn _ (getD_mem hi'))), ?_⟩
            refine ⟨.ref b, rfl, .int (0 + (i : Int)), rfl, b, _, _, _, rfl, rfl, .of (s1 _ _ hb3), by rw [Int.zero_add]; exact atI_int hi2, _, rfl, _, _, rfl, rfl, .inl (in64 (hm _ (getD_mem hi2))), rfl, _, rfl, ?_⟩
            have en : (!decide (V.int (ns.getD i 0 * ms.getD k 0) = V.int (ms.getD i 0 * ns.getD k 0))) = wr ns ms k i := by
              rw [dec_int]
              unfold wr
              by_cases h : ns.getD i 0 * ms.getD k 0 = ms.getD i 0 * ns.getD k 0
              · rw [decide_eq_true h, decide_eq_false (fun z => z h)]; rfl
              · rw [decide_eq_false h, decide_eq_true h]; rfl
            refine ite2 (fun e => ?_) (fun e => ?_)
            · rw [en] at e
              refine ⟨_, rfl, ?_⟩
              dsimp only
              rw [Int.zero_add]
              exact AccP.put (small_size (by omega)) e1 l1 ⟨same_updN s1 nD2, by rw [pickI_succ, if_pos e, List.map_append, e2]; rfl⟩
            · rw [en] at e
              exact AccP.skip e1 l1 ⟨s1, by rw [pickI_succ, if_neg e, e2]⟩
          · rw [e2] at e1
            refine ⟨Nat.zero_le _, fun o no => ?_⟩
            have s5 := s4.trans (same_new (o := .lst []) no)
            refine ⟨.list ((pickI (wr ns ms k) ns.length).map .int), .list (([] : List Int).map .int), .lst (.of ((upd_ne (ne_of_none e1 no)).trans e1)) (dp_ints _), .lst (.of upd_same) .nil, PySem.W.ke_shaped_ints _, PySem.W.ke_shaped_ints [], ?_⟩
            rw [eqv_lI, wrongs_all hlen]
            exact q _ (s03.trans s5)
end

theorem multI_iff {ns ms : List Int} (h : ms.length = ns.length) : multI ns ms = true ↔ (∀ n ∈ ns, n = 0) ∧ (∀ n ∈ ms, n = 0) ∨ ∃ k, k < ns.length ∧ 0 < ns.getD k 0 * ms.getD k 0 ∧ ∀ j, j < ns.length → ns.getD j 0 * ms.getD k 0 = ms.getD j 0 * ns.getD k 0 := by
  have hall : ∀ k, ((ns.zip ms).all fun p => decide (p.1 * ms.getD k 0 = p.2 * ns.getD k 0)) = true ↔ ∀ j, j < ns.length → ns.getD j 0 * ms.getD k 0 = ms.getD j 0 * ns.getD k 0 := fun k => by
    rw [← wrongs_all h k, decide_eq_true_iff, pickI_nil]
    constructor
    · intro z j hj
      have := z j hj
      unfold wr at this
      rw [decide_eq_false_iff_not, Decidable.not_not] at this
      exact this
    · intro z j hj
      unfold wr
      rw [decide_eq_false_iff_not, Decidable.not_not]
      exact z j hj
  unfold multI
  cases hf : firstNz ms with
  | none =>
    have hz := firstNz_none.mp hf
    constructor
    · intro e
      refine .inl ⟨fun n hn => ?_, hz⟩
      exact of_decide_eq_true (List.all_eq_true.mp e n hn)
    · rintro (⟨e, _⟩ | ⟨k, hk, hp, _⟩)
      · exact List.all_eq_true.mpr fun n hn => decide_eq_true (e n hn)
      · rw [hz _ (getD_mem (by omega : k < ms.length)), Int.mul_zero] at hp
        omega
  | some k =>
    obtain ⟨⟨n, hn, hne⟩, hz⟩ := firstNz_some.mp hf
    have hk : k < ms.length := (List.getElem?_eq_some_iff.mp hn).1
    have hnk : ms.getD k 0 = n := by rw [List.getD_eq_getElem?_getD, hn]; rfl
    show (if ns.getD k 0 * ms.getD k 0 ≤ 0 then false else _) = true ↔ _
    by_cases hle : ns.getD k 0 * ms.getD k 0 ≤ 0
    · rw [if_pos hle]
      constructor
      · intro e
        cases e
      · rintro (⟨_, e⟩ | ⟨k', hk', hp, ha⟩)
        · exact absurd (e n (List.mem_of_getElem? hn)) hne
        · -- k' is not below k; the ratio at k is that at k'
          exfalso
          have e := ha k (by omega)
          have h1 : ns.getD k' 0 ≠ 0 := fun z => by rw [z, Int.zero_mul] at hp; omega
          have h2 : ms.getD k' 0 ≠ 0 := fun z => by rw [z, Int.mul_zero] at hp; omega
          rw [hnk] at e hle
          -- ns_k * ms_k' = n * ns_k'
          have p1 : 0 < (n * ns.getD k' 0) * (n * ms.getD k' 0) := by
            have : (n * ns.getD k' 0) * (n * ms.getD k' 0) = (n * n) * (ns.getD k' 0 * ms.getD k' 0) := by
              simp only [Int.mul_assoc, Int.mul_left_comm]
            rw [this]
            have hnn : 0 < n * n := by
              rcases Int.lt_or_gt_of_ne hne with q | q
              · exact Int.mul_pos_of_neg_of_neg q q
              · exact Int.mul_pos q q
            exact Int.mul_pos hnn hp
          rw [← e] at p1
          have : ns.getD k 0 * ms.getD k' 0 * (n * ms.getD k' 0) = (ns.getD k 0 * n) * (ms.getD k' 0 * ms.getD k' 0) := by
            simp only [Int.mul_assoc, Int.mul_left_comm]
          rw [this] at p1
          have hmm : 0 ≤ ms.getD k' 0 * ms.getD k' 0 := by
            rcases Int.lt_or_gt_of_ne h2 with q | q
            · exact Int.le_of_lt (Int.mul_pos_of_neg_of_neg q q)
            · exact Int.le_of_lt (Int.mul_pos q q)
          have := Int.mul_nonpos_of_nonpos_of_nonneg hle hmm
          omega
    · rw [if_neg hle]
      constructor
      · intro e
        exact .inr ⟨k, by omega, by omega, (hall k).mp e⟩
      · rintro (⟨_, e⟩ | ⟨k', hk', hp, ha⟩)
        · exact absurd (e n (List.mem_of_getElem? hn)) hne
        · refine (hall k).mpr fun j hj => ?_
          have e1 := ha j hj
          have e2 := ha k (by omega)
          have h2 : ms.getD k' 0 ≠ 0 := fun z => by rw [z, Int.mul_zero] at hp; omega
          -- ns_j * m' = ms_j * n', ns_k * m' = ms_k * n'
          apply Int.eq_of_mul_eq_mul_right h2
          calc ns.getD j 0 * ms.getD k 0 * ms.getD k' 0 = (ns.getD j 0 * ms.getD k' 0) * ms.getD k 0 := by ac_rfl
            _ = (ms.getD j 0 * ns.getD k' 0) * ms.getD k 0 := by rw [e1]
            _ = ms.getD j 0 * (ms.getD k 0 * ns.getD k' 0) := by ac_rfl
            _ = ms.getD j 0 * (ns.getD k 0 * ms.getD k' 0) := by rw [e2]
            _ = ms.getD j 0 * ns.getD k 0 * ms.getD k' 0 := by simp only [Int.mul_assoc]
theorem multI_swap {ns ms : List Int} (h : ms.length = ns.length) : multI ns ms = multI ms ns := by
  rw [Bool.eq_iff_iff, multI_iff h, multI_iff h.symm]
  constructor
  · rintro (⟨a, b⟩ | ⟨k, hk, hp, ha⟩)
    · exact .inl ⟨b, a⟩
    · exact .inr ⟨k, by omega, by rw [Int.mul_comm]; exact hp, fun j hj => (ha j (by omega)).symm⟩
  · rintro (⟨a, b⟩ | ⟨k, hk, hp, ha⟩)
    · exact .inl ⟨b, a⟩
    · exact .inr ⟨k, by omega, by rw [Int.mul_comm]; exact hp, fun j hj => (ha j (by omega)).symm⟩
theorem mult_swap (o p : Option (List Int)) : mult o p = mult p o := by
  cases o with
  | none => cases p <;> rfl
  | some ns =>
    cases p with
    | none => rfl
    | some ms =>
      show (decide ((ms.length : Int) = ns.length) && multI ns ms) = (decide ((ns.length : Int) = ms.length) && multI ms ns)
      by_cases h : (ms.length : Int) = ns.length
      · rw [decide_eq_true h, decide_eq_true h.symm, multI_swap (by omega)]
      · rw [decide_eq_false h, decide_eq_false (fun z => h z.symm)]; rfl

section
variable {P : Program} {w : World} {K : PySem.W.Frag} {mg : Str → Option Value} {base : Heap}
theorem dp_bools {K : PySem.W.Frag} {H : Hp} : ∀ bs : List Bool, DpAll K H (bs.map V.bl) (bs.map PyData.bool)
  | [] => .nil
  | b :: bs => .cons (.bl b) (dp_bools bs)
theorem natAbs_mul_lt {a b : Int} {x y : Nat} (ha : a.natAbs ≤ x) (hb : b.natAbs ≤ y) : (a * b).natAbs ≤ x * y := by
  rw [Int.natAbs_mul]
  exact Nat.mul_le_mul ha hb
theorem cut_ints (ms : List Int) (lo hi : Option Int) : ∃ bs : List Int, cutV (ms.map V.int) lo hi = bs.map V.int ∧ (∀ b ∈ bs, b ∈ ms) ∧ bs.length ≤ ms.length := by
  unfold cutV
  rw [← List.map_drop, ← List.map_take]
  exact ⟨_, rfl, fun b hb => List.mem_of_mem_drop (List.mem_of_mem_take hb), by rw [List.length_take, List.length_drop]; omega⟩
theorem ne_self {x : V} (e : (!decide (x = x)) = true) : False := by simp at e
theorem rep_flat {v : V} (n : Nat) : (List.replicate (n : Int).toNat [v]).flatten = List.replicate n v := by
  rw [Int.toNat_natCast]
  induction n with
  | zero => rfl
  | succ n ih => rw [List.replicate_succ, List.flatten_cons, ih, List.replicate_succ]; rfl
theorem repB (b : Bool) : (PyData.bool b).showable = true ∧ (PyData.bool b).hasDict = false ∧ (PyData.bool b).depth ≤ 60 ∧ (PyData.bool b).shown.length ≤ sizeLine := by cases b <;> decide +kernel
/-- a tuple of ints of bounded size -/
def Thing (H : Hp) (x : V) (ms : List Int) : Prop := ∃ a, x = .ref a ∧ H a = some (.tup (ms.map V.int)) ∧ ms.length ≤ 1000 ∧ ∀ n ∈ ms, n.natAbs < 2 ^ 40
def asForm (ms : List Int) : Option (List Int) := if ms.length ≤ 8 then some ms else none
theorem Thing.arg {H : Hp} {x : V} {ms : List Int} (h : Thing H x ms) : Arg H x (asForm ms) := by
  obtain ⟨a, e, ha, hl, hb⟩ := h
  unfold asForm
  split
  · rename_i h8
    exact ⟨a, e, ha, h8, hb⟩
  · rename_i h8
    exact .inr ⟨a, _, e, ha, fun v hv => by
      obtain ⟨n, _, rfl⟩ := List.mem_map.mp hv
      rfl, by simp [h8]⟩
theorem Thing.not {H : Hp} {a p c : Addr} {m : Nat} {ms : List Int} (hP : Pen H p c m) (h : Thing H (.ref a) ms) : a ≠ p := by
  obtain ⟨_, e, ha, _⟩ := h
  cases e
  obtain ⟨ys, e⟩ := hP.at_
  exact ne_of ha e (by intro z; cases z)
/-- no form, and not the pen -/
def Odd (p : Addr) (H : Hp) (x : V) : Prop := Arg H x none ∧ x ≠ .ref p
theorem Odd.same {p : Addr} {H H' : Hp} {x : V} (s : Same H H') (h : Odd p H x) : Odd p H' x := ⟨h.1.same s, h.2⟩
theorem Odd.but {p : Addr} {H H' : Hp} {x : V} (b : But p H H') (h : Odd p H x) : Odd p H' x := by
  obtain ⟨h, n⟩ := h
  refine ⟨?_, n⟩
  rcases h with ⟨k, nk, hk, e⟩ | ⟨a, xs, rfl, ha, r⟩
  · refine .inl ⟨k, nk, ?_, e⟩
    cases k with
    | lst =>
      obtain ⟨a, xs, rfl, ha⟩ := hk
      exact ⟨a, xs, rfl, b _ _ (fun z => n (z ▸ rfl)) ha⟩
    | dct =>
      obtain ⟨a, xs, rfl, ha⟩ := hk
      exact ⟨a, xs, rfl, b _ _ (fun z => n (z ▸ rfl)) ha⟩
    | tup => exact absurd rfl nk
    | non => exact hk
    | bl => exact hk
    | int => exact hk
    | str => exact hk
  · exact .inr ⟨a, xs, rfl, b _ _ (fun z => n (z ▸ rfl)) ha, r⟩
theorem odd_rep {p a : Addr} {H : Hp} {v : V} {n : Nat} (h : H a = some (.tup (List.replicate n v))) (k : (kiOf v).isSome = true) (ni : isI v = false ∨ 8 < n) (hn : 1 ≤ n) (ne : a ≠ p) : Odd p H (.ref a) := by
  refine ⟨.inr ⟨a, _, rfl, h, fun w hw => ?_, ?_⟩, fun z => ne (by cases z; rfl)⟩
  · rw [List.eq_of_mem_replicate hw]
    exact k
  · rcases ni with ni | ni
    · obtain ⟨m, rfl⟩ : ∃ m, n = m + 1 := ⟨n - 1, by omega⟩
      simp [List.replicate_succ, ni]
    · simp
      omega
theorem Thing.same {H H' : Hp} {x : V} {ms : List Int} (s : Same H H') (h : Thing H x ms) : Thing H' x ms := by
  obtain ⟨a, e, ha, r⟩ := h
  exact ⟨a, e, s _ _ ha, r⟩
theorem Thing.but {p c : Addr} {m : Nat} {H H' : Hp} {x : V} {ms : List Int} (b : But p H H') (hP : Pen H p c m) (h : Thing H x ms) : Thing H' x ms := by
  obtain ⟨a, e, ha, r⟩ := h
  exact ⟨a, e, b.tup hP ha, r⟩
def spLaw (K : PySem.W.Frag) : Sp := fun vs H Q _ => ∃ (a : Addr) (ns : List Int), vs = [.ref a] ∧ SqL K H a (ns.map V.int) ∧ ns.length ≤ 63 ∧ ∀ H', Q (.bl true) H'
theorem ok_law (T : Top K mg) : GOk P w K mg base (4 + 1) T.a_law T.d_law ["_law_script"] (spLaw K) := by
  have G__law_pen := (ok_pen (P := P) (w := w) (base := base) T).mono (k := 4) (by decide)
  have G__law_draw := (ok_draw (P := P) (w := w) (base := base) T).mono (k := 4) (by decide)
  have G__law_pick := (ok_pick (P := P) (w := w) (base := base) T).mono (k := 4) (by decide)
  have G__law_form := (ok_form (P := P) (w := w) (base := base) T).mono (k := 4) (by decide)
  have G__law_due := (ok_due (P := P) (w := w) (base := base) T).mono (k := 4) (by decide)
  have G_is_multiple := ok_is_multiple (P := P) (w := w) (base := base) T
  refine gok T.F_law sclaw (fun vs H Q E h => ?_) (fun cdv A outer s H vs Q E hg hr h => ?_)
  · obtain ⟨a, ns, rfl, _⟩ := h
    rfl
  · obtain ⟨a, ns, rfl, hS, hl, q⟩ := h
    refine ⟨_, (pss_cons (ps_set (i := 1) sclaw.nd rfl (.inl rfl) (pe_call G__law_pen hr (by rfl) T.g__law_pen T.F__law_pen.kp T.b__law_pen .nil pass0 (pa_cons (pv 0) pa_nil)))
  (pss_cons (ps_if (pt_cmpR op_ne (pe_callB (call_repr hg (Room.units hr)) (by rfl) T.z_repr (by decide +kernel) (pa_cons (pe_lst (pa_cons (pe_call G_is_multiple hr (by rfl) T.g_is_multiple T.F_is_multiple.kp T.b_is_multiple .nil pass0 (pa_cons (pe_tup pa_nil) (pa_cons (pe_tup pa_nil) pa_nil))) (pa_cons (pe_call G_is_multiple hr (by rfl) T.g_is_multiple T.F_is_multiple.kp T.b_is_multiple .nil pass0 (pa_cons (pe_tup pa_nil) (pa_cons (pe_tup (pa_cons pe_int pa_nil)) pa_nil))) (pa_cons (pe_call G_is_multiple hr (by rfl) T.g_is_multiple T.F_is_multiple.kp T.b_is_multiple .nil pass0 (pa_cons (pe_tup (pa_cons pe_int pa_nil)) (pa_cons (pe_tup pa_nil) pa_nil))) pa_nil)))) pa_nil)) (pe_callB (call_repr hg (Room.units hr)) (by rfl) T.z_repr (by decide +kernel) (pa_cons (pe_lst (pa_cons pe_bl (pa_cons pe_bl (pa_cons pe_bl pa_nil)))) pa_nil)) (nomark _))
    (pss_one (ps_ret pe_bl))
    pss_nil)
  (pss_cons (ps_for PassesOwn.never rfl (pi_range1 (by rfl) T.z_range (pa_cons pe_int pa_nil)) (pg_name (i := 2) sclaw.nd rfl (.inl rfl))
    (pss_cons (ps_set (i := 3) sclaw.nd rfl (.inl rfl) (pe_op op_add pe_int (pe_call G__law_draw hr (by rfl) T.g__law_draw T.F__law_draw.kp T.b__law_draw .nil pass0 (pa_cons (pv 1) (pa_cons pe_int pa_nil)))))
  (pss_cons (ps_asg (pe_tup (pa_cons (pe_call G__law_form hr (by rfl) T.g__law_form T.F__law_form.kp T.b__law_form .nil pass0 (pa_cons (pv 1) (pa_cons (pv 3) pa_nil))) (pa_cons (pe_op op_add pe_int (pe_call G__law_draw hr (by rfl) T.g__law_draw T.F__law_draw.kp T.b__law_draw .nil pass0 (pa_cons (pv 1) (pa_cons pe_int pa_nil)))) (pa_cons (pe_op op_add pe_int (pe_call G__law_draw hr (by rfl) T.g__law_draw T.F__law_draw.kp T.b__law_draw .nil pass0 (pa_cons (pv 1) (pa_cons pe_int pa_nil)))) pa_nil)))) (pg_tup (by rfl) (pgs_cons (pg_name (i := 4) sclaw.nd rfl (.inl rfl)) (pgs_cons (pg_name (i := 5) sclaw.nd rfl (.inr rfl)) (pgs_cons (pg_name (i := 6) sclaw.nd rfl (.inr rfl)) pgs_nil)))))
  (pss_cons (ps_set (i := 7) sclaw.nd rfl (.inl rfl) (pe_callTy call_tuple_of (by rfl) T.z_tuple (by decide +kernel) (pa_cons (pe_lc (own := [("_law_factor_here", 16)]) (g := gName 16) rfl sclaw.nd (pi_tup (pv 4)) (blkOk_by (own := [("_law_factor_here", 16)]) (N := Nlaw) (sc := defScope slaw) (by decide +kernel)) (fun _ _ _ _ _ => (pg_name (i := 16) sclaw.nd rfl (.inl rfl))) (fun _ _ _ _ _ => pts_nil) (fun _ _ _ _ _ => (pe_callTy call_int1 (by rfl) T.z_int (by decide +kernel) (pa_cons (pe_op op_mul (pv 5) (pv 16)) pa_nil)))) pa_nil)))
  (pss_cons (ps_set (i := 8) sclaw.nd rfl (.inl rfl) (pe_callTy call_tuple_of (by rfl) T.z_tuple (by decide +kernel) (pa_cons (pe_lc (own := [("_law_factor_here", 16)]) (g := gName 16) rfl sclaw.nd (pi_tup (pv 4)) (blkOk_by (own := [("_law_factor_here", 16)]) (N := Nlaw) (sc := defScope slaw) (by decide +kernel)) (fun _ _ _ _ _ => (pg_name (i := 16) sclaw.nd rfl (.inl rfl))) (fun _ _ _ _ _ => pts_nil) (fun _ _ _ _ _ => (pe_callTy call_int1 (by rfl) T.z_int (by decide +kernel) (pa_cons (pe_op op_mul (pv 6) (pv 16)) pa_nil)))) pa_nil)))
  (pss_cons (ps_set (i := 9) sclaw.nd rfl (.inl rfl) (pe_call G__law_draw hr (by rfl) T.g__law_draw T.F__law_draw.kp T.b__law_draw .nil pass0 (pa_cons (pv 1) (pa_cons (pv 3) pa_nil))))
  (pss_cons (ps_set (i := 10) sclaw.nd rfl (.inl rfl) (pe_op op_cat2 (pe_op op_cat2 (pe_slice sl_tup2 (pv 8) po_none (po_some (pv 9))) (pe_tup (pa_cons (pe_op op_add (pe_ix (ixT (K := K) rfl) (pv 8) (pv 9) (fun _ _ => rfl)) (pe_call G__law_pick hr (by rfl) T.g__law_pick T.F__law_pick.kp T.b__law_pick .nil pass0 (pa_cons (pv 1) (pa_cons (pe_lst (pa_cons pe_int (pa_cons (pe_un un_neg pe_int) (pa_cons pe_int pa_nil)))) pa_nil)))) pa_nil))) (pe_slice sl_tup2 (pv 8) (po_some (pe_op op_add (pv 9) pe_int)) po_none)))
  (pss_cons (ps_set (i := 11) sclaw.nd rfl (.inl rfl) (pe_callTy call_tuple_of (by rfl) T.z_tuple (by decide +kernel) (pa_cons (pe_lc (own := [("_law_factor_here", 16)]) (g := gName 16) rfl sclaw.nd (pi_tup (pv 8)) (blkOk_by (own := [("_law_factor_here", 16)]) (N := Nlaw) (sc := defScope slaw) (by decide +kernel)) (fun _ _ _ _ _ => (pg_name (i := 16) sclaw.nd rfl (.inl rfl))) (fun _ _ _ _ _ => pts_nil) (fun _ _ _ _ _ => (pe_callTy call_int1 (by rfl) T.z_int (by decide +kernel) (pa_cons (pe_un un_neg (pv 16)) pa_nil)))) pa_nil)))
  (pss_cons (ps_for PassesOwn.never rfl (pi_list (pe_lst (pa_cons (pv 8) (pa_cons (pv 10) (pa_cons (pv 11) (pa_cons (pe_op op_rep2 (pe_tup (pa_cons pe_int pa_nil)) (pv 3)) (pa_cons (pe_call G__law_form hr (by rfl) T.g__law_form T.F__law_form.kp T.b__law_form .nil pass0 (pa_cons (pv 1) (pa_cons (pv 3) pa_nil))) (pa_cons (pe_op op_cat2 (pv 8) (pe_tup (pa_cons pe_int pa_nil))) (pa_cons (pe_slice sl_tup2 (pv 8) (po_some pe_int) po_none) pa_nil))))))))) (pg_name (i := 12) sclaw.nd rfl (.inl rfl))
    (pss_cons (ps_set (i := 13) sclaw.nd rfl (.inl rfl) (pe_and (pe_cmpR op_eq (pe_callB call_len_seq (by rfl) T.z_len (by decide +kernel) (pa_cons (pv 12) pa_nil)) (pe_callB call_len_seq (by rfl) T.z_len (by decide +kernel) (pa_cons (pv 7) pa_nil)) (nomark _)) (pe_one (pe_call G__law_due hr (by rfl) T.g__law_due T.F__law_due.kp T.b__law_due .nil pass0 (pa_cons (pv 7) (pa_cons (pv 12) pa_nil))))))
  (pss_one (ps_if (PW.pt (pw_or (pt_cmpR op_ne (pe_callB (call_repr hg (Room.units hr)) (by rfl) T.z_repr (by decide +kernel) (pa_cons (pe_call G_is_multiple hr (by rfl) T.g_is_multiple T.F_is_multiple.kp T.b_is_multiple .nil pass0 (pa_cons (pv 7) (pa_cons (pv 12) pa_nil))) pa_nil)) (pe_callB (call_repr hg (Room.units hr)) (by rfl) T.z_repr (by decide +kernel) (pa_cons (pv 13) pa_nil)) (nomark _)) (pw_or1 (pt_cmpR op_ne (pe_callB (call_repr hg (Room.units hr)) (by rfl) T.z_repr (by decide +kernel) (pa_cons (pe_callK0 G_is_multiple hr rfl T.g_is_multiple T.F_is_multiple.kp T.kb_is_multiple_0 pass0 (pk_cons (pv 7) (pk_cons (pv 12) pk_nil))) pa_nil)) (pe_callB (call_repr hg (Room.units hr)) (by rfl) T.z_repr (by decide +kernel) (pa_cons (pv 13) pa_nil)) (nomark _)))))
    (pss_one (ps_ret pe_bl))
    pss_nil))))
  (pss_cons (ps_set (i := 14) sclaw.nd rfl (.inl rfl) (pe_call G__law_pick hr (by rfl) T.g__law_pick T.F__law_pick.kp T.b__law_pick .nil pass0 (pa_cons (pv 1) (pa_cons (pe_lst (pa_cons pe_non (pa_cons pe_int (pa_cons pe_str (pa_cons (pe_callTy call_list_of (by rfl) T.z_list (by decide +kernel) (pa_cons (pv 7) pa_nil)) (pa_cons (pe_op op_rep2 (pe_tup (pa_cons pe_bl pa_nil)) (pv 3)) (pa_cons (pe_op op_rep2 (pe_tup (pa_cons pe_non pa_nil)) (pv 3)) (pa_cons pe_dnewK (pa_cons (pe_op op_rep2 (pe_tup (pa_cons pe_int pa_nil)) pe_int) pa_nil))))))))) pa_nil))))
  (pss_cons (ps_set (i := 15) sclaw.nd rfl (.inl rfl) (pe_lst (pa_cons (pe_call G_is_multiple hr (by rfl) T.g_is_multiple T.F_is_multiple.kp T.b_is_multiple .nil pass0 (pa_cons (pv 7) (pa_cons (pv 14) pa_nil))) (pa_cons (pe_call G_is_multiple hr (by rfl) T.g_is_multiple T.F_is_multiple.kp T.b_is_multiple .nil pass0 (pa_cons (pv 14) (pa_cons (pv 7) pa_nil))) (pa_cons (pe_call G_is_multiple hr (by rfl) T.g_is_multiple T.F_is_multiple.kp T.b_is_multiple .nil pass0 (pa_cons (pv 14) (pa_cons (pv 14) pa_nil))) pa_nil)))))
  (pss_one (ps_if (pt_cmpR op_ne (pe_callB (call_repr hg (Room.units hr)) (by rfl) T.z_repr (by decide +kernel) (pa_cons (pv 15) pa_nil)) (pe_callB (call_repr hg (Room.units hr)) (by rfl) T.z_repr (by decide +kernel) (pa_cons (pe_op op_rep (pe_lst (pa_cons pe_bl pa_nil)) pe_int) pa_nil)) (nomark _))
    (pss_one (ps_ret pe_bl))
    pss_nil)))))))))))))
  (pss_one (ps_ret pe_bl))))), ?_⟩
    refine ⟨.ref a, rfl, a, ns, rfl, hS, hl, fun p c H1 s1 np hP => ?_⟩
    -- repr([is_multiple((), ()), ..]) != repr([True, False, False])
    refine ⟨(by show 0 ≤ sizeLine; decide), fun t1 n1 => ⟨(by show 0 ≤ sizeLine; decide), fun t2 n2 => ?_⟩⟩
    refine ⟨.ref t1, .ref t2, some [], some [], rfl, ⟨t1, rfl, (upd_ne (ne_of_none upd_same n2)).trans upd_same, by decide, by simp⟩, ⟨t2, rfl, upd_same, by decide, by simp⟩, fun H2 s2 => ?_⟩
    refine ⟨(by show 0 ≤ sizeLine; decide), fun t3 n3 => ⟨(by show 1 ≤ sizeLine; decide), fun t4 n4 => ?_⟩⟩
    refine ⟨.ref t3, .ref t4, some [], some [0], rfl, ⟨t3, rfl, (upd_ne (ne_of_none upd_same n4)).trans upd_same, by decide, by simp⟩, ⟨t4, rfl, upd_same, by decide, by simp⟩, fun H3 s3 => ?_⟩
    refine ⟨(by show 1 ≤ sizeLine; decide), fun t5 n5 => ⟨(by show 0 ≤ sizeLine; decide), fun t6 n6 => ?_⟩⟩
    refine ⟨.ref t5, .ref t6, some [1], some [], rfl, ⟨t5, rfl, (upd_ne (ne_of_none upd_same n6)).trans upd_same, by decide, by simp⟩, ⟨t6, rfl, upd_same, by decide, by simp⟩, fun H4 s4 => ?_⟩
    refine ⟨(by show 3 ≤ sizeLine; decide), fun l1 nl1 => ?_⟩
    refine ⟨_, .list [.bool true, .bool false, .bool false], rfl, .lst (.inl (.inl upd_same)) (dp_bools [true, false, false]), by decide +kernel, by decide +kernel, by decide +kernel, by decide +kernel, ?_⟩
    refine ⟨(by show 3 ≤ sizeLine; decide), fun l2 nl2 => ?_⟩
    refine ⟨_, .list [.bool true, .bool false, .bool false], rfl, .lst (.inl (.inl upd_same)) (dp_bools [true, false, false]), by decide +kernel, by decide +kernel, by decide +kernel, by decide +kernel, ?_⟩
    refine ⟨rfl, _, rfl, ?_⟩
    refine ite2 (fun e => absurd e (by decide)) (fun _ => ?_)
    have s14 : Same H1 H4 := ((((((same_new n1).trans (same_new n2)).trans s2).trans (((same_new n3).trans (same_new n4)).trans s3)).trans ((same_new n5).trans (same_new n6))).trans s4)
    have hP5 := hP.same ((s14.trans (same_new nl1)).trans (same_new (o := .lst [.bl true, .bl false, .bl false]) nl2))
    generalize upd (upd H4 l1 (.lst _)) l2 _ = H5 at hP5 ⊢
    refine ⟨9, rfl, by decide, by decide, ?_⟩
    refine for_it (walk_range (lo := 0) (n := 9)) (fun i σ H' => (∃ u0 u2 u3 u4 u5 u6 u7 u8 u9 u10 u11 u12 u13 u14 u15 u16, σ = [u0, some (.ref p), u2, u3, u4, u5, u6, u7, u8, u9, u10, u11, u12, u13, u14, u15, u16]) ∧ Pen H' p c (64 * i)) ⟨⟨_, _, _, _, _, _, _, _, _, _, _, _, _, _, _, _, rfl⟩, hP5.mono (Nat.zero_le _)⟩ (fun _ _ _ _ _ => trivial) (fun i x σ H6 H6' hi ⟨⟨u0, u2, u3, u4, u5, u6, u7, u8, u9, u10, u11, u12, u13, u14, u15, u16, hσ⟩, hP6⟩ y => ?_) (fun σ H6 z => q H6)
    subst hσ
    obtain ⟨rfl, rfl⟩ := y
    clear hP5 s14 n1 n2 n3 n4 n5 n6 s1 s2 s3 s4 hP np nl1 nl2
    have hi' : i < 9 := hi
    -- many = 1 + draw(8)
    refine ⟨.ref p, rfl, p, c, 8, 64 * i, rfl, hP6, by decide, by decide, by omega, fun r7 H7 r70 r71 hP7 hB7 => ?_⟩
    refine ⟨_, _, rfl, rfl, ?_⟩
    obtain ⟨n, hn⟩ : ∃ n : Nat, 1 + r7 = (n : Int) := ⟨(1 + r7).toNat, by omega⟩
    dsimp only
    rw [hn]
    have hn1 : 1 ≤ n := by omega
    have hn8 : n ≤ 8 := by omega
    clear hn r70 r71
    -- base, top, bottom
    refine ⟨.ref p, rfl, .int n, rfl, p, c, 64 * i + 1, n, rfl, hP7, by omega, by omega, fun tb ns H8 len8 hb8 htb hP8 hB8 => ?_⟩
    refine ⟨.ref p, rfl, p, c, 9, _, rfl, hP8, by decide, by decide, by omega, fun r9 H9 r90 r91 hP9 hB9 => ⟨_, _, rfl, rfl, ?_⟩⟩
    refine ⟨.ref p, rfl, p, c, 9, _, rfl, hP9, by decide, by decide, by omega, fun r10 H10 r100 r101 hP10 hB10 => ⟨_, _, rfl, rfl, ?_⟩⟩
    refine ⟨(by show 3 ≤ sizeLine; decide), fun t10 nt10 => ?_⟩
    refine ⟨t10, _, rfl, .of upd_same, rfl, _, _, rfl, _, _, rfl, _, _, rfl, rfl, ?_⟩
    dsimp only
    have hP11 : Pen (upd H10 t10 (.tup [.ref tb, .int (1 + r9), .int (1 + r10)])) p c (64 * i + 1 + 2 * n + 1 + 1) := hP10.same (same_new nt10)
    have htb11 : upd H10 t10 (.tup [.ref tb, .int (1 + r9), .int (1 + r10)]) tb = some (.tup (ns.map V.int)) := same_new nt10 _ _ (hB10.tup hP9 (hB9.tup hP8 htb))
    generalize upd H10 t10 (.tup [.ref tb, .int (1 + r9), .int (1 + r10)]) = H11 at hP11 htb11 ⊢
    clear nt10 hP10 hB10 hP9 hB9 hP8 hB8 htb hP7 hB7 hP6
    obtain ⟨top, htop⟩ : ∃ top : Int, 1 + r9 = top := ⟨_, rfl⟩
    obtain ⟨bot, hbot⟩ : ∃ bot : Int, 1 + r10 = bot := ⟨_, rfl⟩
    rw [htop, hbot]
    have htop1 : 1 ≤ top := by omega
    have htop9 : top ≤ 9 := by omega
    have hbot1 : 1 ≤ bot := by omega
    have hbot9 : bot ≤ 9 := by omega
    clear htop hbot r90 r91 r100 r101
    -- one
    refine ⟨.ref tb, rfl, tb, rfl, ⟨_, .of htb11⟩, fun D nD => ?_⟩
    refine lc_it (walk_tup (K := K) (a := tb) (xs := ns.map V.int)) (AccP D (MapP (Same H11) ns fun f => .int (top * f))) (.zero ⟨same_new nD, rfl⟩) (fun i H' _ ⟨_, _, _, z⟩ => .of (z.1 _ _ htb11)) (fun i x H' H'' hi ⟨acc, e1, l1, z, eacc⟩ y => ?_) (fun H12 ⟨acc, e1, _, s12, eacc⟩ => ?_)
    · obtain ⟨rfl, hx⟩ := y
      obtain ⟨f, hf, rfl⟩ := get_int hx
      exact ⟨rfl, ⟨_, rfl, _, rfl, _, _, rfl, rfl, .inl (by omega), .inl ⟨_, rfl, AccP.put (small_size (by simp at hi; omega)) e1 l1 (mapP_next hf eacc (same_updN z nD))⟩⟩⟩
    rw [List.length_map, List.take_length] at eacc
    refine ⟨D, _, rfl, .inl ⟨.of e1, fun to nto => ?_⟩⟩
    have s12' := s12.trans (same_new (o := .tup acc) nto)
    have hP12 := hP11.same s12'
    have hone : Thing (upd H12 to (.tup acc)) (.ref to) (ns.map fun f => top * f) := ⟨to, rfl, by rw [upd_same, eacc, List.map_map]; rfl, by simp; omega, fun z hz => by
      obtain ⟨f, hf, rfl⟩ := List.mem_map.mp hz
      have := natAbs_mul_lt (show top.natAbs ≤ 9 by omega) (hb8 f hf)
      omega⟩
    have htb12 := s12' _ _ htb11
    generalize upd H12 to (.tup acc) = H13 at hP12 hone htb12 ⊢
    clear e1 eacc nD nto s12 s12' hP11 htb11
    -- other
    refine ⟨.ref tb, rfl, tb, rfl, ⟨_, .of htb12⟩, fun D2 nD => ?_⟩
    refine lc_it (walk_tup (K := K) (a := tb) (xs := ns.map V.int)) (AccP D2 (MapP (Same H13) ns fun f => .int (bot * f))) (.zero ⟨same_new nD, rfl⟩) (fun i H' _ ⟨_, _, _, z⟩ => .of (z.1 _ _ htb12)) (fun i x H' H'' hi ⟨acc, e1, l1, z, eacc⟩ y => ?_) (fun H14 ⟨acc2, e1, _, s12, eacc⟩ => ?_)
    · obtain ⟨rfl, hx⟩ := y
      obtain ⟨f, hf, rfl⟩ := get_int hx
      exact ⟨rfl, ⟨_, rfl, _, rfl, _, _, rfl, rfl, .inl (by omega), .inl ⟨_, rfl, AccP.put (small_size (by simp at hi; omega)) e1 l1 (mapP_next hf eacc (same_updN z nD))⟩⟩⟩
    rw [List.length_map, List.take_length] at eacc
    refine ⟨D2, _, rfl, .inl ⟨.of e1, fun tr nto => ?_⟩⟩
    have s12' := s12.trans (same_new (o := .tup acc2) nto)
    have hP14 := hP12.same s12'
    have hone := hone.same s12'
    have hother : Thing (upd H14 tr (.tup acc2)) (.ref tr) (ns.map fun f => bot * f) := ⟨tr, rfl, by rw [upd_same, eacc, List.map_map]; rfl, by simp; omega, fun z hz => by
      obtain ⟨f, hf, rfl⟩ := List.mem_map.mp hz
      have := natAbs_mul_lt (show bot.natAbs ≤ 9 by omega) (hb8 f hf)
      omega⟩
    have holen : (ns.map fun f => bot * f).length = n := by rw [List.length_map, len8]
    have honelen : (ns.map fun f => top * f).length = n := by rw [List.length_map, len8]
    have hob : ∀ z ∈ ns.map (fun f => bot * f), z.natAbs ≤ 180 := fun z hz => by
      obtain ⟨f, hf, rfl⟩ := List.mem_map.mp hz
      exact natAbs_mul_lt (show bot.natAbs ≤ 9 by omega) (hb8 f hf)
    generalize (ns.map fun f => bot * f) = ms at hother holen hob ⊢
    generalize (ns.map fun f => top * f) = os at hone honelen ⊢
    generalize upd H14 tr (.tup acc2) = H15 at hP14 hone hother ⊢
    clear e1 eacc nD nto s12 s12' hP12 htb12 hb8 len8
    -- at = draw(many)
    refine ⟨.ref p, rfl, .int n, rfl, p, c, n, _, rfl, hP14, by omega, by omega, by omega, fun r H16 r0 r1 hP16 hB16 => ?_⟩
    obtain ⟨k, rfl⟩ : ∃ k : Nat, r = (k : Int) := ⟨r.toNat, by omega⟩
    have hkn : k < n := by omega
    have hone := hone.but hB16 hP14
    have hother := hother.but hB16 hP14
    clear hB16 hP14 r0 r1
    obtain ⟨_, e, hto, holen2, hob2⟩ := hother
    cases e
    -- bent
    refine ⟨.ref tr, rfl, .int k, rfl, k, rfl, tr, _, rfl, hto, fun p1 H17 s17 e17 => ?_⟩
    have hP17 := hP16.same s17
    refine ⟨.ref tr, rfl, .int k, rfl, tr, _, _, _, rfl, rfl, .of (s17 _ _ hto), atI_int (by omega), .ref p, rfl, 1, rfl, (by show 3 ≤ sizeLine; decide), fun l17 nl17 => ?_⟩
    refine ⟨p, c, l17, _, _, rfl, hP17.same (same_new nl17), hP17.ne_none nl17, .inl (.inl upd_same), by simp, (by show 3 < 2 ^ 20; decide), by omega, fun x18 H18 mem18 hP18 hB18 => ?_⟩
    obtain ⟨d, rfl, hd⟩ : ∃ d : Int, x18 = .int d ∧ d.natAbs ≤ 5 := by
      simp only [List.mem_cons, List.not_mem_nil, or_false] at mem18
      rcases mem18 with rfl | rfl | rfl <;> refine ⟨_, rfl, ?_⟩ <;> omega
    have b18 : But p H16 H18 := ((But.of_same s17).trans (but_new nl17)).trans hB18
    have e18 : H18 p1 = some (.tup (cutV (ms.map V.int) none (some (k : Int)))) := (But.trans (but_new nl17) hB18).tup hP17 e17
    have hto18 := b18.tup hP16 hto
    have hone18 := hone.but b18 hP16
    refine ⟨_, _, rfl, rfl, (by show 1 ≤ sizeLine; decide), fun t18 nt18 => ?_⟩
    obtain ⟨b1, eb1, mb1, lb1⟩ := cut_ints ms none (some (k : Int))
    obtain ⟨b2, eb2, mb2, lb2⟩ := cut_ints ms (some ((k : Int) + 1)) none
    rw [eb1] at e18
    refine ⟨p1, t18, _, _, rfl, rfl, same_new nt18 _ _ e18, upd_same, by rw [sizeLine_eq]; simp; omega, fun p2 H19 s19 e19 => ?_⟩
    have s19' := (same_new nt18).trans s19
    refine ⟨.ref tr, rfl, .int k, rfl, _, _, rfl, rfl, _, rfl, tr, _, rfl, s19' _ _ hto18, fun p3 H20 s20 e20 => ?_⟩
    rw [eb2] at e20
    refine ⟨p2, p3, _, _, rfl, rfl, s20 _ _ e19, e20, by rw [sizeLine_eq]; simp; omega, fun p4 H21 s21 e21 => ?_⟩
    have s21' := (s19'.trans s20).trans s21
    have hP21 := hP18.same s21'
    have hto21 := s21' _ _ hto18
    have hone21 := hone18.same s21'
    have hbent : Thing H21 (.ref p4) (b1 ++ [ms.getD k 0 + d] ++ b2) := ⟨p4, rfl, by rw [e21, List.map_append, List.map_append]; rfl, by simp; omega, fun z hz => by
      rcases List.mem_append.mp hz with hz | hz
      · rcases List.mem_append.mp hz with hz | hz
        · have := hob z (mb1 z hz)
          omega
        · have e := List.mem_singleton.mp hz
          have := hob _ (getD_mem (show k < ms.length by omega))
          omega
      · have := hob z (mb2 z hz)
        omega⟩
    generalize b1 ++ [ms.getD k 0 + d] ++ b2 = bs at hbent
    dsimp only
    clear e21 e20 e19 e18 s21' s21 s20 s19' s19 hto18 hone18 hP18 hP17 hP16 hto hone s17 e17 nl17 nt18 hB18 b18 eb1 mb1 lb1 eb2 mb2 lb2 mem18 hd
    -- turned
    refine ⟨.ref tr, rfl, tr, rfl, ⟨_, .of hto21⟩, fun D3 nD => ?_⟩
    refine lc_it (walk_tup (K := K) (a := tr) (xs := ms.map V.int)) (AccP D3 (MapP (Same H21) ms fun f => .int (-f))) (.zero ⟨same_new nD, rfl⟩) (fun i H' _ ⟨_, _, _, z⟩ => .of (z.1 _ _ hto21)) (fun i x H' H'' hi ⟨acc, e1, l1, z, eacc⟩ y => ?_) (fun H22 ⟨acc3, e1, _, s22, eacc⟩ => ?_)
    · obtain ⟨rfl, hx⟩ := y
      obtain ⟨f, hf, rfl⟩ := get_int hx
      exact ⟨rfl, ⟨_, rfl, _, rfl, .inl ⟨_, rfl, AccP.put (small_size (by simp at hi; omega)) e1 l1 (mapP_next hf eacc (same_updN z nD))⟩⟩⟩
    rw [List.length_map, List.take_length] at eacc
    refine ⟨D3, _, rfl, .inl ⟨.of e1, fun tt ntt => ?_⟩⟩
    have s22' := s22.trans (same_new (o := .tup acc3) ntt)
    have hturned : Thing (upd H22 tt (.tup acc3)) (.ref tt) (ms.map fun f => -f) := ⟨tt, rfl, by rw [upd_same, eacc, List.map_map]; rfl, by simp; omega, fun z hz => by
      obtain ⟨f, hf, rfl⟩ := List.mem_map.mp hz
      have := hob f hf
      omega⟩
    have hP22 := hP21.same s22'
    have hto22 := s22' _ _ hto21
    have hone22 := hone21.same s22'
    have hbent22 := hbent.same s22'
    generalize upd H22 tt (.tup acc3) = H23 at hturned hP22 hto22 hone22 hbent22 ⊢
    generalize (ms.map fun f => -f) = us at hturned
    clear e1 eacc nD ntt s22 s22' hbent hone21 hto21 hP21
    -- the things
    refine ⟨_, rfl, _, rfl, _, rfl, (by show 1 ≤ sizeLine; decide), fun t23 nt23 => ⟨.int n, rfl, t23, n, [.int 0], rfl, rfl, upd_same, by simp, by omega, by omega, by simp, fun p5 H24 s24 e24 => ?_⟩⟩
    have s24' := (same_new nt23).trans s24
    have hP24 := hP22.same s24'
    refine ⟨.ref p, rfl, .int n, rfl, p, c, _, n, rfl, hP24, by omega, by omega, fun tf fs H25 len25 hb25 htf hP25 hB25 => ?_⟩
    have b25 : But p H23 H25 := (But.of_same s24').trans hB25
    have hzero : Thing H25 (.ref p5) (List.replicate n 0) := (show Thing H24 (.ref p5) (List.replicate n 0) from ⟨p5, rfl, by rw [e24, rep_zero], by simp; omega, fun z hz => by rw [List.eq_of_mem_replicate hz]; decide⟩).but hB25 hP24
    have hform : Thing H25 (.ref tf) fs := ⟨tf, rfl, htf, by omega, fun z hz => by
      have := hb25 z hz
      omega⟩
    have hto25 := b25.tup hP22 hto22
    have hone25 := hone22.but b25 hP22
    have hbent25 := hbent22.but b25 hP22
    have hturned25 := hturned.but b25 hP22
    refine ⟨.ref tr, rfl, (by show 1 ≤ sizeLine; decide), fun t25 nt25 => ⟨tr, t25, _, _, rfl, rfl, same_new nt25 _ _ hto25, upd_same, by rw [sizeLine_eq]; simp; omega, fun p6 H26 s26 e26 => ?_⟩⟩
    have s26' := (same_new nt25).trans s26
    refine ⟨.ref tr, rfl, 1, rfl, tr, _, rfl, s26' _ _ hto25, fun p7 H27 s27 e27 => ?_⟩
    obtain ⟨b7, eb7, mb7, lb7⟩ := cut_ints ms (some 1) none
    rw [eb7] at e27
    have s27' := s26'.trans s27
    refine ⟨(by show 7 ≤ sizeLine; decide), fun l27 nl27 => ?_⟩
    have sl := same_new (o := .lst [.ref tr, .ref p4, .ref tt, .ref p5, .ref tf, .ref p6, .ref p7]) nl27
    have s28 := s27'.trans sl
    have hthings : ∀ x ∈ [V.ref tr, .ref p4, .ref tt, .ref p5, .ref tf, .ref p6, .ref p7], ∃ zs, Thing (upd H27 l27 (.lst [.ref tr, .ref p4, .ref tt, .ref p5, .ref tf, .ref p6, .ref p7])) x zs := by
      intro x hx
      simp only [List.mem_cons, List.not_mem_nil, or_false] at hx
      rcases hx with rfl | rfl | rfl | rfl | rfl | rfl | rfl
      · exact ⟨ms, tr, rfl, s28 _ _ hto25, holen2, hob2⟩
      · exact ⟨_, hbent25.same s28⟩
      · exact ⟨_, hturned25.same s28⟩
      · exact ⟨_, hzero.same s28⟩
      · exact ⟨_, hform.same s28⟩
      · refine ⟨ms ++ [0], p6, rfl, sl _ _ (s27 _ _ (by rw [e26, List.map_append]; rfl)), by simp; omega, fun z hz => ?_⟩
        rcases List.mem_append.mp hz with hz | hz
        · exact hob2 z hz
        · rw [List.mem_singleton.mp hz]
          decide
      · refine ⟨b7, p7, rfl, sl _ _ e27, by omega, fun z hz => hob2 z (mb7 z hz)⟩
    have hone28 := hone25.same s28
    have hP28 := hP25.same s28
    have hl28 : SqL K (upd H27 l27 (.lst [.ref tr, .ref p4, .ref tt, .ref p5, .ref tf, .ref p6, .ref p7])) l27 [.ref tr, .ref p4, .ref tt, .ref p5, .ref tf, .ref p6, .ref p7] := .of upd_same
    dsimp only
    generalize upd H27 l27 (.lst [.ref tr, .ref p4, .ref tt, .ref p5, .ref tf, .ref p6, .ref p7]) = H28 at hthings hone28 hP28 hl28 ⊢
    generalize [V.ref tr, .ref p4, .ref tt, .ref p5, .ref tf, .ref p6, .ref p7] = things at hthings hl28 ⊢
    clear sl s28 s27' nl27 eb7 mb7 lb7 e27 s27 s26' e26 s26 nt25 hturned25 hbent25 hone25 hto25 hform hzero b25 hP25 hP24 hB25 hb25 htf s24' e24 s24 nt23 hturned hto22 hone22 hbent22 hP22 hob hob2 holen holen2 len25
    have hosz : asForm os = some os := by
      unfold asForm
      rw [if_pos (by omega)]
    refine ⟨_, rfl, ⟨_, hl28⟩, ?_⟩
    dsimp only [List.set]
    refine for_it2 (walk_list (K := K) (a := l27) (xs := things)) (fun i σ H' => (∃ v0 v2 v4 v5 v6 v8 v9 v10 v11 v12 v13 v14 v15 v16, σ = [v0, some (.ref p), v2, some (.int n), v4, v5, v6, some (.ref to), v8, v9, v10, v11, v12, v13, v14, v15, v16]) ∧ Same H28 H') ⟨⟨_, _, _, _, _, _, _, _, _, _, _, _, _, _, rfl⟩, .refl H28⟩ (fun i σ H' _ z => same_seqL' z.2 hl28) (fun i x σ H' H'' hi z y => ?_) (fun σ H29 z => ?_)
    · obtain ⟨⟨v0, v2, v4, v5, v6, v8, v9, v10, v11, v12, v13, v14, v15, v16, rfl⟩, sH⟩ := z
      obtain ⟨rfl, hx⟩ := y
      obtain ⟨zs, hzs⟩ := hthings x (List.mem_of_getElem? hx)
      have hzs := hzs.same sH
      have hone29 := hone28.same sH
      have harg := hzs.arg
      have harg1 : Arg H'' (.ref to) (some os) := hosz ▸ hone29.arg
      obtain ⟨b, rfl, hb, hbl, hbb⟩ := id hzs
      obtain ⟨_, e, hto, _, hoob⟩ := id hone29
      cases e
      refine ⟨.ref b, rfl, b, _, rfl, .inr (.of hb), .ref to, rfl, to, _, rfl, .inr (.of hto), rfl, _, rfl, ?_⟩
      rw [dec_int, List.length_map, List.length_map]
      have ed : mult (some os) (asForm zs) = (decide ((zs.length : Int) = os.length) && multI os zs) := by
        unfold asForm
        split
        · rfl
        · rename_i h8
          show false = _
          rw [decide_eq_false (by omega), Bool.false_and]
      refine ite2 (fun e => ?_) (fun e => ?_)
      case' refine_1 =>
        have hlen : (zs.length : Int) = os.length := of_decide_eq_true e
        rw [decide_eq_true hlen, Bool.true_and] at ed
        refine ⟨.ref to, rfl, .ref b, rfl, .ref to, .ref b, os, zs, rfl, ⟨to, rfl, hto⟩, ⟨b, rfl, hb⟩, by omega, by omega, by omega, hoob, hbb, fun H7 s7 => ?_⟩
        rw [← ed]
      case' refine_2 =>
        have s7 : Same H'' H'' := .refl _
        rw [decide_eq_false (fun z => e (decide_eq_true z)), Bool.false_and] at ed
        rw [← ed]
      all_goals
        obtain ⟨dd, hdd⟩ : ∃ dd, mult (some os) (asForm zs) = dd := ⟨_, rfl⟩
        rw [hdd]
        refine ⟨.ref to, rfl, .ref b, rfl, .ref to, .ref b, some os, asForm zs, rfl, harg1.same s7, harg.same s7, fun H8 s8 => ?_⟩
        rw [hdd]
        refine ⟨_, .bool dd, rfl, .bl dd, (repB dd).1, (repB dd).2.1, (repB dd).2.2.1, (repB dd).2.2.2, ?_⟩
        refine ⟨_, rfl, _, .bool dd, rfl, .bl dd, (repB dd).1, (repB dd).2.1, (repB dd).2.2.1, (repB dd).2.2.2, rfl, _, rfl, ite2 (fun e => (ne_self e).elim) (fun _ => ?_)⟩
        have s8' := s7.trans s8
        refine ⟨.ref to, rfl, .ref b, rfl, .ref b, .ref to, asForm zs, some os, rfl, harg.same s8', harg1.same s8', fun H9 s9 => ?_⟩
        rw [mult_swap, hdd]
        refine ⟨_, .bool dd, rfl, .bl dd, (repB dd).1, (repB dd).2.1, (repB dd).2.2.1, (repB dd).2.2.2, ?_⟩
        refine ⟨_, rfl, _, .bool dd, rfl, .bl dd, (repB dd).1, (repB dd).2.1, (repB dd).2.2.1, (repB dd).2.2.2, rfl, _, rfl, ite2 (fun e => (ne_self e).elim) (fun _ => ?_)⟩
        exact ⟨⟨_, _, _, _, _, _, _, _, _, _, _, _, _, _, rfl⟩, (sH.trans s8').trans s9⟩
    · obtain ⟨⟨v0, v2, v4, v5, v6, v8, v9, v10, v11, v12, v13, v14, v15, v16, rfl⟩, s29⟩ := z
      have hP29 := hP28.same s29
      have hone29 := hone28.same s29
      have hne := hone29.not hP29
      obtain ⟨_, e, hto, _, hoob⟩ := id hone29
      cases e
      -- odd
      refine ⟨.ref p, rfl, .ref to, rfl, to, _, rfl, .inr (.of hto), fun l30 n30 => ?_⟩
      refine ⟨(by show 1 ≤ sizeLine; decide), fun t31 n31 => ⟨.int n, rfl, t31, n, [.bl true], rfl, rfl, upd_same, by simp, by omega, by omega, by simp, fun p32 H32 s32 e32 => ?_⟩⟩
      refine ⟨(by show 1 ≤ sizeLine; decide), fun t33 n33 => ⟨.int n, rfl, t33, n, [.non], rfl, rfl, upd_same, by simp, by omega, by omega, by simp, fun p34 H34 s34 e34 => ?_⟩⟩
      intro d35 n35
      refine ⟨(by show 1 ≤ sizeLine; decide), fun t36 n36 => ⟨t36, 9, [.int 1], rfl, rfl, upd_same, by simp, by decide, by decide, by simp, fun p37 H37 s37 e37 => ?_⟩⟩
      refine ⟨(by show 8 ≤ sizeLine; decide), fun l38 n38 => ?_⟩
      have q31 := (same_new (o := .lst (os.map V.int)) n30).trans ((same_new n31).trans s32)
      have q33 := (same_new n33).trans s34
      have q36 := (same_new (o := .dK []) n35).trans ((same_new n36).trans s37)
      have q38 := same_new (o := .lst [.non, .int 1, .str "1", .ref l30, .ref p32, .ref p34, .ref d35, .ref p37]) n38
      have hP32 := hP29.same q31
      have hP34 := hP32.same q33
      have hP37 := hP34.same q36
      have hP38 := hP37.same q38
      have hlst : Odd p (upd H37 l38 (.lst [.non, .int 1, .str "1", .ref l30, .ref p32, .ref p34, .ref d35, .ref p37])) (.ref l30) :=
        (show Odd p H32 (.ref l30) from ⟨.inl ⟨.lst, by decide, ⟨l30, _, rfl, ((same_new n31).trans s32) _ _ upd_same⟩, rfl⟩, fun z => hP29.ne_none n30 (by cases z; rfl)⟩).same ((q33.trans q36).trans q38)
      have np : ∀ {a : Addr} {H : Hp} {m : Nat} {xs : List V}, Pen H p c m → H a = some (.tup xs) → a ≠ p := fun hP h => by
        obtain ⟨ys, e⟩ := hP.at_
        exact ne_of h e (by intro z; cases z)
      have htrue : Odd p (upd H37 l38 (.lst [.non, .int 1, .str "1", .ref l30, .ref p32, .ref p34, .ref d35, .ref p37])) (.ref p32) :=
        (odd_rep (v := .bl true) (n := n) (by rw [e32, rep_flat]) rfl (.inl rfl) hn1 (np hP32 e32)).same ((q33.trans q36).trans q38)
      have hnone : Odd p (upd H37 l38 (.lst [.non, .int 1, .str "1", .ref l30, .ref p32, .ref p34, .ref d35, .ref p37])) (.ref p34) :=
        (odd_rep (v := .non) (n := n) (by rw [e34, rep_flat]) rfl (.inl rfl) hn1 (np hP34 e34)).same (q36.trans q38)
      have hdict : Odd p (upd H37 l38 (.lst [.non, .int 1, .str "1", .ref l30, .ref p32, .ref p34, .ref d35, .ref p37])) (.ref d35) :=
        (show Odd p H37 (.ref d35) from ⟨.inl ⟨.dct, by decide, ⟨d35, _, rfl, ((same_new n36).trans s37) _ _ upd_same⟩, rfl⟩, fun z => hP34.ne_none n35 (by cases z; rfl)⟩).same q38
      have hones : Odd p (upd H37 l38 (.lst [.non, .int 1, .str "1", .ref l30, .ref p32, .ref p34, .ref d35, .ref p37])) (.ref p37) :=
        (odd_rep (v := .int 1) (n := 9) (by rw [e37]; exact congrArg (fun z => some (HO.tup z)) (rep_flat 9)) rfl (.inr (by decide)) (by decide) (np hP37 e37)).same q38
      have hto38 := hone29.same (((q31.trans q33).trans q36).trans q38)
      refine ⟨p, c, l38, _, _, rfl, hP38, hP37.ne_none n38, .inl (.inl upd_same), by simp, (by show 8 < 2 ^ 20; decide), by omega, fun x H39 mem hP39 hB39 => ?_⟩
      have hodd : Odd p H39 x := by
        refine Odd.but hB39 ?_
        simp only [List.mem_cons, List.not_mem_nil, or_false] at mem
        rcases mem with rfl | rfl | rfl | rfl | rfl | rfl | rfl | rfl
        · exact ⟨.inl ⟨.non, by decide, rfl, rfl⟩, by intro z; cases z⟩
        · exact ⟨.inl ⟨.int, by decide, ⟨1, rfl⟩, rfl⟩, by intro z; cases z⟩
        · exact ⟨.inl ⟨.str, by decide, ⟨_, rfl⟩, rfl⟩, by intro z; cases z⟩
        · exact hlst
        · exact htrue
        · exact hnone
        · exact hdict
        · exact hones
      have hone39 := hto38.but hB39 hP38
      have harg39 : Arg H39 (.ref to) (some os) := hosz ▸ hone39.arg
      clear hlst htrue hnone hdict hones mem hto38 hB39 hP38 hP37 hP34 hP32 q31 q33 q36 q38
      refine ⟨.ref to, rfl, x, rfl, .ref to, x, some os, none, rfl, harg39, hodd.1, fun H40 s40 => ?_⟩
      refine ⟨x, rfl, .ref to, rfl, x, .ref to, none, some os, rfl, hodd.1.same s40, harg39.same s40, fun H41 s41 => ?_⟩
      refine ⟨x, rfl, x, rfl, x, x, none, none, rfl, hodd.1.same (s40.trans s41), hodd.1.same (s40.trans s41), fun H42 s42 => ?_⟩
      refine ⟨(by show 3 ≤ sizeLine; decide), fun l43 n43 => ?_⟩
      refine ⟨_, rfl, _, .list [.bool false, .bool false, .bool false], rfl, .lst (.inl (.inl upd_same)) (dp_bools [false, false, false]), by decide +kernel, by decide +kernel, by decide +kernel, by decide +kernel, ?_⟩
      refine ⟨(by show 1 ≤ sizeLine; decide), fun l44 n44 => ⟨l44, 3, [.bl false], rfl, rfl, upd_same, by decide, by decide, by decide, fun l45 n45 => ?_⟩⟩
      refine ⟨_, .list [.bool false, .bool false, .bool false], rfl, .lst (.inl (.inl upd_same)) (dp_bools [false, false, false]), by decide +kernel, by decide +kernel, by decide +kernel, by decide +kernel, ?_⟩
      refine ⟨rfl, _, rfl, ite2 (fun e => (ne_self e).elim) (fun _ => ?_)⟩
      refine ⟨⟨_, _, _, _, _, _, _, _, _, _, _, _, _, _, _, _, rfl⟩, ?_⟩
      exact (hP39.same ((((s40.trans s41).trans s42).trans (same_new n43)).trans ((same_new n44).trans (same_new n45)))).mono (by omega)
end

theorem all_mk {P : Program} {w : World} {K : PySem.W.Frag} {h : Heap} {mg : Str → Option Value} {fa : Addr} (X : K.In h) (G : h.Ns mainGlobals mg) (hfa : mg "law" = some (.ref fa))
    {f0 : Addr} {od0 an0 : Option Addr} {sl0 : Array (Option Value)} {oc0 kV0 dc0 pm0 cd0 ct0 : Value}
    {f1 : Addr} {od1 an1 : Option Addr} {sl1 : Array (Option Value)} {oc1 kV1 dc1 pm1 cd1 ct1 : Value}
    {f2 : Addr} {od2 an2 : Option Addr} {sl2 : Array (Option Value)} {oc2 kV2 dc2 pm2 cd2 ct2 : Value}
    {f3 : Addr} {od3 an3 : Option Addr} {sl3 : Array (Option Value)} {oc3 kV3 dc3 pm3 cd3 ct3 : Value}
    {f4 : Addr} {od4 an4 : Option Addr} {sl4 : Array (Option Value)} {oc4 kV4 dc4 pm4 cd4 ct4 : Value}
    {f5 : Addr} {od5 an5 : Option Addr} {sl5 : Array (Option Value)} {oc5 kV5 dc5 pm5 cd5 ct5 : Value}
    {f6 : Addr} {od6 an6 : Option Addr} {sl6 : Array (Option Value)} {oc6 kV6 dc6 pm6 cd6 ct6 : Value}
    {f7 : Addr} {od7 an7 : Option Addr} {sl7 : Array (Option Value)} {oc7 kV7 dc7 pm7 cd7 ct7 : Value}
    {f8 : Addr} {od8 an8 : Option Addr} {sl8 : Array (Option Value)} {oc8 kV8 dc8 pm8 cd8 ct8 : Value}
    {f9 : Addr} {od9 an9 : Option Addr} {sl9 : Array (Option Value)} {oc9 kV9 dc9 pm9 cd9 ct9 : Value}
    {f10 : Addr} {od10 an10 : Option Addr} {sl10 : Array (Option Value)} {oc10 kV10 dc10 pm10 cd10 ct10 : Value}
    {f11 : Addr} {od11 an11 : Option Addr} {sl11 : Array (Option Value)} {oc11 kV11 dc11 pm11 cd11 ct11 : Value}
    {f12 : Addr} {od12 an12 : Option Addr} {sl12 : Array (Option Value)} {oc12 kV12 dc12 pm12 cd12 ct12 : Value}
    {tc_MOST_FACTORS : Tok}
    (a0 : PySem.W.nsIn K mainGlobals "is_integer" = some (some (.ref f0))) (l0 : K.lookup f0 = some ⟨oc0, od0, .func (PySem.W.fnOf "is_integer" "is_integer" (defArgs sis_integer) (defBody sis_integer) (defScope sis_integer) .none kV0 dc0 pm0 an0 cd0 ct0), sl0⟩) (c0 : PySem.W.codeIn K cd0 "is_integer" = true) (k0 : PySem.W.keepIn K (.ref f0) = true)
    (a1 : PySem.W.nsIn K mainGlobals "is_multiple" = some (some (.ref f1))) (l1 : K.lookup f1 = some ⟨oc1, od1, .func (PySem.W.fnOf "is_multiple" "is_multiple" (defArgs sis_multiple) (defBody sis_multiple) (defScope sis_multiple) .none kV1 dc1 pm1 an1 cd1 ct1), sl1⟩) (c1 : PySem.W.codeIn K cd1 "is_multiple" = true) (k1 : PySem.W.keepIn K (.ref f1) = true)
    (a2 : PySem.W.nsIn K mainGlobals "first_factor" = some (some (.ref f2))) (l2 : K.lookup f2 = some ⟨oc2, od2, .func (PySem.W.fnOf "first_factor" "first_factor" (defArgs sfirst_factor) (defBody sfirst_factor) (defScope sfirst_factor) .none kV2 dc2 pm2 an2 cd2 ct2), sl2⟩) (c2 : PySem.W.codeIn K cd2 "first_factor" = true) (k2 : PySem.W.keepIn K (.ref f2) = true)
    (a3 : PySem.W.nsIn K mainGlobals "is_form" = some (some (.ref f3))) (l3 : K.lookup f3 = some ⟨oc3, od3, .func (PySem.W.fnOf "is_form" "is_form" (defArgs sis_form) (defBody sis_form) (defScope sis_form) .none kV3 dc3 pm3 an3 cd3 ct3), sl3⟩) (c3 : PySem.W.codeIn K cd3 "is_form" = true) (k3 : PySem.W.keepIn K (.ref f3) = true)
    (a4 : PySem.W.nsIn K mainGlobals "is_form_of" = some (some (.ref f4))) (l4 : K.lookup f4 = some ⟨oc4, od4, .func (PySem.W.fnOf "is_form_of" "is_form_of" (defArgs sis_form_of) (defBody sis_form_of) (defScope sis_form_of) .none kV4 dc4 pm4 an4 cd4 ct4), sl4⟩) (c4 : PySem.W.codeIn K cd4 "is_form_of" = true) (k4 : PySem.W.keepIn K (.ref f4) = true)
    (a5 : PySem.W.nsIn K mainGlobals "is_nought" = some (some (.ref f5))) (l5 : K.lookup f5 = some ⟨oc5, od5, .func (PySem.W.fnOf "is_nought" "is_nought" (defArgs sis_nought) (defBody sis_nought) (defScope sis_nought) .none kV5 dc5 pm5 an5 cd5 ct5), sl5⟩) (c5 : PySem.W.codeIn K cd5 "is_nought" = true) (k5 : PySem.W.keepIn K (.ref f5) = true)
    (a6 : PySem.W.nsIn K mainGlobals "_law_pen" = some (some (.ref f6))) (l6 : K.lookup f6 = some ⟨oc6, od6, .func (PySem.W.fnOf "_law_pen" "_law_pen" (defArgs s_law_pen) (defBody s_law_pen) (defScope s_law_pen) .none kV6 dc6 pm6 an6 cd6 ct6), sl6⟩) (c6 : PySem.W.codeIn K cd6 "_law_pen" = true) (k6 : PySem.W.keepIn K (.ref f6) = true)
    (a7 : PySem.W.nsIn K mainGlobals "_law_draw" = some (some (.ref f7))) (l7 : K.lookup f7 = some ⟨oc7, od7, .func (PySem.W.fnOf "_law_draw" "_law_draw" (defArgs s_law_draw) (defBody s_law_draw) (defScope s_law_draw) .none kV7 dc7 pm7 an7 cd7 ct7), sl7⟩) (c7 : PySem.W.codeIn K cd7 "_law_draw" = true) (k7 : PySem.W.keepIn K (.ref f7) = true)
    (a8 : PySem.W.nsIn K mainGlobals "_law_pick" = some (some (.ref f8))) (l8 : K.lookup f8 = some ⟨oc8, od8, .func (PySem.W.fnOf "_law_pick" "_law_pick" (defArgs s_law_pick) (defBody s_law_pick) (defScope s_law_pick) .none kV8 dc8 pm8 an8 cd8 ct8), sl8⟩) (c8 : PySem.W.codeIn K cd8 "_law_pick" = true) (k8 : PySem.W.keepIn K (.ref f8) = true)
    (a9 : PySem.W.nsIn K mainGlobals "_law_factor" = some (some (.ref f9))) (l9 : K.lookup f9 = some ⟨oc9, od9, .func (PySem.W.fnOf "_law_factor" "_law_factor" (defArgs s_law_factor) (defBody s_law_factor) (defScope s_law_factor) .none kV9 dc9 pm9 an9 cd9 ct9), sl9⟩) (c9 : PySem.W.codeIn K cd9 "_law_factor" = true) (k9 : PySem.W.keepIn K (.ref f9) = true)
    (a10 : PySem.W.nsIn K mainGlobals "_law_form" = some (some (.ref f10))) (l10 : K.lookup f10 = some ⟨oc10, od10, .func (PySem.W.fnOf "_law_form" "_law_form" (defArgs s_law_form) (defBody s_law_form) (defScope s_law_form) .none kV10 dc10 pm10 an10 cd10 ct10), sl10⟩) (c10 : PySem.W.codeIn K cd10 "_law_form" = true) (k10 : PySem.W.keepIn K (.ref f10) = true)
    (a11 : PySem.W.nsIn K mainGlobals "_law_due" = some (some (.ref f11))) (l11 : K.lookup f11 = some ⟨oc11, od11, .func (PySem.W.fnOf "_law_due" "_law_due" (defArgs s_law_due) (defBody s_law_due) (defScope s_law_due) .none kV11 dc11 pm11 an11 cd11 ct11), sl11⟩) (c11 : PySem.W.codeIn K cd11 "_law_due" = true) (k11 : PySem.W.keepIn K (.ref f11) = true)
    (a12 : PySem.W.nsIn K mainGlobals "law" = some (some (.ref f12))) (l12 : K.lookup f12 = some ⟨oc12, od12, .func (PySem.W.fnOf "law" "law" (defArgs slaw) (defBody slaw) (defScope slaw) .none kV12 dc12 pm12 an12 cd12 ct12), sl12⟩) (c12 : PySem.W.codeIn K cd12 "law" = true) (k12 : PySem.W.keepIn K (.ref f12) = true)
    (z_abs : PySem.W.nsIn K mainGlobals "abs" = some none)
    (z_all : PySem.W.nsIn K mainGlobals "all" = some none)
    (z_bool : PySem.W.nsIn K mainGlobals "bool" = some none)
    (z_enumerate : PySem.W.nsIn K mainGlobals "enumerate" = some none)
    (z_int : PySem.W.nsIn K mainGlobals "int" = some none)
    (z_isinstance : PySem.W.nsIn K mainGlobals "isinstance" = some none)
    (z_len : PySem.W.nsIn K mainGlobals "len" = some none)
    (z_list : PySem.W.nsIn K mainGlobals "list" = some none)
    (z_range : PySem.W.nsIn K mainGlobals "range" = some none)
    (z_repr : PySem.W.nsIn K mainGlobals "repr" = some none)
    (z_tuple : PySem.W.nsIn K mainGlobals "tuple" = some none)
    (z_zip : PySem.W.nsIn K mainGlobals "zip" = some none)
    (c_MOST_FACTORS : PySem.W.nsIn K mainGlobals "MOST_FACTORS" = some (some (.int 8 tc_MOST_FACTORS))) :
    ∃ fd : FuncData, (∀ (s : Shared) (v : Value), BindsTo s fd ⟨[v], []⟩ [("_law_script", v)]) ∧ ∀ base : Heap, K.In base → base.Ns mainGlobals mg → GOk P w K mg base 5 fa fd ["_law_script"] (spLaw K) := by
  let T : Top K mg := {
    a_is_integer := f0,
    d_is_integer := (PySem.W.fnOf "is_integer" "is_integer" (defArgs sis_integer) (defBody sis_integer) (defScope sis_integer) .none kV0 dc0 pm0 an0 cd0 ct0),
    F_is_integer := fun_mk (st := sis_integer) l0 c0 k0,
    g_is_integer := PySem.W.mg_of X G a0,
    b_is_integer := (fun_mk (st := sis_integer) l0 c0 k0).binds (ps := ["value"]) fun _ _ _ _ _ _ us hl => match us, hl with | [_], _ => rfl,
    a_is_multiple := f1,
    d_is_multiple := (PySem.W.fnOf "is_multiple" "is_multiple" (defArgs sis_multiple) (defBody sis_multiple) (defScope sis_multiple) .none kV1 dc1 pm1 an1 cd1 ct1),
    F_is_multiple := fun_mk (st := sis_multiple) l1 c1 k1,
    g_is_multiple := PySem.W.mg_of X G a1,
    b_is_multiple := (fun_mk (st := sis_multiple) l1 c1 k1).binds (ps := ["one", "other"]) fun _ _ _ _ _ _ us hl => match us, hl with | [_, _], _ => rfl,
    a_first_factor := f2,
    d_first_factor := (PySem.W.fnOf "first_factor" "first_factor" (defArgs sfirst_factor) (defBody sfirst_factor) (defScope sfirst_factor) .none kV2 dc2 pm2 an2 cd2 ct2),
    F_first_factor := fun_mk (st := sfirst_factor) l2 c2 k2,
    g_first_factor := PySem.W.mg_of X G a2,
    b_first_factor := (fun_mk (st := sfirst_factor) l2 c2 k2).binds (ps := ["form"]) fun _ _ _ _ _ _ us hl => match us, hl with | [_], _ => rfl,
    a_is_form := f3,
    d_is_form := (PySem.W.fnOf "is_form" "is_form" (defArgs sis_form) (defBody sis_form) (defScope sis_form) .none kV3 dc3 pm3 an3 cd3 ct3),
    F_is_form := fun_mk (st := sis_form) l3 c3 k3,
    g_is_form := PySem.W.mg_of X G a3,
    b_is_form := (fun_mk (st := sis_form) l3 c3 k3).binds (ps := ["value"]) fun _ _ _ _ _ _ us hl => match us, hl with | [_], _ => rfl,
    a_is_form_of := f4,
    d_is_form_of := (PySem.W.fnOf "is_form_of" "is_form_of" (defArgs sis_form_of) (defBody sis_form_of) (defScope sis_form_of) .none kV4 dc4 pm4 an4 cd4 ct4),
    F_is_form_of := fun_mk (st := sis_form_of) l4 c4 k4,
    g_is_form_of := PySem.W.mg_of X G a4,
    b_is_form_of := (fun_mk (st := sis_form_of) l4 c4 k4).binds (ps := ["value", "many"]) fun _ _ _ _ _ _ us hl => match us, hl with | [_, _], _ => rfl,
    a_is_nought := f5,
    d_is_nought := (PySem.W.fnOf "is_nought" "is_nought" (defArgs sis_nought) (defBody sis_nought) (defScope sis_nought) .none kV5 dc5 pm5 an5 cd5 ct5),
    F_is_nought := fun_mk (st := sis_nought) l5 c5 k5,
    g_is_nought := PySem.W.mg_of X G a5,
    b_is_nought := (fun_mk (st := sis_nought) l5 c5 k5).binds (ps := ["form"]) fun _ _ _ _ _ _ us hl => match us, hl with | [_], _ => rfl,
    a__law_pen := f6,
    d__law_pen := (PySem.W.fnOf "_law_pen" "_law_pen" (defArgs s_law_pen) (defBody s_law_pen) (defScope s_law_pen) .none kV6 dc6 pm6 an6 cd6 ct6),
    F__law_pen := fun_mk (st := s_law_pen) l6 c6 k6,
    g__law_pen := PySem.W.mg_of X G a6,
    b__law_pen := (fun_mk (st := s_law_pen) l6 c6 k6).binds (ps := ["_law_script"]) fun _ _ _ _ _ _ us hl => match us, hl with | [_], _ => rfl,
    a__law_draw := f7,
    d__law_draw := (PySem.W.fnOf "_law_draw" "_law_draw" (defArgs s_law_draw) (defBody s_law_draw) (defScope s_law_draw) .none kV7 dc7 pm7 an7 cd7 ct7),
    F__law_draw := fun_mk (st := s_law_draw) l7 c7 k7,
    g__law_draw := PySem.W.mg_of X G a7,
    b__law_draw := (fun_mk (st := s_law_draw) l7 c7 k7).binds (ps := ["_law_pen_here", "_law_many"]) fun _ _ _ _ _ _ us hl => match us, hl with | [_, _], _ => rfl,
    a__law_pick := f8,
    d__law_pick := (PySem.W.fnOf "_law_pick" "_law_pick" (defArgs s_law_pick) (defBody s_law_pick) (defScope s_law_pick) .none kV8 dc8 pm8 an8 cd8 ct8),
    F__law_pick := fun_mk (st := s_law_pick) l8 c8 k8,
    g__law_pick := PySem.W.mg_of X G a8,
    b__law_pick := (fun_mk (st := s_law_pick) l8 c8 k8).binds (ps := ["_law_pen_here", "_law_some"]) fun _ _ _ _ _ _ us hl => match us, hl with | [_, _], _ => rfl,
    a__law_factor := f9,
    d__law_factor := (PySem.W.fnOf "_law_factor" "_law_factor" (defArgs s_law_factor) (defBody s_law_factor) (defScope s_law_factor) .none kV9 dc9 pm9 an9 cd9 ct9),
    F__law_factor := fun_mk (st := s_law_factor) l9 c9 k9,
    g__law_factor := PySem.W.mg_of X G a9,
    b__law_factor := (fun_mk (st := s_law_factor) l9 c9 k9).binds (ps := ["_law_pen_here"]) fun _ _ _ _ _ _ us hl => match us, hl with | [_], _ => rfl,
    a__law_form := f10,
    d__law_form := (PySem.W.fnOf "_law_form" "_law_form" (defArgs s_law_form) (defBody s_law_form) (defScope s_law_form) .none kV10 dc10 pm10 an10 cd10 ct10),
    F__law_form := fun_mk (st := s_law_form) l10 c10 k10,
    g__law_form := PySem.W.mg_of X G a10,
    b__law_form := (fun_mk (st := s_law_form) l10 c10 k10).binds (ps := ["_law_pen_here", "_law_many"]) fun _ _ _ _ _ _ us hl => match us, hl with | [_, _], _ => rfl,
    a__law_due := f11,
    d__law_due := (PySem.W.fnOf "_law_due" "_law_due" (defArgs s_law_due) (defBody s_law_due) (defScope s_law_due) .none kV11 dc11 pm11 an11 cd11 ct11),
    F__law_due := fun_mk (st := s_law_due) l11 c11 k11,
    g__law_due := PySem.W.mg_of X G a11,
    b__law_due := (fun_mk (st := s_law_due) l11 c11 k11).binds (ps := ["_law_one", "_law_other"]) fun _ _ _ _ _ _ us hl => match us, hl with | [_, _], _ => rfl,
    a_law := f12,
    d_law := (PySem.W.fnOf "law" "law" (defArgs slaw) (defBody slaw) (defScope slaw) .none kV12 dc12 pm12 an12 cd12 ct12),
    F_law := fun_mk (st := slaw) l12 c12 k12,
    g_law := PySem.W.mg_of X G a12,
    b_law := (fun_mk (st := slaw) l12 c12 k12).binds (ps := ["_law_script"]) fun _ _ _ _ _ _ us hl => match us, hl with | [_], _ => rfl,
    kb_is_multiple_0 := { to := fun s us ws _ hl => by { obtain ⟨h1, h2⟩ := gPerm_len hl (by decide); match us, ws, h1, h2 with | [], [_, _], _, _ => exact .of_eq rfl }, rel := fun r q => gPerm_rel r q },
    e_law := fun s v => .of_eq rfl,
    z_abs := PySem.W.mg_none_of X G z_abs,
    z_all := PySem.W.mg_none_of X G z_all,
    z_bool := PySem.W.mg_none_of X G z_bool,
    z_enumerate := PySem.W.mg_none_of X G z_enumerate,
    z_int := PySem.W.mg_none_of X G z_int,
    z_isinstance := PySem.W.mg_none_of X G z_isinstance,
    z_len := PySem.W.mg_none_of X G z_len,
    z_list := PySem.W.mg_none_of X G z_list,
    z_range := PySem.W.mg_none_of X G z_range,
    z_repr := PySem.W.mg_none_of X G z_repr,
    z_tuple := PySem.W.mg_none_of X G z_tuple,
    z_zip := PySem.W.mg_none_of X G z_zip,
    t_MOST_FACTORS := tc_MOST_FACTORS,
    c_MOST_FACTORS := PySem.W.mg_of X G c_MOST_FACTORS }
  have e : Value.ref fa = .ref T.a_law := Option.some.inj (hfa.symm.trans T.g_law)
  injection e with e
  subst e
  exact ⟨T.d_law, T.e_law, fun base _ _ => ok_law T⟩
end JP
open PySem PySem.W PyProof.Rows
set_option maxRecDepth 100000 in
set_option maxHeartbeats 0 in
theorem PySem.Challenge.cw_rowcounts_k28_whole_multiples_of_forms_holds : PySem.Challenge.rw_rowcounts_k28_whole_multiples_of_forms.Holds := by
  w_on; o_law; k_head; (case hw => w_witness2)
  k_fill
  refine JP.walk_g (l := PySem.Challenge.rw_rowcounts_k28_whole_multiples_of_forms) (n := 63) (k := 5) (x := "_law_script") (sp := fun K => JP.spLaw K) rfl (by decide) rfl ⟨rfl, by decide, by decide⟩ (fun w h Y => PySem.W.kIn_of Y) ?F (fun _ _ a ns hl _ hS => ⟨a, ns, rfl, hS, hl, fun _ => rfl⟩)
  case F =>
    intro w mg fa h KX G hmg
    refine' JP.all_mk KX G hmg ?a0 ?l0 ?c0 ?k0 ?a1 ?l1 ?c1 ?k1 ?a2 ?l2 ?c2 ?k2 ?a3 ?l3 ?c3 ?k3 ?a4 ?l4 ?c4 ?k4 ?a5 ?l5 ?c5 ?k5 ?a6 ?l6 ?c6 ?k6 ?a7 ?l7 ?c7 ?k7 ?a8 ?l8 ?c8 ?k8 ?a9 ?l9 ?c9 ?k9 ?a10 ?l10 ?c10 ?k10 ?a11 ?l11 ?c11 ?k11 ?a12 ?l12 ?c12 ?k12 ?z_abs ?z_all ?z_bool ?z_enumerate ?z_int ?z_isinstance ?z_len ?z_list ?z_range ?z_repr ?z_tuple ?z_zip ?c_MOST_FACTORS
    (case a0 => k_is); (case l0 => k_is); (case c0 => k_is); (case k0 => k_is); (case a1 => k_is); (case l1 => k_is); (case c1 => k_is); (case k1 => k_is); (case a2 => k_is); (case l2 => k_is); (case c2 => k_is); (case k2 => k_is); (case a3 => k_is); (case l3 => k_is); (case c3 => k_is); (case k3 => k_is); (case a4 => k_is); (case l4 => k_is); (case c4 => k_is); (case k4 => k_is); (case a5 => k_is); (case l5 => k_is); (case c5 => k_is); (case k5 => k_is); (case a6 => k_is); (case l6 => k_is); (case c6 => k_is); (case k6 => k_is); (case a7 => k_is); (case l7 => k_is); (case c7 => k_is); (case k7 => k_is); (case a8 => k_is); (case l8 => k_is); (case c8 => k_is); (case k8 => k_is); (case a9 => k_is); (case l9 => k_is); (case c9 => k_is); (case k9 => k_is); (case a10 => k_is); (case l10 => k_is); (case c10 => k_is); (case k10 => k_is); (case a11 => k_is); (case l11 => k_is); (case c11 => k_is); (case k11 => k_is); (case a12 => k_is); (case l12 => k_is); (case c12 => k_is); (case k12 => k_is); (case z_abs => k_is); (case z_all => k_is); (case z_bool => k_is); (case z_enumerate => k_is); (case z_int => k_is); (case z_isinstance => k_is); (case z_len => k_is); (case z_list => k_is); (case z_range => k_is); (case z_repr => k_is); (case z_tuple => k_is); (case z_zip => k_is); (case c_MOST_FACTORS => k_is)
