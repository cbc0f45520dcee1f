import PyProof.Rows.All
import Wide.All
import OpenK.AllK
import Wide.FinOn
import HandS.ForMost
import HandS.IsInst
import PyProof.ReprRoads
import PyProof.ReprText
import HandS.Wide
import HandS.Walk
import HandS.Zip
import KE.KEqSeq
import HandS.TupMul
import KE.GoesEnum
import KE.GoesMore
import KE.KEqDeep
import OpenK.KMore
import HandS.Exc
import HandS.ExcInit
import HandS.ExcField
import HandS.ExcIs
import HandS.TryOnly
import HandS.ClsMeth
import HandS.Defaults
import HandS.MakeKw
import HandS.Text
import HandS.StrMore
import HandS.Flow
import HandS.SlotsOwn
import HandS.ExcOwn
import KE.KCallOwn
import KE.KExcIs
import KE.KFmtOwn
import PyProof.InstEq
import HandS.Star
import HandS.WordsExc
import KE.IntTextLaws
import HandS.Lambda
import KE.GoesZip
import PySem.Challenge.RW_rowcounts_k27_bounds_written_and_read
set_option Elab.async false
set_option linter.all false
set_option maxRecDepth 100000
set_option maxHeartbeats 4000000
namespace JP
open PySem PySem.Spec PyProof.Rows L2

/-! ## defs that are only called where no repr is going on -/
/-- a promise that is kept wherever no guard is on the stack -/
structure GOk (P : Program) (w : World) (K : PySem.W.Frag) (mg : Str → Option Value) (base : Heap) (k : Nat) (f : Addr) (fd : FuncData) (ps : List Str) (sp : Sp) : Prop where
  arity : ∀ vs H Q E, sp vs H Q E → vs.length = ps.length
  kept : ∀ (A : Around) (outer : List Env) (s : Shared) (H : Hp) (args : Args) (us : List Value) (vs : List V) (Q : VK) (E : XK), A.guards = some [] → Room k A →
    Env0 P w K mg base A outer s H → BindsTo s fd args (ps.zip us) → Vals vs us → sp vs H Q E → codeAny (model P w) A (.call (.ref f) args) (CR CX0 outer P w H s Q E) s

section
variable {P : Program} {w : World} {K : PySem.W.Frag} {mg : Str → Option Value} {base : Heap} {j k : Nat} {f : Addr} {fd : FuncData} {ps N : List Str} {sp : Sp}
theorem GOk.ofFn (F : FnOk P w K mg base CX0 k f fd ps sp) : GOk P w K mg base k f fd ps sp :=
  ⟨F.len, fun A outer s H args us vs Q E _ hr e0 hb hv hs => F.run A outer s H args us vs Q E hr e0 hb hv hs⟩
theorem GOk.mono (F : GOk P w K mg base j f fd ps sp) (h : j ≤ k) : GOk P w K mg base k f fd ps sp :=
  ⟨F.arity, fun A outer s H args us vs Q E g hr e0 hb hv hs => F.kept A outer s H args us vs Q E g (hr.mono h) e0 hb hv hs⟩

/-- a def of the text by its body; g: no guard around the body -/
theorem gok {x qual : Str} {st : Stmt} (F : Fun K x qual st f fd) (S : FnScope N ps (defScope st)) (len : ∀ vs H Q E, sp vs H Q E → vs.length = ps.length)
    (body : ∀ (cdv : Value) (A : Around) (outer : List Env) (s : Shared) (H : Hp) (vs : List V) (Q : VK) (E : XK), A.guards = some [] →
      Room k (A.deeper (envOfC qual (defScope st) s.heap.objs.size f cdv)) → sp vs H Q E →
      ∃ t, PSs (cxOf CX0 P w K mg base N qual (defScope st) f cdv A outer s H E).nox (defBody st) t ∧ t { nx := fun _ H' => Q .non H', rt := Q } (start N vs) H) :
    GOk P w K mg base (k + 1) f fd ps sp := by
  obtain ⟨oc, od, kV, doc, pm, an, cdv, ct, osl, rfl, lk, hcd⟩ := F.ex
  constructor
  · exact len
  intro A outer s H args us vs Q E g hr e0 hb r hs
  have hl := len vs H Q E hs
  have inK : K.In s.heap := e0.mod.kin.keeps fun b o q => (e0.bs b o q).1
  have nl : s.heap.NoLimit := e0.mod.nolimit.keeps fun b o q => (e0.bs b o q).1
  have kinds : ∀ y ∈ ps.zip us, (defScope st).names.lookup y.1 = some .local ∨ ((defScope st).names.lookup y.1 = some .cell ∧ ((cellsFrom (s.heap.objs.size + 1) (defScope st).names []).lookup y.1).isSome = true) := by
    intro y hy
    obtain ⟨n, v⟩ := y
    cases S.par n (List.of_mem_zip hy).1 with
    | inl q => exact Or.inl q
    | inr q => exact Or.inr (And.intro q (PySem.W.cellsFrom_some _ _ _ (Or.inl q)))
  apply codeAny_call_function hr.depth (inK _ _ lk) rfl S.co S.gen rfl (PySem.W.codeRec_of inK hcd)
  apply hb
  apply wpAny_newFunctionEnv_cells S.kind kinds
  intro env he s1 x1
  subst he
  refine And.intro (nl.keeps x1.toInCall.keep) (codeAny_func ?_)
  obtain ⟨t, ht, hq⟩ := body cdv A outer s H vs Q E g (hr.deeper _) hs
  have I : Inv (cxOf CX0 P w K mg base N qual (defScope st) f cdv A outer s H E) [] (start N vs) H s1 := inv_start S hr.hd e0 hl r x1
  apply wpAny_mono (ht.nox.run [] s1 (start N vs) H _ I hq)
  · intro fl s' q
    match fl, q with
    | .ret u, ⟨v, _, H', J, rv, z⟩ => exact ⟨v, H', J.os, J.bare, J.base, J.hok, rv, z⟩
    | .next, ⟨_, H', J, z⟩ => exact ⟨.non, H', J.os, J.bare, J.base, J.hok, rfl, z⟩
    | .brk, ⟨_, _, _, z⟩ => exact z.elim
    | .cont, ⟨_, _, _, z⟩ => exact z.elim
  · exact fun _ _ q => q
end

section
variable {X : Cx} {k : Nat} {f : Addr} {fd : FuncData} {ps : List Str} {sp : Sp} {x : Str} {p pos : Pos} {e : Expr} {es : List Expr} {t : TA} {dvs : List V} {ds : List Value} {E : XK}
theorem run_g {pins : List (Addr × Obj)} {σ : L2.St} {H : Hp} {s : Shared} {Q : VK} {us : List Value} {vs : List V} (F : GOk X.prog X.w X.K X.mg X.base k f fd ps sp) (g : X.A.guards = some []) (hr : Room k X.A)
    (hb : Binds X.K fd ps ds) (hd : Vals dvs ds) (I : Inv X pins σ H s) (r : Vals vs us) (h : sp (vs ++ dvs) H Q E) : wpAny (model X.prog X.w) X.A (call (.ref f) us) (EP X pins σ Q) X.xe s := by
  have r' := Vals.append r hd
  have n : (us ++ ds).length = ps.length := r'.length.symm.trans (F.arity _ _ _ _ h)
  apply wpAny_call
  apply codeAny_mono (F.kept X.A X.stack s H ⟨us, []⟩ (us ++ ds) (vs ++ dvs) Q E g hr I.env0 (hb s us I.kIn n) r' h)
  intro res s' q
  match res, q with
  | .ok (.ret u), q => exact I.after q
  | .ok .next, q => exact q.elim
  | .ok .brk, q => exact q.elim
  | .ok .cont, q => exact q.elim
  | .error _, q => exact False.elim q
/-- a call of such a def, by position -/
theorem pe_g (F : GOk X.prog X.w X.K X.mg X.base k f fd ps sp) (g : X.A.guards = some []) (hr : Room k X.A) (hg : Gl X x) (hm : X.mg x = some (.ref f)) (hk : PySem.W.keepIn X.K (.ref f) = true)
    (hb : Binds X.K fd ps ds) (hd : Vals dvs ds) (ha : PA X (e :: es) t) (hdb : (x == ("__debug__" : Str)) = false := by decide)
    (he : starEach (e :: es) X.env = (false, eval e X.env) :: starEach es X.env := by rfl) (hpl : (backTo pos (starEach es X.env)).any (·.1) = false := by rfl) :
    PE X (.Call (.Name x p) (e :: es) [] pos) (tCall sp dvs E t) := by
  constructor
  intro pins s σ H Q I h
  apply wpAny_Call_Name_kw
  apply ld_glob I hg hm _ hdb
  exact PySem.W.callWith_K (h₀ := X.base) I.ok.mod.kin hk (thn (ha.run pos pins s σ H _ I h) fun us s1 ⟨vs, H1, I1, r, q⟩ => ⟨I1.kIn, run_g F g hr hb hd I1 r q⟩) he hpl
end

/-! ## repr of data: none, bools, ints, texts, lists, tuples, dicts with text keys -/
mutual
inductive Dq (K : PySem.W.Frag) (H : Hp) : V → PyData → Prop
  | non : Dq K H .non .none
  | bl (b : Bool) : Dq K H (.bl b) (.bool b)
  | int (i : Int) : Dq K H (.int i) (.int i)
  | str (x : Str) : Dq K H (.str x) (.str x)
  | lst {a : Addr} {xs : List V} {ds : List PyData} : SqL K H a xs → DqAll K H xs ds → Dq K H (.ref a) (.list ds)
  | tup {a : Addr} {xs : List V} {ds : List PyData} : SqT K H a xs → DqAll K H xs ds → Dq K H (.ref a) (.tuple ds)
inductive DqAll (K : PySem.W.Frag) (H : Hp) : List V → List PyData → Prop
  | nil : DqAll K H [] []
  | cons {v : V} {vs : List V} {d : PyData} {ds : List PyData} : Dq K H v d → DqAll K H vs ds → DqAll K H (v :: vs) (d :: ds)
end
section
variable {X : Cx}
/-- repr(x) of such data -/
def rRepr (K : PySem.W.Frag) : List V → Hp → VK → Prop := fun xs H Q => ∃ x d, xs = [x] ∧ Dp K H x d ∧ d.showable = true ∧ d.hasDict = false ∧ d.depth ≤ 60 ∧ d.shown.length ≤ sizeLine ∧ Q (.str d.shown) H
theorem call_repr (g : X.A.guards = some []) (hu : X.A.units + 64 < cLine) : CallR X (.builtin "repr") (rRepr X.K) := by
  intro pins s σ H xs us Q I r h
  obtain ⟨x, d, rfl, hd, sh, nd, dp, sz, q⟩ := h
  obtain ⟨u, rfl, rv⟩ := vals1 r
  obtain ⟨as, rd⟩ := Dp.reads I d x u hd rv
  cases hd with
  | non =>
    cases rv
    refine PySem.P.repr_of_none ⟨.str _, H, I.tok _, ⟨_, rfl⟩, ?_⟩
    rw [PyData.shown_none] at q
    exact q
  | bl b =>
    cases rv
    refine PySem.P.repr_of_bool ⟨.str _, H, I.tok _, ⟨_, rfl⟩, ?_⟩
    rw [PyData.shown_bool] at q
    exact q
  | int i =>
    obtain ⟨t, rfl⟩ := rv
    refine PySem.P.repr_of_int (by simpa [PyData.showable] using sh) ⟨.str _, H, I.tok _, ⟨_, rfl⟩, ?_⟩
    rw [PyData.shown_int] at q
    exact q
  | str y =>
    obtain ⟨t, rfl⟩ := rv
    rw [PyData.shown_str] at q sz
    exact PySem.P.repr_of_str ⟨.str _, H, I.tok _, ⟨_, rfl⟩, q⟩ sz
  | lst a b =>
    cases rv
    exact repr_of_reads' rd sh (by rw [nd]; intro z; cases z) g (by omega) (fun _ _ e => e) (fun h' u tk k => ⟨.str _, H, I.kept k, ⟨_, rfl⟩, q⟩) sz
  | tup a b =>
    cases rv
    exact repr_of_reads' rd sh (by rw [nd]; intro z; cases z) g (by omega) (fun _ _ e => e) (fun h' u tk k => ⟨.str _, H, I.kept k, ⟨_, rfl⟩, q⟩) sz
end
end JP

namespace JP
open PySem PySem.Spec PySem.W PySem.Calls PyProof.Rows L2

/-! ## the end of a law's row, from a promise where no guard is on the stack -/
/-- the abstract heap at the law's call: the script at most -/
def scriptHp (K : PySem.W.Frag) (a : Addr) (o : Obj) (xs : List V) : Hp := fun b => if b = a ∧ K.lookup a = none then some (.frz o (.lst xs)) else none
section
variable {P : Program} {w : World} {K : PySem.W.Frag} {a b : Addr} {o : Obj} {xs : List V} {h : Heap}
theorem scriptHp_cases (b : Addr) : scriptHp K a o xs b = none ∨ (b = a ∧ K.lookup a = none ∧ scriptHp K a o xs b = some (.frz o (.lst xs))) := by
  unfold scriptHp
  by_cases c : b = a ∧ K.lookup a = none
  · right
    exact ⟨c.1, c.2, if_pos c⟩
  · left
    exact if_neg c
theorem scriptHp_some {u : HO} (e : scriptHp K a o xs b = some u) : b = a ∧ K.lookup a = none ∧ u = .frz o (.lst xs) := by
  rcases scriptHp_cases (K := K) (a := a) (o := o) (xs := xs) b with n | ⟨h1, h2, h3⟩
  · rw [n] at e
    cases e
  · rw [h3] at e
    exact ⟨h1, h2, (Option.some.inj e).symm⟩
theorem scriptHp_only : Only (scriptHp K a o xs) := fun b => by
  rcases scriptHp_cases (K := K) (a := a) (o := o) (xs := xs) b with n | ⟨_, _, e⟩
  · exact .inl n
  · exact .inr ⟨o, xs, e⟩
end

/-- the call of the law -/
theorem law_g {P : Program} {w : World} {K : PySem.W.Frag} {mg mb : Str → Option Value} {k : Nat} {fa a : Addr} {fd : FuncData} {x : Str} {sp : Sp} {s : Shared} {vs : List Value} {ns : List Int}
    (inK : K.In s.heap) (gl : s.heap.Ns mainGlobals mg) (bl : s.heap.Ns builtinsNs mb) (blt : ∀ x : Str, x ≠ "__name__" → mb x = bootBuiltins x) (nl : s.heap.NoLimit) (gens : s.gens = #[])
    (obj : s.heap.get? a = some { cls := .type "list", data := .seq vs.toArray }) (hnum : IntsAre vs ns) (small : ns.length ≤ sizeLine) (room : Room k callerA)
    (F : ∀ base : Heap, K.In base → base.Ns mainGlobals mg → GOk P w K mg base k fa fd [x] sp) (bind : ∀ (s : Shared) (u : Value), BindsTo s fd ⟨[u], []⟩ [(x, u)])
    (sat : ∀ H : Hp, Only H → SqL K H a (ns.map V.int) → sp [.ref a] H (fun v _ => v = .bl true) fun _ _ _ => False) :
    codeAny (model P w) callerA (.call (.ref fa) ⟨[.ref a], []⟩) (fun r s' => r = .ok (.ret (.bool true)) ∧ OldK s.heap s'.heap ∧ s'.os = s.os ∧ AllBare s'.gens) s := by
  have rel := vals_ints hnum
  have wide : (ns.map V.int).length ≤ sizeLine := by
    rw [List.length_map]
    exact small
  generalize hH : scriptHp K a { cls := .type "list", data := .seq vs.toArray } (ns.map V.int) = H
  have only : Only H := hH ▸ scriptHp_only
  have some_of : ∀ {b : Addr} {u : HO}, H b = some u → b = a ∧ K.lookup a = none ∧ u = .frz { cls := .type "list", data := .seq vs.toArray } (.lst (ns.map V.int)) := fun e => scriptHp_some (hH ▸ e)
  have held : HOk P w H s.heap := by
    intro b u e
    obtain ⟨rfl, _, rfl⟩ := some_of e
    exact ⟨obj, wide, vs, _, rel, obj⟩
  have seq : SqL K H a (ns.map V.int) := by
    cases q : K.lookup a with
    | none =>
      refine .inl (.inr ⟨{ cls := .type "list", data := .seq vs.toArray }, ?_⟩)
      rw [← hH]
      exact if_pos ⟨rfl, q⟩
    | some o =>
      have e := inK a o q
      rw [obj] at e
      cases e
      exact .inr ⟨_, vs.toArray, _, q, rfl, rfl, rfl, by
        rw [List.size_toArray, hnum.length]
        exact small, by simpa using rel⟩
  have free : ∀ {b : Addr} {ob : Obj}, s.heap.get? b = some ob → (∀ its n, ob.data ≠ .seq its n) → H b = none := fun {b ob} e d => by
    cases q : H b with
    | none => rfl
    | some u =>
      obtain ⟨rfl, _, _⟩ := some_of q
      rw [obj] at e
      cases e
      exact absurd rfl (d _ _)
  have nsOk : ∀ {b : Addr} {m : Str → Option Value}, s.heap.Ns b m → (hidT s.heap H).Ns b m := by
    intro b m z
    obtain ⟨ob, es, ep, e, d, r⟩ := z
    exact ⟨ob, es, ep, hidT_get e (free e (by intro its n z; rw [d] at z; cases z)), d, r⟩
  have inB : K.In (hidT s.heap H) := by
    intro b ob e
    refine hidT_get (inK b ob e) ?_
    cases q : H b with
    | none => rfl
    | some u =>
      obtain ⟨rfl, z, _⟩ := some_of q
      rw [z] at e
      cases e
  have mods : Mod K mg (hidT s.heap H) := by
    obtain ⟨mc, h1, h2⟩ := nl
    exact ⟨inB, nsOk gl, ⟨mb, nsOk bl, blt⟩, mc, nsOk h1, h2⟩
  have e0 : Env0 P w K mg (hidT s.heap H) callerA [] s H :=
    { frames := rfl, mod := mods, bs := fun b o e => of_hidT e, bsz := Nat.le_of_eq (hidT_size _ _), funs := trivial, frf := fun b z => (List.not_mem_nil z).elim, hok := held, bare := .of_eq gens }
  apply codeAny_mono ((F _ inB (nsOk gl)).kept callerA [] s H ⟨[.ref a], []⟩ [.ref a] [.ref a] _ _ rfl room e0 (bind s (.ref a)) (.cons rfl .nil) (sat H only seq))
  intro r s' z
  match r, z with
  | .error _, z => exact z.elim
  | .ok .next, z => exact z.elim
  | .ok .brk, z => exact z.elim
  | .ok .cont, z => exact z.elim
  | .ok (.ret u), ⟨v, H', os, bare, un, held', rv, z⟩ =>
    have ev : v = .bl true := z
    subst ev
    have eu : u = Value.bool true := rv
    subst eu
    refine ⟨rfl, OldK.of_keep ?_, os, bare⟩
    intro b ob e
    cases q : H b with
    | none => exact un.keep b ob e q List.not_mem_nil List.not_mem_nil
    | some u =>
      obtain ⟨rfl, _, rfl⟩ := some_of q
      have e1 := (held' _ _ (un.frzs _ _ _ q)).1
      rw [obj] at e
      cases e
      exact e1

theorem walk_g {l : PySem.W.OpenLaw} {n k : Nat} {q : Program} {loose : List Str} {XP : (Str → Option Value) → Heap → Prop} {YP : World → Heap → Prop} {d : DefRec} {K : PySem.Params → PySem.W.Frag} {sp : PySem.W.Frag → Sp} {x : Str}
    (hn : l.most = some n) (hn2 : n ≤ sizeLine) (hdf : d.params.defaults = []) (hr : Room k callerA) (hY : ∀ (w : World) (h : Heap), YP w h → (K w.params).In h)
    (F : ∀ (w : World) (mg : Str → Option Value) (fa : Addr) (h : Heap), (K w.params).In h → h.Ns mainGlobals mg → mg d.name = some (.ref fa) →
      ∃ fd : FuncData, (∀ (s : Shared) (u : Value), BindsTo s fd ⟨[u], []⟩ [(x, u)]) ∧ ∀ base : Heap, (K w.params).In base → base.Ns mainGlobals mg → GOk l.prog w (K w.params) mg base k fa fd [x] (sp (K w.params)))
    (sat : ∀ (K : PySem.W.Frag) (H : Hp) (a : Addr) (ns : List Int), ns.length ≤ n → Only H → SqL K H a (ns.map V.int) → sp K [.ref a] H (fun v _ => v = .bl true) fun _ _ _ => False) :
    PySem.W.WalkO q loose XP YP l.row.toRowW d [] (fun f vs => PySem.call f vs) := by
  apply Att.attach_call hn hdf
  intro w s₀ s mg mb fa o pm cd doc a vs ns G Y ho hd hcd hmg obj hnum len gens
  obtain ⟨fd, hb, hF⟩ := F w mg fa _ (hY w _ Y) G.T.g hmg
  exact law_g (hY w _ Y) G.T.g G.T.b G.T.builtins G.T.nolimit gens obj hnum (Nat.le_trans len hn2) hr hF hb fun H hO hS => sat _ H a ns len hO hS
end JP

namespace JP
open PySem PySem.Spec PyProof.Rows L2
/-! ### the pen: what a law draws from -/
def Pen (H : Hp) (p c : Addr) (m : Nat) : Prop := ∃ (ns : List Int) (n g : Int), H p = some (.lst [.ref c, .int n, .int g]) ∧ H c = some (.lst (ns.map V.int)) ∧ c ≠ p ∧ ns.length ≤ 63 ∧ 0 ≤ n ∧ n ≤ m ∧ 0 ≤ g
/-- all but the pen is as it was -/
def But (p : Addr) (H H' : Hp) : Prop := ∀ b o, b ≠ p → H b = some o → H' b = some o
theorem fmod_lo (x : Int) {y : Int} (h : 1 ≤ y) : 0 ≤ x.fmod y := by
  rw [Int.fmod_eq_emod_of_nonneg x (by omega)]
  exact Int.emod_nonneg x (by omega)
theorem fmod_lt (x : Int) {y : Int} (h : 1 ≤ y) : x.fmod y < y := by
  rw [Int.fmod_eq_emod_of_nonneg x (by omega)]
  exact Int.emod_lt_of_pos x (by omega)
theorem fmod_32 {x C : Int} (h1 : 1 ≤ C) (h2 : C ≤ 2 ^ 32) : x.fmod C < 2 ^ 32 := by
  have := fmod_lt x h1
  omega
theorem fmod_64 {x C : Int} (h1 : 1 ≤ C) (h2 : C ≤ 2 ^ 32) : -(2 ^ 64) < x.fmod C ∧ x.fmod C < 2 ^ 64 := by
  have := fmod_lt x h1
  have := fmod_lo x h1
  omega
theorem mix_bound {x C D E n : Int} {m : Nat} (h1 : 1 ≤ C) (h2 : C ≤ 2 ^ 32) (h3 : 0 ≤ D) (h4 : D ≤ 2 ^ 20) (h5 : 0 ≤ E) (h6 : E ≤ 2 ^ 20) (n0 : 0 ≤ n) (nm : n ≤ m) (hm : m ≤ 2 ^ 20) : (x.fmod C + D * n + E).natAbs < 2 ^ 64 := by
  have a := fmod_lo x h1
  have b := fmod_lt x h1
  have c : D * n ≤ 2 ^ 20 * 2 ^ 20 := Int.mul_le_mul h4 (by omega) n0 (by decide)
  have d : 0 ≤ D * n := Int.mul_nonneg h3 n0
  omega
theorem mix_bound2 {x C D E n : Int} {m : Nat} (h1 : 0 ≤ C) (h2 : C ≤ 2 ^ 20) (h3 : 0 ≤ D) (h4 : D ≤ 2 ^ 20) (h5 : 0 ≤ E) (h6 : E ≤ 2 ^ 20) (x0 : 0 ≤ x) (x1 : x < 2 ^ 32) (n0 : 0 ≤ n) (nm : n ≤ m) (hm : m ≤ 2 ^ 20) : (x * (2 * n + C) + D * n * n + E).natAbs < 2 ^ 64 := by
  have c : D * n ≤ 2 ^ 20 * 2 ^ 20 := Int.mul_le_mul h4 (by omega) n0 (by decide)
  have d : 0 ≤ D * n := Int.mul_nonneg h3 n0
  have c2 : D * n * n ≤ (2 ^ 20 * 2 ^ 20) * 2 ^ 20 := Int.mul_le_mul c (by omega) n0 (by decide)
  have d2 : 0 ≤ D * n * n := Int.mul_nonneg d n0
  have c3 : x * (2 * n + C) ≤ 2 ^ 32 * 2 ^ 22 := Int.mul_le_mul (by omega) (by omega) (by omega) (by decide)
  have d3 : 0 ≤ x * (2 * n + C) := Int.mul_nonneg x0 (by omega)
  omega
theorem but_upd {H : Hp} (p : Addr) (o : HO) : But p H (upd H p o) := fun b u n e => by
  rw [upd_ne n]
  exact e
theorem But.trans {p : Addr} {H H1 H2 : Hp} (a : But p H H1) (b : But p H1 H2) : But p H H2 := fun c o n e => b c o n (a c o n e)
theorem But.of_same {p : Addr} {H H1 : Hp} (a : Same H H1) : But p H H1 := fun c o _ e => a c o e
theorem but_new {H : Hp} {p a : Addr} {o : HO} (h : H a = none) : But p H (upd H a o) := fun b u _ e => by
  rw [upd_ne (ne_of_none e h)]
  exact e
theorem pen_set {H : Hp} {p c : Addr} {ns : List Int} {n g n' g' : Int} {m : Nat} (hp : H p = some (.lst [.ref c, .int n, .int g])) (hc : H c = some (.lst (ns.map V.int))) (ncp : c ≠ p) (hl : ns.length ≤ 63) (h0 : 0 ≤ n') (h1 : n' ≤ m) (h2 : 0 ≤ g') :
    Pen (upd H p (.lst [.ref c, .int n', .int g'])) p c m :=
  ⟨ns, n', g', upd_same, by
    rw [upd_ne ncp]
    exact hc, ncp, hl, h0, h1, h2⟩
theorem dp_ints {K : PySem.W.Frag} {H : Hp} : ∀ ns : List Int, DpAll K H (ns.map V.int) (ns.map PyData.int)
  | [] => .nil
  | n :: ns => .cons (.int n) (dp_ints ns)
theorem Pen.mono {H : Hp} {p c : Addr} {m n : Nat} (h : Pen H p c m) (k : m ≤ n) : Pen H p c n := by
  obtain ⟨ns, x, g, h1, h2, h3, h4, h5, h6, h7⟩ := h
  exact ⟨ns, x, g, h1, h2, h3, h4, h5, by omega, h7⟩
theorem Pen.same {H H' : Hp} {p c : Addr} {m : Nat} (h : Pen H p c m) (k : Same H H') : Pen H' p c m := by
  obtain ⟨ns, x, g, h1, h2, h3⟩ := h
  exact ⟨ns, x, g, k _ _ h1, k _ _ h2, h3⟩
theorem Pen.at_ {H : Hp} {p c : Addr} {m : Nat} (h : Pen H p c m) : ∃ xs, H p = some (.lst xs) := by
  obtain ⟨ns, x, g, h1, _⟩ := h
  exact ⟨_, h1⟩
theorem Pen.ne_none {H : Hp} {p c a : Addr} {m : Nat} (h : Pen H p c m) (e : H a = none) : a ≠ p := by
  obtain ⟨xs, q⟩ := h.at_
  exact (ne_of_none q e).symm
theorem Pen.ne_none2 {H : Hp} {p c a : Addr} {m : Nat} (h : Pen H p c m) (e : H a = none) : a ≠ c := by
  obtain ⟨ns, x, g, _, h2, _⟩ := h
  exact (ne_of_none h2 e).symm
/-- the pen stays where another object is written -/
theorem Pen.updN {H : Hp} {p c D : Addr} {m : Nat} {o : HO} (h : Pen H p c m) (n : D ≠ p) (n2 : D ≠ c) : Pen (upd H D o) p c m := by
  obtain ⟨ns, x, g, h1, h2, h3⟩ := h
  exact ⟨ns, x, g, (upd_ne n.symm).trans h1, (upd_ne n2.symm).trans h2, h3⟩
theorem same_new {H : Hp} {a : Addr} {o : HO} (h : H a = none) : Same H (upd H a o) := fun b u e => by
  rw [upd_ne (ne_of_none e h)]
  exact e
theorem But.seqL {K : PySem.W.Frag} {p a : Addr} {H H' : Hp} {xs : List V} (e : But p H H') (n : a ≠ p) (h : SqL K H a xs) : SqL K H' a xs := by
  rcases h with (h | ⟨o, h⟩) | h
  · exact .inl (.inl (e _ _ n h))
  · exact .inl (.inr ⟨o, e _ _ n h⟩)
  · exact .inr h
theorem But.seqT {K : PySem.W.Frag} {p a : Addr} {H H' : Hp} {xs : List V} (e : But p H H') (n : a ≠ p) (h : SqT K H a xs) : SqT K H' a xs := by
  rcases h with (h | ⟨o, h⟩) | h
  · exact .inl (.inl (e _ _ n h))
  · exact .inl (.inr ⟨o, e _ _ n h⟩)
  · exact .inr h
theorem same_seqT {K : PySem.W.Frag} {a : Addr} {H H' : Hp} {xs : List V} (e : Same H H') (h : SqT K H a xs) : SqT K H' a xs := by
  rcases h with (h | ⟨o, h⟩) | h
  · exact .inl (.inl (e _ _ h))
  · exact .inl (.inr ⟨o, e _ _ h⟩)
  · exact .inr h
theorem But.refl (p : Addr) (H : Hp) : But p H H := fun _ _ _ e => e
theorem atI_of {xs : List V} {r : Int} (h0 : 0 ≤ r) (h1 : r < xs.length) : ∃ v, atI xs r = some v ∧ v ∈ xs := by
  have hl : r.toNat < xs.length := by omega
  refine ⟨xs[r.toNat], ?_, List.getElem_mem hl⟩
  have := atI_nat (xs := xs) (j := r.toNat) (List.getElem?_eq_getElem hl)
  rw [Int.toNat_of_nonneg h0] at this
  exact this
theorem cut_all (xs : List V) {n : Nat} (h : xs.length ≤ n) : cutV xs none (some (n : Int)) = xs := by
  unfold cutV
  rw [show HT.sIx xs.length xs.length (some (n : Int)) = min n xs.length from HT.sIx_nat xs.length xs.length n, HT.sIx_none, Nat.min_eq_right h]
  simp
end JP

namespace JP
open PySem PySem.Spec PyProof.Rows L2

/-! ### values of several kinds, and isinstance of them -/
inductive Ki where
  | non | bl | int | str | lst | tup | dct
  deriving DecidableEq
def Ki.name : Ki → String
  | .non => "NoneType" | .bl => "bool" | .int => "int" | .str => "str" | .lst => "list" | .tup => "tuple" | .dct => "dict"
/-- x is of kind k in H -/
def IsKi (H : Hp) (x : V) : Ki → Prop
  | .non => x = .non
  | .bl => ∃ b, x = .bl b
  | .int => ∃ i, x = .int i
  | .str => ∃ s, x = .str s
  | .lst => ∃ a xs, x = .ref a ∧ H a = some (.lst xs)
  | .tup => ∃ a xs, x = .ref a ∧ H a = some (.tup xs)
  | .dct => ∃ a kvs, x = .ref a ∧ H a = some (.dK kvs)
theorem IsKi.ty {K : PySem.W.Frag} {H : Hp} {x : V} : ∀ {k : Ki}, IsKi H x k → TyX K H x (.type k.name)
  | .non, h => by
    cases h
    exact .base .non
  | .bl, h => by
    obtain ⟨b, rfl⟩ := h
    exact .base (.bl b)
  | .int, h => by
    obtain ⟨b, rfl⟩ := h
    exact .base (.int b)
  | .str, h => by
    obtain ⟨b, rfl⟩ := h
    exact .base (.str b)
  | .lst, h => by
    obtain ⟨a, xs, rfl, e⟩ := h
    exact .base (.lst e)
  | .tup, h => by
    obtain ⟨a, xs, rfl, e⟩ := h
    exact .base (.tup e)
  | .dct, h => by
    obtain ⟨a, xs, rfl, e⟩ := h
    exact .base (.dK e)
def Ki.below : Ki → Ki → Bool
  | .bl, .int => true
  | a, b => decide (a = b)
theorem ki_kit {K : PySem.W.Frag} : ∀ a b : Ki, PySem.W.kitOne K (.type a.name) (.type b.name) = some (a.below b) := by
  intro a b
  apply kit_ty
  cases a <;> cases b <;> decide +kernel
/-- isinstance(x, T) of such a value -/
theorem isi_ki {X : Cx} {H : Hp} {x : V} {Q : VK} {a : Ki} (b : Ki) (h : IsKi H x a) (q : Q (.bl (a.below b)) H) : rIsi X.K [x, .ty b.name] H Q :=
  ⟨x, .ty b.name, _, _, _, rfl, .ty _, h.ty, ki_kit a b, q⟩
theorem IsKi.same {H H' : Hp} (s : Same H H') {x : V} : ∀ {k : Ki}, IsKi H x k → IsKi H' x k
  | .non, h => h
  | .bl, h => h
  | .int, h => h
  | .str, h => h
  | .lst, ⟨a, xs, e, h⟩ => ⟨a, xs, e, s _ _ h⟩
  | .tup, ⟨a, xs, e, h⟩ => ⟨a, xs, e, s _ _ h⟩
  | .dct, ⟨a, xs, e, h⟩ => ⟨a, xs, e, s _ _ h⟩
/-- the kind of a value that stands for itself -/
def kiOf : V → Option Ki
  | .non => some .non
  | .bl _ => some .bl
  | .int _ => some .int
  | .str _ => some .str
  | _ => none
theorem kiOf_is {H : Hp} : ∀ {x : V} {k : Ki}, kiOf x = some k → IsKi H x k
  | .non, _, h => by
    cases h
    rfl
  | .bl b, _, h => by
    cases h
    exact ⟨b, rfl⟩
  | .int b, _, h => by
    cases h
    exact ⟨b, rfl⟩
  | .str b, _, h => by
    cases h
    exact ⟨b, rfl⟩
def isI : V → Bool
  | .int _ => true
  | _ => false
theorem isI_ki {x : V} {k : Ki} (h : kiOf x = some k) : isI x = decide (k = .int) := by
  cases x <;> cases h <;> rfl
end JP

namespace JP
open PySem PySem.Spec PyProof.Rows L2
open AutoSeq1 (wpAny_loadPart')

/-! ### tuples that stand in the heap: +, slices, times a number; the answer is a tuple, new or not -/
section
variable {X : Cx}
/-- t + u, any tuples -/
def rCat2 : R2 := fun x y H Q => ∃ a b xs ys, x = .ref a ∧ y = .ref b ∧ H a = some (.tup xs) ∧ H b = some (.tup ys) ∧ xs.length + ys.length ≤ sizeLine ∧
  ∀ p H', Same H H' → H' p = some (.tup (xs ++ ys)) → Q (.ref p) H'
theorem op_cat2 : OpR X (binaryOp .Add) rCat2 := by
  intro pins s σ H x y v u Q I rx ry h
  obtain ⟨a, b, xs, ys, rfl, rfl, ha, hb, hz, q⟩ := h
  cases rx
  cases ry
  by_cases hx : xs = []
  · subst hx
    obtain ⟨its, r1, p1, _⟩ := I.tuple (SqT.of ha)
    obtain ⟨its2, r2, p2, _⟩ := I.tuple (SqT.of hb)
    cases r1
    obtain ⟨⟨cls, dd, data, sl⟩, ho, hc, n, hd⟩ := id p1
    obtain ⟨⟨cls2, dd2, data2, sl2⟩, ho2, hc2, n2, hd2⟩ := id p2
    simp only at hc hd hc2 hd2
    subst hc hd hc2 hd2
    exact concat_meets ⟨_, ho, rfl⟩ ⟨_, ho2, rfl⟩ noFill_tuple_add seq_tuple_add PySem.F.slot_tuple_add PySem.F.entry_tuple_add (PySem.F.args_tuple_add_2 _ _)
      (tuple_addW0 a b _ _ n n2 dd dd2 sl sl2 (by rfl)) ⟨ho, ho2, ⟨.ref b, H, I.tok _, rfl, q b H (.refl H) (by rw [List.nil_append]; exact hb)⟩⟩
  · refine op_catT pins s σ H (.ref a) (.ref b) _ _ Q I rfl rfl ⟨a, b, xs, ys, rfl, rfl, .of ha, .of hb, hx, hz, fun e => ?_, fun _ p hp => ?_⟩
    · subst e
      exact q a H (.refl H) (by rw [List.append_nil]; exact ha)
    · exact q p _ (same_new hp) upd_same
/-- t[lo:hi] of any tuple: its items, in a new tuple or (the whole) in the same one -/
def rSl2 : V → Option Int → Option Int → Hp → VK → Prop := fun x lo hi H Q => ∃ a xs, x = .ref a ∧ H a = some (.tup xs) ∧ ∀ p H', Same H H' → H' p = some (.tup (cutV xs lo hi)) → Q (.ref p) H'
theorem getItem_tuple_whole {prog : Program} {w : World} {A : Around} {E : Value → Shared → Prop} {s : Shared} {t sl : Addr} {items : Array Value} {vl vu : Value} {lo hi : Option Int} {Q : Value → Shared → Prop} (ht : IsTup s.heap t items) (hs : s.heap.IsSliceOf sl vl vu .none) (pl : IsPart vl lo) (pu : IsPart vu hi)
    (hw : HT.sIx items.size 0 lo = 0 ∧ HT.sIx items.size items.size hi = items.size)
    (h : Q (.ref t) s) : wpAny (model prog w) A (getItem (.ref t) (.ref sl)) Q E s := by
  obtain ⟨⟨cls, dd, data, slo⟩, ho, hc, n, hd⟩ := id ht
  simp only at hc hd
  subst hc hd
  obtain ⟨os, hos, hcs, hds⟩ := id hs
  have hTs : s.TypeIs (.ref sl) "slice" := ⟨os, hos, hcs⟩
  unfold getItem
  try with_reducible refine wpAny_holding ?_
  first | refine wpAny_bind (wpAny_pure ?_) | skip
  refine wpAny_bind (wpAny_sequenceKey ht.typeIs (by decide) ?_)
  refine wpAny_bind (wpAny_callSpecial?_slot (name := Str.ofString "__getitem__") ht.typeIs PyProof.Rows.slot_tuple_getitem
    (wpAny_call_entry PyProof.Rows.slot_tuple_getitem ht.typeIs entry_tuple_getitem ?_ (args_tuple_getitem _ _)))
  show wpAny _ _ (Builtin.Tuple.tupleItemsOf (.ref t) >>= _) _ _ s
  refine wpAny_bind (tupleItemsOf_ ht ?_)
  refine wpAny_bind (wpAny_typeOf hTs ?_)
  rw [if_pos (by decide)]
  refine wpAny_bind (HT.sliceApplied_gen hs pl pu ?_)
  have hyes : (((HT.sIx items.size 0 lo : Nat) : Int) == 0 && (1 : Int) == 1 && (HT.sIx items.size items.size hi - HT.sIx items.size 0 lo) == items.size) = true := by
    rw [hw.1, hw.2]
    simp
  show wpAny _ _ (if (((HT.sIx items.size 0 lo : Nat) : Int) == 0 && (1 : Int) == 1 && (HT.sIx items.size items.size hi - HT.sIx items.size 0 lo) == items.size) = true then _ else _) _ _ s
  rw [if_pos hyes]
  wp_walk using wpAny_loadPart' ho
  exact ⟨_, rfl, wpAny_pure h⟩
theorem sl_tup2 : SlR X rSl2 := by
  intro pins s σ H x v vl vu lo hi sl Q I rx hs pl pu h
  obtain ⟨a, xs, rfl, hx, q⟩ := h
  by_cases hw : HT.sIx xs.length 0 lo = 0 ∧ HT.sIx xs.length xs.length hi = xs.length
  · cases rx
    obtain ⟨its, r, ht, hz⟩ := I.tuple (SqT.of hx)
    have hlen : its.toArray.size = xs.length := by rw [List.size_toArray]; exact r.length.symm
    refine ⟨"tuple", _, PyProof.Rows.slot_tuple_getitem.lookup, ht.typeIs, ?_⟩
    refine getItem_tuple_whole ht hs pl pu (by rw [hlen]; exact hw) ⟨.ref a, H, I, rfl, q a H (.refl H) ?_⟩
    have e : cutV xs lo hi = xs := by
      unfold cutV
      rw [hw.1, hw.2]
      simp
    rw [e]
    exact hx
  · exact sl_tup pins s σ H (.ref a) v vl vu lo hi sl Q I rx hs pl pu ⟨a, xs, rfl, .of hx, hw, fun p hp => q p _ (same_new hp) upd_same⟩
/-- t * k, k from 1 on -/
def rRep2 : R2 := fun x y H Q => ∃ l k xs, x = .ref l ∧ y = .int k ∧ H l = some (.tup xs) ∧ xs ≠ [] ∧ 1 ≤ k ∧ k ≤ 1000 ∧ xs.length ≤ 1000 ∧ ∀ p H', Same H H' → H' p = some (.tup (List.replicate k.toNat xs).flatten) → Q (.ref p) H'
theorem tuple_mulW1 (l : Addr) (items : Array Value) (n : Nat) (dd : Option Addr) (sl : Array (Option Value)) (u : Tok) :
    Meets (Builtin.«tuple.__mul__» ⟨[.ref l, .int 1 u], []⟩) (fun _ R s => s.heap.get? l = some { cls := .type "tuple", dict := dd, data := .seq items n, slots := sl } ∧
      R (.ok (.ret (Value.ref l))) { s with heap := s.heap, toks := s.toks }) :=
  .of_wp fun prog w A R s h => by
    obtain ⟨hp, g, d, tk, os⟩ := s
    obtain ⟨hl, h⟩ := h
    have f1 := AutoSeq1.idx_int
    have c1 : (items.isEmpty || (1 : Int) == 1) = true := by simp
    have c0 : (decide ((1 : Int) < -(2 ^ 63)) || decide ((1 : Int) ≥ 2 ^ 63)) = false := by decide
    wp_walk using wpAny_loadPart' hl
    repeat (first
      | (refine wpAny_ite_false (decide_eq_false (by rw [c0]; exact Bool.false_ne_true)) ?_; wp_walk using wpAny_loadPart' hl)
      | (refine wpAny_ite_true (decide_eq_true c1) ?_; wp_walk using wpAny_loadPart' hl))
    all_goals first | exact ⟨_, rfl, h⟩ | skip
theorem op_rep2 : OpR X (binaryOp .Mult) rRep2 := by
  intro pins s σ H x y v u Q I rx ry h
  obtain ⟨l, k, xs, rfl, rfl, hT, hne, h1, h2, hz, q⟩ := h
  by_cases hk : k = 1
  · subst hk
    cases rx
    obtain ⟨t, rfl⟩ := ry
    obtain ⟨its, r, ⟨⟨cls, dd, data, sl⟩, ho, hc, n, hd⟩, hs⟩ := I.tuple (SqT.of hT)
    simp only at hc hd
    subst hc hd
    refine wpAny_binaryOp_repeat_ref (T := "tuple") (U := "int") (by decide) ⟨_, ho, rfl⟩ (fun s' => typeIs_int s' 1 t) noFill_tuple_mul F.fills_int_mul F.slot_int_rmul repeat_tuple F.slot_int_index.lookup
      (call_meets F.slot_int_rmul (typeIs_int s 1 t) F.entry_int_rmul (F.args_int_rmul_2 _ _) (int_rmul_tuple 1 t l its.toArray n dd sl)
        ⟨ho, rfl, ⟨_, ho, rfl⟩, call_meets F.slot_tuple_mul ⟨_, ho, rfl⟩ F.entry_tuple_mul (F.args_tuple_mul_2 _ _) (tuple_mulW1 l its.toArray n dd sl t) ⟨ho, ?_⟩⟩)
    refine ⟨.ref l, H, I.tok _, rfl, q l H (.refl H) ?_⟩
    simpa using hT
  · exact op_repT pins s σ H (.ref l) (.int k) v u Q I rx ry ⟨l, k, xs, rfl, rfl, .of hT, hne, by omega, h2, hz, fun p hp => q p _ (same_new hp) upd_same⟩
end

/-! ### enumerate(tuple) -/
theorem enumT_end {prog : Program} {w : World} {A : Around} {E : Value → Shared → Prop} {s : Shared} {e it l : Addr} {i : Int} {n : Nat} {items : Array Value} {old : Value} {Q : Option Value → Shared → Prop} (hh : A.handled = none)
    (he : IsEnum s.heap e it i old) (hit : s.heap.IsTupleIter it l n) (hl : s.heap.IsTuple l items) (hx : items[n]? = none)
    (hQ : ∀ h', Heap.ExtBut it s.heap h' → Q none { s with heap := h' }) : wpAny (model prog w) A (pyNext (.ref e)) Q E s := by
  have hT : s.TypeIs (.ref e) "enumerate" := ⟨_, he, rfl⟩
  unfold pyNext
  refine wpAny_bind (wpAny_attempt (wpAny_callSpecial?_slot (name := Str.ofString "__next__") hT F.slot_enumerate_next
    (wpAny_call_entry F.slot_enumerate_next hT F.entry_enumerate_next ?_ (F.args_enumerate_next_1 _))))
  show wpAny _ _ (field (.ref e) 2 >>= _) _ _ _
  refine wpAny_bind (wpAny_field he rfl (x := .ref it) rfl ?_)
  refine wpAny_bind (wpAny_nextOf_tuple_end hh hit hl hx fun h' x he' hx' => ?_)
  obtain ⟨o, ho, hc⟩ := hx'
  refine wpAny_bind (wpAny_isInstance (T := "StopIteration") (b := true) ⟨o, ho, hc⟩ isSubtype_stop ?_)
  exact wpAny_pure (hQ _ he')
/-- the tuple at a as it stands at each turn, each item in a new pair -/
def IteT (K : PySem.W.Frag) (a : Addr) : It :=
  ⟨fun i H => ∃ (xs : List V) (x : V), SqT K H a xs ∧ xs[i]? = some x, fun i H v H' => ∃ T x, v = .ref T ∧ H T = none ∧ H' = upd H T (.tup [.int (i : Nat), x]) ∧ ∀ xs, SqT K H a xs → xs[i]? = some x, fun i H => ∃ xs : List V, SqT K H a xs ∧ xs.length ≤ i⟩
set_option maxHeartbeats 1000000 in
theorem meets_enumerate_newT {l : Addr} {items : Array Value} :
    Meets (Builtin.«enumerate.__new__» ⟨[.type "enumerate", .ref l], []⟩) (fun _ R s => s.heap.IsTuple l items ∧
      R (.ok (.ret (.ref (s.heap.push { cls := .type "tuple_iterator", data := .fields #[.ref l, .int 0 0] }).objs.size))) { s with heap := (s.heap.push { cls := .type "tuple_iterator", data := .fields #[.ref l, .int 0 0] }).push { cls := .type "enumerate", data := .fields #[.none, .bool false, .ref s.heap.objs.size, rawInt 0, .none, .none] } }) :=
  .of_wp fun prog w A R s h => by
    obtain ⟨hp, g, d, tk, os⟩ := s; obtain ⟨hL, h⟩ := h
    have hsub := sub_enumerate
    replace hL : Heap.IsTuple (Shared.heap ⟨hp, g, d, tk, os⟩) l items := hL
    wp_walk using wpAny_pyIter_tuple hL
    refine wpAny_stack_any fun st => wpAny_pure ?_
    split
    · rename_i c _ _ _ _ _
      cases (c == Value.type "enumerate")
      · wp_walk using wpAny_pyIter_tuple hL
        exact ⟨_, rfl, h⟩
      · wp_walk using wpAny_pyIter_tuple hL
        exact ⟨_, rfl, h⟩
    · wp_walk using wpAny_pyIter_tuple hL
      exact ⟨_, rfl, h⟩
theorem call_enumerate_tup {prog : Program} {w : World} {A : Around} {E : Value → Shared → Prop} {s : Shared} {l : Addr} {items : Array Value} {Q : Value → Shared → Prop} (hL : s.heap.IsTuple l items)
    (h : ∀ h', IsEnum h' (s.heap.objs.size + 1) s.heap.objs.size 0 .none → h'.IsTupleIter s.heap.objs.size l 0 → h'.objs.size = s.heap.objs.size + 2 →
      (∀ b o, s.heap.get? b = some o → h'.get? b = some o) → Q (.ref (s.heap.objs.size + 1)) { s with heap := h' }) :
    wpAny (model prog w) A (call (.type "enumerate") [.ref l]) Q E s := by
  refine callType_new F.called_enumerate (by decide) (F.typeCall_enumerate_1 _) (F.newCall_enumerate_1 _) (fun obj => F.args_object_init_2 obj _) F.entry_enumerate_new
    meets_enumerate_newT ⟨hL, ?_⟩
  have hz : (s.heap.push { cls := .type "tuple_iterator", data := .fields #[.ref l, .int 0 0] }).objs.size = s.heap.objs.size + 1 := Heap.size_push ..
  show _ ∧ _
  rw [hz]
  have he : IsEnum ((s.heap.push { cls := .type "tuple_iterator", data := .fields #[.ref l, .int 0 0] }).push
      { cls := .type "enumerate", data := .fields #[.none, .bool false, .ref s.heap.objs.size, rawInt 0, .none, .none] }) (s.heap.objs.size + 1) s.heap.objs.size 0 .none := by
    have := Heap.get?_push_size (s.heap.push { cls := .type "tuple_iterator", data := .fields #[.ref l, .int 0 0] })
      (o := { cls := .type "enumerate", data := .fields #[.none, .bool false, .ref s.heap.objs.size, rawInt 0, .none, .none] }) rfl
    rw [hz] at this; exact this
  refine ⟨⟨_, he, rfl⟩, h _ he ⟨_, Heap.get?_push_of_some _ (Heap.get?_push_size _ rfl), rfl, rfl⟩ (by rw [Heap.size_push, hz]) fun b o x => Heap.get?_push_of_some _ (Heap.get?_push_of_some _ x)⟩
theorem turn_enumT {P : Program} {w : World} {K : PySem.W.Frag} {elts : List Expr} {kk : Nat} {tpos : Pos} (a e it : Addr) (hai : a ≠ it) :
    Turn P w K (.Tuple elts kk tpos) (IteT K a) [e, it] e (fun i h => (∃ old, IsEnum h e it ((i : Nat) : Int) old) ∧ h.IsTupleIter it a i ∧ e ≠ it ∧ e ≠ a) where
  mem := by simp
  obj := fun i h st b hb => by
    obtain ⟨⟨old, he⟩, ⟨o, ho, hc, hd⟩, _⟩ := st
    have e' : b = e ∨ b = it := by simpa using hb
    rcases e' with z | z
    · rw [z]; exact ⟨_, he, fun v q => nomatch q⟩
    · rw [z]; exact ⟨o, ho, fun v q => by rw [hd] at q; cases q⟩
  keep := fun i h h' st k => let ⟨⟨old, he⟩, hi, hne⟩ := st; ⟨⟨old, k e (by simp) _ he⟩, hi.at fun o q => k it (by simp) o q, hne⟩
  item := by
    intro X hP hw hK hc i pins s σ H E I hf st hg
    subst hP hw hK
    obtain ⟨⟨old, he⟩, hit, hne, hnea⟩ := st
    obtain ⟨xs, x, hq, hx⟩ := hg
    obtain ⟨its, rv, p, hz⟩ := I.tuple hq
    obtain ⟨u, hu, ru⟩ := rv.get hx
    have hi : i < its.toArray.size := by
      rw [List.size_toArray]
      exact (List.getElem?_eq_some_iff.mp hu).1
    have hel : e < s.heap.objs.size := Heap.lt_size he
    have hil : it < s.heap.objs.size := by obtain ⟨_, q, _⟩ := hit; exact Heap.lt_size q
    refine wpAny_pyNext_enum_itemD (Draws.tuple (A := X.A.in1) (show X.A.in1.handled = none from I.ok.hd hc) it a hai its.toArray) he ⟨hit, p⟩ hi hne (by simp [hne, hnea]) fun u' h' tk hP ho hit' hT hsz hk => ?_
    have eu : u' = u := by
      have : its.toArray[i]? = some u := by simpa using hu
      rw [this] at hP
      exact (Option.some.inj hP).symm
    subst eu
    refine ⟨_, rfl, wpAny_letOwnedTupleGo_enum (s := { s with heap := h', toks := tk + 1 }) ho fun h'' he' sb => ?_⟩
    have hT2 : h''.get? s.heap.objs.size = some { cls := .type "tuple", data := .seq #[.int i tk, u'] } := (sb.2 _ (Nat.ne_of_gt hel)).trans hT
    have new : ObjOk X.prog X.w (upd H s.heap.objs.size (.tup [.int (i : Nat), x])) h'' s.heap.objs.size (.tup [.int (i : Nat), x]) :=
      ⟨by show 2 ≤ sizeLine; decide, [.int i tk, u'], .cons ⟨_, rfl⟩ (.cons ru .nil), ⟨_, hT2, rfl, _, rfl⟩⟩
    have I1 : Inv X pins σ (upd H s.heap.objs.size (.tup [.int (i : Nat), x])) { s with heap := h'', toks := tk + 1 } :=
      I.turnedNew (ch := [e, it]) (fun b ob hb q => (sb.2 b (fun z => hb (by simp [z]))).trans (hk b ob (fun z => hb (by simp [z])) (fun z => hb (by simp [z])) q)) hf (Nat.le_refl _) new
    refine ⟨.ref s.heap.objs.size, _, I1, rfl, ⟨_, x, rfl, I.hok.fresh (Nat.le_refl _), rfl, fun ys hy => by rw [I.tuple_inj hy hq]; exact hx⟩, ⟨⟨u', ?_⟩, hit'.1.at fun o q => (sb.2 it (Ne.symm hne)).trans q, hne, hnea⟩, fun b hb => ?_⟩
    · have e1 : ((i + 1 : Nat) : Int) = (i : Int) + 1 := by omega
      rw [e1]; exact he'
    · have hb' : b < s.heap.objs.size := by
        have e' : b = e ∨ b = it := by simpa using hb
        rcases e' with z | z
        · rw [z]; exact hel
        · rw [z]; exact hil
      rw [upd_ne (Nat.ne_of_lt hb')]
      exact (hf b hb).1
  done := by
    intro X hP hw hK hc i pins s σ H E I hf st hg
    subst hP hw hK
    obtain ⟨⟨old, he⟩, hit, hne, hnea⟩ := st
    obtain ⟨xs, hq, hx⟩ := hg
    obtain ⟨its, rv, p, hz⟩ := I.tuple hq
    obtain ⟨f0, f1, f2, f3, f4, f5⟩ := hf it (by simp)
    have hl := rv.length
    have hend : its.toArray[i]? = none := by simp; omega
    refine enumT_end (I.ok.hd hc) he hit p hend fun h' eb => ⟨rfl, I.turned (t' := s.toks) (fun b o hb q => eb b o hb q) f0 f1 f3 f4 f5⟩
  self := fun A i s Q E st h => let ⟨⟨_, he⟩, _⟩ := st; wpAny_pyIter_enum he h
def iEnumT (K : PySem.W.Frag) (ta : TA) : TI := fun σ H R => ta σ H fun vs H1 => ∃ a xs, vs = [.ref a] ∧ SqT K H1 a xs ∧ R (IteT K a) H1
theorem pi_enumT {X : Cx} {e : Expr} {ta : TA} {p pos tpos : Pos} {elts : List Expr} {kk : Nat} (hg : Gl X "enumerate") (hm : X.mg "enumerate" = none) (ha : PA X [e] ta) (hs : starEach [e] X.env = [(false, eval e X.env)] := by rfl) :
    PI X (.Tuple elts kk tpos) (.Call (.Name "enumerate" p) [e] [] pos) (iEnumT X.K ta) := by
  refine ⟨fun pins s σ H R I h => ?_⟩
  refine Call_ (ld_blt I hg hm boot_enumerate (PyProof.Rows.callWith_type1 (thn (ha.run pos pins s σ H _ I h) fun us s1 ⟨vs, H1, I1, r1, q1⟩ => ?_) hs rfl))
  obtain ⟨a, xs, ex, hq, q⟩ := q1
  subst ex
  cases r1 with
  | cons r rr =>
    cases rr
    cases r
    obtain ⟨its, rv, p', hz⟩ := I1.tuple hq
    have la : a < s1.heap.objs.size := p'.lt
    refine call_enumerate_tup p' fun h' he hit hsz hk => wpAny_pyIter_enum he ?_
    have I2 : Inv X pins σ H1 { s1 with heap := h' } := I1.kept (t' := s1.toks) hk
    refine ⟨s1.heap.objs.size + 1, [s1.heap.objs.size + 1, s1.heap.objs.size], _, _, H1, rfl, I2, turn_enumT a (s1.heap.objs.size + 1) s1.heap.objs.size (Nat.ne_of_lt la), ⟨⟨.none, he⟩, hit, Nat.succ_ne_self _, fun z => Nat.lt_irrefl a (Nat.lt_trans la (z ▸ Nat.lt_succ_self _))⟩, fun b hb => ?_, q⟩
    have e' : b = s1.heap.objs.size + 1 ∨ b = s1.heap.objs.size := by simpa using hb
    have hle : s1.heap.objs.size ≤ b := by
      rcases e' with z | z
      · rw [z]; exact Nat.le_add_right _ _
      · rw [z]; exact Nat.le_refl _
    exact I1.fpOk hle (I1.hok.fresh hle)
end JP

namespace JP
open PySem PySem.Spec PyProof.Rows L2

theorem same_updN {H H' : Hp} {D : Addr} {o : HO} (h : Same H H') (n : H D = none) : Same H (upd H' D o) := fun b u e => by
  rw [upd_ne (ne_of_none e n)]
  exact h b u e
theorem but_updN {p : Addr} {H H' : Hp} {D : Addr} {o : HO} (h : But p H H') (n : H D = none) : But p H (upd H' D o) := fun b u hb e => by
  rw [upd_ne (ne_of_none e n)]
  exact h b u hb e
/-- the list of a comprehension at D: what is made so far, and P of the turn, of it, of the heap -/
def AccP (D : Addr) (P : Nat → List V → Hp → Prop) (i : Nat) (H : Hp) : Prop := ∃ acc, H D = some (.lst acc) ∧ acc.length ≤ i ∧ P i acc H
theorem AccP.zero {D : Addr} {P : Nat → List V → Hp → Prop} {H : Hp} (h : P 0 [] (upd H D (.lst []))) : AccP D P 0 (upd H D (.lst [])) := ⟨[], upd_same, Nat.le_refl _, h⟩
theorem AccP.put {D : Addr} {P : Nat → List V → Hp → Prop} {H : Hp} {i : Nat} {acc : List V} {y : V} (hn : i < sizeLine) (e : H D = some (.lst acc)) (l : acc.length ≤ i) (p : P (i + 1) (acc ++ [y]) (upd H D (.lst (acc ++ [y])))) :
    ∃ acc, H D = some (.lst acc) ∧ acc.length < sizeLine ∧ AccP D P (i + 1) (upd H D (.lst (acc ++ [y]))) :=
  ⟨acc, e, by omega, acc ++ [y], upd_same, by simp; omega, p⟩
theorem AccP.skip {D : Addr} {P : Nat → List V → Hp → Prop} {H : Hp} {i : Nat} {acc : List V} (e : H D = some (.lst acc)) (l : acc.length ≤ i) (p : P (i + 1) acc H) : AccP D P (i + 1) H := ⟨acc, e, by omega, p⟩
theorem small_size {n : Nat} (h : n ≤ 1000) : n < sizeLine := by
  rw [sizeLine_eq]
  omega
theorem take_next {α : Type} {xs : List α} {i : Nat} {x : α} (h : xs[i]? = some x) : xs.take (i + 1) = xs.take i ++ [x] := by
  rw [List.take_succ, h]
  rfl
/-- the map so far -/
def MapP {α : Type} (Rl : Hp → Prop) (xs : List α) (f : α → V) : Nat → List V → Hp → Prop := fun i acc H => Rl H ∧ acc = (xs.take i).map f
theorem mapP_next {α : Type} {Rl : Hp → Prop} {xs : List α} {f : α → V} {i : Nat} {acc : List V} {H : Hp} {x : α} (h : xs[i]? = some x) (e : acc = (xs.take i).map f) (r : Rl H) : MapP Rl xs f (i + 1) (acc ++ [f x]) H := ⟨r, by rw [take_next h, e, List.map_append]; rfl⟩
theorem dec_int (a b : Int) : decide (V.int a = V.int b) = decide (a = b) := by simp
theorem walk_enumT {K : PySem.W.Frag} {a : Addr} {xs : List V} : Walk (IteT K a) xs.length (fun H => SqT K H a xs) (YPair (fun i => some (.int (i : Nat))) (fun i => xs[i]?)) := by
  refine ⟨fun i _ hi q => ⟨xs, xs[i], q, by simp [hi]⟩, fun _ q => ⟨xs, q, Nat.le_refl _⟩, fun i H v H' _ q y => ?_⟩
  obtain ⟨T, x, h1, h2, h3, h4⟩ := y
  exact ⟨T, .int (i : Nat), x, h1, h2, h3, rfl, h4 xs q⟩
theorem walk_zipT {K : PySem.W.Frag} {a b : Addr} {xs ys : List V} {n : Nat} (hn : n = min xs.length ys.length) : Walk (RZ.ItzT K a b) n (fun H => SqT K H a xs ∧ SqT K H b ys) (YPair (fun i => xs[i]?) (fun i => ys[i]?)) := by
  subst hn
  refine ⟨fun i _ hi q => ?_, fun _ q => ⟨xs, ys, q.1, q.2, by omega⟩, fun i H v H' _ q y => ?_⟩
  · have h1 : i < xs.length := by omega
    have h2 : i < ys.length := by omega
    exact ⟨xs, ys, xs[i], ys[i], q.1, q.2, by simp [h1], by simp [h2]⟩
  · obtain ⟨T, x, z, h1, h2, h3, h4, h5⟩ := y
    exact ⟨T, x, z, h1, h2, h3, h4 xs q.1, h5 ys q.2⟩
theorem get_int {ns : List Int} {i : Nat} {x : V} (h : (ns.map V.int)[i]? = some x) : ∃ n, ns[i]? = some n ∧ x = .int n := by
  rw [List.getElem?_map] at h
  obtain ⟨n, e, r⟩ := Option.map_eq_some_iff.mp h
  exact ⟨n, e, r.symm⟩
theorem atI_int {ns : List Int} {k : Nat} (h : k < ns.length) : atI (ns.map V.int) (k : Int) = some (.int (ns.getD k 0)) := atI_nat (by
  rw [List.getElem?_map, List.getD_eq_getElem?_getD, List.getElem?_eq_getElem h]
  rfl)
theorem getD_mem {ns : List Int} {k : Nat} (h : k < ns.length) : ns.getD k 0 ∈ ns := by
  rw [List.getD_eq_getElem?_getD, List.getElem?_eq_getElem h]
  exact List.getElem_mem h
theorem in64 {n : Int} (h : n.natAbs < 2 ^ 40) : -(2 ^ 64) < n ∧ n < 2 ^ 64 := by omega
theorem ixT {X : Cx} {K : PySem.W.Frag} (h : X.K = K) : IxR X (rIxT K) := h ▸ ix_tup
theorem ixL {X : Cx} {K : PySem.W.Frag} (h : X.K = K) : IxR X (rIxL K) := h ▸ ix_list
theorem eqD {X : Cx} {K : PySem.W.Frag} (hu : X.A.units + 64 < cLine) (h : X.K = K) : OpR X (compareOp .Eq) (rEqD K) := h ▸ op_eqD hu
theorem But.tup {p c a : Addr} {m : Nat} {H H' : Hp} {xs : List V} (b : But p H H') (hP : Pen H p c m) (h : H a = some (.tup xs)) : H' a = some (.tup xs) := by
  obtain ⟨ys, e⟩ := hP.at_
  exact b a _ (ne_of h e (by intro z; cases z)) h
theorem eqv_lI (a b : List Int) : PyData.eqv (.list (a.map .int)) (.list (b.map .int)) = decide (a = b) := by
  rw [← PySem.W.ked_eqvAll]
  simp [PyData.eqv]
theorem eqv_tI (a b : List Int) : PyData.eqv (.tuple (a.map .int)) (.tuple (b.map .int)) = decide (a = b) := by
  rw [← PySem.W.ked_eqvAll]
  simp [PyData.eqv]
/-- the numbers below i at which f holds -/
def pickI (f : Nat → Bool) (i : Nat) : List Int := ((List.range i).filter f).map fun (j : Nat) => (j : Int)
theorem pickI_succ (f : Nat → Bool) (i : Nat) : pickI f (i + 1) = if f i = true then pickI f i ++ [(i : Int)] else pickI f i := by
  unfold pickI
  rw [List.range_succ, List.filter_append, List.map_append, List.filter_cons, List.filter_nil]
  split
  · rfl
  · rw [List.map_nil, List.append_nil]
theorem pickI_len (f : Nat → Bool) (i : Nat) : (pickI f i).length ≤ i := by
  unfold pickI
  rw [List.length_map]
  exact Nat.le_trans (List.length_filter_le _ _) (by simp)
theorem pickI_nil (f : Nat → Bool) (i : Nat) : pickI f i = [] ↔ ∀ j, j < i → f j = false := by
  unfold pickI
  rw [List.map_eq_nil_iff, List.filter_eq_nil_iff]
  constructor
  · intro z j hj
    exact Bool.eq_false_iff.mpr (z j (List.mem_range.mpr hj))
  · intro z j hj
    exact Bool.eq_false_iff.mp (z j (List.mem_range.mp hj))
theorem pickI_first (f : Nat → Bool) {k : Nat} (hk : f k = true) (hz : ∀ j, j < k → f j = false) : ∀ i, k < i → ∃ r, pickI f i = (k : Int) :: r := by
  intro i hi
  induction i with
  | zero => omega
  | succ i ih =>
    rw [pickI_succ]
    by_cases e : i = k
    · subst e
      rw [if_pos hk, (pickI_nil f i).mpr hz]
      exact ⟨[], rfl⟩
    · obtain ⟨r, hr⟩ := ih (by omega)
      rw [hr]
      split
      · exact ⟨r ++ [(i : Int)], rfl⟩
      · exact ⟨r, rfl⟩
theorem toNat_len {α β : Type} (xs : List α) (f : α → β) : (((xs.map f).length : Nat) : Int).toNat = xs.length := by
  rw [List.length_map, Int.toNat_natCast]
theorem shapedT (ns : List Int) : SeqAt.shaped (.tuple (ns.map PyData.int)) = true := by
  simp [SeqAt.shaped, PyData.canLay0, PyData.depth, PySem.W.ke_canLayAll0, PySem.W.ke_depthAll]
end JP

namespace JP
open PySem PySem.Spec PyProof.Rows L2

/-! ### calls with keywords alone -/
section
variable {X : Cx} {CX : CXT} {k : Nat} {f : Addr} {fd : FuncData} {ps ks : List Str} {sp : Sp} {E : XK} {x : Str} {p pos : Pos} {kws : List Keyword} {tk : TA} {g : List Value → List Value → List Value} {gV : List V → List V → List V}
def tCallK0 (sp : Sp) (gV : List V → List V → List V) (E : XK) (tk : TA) : TE := fun σ H Q => tk σ H fun zs H2 => sp (gV [] zs) H2 Q E
/-- f(k = v, ..), nothing by position -/
theorem pe_callK0 (F : FnOk X.prog X.w X.K X.mg X.base CX k f fd ps sp) (hr : Room k X.A) (hg : Gl X x) (hm : X.mg x = some (.ref f)) (hk : PySem.W.keepIn X.K (.ref f) = true) (hb : KBinds X.K fd ps ks g gV) (hx : Passes CX X E)
    (hkw : PK X kws tk) (hall : (backToKw pos (keywordEach kws X.env)).all (·.1.isSome) = true := by rfl) (hks : (backToKw pos (keywordEach kws X.env)).filterMap (·.1) = ks := by rfl)
    (hdb : (x == ("__debug__" : Str)) = false := by decide)
    (hpl : ((backTo pos (starEach [] X.env)).any (·.1) || (backToKw pos (keywordEach kws X.env)).any (·.1.isNone)) = false := by rfl) :
    PE X (.Call (.Name x p) [] kws pos) (tCallK0 sp gV E tk) := by
  refine ⟨fun pins s σ H Q I h => ?_⟩
  refine wpAny_Call_Name_kw (ld_glob I hg hm ?_ hdb)
  refine PySem.W.callWith_KW0 (h₀ := X.base) I.ok.mod.kin hk hall (thn (hkw.run pos pins s σ H _ I h) fun ws s2 ⟨zs, H2, I2, rz, q2⟩ => ⟨I2.kIn, ?_⟩) hpl
  rw [hks]
  exact run_fnk (us := []) (vs := []) F hr hb hx I2 .nil rz q2
end
/-- the arguments in the parameters' order, told by their places among all arguments -/
def gPerm {α : Type} (np nk : Nat) (ix : List Nat) (us ws : List α) : List α := if us.length = np ∧ ws.length = nk then ix.filterMap (fun i => (us ++ ws)[i]?) else []
theorem gPerm_len {α : Type} {np nk n : Nat} {ix : List Nat} {us ws : List α} (h : (gPerm np nk ix us ws).length = n) (h0 : 0 < n) : us.length = np ∧ ws.length = nk := by
  unfold gPerm at h
  split at h
  · assumption
  · simp at h
    omega
theorem gPerm_rel {np nk : Nat} {ix : List Nat} {vs zs : List V} {us ws : List Value} (r : Vals vs us) (q : Vals zs ws) : Vals (gPerm np nk ix vs zs) (gPerm np nk ix us ws) := by
  unfold gPerm
  rw [r.length, q.length]
  split
  · have a := Vals.append r q
    clear r q
    generalize vs ++ zs = xs at a
    generalize us ++ ws = ys at a
    induction ix with
    | nil => exact .nil
    | cons i ix ih =>
      rw [List.filterMap_cons, List.filterMap_cons]
      cases e : xs[i]? with
      | none => rw [a.none_of e]; exact ih
      | some x =>
        obtain ⟨u, hu, ru⟩ := a.get e
        rw [hu]
        exact .cons ru ih
  · exact .nil
theorem same_seqL' {K : PySem.W.Frag} {a : Addr} {H H' : Hp} {xs : List V} (e : Same H H') (h : SqL K H a xs) : SqL K H' a xs := by
  rcases h with (h | ⟨o, h⟩) | h
  · exact .inl (.inl (e _ _ h))
  · exact .inl (.inr ⟨o, e _ _ h⟩)
  · exact .inr h
/-- for_it, the ends one by one -/
theorem for_it2 {J : It} {n : Nat} {G : Hp → Prop} {Y : Nat → Hp → V → Hp → Prop} (w : Walk J n G Y) {g : TG} {tb : TS} {B : L2.St → Hp → Prop} {R : VK} {σ : L2.St} {H : Hp} (Pv : Nat → L2.St → Hp → Prop) (h0 : Pv 0 σ H) (hG : ∀ i σ H, i ≤ n → Pv i σ H → G H)
    (hs : ∀ i x σ H H', i < n → Pv i σ H → Y i H x H' → g x σ H' fun σ2 H2 => tb { nx := Pv (i + 1), rt := R, bk := B, ct := Pv (i + 1) } σ2 H2) (hd : ∀ σ H, Pv n σ H → B σ H) :
    ∃ W : Nat → Nat → L2.St → Hp → Prop, (∃ m, W 0 m σ H) ∧ ∀ i m σ H, W i m σ H →
      (J.stop i H ∧ B σ H) ∨ (J.go i H ∧ ∃ N : L2.St → Hp → Prop, (∀ σ' H', N σ' H' → ∃ m', m' < m ∧ W (i + 1) m' σ' H') ∧ ∀ x H', J.yld i H x H' → g x σ H' fun σ2 H2 => tb { nx := N, rt := R, bk := B, ct := N } σ2 H2) :=
  for_it w (D := { nx := B, rt := R, bk := B, ct := B }) Pv h0 hG hs hd
end JP

namespace JP
open PySem PySem.Spec PyProof.Rows L2

/-! ### an exception that was caught and is kept by a name -/
/-- at a: an exception of the class cls, its dict d -/
def xo (a : Addr) (cls : Value) (d : Option Addr) : HO := .ext fun h => ∃ oe, h.get? a = some oe ∧ Zc cls d oe ∧ ∃ vs, oe.data = .fields vs
theorem xo_tup {a : Addr} {cls : Value} {d : Option Addr} {xs : List V} : xo a cls d ≠ .tup xs := fun z => by
  have q : HO.ext _ = HO.tup xs := z
  cases q
theorem xo_lst {a : Addr} {cls : Value} {d : Option Addr} {xs : List V} : xo a cls d ≠ .lst xs := fun z => by
  have q : HO.ext _ = HO.lst xs := z
  cases q
theorem xo_ok {P : Program} {w : World} {H : Hp} {h : Heap} {a : Addr} {cls : Value} {d : Option Addr} {oe : Obj} (e : h.get? a = some oe) (z : Zc cls d oe) (f : ∃ vs, oe.data = .fields vs) : ObjOk P w H h a (xo a cls d) :=
  ⟨⟨oe, e, z, f⟩, ⟨oe, e⟩, fun _ _ ⟨o, e1, r⟩ k => ⟨o, k o e1, r⟩⟩
theorem xo_at {P : Program} {w : World} {H : Hp} {h : Heap} {a : Addr} {cls : Value} {d : Option Addr} (k : HOk P w H h) (e : H a = some (xo a cls d)) : ∃ oe, h.get? a = some oe ∧ Zc cls d oe ∧ ∃ vs, oe.data = .fields vs := by
  have x : ObjOk P w H h a (.ext fun h => ∃ oe, h.get? a = some oe ∧ Zc cls d oe ∧ ∃ vs, oe.data = .fields vs) := k a _ e
  exact x.1
section
variable {X : Cx} {pins : List (Addr × Obj)} {σ : L2.St} {H : Hp} {s : Shared}
/-- an object that is known by a pin, new since the def was entered, is tracked from now on -/
theorem track {a : Addr} {oe : Obj} {cls : Value} {d : Option Addr} (I : Inv X ((a, oe) :: pins) σ H s) (z : Zc cls d oe) (f : ∃ vs, oe.data = .fields vs) (np : ∀ p ∈ X.pn ++ pins, p.1 ≠ a) (n0 : X.s_0.heap.get? a = none) :
    Inv X pins σ (upd H a (xo a cls d)) s := by
  obtain ⟨e, n, nl, nf, nc⟩ := I.pin (a, oe) (List.mem_append_right _ List.mem_cons_self)
  have old : ∀ {b : Addr} {o : Obj}, X.s_0.heap.get? b = some o → b ≠ a := fun {b o} q w => by
    rw [w, n0] at q
    cases q
  have no : ∀ {b : Addr} {o : HO}, H b = some o → b ≠ a := fun q => ne_of_none q n
  refine ⟨I.ok, I.os, I.bare, ⟨I.base.keep, I.base.slot, fun b o q m hx => ?_, I.base.there, fun b xs q => ?_, fun b o u q => ?_, fun b ps q => ?_⟩, I.loc, I.cell, ?_, fun x c q => ?_, fun p hp => ?_, fun b u q => ?_, I.len⟩
  · rw [upd_ne (old q)]
    exact I.base.free b o q m hx
  · have := I.base.tups b xs q
    rw [upd_ne (no this)]
    exact this
  · have := I.base.frzs b o u q
    rw [upd_ne (no this)]
    exact this
  · obtain ⟨more, this⟩ := I.base.tbls b ps q
    exact ⟨more, (upd_ne (no this)).trans this⟩
  · rw [upd_ne nl.symm]
    exact I.free
  · have : c ≠ a := fun w => by
      obtain ⟨v, o, ho, hd⟩ := I.cell x c q
      rw [w, show s.heap.get? a = some oe from e] at ho
      cases ho
      exact nc v hd
    rw [upd_ne this]
    exact I.freeC x c q
  · obtain ⟨p1, p2, p3⟩ := I.pin p (by
      rcases List.mem_append.mp hp with w | w
      · exact List.mem_append_left _ w
      · exact List.mem_append_right _ (List.mem_cons_of_mem _ w))
    exact ⟨p1, (upd_ne (np p hp)).trans p2, p3⟩
  · by_cases hb : b = a
    · subst hb
      rw [upd_same] at q
      cases q
      exact xo_ok e z f
    · rw [upd_ne hb] at q
      exact (I.hok b u q).stay (fun _ _ _ y => y) (fun c y => (upd_ne (no y)).trans y) fun c xs y => (upd_ne (no y)).trans y
theorem unsuiteP {a : Addr} {oe : Obj} (I : Inv (X.suite a ((a, oe) :: (X.pn ++ pins))) [] σ H s) (ok : X.Ok) : Inv X ((a, oe) :: pins) σ H s :=
  ⟨ok, I.os, I.bare, I.base, I.loc, I.cell, I.free, I.freeC, fun p hp => I.pin p (by
    rw [List.append_nil]
    rcases List.mem_append.mp hp with w | w
    · exact List.mem_cons_of_mem _ (List.mem_append_left _ w)
    · rcases List.mem_cons.mp w with w | w
      · rw [w]
        exact List.mem_cons_self
      · exact List.mem_cons_of_mem _ (List.mem_append_right _ w)), I.hok, I.len⟩
end
/-- what 'except x as n: suite' wishes of an exception of the body, where the suite runs through and the exception is kept -/
def wHeld (K : PySem.W.Frag) (c : Value) (i : Nat) (ts : Addr → Value → Option Addr → TS) (Wout : WX) (D : Ends) : WX := fun cls d σ H =>
  ∃ b, PySem.W.exmOne K cls c = some b ∧ (b = true → ∀ a, H a = none → ts a cls d { nx := fun σ' H' => D.nx (σ'.set i none) (upd H' a (xo a cls d)), rt := fun _ _ => False, bk := fun _ _ => False, ct := fun _ _ => False } (σ.set i (some (.ref a))) H) ∧
    (b = false → Wout cls d σ H)
section
variable {X : Cx} {x n : Str} {c : Value} {i : Nat} {body suite : List Stmt} {b₀ : Stmt} {np pos pos' : Pos} {tb : WX → TS} {ts : Addr → Value → Option Addr → TS} {Wout : WX}
theorem ps_try_held (hs : X.stack = X.env :: X.outer) (hf : X.env.frame = some X.env.locals) (hex : X.ex = []) (hN : X.N.Nodup) (hi : X.N[i]? = some n) (hln : X.env.kindOf n = some .local) (hc : Names X x c) (tk : Takes X Wout)
    (hb : ∀ (W : WX) (pn : List (Addr × Obj)) (xe : Value → Shared → Prop), Takes (X.tr pn xe) W → PassesOwn (model X.prog X.w) X.A X.env xe → PSs (X.tr pn xe) body (tb W))
    (hsu : ∀ (a : Addr) (oe : Obj) (cls : Value) (d : Option Addr) (pn : List (Addr × Obj)), Zc cls d oe → (∃ vs, oe.data = .fields vs) → PSs (X.suite a ((a, oe) :: pn)) (b₀ :: suite) (ts a cls d)) :
    PS X (.Try body [.ExceptHandler (some (.Name x np)) (some n) (b₀ :: suite) pos'] [] [] pos) (fun D σ H => tb (wHeld X.K c i ts Wout D) D σ H) := by
  constructor
  intro pins s σ H D I h
  have ok := I.ok
  have hfr : X.A.frames = some (X.env :: X.outer) := ok.frames.trans (congrArg some hs)
  have frsE : frs X.stack = X.env.locals :: X.fs := by
    rw [hs]
    show (X.env :: X.outer).filterMap _ = _
    rw [List.filterMap_cons, hf]
    rfl
  apply wpAny_Try_except
  refine wpAny_mono ((hb (wHeld X.K c i ts Wout D) (X.pn ++ pins)
    (fun e t => wpAny (model X.prog X.w) X.A (noteFrame e X.env) (fun _ t => wpAny (model X.prog X.w) X.A (setFlight e none) (fun _ t => wpAny (model X.prog X.w) X.A
      (handleBy e X.env [.ExceptHandler (some (.Name x np)) (some n) (b₀ :: suite) pos']) (SP X pins D) X.xe t) X.xe t) X.xe t)
    (fun u s' xx => ?ctch) PassesOwn.looking).run [] s σ H D (I.toTry _) h) (fun f s1 hsp => ?thru) (fun e s1 he => he)
  case thru =>
    cases f with
    | next => exact let ⟨_, _, J, q⟩ := hsp; wpAny_execs_nil ⟨_, _, J.ofTry ok, q⟩
    | brk => exact let ⟨_, _, J, q⟩ := hsp; ⟨_, _, J.ofTry ok, q⟩
    | cont => exact let ⟨_, _, J, q⟩ := hsp; ⟨_, _, J.ofTry ok, q⟩
    | ret u => exact let ⟨_, _, _, J, r, q⟩ := hsp; ⟨_, _, _, J.ofTry ok, r, q⟩
  case ctch =>
    obtain ⟨a, B, sI, pins', σ', H', cls, d, rfl, J', nb, up, sky, na, os, ag, b, hb1, hyes, hno⟩ := xx
    have J := J'.ofTry ok
    show wpAny (model X.prog X.w) X.A (noteFrame (.ref a) X.env) _ _ _
    refine Sky.land Zc.steady hfr hf (hs ▸ sky) fun h3 fl3 up3 => ?_
    have J3 := J.landed (s' := { s' with heap := h3 }) nb fl3.1 (up.trans up3) os ag
    obtain ⟨oe3, vs3, he3, hz3, hd3⟩ := fl3.there
    have nfr : a ∉ frs (X.env :: X.outer) := fun hm => by
      obtain ⟨_, o', e', hnf⟩ := fl3.2.2.1.mem hm
      rw [he3] at e'
      cases e'
      exact hnf _ hd3
    have nfs : a ∉ X.env.locals :: X.fs := by rwa [← frsE, hs]
    have nL : a ≠ X.env.locals := fun z => nfs (z ▸ List.mem_cons_self)
    have nF : a ∉ X.fs := fun z => nfs (List.mem_cons_of_mem _ z)
    have nB : B.get? a = none := fl3.2.1
    have inB : ∀ b o, sI.heap.get? b = some o → b ∉ X.env.locals :: X.fs → b ≠ a := fun b o e nm z => by
      have := nb b o e (by rw [frsE]; exact nm)
      rw [z, nB] at this
      cases this
    have pinsNot : ∀ p ∈ X.pn ++ pins, p.1 ≠ a := fun p hp => by
      obtain ⟨p1, _, p3, p4, _⟩ := J.pin p hp
      exact inB p.1 _ p1 fun hm => by
        rcases List.mem_cons.mp hm with w | w
        · exact p3 w
        · exact p4 w
    have new0 : X.s_0.heap.get? a = none := by
      cases e : X.s_0.heap.get? a with
      | none => rfl
      | some o =>
        obtain ⟨o', e'⟩ := J.base.there a o e (by rw [hex]; exact List.not_mem_nil)
        exact absurd rfl (inB a o' e' nfs)
    have S3 := J3.suite he3 hd3 na nL nF
    refine wpAny_handleBy_cons (codeAny_handlers_test ?_) (by intro q; cases q)
    have LT : PySem.W.Looks (model X.prog X.w) h3 (typeOf (.ref a)) cls := fun A Q E s k q => wpAny_typeOf_ref (k _ _ he3) (by rw [hz3.1]; exact q)
    have LM := PySem.W.exm_one (M := model X.prog X.w) (J3.kIn) LT hb1
    have test : ∀ {Q : Value → Shared → Prop} {E : Value → Shared → Prop}, Q c { s' with heap := h3 } → wpAny (model X.prog X.w) (X.A.mark (some (.ref a))) (eval (.Name x np) X.env) Q E { s' with heap := h3 } := fun {Q E} q => by
      rcases hc with ⟨hg, hdbg, hm | ⟨hm, hv, hnn⟩⟩
      · exact ld_glob (X := X.suite a ((a, oe3) :: (X.pn ++ pins))) S3 hg hm q hdbg
      · exact ld_blt (X := X.suite a ((a, oe3) :: (X.pn ++ pins))) S3 hg hm hv q hnn hdbg
    refine test (LM.here ?_)
    cases b with
    | true =>
      refine codeAny_handlers_suite_as ?_
      refine HandSPX.lands_againZ fl3 fun h4 fl4 up4 => ?_
      have J4 := J.landed (s' := { s' with heap := h4 }) nb fl4.1 ((up.trans up3).trans up4) os ag
      obtain ⟨oe4, vs4, he4, hz4, hd4⟩ := fl4.there
      refine store_ok (X := X.suite a ((a, oe4) :: (X.pn ++ pins))) (v := .ref a) (J4.suite he4 hd4 na nL nF) hN hi (.inl hln) rfl (fun s5 S5 => ?_) (.inr hln)
      refine wpAny_mono ((hsu a oe4 cls d (X.pn ++ pins) hz4 ⟨_, hd4⟩).run [] s5 _ H' _ S5 (hyes rfl a na)) (fun f s6 hsp => ?_) (fun _ _ z => z.elim)
      cases f with
      | next =>
        obtain ⟨σ6, H6, S6, q6⟩ := hsp
        exact gone_ok (unsuiteP S6 ok) hN hi hln fun s7 J7 => ⟨_, _, track J7 hz4 ⟨_, hd4⟩ pinsNot new0, q6⟩
      | brk => exact let ⟨_, _, _, q⟩ := hsp; q.elim
      | cont => exact let ⟨_, _, _, q⟩ := hsp; q.elim
      | ret u => exact let ⟨_, _, _, _, _, q⟩ := hsp; q.elim
    | false =>
      show wpAny _ X.A (handleBy (.ref a) X.env []) _ _ _
      refine wpAny_handleBy_nil ?_
      obtain ⟨k1, k2, k3, oe, vs, T, oT, ts', he, hz, hd, h1, hr⟩ := id fl3
      unfold PySem.passOn
      refine wpAny_bind (wpAny_field he hd h1 ?_)
      rw [if_neg (show ¬ ((Value.ref T == Value.none) = true) from by simp)]
      have fin : wpAny (model X.prog X.w) X.A (setFlight (.ref a) X.env.frame) (fun _ s4 => wpAny (model X.prog X.w) X.A (throw (.ref a) : Sem Flow) (SP X pins D) X.xe s4) X.xe { s' with heap := h3 } := by
        rw [hf]
        refine HandSPX.setFlight_upZ fl3 fun h4 hh4 up4 => wpAny_throw (tk _ _ ?_)
        exact ⟨a, B, sI, pins, σ', H', cls, d, rfl, J, nb, (up.trans up3).trans up4, .inr (.inr (by rw [hs]; exact hh4)), na, os, ag, hno rfl⟩
      first
        | exact wpAny_bind (wpAny_pure (wpAny_bind fin))
        | exact wpAny_bind fin
end
end JP

namespace JP
open PySem PySem.Spec PyProof.Rows L2

/-! ### an exception that is held: its fields, its class -/
/-- an exception of the class at C, held at a, with the fields fs -/
def Held (H : Hp) (a C : Addr) (fs : List (Str × V)) : Prop := ∃ d, H a = some (xo a (.ref C) (some d)) ∧ H d = some (.xd fs)
section
variable {X : Cx} {pins : List (Addr × Obj)} {σ : L2.St} {H : Hp} {s : Shared}
theorem held_inst {a C : Addr} {fs : List (Str × V)} (I : Inv X pins σ H s) (h : Held H a C fs) : ∃ (oe : Obj) (od : Obj) (mA : Str → Option Value), PySem.W.InstAt s.heap a oe C (some od) ∧ (∀ f, RelO (fs.lookup f) (mA f)) ∧ ∀ f : Str, PySem.W.lookIn f od = some (mA f) := by
  obtain ⟨d, ha, hd⟩ := h
  obtain ⟨oe, ho, hz, vs, hv⟩ := xo_at I.hok ha
  obtain ⟨mA, hns, hr⟩ := (show ObjOk X.prog X.w H s.heap d (.xd fs) from I.hok d _ hd)
  obtain ⟨od, ho2, hl⟩ := lookIn_ns hns
  exact ⟨oe, od, mA, ⟨ho, hz.1, by unfold PySem.W.notCls; rw [hv] <;> rfl, by rw [hz.2]; exact ho2⟩, hr, hl⟩
/-- e.f, e such an exception -/
def tXa (K : PySem.W.Frag) (f : Str) (te : TE) : TE := fun σ H Q => te σ H fun x H1 => ∃ a C fs v, x = .ref a ∧ XfC K C ∧ PySem.W.findIn K (.ref C) f = some none ∧ Held H1 a C fs ∧ fs.lookup f = some v ∧ Q v H1
theorem pe_xa {e : Expr} {te : TE} {pos : Pos} {n : Str} (he : PE X e te) (hb : attributeBase e n X.env (eval e X.env) = eval e X.env := by rfl) : PE X (.Attribute e n pos) (tXa X.K n te) := by
  refine ⟨fun pins s σ H Q I h => ?_⟩
  refine attr_of hb (thn (he.run pins s σ H _ I h) fun u s1 hh => ?_)
  obtain ⟨x, H1, I1, rx, a, C, fs, v, rfl, T, hno, hx, l, q⟩ := hh
  cases rx
  obtain ⟨oe, od, mA, J, hr, hl⟩ := held_inst I1 hx
  obtain ⟨u, hu, ru⟩ := RelO.some_of (v := v) (o := mA n) (by rw [← l]; exact hr n)
  exact HandSPX.exc_get I1.kIn J T.ga T.gg T.exC (PySem.W.findObj_own T.hdC hno rfl (by rw [hl, hu])) (handed_of ru) ⟨v, H1, I1.tok _, ru, q⟩
/-- isinstance(e, c), e such an exception -/
def rIsX (K : PySem.W.Frag) : List V → Hp → VK → Prop := fun xs H Q => ∃ (a C : Addr) (fs : List (Str × V)) (c : V) (cv : Value) (b : Bool), xs = [.ref a, c] ∧ ClsV c cv ∧ ExcC K C ∧ Held H a C fs ∧ PySem.W.kitOne K (.ref C) cv = some b ∧ Q (.bl b) H
theorem call_isX : CallR X (.builtin "isinstance") (rIsX X.K) := by
  intro pins s σ H xs us Q I r h
  obtain ⟨a, C, fs, c, cv, b, rfl, k, T, hx, e, q⟩ := h
  obtain ⟨u1, u2, rfl, r1, r2⟩ := vals2 r
  have e2 := k.eq r2
  subst e2
  cases r1
  obtain ⟨oe, od, mA, J, _⟩ := held_inst I hx
  obtain ⟨cd, hc, _⟩ := PySem.W.any_some T.hd
  exact PySem.W.kia_one (PySem.W.kitx_exc (by rw [hc]; rfl) T.hg T.hk T.hs T.ha T.hn T.ht T.hm) I.kIn J e (fun z => nomatch z) fun tk => ⟨.bl b, H, I.tok tk, rfl, q⟩
end

/-! ### instances of an own class: str(x), x == y, x != y -/
section
variable {X : Cx} {CX : CXT} {k : Nat} {C g : Addr} {fd : FuncData} {ps : List Str} {sp : Sp} {E : XK}
/-- C's own m stands at g -/
structure OwnM (K : PySem.W.Frag) (C : Addr) (m : Str) (g : Addr) : Prop where
  at_ : PySem.W.findIn K (.ref C) m = some (some (.ref g))
  fn : PySem.W.isFn K (.ref g) = true
theorem ins_inst {pins : List (Addr × Obj)} {σ : L2.St} {H : Hp} {s : Shared} {a dx : Addr} {fs : List (Str × V)} (I : Inv X pins σ H s) (h : H a = some (.ins C dx fs)) : ∃ ox od, PySem.W.InstAt s.heap a ox C od := by
  obtain ⟨mA, O, _⟩ := ins_get I.hok h
  obtain ⟨od, J, _⟩ := O.look
  exact ⟨_, _, J⟩
theorem call_at {A : Around} {pins : List (Addr × Obj)} {σ : L2.St} {H : Hp} {s : Shared} {us : List Value} {vs : List V} {Q : VK} (F : FnOk X.prog X.w X.K X.mg X.base CX k g fd ps sp) (hb : Binds X.K fd ps []) (hr : Room k A) (hx : Passes CX X E) (I : Inv X pins σ H s) (e0 : Env0 X.prog X.w X.K X.mg X.base A X.stack s H) (r : Vals vs us) (h : sp vs H Q E) :
    wpAny (model X.prog X.w) A (call (.ref g) us) (EP X pins σ Q) X.xe s := by
  have n : us.length = ps.length := r.length.symm.trans (F.len _ _ _ _ h)
  refine wpAny_call (codeAny_mono (F.run A X.stack s H ⟨us, []⟩ us vs Q E hr e0 (by
    have := hb s us I.kIn (by rw [List.append_nil]; exact n)
    rw [List.append_nil] at this
    exact this) r h) fun r s' hq => ?_)
  cases r with
  | error e => exact hx pins σ H s e s' I hq
  | ok fl =>
    cases fl with
    | ret u => exact I.after hq
    | next => exact False.elim hq
    | brk => exact False.elim hq
    | cont => exact False.elim hq
/-- str(x) -/
def rStrO (C : Addr) (sp : Sp) (E : XK) : List V → Hp → VK → Prop := fun xs H Q => ∃ a dx fs, xs = [.ref a] ∧ H a = some (.ins C dx fs) ∧ sp [.ref a] H (fun z H' => ∃ y, z = .str y ∧ Q z H') E
theorem call_strO (M : OwnM X.K C "__str__" g) (F : FnOk X.prog X.w X.K X.mg X.base CX k g fd ps sp) (hb : Binds X.K fd ps []) (hr : Room (k + 2) X.A) (hx : Passes CX X E) : CallR X (.type "str") (rStrO C sp E) := by
  intro pins s σ H xs us Q I r h
  obtain ⟨a, dx, fs, rfl, ha, q⟩ := h
  obtain ⟨u, rfl, ru⟩ := vals1 r
  cases ru
  obtain ⟨ox, od, J⟩ := ins_inst I ha
  have hr2 : Room k X.A.in1.in1 := (show Room (k + 1) X.A.in1 from Room.in1 hr).in1
  refine PySem.W.kso_call hr2.units0 I.kIn J M.at_ M.fn (wpAny_mono (call_at (us := [.ref a]) (vs := [.ref a]) F hb hr2 hx I I.env0.in1.in1 (.cons rfl .nil) q) (fun w s' z => ?_) fun _ _ x => x)
  obtain ⟨z', H', I', rz, y, ey, qz⟩ := z
  subst ey
  obtain ⟨t, e⟩ := (show ∃ t, w = Value.str y t from rz)
  subst e
  exact ⟨.str y, H', I', ⟨t, rfl⟩, qz⟩
/-- what stands on the right of a comparison: of a class that is not below C -/
structure RightOf (K : PySem.W.Frag) (H : Hp) (C : Addr) (y : V) : Prop where
  ty : ∃ t, TyX K H y t ∧ PySem.W.notFirst K C t = true
/-- x == y, x != y -/
def rEqO (C : Addr) (sp : Sp) (E : XK) (K : PySem.W.Frag) (neg : Bool) : R2 := fun x y H Q => ∃ a dx fs, x = .ref a ∧ H a = some (.ins C dx fs) ∧ RightOf K H C y ∧ sp [.ref a, y] H (fun z H' => ∃ b, z = .bl b ∧ Q (.bl (if neg then !b else b)) H') E
theorem op_eqO (M : OwnM X.K C "__eq__" g) (F : FnOk X.prog X.w X.K X.mg X.base CX k g fd ps sp) (hb : Binds X.K fd ps []) (hr : Room k X.A) (hx : Passes CX X E) : OpR X (compareOp .Eq) (rEqO C sp E X.K false) := by
  intro pins s σ H x y v u Q I rx ry h
  obtain ⟨a, dx, fs, rfl, ha, ⟨t, ty, hn⟩, q⟩ := h
  cases rx
  obtain ⟨ox, od, J⟩ := ins_inst I ha
  obtain ⟨P, Z, p, _⟩ := kit_of I ry ty
  obtain ⟨m, hF⟩ := I.fr
  show wpAny _ _ (richCompare .Eq _ _) _ _ _
  refine PySem.W.cmp_K (op := .Eq) hr.units0 hF I.ok.mod.kin J (Z.ty _ _ I.kIn p) hn M.at_ M.fn ?_
  refine wpAny_mono (call_at (us := [.ref a, u]) (vs := [.ref a, y]) F hb hr hx I I.env0 (.cons rfl (.cons ry .nil)) q) (fun w s' z => ?_) fun _ _ x => x
  obtain ⟨z', H', I', rz, b, eb, qz⟩ := z
  subst eb
  cases (show w = Value.bool b from rz)
  exact ⟨.bl b, H', I', rfl, qz⟩
/-- a builtin that stands as a class's special method -/
theorem ifBoundB {M : Model} {A : Around} {E : Value → Shared → Prop} {s : Shared} {K : PySem.W.Frag} {x C : Addr} {ox : Obj} {od : Option Obj} {name : Str} {id : String} {args : List Value} {Q : Option Value → Shared → Prop} (Y : K.In s.heap) (I : PySem.W.InstAt s.heap x ox C od)
    (hs : PySem.W.findIn K (.ref C) name = some (some (.builtin id))) (hb : ∀ self, bindSpecial (.builtin id) self = pure (.builtin id, [self])) (h : wpAny M A (call (.builtin id) (.ref x :: args)) (fun v => Q (some v)) E s) : wpAny M A (callSpecialIfBound? (.ref x) name args) Q E s := by
  simp only [callSpecialIfBound?, bindSpecialIfBound?]
  refine wpAny_holding (wpAny_bind (wpAny_bind (wpAny_bind (I.type.here ((PySem.W.looks_findIn Y hs).here ?_)))))
  refine wpAny_bind (wpAny_askSetting (wpAny_ite ?_))
  have fin : wpAny M A (call (.builtin id) ([.ref x] ++ args) >>= fun v => pure (some v)) Q E s := wpAny_bind (wpAny_mono h (fun v s' h' => wpAny_pure h') fun _ _ h' => h')
  split
  · exact wpAny_bind ((PySem.W.Looks.of_pure (hb _)).here (wpAny_pure (by exact fin)))
  · exact wpAny_tryCatch (wpAny_bind ((PySem.W.Looks.of_pure (hb _)).here (wpAny_pure (by exact fin))))
open Builtin in
/-- object.__ne__: what __eq__ does not say -/
theorem call_objne {prog : Program} {w : World} {A : Around} {E : Value → Shared → Prop} {s : Shared} {K : PySem.W.Frag} {x C f : Addr} {ox : Obj} {od : Option Obj} {b : Value} {Q : Value → Shared → Prop} (hu : A.in1.units < cLine) (Y : K.In s.heap) (I : PySem.W.InstAt s.heap x ox C od) (hm : PySem.W.mroIn K C (.type "object") = some true)
    (he : PySem.W.findIn K (.ref C) "__eq__" = some (some (.ref f))) (hf : PySem.W.isFn K (.ref f) = true) (h : wpAny (model prog w) A.in1 (call (.ref f) [.ref x, b]) (fun v s' => ∃ k, v = .bool k ∧ Q (.bool !k) s') E s) : wpAny (model prog w) A (call (.builtin "object.__ne__") [.ref x, b]) Q E s := by
  refine wpAny_call (codeAny_call_builtin PySem.F.cmp_object.ne.plain PySem.F.cmpEntry_ne (PySem.W.check_slot (i := "object.__ne__") (owner := "object") (n := "__ne__") PySem.F.cmpKind_ne PySem.F.cmpSplit_ne (I.type.andThen (PySem.W.looks_mroIn Y hm)) (PySem.F.cmpArgs_ne _ _) ?_))
  unfold Builtin.«object.__ne__»
  refine wpAny_bind (m := slotArgs "__ne__" 1 _) (wpAny_pure ?_)
  refine wpAny_bind (m := cRoomFor _ _) (wpAny_cRoomFor hu ?_)
  refine wpAny_bind (m := callSpecialIfBound? (.ref x) (Str.ofString "__eq__") _) (PySem.W.ifBound_K Y I he hf (wpAny_mono h (fun r s' hq => ?_) fun _ _ y => y))
  obtain ⟨k, rfl, q⟩ := hq
  cases k <;> exact wpAny_pure q
/-- x != y, where the class has no __ne__ of its own -/
theorem rich_ne {prog : Program} {w : World} {A : Around} {E : Value → Shared → Prop} {s : Shared} {K : PySem.W.Frag} {x C f : Addr} {ox : Obj} {od : Option Obj} {b tb : Value} {Q : Value → Shared → Prop} (hu0 : A.units < cLine) (hu : A.in1.units < cLine) (Y : K.In s.heap) (I : PySem.W.InstAt s.heap x ox C od)
    (hb : PySem.W.Looks (model prog w) s.heap (typeOf b) tb) (hn : PySem.W.notFirst K C tb = true) (hm : PySem.W.mroIn K C (.type "object") = some true) (hne : PySem.W.findIn K (.ref C) "__ne__" = some (some (.builtin "object.__ne__")))
    (he : PySem.W.findIn K (.ref C) "__eq__" = some (some (.ref f))) (hf : PySem.W.isFn K (.ref f) = true) (h : wpAny (model prog w) A.in1 (call (.ref f) [.ref x, b]) (fun v s' => ∃ k, v = .bool k ∧ Q (.bool !k) s') E s) : wpAny (model prog w) A (richCompare .NotEq (.ref x) b) Q E s := by
  have one : wpAny (model prog w) A (tryCompare (.ref x) "__ne__" b) (fun r s' => ∃ v, r = some v ∧ Q v s') E s := by
    unfold tryCompare
    refine wpAny_bind (ifBoundB (args := [b]) Y I hne PySem.F.cmp_object.ne.bind ?_)
    have z := call_objne (Q := fun v s' => ∃ k, v = .bool k ∧ Q v s') hu Y I hm he hf (wpAny_mono h (fun v s' hv => (let ⟨k, e, q⟩ := hv; ⟨k, e, _, rfl, q⟩ : ∃ k, v = .bool k ∧ ∃ k', Value.bool (!k) = .bool k' ∧ Q (.bool !k) s')) fun _ _ e => e)
    refine wpAny_mono z (fun v s' hv => ?_) fun _ _ e => e
    obtain ⟨k, rfl, q⟩ := hv
    exact wpAny_pure ⟨_, rfl, q⟩
  unfold richCompare
  simp only [PySem.oneThing_ref]
  refine wpAny_holding (wpAny_bind (wpAny_cRoomFor hu0 ?_))
  refine wpAny_bind (I.type.here (wpAny_bind (hb.here ?_)))
  split
  · rename_i q
    have e : PySem.W.subIn K tb (.ref C) = some false := by
      rcases Bool.or_eq_true_iff.mp hn with e | e
      · rw [beq_iff_eq.mp e] at q; simp at q
      · exact beq_iff_eq.mp e
    refine wpAny_bind ((PySem.W.looks_subIn Y e).here ?_)
    simp only [Bool.false_eq_true, if_false]
    refine wpAny_bind (wpAny_mono one (fun r s' z => ?_) fun _ _ e => e)
    obtain ⟨v, rfl, hq⟩ := z
    exact wpAny_pure hq
  · refine wpAny_bind (wpAny_pure ?_)
    simp only [Bool.false_eq_true, if_false]
    refine wpAny_bind (wpAny_mono one (fun r s' z => ?_) fun _ _ e => e)
    obtain ⟨v, rfl, hq⟩ := z
    exact wpAny_pure hq
theorem op_neO (M : OwnM X.K C "__eq__" g) (hne : PySem.W.findIn X.K (.ref C) "__ne__" = some (some (.builtin "object.__ne__"))) (hm : PySem.W.mroIn X.K C (.type "object") = some true) (F : FnOk X.prog X.w X.K X.mg X.base CX k g fd ps sp) (hb : Binds X.K fd ps []) (hr : Room (k + 1) X.A) (hx : Passes CX X E) : OpR X (compareOp .NotEq) (rEqO C sp E X.K true) := by
  intro pins s σ H x y v u Q I rx ry h
  obtain ⟨a, dx, fs, rfl, ha, ⟨t, ty, hn⟩, q⟩ := h
  cases rx
  obtain ⟨ox, od, J⟩ := ins_inst I ha
  obtain ⟨P, Z, p, _⟩ := kit_of I ry ty
  have hr2 : Room k X.A.in1 := Room.in1 hr
  show wpAny _ _ (richCompare .NotEq _ _) _ _ _
  refine rich_ne hr.units0 hr2.units0 I.kIn J (Z.ty _ _ I.kIn p) hn hm hne M.at_ M.fn ?_
  refine wpAny_mono (call_at (us := [.ref a, u]) (vs := [.ref a, y]) F hb hr2 hx I I.env0.in1 (.cons rfl (.cons ry .nil)) q) (fun w s' z => ?_) fun _ _ x => x
  obtain ⟨z', H', I', rz, b, eb, qz⟩ := z
  subst eb
  cases (show w = Value.bool b from rz)
  exact ⟨b, rfl, .bl !b, H', I', rfl, qz⟩
end

/-! ### C.m(e), m a static method -/
structure SMet (K : PySem.W.Frag) (C : Addr) (mc : Value) (m : Str) (p g : Addr) : Prop where
  rd : PySem.W.readsIn K C mc = true
  ga : PySem.W.specialIn K (.ref C) "__getattribute__" = some (some (.builtin "type.__getattribute__"))
  at_ : PySem.W.findCls K (.ref C) mc m = some (.get (.builtin "staticmethod.__get__") (.ref p) .none (.ref C))
  rc : ∃ rest, PySem.W.recIn K p "staticmethod" = some (.ref g :: rest)
  kp : PySem.W.keepIn K (.ref g) = true
section
variable {X : Cx} {CX : CXT} {k : Nat} {C p g : Addr} {mc : Value} {fd : FuncData} {ps ks : List Str} {sp : Sp} {E : XK} {o e : Expr} {es : List Expr} {kws : List Keyword} {m : Str} {pos apos : Pos} {ta : TE} {t tk : TA} {pl : Sem Bool} {gg : List Value → List Value → List Value} {gV : List V → List V → List V}
theorem getsm {pins : List (Addr × Obj)} {σ : L2.St} {H : Hp} {s : Shared} {A : Around} {E : Value → Shared → Prop} {Q : Value × List Value → Shared → Prop} (I : Inv X pins σ H s) (c : SMet X.K C mc m p g) (h : ∀ s', Inv X pins σ H s' → Q (.ref g, []) s') : wpAny (model X.prog X.w) A (getMethod (.ref C) m pl) Q E s := by
  obtain ⟨rest, hp⟩ := c.rc
  refine PySem.W.method_cls I.kIn c.ga (PySem.W.cls_bind I.kIn c.rd c.at_ (wpAny_call (PySem.W.sm_get (s := { s with toks := s.toks + 1 }) I.kIn hp (PySem.W.handed_on rfl (h _ (I.tok _))))))
def tSMeth (C : Addr) (sp : Sp) (E : L2.St → XK) (ta : TE) (t : TA) : TE := fun σ H Q => ta σ H fun x H1 => x = .ref C ∧ t σ H1 fun vs H2 => sp vs H2 Q (E σ)
theorem pe_smeth {E : L2.St → XK} (he : PE X o ta) (c : SMet X.K C mc m p g) (F : FnOk X.prog X.w X.K X.mg X.base CX k g fd ps sp) (hr : Room k X.A) (hb : Binds X.K fd ps []) (hx : ∀ σ, PassesAt CX X σ (E σ)) (ha : PA X (e :: es) t)
    (hst : starEach (e :: es) X.env = (false, eval e X.env) :: starEach es X.env := by rfl) (hpl : (backTo pos (starEach es X.env)).any (·.1) = false := by rfl)
    (ht : eval (.Call (.Attribute o m apos) (e :: es) [] pos) X.env = (do
      let ov ← eval o X.env
      standAt apos.atName
      let (f, first) ← holding [ov] (getMethod ov m pl)
      callWith pos f first (backTo pos (starEach (e :: es) X.env)) (backToKw pos (keywordEach [] X.env))) := by rfl) :
    PE X (.Call (.Attribute o m apos) (e :: es) [] pos) (tSMeth C sp E ta t) := by
  refine ⟨fun pins s σ H Q I h => ?_⟩
  refine PySem.W.methodCall_KW (pl := pl) (thn (he.run pins s σ H _ I h) fun u s1 ⟨x, H1, I1, rx, ex, q⟩ => ?_) ht
  subst ex
  cases (show u = Value.ref C from rx)
  refine getsm I1 c fun s2 I2 => ?_
  exact PySem.W.callWith_K (first := []) (h₀ := X.base) I.ok.mod.kin c.kp (thn (ha.run pos pins s2 σ H1 _ I2 q) fun us s3 ⟨vs, H2, I3, r, q2⟩ => ⟨I3.kIn, run_fnS (us := us) (vs := vs) F hr hb (hx σ) I3 r q2⟩) hst hpl
theorem passes_at {E : XK} (h : Passes CX X E) (σ : L2.St) : PassesAt CX X σ E := fun pins H s e s' I c => h pins σ H s e s' I c
/-- what is not raised passes -/
theorem takesN {X : Cx} : Takes X (fun _ _ _ _ => False) := fun _ _ x => by
  obtain ⟨_, _, _, _, _, _, _, _, _, _, _, _, _, _, _, _, z⟩ := x
  exact z.elim
def EN : XK := fun _ _ _ => False
theorem passN : Passes (L2.CX X.prog X.w) X EN := fun pins σ H s e s' I c => passes_call takesN (fun _ _ _ _ h => h) pins σ H s e s' I c
def tSMethK (C : Addr) (sp : Sp) (gV : List V → List V → List V) (E : XK) (ta : TE) (tk : TA) : TE := fun σ H Q => ta σ H fun x H1 => x = .ref C ∧ tk σ H1 fun zs H2 => sp (gV [] zs) H2 Q E
/-- C.m(k = v, ..) -/
theorem pe_smethK0 (he : PE X o ta) (c : SMet X.K C mc m p g) (F : FnOk X.prog X.w X.K X.mg X.base CX k g fd ps sp) (hr : Room k X.A) (hb : KBinds X.K fd ps ks gg gV) (hx : Passes CX X E) (hkw : PK X kws tk)
    (hall : (backToKw pos (keywordEach kws X.env)).all (·.1.isSome) = true := by rfl) (hks : (backToKw pos (keywordEach kws X.env)).filterMap (·.1) = ks := by rfl)
    (hpl : ((backTo pos (starEach [] X.env)).any (·.1) || (backToKw pos (keywordEach kws X.env)).any (·.1.isNone)) = false := by rfl)
    (ht : eval (.Call (.Attribute o m apos) [] kws pos) X.env = (do
      let ov ← eval o X.env
      standAt apos.atName
      let (f, first) ← holding [ov] (getMethod ov m pl)
      callWith pos f first (backTo pos (starEach [] X.env)) (backToKw pos (keywordEach kws X.env))) := by rfl) :
    PE X (.Call (.Attribute o m apos) [] kws pos) (tSMethK C sp gV E ta tk) := by
  refine ⟨fun pins s σ H Q I h => ?_⟩
  refine PySem.W.methodCall_KW (pl := pl) (thn (he.run pins s σ H _ I h) fun u s1 ⟨x, H1, I1, rx, ex, q⟩ => ?_) ht
  subst ex
  cases (show u = Value.ref C from rx)
  refine getsm I1 c fun s2 I2 => ?_
  refine PySem.W.callWith_KW0 (h₀ := X.base) I.ok.mod.kin c.kp hall (thn (hkw.run pos pins s2 σ H1 _ I2 q) fun ws s3 ⟨zs, H2, I3, rz, q2⟩ => ⟨I3.kIn, ?_⟩) hpl
  rw [hks]
  exact run_fnk (us := []) (vs := []) F hr hb hx I3 .nil rz q2
end

/-! ### an own exception with fields: made and raised -/
/-- its __init__ stores one field -/
def spE1 (K : PySem.W.Frag) (C : Addr) (f : Str) : Sp := fun vs H Q _ => ∃ a y, vs = [.ref a, y] ∧ H a = some (exo a C none) ∧ ∀ d, H d = none → d ≠ a → Q .non (upd (upd H d (exd d [(f, y)])) a (exo a C (some d)))
/-- two fields -/
def spE2 (K : PySem.W.Frag) (C : Addr) (f g : Str) : Sp := fun vs H Q _ => ∃ a y z, vs = [.ref a, y, z] ∧ H a = some (exo a C none) ∧ ∀ d, H d = none → d ≠ a → Q .non (upd (upd (upd H d (exd d [(f, y)])) a (exo a C (some d))) d (exd d [(g, z), (f, y)]))
theorem exd_end {H : Hp} {a d : Addr} {o : HO} {C : Addr} {fs gs : List (Str × V)} (n : H a = none) (nd : d ≠ a) : upd (del (upd (upd (upd (upd H a o) d (exd d fs)) a (exo a C (some d))) d (exd d gs)) a) d (.xd gs) = upd H d (.xd gs) := by
  funext b
  by_cases hd : b = d
  · subst hd
    rw [upd_same, upd_same]
  · rw [upd_ne hd, upd_ne hd]
    by_cases ha : b = a
    · subst ha
      rw [del_same, n]
    · rw [del_ne ha, upd_ne hd, upd_ne ha, upd_ne hd, upd_ne ha]
theorem exd_end1 {H : Hp} {a d : Addr} {o : HO} {C : Addr} {fs : List (Str × V)} (n : H a = none) (nd : d ≠ a) : upd (del (upd (upd (upd H a o) d (exd d fs)) a (exo a C (some d))) a) d (.xd fs) = upd H d (.xd fs) := by
  funext b
  by_cases hd : b = d
  · subst hd
    rw [upd_same, upd_same]
  · rw [upd_ne hd, upd_ne hd]
    by_cases ha : b = a
    · subst ha
      rw [del_same, n]
    · rw [del_ne ha, upd_ne ha, upd_ne hd, upd_ne ha]
/-- what the making of such an exception comes to -/
theorem mkE1 {K : PySem.W.Frag} {C : Addr} {f : Str} {y : V} {H1 : Hp} {Q E : XK} (q : ∀ d, H1 d = none → Q (.ref C) (some d) (upd H1 d (.xd [(f, y)]))) :
    [y].length ≤ 1000 ∧ ∀ a, H1 a = none → spE1 K C f (.ref a :: ([y] ++ [])) (upd H1 a (exo a C none))
      (fun v H2 => v = .non ∧ ∃ (d : Addr) (fs : List (Str × V)), H2 a = some (exo a C (some d)) ∧ H2 d = some (exd d fs) ∧ H1 d = none ∧ Q (.ref C) (some d) (upd (del H2 a) d (.xd fs))) E := by
  refine ⟨by simp, fun a na => ⟨a, y, rfl, upd_same, fun d nd nda => ⟨rfl, d, [(f, y)], upd_same, ?_, ?_, ?_⟩⟩⟩
  · rw [upd_ne nda, upd_same]
  · rw [upd_ne nda] at nd
    exact nd
  · rw [upd_ne nda] at nd
    rw [exd_end1 na nda]
    exact q d nd
theorem mkE2 {K : PySem.W.Frag} {C : Addr} {f g : Str} {y z : V} {H1 : Hp} {Q E : XK} (q : ∀ d, H1 d = none → Q (.ref C) (some d) (upd H1 d (.xd [(g, z), (f, y)]))) :
    [y, z].length ≤ 1000 ∧ ∀ a, H1 a = none → spE2 K C f g (.ref a :: ([y, z] ++ [])) (upd H1 a (exo a C none))
      (fun v H2 => v = .non ∧ ∃ (d : Addr) (fs : List (Str × V)), H2 a = some (exo a C (some d)) ∧ H2 d = some (exd d fs) ∧ H1 d = none ∧ Q (.ref C) (some d) (upd (del H2 a) d (.xd fs))) E := by
  refine ⟨by simp, fun a na => ⟨a, y, z, rfl, upd_same, fun d nd nda => ⟨rfl, d, [(g, z), (f, y)], ?_, upd_same, ?_, ?_⟩⟩⟩
  · rw [upd_ne nda.symm, upd_same]
  · rw [upd_ne nda] at nd
    exact nd
  · rw [upd_ne nda] at nd
    rw [exd_end na nda]
    exact q d nd
end JP

namespace JP
open PySem PySem.Spec PyProof.Rows L2 TL

/-! ### text * int -/
theorem op_mulS {X : Cx} : OpR X (binaryOp .Mult) (fun x y H Q => ∃ a n, x = .str a ∧ y = .int n ∧ MulOk a n ∧ Q (.str (Txt.mul a n)) H) := by
  intro pins s σ H x y v u Q I rx ry h
  obtain ⟨a, n, rfl, rfl, hz, q⟩ := h
  obtain ⟨t, rfl⟩ := rx
  obtain ⟨t', rfl⟩ := ry
  exact SB.mul hz (fun t' k => ⟨.str (Txt.mul a n), H, I.tok _, ⟨_, rfl⟩, q⟩)

/-! ### the texts of integers -/
abbrev numS (n : Int) : Str := Str.ofString (toString n)
theorem tl_num0 (m : Nat) : tl (numS (m : Int)) = numL m := tl_num m
theorem tl_numN (m : Nat) : tl (numS (Int.negSucc m)) = 45 :: numL (m + 1) := by
  have e : toString (Int.negSucc m) = "-" ++ toString (m + 1) := rfl
  rw [numS, e, tl_ofString, String.toList_append, List.map_append]
  have z := tl_num (m + 1)
  rw [tl_ofString] at z
  show [45] ++ _ = _
  rw [show (toString (m + 1) : String) = toString ((m + 1 : Nat) : Int) from rfl, z]
  rfl
theorem dig_uni : ∀ c, 48 ≤ c → c ≤ 57 → Unicode.isDigit c = true := fun c h1 h2 => by
  have : c = 48 ∨ c = 49 ∨ c = 50 ∨ c = 51 ∨ c = 52 ∨ c = 53 ∨ c = 54 ∨ c = 55 ∨ c = 56 ∨ c = 57 := by omega
  rcases this with rfl | rfl | rfl | rfl | rfl | rfl | rfl | rfl | rfl | rfl <;> decide +kernel
/-- whether a word is an integer as it is written, of at most 60 digits -/
def isIntW (w : Str) : Bool :=
  if (decide ((60 : Int) < (Txt.removeprefix w "-").length) || !Txt.isascii (Txt.removeprefix w "-") || !Txt.isdigit (Txt.removeprefix w "-")) = true then false
  else (decide (V.str w = V.str "0") || !Txt.startswith (Txt.removeprefix w "-") "0")
theorem allS (x : Str) (p : Nat → Bool) : x.cps.all p = (tl x).all p := by
  rw [Array.all_toList] <;> rfl
theorem head_numL {m : Nat} (h : 0 < m) : ∃ c r, numL m = c :: r ∧ c ≠ 48 := by
  induction m using Nat.strongRecOn with
  | _ m ih =>
    by_cases h10 : m < 10
    · exact ⟨48 + m, [], numL_lt h10, by omega⟩
    · obtain ⟨c, r, e, hc⟩ := ih (m / 10) (by omega) (by omega)
      exact ⟨c, r ++ [48 + m % 10], by rw [numL_step (by omega), e]; rfl, hc⟩
theorem tl_minus : tl ("-" : Str) = [45] := tl_ofString "-"
theorem tl_zero : tl ("0" : Str) = [48] := tl_ofString "0"
theorem len_minus : ("-" : Str).length = 1 := by rw [len_tl, tl_minus]; rfl
theorem len_zero : ("0" : Str).length = 1 := by rw [len_tl, tl_zero]; rfl
theorem rp_minus {x d : Str} (h : tl x = 45 :: tl d) : Txt.removeprefix x "-" = d := by
  have hs : Builtin.Str.subAt x "-" 0 = true := by
    rw [StrLaws.subAt_eq, show x.cps.toList = tl x from rfl, show ("-" : Str).cps.toList = tl "-" from rfl, tl_minus, h, len_minus]
    simp
  have hl : x.length = (tl d).length + 1 := by rw [len_tl, h]; rfl
  unfold Txt.removeprefix
  rw [if_pos hs]
  show (if (x.length - ("-" : Str).length == x.length) = true then x else Builtin.Str.strSub x ("-" : Str).length x.length) = d
  rw [if_neg (by rw [len_minus]; simp; omega), len_minus]
  refine ext_tl ?_
  rw [tl_strSub_end, h]
  rfl
theorem rp_plain {x : Str} (h : ∀ r, tl x ≠ 45 :: r) : Txt.removeprefix x "-" = x := by
  have hs : Builtin.Str.subAt x "-" 0 = false := by
    rw [StrLaws.subAt_eq, show x.cps.toList = tl x from rfl, show ("-" : Str).cps.toList = tl "-" from rfl, tl_minus, len_minus, List.drop_zero]
    cases e : tl x with
    | nil => rfl
    | cons c r =>
      have : c ≠ 45 := fun z => h r (by rw [e, z])
      simp [this]
  unfold Txt.removeprefix
  rw [if_neg (by rw [hs]; exact Bool.false_ne_true)]
  rfl
theorem sw_zero (x : Str) : Txt.startswith x "0" = match tl x with | c :: _ => c == 48 | [] => false := by
  unfold Txt.startswith
  rw [StrLaws.subAt_eq, show x.cps.toList = tl x from rfl, show ("0" : Str).cps.toList = tl "0" from rfl, tl_zero, len_zero, List.drop_zero, len_tl]
  cases tl x with
  | nil => rfl
  | cons c r => simp
/-- the digits of a number: plain signs, no other -/
theorem word_digits {w d : Str} {m : Nat} (hd : tl d = numL m) (hr : Txt.removeprefix w "-" = d) (hm : m < 10 ^ 60) (hz : 0 < m ∨ w = "0") : isIntW w = true := by
  have hl : d.length ≤ 60 := by rw [len_tl, hd]; exact numL_len (by decide) hm
  have hdig := numL_digits m
  have ha : Txt.isascii d = true := by
    unfold Txt.isascii
    rw [allS, hd, List.all_eq_true]
    intro c hc
    have := hdig c hc
    exact decide_eq_true (by omega)
  have hi : Txt.isdigit d = true := by
    unfold Txt.isdigit
    rw [allS, hd, len_tl, hd, Bool.and_eq_true, List.all_eq_true]
    refine ⟨decide_eq_true (List.length_pos_iff.mpr (numL_ne m)), fun c hc => ?_⟩
    have := hdig c hc
    exact dig_uni c this.1 this.2
  unfold isIntW
  rw [hr, ha, hi, decide_eq_false (by omega)]
  simp only [Bool.not_true, Bool.or_false, Bool.false_eq_true, if_false]
  rcases hz with hz | hz
  · obtain ⟨c, r, e, hc⟩ := head_numL hz
    rw [sw_zero, hd, e]
    simp [hc]
  · rw [hz]
    simp
theorem isIntW_num {n : Int} (h : n.natAbs < 10 ^ 60) : isIntW (numS n) = true := by
  cases n with
  | ofNat m =>
    have e := tl_num0 m
    have r : Txt.removeprefix (numS (m : Int)) "-" = numS (m : Int) := rp_plain fun r z => by
      rw [e] at z
      exact numL_free (n := m) (s := 45) (by omega) (by rw [z]; exact List.mem_cons_self)
    refine word_digits e r h ?_
    by_cases h0 : m = 0
    · subst h0
      exact .inr rfl
    · exact .inl (by omega)
  | negSucc m =>
    have e := tl_numN m
    have r : Txt.removeprefix (numS (Int.negSucc m)) "-" = numS ((m + 1 : Nat) : Int) := rp_minus (by rw [e, tl_num0])
    exact word_digits (tl_num0 _) r h (.inl (by omega))
theorem len_num {n : Int} (h : n.natAbs < 10 ^ 60) : (numS n).length ≤ 61 := by
  rw [len_tl]
  cases n with
  | ofNat m =>
    rw [show (Int.ofNat m) = (m : Int) from rfl, tl_num0]
    have := numL_len (n := m) (k := 60) (by decide) h
    omega
  | negSucc m =>
    rw [tl_numN, List.length_cons]
    have := numL_len (n := m + 1) (k := 60) (by decide) h
    omega
theorem int_back {n : Int} (h : n.natAbs < 10 ^ 60) : PySem.intText? (numS n) = some n := by
  cases n with
  | ofNat m => exact int_num (by
      have := numL_len (n := m) (k := 60) (by decide) h
      omega)
  | negSucc m =>
    have hl := numL_len (n := m + 1) (k := 60) (by decide) h
    have z := PySem.intText_neg (x := numS (Int.negSucc m)) (cs := numL (m + 1)) (tl_numN m) (numL_digits _) (numL_ne _) (by rw [len_tl, tl_numN, List.length_cons]; omega)
    rw [z, numL_val]
    rfl
theorem num_free {n : Int} {s : Nat} (h : s < 48 ∨ 57 < s) (h2 : s ≠ 45) : s ∉ tl (numS n) := by
  cases n with
  | ofNat m =>
    rw [show (Int.ofNat m) = (m : Int) from rfl, tl_num0]
    exact numL_free h
  | negSucc m =>
    rw [tl_numN]
    intro z
    rcases List.mem_cons.mp z with z | z
    · exact h2 z
    · exact numL_free h z
theorem log_num {n : Int} (h : n.natAbs < 10 ^ 60) : n.natAbs.log2 < 1920 := by
  by_cases h0 : n.natAbs = 0
  · rw [h0]
    decide
  · exact (Nat.log2_lt h0).mpr (Nat.lt_of_lt_of_le h (by decide +kernel))

/-! ### the words of a bound -/
/-- how many words from the first one on are integers, at most k -/
def lead : Nat → List Str → Nat
  | 0, _ => 0
  | _, [] => 0
  | k + 1, w :: ws => if isIntW w = true then lead k ws + 1 else 0
/-- the word at a place; behind the last one the empty word -/
abbrev wd (ws : List Str) (k : Nat) : Str := ws.getD k ""
def isSign (w : Str) : Bool := decide (V.str w = V.str ">=") || decide (V.str w = V.str ">")
/-- the first word that cannot stand -/
def rdErr (ws : List Str) : Option Nat :=
  if isSign (wd ws (lead 8 ws)) = false then some (lead 8 ws)
  else if decide (V.str (wd ws (lead 8 ws + 1)) = V.str "0") = false then some (lead 8 ws + 1)
  else if lead 8 ws + 2 < ws.length then some (lead 8 ws + 2)
  else none
theorem lead_le : ∀ (k : Nat) (ws : List Str), lead k ws ≤ k
  | 0, _ => Nat.le_refl _
  | _ + 1, [] => Nat.zero_le _
  | k + 1, w :: ws => by
    unfold lead
    split
    · have := lead_le k ws
      omega
    · omega
theorem lead_app : ∀ (k : Nat) (us r : List Str), (∀ u ∈ us, isIntW u = true) → us.length ≤ k → (us.length = k ∨ ∀ w r', r = w :: r' → isIntW w = false) → lead k (us ++ r) = us.length
  | 0, [], r, _, _, _ => rfl
  | 0, _ :: _, _, _, h, _ => absurd h (by simp)
  | k + 1, [], [], _, _, _ => rfl
  | k + 1, [], w :: r, _, _, h => by
    rcases h with h | h
    · simp at h
    · show lead (k + 1) (w :: r) = 0
      unfold lead
      rw [if_neg (by rw [h w r rfl]; exact Bool.false_ne_true)]
  | k + 1, u :: us, r, hu, hl, h => by
    show lead (k + 1) (u :: (us ++ r)) = _
    unfold lead
    rw [if_pos (hu u List.mem_cons_self), lead_app k us r (fun x hx => hu x (List.mem_cons_of_mem _ hx)) (by simpa using hl) (h.imp (fun z => by simpa using z) id)]
    rfl
theorem wd_app (us r : List Str) (k : Nat) : wd (us ++ r) (us.length + k) = wd r k := by
  show (us ++ r).getD (us.length + k) "" = r.getD k ""
  rw [List.getD_eq_getElem?_getD, List.getD_eq_getElem?_getD, List.getElem?_append_right (Nat.le_add_right _ _), Nat.add_sub_cancel_left]
/-- lead, step by step -/
theorem lead_lt {k : Nat} : ∀ {ws : List Str} {i : Nat}, i < lead k ws → isIntW (wd ws i) = true := by
  induction k with
  | zero => intro ws i h; exact absurd h (Nat.not_lt_zero i)
  | succ k ih =>
    intro ws i h
    cases ws with
    | nil => exact absurd h (Nat.not_lt_zero i)
    | cons w ws =>
      unfold lead at h
      by_cases hw : isIntW w = true
      · rw [if_pos hw] at h
        cases i with
        | zero => exact hw
        | succ i => exact ih (ws := ws) (i := i) (by omega)
      · rw [if_neg hw] at h
        exact absurd h (Nat.not_lt_zero i)
theorem isIntW_empty : isIntW "" = false := by decide +kernel
theorem lead_at {k : Nat} : ∀ {ws : List Str}, lead k ws < k → isIntW (wd ws (lead k ws)) = false := by
  induction k with
  | zero => intro ws h; exact absurd h (Nat.not_lt_zero _)
  | succ k ih =>
    intro ws h
    cases ws with
    | nil => exact isIntW_empty
    | cons w ws =>
      unfold lead at h ⊢
      by_cases hw : isIntW w = true
      · rw [if_pos hw] at h ⊢
        exact ih (ws := ws) (by omega)
      · rw [if_neg hw] at h ⊢
        exact Bool.eq_false_iff.mpr hw
end JP

namespace JP
open PySem PySem.Spec PyProof.Rows L2 TL

theorem neD {X : Cx} {K : PySem.W.Frag} (hu : X.A.units + 64 < cLine) (h : X.K = K) : OpR X (compareOp .NotEq) (rNeD K) := h ▸ op_neD hu
theorem pe_joinK {X : Cx} {K : PySem.W.Frag} (hK : X.K = K) {o e : Expr} {to te : TE} {apos pos : Pos} (ho : PE X o to) (he : PE X e te) (h1 : starEach [e] X.env = [(false, eval e X.env)] := by rfl) (h2 : attributeBase o (Str.ofString "join") X.env (eval o X.env) = eval o X.env := by rfl)
    (h3 : (apos.endLine == pos.line) = true := by rfl) : PE X ((o.Attribute (Str.ofString "join") apos).Call [e] [] pos) (tM1 (fun x xs H Q => ∃ a p ys, x = V.str a ∧ xs = [V.ref p] ∧ (SqL K H p (List.map V.str ys) ∨ SqT K H p (List.map V.str ys)) ∧
      (List.map (fun x => x.length) ys).sum + ys.length * a.length ≤ 16777216 ∧ Q (V.str (Txt.join a ys)) H) to te) := by
  subst hK
  exact pe_join ho he h1 h2 h3
/-! ### words that are joined with a space and split again -/
def Word (v : Str) : Prop := v.length ≤ 100 ∧ 32 ∉ tl v
instance (v : Str) : Decidable (Word v) := by unfold Word; infer_instance
theorem tl_space : tl (" " : Str) = [32] := tl_ofString " "
theorem len_joinL (S : List Nat) : ∀ parts : List (List Nat), (joinL S parts).length ≤ (parts.map List.length).sum + parts.length * S.length
  | [] => Nat.zero_le _
  | [p] => by
    show p.length ≤ _
    rw [List.map_cons, List.sum_cons]
    omega
  | p :: q :: r => by
    show (p ++ (S ++ joinL S (q :: r))).length ≤ _
    have ih := len_joinL S (q :: r)
    rw [List.length_append, List.length_append, List.map_cons, List.sum_cons, List.length_cons, Nat.add_mul]
    omega
theorem sum_le : ∀ {ws : List Str} {k : Nat}, (∀ v ∈ ws, v.length ≤ k) → ((ws.map tl).map List.length).sum ≤ k * ws.length
  | [], _, _ => Nat.zero_le _
  | v :: ws, k, h => by
    have h1 := h v List.mem_cons_self
    have h2 := sum_le (ws := ws) (k := k) fun x hx => h x (List.mem_cons_of_mem _ hx)
    rw [len_tl] at h1
    rw [List.map_cons, List.map_cons, List.sum_cons, List.length_cons, Nat.mul_add]
    omega
theorem join_len {ws : List Str} (h : ∀ v ∈ ws, Word v) (hl : ws.length ≤ 20) : (Txt.join " " ws).length ≤ 2020 := by
  have h1 := len_joinL [32] (ws.map tl)
  have h2 := sum_le (ws := ws) (k := 100) fun v hv => (h v hv).1
  rw [join_eq, len_tl, tl_join, tl_space]
  rw [List.length_map] at h1
  have : [32].length = 1 := rfl
  rw [this] at h1
  omega
theorem split_back {ws : List Str} (h : ∀ v ∈ ws, Word v) (hne : ws ≠ []) : Txt.split (Txt.join " " ws) " " = ws :=
  split_join (y := " ") (s := 32) (S := []) tl_space (by decide +kernel) hne fun p hp => (h p hp).2
theorem word_num {n : Int} (h : n.natAbs < 10 ^ 60) : Word (numS n) := ⟨by have := len_num h; omega, num_free (by omega) (by omega)⟩

/-! ### where reading stops -/
section
variable {us r : List Str}
def Stop (us r : List Str) : Prop := (∀ u ∈ us, isIntW u = true) ∧ us.length ≤ 8 ∧ (us.length = 8 ∨ ∀ w r', r = w :: r' → isIntW w = false)
theorem Stop.lead (h : Stop us r) : lead 8 (us ++ r) = us.length := lead_app 8 us r h.1 h.2.1 h.2.2
theorem Stop.wd0 (h : Stop us r) : wd (us ++ r) us.length = wd r 0 := wd_app us r 0
theorem Stop.a (h : Stop us r) (s : isSign (wd r 0) = false) : rdErr (us ++ r) = some us.length := by
  unfold rdErr
  rw [h.lead, h.wd0, if_pos s]
theorem Stop.b (h : Stop us r) (s : isSign (wd r 0) = true) (z : decide (V.str (wd r 1) = V.str "0") = false) : rdErr (us ++ r) = some (us.length + 1) := by
  unfold rdErr
  rw [h.lead, h.wd0, wd_app us r 1, if_neg (by rw [s]; simp), if_pos z]
theorem Stop.c (h : Stop us r) (s : isSign (wd r 0) = true) (z : decide (V.str (wd r 1) = V.str "0") = true) (l : 2 < r.length) : rdErr (us ++ r) = some (us.length + 2) := by
  unfold rdErr
  rw [h.lead, h.wd0, wd_app us r 1, if_neg (by rw [s]; simp), if_neg (by rw [z]; simp), if_pos (by rw [List.length_append]; omega)]
end

/-! ### lists of words, and parts of them -/
def LS (H : Hp) (a : Addr) (ws : List Str) : Prop := H a = some (.lst (ws.map V.str))
theorem LS.but {p a : Addr} {H H' : Hp} {ws : List Str} (h : LS H a ws) (b : But p H H') (n : a ≠ p) : LS H' a ws := b a _ n h
theorem LS.same {a : Addr} {H H' : Hp} {ws : List Str} (h : LS H a ws) (s : Same H H') : LS H' a ws := s _ _ h
theorem LS.seq {K : PySem.W.Frag} {a : Addr} {H : Hp} {ws : List Str} (h : LS H a ws) : SqL K H a (ws.map V.str) := .of h
theorem cut_lt (ws : List Str) {k : Nat} (h : k ≤ ws.length) : cutV (ws.map V.str) none (some (k : Int)) = (ws.take k).map V.str := by
  unfold cutV
  rw [HT.sIx_nat, HT.sIx_none, List.length_map, Nat.min_eq_left h, Nat.sub_zero, List.drop_zero, List.map_take]
theorem cut_ge (ws : List Str) {k : Nat} (h : k ≤ ws.length) : cutV (ws.map V.str) (some (k : Int)) none = (ws.drop k).map V.str := by
  unfold cutV
  rw [HT.sIx_nat, HT.sIx_none, List.length_map, Nat.min_eq_left h, List.take_of_length_le (by rw [List.length_drop, List.length_map]; omega), List.map_drop]
theorem sIx_neg (n d : Nat) {k : Nat} (h0 : 0 < k) (h : k ≤ n) : HT.sIx n d (some (-(k : Int))) = n - k := by
  show (if -(k : Int) < 0 then (-(k : Int) + (n : Int)).toNat else min (-(k : Int)).toNat n) = n - k
  rw [if_pos (by omega)]
  omega
theorem cut_ltN (ws : List Str) {k : Nat} (h0 : 0 < k) (h : k ≤ ws.length) : cutV (ws.map V.str) none (some (-(k : Int))) = (ws.take (ws.length - k)).map V.str := by
  unfold cutV
  rw [List.length_map, sIx_neg _ _ h0 h, HT.sIx_none, Nat.sub_zero, List.drop_zero, List.map_take]
theorem cut_geN (ws : List Str) {k : Nat} (h0 : 0 < k) (h : k ≤ ws.length) : cutV (ws.map V.str) (some (-(k : Int))) none = (ws.drop (ws.length - k)).map V.str := by
  unfold cutV
  rw [List.length_map, sIx_neg _ _ h0 h, HT.sIx_none, List.take_of_length_le (by rw [List.length_drop, List.length_map]; omega), List.map_drop]
theorem tk1 (us : List Str) (s z : Str) : (us ++ [s, z]).take ((us ++ [s, z]).length - 1) = us ++ [s] := by
  have e : us ++ [s, z] = (us ++ [s]) ++ [z] := by simp
  rw [e, List.length_append]
  exact List.take_left
theorem tk2 (us : List Str) (s z : Str) : (us ++ [s, z]).take ((us ++ [s, z]).length - 2) = us := by
  rw [List.length_append]
  exact List.take_left
theorem dr2 (us : List Str) (s z : Str) : (us ++ [s, z]).drop ((us ++ [s, z]).length - 2) = [s, z] := by
  rw [List.length_append]
  exact List.drop_left
theorem fits {a b : List Str} (h : a.length + b.length ≤ 1000) : (a.map V.str).length + (b.map V.str).length ≤ sizeLine := by
  rw [List.length_map, List.length_map, sizeLine_eq]
  omega
theorem app_str (a b : List Str) : a.map V.str ++ b.map V.str = (a ++ b).map V.str := (List.map_append ..).symm
/-- a pair of a list of words and the place where reading them stops -/
def It (H : Hp) (x : V) : Prop := ∃ (t a : Addr) (ws : List Str) (k : Nat), x = .ref t ∧ H t = some (.tup [.ref a, .int k]) ∧ LS H a ws ∧ ws ≠ [] ∧ ws.length ≤ 20 ∧ (∀ v ∈ ws, Word v) ∧ rdErr ws = some k
theorem It.same {H H' : Hp} {x : V} (s : Same H H') (h : It H x) : It H' x := by
  obtain ⟨t, a, ws, k, e, h1, h2, r⟩ := h
  exact ⟨t, a, ws, k, e, s _ _ h1, h2.same s, r⟩
/-- what is known while the pairs are made -/
structure Bd (H0 : Hp) (p c : Addr) (m : Nat) (l : Addr) (W : List Str) (xs : List V) (H : Hp) : Prop where
  pen : Pen H p c m
  but : But p H0 H
  lst : LS H l W
  its : ∀ x ∈ xs, It H x
theorem Bd.same {H0 H H' : Hp} {p c l : Addr} {m : Nat} {W : List Str} {xs : List V} (h : Bd H0 p c m l W xs H) (s : Same H H') : Bd H0 p c m l W xs H' :=
  ⟨h.pen.same s, h.but.trans (.of_same s), h.lst.same s, fun x hx => (h.its x hx).same s⟩
theorem Bd.add {H0 H H' : Hp} {p c l : Addr} {m : Nat} {W : List Str} {xs : List V} {x : V} (h : Bd H0 p c m l W xs H) (s : Same H H') (i : It H' x) : Bd H0 p c m l W (xs ++ [x]) H' :=
  ⟨h.pen.same s, h.but.trans (.of_same s), h.lst.same s, fun y hy => by
    rcases List.mem_append.mp hy with hy | hy
    · exact (h.its y hy).same s
    · rw [List.mem_singleton.mp hy]
      exact i⟩
/-- a new pair -/
theorem It.mk {H : Hp} {a t : Addr} {ws : List Str} {k : Nat} (n : H t = none) (h : LS H a ws) (h1 : ws ≠ []) (h2 : ws.length ≤ 20) (h3 : ∀ v ∈ ws, Word v) (h4 : rdErr ws = some k) : It (upd H t (.tup [.ref a, .int k])) (.ref t) :=
  ⟨t, a, ws, k, rfl, upd_same, h.same (same_new n), h1, h2, h3, h4⟩
end JP

namespace JP
open PySem PySem.Spec PyProof.Rows L2
/-- all but the one at p and the tables of code objects stay -/
def ButN (p : Addr) (H H' : Hp) : Prop := ∀ b o, b ≠ p → H b = some o → (∀ ps, o ≠ .tbl ps) → H' b = some o
theorem ButN.trans {p : Addr} {H H1 H2 : Hp} (a : ButN p H H1) (b : ButN p H1 H2) : ButN p H H2 := fun c o n e t => b c o n (a c o n e t) t
theorem ButN.of_but {p : Addr} {H H1 : Hp} (a : But p H H1) : ButN p H H1 := fun c o n e _ => a c o n e
theorem ButN.of_ext {p : Addr} {H H1 : Hp} (a : LamX.ExtN H H1) : ButN p H H1 := fun c o _ e t => a c o e t
theorem ext_same {H H' : Hp} (s : Same H H') : LamX.ExtN H H' := fun b o h _ => s b o h
theorem Pen.ext {H H' : Hp} {p c : Addr} {m : Nat} (h : Pen H p c m) (k : LamX.ExtN H H') : Pen H' p c m := by
  obtain ⟨ns, n, g, h1, h2, r⟩ := h
  exact ⟨ns, n, g, k _ _ h1 (by intro ps z; cases z), k _ _ h2 (by intro ps z; cases z), r⟩

/-! ### what a try wishes, told of stores of the right length alone -/
def wLen (n : Nat) (W : WX) : WX := fun cls d σ H => σ.length = n → W cls d σ H
theorem takesLen {X : Cx} {W : WX} (tk : Takes X W) : Takes X (wLen X.N.length W) := fun e s x => by
  obtain ⟨a, B, sI, pins', σ', H', cls, d, e1, J, nb, up, sky, na, os, ag, hw⟩ := x
  exact tk e s ⟨a, B, sI, pins', σ', H', cls, d, e1, J, nb, up, sky, na, os, ag, hw J.len⟩
section
variable {X : Cx} {x n : Str} {c : Value} {i : Nat} {body suite : List Stmt} {b₀ : Stmt} {np pos pos' : Pos} {tb : WX → TS} {ts : Addr → Value → Option Addr → TS} {Wout : WX}
theorem ps_try_heldL (hs : X.stack = X.env :: X.outer) (hf : X.env.frame = some X.env.locals) (hex : X.ex = []) (hN : X.N.Nodup) (hi : X.N[i]? = some n) (hln : X.env.kindOf n = some .local) (hc : Names X x c) (tk : Takes X Wout)
    (hb : ∀ (W : WX) (pn : List (Addr × Obj)) (xe : Value → Shared → Prop), Takes (X.tr pn xe) W → PassesOwn (model X.prog X.w) X.A X.env xe → PSs (X.tr pn xe) body (tb W))
    (hsu : ∀ (a : Addr) (oe : Obj) (cls : Value) (d : Option Addr) (pn : List (Addr × Obj)), Zc cls d oe → (∃ vs, oe.data = .fields vs) → PSs (X.suite a ((a, oe) :: pn)) (b₀ :: suite) (ts a cls d)) :
    PS X (.Try body [.ExceptHandler (some (.Name x np)) (some n) (b₀ :: suite) pos'] [] [] pos) (fun D σ H => tb (wLen X.N.length (wHeld X.K c i ts Wout D)) D σ H) :=
  ps_try_held (tb := fun W => tb (wLen X.N.length W)) hs hf hex hN hi hln hc tk (fun W pn xe tk' po => hb _ pn xe (takesLen tk') po) hsu
end

/-! ### for x in y, y a name that holds a list or a tuple -/
def iAnyV (K : PySem.W.Frag) (i : Nat) : TI := fun σ H R => ∃ a, σ[i]? = some (some (.ref a)) ∧ (((∃ xs, SqL K H a xs) ∧ R (Itl K a) H) ∨ ((∃ xs, SqT K H a xs) ∧ R (Itt K a) H))
theorem pi_anyV {X : Cx} {tg l : Expr} {i : Nat} (hl : PE X l (tVar i)) : PI X tg l (iAnyV X.K i) := ⟨fun pins s σ H R I h => by
  obtain ⟨a, e, ⟨hx, r⟩ | ⟨hx, r⟩⟩ := h
  · exact (pi_list hl).run pins s σ H R I ⟨.ref a, e, a, rfl, hx, r⟩
  · exact (pi_tup hl).run pins s σ H R I ⟨.ref a, e, a, rfl, hx, r⟩⟩

/-! ### len(x), x of an own class -/
section
variable {X : Cx} {CX : CXT} {k : Nat} {C g : Addr} {fd : FuncData} {ps : List Str} {sp : Sp} {E : XK}
def rLenO (C : Addr) (sp : Sp) (E : XK) : List V → Hp → VK → Prop := fun xs H Q => ∃ a dx fs, xs = [.ref a] ∧ H a = some (.ins C dx fs) ∧ sp [.ref a] H (fun z H' => ∃ n : Nat, z = .int n ∧ n < 2 ^ 63 ∧ Q (.int n) H') E
theorem call_lenO (M : OwnM X.K C "__len__" g) (F : FnOk X.prog X.w X.K X.mg X.base CX k g fd ps sp) (hb : Binds X.K fd ps []) (hr : Room (k + 1) X.A) (hx : Passes CX X E) : CallR X (.builtin "len") (rLenO C sp E) := by
  intro pins s σ H xs us Q I r h
  obtain ⟨a, dx, fs, rfl, ha, q⟩ := h
  obtain ⟨u, rfl, ru⟩ := vals1 r
  cases ru
  obtain ⟨ox, od, J⟩ := ins_inst I ha
  have inner := call_at (A := X.A.in1) (us := [.ref a]) (vs := [.ref a]) F hb (Room.in1 hr) hx I I.env0.in1 (.cons rfl .nil) q
  refine Calls.call_function_entry kind_len plain_len entry_len (args_len1 _) ?_
  unfold Builtin.«len»
  refine wpAny_bind (m := oneArg "len" _) (wpAny_pure (wpAny_bind (m := callSpecial? (.ref a) (Str.ofString "__len__")) (PySem.W.special_fn I.kIn J M.at_ (beq_iff_eq.mp M.fn) (wpAny_mono inner (fun v s' z => ?_) fun _ _ x => x))))
  obtain ⟨z', H', I', rz, n, ez, hn, qz⟩ := z
  subst ez
  obtain ⟨t, rfl⟩ := (show ∃ t, v = Value.int n t from rz)
  refine wpAny_bind (wpAny_holding (wpAny_pure (wpAny_bind (wpAny_letGo ?_))))
  have n1 : ¬ (n : Int) < 0 := by omega
  have n2 : ¬ (n : Int) ≥ 2 ^ 63 := by omega
  show wpAny _ _ (if (n : Int) < 0 then _ else _) _ _ _
  rw [if_neg n1]
  show wpAny _ _ (if (n : Int) ≥ 2 ^ 63 then _ else _) _ _ _
  rw [if_neg n2]
  exact wpAny_bind (wpAny_mkInt (wpAny_pure ⟨_, rfl, .int n, H', I'.tok _, ⟨_, rfl⟩, qz⟩))
end
end JP

namespace JP
open PySem PySem.Spec PyProof.Rows L2

/-! ### zip of two, each a list or a tuple (k: it is a tuple) -/
def SqK (K : PySem.W.Frag) (k : Bool) (H : Hp) (a : Addr) (xs : List V) : Prop := match k with
  | true => SqT K H a xs
  | false => SqL K H a xs
def HSq (k : Bool) (h : Heap) (a : Addr) (its : Array Value) : Prop := match k with
  | true => h.IsTuple a its
  | false => h.IsList a its
def HIt (k : Bool) (h : Heap) (it a : Addr) (i : Nat) : Prop := match k with
  | true => h.IsTupleIter it a i
  | false => h.IsListIter it a i
def itC (k : Bool) : String := match k with
  | true => "tuple_iterator"
  | false => "list_iterator"
theorem sqK_same {K : PySem.W.Frag} {k : Bool} {H H' : Hp} {a : Addr} {xs : List V} (s : Same H H') (h : SqK K k H a xs) : SqK K k H' a xs := by
  cases k
  · exact same_seqL' s h
  · exact same_seqT s h
theorem sqK_inj {X : Cx} {pins : List (Addr × Obj)} {σ : L2.St} {H : Hp} {s : Shared} {k : Bool} {a : Addr} {xs ys : List V} (I : Inv X pins σ H s) (h : SqK X.K k H a xs) (h2 : SqK X.K k H a ys) : xs = ys := by
  cases k
  · exact I.list_inj h h2
  · exact I.tuple_inj h h2
theorem sqK_at {X : Cx} {pins : List (Addr × Obj)} {σ : L2.St} {H : Hp} {s : Shared} {k : Bool} {a : Addr} {xs : List V} (I : Inv X pins σ H s) (h : SqK X.K k H a xs) : ∃ its : List Value, Vals xs its ∧ HSq k s.heap a its.toArray := by
  cases k
  · obtain ⟨its, r, p, _⟩ := I.list h
    exact ⟨its, r, p.isList⟩
  · obtain ⟨its, r, p, _⟩ := I.tuple h
    exact ⟨its, r, p⟩
theorem drawsK {P : Program} {w : World} {A : Around} (k : Bool) (hh : A.handled = none) (it l : Addr) (ne : l ≠ it) (its : Array Value) : Draws P w A it [it, l] its.size (fun i v => its[i]? = some v) (fun i h => HIt k h it l i ∧ HSq k h l its) := by
  cases k
  · exact Draws.list hh it l ne its
  · exact Draws.tuple hh it l ne its
abbrev zk1 (k : Bool) (h : Heap) (l : Addr) : Heap := h.push { cls := .type (itC k), data := .fields #[.ref l, .int 0 0] }
abbrev zk2 (k1 k2 : Bool) (h : Heap) (l m : Addr) : Heap := zk1 k2 (zk1 k1 h l) m
abbrev zk3 (k1 k2 : Bool) (h : Heap) (l m : Addr) : Heap := (zk2 k1 k2 h l m).push { cls := .type "tuple", data := .seq #[.ref h.objs.size, .ref (zk1 k1 h l).objs.size] }
abbrev zk4 (k1 k2 : Bool) (h : Heap) (l m : Addr) : Heap := (zk3 k1 k2 h l m).push { cls := .type "tuple", data := .seq #[.none, .none] }
abbrev zk5 (k1 k2 : Bool) (h : Heap) (l m : Addr) : Heap := (zk4 k1 k2 h l m).push { cls := .type "zip", data := .fields #[.none, .bool false, .bool false, .ref (zk2 k1 k2 h l m).objs.size, .ref (zk3 k1 k2 h l m).objs.size] }
theorem meets_zk (k1 k2 : Bool) (l m : Addr) (xs ys : Array Value) :
    Meets (Builtin.«zip.__new__» ⟨[.type "zip", .ref l, .ref m], []⟩) (fun _ R s => HSq k1 s.heap l xs ∧ HSq k2 s.heap m ys ∧
      R (.ok (.ret (.ref (zk4 k1 k2 s.heap l m).objs.size))) { s with heap := zk5 k1 k2 s.heap l m }) :=
  .of_wp fun prog w A R s h => by
    obtain ⟨hp, g, d, tk, os⟩ := s
    obtain ⟨a1, a2, h⟩ := h
    have hsub := sub_zip
    cases k1 <;> cases k2
    · have b1 : Heap.IsList (Shared.heap ⟨hp, g, d, tk, os⟩) l xs := a1
      have b2 : Heap.IsList (Shared.heap ⟨hp.push { cls := .type "list_iterator", data := .fields #[.ref l, .int 0 0] }, g, d, tk, os⟩) m ys := Heap.IsList.push a2 _
      wp_walk using wpAny_pyIter_list b1, wpAny_pyIter_list b2
      exact ⟨_, rfl, h⟩
    · have b1 : Heap.IsList (Shared.heap ⟨hp, g, d, tk, os⟩) l xs := a1
      have b2 : Heap.IsTuple (Shared.heap ⟨hp.push { cls := .type "list_iterator", data := .fields #[.ref l, .int 0 0] }, g, d, tk, os⟩) m ys := Heap.IsTuple.push a2 _
      wp_walk using wpAny_pyIter_list b1, wpAny_pyIter_tuple b2
      exact ⟨_, rfl, h⟩
    · have b1 : Heap.IsTuple (Shared.heap ⟨hp, g, d, tk, os⟩) l xs := a1
      have b2 : Heap.IsList (Shared.heap ⟨hp.push { cls := .type "tuple_iterator", data := .fields #[.ref l, .int 0 0] }, g, d, tk, os⟩) m ys := Heap.IsList.push a2 _
      wp_walk using wpAny_pyIter_tuple b1, wpAny_pyIter_list b2
      exact ⟨_, rfl, h⟩
    · have b1 : Heap.IsTuple (Shared.heap ⟨hp, g, d, tk, os⟩) l xs := a1
      have b2 : Heap.IsTuple (Shared.heap ⟨hp.push { cls := .type "tuple_iterator", data := .fields #[.ref l, .int 0 0] }, g, d, tk, os⟩) m ys := Heap.IsTuple.push a2 _
      wp_walk using wpAny_pyIter_tuple b1, wpAny_pyIter_tuple b2
      exact ⟨_, rfl, h⟩
theorem hit_new {k : Bool} {h : Heap} {it l : Addr} (e : h.get? it = some { cls := .type (itC k), data := .fields #[.ref l, .int 0 0] }) : HIt k h it l 0 := by
  cases k <;> exact ⟨_, e, rfl, rfl⟩
theorem call_zk {P : Program} {w : World} {A : Around} {E : Value → Shared → Prop} {s : Shared} (k1 k2 : Bool) {l m : Addr} {xs ys : Array Value} {Q : Value → Shared → Prop} (a1 : HSq k1 s.heap l xs) (a2 : HSq k2 s.heap m ys)
    (h : ∀ h', IsZip h' (s.heap.objs.size + 4) (s.heap.objs.size + 2) (s.heap.objs.size + 3) .none → IsPair h' (s.heap.objs.size + 2) (.ref s.heap.objs.size) (.ref (s.heap.objs.size + 1)) →
      IsPair h' (s.heap.objs.size + 3) .none .none → HIt k1 h' s.heap.objs.size l 0 → HIt k2 h' (s.heap.objs.size + 1) m 0 → (∀ c o, s.heap.get? c = some o → h'.get? c = some o) → Q (.ref (s.heap.objs.size + 4)) { s with heap := h' }) :
    wpAny (model P w) A (call (.type "zip") [.ref l, .ref m]) Q E s := by
  refine callType_new F.called_zip (by decide) (F.typeCall_zip_2 _ _) (F.newCall_zip_2 _ _) (fun obj => F.args_object_init_3 obj _ _) F.entry_zip_new (meets_zk k1 k2 l m xs ys) ⟨a1, a2, ?_⟩
  have n1 : (zk1 k1 s.heap l).objs.size = s.heap.objs.size + 1 := Heap.size_push ..
  have n2 : (zk2 k1 k2 s.heap l m).objs.size = s.heap.objs.size + 2 := (Heap.size_push ..).trans (by rw [n1])
  have n3 : (zk3 k1 k2 s.heap l m).objs.size = s.heap.objs.size + 3 := (Heap.size_push ..).trans (by rw [n2])
  have n4 : (zk4 k1 k2 s.heap l m).objs.size = s.heap.objs.size + 4 := (Heap.size_push ..).trans (by rw [n3])
  have p4 : ∀ {c o}, (zk4 k1 k2 s.heap l m).get? c = some o → (zk5 k1 k2 s.heap l m).get? c = some o := fun e => Heap.get?_push_of_some _ e
  have p3 : ∀ {c o}, (zk3 k1 k2 s.heap l m).get? c = some o → (zk5 k1 k2 s.heap l m).get? c = some o := fun e => p4 (Heap.get?_push_of_some _ e)
  have p2 : ∀ {c o}, (zk2 k1 k2 s.heap l m).get? c = some o → (zk5 k1 k2 s.heap l m).get? c = some o := fun e => p3 (Heap.get?_push_of_some _ e)
  have p1 : ∀ {c o}, (zk1 k1 s.heap l).get? c = some o → (zk5 k1 k2 s.heap l m).get? c = some o := fun e => p2 (Heap.get?_push_of_some _ e)
  have g5 : (zk5 k1 k2 s.heap l m).get? (zk4 k1 k2 s.heap l m).objs.size = some _ := Heap.get?_push_size _ rfl
  have g4 : (zk5 k1 k2 s.heap l m).get? (zk3 k1 k2 s.heap l m).objs.size = some _ := p4 (Heap.get?_push_size _ rfl)
  have g3 : (zk5 k1 k2 s.heap l m).get? (zk2 k1 k2 s.heap l m).objs.size = some _ := p3 (Heap.get?_push_size _ rfl)
  have g2 : (zk5 k1 k2 s.heap l m).get? (zk1 k1 s.heap l).objs.size = some _ := p2 (Heap.get?_push_size _ rfl)
  have g1 : (zk5 k1 k2 s.heap l m).get? s.heap.objs.size = some _ := p1 (Heap.get?_push_size _ rfl)
  show _ ∧ _
  rw [n2, n3, n4] at g5
  rw [n3] at g4
  rw [n1, n2] at g3
  rw [n1] at g2
  rw [n4]
  exact ⟨⟨_, g5, rfl⟩, h _ g5 g3 g4 (hit_new g1) (hit_new g2) fun c o x => p1 (Heap.get?_push_of_some _ x)⟩
/-- the two as they stand at each turn -/
def ItzK (K : PySem.W.Frag) (k1 k2 : Bool) (a b : Addr) : L2.It :=
  ⟨fun i H => ∃ (xs ys : List V) (x y : V), SqK K k1 H a xs ∧ SqK K k2 H b ys ∧ xs[i]? = some x ∧ ys[i]? = some y,
    fun i H v H' => ∃ T x y, v = .ref T ∧ H T = none ∧ H' = upd H T (.tup [x, y]) ∧ (∀ xs, SqK K k1 H a xs → xs[i]? = some x) ∧ ∀ ys, SqK K k2 H b ys → ys[i]? = some y,
    fun i H => ∃ xs ys : List V, SqK K k1 H a xs ∧ SqK K k2 H b ys ∧ i = min xs.length ys.length⟩
/-- the five new things -/
abbrev zkFp (z : Addr) : List Addr := [z + 4, z + 2, z + 3, z, z + 1]
def zkSt (k1 k2 : Bool) (a b z : Addr) (i : Nat) (h : Heap) : Prop := IsZip h (z + 4) (z + 2) (z + 3) .none ∧ IsPair h (z + 2) (.ref z) (.ref (z + 1)) ∧ (∃ x y, IsPair h (z + 3) x y) ∧ HIt k1 h z a i ∧ HIt k2 h (z + 1) b i
theorem notIn2 {c x y : Nat} (h1 : c ≠ x) (h2 : c ≠ y) : c ∉ [x, y] := fun h => by
  rcases List.mem_cons.mp h with h | h
  · exact h1 h
  · exact h2 (List.mem_singleton.mp h)
theorem zk_sep {a b z : Nat} (ha : a < z) (hb : b < z) : ZipSep2 (z + 4) (z + 2) (z + 3) z (z + 1) [z, a] [z + 1, b] where
  TIz := by show (z + 2 : Nat) ≠ z + 4; omega
  TOz := by show (z + 3 : Nat) ≠ z + 4; omega
  TITO := by show (z + 2 : Nat) ≠ z + 3; omega
  TIi1 := by show (z + 2 : Nat) ≠ z; omega
  mem1 := List.mem_cons_self
  zf1 := notIn2 (by omega) (by omega)
  Tf1 := notIn2 (by omega) (by omega)
  TIi2 := by show (z + 2 : Nat) ≠ z + 1; omega
  mem2 := List.mem_cons_self
  zf2 := notIn2 (by omega) (by omega)
  Tf2 := notIn2 (by omega) (by omega)
  sep1_2 := notIn2 (by omega) (by omega)
  sep2_1 := notIn2 (by omega) (by omega)
theorem hit_obj {k : Bool} {h : Heap} {it l : Addr} {i : Nat} (e : HIt k h it l i) : ∃ o, h.get? it = some o ∧ ∀ v, o.data ≠ .cell v := by
  cases k <;> exact let ⟨o, h1, _, d⟩ := e; ⟨o, h1, fun v q => by rw [d] at q; cases q⟩
theorem hit_keep {k : Bool} {h h' : Heap} {it l : Addr} {i : Nat} (e : HIt k h it l i) (s : ∀ o, h.get? it = some o → h'.get? it = some o) : HIt k h' it l i := by
  cases k
  · exact Heap.IsListIter.at e s
  · exact Heap.IsTupleIter.at e s
theorem hsq_keep {k : Bool} {h h' : Heap} {l : Addr} {its : Array Value} (e : HSq k h l its) (s : ∀ o, h.get? l = some o → h'.get? l = some o) : HSq k h' l its := by
  cases k
  · exact Heap.IsList.at e s
  · exact Heap.IsTuple.at e s
theorem turn_zk {P : Program} {w : World} {K : PySem.W.Frag} {elts : List Expr} {kk : Nat} {tpos : Pos} {k1 k2 : Bool} {a b z : Addr} (ha : a < z) (hb : b < z) :
    Turn P w K (.Tuple elts kk tpos) (ItzK K k1 k2 a b) (zkFp z) (z + 4) (zkSt k1 k2 a b z) where
  mem := by simp
  obj := fun i h ⟨hz, hT, ⟨x, y, hO⟩, h1, h2⟩ c hc => by
    have e : c = z + 4 ∨ c = z + 2 ∨ c = z + 3 ∨ c = z ∨ c = z + 1 := by simpa using hc
    rcases e with q | q | q | q | q
    · subst q
      exact ⟨_, hz, fun v q => by cases q⟩
    · subst q
      exact ⟨_, hT, fun v q => by cases q⟩
    · subst q
      exact ⟨_, hO, fun v q => by cases q⟩
    · subst q
      exact hit_obj h1
    · subst q
      exact hit_obj h2
  keep := fun i h h' ⟨hz, hT, ⟨x, y, hO⟩, h1, h2⟩ k =>
    ⟨k (z + 4) (by simp) _ hz, k (z + 2) (by simp) _ hT, ⟨x, y, k (z + 3) (by simp) _ hO⟩, hit_keep h1 fun o q => k z (by simp) o q, hit_keep h2 fun o q => k (z + 1) (by simp) o q⟩
  item := by
    intro X hP hw hK hc i pins s σ H E I hf st hg
    subst hP hw hK
    obtain ⟨hz, hT, ⟨x0, y0, hO⟩, h1, h2⟩ := st
    obtain ⟨xs, ys, x, y, qx, qy, hx, hy⟩ := hg
    obtain ⟨its, rv, p⟩ := sqK_at I qx
    obtain ⟨its2, rv2, p2⟩ := sqK_at I qy
    obtain ⟨u, hu, ru⟩ := rv.get hx
    obtain ⟨u2, hu2, ru2⟩ := rv2.get hy
    have hzl : z + 4 < s.heap.objs.size := Heap.lt_size hz
    have hd : X.A.in1.handled = none := I.ok.hd hc
    have S := zk_sep ha hb
    have na : a ≠ z := Nat.ne_of_lt ha
    have nb : b ≠ z + 1 := Nat.ne_of_lt (Nat.lt_succ_of_lt hb)
    refine wpAny_pyNext_zipD2_item S (drawsK k1 hd z a na its.toArray) (drawsK k2 hd (z + 1) b nb its2.toArray) hz hT hO ⟨h1, p⟩ ⟨h2, p2⟩ (by have := (List.getElem?_eq_some_iff.mp hu).1; simpa using this) (by have := (List.getElem?_eq_some_iff.mp hu2).1; simpa using this) fun v1 v2 h' tk e1 e2 z' O' s1 s2 hN hsz hk => ?_
    have ev1 : v1 = u := by
      have q : its.toArray[i]? = some u := by simpa using hu
      exact Option.some.inj (e1.symm.trans q)
    have ev2 : v2 = u2 := by
      have q : its2.toArray[i]? = some u2 := by simpa using hu2
      exact Option.some.inj (e2.symm.trans q)
    subst ev1 ev2
    refine ⟨_, rfl, wpAny_letOwnedTupleGo_zip (s := { s with heap := h', toks := tk }) z' fun h'' z'' sb => ?_⟩
    have nz : s.heap.objs.size ≠ z + 4 := Nat.ne_of_gt hzl
    have hN2 : h''.get? s.heap.objs.size = some { cls := .type "tuple", data := .seq #[v1, v2] } := (sb.2 _ nz).trans hN
    have new : ObjOk X.prog X.w (upd H s.heap.objs.size (.tup [x, y])) h'' s.heap.objs.size (.tup [x, y]) := ⟨by show 2 ≤ sizeLine; decide, [v1, v2], .cons ru (.cons ru2 .nil), ⟨_, hN2, rfl, _, rfl⟩⟩
    have I1 : Inv X pins σ (upd H s.heap.objs.size (.tup [x, y])) { s with heap := h'', toks := tk } :=
      I.turnedNew (t' := tk) (ch := zkFp z) (fun c o nc q => by
        have n1 : c ≠ z + 4 := fun e => nc (by simp [e])
        have n2 : c ≠ z + 3 := fun e => nc (by simp [e])
        have n3 : c ≠ z := fun e => nc (by simp [e])
        have n4 : c ≠ z + 1 := fun e => nc (by simp [e])
        exact (sb.2 c n1).trans (hk c o n1 n2 n3 n4 q)) hf (Nat.le_refl _) new
    refine ⟨.ref s.heap.objs.size, _, I1, rfl, ⟨_, x, y, rfl, I.hok.fresh (Nat.le_refl _), rfl, fun l hl => by rw [sqK_inj I hl qx]; exact hx, fun l hl => by rw [sqK_inj I hl qy]; exact hy⟩, ⟨z'', ?_, ⟨v1, v2, ?_⟩, ?_, ?_⟩, fun c hcm => ?_⟩
    · exact (sb.2 _ S.TIz).trans (hk _ _ S.TIz S.TITO S.TIi1 S.TIi2 hT)
    · exact (sb.2 _ S.TOz).trans O'
    · exact hit_keep s1.1 fun o q => (sb.2 _ S.zi1.symm).trans q
    · exact hit_keep s2.1 fun o q => (sb.2 _ S.zi2.symm).trans q
    · have hlt : c < s.heap.objs.size := by
        have e : c = z + 4 ∨ c = z + 2 ∨ c = z + 3 ∨ c = z ∨ c = z + 1 := by simpa using hcm
        have hz4 : z + 4 < s.heap.objs.size := hzl
        rcases e with q | q | q | q | q
        · rw [q]; exact hz4
        · rw [q]; exact Nat.lt_of_le_of_lt (Nat.add_le_add_left (by decide : (2 : Nat) ≤ 4) z) hz4
        · rw [q]; exact Nat.lt_of_le_of_lt (Nat.add_le_add_left (by decide : (3 : Nat) ≤ 4) z) hz4
        · rw [q]; exact Nat.lt_of_le_of_lt (Nat.le_add_right z 4) hz4
        · rw [q]; exact Nat.lt_of_le_of_lt (Nat.add_le_add_left (by decide : (1 : Nat) ≤ 4) z) hz4
      exact (upd_ne (Nat.ne_of_lt hlt)).trans (hf c hcm).1
  done := by
    intro X hP hw hK hc i pins s σ H E I hf st hg
    subst hP hw hK
    obtain ⟨hz, hT, ⟨x0, y0, hO⟩, h1, h2⟩ := st
    obtain ⟨xs, ys, qx, qy, he⟩ := hg
    obtain ⟨its, rv, p⟩ := sqK_at I qx
    obtain ⟨its2, rv2, p2⟩ := sqK_at I qy
    have l1 := rv.length
    have l2 := rv2.length
    have hd : X.A.in1.handled = none := I.ok.hd hc
    have S := zk_sep ha hb
    have na : a ≠ z := Nat.ne_of_lt ha
    have nb : b ≠ z + 1 := Nat.ne_of_lt (Nat.lt_succ_of_lt hb)
    exact wpAny_pyNext_zipD2_end S (drawsK k1 hd z a na its.toArray) (drawsK k2 hd (z + 1) b nb its2.toArray) hz hT hO ⟨h1, p⟩ ⟨h2, p2⟩ (by simp; omega) (by simp; omega) (by simp; omega) fun h' tk hk => ⟨rfl, I.turnedL (t' := tk) (ch := zkFp z) (fun c o nc q =>
      hk c o (fun e => nc (by simp [e])) (fun e => nc (by simp [e])) (fun e => nc (by simp [e])) (fun e => nc (by simp [e])) q) hf⟩
  self := fun A i s Q E st h => wpAny_pyIter_zip st.1 h
def iZipK (K : PySem.W.Frag) (ta : TA) : TI := fun σ H R => ta σ H fun vs H1 => ∃ k1 k2 a b xs ys, vs = [.ref a, .ref b] ∧ SqK K k1 H1 a xs ∧ SqK K k2 H1 b ys ∧ R (ItzK K k1 k2 a b) H1
theorem hsq_lt {k : Bool} {h : Heap} {a : Addr} {its : Array Value} (e : HSq k h a its) : a < h.objs.size := by
  cases k
  · obtain ⟨o, q, _⟩ := e
    exact Heap.lt_size q
  · exact IsTup.lt e
theorem pi_zipK {X : Cx} {e e2 : Expr} {ta : TA} {p pos tpos : Pos} {elts : List Expr} {kk : Nat} (hg : Gl X "zip") (hm : X.mg "zip" = none) (ha : PA X [e, e2] ta)
    (hs : starEach [e, e2] X.env = (false, eval e X.env) :: starEach [e2] X.env := by rfl) (hpl : (backTo pos (starEach [e2] X.env)).any (·.1) = false := by rfl) :
    PI X (.Tuple elts kk tpos) (.Call (.Name "zip" p) [e, e2] [] pos) (iZipK X.K ta) := by
  constructor
  intro pins s σ H R I h
  refine Call_ (ld_blt I hg hm PyProof.Rows.boot_zip (PyProof.Rows.callWith_type1 (thn (ha.run pos pins s σ H _ I h) fun us s1 ⟨vs, H1, I1, r1, k1, k2, a, b, xs, ys, ex, qx, qy, q⟩ => ?_) hs hpl))
  subst ex
  cases r1 with
  | cons r rr =>
    cases rr with
    | cons r' rr =>
      cases rr
      cases r
      cases r'
      obtain ⟨its, rv, p1⟩ := sqK_at I1 qx
      obtain ⟨its2, rv2, p2⟩ := sqK_at I1 qy
      refine call_zk k1 k2 p1 p2 fun h' hz hT hO g1 g2 hk => wpAny_pyIter_zip hz ?_
      have I2 : Inv X pins σ H1 { s1 with heap := h' } := I1.kept (t' := s1.toks) hk
      refine ⟨s1.heap.objs.size + 4, zkFp s1.heap.objs.size, _, _, H1, rfl, I2, turn_zk (hsq_lt p1) (hsq_lt p2), ⟨hz, hT, ⟨_, _, hO⟩, g1, g2⟩, fun c hcm => ?_, q⟩
      have hle : s1.heap.objs.size ≤ c := by
        have e : c = s1.heap.objs.size + 4 ∨ c = s1.heap.objs.size + 2 ∨ c = s1.heap.objs.size + 3 ∨ c = s1.heap.objs.size ∨ c = s1.heap.objs.size + 1 := by simpa using hcm
        rcases e with z | z | z | z | z <;> rw [z] <;> first | exact Nat.le_refl _ | exact Nat.le_add_right _ _
      exact I1.fpOk hle (I1.hok.fresh hle)
end JP

namespace JP
open PySem PySem.Spec PyProof.Rows L2

/-! ### errors that keep copies of their fields: flat values, by the heap -/
def spCopyF : Sp := fun vs H Q _ => ∃ y, vs = [y] ∧ flatV y = true ∧ Q y H
theorem flat_ki {y : V} (h : flatV y = true) (H : Hp) : ∃ k, IsKi H y k ∧ k.below .tup = false ∧ k.below .lst = false ∧ k.below .dct = false := by
  cases y with
  | non => exact ⟨.non, rfl, rfl, rfl, rfl⟩
  | bl b => exact ⟨.bl, ⟨b, rfl⟩, rfl, rfl, rfl⟩
  | int i => exact ⟨.int, ⟨i, rfl⟩, rfl, rfl, rfl⟩
  | str x => exact ⟨.str, ⟨x, rfl⟩, rfl, rfl, rfl⟩
  | _ => cases h
/-- its __init__ stores copies -/
def spE1F (K : PySem.W.Frag) (C : Addr) (f : Str) : Sp := fun vs H Q E => (∃ a y, vs = [.ref a, y] ∧ flatV y = true) ∧ spE1 K C f vs H Q E
def spE2F (K : PySem.W.Frag) (C : Addr) (f g : Str) : Sp := fun vs H Q E => (∃ a y z, vs = [.ref a, y, z] ∧ flatV y = true ∧ flatV z = true) ∧ spE2 K C f g vs H Q E
theorem mkE1F {K : PySem.W.Frag} {C : Addr} {f : Str} {y : V} {H1 : Hp} {Q E : XK} (q : ∀ d, H1 d = none → Q (.ref C) (some d) (upd H1 d (.xd [(f, y)]))) (fy : flatV y = true := by rfl) :
    [y].length ≤ 1000 ∧ ∀ a, H1 a = none → spE1F K C f (.ref a :: ([y] ++ [])) (upd H1 a (exo a C none))
      (fun v H2 => v = .non ∧ ∃ (d : Addr) (fs : List (Str × V)), H2 a = some (exo a C (some d)) ∧ H2 d = some (exd d fs) ∧ H1 d = none ∧ Q (.ref C) (some d) (upd (del H2 a) d (.xd fs))) E :=
  have m := mkE1 (K := K) (C := C) (f := f) (E := E) q
  ⟨m.1, fun a na => ⟨⟨a, y, rfl, fy⟩, m.2 a na⟩⟩
theorem mkE2F {K : PySem.W.Frag} {C : Addr} {f g : Str} {y z : V} {H1 : Hp} {Q E : XK} (q : ∀ d, H1 d = none → Q (.ref C) (some d) (upd H1 d (.xd [(g, z), (f, y)]))) (fy : flatV y = true := by rfl) (fz : flatV z = true := by rfl) :
    [y, z].length ≤ 1000 ∧ ∀ a, H1 a = none → spE2F K C f g (.ref a :: ([y, z] ++ [])) (upd H1 a (exo a C none))
      (fun v H2 => v = .non ∧ ∃ (d : Addr) (fs : List (Str × V)), H2 a = some (exo a C (some d)) ∧ H2 d = some (exd d fs) ∧ H1 d = none ∧ Q (.ref C) (some d) (upd (del H2 a) d (.xd fs))) E :=
  have m := mkE2 (K := K) (C := C) (f := f) (g := g) (E := E) q
  ⟨m.1, fun a na => ⟨⟨a, y, z, rfl, fy, fz⟩, m.2 a na⟩⟩
end JP

namespace JP
open PySem PySem.Spec PyProof.Rows L2
def topS (i : Nat) : Stmt := PySem.Challenge.pw_rowcounts_k27_bounds_written_and_read.main.body.getD i (.Pass ⟨0, 0, 0, 0⟩)
abbrev sis_integer : Stmt := topS 2
abbrev Nis_integer : List Str := ["value"]
theorem scis_integer : FnScope Nis_integer ["value"] (defScope sis_integer) := ⟨rfl, rfl, rfl, by decide +kernel, rfl, by decide +kernel, by decide +kernel⟩
abbrev sown_copy : Stmt := topS 4
abbrev Nown_copy : List Str := ["value", "item", "key"]
theorem scown_copy : FnScope Nown_copy ["value"] (defScope sown_copy) := ⟨rfl, rfl, rfl, by decide +kernel, rfl, by decide +kernel, by decide +kernel⟩
abbrev swords_of : Stmt := topS 13
abbrev Nwords_of : List Str := ["text"]
theorem scwords_of : FnScope Nwords_of ["text"] (defScope swords_of) := ⟨rfl, rfl, rfl, by decide +kernel, rfl, by decide +kernel, by decide +kernel⟩
abbrev sword_at : Stmt := topS 14
abbrev Nword_at : List Str := ["words", "at"]
theorem scword_at : FnScope Nword_at ["words", "at"] (defScope sword_at) := ⟨rfl, rfl, rfl, by decide +kernel, rfl, by decide +kernel, by decide +kernel⟩
abbrev sexpect : Stmt := topS 15
abbrev Nexpect : List Str := ["words", "at", "word"]
theorem scexpect : FnScope Nexpect ["words", "at", "word"] (defScope sexpect) := ⟨rfl, rfl, rfl, by decide +kernel, rfl, by decide +kernel, by decide +kernel⟩
abbrev sexpect_end : Stmt := topS 16
abbrev Nexpect_end : List Str := ["words", "at"]
theorem scexpect_end : FnScope Nexpect_end ["words", "at"] (defScope sexpect_end) := ⟨rfl, rfl, rfl, by decide +kernel, rfl, by decide +kernel, by decide +kernel⟩
abbrev sis_integer_word : Stmt := topS 17
abbrev Nis_integer_word : List Str := ["word", "digits"]
theorem scis_integer_word : FnScope Nis_integer_word ["word"] (defScope sis_integer_word) := ⟨rfl, rfl, rfl, by decide +kernel, rfl, by decide +kernel, by decide +kernel⟩
abbrev sis_form : Stmt := topS 21
abbrev Nis_form : List Str := ["value", "factor"]
theorem scis_form : FnScope Nis_form ["value"] (defScope sis_form) := ⟨rfl, rfl, rfl, by decide +kernel, rfl, by decide +kernel, by decide +kernel⟩
abbrev s_law_pen : Stmt := topS 28
abbrev N_law_pen : List Str := ["_law_script"]
theorem sc_law_pen : FnScope N_law_pen ["_law_script"] (defScope s_law_pen) := ⟨rfl, rfl, rfl, by decide +kernel, rfl, by decide +kernel, by decide +kernel⟩
abbrev s_law_draw : Stmt := topS 29
abbrev N_law_draw : List Str := ["_law_pen_here", "_law_many", "_law_digit", "_law_at", "_law_cell", "_law_great", "_law_mixed"]
theorem sc_law_draw : FnScope N_law_draw ["_law_pen_here", "_law_many"] (defScope s_law_draw) := ⟨rfl, rfl, rfl, by decide +kernel, rfl, by decide +kernel, by decide +kernel⟩
abbrev s_law_pick : Stmt := topS 30
abbrev N_law_pick : List Str := ["_law_pen_here", "_law_some"]
theorem sc_law_pick : FnScope N_law_pick ["_law_pen_here", "_law_some"] (defScope s_law_pick) := ⟨rfl, rfl, rfl, by decide +kernel, rfl, by decide +kernel, by decide +kernel⟩
abbrev s_law_factor : Stmt := topS 31
abbrev N_law_factor : List Str := ["_law_pen_here"]
theorem sc_law_factor : FnScope N_law_factor ["_law_pen_here"] (defScope s_law_factor) := ⟨rfl, rfl, rfl, by decide +kernel, rfl, by decide +kernel, by decide +kernel⟩
abbrev s_law_spot : Stmt := topS 32
abbrev N_law_spot : List Str := ["_law_text", "_law_caught", "error"]
theorem sc_law_spot : FnScope N_law_spot ["_law_text"] (defScope s_law_spot) := ⟨rfl, rfl, rfl, by decide +kernel, rfl, by decide +kernel, by decide +kernel⟩
abbrev s_law_words_right : Stmt := topS 33
abbrev N_law_words_right : List Str := ["_law_pen_here", "_law_words", "_law_many", "_law_great", "_law_at", "_law_odd", "_law_wrong", "_law_last", "_law_some", "_law_one", "_law_spot_here"]
theorem sc_law_words_right : FnScope N_law_words_right ["_law_pen_here", "_law_words"] (defScope s_law_words_right) := ⟨rfl, rfl, rfl, by decide +kernel, rfl, by decide +kernel, by decide +kernel⟩
abbrev slaw : Stmt := topS 34
abbrev Nlaw : List Str := ["_law_script", "_law_pen_here", "_law_lap", "_law_many", "_law_form", "_law_bound", "_law_words", "_law_odd", "_law_k", "_law_factor_here"]
theorem sclaw : FnScope Nlaw ["_law_script"] (defScope slaw) := ⟨rfl, rfl, rfl, by decide +kernel, rfl, by decide +kernel, by decide +kernel⟩
abbrev sBound___init__ : Stmt := inClass (topS 20) 0
abbrev NBound___init__ : List Str := ["self", "form", "is_strict"]
theorem scBound___init__ : FnScope NBound___init__ ["self", "form", "is_strict"] (defScope sBound___init__) := ⟨rfl, rfl, rfl, by decide +kernel, rfl, by decide +kernel, by decide +kernel⟩
abbrev sBound_read : Stmt := inClass (topS 20) 1
abbrev NBound_read : List Str := ["text", "words", "many", "sign", "word"]
theorem scBound_read : FnScope NBound_read ["text"] (defScope sBound_read) := ⟨rfl, rfl, rfl, by decide +kernel, rfl, by decide +kernel, by decide +kernel⟩
abbrev sBound___eq__ : Stmt := inClass (topS 20) 9
abbrev NBound___eq__ : List Str := ["self", "other"]
theorem scBound___eq__ : FnScope NBound___eq__ ["self", "other"] (defScope sBound___eq__) := ⟨rfl, rfl, rfl, by decide +kernel, rfl, by decide +kernel, by decide +kernel⟩
abbrev sBound___str__ : Stmt := inClass (topS 20) 10
abbrev NBound___str__ : List Str := ["self", "factor"]
theorem scBound___str__ : FnScope NBound___str__ ["self"] (defScope sBound___str__) := ⟨rfl, rfl, rfl, by decide +kernel, rfl, by decide +kernel, by decide +kernel⟩
abbrev sBadText___init__ : Stmt := inClass (topS 10) 0
abbrev NBadText___init__ : List Str := ["self", "line", "word"]
theorem scBadText___init__ : FnScope NBadText___init__ ["self", "line", "word"] (defScope sBadText___init__) := ⟨rfl, rfl, rfl, by decide +kernel, rfl, by decide +kernel, by decide +kernel⟩
structure Top (K : PySem.W.Frag) (mg : Str → Option Value) where
  a_is_integer : Addr
  d_is_integer : FuncData
  F_is_integer : Fun K "is_integer" "is_integer" sis_integer a_is_integer d_is_integer
  b_is_integer : Binds K d_is_integer ["value"] []
  g_is_integer : mg "is_integer" = some (.ref a_is_integer)
  a_own_copy : Addr
  d_own_copy : FuncData
  F_own_copy : Fun K "own_copy" "own_copy" sown_copy a_own_copy d_own_copy
  b_own_copy : Binds K d_own_copy ["value"] []
  g_own_copy : mg "own_copy" = some (.ref a_own_copy)
  a_words_of : Addr
  d_words_of : FuncData
  F_words_of : Fun K "words_of" "words_of" swords_of a_words_of d_words_of
  b_words_of : Binds K d_words_of ["text"] []
  g_words_of : mg "words_of" = some (.ref a_words_of)
  a_word_at : Addr
  d_word_at : FuncData
  F_word_at : Fun K "word_at" "word_at" sword_at a_word_at d_word_at
  b_word_at : Binds K d_word_at ["words", "at"] []
  g_word_at : mg "word_at" = some (.ref a_word_at)
  a_expect : Addr
  d_expect : FuncData
  F_expect : Fun K "expect" "expect" sexpect a_expect d_expect
  b_expect : Binds K d_expect ["words", "at", "word"] []
  g_expect : mg "expect" = some (.ref a_expect)
  a_expect_end : Addr
  d_expect_end : FuncData
  F_expect_end : Fun K "expect_end" "expect_end" sexpect_end a_expect_end d_expect_end
  b_expect_end : Binds K d_expect_end ["words", "at"] []
  g_expect_end : mg "expect_end" = some (.ref a_expect_end)
  a_is_integer_word : Addr
  d_is_integer_word : FuncData
  F_is_integer_word : Fun K "is_integer_word" "is_integer_word" sis_integer_word a_is_integer_word d_is_integer_word
  b_is_integer_word : Binds K d_is_integer_word ["word"] []
  g_is_integer_word : mg "is_integer_word" = some (.ref a_is_integer_word)
  a_is_form : Addr
  d_is_form : FuncData
  F_is_form : Fun K "is_form" "is_form" sis_form a_is_form d_is_form
  b_is_form : Binds K d_is_form ["value"] []
  g_is_form : mg "is_form" = some (.ref a_is_form)
  a__law_pen : Addr
  d__law_pen : FuncData
  F__law_pen : Fun K "_law_pen" "_law_pen" s_law_pen a__law_pen d__law_pen
  b__law_pen : Binds K d__law_pen ["_law_script"] []
  g__law_pen : mg "_law_pen" = some (.ref a__law_pen)
  a__law_draw : Addr
  d__law_draw : FuncData
  F__law_draw : Fun K "_law_draw" "_law_draw" s_law_draw a__law_draw d__law_draw
  b__law_draw : Binds K d__law_draw ["_law_pen_here", "_law_many"] []
  g__law_draw : mg "_law_draw" = some (.ref a__law_draw)
  a__law_pick : Addr
  d__law_pick : FuncData
  F__law_pick : Fun K "_law_pick" "_law_pick" s_law_pick a__law_pick d__law_pick
  b__law_pick : Binds K d__law_pick ["_law_pen_here", "_law_some"] []
  g__law_pick : mg "_law_pick" = some (.ref a__law_pick)
  a__law_factor : Addr
  d__law_factor : FuncData
  F__law_factor : Fun K "_law_factor" "_law_factor" s_law_factor a__law_factor d__law_factor
  b__law_factor : Binds K d__law_factor ["_law_pen_here"] []
  g__law_factor : mg "_law_factor" = some (.ref a__law_factor)
  a__law_spot : Addr
  d__law_spot : FuncData
  F__law_spot : Fun K "_law_spot" "_law_spot" s_law_spot a__law_spot d__law_spot
  b__law_spot : Binds K d__law_spot ["_law_text"] []
  g__law_spot : mg "_law_spot" = some (.ref a__law_spot)
  a__law_words_right : Addr
  d__law_words_right : FuncData
  F__law_words_right : Fun K "_law_words_right" "_law_words_right" s_law_words_right a__law_words_right d__law_words_right
  b__law_words_right : Binds K d__law_words_right ["_law_pen_here", "_law_words"] []
  g__law_words_right : mg "_law_words_right" = some (.ref a__law_words_right)
  a_law : Addr
  d_law : FuncData
  F_law : Fun K "law" "law" slaw a_law d_law
  b_law : Binds K d_law ["_law_script"] []
  g_law : mg "law" = some (.ref a_law)
  a_Bound___init__ : Addr
  d_Bound___init__ : FuncData
  F_Bound___init__ : FunD K "__init__" "Bound.__init__" (defArgs sBound___init__) (defBody sBound___init__) (defScope sBound___init__) [.bl false] [] a_Bound___init__ d_Bound___init__
  b_Bound___init__ : Binds K d_Bound___init__ ["self", "form", "is_strict"] []
  a_Bound_read : Addr
  d_Bound_read : FuncData
  F_Bound_read : Fun K "read" "Bound.read" sBound_read a_Bound_read d_Bound_read
  b_Bound_read : Binds K d_Bound_read ["text"] []
  a_Bound___eq__ : Addr
  d_Bound___eq__ : FuncData
  F_Bound___eq__ : Fun K "__eq__" "Bound.__eq__" sBound___eq__ a_Bound___eq__ d_Bound___eq__
  b_Bound___eq__ : Binds K d_Bound___eq__ ["self", "other"] []
  a_Bound___str__ : Addr
  d_Bound___str__ : FuncData
  F_Bound___str__ : Fun K "__str__" "Bound.__str__" sBound___str__ a_Bound___str__ d_Bound___str__
  b_Bound___str__ : Binds K d_Bound___str__ ["self"] []
  a_BadText___init__ : Addr
  d_BadText___init__ : FuncData
  F_BadText___init__ : Fun K "__init__" "BadText.__init__" sBadText___init__ a_BadText___init__ d_BadText___init__
  b_BadText___init__ : Binds K d_BadText___init__ ["self", "line", "word"] []
  C_Bound : Addr
  g_Bound : mg "Bound" = some (.ref C_Bound)
  cl_Bound : Cls K C_Bound
  kc_Bound : PySem.W.keepIn K (.ref C_Bound) = true
  na_Bound_form : NoAttr K C_Bound "form"
  na_Bound_is_strict : NoAttr K C_Bound "is_strict"
  ne_Bound : PySem.W.findIn K (.ref C_Bound) "__ne__" = some (some (.builtin "object.__ne__"))
  mr_Bound : PySem.W.mroIn K C_Bound (.type "object") = some true
  ca_Bound : PySem.W.findIn K (.ref C_Bound) "__class__" = some (some (.builtin "object.__class__"))
  om_Bound___init__ : OwnM K C_Bound "__init__" a_Bound___init__
  mk_Bound : Mk K C_Bound a_Bound___init__
  p_Bound_read : Addr
  mc_Bound_read : Value
  sm_Bound_read : SMet K C_Bound mc_Bound_read "read" p_Bound_read a_Bound_read
  om_Bound___eq__ : OwnM K C_Bound "__eq__" a_Bound___eq__
  om_Bound___str__ : OwnM K C_Bound "__str__" a_Bound___str__
  ki_Bound : PySem.W.kitOne K (.ref C_Bound) (.ref C_Bound) = some true
  ks_Bound : PySem.W.kitOne K (.ref C_Bound) (.type "str") = some false
  sg : PySem.W.specialIn K (.builtin "object.__class__") "__get__" = some (some (.builtin "getset_descriptor.__get__"))
  tk : PySem.W.takesIn K (.builtin "object.__class__") = some true
  C_BadText : Addr
  g_BadText : mg "BadText" = some (.ref C_BadText)
  ox_BadText : OexC K C_BadText
  ic_BadText : PySem.W.findIn K (.ref C_BadText) "__init__" = some (some (.ref a_BadText___init__))
  ti_BadText : PySem.W.typeIn K (.ref a_BadText___init__) = some (.type "function")
  no_BadText_line : PySem.W.findIn K (.ref C_BadText) "line" = some none
  no_BadText_word : PySem.W.findIn K (.ref C_BadText) "word" = some none
  xf_BadText : XfC K C_BadText
  ki_BadText : PySem.W.kitOne K (.ref C_BadText) (.ref C_BadText) = some true
  ex_BadText : ExcC K C_BadText
  em_BadText_BadText : PySem.W.exmOne K (.ref C_BadText) (.ref C_BadText) = some true
  kb_Bound_read_0 : KBinds K d_Bound_read ["text"] ["text"] (gPerm 0 1 [0]) (gPerm 0 1 [0])
  e_law : ∀ (s : Shared) (u : Value), BindsTo s d_law ⟨[u], []⟩ [("_law_script", u)]
  z_abs : mg "abs" = none
  z_all : mg "all" = none
  z_bool : mg "bool" = none
  z_dict : mg "dict" = none
  z_int : mg "int" = none
  z_isinstance : mg "isinstance" = none
  z_len : mg "len" = none
  z_list : mg "list" = none
  z_range : mg "range" = none
  z_str : mg "str" = none
  z_tuple : mg "tuple" = none
  t_MOST_DIGITS : Tok
  c_MOST_DIGITS : mg "MOST_DIGITS" = some (.int 60 t_MOST_DIGITS)
  t_MOST_FACTORS : Tok
  c_MOST_FACTORS : mg "MOST_FACTORS" = some (.int 8 t_MOST_FACTORS)

section
variable {P : Program} {w : World} {K : PySem.W.Frag} {mg : Str → Option Value} {base : Heap}
def spDraw : Sp := fun vs H Q _ => ∃ (p c : Addr) (many : Int) (m : Nat), vs = [.ref p, .int many] ∧ Pen H p c m ∧ 1 ≤ many ∧ many < 2 ^ 60 ∧ m ≤ 2 ^ 20 ∧
  ∀ (r : Int) (H' : Hp), 0 ≤ r → r < many → Pen H' p c (m + 1) → But p H H' → Q (.int r) H'
theorem ok_draw (T : Top K mg) : FnOk P w K mg base CX0 (0 + 1) T.a__law_draw T.d__law_draw ["_law_pen_here", "_law_many"] spDraw := by
  refine T.F__law_draw.ok sc_law_draw (fun vs H Q E h => ?_) (fun cdv A outer s H vs Q E hr h => ?_)
  · obtain ⟨p, c, many, m, rfl, _⟩ := h
    rfl
  · obtain ⟨p, c, many, m, rfl, ⟨ns, n, g, hp, hc, ncp, hl, n0, nm, g0⟩, h1, h2, hm, q⟩ := h
    refine ⟨_, (pss_cons (ps_if (pt_cmpR op_gt (pe_ix (ixL (K := K) rfl) (pv 0) pe_int (fun _ _ => rfl)) pe_int (nomark _))
    (pss_cons (ps_set (i := 2) sc_law_draw.nd rfl (.inl rfl) (pe_op op_modN (pe_callTy call_int1 (by rfl) T.z_int (by decide +kernel) (pa_cons (pe_ix (ixL (K := K) rfl) (pv 0) pe_int (fun _ _ => rfl)) pa_nil)) (pv 1)))
  (pss_cons (ps_asg (pe_op op_fdivW (pe_callTy call_int1 (by rfl) T.z_int (by decide +kernel) (pa_cons (pe_ix (ixL (K := K) rfl) (pv 0) pe_int (fun _ _ => rfl)) pa_nil)) (pv 1)) (pg_sub (pv 0) pe_int set_list))
  (pss_one (ps_ret (pv 2)))))
    pss_nil)
  (pss_cons (ps_set (i := 3) sc_law_draw.nd rfl (.inl rfl) (pe_ix (ixL (K := K) rfl) (pv 0) pe_int (fun _ _ => rfl)))
  (pss_cons (ps_asg (pe_op op_add (pv 3) pe_int) (pg_sub (pv 0) pe_int set_list))
  (pss_cons (ps_set (i := 4) sc_law_draw.nd rfl (.inl rfl) (pe_op op_add (pe_op op_mul pe_int (pv 3)) pe_int))
  (pss_cons (ps_if (pt_cmpR (op_neD (Room.units hr)) (pe_ix (ixL (K := K) rfl) (pv 0) pe_int (fun _ _ => rfl)) (pe_lst pa_nil) (nomark _))
    (pss_one (ps_set (i := 4) sc_law_draw.nd rfl (.inl rfl) (pe_ix (ixL (K := K) rfl) (pe_ix (ixL (K := K) rfl) (pv 0) pe_int (fun _ _ => rfl)) (pe_op op_modN (pe_callTy call_int1 (by rfl) T.z_int (by decide +kernel) (pa_cons (pv 3) pa_nil)) (pe_callB call_len_seq (by rfl) T.z_len (by decide +kernel) (pa_cons (pe_ix (ixL (K := K) rfl) (pv 0) pe_int (fun _ _ => rfl)) pa_nil))) (fun _ _ => rfl))))
    pss_nil)
  (pss_cons (ps_if (PW.pt (pw_and (pt_cmpR op_lt (pv 3) (pe_callB call_len_seq (by rfl) T.z_len (by decide +kernel) (pa_cons (pe_ix (ixL (K := K) rfl) (pv 0) pe_int (fun _ _ => rfl)) pa_nil)) (nomark _)) (pw_and1 (pt_cmpR op_ge (pe_callB call_abs (by rfl) T.z_abs (by decide +kernel) (pa_cons (pv 4) pa_nil)) (pe_op op_pow pe_int pe_int) (nomark _)))))
    (pss_cons (ps_set (i := 5) sc_law_draw.nd rfl (.inl rfl) (pe_op op_add (pe_op op_mul pe_int (pe_op op_sub (pe_callB call_abs (by rfl) T.z_abs (by decide +kernel) (pa_cons (pv 4) pa_nil)) (pe_op op_pow pe_int pe_int))) (pe_callTy call_int1 (by rfl) T.z_int (by decide +kernel) (pa_cons (pe_cmpR op_lt (pv 4) pe_int (nomark _)) pa_nil))))
  (pss_cons (ps_asg (pe_op op_fdivW (pe_callTy call_int1 (by rfl) T.z_int (by decide +kernel) (pa_cons (pv 5) pa_nil)) (pv 1)) (pg_sub (pv 0) pe_int set_list))
  (pss_one (ps_ret (pe_op op_modN (pe_callTy call_int1 (by rfl) T.z_int (by decide +kernel) (pa_cons (pv 5) pa_nil)) (pv 1))))))
    pss_nil)
  (pss_cons (ps_set (i := 6) sc_law_draw.nd rfl (.inl rfl) (pe_op op_modN (pe_callTy call_int1 (by rfl) T.z_int (by decide +kernel) (pa_cons (pe_op op_pow (pe_op op_add (pe_op op_add (pe_op op_modN (pe_callTy call_int1 (by rfl) T.z_int (by decide +kernel) (pa_cons (pv 4) pa_nil)) pe_int) (pe_op op_mul pe_int (pv 3))) pe_int) pe_int) pa_nil)) pe_int))
  (pss_cons (ps_set (i := 6) sc_law_draw.nd rfl (.inl rfl) (pe_op op_modN (pe_callTy call_int1 (by rfl) T.z_int (by decide +kernel) (pa_cons (pe_op op_pow (pe_op op_add (pe_op op_add (pe_op op_mul (pv 6) (pe_op op_add (pe_op op_mul pe_int (pv 3)) pe_int)) (pe_op op_mul (pe_op op_mul pe_int (pv 3)) (pv 3))) pe_int) pe_int) pa_nil)) pe_int))
  (pss_one (ps_ret (pe_op op_modN (pe_callTy call_int1 (by rfl) T.z_int (by decide +kernel) (pa_cons (pe_op op_fdivW (pv 6) pe_int) pa_nil)) (pv 1)))))))))))), ?_⟩
    -- if pen[2] > 0
    refine ⟨.ref p, rfl, p, _, 2, .int g, rfl, rfl, .of hp, atI_nat (j := 2) rfl, _, _, rfl, rfl, _, rfl, ite2 (fun e => ?_) (fun e => ?_)⟩
    · have hg : (0 : Int) < g := of_decide_eq_true e
      -- digit = int(pen[2]) % many
      refine ⟨.ref p, rfl, p, _, 2, .int g, rfl, rfl, .of hp, atI_nat (j := 2) rfl, .inl ⟨g, rfl, .int many, rfl, g, many, rfl, rfl, by omega, ?_⟩⟩
      -- pen[2] = int(pen[2]) // many
      refine ⟨.ref p, rfl, p, _, 2, .int g, rfl, rfl, .of hp, atI_nat (j := 2) rfl, .inl ⟨g, rfl, .int many, rfl, g, many, rfl, rfl, wide_div (b := 60) (by omega) (by omega) (by omega) (by omega), .ref p, rfl, p, _, 2, 2, rfl, rfl, hp, rfl, ?_⟩⟩
      refine ⟨_, rfl, q _ _ (fmod_lo _ h1) (fmod_lt _ h1) (pen_set hp hc ncp hl n0 (by omega) (Int.ediv_nonneg g0 (by omega))) (but_upd _ _)⟩
    · -- at = pen[1]; pen[1] = at + 1
      refine ⟨.ref p, rfl, p, _, 1, .int n, rfl, rfl, .of hp, atI_nat (j := 1) rfl, ?_⟩
      refine ⟨.int n, rfl, n, 1, rfl, rfl, .ref p, rfl, p, _, 1, 1, rfl, rfl, hp, rfl, ?_⟩
      generalize hH1 : upd H p (.lst ([V.ref c, .int n, .int g].set 1 (.int (n + 1)))) = H1
      have hp1 : H1 p = some (.lst [.ref c, .int (n + 1), .int g]) := by
        rw [← hH1, upd_same]
        rfl
      have hc1 : H1 c = some (.lst (ns.map V.int)) := by
        rw [← hH1, upd_ne ncp]
        exact hc
      have hb1 : But p H H1 := by
        rw [← hH1]
        exact but_upd _ _
      -- cell = C * at + D
      refine ⟨.int n, rfl, _, n, rfl, rfl, .inl (by decide), _, _, rfl, rfl, ?_⟩
      -- if pen[0] != []
      refine ⟨.ref p, rfl, p, _, 0, .ref c, rfl, rfl, .of hp1, atI_nat (j := 0) rfl, Nat.zero_le _, fun o no => ?_⟩
      have hpo : p ≠ o := ne_of_none hp1 no
      have hco : c ≠ o := ne_of_none hc1 no
      refine ⟨.list (ns.map .int), .list [], .lst (.of ((upd_ne hco).trans hc1)) (dp_ints ns), .lst (.of upd_same) .nil, PySem.W.ke_shaped_ints ns, PySem.W.ke_shaped_ints [], _, rfl, ?_⟩
      generalize hH2 : upd H1 o (.lst []) = H2
      have hp2 : H2 p = some (.lst [.ref c, .int (n + 1), .int g]) := by
        rw [← hH2, upd_ne hpo]
        exact hp1
      have hc2 : H2 c = some (.lst (ns.map V.int)) := by
        rw [← hH2, upd_ne hco]
        exact hc1
      have hb2 : But p H H2 := by
        rw [← hH2]
        exact hb1.trans (but_new no)
      -- cell = pen[0][int(at) % len(pen[0])]
      refine ite2 (fun e2 => ?thn) (fun e2 => ?els)
      case' els =>
        dsimp only
        generalize ((_ : Int) * n + _ : Int) = cell
      case' thn =>
        have hn : ns ≠ [] := fun z => by
          subst z
          cases e2
        have hln : 0 < ns.length := List.length_pos_iff.mpr hn
        have hz : ((ns.map V.int).length : Int) = ns.length := by rw [List.length_map]
        have hj0 : 0 ≤ n.fmod (ns.map V.int).length := fmod_lo _ (by omega)
        have hj1 : n.fmod (ns.map V.int).length < ns.length := hz ▸ fmod_lt _ (by omega)
        have hat : atI (ns.map V.int) (n.fmod (ns.map V.int).length) = some (.int (ns.getD (n.fmod (ns.map V.int).length).toNat 0)) := by
          have := atI_nat (xs := ns.map V.int) (j := (n.fmod (ns.map V.int).length).toNat) (v := .int (ns.getD (n.fmod (ns.map V.int).length).toNat 0)) (by
            rw [List.getElem?_map, List.getD_eq_getElem?_getD, List.getElem?_eq_getElem (by omega)]
            rfl)
          rw [Int.toNat_of_nonneg hj0] at this
          exact this
        refine ⟨.ref p, rfl, p, _, 0, .ref c, rfl, rfl, .of hp2, atI_nat (j := 0) rfl, .int n, rfl, .inl ⟨n, rfl, .ref p, rfl, p, _, 0, .ref c, rfl, rfl, .of hp2, atI_nat (j := 0) rfl, c, _, rfl, .inl (.of hc2), n, _, rfl, rfl, by omega, c, _, _, _, rfl, rfl, .of hc2, hat, ?_⟩⟩
        clear hat hj1 hj0
        generalize ns.getD (n.fmod (ns.map V.int).length).toNat 0 = cell
      all_goals
        -- if at < len(pen[0]) and abs(cell) >= 10 ** 18
        refine ⟨.int n, rfl, .ref p, rfl, p, _, 0, .ref c, rfl, rfl, .of hp2, atI_nat (j := 0) rfl, c, _, rfl, .inl (.of hc2), n, _, rfl, rfl, _, rfl, ite2 (fun e3 => ?_) (fun e3 => ?_)⟩
        · refine ⟨.int cell, rfl, cell, rfl, 10, 18, rfl, rfl, ⟨by decide, by decide, by decide⟩, _, _, rfl, rfl, _, rfl, ite2 (fun e4 => ?_) (fun e4 => ?_)⟩
          · -- great = 2 * (abs(cell) - 10 ** 18) + int(cell < 0)
            have hbig : (10 : Int) ^ 18 ≤ if cell < 0 then -cell else cell := of_decide_eq_true e4
            refine ⟨.int cell, rfl, cell, rfl, 10, 18, rfl, rfl, ⟨by decide, by decide, by decide⟩, _, _, rfl, rfl, 2, _, rfl, rfl, .inl (by decide), .int cell, rfl, _, _, rfl, rfl, .inr ⟨_, rfl, _, _, rfl, rfl, ?_⟩⟩
            have hgr : ∀ k : Bool, 0 ≤ 2 * ((if cell < 0 then -cell else cell) - (10 : Int) ^ (18 : Int).toNat) + (if k = true then 1 else 0) := fun k => by
              have : (10 : Int) ^ (18 : Int).toNat = (10 : Int) ^ 18 := rfl
              rw [this]
              cases k <;> simp <;> omega
            refine ⟨_, rfl, .inl ⟨_, rfl, .int many, rfl, _, many, rfl, rfl, wide_div (b := 60) (by omega) (by omega) (by omega) (by omega), .ref p, rfl, p, _, 2, 2, rfl, rfl, hp2, rfl, ?_⟩⟩
            refine ⟨_, rfl, .inl ⟨_, rfl, .int many, rfl, _, many, rfl, rfl, by omega, ?_⟩⟩
            exact q _ _ (fmod_lo _ h1) (fmod_lt _ h1) (pen_set hp2 hc2 ncp hl (by omega) (by omega) (Int.ediv_nonneg (hgr _) (by omega))) (hb2.trans (but_upd _ _))
          · skip
            refine ⟨.int cell, rfl, .inl ⟨cell, rfl, cell, _, rfl, rfl, (by show (_ : Int) ≠ 0; decide), .int n, rfl, _, n, rfl, rfl, .inl (by decide), _, _, rfl, rfl, _, _, rfl, rfl, _, _, rfl, rfl, ⟨by decide, by decide, mix_bound (by decide) (by decide) (by decide) (by decide) (by decide) (by decide) n0 nm hm⟩, (.inl ⟨_, rfl, _, _, rfl, rfl, (by show (_ : Int) ≠ 0; decide), ?_⟩)⟩⟩
            refine ⟨_, rfl, .int n, rfl, 2, n, rfl, rfl, .inl (by decide), _, _, rfl, rfl, _, _, rfl, rfl, .inl (fmod_64 (by decide) (by decide)), .int n, rfl, _, n, rfl, rfl, .inl (by decide), .int n, rfl, _, n, rfl, rfl, .inr ⟨by omega, by omega⟩, _, _, rfl, rfl, _, _, rfl, rfl, _, _, rfl, rfl, ⟨by decide, by decide, mix_bound2 (by decide) (by decide) (by decide) (by decide) (by decide) (by decide) (fmod_lo _ (by decide)) (fmod_32 (by decide) (by decide)) n0 nm hm⟩, (.inl ⟨_, rfl, _, _, rfl, rfl, (by show (_ : Int) ≠ 0; decide), ?_⟩)⟩
            refine ⟨_, rfl, _, 32, rfl, rfl, ⟨by decide, by decide⟩, .inl ⟨_, rfl, .int many, rfl, _, many, rfl, rfl, by omega, ?_⟩⟩
            exact q _ _ (fmod_lo _ h1) (fmod_lt _ h1) ⟨ns, n + 1, g, hp2, hc2, ncp, hl, by omega, by omega, g0⟩ hb2
        · skip
          refine ⟨.int cell, rfl, .inl ⟨cell, rfl, cell, _, rfl, rfl, (by show (_ : Int) ≠ 0; decide), .int n, rfl, _, n, rfl, rfl, .inl (by decide), _, _, rfl, rfl, _, _, rfl, rfl, _, _, rfl, rfl, ⟨by decide, by decide, mix_bound (by decide) (by decide) (by decide) (by decide) (by decide) (by decide) n0 nm hm⟩, (.inl ⟨_, rfl, _, _, rfl, rfl, (by show (_ : Int) ≠ 0; decide), ?_⟩)⟩⟩
          refine ⟨_, rfl, .int n, rfl, 2, n, rfl, rfl, .inl (by decide), _, _, rfl, rfl, _, _, rfl, rfl, .inl (fmod_64 (by decide) (by decide)), .int n, rfl, _, n, rfl, rfl, .inl (by decide), .int n, rfl, _, n, rfl, rfl, .inr ⟨by omega, by omega⟩, _, _, rfl, rfl, _, _, rfl, rfl, _, _, rfl, rfl, ⟨by decide, by decide, mix_bound2 (by decide) (by decide) (by decide) (by decide) (by decide) (by decide) (fmod_lo _ (by decide)) (fmod_32 (by decide) (by decide)) n0 nm hm⟩, (.inl ⟨_, rfl, _, _, rfl, rfl, (by show (_ : Int) ≠ 0; decide), ?_⟩)⟩
          refine ⟨_, rfl, _, 32, rfl, rfl, ⟨by decide, by decide⟩, .inl ⟨_, rfl, .int many, rfl, _, many, rfl, rfl, by omega, ?_⟩⟩
          exact q _ _ (fmod_lo _ h1) (fmod_lt _ h1) ⟨ns, n + 1, g, hp2, hc2, ncp, hl, by omega, by omega, g0⟩ hb2
def spPen (K : PySem.W.Frag) : Sp := fun vs H Q _ => ∃ (a : Addr) (ns : List Int), vs = [.ref a] ∧ SqL K H a (ns.map V.int) ∧ ns.length ≤ 63 ∧
  ∀ (p c : Addr) (H' : Hp), Same H H' → H p = none → Pen H' p c 0 → Q (.ref p) H'
theorem ok_pen (T : Top K mg) : FnOk P w K mg base CX0 (0 + 1) T.a__law_pen T.d__law_pen ["_law_script"] (spPen K) := by
  refine T.F__law_pen.ok sc_law_pen (fun vs H Q E h => ?_) (fun cdv A outer s H vs Q E hr h => ?_)
  · obtain ⟨a, ns, rfl, _⟩ := h
    rfl
  · obtain ⟨a, ns, rfl, hS, hl, q⟩ := h
    refine ⟨_, (pss_one (ps_ret (pe_lst (pa_cons (pe_callTy call_list_of (by rfl) T.z_list (by decide +kernel) (pa_cons (pe_slice sl_list (pv 0) po_none (po_some pe_int)) pa_nil)) (pa_cons pe_int (pa_cons pe_int pa_nil)))))), ?_⟩
    refine ⟨.ref a, rfl, 63, rfl, a, _, rfl, hS, fun c nc => ?_⟩
    refine ⟨c, _, rfl, .inl (.of upd_same), fun l nl => ?_⟩
    refine ⟨(by show 3 ≤ sizeLine; decide), fun p np => ?_⟩
    have e : cutV (ns.map V.int) none (some 63) = ns.map V.int := cut_all _ (by
      rw [List.length_map]
      exact hl)
    refine q p l _ (((same_new nc).trans (same_new nl)).trans (same_new np)) (((same_new nc).trans (same_new nl)).free np) ⟨ns, 0, 0, upd_same, ?_, ne_of_none upd_same np, hl, by omega, by omega, by omega⟩
    rw [upd_ne (ne_of_none upd_same np), upd_same, e]
def spPick (K : PySem.W.Frag) : Sp := fun vs H Q _ => ∃ (p c l : Addr) (m : Nat) (xs : List V), vs = [.ref p, .ref l] ∧ Pen H p c m ∧ l ≠ p ∧ SqL K H l xs ∧ xs ≠ [] ∧ xs.length < 2 ^ 20 ∧ m ≤ 2 ^ 20 ∧
  ∀ (x : V) (H' : Hp), x ∈ xs → Pen H' p c (m + 1) → But p H H' → Q x H'
theorem ok_pick (T : Top K mg) : FnOk P w K mg base CX0 (1 + 1) T.a__law_pick T.d__law_pick ["_law_pen_here", "_law_some"] (spPick K) := by
  have G__law_draw := ok_draw (P := P) (w := w) (base := base) T
  refine T.F__law_pick.ok sc_law_pick (fun vs H Q E h => ?_) (fun cdv A outer s H vs Q E hr h => ?_)
  · obtain ⟨p, c, l, m, xs, rfl, _⟩ := h
    rfl
  · obtain ⟨p, c, l, m, xs, rfl, hP, nl, hS, ne, sz, hm, q⟩ := h
    have pos := List.length_pos_iff.mpr ne
    refine ⟨_, (pss_one (ps_ret (pe_ix (ixL (K := K) rfl) (pv 1) (pe_call G__law_draw hr (by rfl) T.g__law_draw T.F__law_draw.kp T.b__law_draw .nil pass0 (pa_cons (pv 0) (pa_cons (pe_callB call_len_seq (by rfl) T.z_len (by decide +kernel) (pa_cons (pv 1) pa_nil)) pa_nil))) (fun _ _ => rfl)))), ?_⟩
    refine ⟨.ref l, rfl, .ref p, rfl, .ref l, rfl, l, _, rfl, .inl hS, p, c, _, m, rfl, hP, by omega, by omega, hm, fun r H1 r0 r1 hP1 hB => ?_⟩
    obtain ⟨v, hv, mem⟩ := atI_of r0 r1
    exact ⟨l, _, r, v, rfl, rfl, hB.seqL nl hS, hv, q v H1 mem hP1 hB⟩
end


section
variable {P : Program} {w : World} {K : PySem.W.Frag} {mg : Str → Option Value} {base : Heap}
def spInteger : Sp := fun vs H Q _ => ∃ (x : V) (k : Ki), vs = [x] ∧ IsKi H x k ∧ Q (.bl (decide (k = .int))) H
theorem ok_is_integer (T : Top K mg) : FnOk P w K mg base CX0 (0 + 1) T.a_is_integer T.d_is_integer ["value"] spInteger := by
  refine T.F_is_integer.ok scis_integer (fun vs H Q E h => ?_) (fun cdv A outer s H vs Q E hr h => ?_)
  · obtain ⟨x, k, rfl, _⟩ := h
    rfl
  · obtain ⟨x, k, rfl, hk, q⟩ := h
    refine ⟨_, (pss_one (ps_ret (pe_and (pe_callB call_isi (by rfl) T.z_isinstance (by decide +kernel) (pa_cons (pv 0) (pa_cons (pe_bltn (by rfl) T.z_int (by decide +kernel) (show RelV (.ty "int") _ from rfl)) pa_nil))) (pe_one (pe_not (pe_callB call_isi (by rfl) T.z_isinstance (by decide +kernel) (pa_cons (pv 0) (pa_cons (pe_bltn (by rfl) T.z_bool (by decide +kernel) (show RelV (.ty "bool") _ from rfl)) pa_nil)))))))), ?_⟩
    refine ⟨x, rfl, _, _, _, _, _, rfl, .ty _, hk.ty, ki_kit _ .int, _, rfl, ?_⟩
    cases k
    case int => exact ⟨x, rfl, _, _, _, _, _, rfl, .ty _, hk.ty, ki_kit _ .bl, _, rfl, q⟩
    case bl => exact ⟨x, rfl, _, _, _, _, _, rfl, .ty _, hk.ty, ki_kit _ .bl, _, rfl, q⟩
    all_goals exact q
/-- a form is asked of any value: of no tuple (no), or of a tuple of values that stand for themselves -/
def FormArg (H : Hp) (x : V) (b : Bool) : Prop := (∃ k, k ≠ Ki.tup ∧ IsKi H x k ∧ b = false) ∨ ∃ a xs, x = .ref a ∧ H a = some (.tup xs) ∧ (∀ v ∈ xs, (kiOf v).isSome = true) ∧ b = (decide (xs.length ≤ 8) && xs.all isI)
def spForm : Sp := fun vs H Q _ => ∃ (x : V) (b : Bool), vs = [x] ∧ FormArg H x b ∧ ∀ H', Same H H' → Q (.bl b) H'
theorem ok_is_form (T : Top K mg) : FnOk P w K mg base CX0 (1 + 1) T.a_is_form T.d_is_form ["value"] spForm := by
  have G_is_integer := ok_is_integer (P := P) (w := w) (base := base) T
  refine T.F_is_form.ok scis_form (fun vs H Q E h => ?_) (fun cdv A outer s H vs Q E hr h => ?_)
  · obtain ⟨x, b, rfl, _⟩ := h
    rfl
  · obtain ⟨x, b, rfl, hF, q⟩ := h
    refine ⟨_, (pss_cons (ps_if (PW.pt (pw_or (pt_not (pt_val (pe_callB call_isi (by rfl) T.z_isinstance (by decide +kernel) (pa_cons (pv 0) (pa_cons (pe_bltn (by rfl) T.z_tuple (by decide +kernel) (show RelV (.ty "tuple") _ from rfl)) pa_nil))))) (pw_or1 (pt_cmpR op_gt (pe_callB call_len_seq (by rfl) T.z_len (by decide +kernel) (pa_cons (pv 0) pa_nil)) (pe_glob rfl T.c_MOST_FACTORS (show RelV (.int 8) _ from ⟨_, rfl⟩)) (nomark _)))))
    (pss_one (ps_ret pe_bl))
    pss_nil)
  (pss_one (ps_ret (pe_callB (cr_all rfl) (by rfl) T.z_all (by decide +kernel) (pa_cons (pe_lc (own := [("factor", 1)]) (g := gName 1) rfl scis_form.nd (pi_tup (pv 0)) (blkOk_by (own := [("factor", 1)]) (N := Nis_form) (sc := defScope sis_form) (by decide +kernel)) (fun _ _ _ _ _ => (pg_name (i := 1) scis_form.nd rfl (.inl rfl))) (fun _ _ _ _ _ => pts_nil) (fun _ _ _ _ _ => (pe_call G_is_integer hr (by rfl) T.g_is_integer T.F_is_integer.kp T.b_is_integer .nil pass0 (pa_cons (pv 1) pa_nil)))) pa_nil))))), ?_⟩
    rcases hF with ⟨k, nk, hk, rfl⟩ | ⟨a, xs, rfl, ha, hxs, rfl⟩
    · refine ⟨x, rfl, _, _, _, _, _, rfl, .ty _, hk.ty, ki_kit _ .tup, _, rfl, ?_⟩
      have : k.below .tup = false := by cases k <;> first | rfl | exact absurd rfl nk
      rw [this]
      exact q H (.refl H)
    · have hk : IsKi H (.ref a) .tup := ⟨a, xs, rfl, ha⟩
      refine ⟨.ref a, rfl, _, _, _, _, _, rfl, .ty _, hk.ty, ki_kit _ .tup, _, rfl, ?_⟩
      have small : xs.length ≤ sizeLine ∨ True := .inr trivial
      refine ⟨.ref a, rfl, a, xs, rfl, .inr (.of ha), _, _, rfl, rfl, _, rfl, ite2 (fun e => ?_) (fun e => ?_)⟩
      · have h8 : ¬ xs.length ≤ 8 := by
          have := of_decide_eq_true e
          omega
        have : (decide (xs.length ≤ 8) && xs.all isI) = false := by simp [h8]
        rw [this] at q
        exact q H (.refl H)
      · have h8 : xs.length ≤ 8 := by
          have : ¬ (8 : Int) < xs.length := fun z => e (decide_eq_true z)
          omega
        have e8 : (decide (xs.length ≤ 8) && xs.all isI) = xs.all isI := by simp [h8]
        rw [e8] at q
        refine ⟨.ref a, rfl, a, rfl, ⟨_, .of ha⟩, fun D nD => ?_⟩
        have naD : a ≠ D := ne_of_none ha nD
        refine lc_it (walk_tup (K := K) (a := a) (xs := xs)) (AccP D (MapP (Same H) xs fun v => .bl (isI v))) (.zero ⟨same_new nD, rfl⟩) (fun i H' _ ⟨_, _, _, z⟩ => same_seqT z.1 (.of ha)) (fun i x H' H'' hi ⟨acc, e1, l1, z, eacc⟩ y => ?_) (fun H' ⟨acc, e1, _, z, eacc⟩ => ?_)
        · obtain ⟨rfl, hx⟩ := y
          have mem := List.mem_of_getElem? hx
          obtain ⟨k, hk⟩ := Option.isSome_iff_exists.mp (hxs x mem)
          refine ⟨rfl, ?_⟩
          refine ⟨x, rfl, x, k, rfl, kiOf_is hk, ?_⟩
          rw [← isI_ki hk]
          exact AccP.put (small_size (by omega)) e1 l1 (mapP_next hx eacc (same_updN z nD))
        · refine ⟨D, xs.map isI, rfl, .of ?_, ?_⟩
          · rw [e1, eacc, List.take_length, List.map_map]
            rfl
          · rw [List.all_map]
            exact q H' z
end

/-- BadText(0, k) is raised -/
def rse (C : Addr) (k : Int) (H : Hp) (E : XK) : Prop := ∀ d H', Same H H' → H d = none → H' d = some (.xd [("word", .int k), ("line", .int 0)]) → E (.ref C) (some d) H'
theorem rse.at {C : Addr} {k : Int} {H H1 : Hp} {E : XK} (h : rse C k H E) (s : Same H H1) : rse C k H1 E := fun d H' s2 n e => h d H' (s.trans s2) (s.free n) e
theorem rse.mk {C : Addr} {k : Int} {H : Hp} {Q : XK} (h : rse C k H Q) : ∀ d, H d = none → Q (.ref C) (some d) (upd H d (.xd [("word", .int k), ("line", .int 0)])) := fun d n => h d _ (same_new n) n upd_same
section
variable {P : Program} {w : World} {K : PySem.W.Frag} {mg : Str → Option Value} {base : Heap}
theorem ok_own_copy (T : Top K mg) : FnOk P w K mg base CX0 (0 + 1) T.a_own_copy T.d_own_copy ["value"] spCopyF := by
  refine T.F_own_copy.ok scown_copy (fun vs H Q E h => ?_) (fun cdv A outer s H vs Q E hr h => ?_)
  · obtain ⟨y, rfl, _⟩ := h
    rfl
  · obtain ⟨y, rfl, hf, q⟩ := h
    obtain ⟨k, hk, h1, h2, h3⟩ := flat_ki hf H
    refine ⟨_, (pss_cons (ps_if (pt_val (pe_callB call_isi (by rfl) T.z_isinstance (by decide +kernel) (pa_cons (pv 0) (pa_cons (pe_bltn (by rfl) T.z_tuple (by decide +kernel) (show RelV (.ty "tuple") _ from rfl)) pa_nil))))
    (pss_one ps_never)
    pss_nil)
  (pss_cons (ps_if (pt_val (pe_callB call_isi (by rfl) T.z_isinstance (by decide +kernel) (pa_cons (pv 0) (pa_cons (pe_bltn (by rfl) T.z_list (by decide +kernel) (show RelV (.ty "list") _ from rfl)) pa_nil))))
    (pss_one ps_never)
    pss_nil)
  (pss_cons (ps_if (pt_val (pe_callB call_isi (by rfl) T.z_isinstance (by decide +kernel) (pa_cons (pv 0) (pa_cons (pe_bltn (by rfl) T.z_dict (by decide +kernel) (show RelV (.ty "dict") _ from rfl)) pa_nil))))
    (pss_one ps_never)
    pss_nil)
  (pss_one (ps_ret (pv 0)))))), ?_⟩
    refine ⟨y, rfl, _, _, _, _, _, rfl, .ty _, hk.ty, ki_kit _ .tup, _, rfl, ite2 (fun e => absurd e (by rw [h1]; decide)) fun _ => ?_⟩
    refine ⟨y, rfl, _, _, _, _, _, rfl, .ty _, hk.ty, ki_kit _ .lst, _, rfl, ite2 (fun e => absurd e (by rw [h2]; decide)) fun _ => ?_⟩
    refine ⟨y, rfl, _, _, _, _, _, rfl, .ty _, hk.ty, ki_kit _ .dct, _, rfl, ite2 (fun e => absurd e (by rw [h3]; decide)) fun _ => ?_⟩
    exact ⟨y, rfl, q⟩
theorem ok_badtext (T : Top K mg) : FnOk P w K mg base CX0 (4 + 1) T.a_BadText___init__ T.d_BadText___init__ ["self", "line", "word"] (spE2F K T.C_BadText "line" "word") := by
  have G_own_copy := (ok_own_copy (P := P) (w := w) (base := base) T).mono (k := 4) (by decide)
  refine T.F_BadText___init__.ok scBadText___init__ (fun vs H Q E h => ?_) (fun cdv A outer s H vs Q E hr h => ?_)
  · obtain ⟨⟨a, y, z, rfl, _⟩, _⟩ := h
    rfl
  · obtain ⟨⟨a0, y0, z0, e0, hf, hf2⟩, a, y, z, rfl, ha, q⟩ := h
    obtain ⟨rfl, rfl, rfl⟩ : a = a0 ∧ y = y0 ∧ z = z0 := by cases e0; exact ⟨rfl, rfl, rfl⟩
    refine ⟨_, (pss_cons (ps_ost (pv 0) (pe_call G_own_copy hr (by rfl) T.g_own_copy T.F_own_copy.kp T.b_own_copy .nil pass0 (pa_cons (pv 1) pa_nil)))
  (pss_one (ps_ost (pv 0) (pe_call G_own_copy hr (by rfl) T.g_own_copy T.F_own_copy.kp T.b_own_copy .nil pass0 (pa_cons (pv 2) pa_nil))))), ?_⟩
    refine ⟨y, rfl, y, rfl, hf, .ref a, rfl, a, T.C_BadText, rfl, T.ox_BadText, T.no_BadText_line, .inl ⟨ha, fun d nd nda => ?_⟩⟩
    refine ⟨z, rfl, z, rfl, hf2, .ref a, rfl, a, T.C_BadText, rfl, T.ox_BadText, T.no_BadText_word, .inr ⟨d, _, upd_same, ?_, by simp, q d nd nda⟩⟩
    rw [upd_ne nda, upd_same]
def spWordsOf (K : PySem.W.Frag) (C : Addr) : Sp := fun vs H Q E => ∃ x, vs = [x] ∧ ((∃ t, TyX K H x t ∧ PySem.W.kitOne K t (.type "str") = some false ∧ rse C 0 H E) ∨
  ∃ z : Str, x = .str z ∧ z.length + 2 ≤ sizeLine ∧ ∀ p, H p = none → Q (.ref p) (upd H p (.lst ((Txt.split z " ").map V.str))))
theorem ok_words_of (T : Top K mg) : FnOk P w K mg base (L2.CX P w) (6 + 1) T.a_words_of T.d_words_of ["text"] (spWordsOf K T.C_BadText) := by
  have G_BadText___init__ := ok_badtext (P := P) (w := w) (base := base) T
  refine T.F_words_of.okX scwords_of (fun vs H Q E h => ?_) (fun cdv A outer s H vs Q E hr h => ?_)
  · obtain ⟨x, rfl, _⟩ := h
    rfl
  · obtain ⟨x, rfl, h⟩ := h
    refine ⟨_, (pss_cons (ps_if (pt_not (pt_val (pe_callB call_isi (by rfl) T.z_isinstance (by decide +kernel) (pa_cons (pv 0) (pa_cons (pe_bltn (by rfl) T.z_str (by decide +kernel) (show RelV (.ty "str") _ from rfl)) pa_nil)))))
    (pss_one (ps_raise rfl (takes_of rfl rfl rfl rfl) (pmk_oex T.ox_BadText T.ic_BadText T.ti_BadText G_BadText___init__ hr T.b_BadText___init__ .nil pass0 rfl T.g_BadText (pa_cons pe_int (pa_cons pe_int pa_nil)))))
    pss_nil)
  (pss_one (ps_ret (pe_split (pv 0) pe_str)))), ?_⟩
    rcases h with ⟨t, ty, hk, q⟩ | ⟨z, rfl, hz, q⟩
    · refine ⟨x, rfl, _, _, _, _, _, rfl, .ty _, ty, hk, _, rfl, ?_⟩
      exact mkE2F q.mk
    · refine ⟨.str z, rfl, _, _, _, _, _, rfl, .ty _, (show IsKi H (.str z) .str from ⟨_, rfl⟩).ty, ki_kit _ .str, _, rfl, ?_⟩
      exact ⟨.str z, rfl, ⟨z, rfl⟩, z, " ", rfl, rfl, by decide +kernel, hz, q⟩
def spWordAt (K : PySem.W.Frag) : Sp := fun vs H Q _ => ∃ (p : Addr) (ws : List Str) (k : Nat), vs = [.ref p, .int k] ∧ SqL K H p (ws.map V.str) ∧ Q (.str (wd ws k)) H
theorem wd_at {ws : List Str} {k : Nat} (h : k < ws.length) : atI (ws.map V.str) (k : Int) = some (.str (wd ws k)) := by
  refine atI_nat (xs := ws.map V.str) (j := k) (v := .str (wd ws k)) ?_
  show _ = some (V.str (ws.getD k ""))
  rw [List.getElem?_map, List.getD_eq_getElem?_getD, List.getElem?_eq_getElem h]
  rfl
theorem wd_out {ws : List Str} {k : Nat} (h : ¬ k < ws.length) : wd ws k = "" := by
  show ws.getD k "" = ""
  rw [List.getD_eq_getElem?_getD, List.getElem?_eq_none (by omega)]
  rfl
theorem ok_word_at (T : Top K mg) : FnOk P w K mg base CX0 (0 + 1) T.a_word_at T.d_word_at ["words", "at"] (spWordAt K) := by
  refine T.F_word_at.ok scword_at (fun vs H Q E h => ?_) (fun cdv A outer s H vs Q E hr h => ?_)
  · obtain ⟨p, ws, k, rfl, _⟩ := h
    rfl
  · obtain ⟨p, ws, k, rfl, hS, q⟩ := h
    refine ⟨_, (pss_one (ps_ret (pe_ifExp (pt_cmpR op_lt (pv 1) (pe_callB call_len_seq (by rfl) T.z_len (by decide +kernel) (pa_cons (pv 0) pa_nil)) (nomark _)) (pe_ix (ixL (K := K) rfl) (pv 0) (pv 1) (fun _ _ => rfl)) pe_str))), ?_⟩
    refine ⟨.int k, rfl, .ref p, rfl, p, _, rfl, .inl hS, _, _, rfl, rfl, _, rfl, ite2 (fun e => ?_) (fun e => ?_)⟩
    · have hk : k < ws.length := by
        have := of_decide_eq_true e
        rw [List.length_map] at this
        omega
      exact ⟨.ref p, rfl, .int k, rfl, p, _, _, _, rfl, rfl, hS, wd_at hk, q⟩
    · have hk : ¬ k < ws.length := fun z => e (decide_eq_true (by rw [List.length_map]; omega))
      rw [wd_out hk] at q
      exact q
def spExpect (K : PySem.W.Frag) (C : Addr) : Sp := fun vs H Q E => ∃ (p : Addr) (ws : List Str) (k : Nat) (x : Str), vs = [.ref p, .int k, .str x] ∧ SqL K H p (ws.map V.str) ∧
  (decide (V.str (wd ws k) = V.str x) = true → Q .non H) ∧ (decide (V.str (wd ws k) = V.str x) = false → rse C k H E)
theorem ok_expect (T : Top K mg) : FnOk P w K mg base (L2.CX P w) (6 + 1) T.a_expect T.d_expect ["words", "at", "word"] (spExpect K T.C_BadText) := by
  have G_BadText___init__ := ok_badtext (P := P) (w := w) (base := base) T
  have G_word_at := (ok_word_at (P := P) (w := w) (base := base) T).mono (k := 6) (by decide)
  refine T.F_expect.okX scexpect (fun vs H Q E h => ?_) (fun cdv A outer s H vs Q E hr h => ?_)
  · obtain ⟨p, ws, k, x, rfl, _⟩ := h
    rfl
  · obtain ⟨p, ws, k, x, rfl, hS, q1, q0⟩ := h
    refine ⟨_, (pss_one (ps_if (pt_cmpR op_ne (pe_call G_word_at hr (by rfl) T.g_word_at T.F_word_at.kp T.b_word_at .nil pass0 (pa_cons (pv 0) (pa_cons (pv 1) pa_nil))) (pv 2) (nomark _))
    (pss_one (ps_raise rfl (takes_of rfl rfl rfl rfl) (pmk_oex T.ox_BadText T.ic_BadText T.ti_BadText G_BadText___init__ hr T.b_BadText___init__ .nil pass0 rfl T.g_BadText (pa_cons pe_int (pa_cons (pv 1) pa_nil)))))
    pss_nil)), ?_⟩
    refine ⟨.ref p, rfl, .int k, rfl, p, ws, k, rfl, hS, .str x, rfl, rfl, _, rfl, ite2 (fun e => ?_) (fun e => ?_)⟩
    · exact ⟨.int k, rfl, mkE2F (E := fun _ _ _ => False) (q0 (by simpa using e)).mk⟩
    · exact q1 (by simpa using e)
def spEnd (K : PySem.W.Frag) (C : Addr) : Sp := fun vs H Q E => ∃ (p : Addr) (ws : List Str) (k : Nat), vs = [.ref p, .int k] ∧ SqL K H p (ws.map V.str) ∧ (¬ k < ws.length → Q .non H) ∧ (k < ws.length → rse C k H E)
theorem ok_expect_end (T : Top K mg) : FnOk P w K mg base (L2.CX P w) (6 + 1) T.a_expect_end T.d_expect_end ["words", "at"] (spEnd K T.C_BadText) := by
  have G_BadText___init__ := ok_badtext (P := P) (w := w) (base := base) T
  refine T.F_expect_end.okX scexpect_end (fun vs H Q E h => ?_) (fun cdv A outer s H vs Q E hr h => ?_)
  · obtain ⟨p, ws, k, rfl, _⟩ := h
    rfl
  · obtain ⟨p, ws, k, rfl, hS, q1, q0⟩ := h
    refine ⟨_, (pss_one (ps_if (pt_cmpR op_lt (pv 1) (pe_callB call_len_seq (by rfl) T.z_len (by decide +kernel) (pa_cons (pv 0) pa_nil)) (nomark _))
    (pss_one (ps_raise rfl (takes_of rfl rfl rfl rfl) (pmk_oex T.ox_BadText T.ic_BadText T.ti_BadText G_BadText___init__ hr T.b_BadText___init__ .nil pass0 rfl T.g_BadText (pa_cons pe_int (pa_cons (pv 1) pa_nil)))))
    pss_nil)), ?_⟩
    refine ⟨.int k, rfl, .ref p, rfl, p, _, rfl, .inl hS, _, _, rfl, rfl, _, rfl, ite2 (fun e => ?_) (fun e => ?_)⟩
    · have hk : k < ws.length := by
        have := of_decide_eq_true e
        rw [List.length_map] at this
        omega
      exact ⟨.int k, rfl, mkE2F (E := fun _ _ _ => False) (q0 hk).mk⟩
    · have hk : ¬ k < ws.length := fun z => e (decide_eq_true (by rw [List.length_map]; omega))
      exact q1 hk
def spIntW : Sp := fun vs H Q _ => ∃ x : Str, vs = [.str x] ∧ x.length ≤ sizeLine ∧ Q (.bl (isIntW x)) H
theorem ok_is_integer_word (T : Top K mg) : FnOk P w K mg base CX0 (0 + 1) T.a_is_integer_word T.d_is_integer_word ["word"] spIntW := by
  refine T.F_is_integer_word.ok scis_integer_word (fun vs H Q E h => ?_) (fun cdv A outer s H vs Q E hr h => ?_)
  · obtain ⟨x, rfl, _⟩ := h
    rfl
  · obtain ⟨x, rfl, hx, q⟩ := h
    refine ⟨_, (pss_cons (ps_set (i := 1) scis_integer_word.nd rfl (.inl rfl) (pe_m1 PySem.F.slot_str_removeprefix PySem.F.type_str_removeprefix mt_removeprefix (pv 0) pe_str))
  (pss_cons (ps_if (PW.pt (pw_or (pt_cmpR op_gt (pe_callB call_len_str (by rfl) T.z_len (by decide +kernel) (pa_cons (pv 1) pa_nil)) (pe_glob rfl T.c_MOST_DIGITS (show RelV (.int 60) _ from ⟨_, rfl⟩)) (nomark _)) (pw_or (pt_not (pt_val (pe_m0 PySem.F.slot_str_isascii PySem.F.type_str_isascii mt_isascii (pv 1)))) (pw_or1 (pt_not (pt_val (pe_m0 PySem.F.slot_str_isdigit PySem.F.type_str_isdigit mt_isdigit (pv 1))))))))
    (pss_one (ps_ret pe_bl))
    pss_nil)
  (pss_one (ps_ret (pe_or (pe_cmpR op_eq (pv 0) pe_str (nomark _)) (pe_one (pe_not (pe_m1 PySem.F.slot_str_startswith PySem.F.type_str_startswith mt_startswith (pv 1) pe_str)))))))), ?_⟩
    have hd : (Txt.removeprefix x "-").length ≤ sizeLine := Nat.le_trans (PyProof.Rows.len_removeprefix x "-") hx
    refine ⟨.str x, rfl, ⟨x, rfl⟩, x, "-", rfl, rfl, hx, ?_⟩
    unfold isIntW at q
    generalize Txt.removeprefix x "-" = d at q hd
    refine ⟨.str d, rfl, d, rfl, hd, _, _, rfl, rfl, _, rfl, ite2 (fun e => ?_) (fun e => ?_)⟩
    · rw [e] at q
      exact q
    · rw [Bool.eq_false_iff.mpr e] at q
      refine ⟨.str d, rfl, ⟨d, rfl⟩, d, rfl, rfl, trivial, _, rfl, ?_⟩
      cases hA : Txt.isascii d with
      | false =>
        rw [hA] at q
        exact q
      | true =>
        rw [hA] at q
        refine ⟨.str d, rfl, ⟨d, rfl⟩, d, rfl, rfl, trivial, _, rfl, ?_⟩
        cases hD : Txt.isdigit d with
        | false =>
          rw [hD] at q
          exact q
        | true =>
          rw [hD] at q
          refine ⟨.str x, rfl, rfl, ?_⟩
          refine ⟨_, rfl, ?_⟩
          cases hZ : decide (V.str x = V.str "0") with
          | true =>
            rw [hZ] at q
            exact q
          | false =>
            rw [hZ] at q
            exact ⟨.str d, rfl, ⟨d, rfl⟩, d, "0", rfl, rfl, _, rfl, q⟩
end

def signS (b : Bool) : Str := if b = true then ">" else ">="
/-- a Bound of the factors ns -/
def BoundAt (C : Addr) (H : Hp) (x : V) (ns : List Int) (b : Bool) : Prop := ∃ a dx tf, x = .ref a ∧ H a = some (.ins C dx [("form", .ref tf), ("is_strict", .bl b)]) ∧ H tf = some (.tup (ns.map V.int))
theorem BoundAt.same {C : Addr} {H H' : Hp} {x : V} {ns : List Int} {b : Bool} (s : Same H H') (h : BoundAt C H x ns b) : BoundAt C H' x ns b := by
  obtain ⟨a, dx, tf, e, h1, h2⟩ := h
  exact ⟨a, dx, tf, e, s _ _ h1, s _ _ h2⟩
section
variable {P : Program} {w : World} {K : PySem.W.Frag} {mg : Str → Option Value} {base : Heap}
def spInit (C : Addr) : Sp := fun vs H Q _ => ∃ (x dx tf : Addr) (ns : List Int) (b : Bool), vs = [.ref x, .ref tf, .bl b] ∧ H x = some (.ins C dx []) ∧ H tf = some (.tup (ns.map V.int)) ∧ ns.length ≤ 8 ∧
  ∀ H1 u, Same H H1 → Q .non (upd (upd H1 x u) x (.ins C dx [("form", .ref tf), ("is_strict", .bl b)]))
theorem init_here {C : Addr} {H1 : Hp} {tf : Addr} {ns : List Int} {b : Bool} {R : Addr → Hp → Prop} {E : XK} (ht : H1 tf = some (.tup (ns.map V.int))) (hl : ns.length ≤ 8) (q : ∀ y H', Same H1 H' → BoundAt C H' (.ref y) ns b → R y H') :
    ∀ x dx, H1 x = none → H1 dx = none → dx ≠ x → spInit C (.ref x :: ([.ref tf, .bl b] ++ [])) (upd (upd H1 dx (.own x)) x (.ins C dx [])) (fun v H2 => v = .non ∧ R x H2) E := by
  intro x dx nx ndx nxd
  have old : ∀ {a : Addr} {o : HO}, H1 a = some o → upd (upd H1 dx (.own x)) x (.ins C dx []) a = some o := fun {a o} h => by
    rw [upd_ne (ne_of_none h nx), upd_ne (ne_of_none h ndx)]
    exact h
  refine ⟨x, dx, tf, ns, b, rfl, upd_same, old ht, hl, fun H2 u s2 => ⟨rfl, q _ _ (fun a o h => ?_) ⟨x, dx, tf, rfl, upd_same, ?_⟩⟩⟩
  · rw [upd_ne (ne_of_none h nx), upd_ne (ne_of_none h nx)]
    exact s2 _ _ (old h)
  · rw [upd_ne (ne_of_none ht nx), upd_ne (ne_of_none ht nx)]
    exact s2 _ _ (old ht)
theorem form_arg {H : Hp} {tf : Addr} {ns : List Int} (h : H tf = some (.tup (ns.map V.int))) (hl : ns.length ≤ 8) : FormArg H (.ref tf) true := .inr ⟨tf, _, rfl, h, fun v hv => by
  obtain ⟨n, _, rfl⟩ := List.mem_map.mp hv
  rfl, by
  have : (ns.map V.int).all isI = true := by
    rw [List.all_map, List.all_eq_true]
    exact fun _ _ => rfl
  rw [this]
  simp [hl]⟩
theorem ok_init (T : Top K mg) : FnOk P w K mg base CX0 (2 + 1) T.a_Bound___init__ T.d_Bound___init__ ["self", "form", "is_strict"] (spInit T.C_Bound) := by
  have G_is_form := ok_is_form (P := P) (w := w) (base := base) T
  refine T.F_Bound___init__.ok (CX := CX0) scBound___init__ (fun vs H Q E h => ?_) (fun cdv A outer s H vs Q E hr h => ?_)
  · obtain ⟨x, dx, tf, ns, b, rfl, _⟩ := h
    rfl
  · obtain ⟨x, dx, tf, ns, b, rfl, hx, ht, hl, q⟩ := h
    refine ⟨_, (pss_cons (ps_if (pt_not (pt_val (pe_call G_is_form hr (by rfl) T.g_is_form T.F_is_form.kp T.b_is_form .nil pass0 (pa_cons (pv 1) pa_nil))))
    (pss_one ps_never)
    pss_nil)
  (pss_cons (ps_if (pt_not (pt_val (pe_callB call_isi (by rfl) T.z_isinstance (by decide +kernel) (pa_cons (pv 2) (pa_cons (pe_bltn (by rfl) T.z_bool (by decide +kernel) (show RelV (.ty "bool") _ from rfl)) pa_nil)))))
    (pss_one ps_never)
    pss_nil)
  (pss_cons (ps_fld (pv 0) (pv 1) rfl)
  (pss_one (ps_fld (pv 0) (pv 2) rfl))))), ?_⟩
    refine ⟨.ref tf, rfl, .ref tf, true, rfl, form_arg ht hl, fun H1 s1 => ⟨true, rfl, ?_⟩⟩
    refine ⟨.bl b, rfl, _, _, _, _, _, rfl, .ty _, (show IsKi H1 (.bl b) .bl from ⟨b, rfl⟩).ty, ki_kit _ .bl, true, rfl, ?_⟩
    refine ⟨.ref tf, rfl, .ref x, rfl, x, T.C_Bound, dx, [], rfl, s1 _ _ hx, T.cl_Bound, T.na_Bound_form, by decide, ?_⟩
    refine ⟨.bl b, rfl, .ref x, rfl, x, T.C_Bound, dx, _, rfl, upd_same, T.cl_Bound, T.na_Bound_is_strict, (by show 1 < 1000; decide), ?_⟩
    exact q H1 _ s1
theorem notSign (x : Str) : (if true then !inV (.str x) [.str ">=", .str ">"] else inV (.str x) [.str ">=", .str ">"]) = !isSign x := by
  show (!(eqV (.str ">=") (.str x) || (eqV (.str ">") (.str x) || false))) = _
  unfold isSign
  congr 1
  show ((">=" : Str) == x || ((">" : Str) == x || false)) = _
  have e : ∀ y : Str, (y == x) = decide (V.str x = V.str y) := fun y => by
    rw [Bool.eq_iff_iff, beq_iff_eq, decide_eq_true_eq]
    exact ⟨fun z => by rw [z], fun z => by cases z; rfl⟩
  rw [e, e, Bool.or_false]
theorem read_ok {ns : List Int} {b : Bool} {ws : List Str} (e : ws = ns.map numS ++ [signS b, "0"]) (hl : ns.length ≤ 8) (hn : ∀ n ∈ ns, n.natAbs < 10 ^ 60) :
    lead 8 ws = ns.length ∧ wd ws ns.length = signS b ∧ rdErr ws = none := by
  have hm : (ns.map numS).length = ns.length := List.length_map ..
  have h1 : lead 8 ws = ns.length := by
    rw [e, lead_app 8 _ _ (fun u hu => by
      obtain ⟨n, h, rfl⟩ := List.mem_map.mp hu
      exact isIntW_num (hn n h)) (by rw [hm]; exact hl) (.inr fun w r h => by
        injection h with h _
        rw [← h]
        cases b <;> decide +kernel), hm]
  have h2 : wd ws ns.length = signS b := by
    rw [e]
    have := wd_app (ns.map numS) [signS b, "0"] 0
    rw [hm] at this
    exact this
  have h3 : wd ws (ns.length + 1) = "0" := by
    rw [e]
    have := wd_app (ns.map numS) [signS b, "0"] 1
    rw [hm] at this
    exact this
  have h4 : ws.length = ns.length + 2 := by rw [e, List.length_append, hm]; rfl
  refine ⟨h1, h2, ?_⟩
  unfold rdErr
  rw [h1, h2, h3, h4, if_neg (by cases b <;> decide +kernel), if_neg (by decide +kernel), if_neg (by omega)]
def spRead (K : PySem.W.Frag) (C CB : Addr) : Sp := fun vs H Q E => ∃ x, vs = [x] ∧ ((∃ t, TyX K H x t ∧ PySem.W.kitOne K t (.type "str") = some false ∧ rse C 0 H E) ∨
  ∃ (z : Str) (ws : List Str), x = .str z ∧ z.length + 2 ≤ sizeLine ∧ Txt.split z " " = ws ∧ ws.length ≤ 1000 ∧ (∀ v ∈ ws, v.length ≤ 1000) ∧
    ((∃ k, rdErr ws = some k ∧ rse C k H E) ∨
      ∃ ns b, ws = ns.map numS ++ [signS b, "0"] ∧ ns.length ≤ 8 ∧ (∀ n ∈ ns, n.natAbs < 10 ^ 60) ∧ ∀ y H', Same H H' → BoundAt CB H' y ns b → Q y H'))
theorem wd_len {ws : List Str} (h : ∀ v ∈ ws, v.length ≤ 1000) (k : Nat) : (wd ws k).length ≤ sizeLine := by
  by_cases hk : k < ws.length
  · have : wd ws k ∈ ws := by
      show ws.getD k "" ∈ ws
      rw [List.getD_eq_getElem?_getD, List.getElem?_eq_getElem hk]
      exact List.getElem_mem hk
    have := h _ this
    rw [sizeLine_eq]
    omega
  · rw [wd_out hk]
    decide +kernel
theorem ok_read (T : Top K mg) : FnOk P w K mg base (L2.CX P w) (8 + 1) T.a_Bound_read T.d_Bound_read ["text"] (spRead K T.C_BadText T.C_Bound) := by
  have G_BadText___init__ := (ok_badtext (P := P) (w := w) (base := base) T).mono (k := 7) (by decide)
  have G_words_of := (ok_words_of (P := P) (w := w) (base := base) T).mono (k := 8) (by decide)
  have G_word_at := (ok_word_at (P := P) (w := w) (base := base) T).mono (k := 8) (by decide)
  have G_is_integer_word := (ok_is_integer_word (P := P) (w := w) (base := base) T).mono (k := 8) (by decide)
  have G_expect := (ok_expect (P := P) (w := w) (base := base) T).mono (k := 8) (by decide)
  have G_expect_end := (ok_expect_end (P := P) (w := w) (base := base) T).mono (k := 8) (by decide)
  have G_Bound___init__ := (ok_init (P := P) (w := w) (base := base) T).mono (k := 7) (by decide)
  refine T.F_Bound_read.okX scBound_read (fun vs H Q E h => ?_) (fun cdv A outer s H vs Q E hr h => ?_)
  · obtain ⟨x, rfl, _⟩ := h
    rfl
  · obtain ⟨x, rfl, h⟩ := h
    refine ⟨_, (pss_cons (ps_set (i := 1) scBound_read.nd rfl (.inl rfl) (pe_call G_words_of hr (by rfl) T.g_words_of T.F_words_of.kp T.b_words_of .nil (passes_call (takes_of rfl rfl rfl rfl) (fun _ _ _ _ h => h)) (pa_cons (pv 0) pa_nil)))
  (pss_cons (ps_set (i := 2) scBound_read.nd rfl (.inl rfl) pe_int)
  (pss_cons (ps_while (passes_of rfl) (PW.pt (pw_and (pt_cmpR op_lt (pv 2) (pe_glob rfl T.c_MOST_FACTORS (show RelV (.int 8) _ from ⟨_, rfl⟩)) (nomark _)) (pw_and1 (pt_val (pe_call G_is_integer_word hr (by rfl) T.g_is_integer_word T.F_is_integer_word.kp T.b_is_integer_word .nil pass0 (pa_cons (pe_call G_word_at hr (by rfl) T.g_word_at T.F_word_at.kp T.b_word_at .nil pass0 (pa_cons (pv 1) (pa_cons (pv 2) pa_nil))) pa_nil))))))
    (pss_one (ps_aug (i := 2) scBound_read.nd rfl (.inl rfl) pe_int ip_add)))
  (pss_cons (ps_set (i := 3) scBound_read.nd rfl (.inl rfl) (pe_call G_word_at hr (by rfl) T.g_word_at T.F_word_at.kp T.b_word_at .nil pass0 (pa_cons (pv 1) (pa_cons (pv 2) pa_nil))))
  (pss_cons (ps_if (pt_cmpR op_notIn_seq (pv 3) (pe_tup (pa_cons pe_str (pa_cons pe_str pa_nil))) (by rfl))
    (pss_one (ps_raise rfl (takes_of rfl rfl rfl rfl) (pmk_oex T.ox_BadText T.ic_BadText T.ti_BadText G_BadText___init__ hr T.b_BadText___init__ .nil pass0 rfl T.g_BadText (pa_cons pe_int (pa_cons (pv 2) pa_nil)))))
    pss_nil)
  (pss_cons (ps_expr (pe_call G_expect hr (by rfl) T.g_expect T.F_expect.kp T.b_expect .nil (passes_call (takes_of rfl rfl rfl rfl) (fun _ _ _ _ h => h)) (pa_cons (pv 1) (pa_cons (pe_op op_add (pv 2) pe_int) (pa_cons pe_str pa_nil)))))
  (pss_cons (ps_expr (pe_call G_expect_end hr (by rfl) T.g_expect_end T.F_expect_end.kp T.b_expect_end .nil (passes_call (takes_of rfl rfl rfl rfl) (fun _ _ _ _ h => h)) (pa_cons (pv 1) (pa_cons (pe_op op_add (pv 2) pe_int) pa_nil))))
  (pss_one (ps_ret (pe_make T.mk_Bound G_Bound___init__ hr rfl T.g_Bound T.b_Bound___init__ .nil pass0 (pa_cons (pe_callTy call_tuple_of (by rfl) T.z_tuple (by decide +kernel) (pa_cons (pe_lc (own := [("word", 4)]) (g := gName 4) rfl scBound_read.nd (pi_list (pe_slice sl_list (pv 1) po_none (po_some (pv 2)))) (blkOk_by (own := [("word", 4)]) (N := NBound_read) (sc := defScope sBound_read) (by decide +kernel)) (fun _ _ _ _ _ => (pg_name (i := 4) scBound_read.nd rfl (.inl rfl))) (fun _ _ _ _ _ => pts_nil) (fun _ _ _ _ _ => (pe_callTy call_int_str (by rfl) T.z_int (by decide +kernel) (pa_cons (pv 4) pa_nil)))) pa_nil)) (pa_cons (pe_cmpR op_eq (pv 3) pe_str (nomark _)) pa_nil)))))))))))), ?_⟩
    rcases h with ⟨t, ty, hk, q⟩ | ⟨z, ws, rfl, hz, hsp, hwl, hww, h⟩
    · exact ⟨x, rfl, x, rfl, .inl ⟨t, ty, hk, q⟩⟩
    · refine ⟨.str z, rfl, .str z, rfl, .inr ⟨z, rfl, hz, fun p np => ?_⟩⟩
      rw [hsp]
      have sp0 := same_new (o := .lst (ws.map V.str)) np
      have hS : SqL K (upd H p (.lst (ws.map V.str))) p (ws.map V.str) := .of upd_same
      have hraw : upd H p (.lst (ws.map V.str)) p = some (.lst (ws.map V.str)) := upd_same
      generalize upd H p (.lst (ws.map V.str)) = H1 at sp0 hS hraw ⊢
      refine ⟨fun m σ H' => ∃ (j : Nat) (v3 v4 : Option V), σ = [some (.str z), some (.ref p), some (.int j), v3, v4] ∧ H' = H1 ∧ j ≤ lead 8 ws ∧ m = 8 - j, ⟨8, 0, _, _, rfl, rfl, Nat.zero_le _, rfl⟩, fun m σ H' hW => ?_⟩
      obtain ⟨j, v3, v4, rfl, rfl, hj, rfl⟩ := hW
      have h8 := lead_le 8 ws
      refine ⟨.int j, rfl, _, _, rfl, rfl, _, rfl, ?_⟩
      refine ite2 (fun e => ?tt) (fun e => ?ex8)
      case' tt =>
        refine ⟨.ref p, rfl, .int j, rfl, p, ws, j, rfl, hS, wd ws j, rfl, wd_len hww j, _, rfl, ite2 (fun e' => ?bd) (fun e' => ?exw)⟩
      case bd =>
        have hj8 : j < 8 := by
          have := of_decide_eq_true e
          omega
        have hlt : j < lead 8 ws := by
          rcases Nat.lt_or_ge j (lead 8 ws) with z | z
          · exact z
          · have ej : j = lead 8 ws := by omega
            rw [ej] at e' hj8
            rw [lead_at hj8] at e'
            cases e'
        refine ⟨fun σ' H'' => σ' = [some (.str z), some (.ref p), some (.int ((j + 1 : Nat) : Int)), v3, v4] ∧ H'' = H', fun σ' H'' hN => ⟨8 - (j + 1), by omega, j + 1, v3, v4, hN.1, hN.2, hlt, rfl⟩, ?_⟩
        exact ⟨.int j, rfl, j, 1, rfl, rfl, rfl, rfl⟩
      case' exw =>
        have hjl : j = lead 8 ws := by
          rcases Nat.lt_or_ge j (lead 8 ws) with z | z
          · exact absurd (lead_lt z) e'
          · omega
        clear e'
      case' ex8 =>
        have hjl : j = lead 8 ws := by
          have : ¬ (j : Int) < 8 := fun z => e (decide_eq_true z)
          omega
      all_goals
        subst hjl
        clear e hj h8
        refine ⟨.ref p, rfl, .int (lead 8 ws), rfl, p, ws, lead 8 ws, rfl, hS, ?_⟩
        refine ⟨.str (wd ws (lead 8 ws)), rfl, (by show 2 ≤ sizeLine; decide), fun t nt => ⟨t, _, rfl, .inr (.of upd_same), rfl, rfl, ?_⟩⟩
        rw [notSign]
        have st := sp0.trans (same_new (o := .tup [.str ">=", .str ">"]) nt)
        have hS2 := same_seqL' (same_new (o := .tup [.str ">=", .str ">"]) nt) hS
        refine ⟨_, rfl, ite2 (fun e => ?_) (fun e => ?_)⟩
        · have hr : rdErr ws = some (lead 8 ws) := by
            unfold rdErr
            rw [if_pos (by simpa using e)]
          rcases h with ⟨k, hk, q⟩ | ⟨ns, b, hw, hl, hn, q⟩
          · rw [hr] at hk
            cases hk
            exact ⟨.int _, rfl, mkE2F (E := fun _ _ _ => False) (q.at st).mk⟩
          · rw [(read_ok hw hl hn).2.2] at hr
            cases hr
        · have hs1 : isSign (wd ws (lead 8 ws)) = true := by simpa using e
          refine ⟨.ref p, rfl, .int (lead 8 ws), rfl, _, _, rfl, rfl, p, ws, lead 8 ws + 1, "0", rfl, hS2, fun e1 => ?_, fun e1 => ?_⟩
          · refine ⟨.ref p, rfl, .int (lead 8 ws), rfl, _, _, rfl, rfl, p, ws, lead 8 ws + 2, rfl, hS2, fun e2 => ?_, fun e2 => ?_⟩
            · have hr : rdErr ws = none := by
                unfold rdErr
                rw [if_neg (by rw [hs1]; simp), if_neg (by rw [e1]; simp), if_neg e2]
              rcases h with ⟨k, hk, q⟩ | ⟨ns, b, hw, hl, hn, q⟩
              · rw [hr] at hk
                cases hk
              · obtain ⟨r1, r2, _⟩ := read_ok hw hl hn
                dsimp only
                rw [r1, r2]
                have ec : cutV (ws.map V.str) none (some (ns.length : Int)) = (ns.map numS).map V.str := by
                  unfold cutV
                  rw [HT.sIx_nat, HT.sIx_none, hw, List.map_append, List.length_append, List.length_map, List.length_map, Nat.min_eq_left (by omega), Nat.sub_zero, List.drop_zero, List.take_left' (by simp)]
                have es : decide (V.str (signS b) = V.str ">") = b := by cases b <;> decide +kernel
                refine ⟨.ref p, rfl, .int ns.length, rfl, ns.length, rfl, p, _, rfl, hS2, fun c nc => ?_⟩
                rw [ec]
                have sc := st.trans (same_new (o := .lst ((ns.map numS).map V.str)) nc)
                have hc : SqL K (upd (upd H' t (.tup [.str ">=", .str ">"])) c (.lst ((ns.map numS).map V.str))) c ((ns.map numS).map V.str) := .of upd_same
                generalize upd (upd H' t (.tup [.str ">=", .str ">"])) c (.lst ((ns.map numS).map V.str)) = Hc at sc hc ⊢
                refine ⟨c, rfl, ⟨_, hc⟩, fun D nD => ?_⟩
                refine lc_it (walk_list (K := K) (a := c) (xs := (ns.map numS).map V.str)) (AccP D (MapP (Same Hc) ns fun n => .int n)) (.zero ⟨same_new nD, rfl⟩) (fun i H' _ ⟨_, _, _, z⟩ => same_seqL' z.1 hc) (fun i x H' H'' hi ⟨acc, e1, l1, z, eacc⟩ y => ?_) (fun H' ⟨acc, e1, _, z, eacc⟩ => ?_)
                · obtain ⟨rfl, hx⟩ := y
                  rw [List.map_map, List.getElem?_map] at hx
                  obtain ⟨n, hx', rfl⟩ := Option.map_eq_some_iff.mp hx
                  have hb := hn n (List.mem_of_getElem? hx')
                  have hlen := len_num hb
                  refine ⟨rfl, ?_⟩
                  refine ⟨_, rfl, numS n, n, rfl, int_back hb, by omega, ?_⟩
                  rw [List.length_map, List.length_map] at hi
                  exact AccP.put (small_size (by omega)) e1 l1 (mapP_next hx' eacc (same_updN z nD))
                · rw [List.length_map, List.length_map, List.take_length] at eacc
                  subst eacc
                  refine ⟨D, _, rfl, .inl ⟨.of e1, fun l nl => ?_⟩⟩
                  refine ⟨_, rfl, rfl, ?_⟩
                  rw [es]
                  exact init_here (upd_same (H := H')) hl fun y H2 s2 hB => q (.ref y) H2 ((sc.trans z).trans ((same_new nl).trans s2)) hB
            · have hr : rdErr ws = some (lead 8 ws + 2) := by
                unfold rdErr
                rw [if_neg (by rw [hs1]; simp), if_neg (by rw [e1]; simp), if_pos e2]
              rcases h with ⟨k, hk, q⟩ | ⟨ns, b, hw, hl, hn, q⟩
              · rw [hr] at hk
                cases hk
                exact q.at st
              · rw [(read_ok hw hl hn).2.2] at hr
                cases hr
          · have hr : rdErr ws = some (lead 8 ws + 1) := by
              unfold rdErr
              rw [if_neg (by rw [hs1]; simp), if_pos e1]
            rcases h with ⟨k, hk, q⟩ | ⟨ns, b, hw, hl, hn, q⟩
            · rw [hr] at hk
              cases hk
              exact q.at st
            · rw [(read_ok hw hl hn).2.2] at hr
              cases hr
end

theorem ty_bound {K : PySem.W.Frag} {mg : Str → Option Value} (T : Top K mg) {H : Hp} {a dx : Addr} {fs : List (Str × V)} (h : H a = some (.ins T.C_Bound dx fs)) : TyX K H (.ref a) (.ref T.C_Bound) :=
  .base (.ins h T.cl_Bound T.ca_Bound T.sg T.tk T.mr_Bound)
/-- the text of a bound -/
def boundS (ns : List Int) (b : Bool) : Str := Txt.join " " (ns.map numS ++ [signS b, "0"])
theorem len_sum : ∀ {ws : List Str} {k : Nat}, (∀ v ∈ ws, v.length ≤ k) → (ws.map fun v => v.length).sum ≤ k * ws.length
  | [], _, _ => Nat.zero_le _
  | v :: ws, k, h => by
    have h1 := h v List.mem_cons_self
    have h2 := len_sum (ws := ws) (k := k) fun x hx => h x (List.mem_cons_of_mem _ hx)
    rw [List.map_cons, List.sum_cons, List.length_cons, Nat.mul_add]
    omega
theorem len_space : (" " : Str).length = 1 := by rw [TL.len_tl, TL.tl_ofString]; rfl
theorem join_fits {ws : List Str} (h : ∀ v ∈ ws, v.length ≤ 1000) (hl : ws.length ≤ 1000) : (ws.map fun v => v.length).sum + ws.length * (" " : Str).length ≤ 16777216 := by
  have := len_sum h
  rw [len_space]
  have : 1000 * ws.length ≤ 1000 * 1000 := Nat.mul_le_mul_left _ hl
  omega
theorem words_len {ns : List Int} {b : Bool} (hn : ∀ n ∈ ns, n.natAbs < 10 ^ 60) : ∀ v ∈ ns.map numS ++ [signS b, "0"], v.length ≤ 1000 := by
  intro v hv
  rcases List.mem_append.mp hv with hv | hv
  · obtain ⟨n, h, rfl⟩ := List.mem_map.mp hv
    have := len_num (hn n h)
    omega
  · simp only [List.mem_cons, List.not_mem_nil, or_false] at hv
    rcases hv with rfl | rfl
    · cases b <;> decide +kernel
    · decide +kernel
section
variable {P : Program} {w : World} {K : PySem.W.Frag} {mg : Str → Option Value} {base : Heap}
def spEq (C : Addr) : Sp := fun vs H Q _ => ∃ (x y : V) (ns ms : List Int) (b c : Bool), vs = [x, y] ∧ BoundAt C H x ns b ∧ BoundAt C H y ms c ∧ Q (.bl (decide (ns = ms) && decide (b = c))) H
theorem ok_eq (T : Top K mg) : FnOk P w K mg base CX0 (0 + 1) T.a_Bound___eq__ T.d_Bound___eq__ ["self", "other"] (spEq T.C_Bound) := by
  refine T.F_Bound___eq__.ok scBound___eq__ (fun vs H Q E h => ?_) (fun cdv A outer s H vs Q E hr h => ?_)
  · obtain ⟨x, y, ns, ms, b, c, rfl, _⟩ := h
    rfl
  · obtain ⟨x, y, ns, ms, b, c, rfl, ⟨a1, d1, t1, rfl, h1, g1⟩, ⟨a2, d2, t2, rfl, h2, g2⟩, q⟩ := h
    refine ⟨_, (pss_one (ps_ret (pe_and (pe_callB call_isi (by rfl) T.z_isinstance (by decide +kernel) (pa_cons (pv 1) (pa_cons (pe_glob rfl T.g_Bound (show RelV (.ref T.C_Bound) _ from rfl)) pa_nil))) (pe_and (pe_cmpR (op_eqD (Room.units hr)) (pe_fld (pv 0) rfl) (pe_fld (pv 1) rfl) (nomark _)) (pe_one (pe_cmpR op_eq (pe_fld (pv 0) rfl) (pe_fld (pv 1) rfl) (nomark _))))))), ?_⟩
    refine ⟨.ref a2, rfl, _, _, _, _, _, rfl, .own _, ty_bound T h2, T.ki_Bound, true, rfl, ?_⟩
    refine ⟨.ref a1, rfl, a1, T.C_Bound, d1, _, .ref t1, rfl, h1, T.cl_Bound, T.na_Bound_form, rfl, ?_⟩
    refine ⟨.ref a2, rfl, a2, T.C_Bound, d2, _, .ref t2, rfl, h2, T.cl_Bound, T.na_Bound_form, rfl, ?_⟩
    refine ⟨.tuple (ns.map .int), .tuple (ms.map .int), .tup (.of g1) (dp_ints ns), .tup (.of g2) (dp_ints ms), shapedT ns, shapedT ms, ?_⟩
    rw [eqv_tI]
    refine ⟨_, rfl, ?_⟩
    cases hd : decide (ns = ms) with
    | false =>
      rw [hd] at q
      exact q
    | true =>
      rw [hd, Bool.true_and] at q
      refine ⟨.ref a1, rfl, a1, T.C_Bound, d1, _, .bl b, rfl, h1, T.cl_Bound, T.na_Bound_is_strict, rfl, ?_⟩
      refine ⟨.ref a2, rfl, a2, T.C_Bound, d2, _, .bl c, rfl, h2, T.cl_Bound, T.na_Bound_is_strict, rfl, rfl, ?_⟩
      rw [show decide (V.bl b = V.bl c) = decide (b = c) from by simp]
      exact q
def spStr (C : Addr) : Sp := fun vs H Q _ => ∃ (x : V) (ns : List Int) (b : Bool), vs = [x] ∧ BoundAt C H x ns b ∧ ns.length ≤ 8 ∧ (∀ n ∈ ns, n.natAbs < 10 ^ 60) ∧ ∀ H', Same H H' → Q (.str (boundS ns b)) H'
theorem ok_str (T : Top K mg) : FnOk P w K mg base CX0 (0 + 1) T.a_Bound___str__ T.d_Bound___str__ ["self"] (spStr T.C_Bound) := by
  refine T.F_Bound___str__.ok scBound___str__ (fun vs H Q E h => ?_) (fun cdv A outer s H vs Q E hr h => ?_)
  · obtain ⟨x, ns, b, rfl, _⟩ := h
    rfl
  · obtain ⟨x, ns, b, rfl, ⟨a, dx, t, rfl, ha, ht⟩, hl, hn, q⟩ := h
    refine ⟨_, (pss_one (ps_ret (pe_joinK (K := K) rfl pe_str (pe_lst (StX.pa_star (pe_lc (own := [("factor", 1)]) (g := gName 1) rfl scBound___str__.nd (pi_tup (pe_fld (pv 0) rfl)) (blkOk_by (own := [("factor", 1)]) (N := NBound___str__) (sc := defScope sBound___str__) (by decide +kernel)) (fun _ _ _ _ _ => (pg_name (i := 1) scBound___str__.nd rfl (.inl rfl))) (fun _ _ _ _ _ => pts_nil) (fun _ _ _ _ _ => (pe_callTy call_str_int (by rfl) T.z_str (by decide +kernel) (pa_cons (pv 1) pa_nil)))) (pa_cons (pe_ifExp (pt_val (pe_fld (pv 0) rfl)) pe_str pe_str) (pa_cons pe_str pa_nil))))))), ?_⟩
    refine ⟨⟨" ", rfl⟩, .ref a, rfl, a, T.C_Bound, dx, _, .ref t, rfl, ha, T.cl_Bound, T.na_Bound_form, rfl, ?_⟩
    refine ⟨t, rfl, ⟨_, .of ht⟩, fun D nD => ?_⟩
    refine lc_it (walk_tup (K := K) (a := t) (xs := ns.map V.int)) (AccP D (MapP (Same H) ns fun n => .str (numS n))) (.zero ⟨same_new nD, rfl⟩) (fun i H' _ ⟨_, _, _, z⟩ => same_seqT z.1 (.of ht)) (fun i x H' H'' hi ⟨acc, e1, l1, z, eacc⟩ y => ?_) (fun H' ⟨acc, e1, _, z, eacc⟩ => ?_)
    · obtain ⟨rfl, hx⟩ := y
      rw [List.length_map] at hi
      obtain ⟨n, hx', rfl⟩ := get_int hx
      refine ⟨rfl, ?_⟩
      refine ⟨_, rfl, n, rfl, log_num (hn n (List.mem_of_getElem? hx')), ?_⟩
      exact AccP.put (small_size (by omega)) e1 l1 (mapP_next hx' eacc (same_updN z nD))
    · rw [List.length_map, List.take_length] at eacc
      subst eacc
      have ha' := z _ _ ha
      refine ⟨D, _, rfl, .inr (.of e1), ?_⟩
      refine ⟨.ref a, rfl, a, T.C_Bound, dx, _, .bl b, rfl, ha', T.cl_Bound, T.na_Bound_is_strict, rfl, b, rfl, ?_⟩
      have elst : ∀ v : Str, (ns.map fun n => V.str (numS n)) ++ [V.str v, .str "0"] = (ns.map numS ++ [v, "0"]).map V.str := fun v => by
        rw [List.map_append, List.map_map]
        rfl
      have hlen : (ns.map numS ++ [signS b, "0"]).length ≤ 1000 := by
        rw [List.length_append, List.length_map]
        show ns.length + 2 ≤ 1000
        omega
      have fin : ∀ l, H' l = none → ∀ xs, xs = (ns.map numS ++ [signS b, "0"]).map V.str → xs.length ≤ sizeLine ∧ (SqL K (upd H' l (.lst xs)) l ((ns.map numS ++ [signS b, "0"]).map V.str)) ∧ Q (.str (boundS ns b)) (upd H' l (.lst xs)) := fun l nl xs e => by
        subst e
        refine ⟨?_, .of upd_same, q _ (z.trans (same_new nl))⟩
        rw [List.length_map, sizeLine_eq]
        omega
      cases b
      all_goals
        refine ⟨?_, fun l nl => ⟨" ", l, _, rfl, rfl, .inl (fin l nl _ (elst _)).2.1, join_fits (words_len hn) hlen, (fin l nl _ (elst _)).2.2⟩⟩
        rw [elst, List.length_map, sizeLine_eq]
        exact Nat.le_trans hlen (by decide)
end

section
variable {P : Program} {w : World} {K : PySem.W.Frag} {mg : Str → Option Value} {base : Heap}
def spFactor : Sp := fun vs H Q _ => ∃ (p c : Addr) (m : Nat), vs = [.ref p] ∧ Pen H p c m ∧ m + 2 ≤ 2 ^ 20 ∧
  ∀ (r : Int) (H' : Hp), r.natAbs ≤ 20 → Pen H' p c (m + 2) → But p H H' → Q (.int r) H'
theorem ok_factor (T : Top K mg) : FnOk P w K mg base CX0 (2 + 1) T.a__law_factor T.d__law_factor ["_law_pen_here"] spFactor := by
  have G__law_draw := (ok_draw (P := P) (w := w) (base := base) T).mono (k := 2) (by decide)
  have G__law_pick := ok_pick (P := P) (w := w) (base := base) T
  refine T.F__law_factor.ok sc_law_factor (fun vs H Q E h => ?_) (fun cdv A outer s H vs Q E hr h => ?_)
  · obtain ⟨p, c, m, rfl, _⟩ := h
    rfl
  · obtain ⟨p, c, m, rfl, hP, hm, q⟩ := h
    refine ⟨_, (pss_one (ps_ret (pe_call G__law_pick hr (by rfl) T.g__law_pick T.F__law_pick.kp T.b__law_pick .nil pass0 (pa_cons (pv 0) (pa_cons (pe_lst (pa_cons pe_int (pa_cons pe_int (pa_cons pe_int (pa_cons (pe_un un_neg pe_int) (pa_cons pe_int (pa_cons (pe_un un_neg pe_int) (pa_cons pe_int (pa_cons (pe_un un_neg pe_int) (pa_cons (pe_op op_sub (pe_call G__law_draw hr (by rfl) T.g__law_draw T.F__law_draw.kp T.b__law_draw .nil pass0 (pa_cons (pv 0) (pa_cons pe_int pa_nil))) pe_int) pa_nil)))))))))) pa_nil))))), ?_⟩
    refine ⟨.ref p, rfl, 1, rfl, 2, rfl, 5, rfl, .ref p, rfl, p, c, 40, m, rfl, hP, by decide, by decide, by omega, fun d H1 d0 d1 hP1 hB1 => ?_⟩
    refine ⟨_, _, rfl, rfl, (by show 9 ≤ sizeLine; decide), fun l nl => ?_⟩
    refine ⟨p, c, l, m + 1, _, rfl, hP1.same (same_new nl), (hP1.ne_none nl), .inl (.inl upd_same), by simp, (by show 9 < 2 ^ 20; decide), by omega, fun x H2 mem hP2 hB2 => ?_⟩
    have hx : ∃ r : Int, x = .int r ∧ r.natAbs ≤ 20 := by
      simp only [List.mem_cons, List.not_mem_nil, or_false] at mem
      rcases mem with rfl | rfl | rfl | rfl | rfl | rfl | rfl | rfl | rfl <;> refine ⟨_, rfl, ?_⟩ <;> omega
    obtain ⟨r, rfl, hr20⟩ := hx
    exact q r H2 hr20 hP2 ((hB1.trans (but_new nl)).trans hB2)
/-- what Bound.read refuses, and at which word -/
def Bad (K : PySem.W.Frag) (H : Hp) (x : V) (k : Nat) : Prop := (k = 0 ∧ ∃ t, TyX K H x t ∧ PySem.W.kitOne K t (.type "str") = some false) ∨
  ∃ (z : Str) (ws : List Str), x = .str z ∧ z.length + 2 ≤ sizeLine ∧ Txt.split z " " = ws ∧ ws.length ≤ 1000 ∧ (∀ v ∈ ws, v.length ≤ 1000) ∧ rdErr ws = some k
def spSpot (K : PySem.W.Frag) : Sp := fun vs H Q _ => ∃ (x : V) (k : Nat), vs = [x] ∧ Bad K H x k ∧ ∀ p H', Same H H' → H p = none → H' p = some (.tup [.int 0, .int k]) → Q (.ref p) H'
theorem ok_spot (T : Top K mg) : FnOk P w K mg base CX0 (9 + 1) T.a__law_spot T.d__law_spot ["_law_text"] (spSpot K) := by
  have G_Bound_read := ok_read (P := P) (w := w) (base := base) T
  refine T.F__law_spot.ok sc_law_spot (fun vs H Q E h => ?_) (fun cdv A outer s H vs Q E hr h => ?_)
  · obtain ⟨x, k, rfl, _⟩ := h
    rfl
  · obtain ⟨x, k, rfl, hB, q⟩ := h
    refine ⟨_, (pss_cons (ps_set (i := 1) sc_law_spot.nd rfl (.inl rfl) pe_non)
      (pss_cons (ps_try_held (i := 2) rfl rfl rfl sc_law_spot.nd rfl rfl ⟨rfl, by decide, .inl T.g_BadText⟩ takesN
        (fun W pn xe tk po => pss_one (ps_expr (pe_smeth (pe_glob rfl T.g_Bound (show RelV (.ref T.C_Bound) _ from rfl)) T.sm_Bound_read G_Bound_read hr T.b_Bound_read (fun σ => passAt tk σ) (pa_cons (pv 0) pa_nil))))
        (fun a oe cls d pn _ _ => pss_one (ps_set (i := 1) sc_law_spot.nd rfl (.inl rfl) (pv 2))))
      (pss_one (ps_ret (pe_ifExp (pt_cmpR op_isN (pv 1) pe_non (nomark _)) pe_non (pe_tup (pa_cons (pe_xa (pv 1)) (pa_cons (pe_xa (pv 1)) pa_nil)))))))), ?_⟩
    refine ⟨rfl, x, rfl, x, rfl, ?_⟩
    rcases hB with ⟨rfl, t, ty, hk⟩ | ⟨z, ws, rfl, hz, hsp, hl, hw, hr'⟩
    case' inl => refine .inl ⟨t, ty, hk, ?_⟩
    case' inr => refine .inr ⟨z, ws, rfl, hz, hsp, hl, hw, .inl ⟨k, hr', ?_⟩⟩
    case' inl => have ek : (0 : Int) = ((0 : Nat) : Int) := rfl
    case' inl => rw [ek]
    case' inl => generalize (0 : Nat) = k at q ⊢
    all_goals
      intro d H1 s1 nd ed
      refine ⟨true, T.em_BadText_BadText, fun _ a na => ?_, fun h => by cases h⟩
      have had : upd H1 a (xo a (.ref T.C_BadText) (some d)) d = some (.xd [("word", .int k), ("line", .int 0)]) := by
        rw [upd_ne (ne_of_none ed na)]
        exact ed
      have hheld : Held (upd H1 a (xo a (.ref T.C_BadText) (some d))) a T.C_BadText [("word", .int k), ("line", .int 0)] := ⟨d, upd_same, had⟩
      refine ⟨.ref a, rfl, ?_⟩
      refine ⟨.ref a, rfl, rfl, _, rfl, ite2 (fun e => by cases e) (fun _ => ?_)⟩
      refine ⟨.ref a, rfl, a, T.C_BadText, _, .int 0, rfl, T.xf_BadText, T.no_BadText_line, hheld, rfl, ?_⟩
      refine ⟨.ref a, rfl, a, T.C_BadText, _, .int k, rfl, T.xf_BadText, T.no_BadText_word, hheld, rfl, ?_⟩
      refine ⟨(by show 2 ≤ sizeLine; decide), fun t nt => ?_⟩
      have ss := (s1.trans (same_new (o := xo a (.ref T.C_BadText) (some d)) na)).trans (same_new (o := .tup [.int 0, .int k]) nt)
      exact q t _ ss ((s1.trans (same_new (o := xo a (.ref T.C_BadText) (some d)) na)).free nt) upd_same
end

def great : Str := "1" ++ Txt.mul "0" 60
theorem mul_0 : MulOk "0" 60 := ⟨by decide +kernel, by decide +kernel, by decide +kernel⟩
theorem mul_9 : MulOk "9" 61 := ⟨by decide +kernel, by decide +kernel, by decide +kernel⟩
def odds : List Str := ["", "+1", "01", "1.0", "a", "-", "-0", "=", "<", Txt.mul "9" 61, great, "-" ++ great]
theorem odds_ok : ∀ v ∈ odds, isIntW v = false ∧ isSign v = false ∧ Word v := by decide +kernel
def lasts : List Str := ["", "1", "00", "-0", "0.0", ">"]
theorem lasts_ok : ∀ v ∈ lasts, decide (V.str v = V.str "0") = false ∧ Word v := by decide +kernel
theorem sign_ok (b : Bool) : isSign (signS b) = true ∧ isIntW (signS b) = false ∧ Word (signS b) := by cases b <;> decide +kernel
/-- the words of a bound, and how they are bent -/
structure Bent (us : List Str) (sg : Str) : Prop where
  le : us.length ≤ 8
  int : ∀ u ∈ us, isIntW u = true
  wd : ∀ u ∈ us, Word u
  sg : isSign sg = true ∧ isIntW sg = false ∧ Word sg
section
variable {us : List Str} {sg o : Str} {k : Nat}
theorem Bent.stop (h : Bent us sg) (r : List Str) : Stop us (sg :: r) := ⟨h.int, h.le, .inr fun w r' e => by cases e; exact h.sg.2.1⟩
theorem word0 : Word "0" := by decide +kernel
theorem wordE : Word "" := by decide +kernel
theorem word1 : Word "1" := by decide +kernel
theorem Bent.words (h : Bent us sg) : ∀ v ∈ us ++ [sg, "0"], Word v := fun v hv => by
  rcases List.mem_append.mp hv with hv | hv
  · exact h.wd v hv
  · simp only [List.mem_cons, List.not_mem_nil, or_false] at hv
    rcases hv with rfl | rfl
    · exact h.sg.2.2
    · exact word0
theorem Bent.wrong (h : Bent us sg) (hk : k ≤ us.length) (ho : o ∈ odds) : rdErr ((us ++ [sg, "0"]).take k ++ [o] ++ (us ++ [sg, "0"]).drop (k + 1)) = some k := by
  have hl := h.le
  have e : (us ++ [sg, "0"]).take k = us.take k := List.take_append_of_le_length hk
  have el : (us.take k).length = k := by rw [List.length_take, Nat.min_eq_left hk]
  have s : Stop (us.take k) (o :: (us ++ [sg, "0"]).drop (k + 1)) := ⟨fun u hu => h.int u (List.mem_of_mem_take hu), by omega, .inr fun w r' e => by cases e; exact (odds_ok o ho).1⟩
  have := s.a (odds_ok o ho).2.1
  rw [el] at this
  rw [e, List.append_assoc]
  exact this
theorem Bent.last (h : Bent us sg) (ho : o ∈ lasts) : rdErr (us ++ [sg] ++ [o]) = some (us.length + 1) := by
  rw [List.append_assoc]
  exact (h.stop [o]).b h.sg.1 (lasts_ok o ho).1
theorem Bent.more (h : Bent us sg) : rdErr (us ++ [sg, "0"] ++ [o]) = some (us.length + 2) := by
  rw [List.append_assoc]
  exact (h.stop ["0", o]).c h.sg.1 (by show decide (V.str "0" = V.str "0") = true; decide +kernel) (by show 2 < 3; decide)
theorem Bent.less (h : Bent us sg) : rdErr (us ++ [sg]) = some (us.length + 1) := (h.stop []).b h.sg.1 (by show decide (V.str "" = V.str "0") = false; decide +kernel)
theorem Bent.less2 (h : Bent us sg) : rdErr us = some us.length := by
  have s : Stop us [] := ⟨h.int, h.le, .inr fun w r' e => by cases e⟩
  have := s.a (by decide +kernel)
  rw [List.append_nil] at this
  exact this
theorem empty_bad (r : List Str) : rdErr ("" :: r) = some 0 := (show Stop [] ("" :: r) from ⟨fun u hu => (by cases hu), (by decide), .inr fun w r' e => (by cases e; exact isIntW_empty)⟩).a (by show isSign "" = false; decide +kernel)
theorem nine_bad (r : List Str) : rdErr ((["1", "1", "1", "1", "1", "1", "1", "1", "1"] : List Str) ++ r) = some 8 :=
  (show Stop ["1", "1", "1", "1", "1", "1", "1", "1"] ("1" :: r) from ⟨by decide +kernel, by decide, .inl rfl⟩).a (by show isSign "1" = false; decide +kernel)
end
section
variable {P : Program} {w : World} {K : PySem.W.Frag} {mg : Str → Option Value} {base : Heap}
def spWords : Sp := fun vs H Q _ => ∃ (p c l : Addr) (m : Nat) (ns : List Int) (b : Bool), vs = [.ref p, .ref l] ∧ Pen H p c m ∧ l ≠ p ∧ LS H l (ns.map numS ++ [signS b, "0"]) ∧ ns.length ≤ 8 ∧ (∀ n ∈ ns, n.natAbs < 10 ^ 60) ∧ m + 3 ≤ 2 ^ 20 ∧
  ∀ H', Pen H' p c (m + 3) → But p H H' → Q (.bl true) H'
theorem ok_words (T : Top K mg) : FnOk P w K mg base CX0 (10 + 1) T.a__law_words_right T.d__law_words_right ["_law_pen_here", "_law_words"] spWords := by
  have G__law_draw := (ok_draw (P := P) (w := w) (base := base) T).mono (k := 10) (by decide)
  have G__law_pick := (ok_pick (P := P) (w := w) (base := base) T).mono (k := 10) (by decide)
  have G__law_spot := ok_spot (P := P) (w := w) (base := base) T
  refine T.F__law_words_right.ok sc_law_words_right (fun vs H Q E h => ?_) (fun cdv A outer s H vs Q E hr h => ?_)
  · obtain ⟨p, c, l, m, ns, b, rfl, _⟩ := h
    rfl
  · obtain ⟨p, c, l, m, ns, b, rfl, hP, nlp, hl, h8, hn, hm, q⟩ := h
    refine ⟨_, (pss_cons (ps_par (i := 2) (j := 3) (by rfl) sc_law_words_right.nd rfl rfl (by decide) rfl rfl (pa_cons (pe_op op_sub (pe_callB call_len_seq (by rfl) T.z_len (by decide +kernel) (pa_cons (pv 1) pa_nil)) pe_int) (pa_cons (pe_op op_add_str pe_str (pe_op op_mulS pe_str pe_int)) pa_nil)) (by rfl))
  (pss_cons (ps_set (i := 4) sc_law_words_right.nd rfl (.inl rfl) (pe_call G__law_draw hr (by rfl) T.g__law_draw T.F__law_draw.kp T.b__law_draw .nil pass0 (pa_cons (pv 0) (pa_cons (pe_op op_add (pv 2) pe_int) pa_nil))))
  (pss_cons (ps_set (i := 5) sc_law_words_right.nd rfl (.inl rfl) (pe_lst (pa_cons pe_str (pa_cons pe_str (pa_cons pe_str (pa_cons pe_str (pa_cons pe_str (pa_cons pe_str (pa_cons pe_str (pa_cons pe_str (pa_cons pe_str (pa_cons (pe_op op_mulS pe_str pe_int) (pa_cons (pv 3) (pa_cons (pe_op op_add_str pe_str (pv 3)) pa_nil))))))))))))))
  (pss_cons (ps_set (i := 6) sc_law_words_right.nd rfl (.inl rfl) (pe_op op_cat (pe_op op_cat (pe_slice sl_list (pv 1) po_none (po_some (pv 4))) (pe_lst (pa_cons (pe_call G__law_pick hr (by rfl) T.g__law_pick T.F__law_pick.kp T.b__law_pick .nil pass0 (pa_cons (pv 0) (pa_cons (pv 5) pa_nil))) pa_nil))) (pe_slice sl_list (pv 1) (po_some (pe_op op_add (pv 4) pe_int)) po_none)))
  (pss_cons (ps_set (i := 7) sc_law_words_right.nd rfl (.inl rfl) (pe_op op_cat (pe_slice sl_list (pv 1) po_none (po_some (pe_un un_neg pe_int))) (pe_lst (pa_cons (pe_call G__law_pick hr (by rfl) T.g__law_pick T.F__law_pick.kp T.b__law_pick .nil pass0 (pa_cons (pv 0) (pa_cons (pe_lst (pa_cons pe_str (pa_cons pe_str (pa_cons pe_str (pa_cons pe_str (pa_cons pe_str (pa_cons pe_str pa_nil))))))) pa_nil))) pa_nil))))
  (pss_cons (ps_set (i := 8) sc_law_words_right.nd rfl (.inl rfl) (pe_lst (pa_cons (pe_tup (pa_cons (pv 6) (pa_cons (pv 4) pa_nil))) (pa_cons (pe_tup (pa_cons (pv 7) (pa_cons (pe_op op_add (pv 2) pe_int) pa_nil))) (pa_cons (pe_tup (pa_cons (pe_op op_cat (pv 1) (pe_lst (pa_cons pe_str pa_nil))) (pa_cons (pe_op op_add (pv 2) pe_int) pa_nil))) (pa_cons (pe_tup (pa_cons (pe_op op_cat (pv 1) (pe_lst (pa_cons pe_str pa_nil))) (pa_cons (pe_op op_add (pv 2) pe_int) pa_nil))) (pa_cons (pe_tup (pa_cons (pe_slice sl_list (pv 1) po_none (po_some (pe_un un_neg pe_int))) (pa_cons (pe_op op_add (pv 2) pe_int) pa_nil))) pa_nil)))))))
  (pss_cons (ps_set (i := 8) sc_law_words_right.nd rfl (.inl rfl) (pe_op op_cat (pv 8) (pe_lst (pa_cons (pe_ifExp (pt_cmpR op_gt (pv 2) pe_int (nomark _)) (pe_tup (pa_cons (pe_slice sl_list (pv 1) po_none (po_some (pe_un un_neg pe_int))) (pa_cons (pv 2) pa_nil))) (pe_tup (pa_cons (pe_lst (pa_cons pe_str pa_nil)) (pa_cons pe_int pa_nil)))) (pa_cons (pe_tup (pa_cons (pe_op op_cat (pe_op op_rep (pe_lst (pa_cons pe_str pa_nil)) pe_int) (pe_slice sl_list (pv 1) (po_some (pe_un un_neg pe_int)) po_none)) (pa_cons pe_int pa_nil))) (pa_cons (pe_tup (pa_cons (pe_op op_cat (pe_lst (pa_cons pe_str pa_nil)) (pv 1)) (pa_cons pe_int pa_nil))) pa_nil))))))
  (pss_one (ps_ret (pe_cmpR (op_eqD (Room.units hr)) (pe_lc (own := [("_law_one", 9), ("_law_spot_here", 10)]) (g := gTup K 2 (gCons (gName 9) (gCons (gName 10) (gNil)))) rfl sc_law_words_right.nd (pi_list (pv 8)) (blkOk_by (own := [("_law_one", 9), ("_law_spot_here", 10)]) (N := N_law_words_right) (sc := defScope s_law_words_right) (by decide +kernel)) (fun _ _ _ _ _ => (pg_tup (by rfl) (pgs_cons (pg_name (i := 9) sc_law_words_right.nd rfl (.inl rfl)) (pgs_cons (pg_name (i := 10) sc_law_words_right.nd rfl (.inl rfl)) pgs_nil)))) (fun _ _ _ _ _ => (pts_one (pt_cmpR (neD (K := K) (Room.units hr) rfl) (pe_call G__law_spot hr (by rfl) T.g__law_spot T.F__law_spot.kp T.b__law_spot .nil pass0 (pa_cons (pe_joinK (K := K) rfl pe_str (pv 9)) pa_nil)) (pe_tup (pa_cons pe_int (pa_cons (pv 10) pa_nil))) (nomark _)))) (fun _ _ _ _ _ => (pv 9))) (pe_lst pa_nil) (nomark _))))))))))), ?_⟩
    refine ⟨.ref l, rfl, l, _, rfl, .inl hl.seq, _, _, rfl, rfl, "0", 60, rfl, rfl, mul_0, "1", _, rfl, rfl, (by decide +kernel), _, _, rfl, ?_⟩
    have elen : (((ns.map numS ++ [signS b, "0"]).map V.str).length : Int) - 2 = (ns.length : Int) := by
      rw [List.length_map, List.length_append, List.length_map]
      show ((ns.length + 2 : Nat) : Int) - 2 = _
      omega
    have hwl : (ns.map numS ++ [signS b, "0"]).length = ns.length + 2 := by
      rw [List.length_append, List.length_map]
      rfl
    dsimp only
    rw [elen]
    refine ⟨.ref p, rfl, .int ns.length, rfl, _, _, rfl, rfl, p, c, _, m, rfl, hP, by omega, by omega, by omega, fun r H1 r0 r1 hP1 hB1 => ?_⟩
    obtain ⟨k, rfl⟩ := Int.eq_ofNat_of_zero_le r0
    have hk : k ≤ ns.length := by omega
    have hl1 := hl.but hB1 nlp
    -- odd
    refine ⟨"9", 61, rfl, rfl, mul_9, _, rfl, _, rfl, "-", _, rfl, rfl, (by decide +kernel), (by show 12 ≤ sizeLine; decide), fun l5 n5 => ?_⟩
    have n5p : l5 ≠ p := hP1.ne_none n5
    have s5 := same_new (o := .lst (odds.map V.str)) n5
    have h5 : LS (upd H1 l5 (.lst (odds.map V.str))) l5 odds := upd_same
    have hP2 := hP1.same s5
    have hl2 := hl1.same s5
    have hB2 := hB1.trans (.of_same s5)
    have e5 : HO.lst [V.str "", .str "+1", .str "01", .str "1.0", .str "a", .str "-", .str "-0", .str "=", .str "<", .str (Txt.mul "9" 61), .str ("1" ++ Txt.mul "0" 60), .str ("-" ++ ("1" ++ Txt.mul "0" 60))] = .lst (odds.map V.str) := rfl
    rw [e5]
    clear e5
    generalize upd H1 l5 (.lst (odds.map V.str)) = H2 at h5 hP2 hl2 hB2 ⊢
    clear s5 hl1 hP1 hB1 n5
    -- wrong
    refine ⟨.ref l, rfl, .int k, rfl, k, rfl, l, _, rfl, hl2.seq, fun c6 n6 => ?_⟩
    rw [cut_lt _ (by omega)]
    generalize hW : ns.map numS ++ [signS b, "0"] = W at hl hl2 hwl ⊢
    have sc := same_new (o := .lst ((W.take k).map V.str)) n6
    have hc6 : LS (upd H2 c6 (.lst ((W.take k).map V.str))) c6 (W.take k) := upd_same
    have c6p := hP2.ne_none n6
    have hP3 := hP2.same sc
    have hl3 := hl2.same sc
    have h53 := h5.same sc
    have hB3 := hB2.trans (.of_same sc)
    generalize upd H2 c6 (.lst ((W.take k).map V.str)) = H3 at hc6 hP3 hl3 h53 hB3 ⊢
    clear sc n6 hP2 hl2 h5 hB2
    refine ⟨.ref p, rfl, .ref l5, rfl, p, c, l5, m + 1, _, rfl, hP3, n5p, h53.seq, (by intro z; cases z), (by show 12 < 2 ^ 20; decide), by omega, fun x H4 mem hP4 hB4 => ?_⟩
    obtain ⟨o, ho, rfl⟩ := List.mem_map.mp mem
    have hl4 := hl3.but hB4 nlp
    have hc4 := hc6.but hB4 c6p
    have hB5 := hB3.trans hB4
    refine ⟨(by show 1 ≤ sizeLine; decide), fun l6 n6 => ?_⟩
    have hkt : (W.take k).length ≤ 20 := by rw [List.length_take]; omega
    refine ⟨c6, l6, (W.take k).map V.str, [o].map V.str, rfl, rfl, hc4.same (same_new n6), upd_same, fits (by show _ + 1 ≤ 1000; omega), fun c7 n7 => ?_⟩
    rw [app_str]
    have s7 := (same_new (o := .lst [.str o]) n6).trans (same_new (o := .lst ((W.take k ++ [o]).map V.str)) n7)
    have h7 : LS (upd (upd H4 l6 (.lst [.str o])) c7 (.lst ((W.take k ++ [o]).map V.str))) c7 (W.take k ++ [o]) := upd_same
    have hP5 := hP4.same s7
    have hl5 := hl4.same s7
    have hB6 := hB5.trans (.of_same s7)
    generalize upd (upd H4 l6 (.lst [.str o])) c7 (.lst ((W.take k ++ [o]).map V.str)) = H5 at h7 hP5 hl5 hB6 ⊢
    clear s7 n7 n6 hl4 hc4 hB5 hP4 hB4 hB3 h53 hl3 hP3 c6p hc6 mem
    refine ⟨.ref l, rfl, .int k, rfl, k, 1, rfl, rfl, ((k + 1 : Nat) : Int), rfl, l, _, rfl, hl5.seq, fun c8 n8 => ?_⟩
    rw [cut_ge _ (by omega)]
    have hkd : (W.drop (k + 1)).length ≤ 20 := by rw [List.length_drop]; omega
    refine ⟨c7, c8, (W.take k ++ [o]).map V.str, (W.drop (k + 1)).map V.str, rfl, rfl, h7.same (same_new n8), upd_same, fits (by rw [List.length_append]; show _ + 1 + _ ≤ 1000; omega), fun c9 n9 => ?_⟩
    rw [app_str]
    have s9 := (same_new (o := .lst ((W.drop (k + 1)).map V.str)) n8).trans (same_new (o := .lst ((W.take k ++ [o] ++ W.drop (k + 1)).map V.str)) n9)
    have h9 : LS (upd (upd H5 c8 (.lst ((W.drop (k + 1)).map V.str))) c9 (.lst ((W.take k ++ [o] ++ W.drop (k + 1)).map V.str))) c9 (W.take k ++ [o] ++ W.drop (k + 1)) := upd_same
    have hP6 := hP5.same s9
    have hl6 := hl5.same s9
    have hB7 := hB6.trans (.of_same s9)
    have c9p := (hP5.same (same_new (o := .lst ((W.drop (k + 1)).map V.str)) n8)).ne_none n9
    generalize upd (upd H5 c8 (.lst ((W.drop (k + 1)).map V.str))) c9 (.lst ((W.take k ++ [o] ++ W.drop (k + 1)).map V.str)) = H6 at h9 hP6 hl6 hB7 ⊢
    clear s9 n9 n8 h7 hP5 hl5 hB6
    -- last
    have hbent : Bent (ns.map numS) (signS b) := ⟨by rw [List.length_map]; exact h8, fun u hu => by
      obtain ⟨n, hm', rfl⟩ := List.mem_map.mp hu
      exact isIntW_num (hn n hm'), fun u hu => by
      obtain ⟨n, hm', rfl⟩ := List.mem_map.mp hu
      exact word_num (hn n hm'), sign_ok b⟩
    have e1 : cutV (W.map V.str) none (some (-1)) = (ns.map numS ++ [signS b]).map V.str := by
      rw [show cutV (W.map V.str) none (some (-1)) = (W.take (W.length - 1)).map V.str from cut_ltN W (k := 1) (by decide) (by omega), ← hW, tk1]
    have e2 : cutV (W.map V.str) none (some (-2)) = (ns.map numS).map V.str := by
      rw [show cutV (W.map V.str) none (some (-2)) = (W.take (W.length - 2)).map V.str from cut_ltN W (k := 2) (by decide) (by omega), ← hW, tk2]
    have e3 : cutV (W.map V.str) (some (-2)) none = ([signS b, "0"] : List Str).map V.str := by
      rw [show cutV (W.map V.str) (some (-2)) none = (W.drop (W.length - 2)).map V.str from cut_geN W (k := 2) (by decide) (by omega), ← hW, dr2]
    have hu1 : (ns.map numS ++ [signS b]).length ≤ 20 := by
      rw [List.length_append, List.length_map]
      show ns.length + 1 ≤ 20
      omega
    refine ⟨.ref l, rfl, 1, rfl, -1, rfl, l, _, rfl, hl6.seq, fun c10 n10 => ?_⟩
    rw [e1]
    have s10 := same_new (o := .lst ((ns.map numS ++ [signS b]).map V.str)) n10
    have h10 : LS (upd H6 c10 (.lst ((ns.map numS ++ [signS b]).map V.str))) c10 (ns.map numS ++ [signS b]) := upd_same
    have c10p := hP6.ne_none n10
    have hP7 := hP6.same s10
    have hl7 := hl6.same s10
    have hB8 := hB7.trans (.of_same s10)
    have h97 := h9.same s10
    generalize upd H6 c10 (.lst ((ns.map numS ++ [signS b]).map V.str)) = H7 at h10 hP7 hl7 hB8 h97 ⊢
    clear s10 n10 h9 hP6 hl6 hB7
    refine ⟨.ref p, rfl, (by show 6 ≤ sizeLine; decide), fun l11 n11 => ?_⟩
    have s11 := same_new (o := .lst (lasts.map V.str)) n11
    refine ⟨p, c, l11, m + 2, lasts.map V.str, rfl, hP7.same s11, hP7.ne_none n11, .of upd_same, (by intro z; cases z), (by show 6 < 2 ^ 20; decide), by omega, fun x H8 mem hP8 hB8' => ?_⟩
    obtain ⟨o2, ho2, rfl⟩ := List.mem_map.mp mem
    have hl8 := (hl7.same s11).but hB8' nlp
    have h98 := (h97.same s11).but hB8' c9p
    have h108 := (h10.same s11).but hB8' c10p
    have hB9 := (hB8.trans (.of_same s11)).trans hB8'
    clear hB8' s11 n11 h97 hB8 hl7 hP7 h10 mem
    refine ⟨(by show 1 ≤ sizeLine; decide), fun l12 n12 => ?_⟩
    refine ⟨c10, l12, (ns.map numS ++ [signS b]).map V.str, [o2].map V.str, rfl, rfl, h108.same (same_new n12), upd_same, fits (by show _ + 1 ≤ 1000; omega), fun c13 n13 => ?_⟩
    rw [app_str]
    have s13 := (same_new (o := .lst [V.str o2]) n12).trans (same_new (o := .lst ((ns.map numS ++ [signS b] ++ [o2]).map V.str)) n13)
    have h13 : LS (upd (upd H8 l12 (.lst [V.str o2])) c13 (.lst ((ns.map numS ++ [signS b] ++ [o2]).map V.str))) c13 (ns.map numS ++ [signS b] ++ [o2]) := upd_same
    have h99 := h98.same s13
    have bd : Bd H p c (m + 3) l W [] (upd (upd H8 l12 (.lst [V.str o2])) c13 (.lst ((ns.map numS ++ [signS b] ++ [o2]).map V.str))) := ⟨hP8.same s13, hB9.trans (.of_same s13), hl8.same s13, fun x hx => by cases hx⟩
    generalize upd (upd H8 l12 (.lst [V.str o2])) c13 (.lst ((ns.map numS ++ [signS b] ++ [o2]).map V.str)) = H9 at h13 h99 bd ⊢
    clear s13 n13 n12 hB9 h108 h98 hl8 hP8 c10p c9p e1
    have hm' : (ns.map numS).length = ns.length := List.length_map ..
    have hWw : ∀ v ∈ W, Word v := hW ▸ hbent.words
    have size2 : 2 ≤ sizeLine := by decide
    -- (wrong, at)
    refine ⟨.ref c9, rfl, .int k, rfl, size2, fun t1 nt1 => ?_⟩
    have it1 : It (upd H9 t1 (.tup [.ref c9, .int k])) (.ref t1) := It.mk (k := k) nt1 h99 (by simp) (by rw [List.length_append, List.length_append, List.length_take, List.length_drop]; show _ + 1 + _ ≤ 20; omega) (fun v hv => by
      rcases List.mem_append.mp hv with hv | hv
      · rcases List.mem_append.mp hv with hv | hv
        · exact hWw v (List.mem_of_mem_take hv)
        · rw [List.mem_singleton.mp hv]
          exact (odds_ok o ho).2.2
      · exact hWw v (List.mem_of_mem_drop hv)) (by
      rw [← hW]
      exact hbent.wrong (by rw [hm']; exact hk) ho)
    have st1 := same_new (o := .tup [.ref c9, .int k]) nt1
    have bd1 := bd.add st1 it1
    have h131 := h13.same st1
    generalize upd H9 t1 (.tup [.ref c9, .int k]) = G1 at bd1 h131 ⊢
    clear st1 it1 nt1 h13 h99 bd
    -- (last, many + 1)
    refine ⟨.ref c13, rfl, .int ns.length, rfl, _, _, rfl, rfl, size2, fun t2 nt2 => ?_⟩
    have it2 : It (upd G1 t2 (.tup [.ref c13, .int ((ns.length : Int) + 1)])) (.ref t2) := It.mk (k := ns.length + 1) nt2 h131 (by simp) (by rw [List.length_append]; show _ + 1 ≤ 20; rw [List.length_append, hm']; show ns.length + 1 + 1 ≤ 20; omega) (fun v hv => by
      rcases List.mem_append.mp hv with hv | hv
      · rcases List.mem_append.mp hv with hv | hv
        · exact hbent.wd v hv
        · rw [List.mem_singleton.mp hv]
          exact (sign_ok b).2.2
      · rw [List.mem_singleton.mp hv]
        exact (lasts_ok o2 ho2).2) (by
      have := hbent.last ho2
      rw [hm'] at this
      exact this)
    have st2 := same_new (o := .tup [.ref c13, .int ((ns.length : Int) + 1)]) nt2
    have bd2 := bd1.add st2 it2
    dsimp only
    generalize upd G1 t2 (.tup [.ref c13, .int ((ns.length : Int) + 1)]) = G2 at bd2 ⊢
    clear st2 it2 nt2 h131 bd1
    -- (words + ["0"], many + 2)
    refine ⟨.ref l, rfl, (by show 1 ≤ sizeLine; decide), fun a3 na3 => ?_⟩
    refine ⟨l, a3, W.map V.str, ([("0" : Str)]).map V.str, rfl, rfl, bd2.lst.same (same_new na3), upd_same, fits (by show _ + 1 ≤ 1000; omega), fun b3 nb3 => ?_⟩
    rw [app_str]
    refine ⟨.int ns.length, rfl, _, _, rfl, rfl, size2, fun t3 nt3 => ?_⟩
    have st3 := (same_new (o := .lst [V.str "0"]) na3).trans (same_new (o := .lst ((W ++ [("0" : Str)]).map V.str)) nb3)
    have it3 : It (upd (upd (upd G2 a3 (.lst [V.str "0"])) b3 (.lst ((W ++ [("0" : Str)]).map V.str))) t3 (.tup [.ref b3, .int ((ns.length : Int) + 2)])) (.ref t3) := It.mk (k := ns.length + 2) nt3 upd_same (by simp) (by rw [List.length_append]; show _ + 1 ≤ 20; omega) (fun v hv => by
      rcases List.mem_append.mp hv with hv | hv
      · exact hWw v hv
      · rw [List.mem_singleton.mp hv]
        exact word0) (by
      have := hbent.more (o := "0")
      rw [hm', hW] at this
      exact this)
    have bd3 := bd2.add (st3.trans (same_new nt3)) it3
    dsimp only
    generalize upd (upd (upd G2 a3 (.lst [V.str "0"])) b3 (.lst ((W ++ [("0" : Str)]).map V.str))) t3 (.tup [.ref b3, .int ((ns.length : Int) + 2)]) = G3 at bd3 ⊢
    clear st3 it3 nt3 nb3 na3 bd2
    -- (words + [""], many + 2)
    refine ⟨.ref l, rfl, (by show 1 ≤ sizeLine; decide), fun a4 na4 => ?_⟩
    refine ⟨l, a4, W.map V.str, ([("" : Str)]).map V.str, rfl, rfl, bd3.lst.same (same_new na4), upd_same, fits (by show _ + 1 ≤ 1000; omega), fun b4 nb4 => ?_⟩
    rw [app_str]
    refine ⟨.int ns.length, rfl, _, _, rfl, rfl, size2, fun t4 nt4 => ?_⟩
    have st4 := (same_new (o := .lst [V.str ""]) na4).trans (same_new (o := .lst ((W ++ [("" : Str)]).map V.str)) nb4)
    have it4 : It (upd (upd (upd G3 a4 (.lst [V.str ""])) b4 (.lst ((W ++ [("" : Str)]).map V.str))) t4 (.tup [.ref b4, .int ((ns.length : Int) + 2)])) (.ref t4) := It.mk (k := ns.length + 2) nt4 upd_same (by simp) (by rw [List.length_append]; show _ + 1 ≤ 20; omega) (fun v hv => by
      rcases List.mem_append.mp hv with hv | hv
      · exact hWw v hv
      · rw [List.mem_singleton.mp hv]
        exact wordE) (by
      have := hbent.more (o := "")
      rw [hm', hW] at this
      exact this)
    have bd4 := bd3.add (st4.trans (same_new nt4)) it4
    dsimp only
    generalize upd (upd (upd G3 a4 (.lst [V.str ""])) b4 (.lst ((W ++ [("" : Str)]).map V.str))) t4 (.tup [.ref b4, .int ((ns.length : Int) + 2)]) = G4 at bd4 ⊢
    clear st4 it4 nt4 nb4 na4 bd3
    -- (words[:-1], many + 1)
    have e1 : cutV (W.map V.str) none (some (-1)) = (ns.map numS ++ [signS b]).map V.str := by
      rw [show cutV (W.map V.str) none (some (-1)) = (W.take (W.length - 1)).map V.str from cut_ltN W (k := 1) (by decide) (by omega), ← hW, tk1]
    refine ⟨.ref l, rfl, 1, rfl, -1, rfl, l, _, rfl, bd4.lst.seq, fun b5 nb5 => ?_⟩
    rw [e1]
    refine ⟨.int ns.length, rfl, _, _, rfl, rfl, size2, fun t5 nt5 => ?_⟩
    have it5 : It (upd (upd G4 b5 (.lst ((ns.map numS ++ [signS b]).map V.str))) t5 (.tup [.ref b5, .int ((ns.length : Int) + 1)])) (.ref t5) := It.mk (k := ns.length + 1) nt5 upd_same (by simp) hu1 (fun v hv => by
      rcases List.mem_append.mp hv with hv | hv
      · exact hbent.wd v hv
      · rw [List.mem_singleton.mp hv]
        exact (sign_ok b).2.2) (by
      have := hbent.less
      rw [hm'] at this
      exact this)
    have bd5 := bd4.add ((same_new nb5).trans (same_new nt5)) it5
    dsimp only
    generalize upd (upd G4 b5 (.lst ((ns.map numS ++ [signS b]).map V.str))) t5 (.tup [.ref b5, .int ((ns.length : Int) + 1)]) = G5 at bd5 ⊢
    clear it5 nt5 nb5 bd4
    -- the list of these
    refine ⟨(by show 5 ≤ sizeLine; decide), fun s5 ns5 => ?_⟩
    have hs5 : upd G5 s5 (.lst [V.ref t1, .ref t2, .ref t3, .ref t4, .ref t5]) s5 = some (.lst [V.ref t1, .ref t2, .ref t3, .ref t4, .ref t5]) := upd_same
    have bd6 := bd5.same (same_new (o := .lst [V.ref t1, .ref t2, .ref t3, .ref t4, .ref t5]) ns5)
    generalize upd G5 s5 (.lst [V.ref t1, .ref t2, .ref t3, .ref t4, .ref t5]) = G6 at hs5 bd6 ⊢
    clear bd5 ns5
    refine ⟨.ref s5, rfl, .int ns.length, rfl, _, _, rfl, rfl, _, rfl, ite2 (fun e => ?pos) (fun e => ?nul)⟩
    case' pos =>
      refine ⟨.ref l, rfl, 2, rfl, -2, rfl, l, _, rfl, bd6.lst.seq, fun b6 nb6 => ?_⟩
      rw [e2]
      refine ⟨.int ns.length, rfl, size2, fun t6 nt6 => ?_⟩
      have hs6 := ((same_new (o := .lst ((ns.map numS).map V.str)) nb6).trans (same_new (o := .tup [.ref b6, .int (ns.length : Int)]) nt6)) _ _ hs5
      have bd7 := bd6.add ((same_new (o := .lst ((ns.map numS).map V.str)) nb6).trans (same_new nt6)) (It.mk (k := ns.length) nt6 upd_same (by
        intro z
        have := congrArg List.length z
        rw [hm', List.length_nil] at this
        have h0 := of_decide_eq_true e
        omega) (by omega) hbent.wd (by
        have := hbent.less2
        rw [hm'] at this
        exact this))
      generalize upd (upd G6 b6 (.lst ((ns.map numS).map V.str))) t6 (.tup [.ref b6, .int (ns.length : Int)]) = G7 at hs6 bd7 ⊢
      clear nt6 nb6
    case' nul =>
      refine ⟨(by show 1 ≤ sizeLine; decide), fun b6 nb6 => ?_⟩
      refine ⟨size2, fun t6 nt6 => ?_⟩
      have hs6 := ((same_new (o := .lst [V.str ""]) nb6).trans (same_new (o := .tup [.ref b6, .int 0]) nt6)) _ _ hs5
      have bd7 := bd6.add ((same_new (o := .lst [V.str ""]) nb6).trans (same_new nt6)) (It.mk (k := 0) (ws := [""]) nt6 upd_same (by simp) (by decide) (fun v hv => by rw [List.mem_singleton.mp hv]; exact wordE) (empty_bad []))
      have bd7 : Bd H p c (m + 3) l W ([] ++ [V.ref t1] ++ [V.ref t2] ++ [V.ref t3] ++ [V.ref t4] ++ [V.ref t5] ++ [V.ref t6]) (upd (upd G6 b6 (.lst [V.str ""])) t6 (.tup [.ref b6, .int 0])) := bd7
      generalize upd (upd G6 b6 (.lst [V.str ""])) t6 (.tup [.ref b6, .int 0]) = G7 at hs6 bd7 ⊢
      clear nt6 nb6
    all_goals
      clear hs5 bd6 e
      -- (["1"] * 9 + words[-2:], 8)
      refine ⟨(by show 1 ≤ sizeLine; decide), fun a7 na7 => ?_⟩
      refine ⟨a7, 9, [V.str "1"], rfl, rfl, upd_same, by decide, by decide, (by show 9 ≤ sizeLine; decide), fun d7 nd7 => ?_⟩
      have s71 := (same_new (o := .lst [V.str "1"]) na7).trans (same_new (o := .lst (List.replicate (9 : Int).toNat [V.str "1"]).flatten) nd7)
      refine ⟨.ref l, rfl, 2, rfl, -2, rfl, l, _, rfl, (bd7.lst.same s71).seq, fun f7 nf7 => ?_⟩
      rw [e3]
      refine ⟨d7, f7, (["1", "1", "1", "1", "1", "1", "1", "1", "1"] : List Str).map V.str, ([signS b, "0"] : List Str).map V.str, rfl, rfl, (same_new nf7) _ _ upd_same, upd_same, fits (by show 9 + 2 ≤ 1000; decide), fun g7 ng7 => ?_⟩
      rw [app_str]
      refine ⟨size2, fun t7 nt7 => ?_⟩
      have s72 := (s71.trans (same_new (o := .lst (([signS b, "0"] : List Str).map V.str)) nf7)).trans (same_new (o := .lst (((["1", "1", "1", "1", "1", "1", "1", "1", "1"] : List Str) ++ [signS b, "0"]).map V.str)) ng7)
      have s73 := s72.trans (same_new (o := .tup [.ref g7, .int 8]) nt7)
      have bd8 := bd7.add s73 (It.mk (k := 8) nt7 upd_same (by simp) (by show 11 ≤ 20; decide) (fun v hv => by
        rcases List.mem_append.mp hv with hv | hv
        · simp only [List.mem_cons, List.not_mem_nil, or_false, or_self] at hv
          rw [hv]
          exact word1
        · simp only [List.mem_cons, List.not_mem_nil, or_false] at hv
          rcases hv with rfl | rfl
          · exact (sign_ok b).2.2
          · exact word0) (nine_bad _))
      have hs7 := s73 _ _ hs6
      have bd8 : Bd H p c (m + 3) l W ([] ++ [V.ref t1] ++ [V.ref t2] ++ [V.ref t3] ++ [V.ref t4] ++ [V.ref t5] ++ [V.ref t6] ++ [V.ref t7]) (upd (upd (upd (upd (upd G7 a7 (.lst [V.str "1"])) d7 (.lst (List.replicate (9 : Int).toNat [V.str "1"]).flatten)) f7 (.lst (([signS b, "0"] : List Str).map V.str))) g7 (.lst (((["1", "1", "1", "1", "1", "1", "1", "1", "1"] : List Str) ++ [signS b, "0"]).map V.str))) t7 (.tup [.ref g7, .int 8])) := bd8
      generalize upd (upd (upd (upd (upd G7 a7 (.lst [V.str "1"])) d7 (.lst (List.replicate (9 : Int).toNat [V.str "1"]).flatten)) f7 (.lst (([signS b, "0"] : List Str).map V.str))) g7 (.lst (((["1", "1", "1", "1", "1", "1", "1", "1", "1"] : List Str) ++ [signS b, "0"]).map V.str))) t7 (.tup [.ref g7, .int 8]) = G8 at hs7 bd8 ⊢
      clear s73 s72 nt7 ng7 nf7 s71 nd7 na7 bd7 hs6
      -- ([""] + words, 0)
      refine ⟨(by show 1 ≤ sizeLine; decide), fun a8 na8 => ?_⟩
      refine ⟨.ref l, rfl, a8, l, ([("" : Str)]).map V.str, W.map V.str, rfl, rfl, upd_same, bd8.lst.same (same_new na8), fits (by show 1 + _ ≤ 1000; omega), fun b8 nb8 => ?_⟩
      rw [app_str]
      refine ⟨size2, fun t8 nt8 => ?_⟩
      have s81 := ((same_new (o := .lst [V.str ""]) na8).trans (same_new (o := .lst (([("" : Str)] ++ W).map V.str)) nb8)).trans (same_new (o := .tup [.ref b8, .int 0]) nt8)
      have bd9 := bd8.add s81 (It.mk (k := 0) (ws := [("" : Str)] ++ W) nt8 upd_same (by simp) (by rw [List.length_append]; show 1 + _ ≤ 20; omega) (fun v hv => by
        rcases List.mem_append.mp hv with hv | hv
        · rw [List.mem_singleton.mp hv]
          exact wordE
        · exact hWw v hv) (empty_bad W))
      have hs8 := s81 _ _ hs7
      have bd9 : Bd H p c (m + 3) l W ([] ++ [V.ref t1] ++ [V.ref t2] ++ [V.ref t3] ++ [V.ref t4] ++ [V.ref t5] ++ [V.ref t6] ++ [V.ref t7] ++ [V.ref t8]) (upd (upd (upd G8 a8 (.lst [V.str ""])) b8 (.lst (([("" : Str)] ++ W).map V.str))) t8 (.tup [.ref b8, .int 0])) := bd9
      generalize upd (upd (upd G8 a8 (.lst [V.str ""])) b8 (.lst (([("" : Str)] ++ W).map V.str))) t8 (.tup [.ref b8, .int 0]) = G9 at hs8 bd9 ⊢
      clear s81 nt8 nb8 na8 bd8 hs7
      refine ⟨(by show 3 ≤ sizeLine; decide), fun s6 ns6 => ?_⟩
      refine ⟨s5, s6, _, _, rfl, rfl, (same_new ns6) _ _ hs8, upd_same, (by show 5 + 3 ≤ sizeLine; decide), fun s7 ns7 => ?_⟩
      have s91 := (same_new (o := .lst [V.ref t6, .ref t7, .ref t8]) ns6).trans (same_new (o := .lst ([V.ref t1, .ref t2, .ref t3, .ref t4, .ref t5] ++ [V.ref t6, .ref t7, .ref t8])) ns7)
      have bd10 := bd9.same s91
      have hall : ∀ x ∈ [V.ref t1, .ref t2, .ref t3, .ref t4, .ref t5] ++ [V.ref t6, .ref t7, .ref t8], It (upd (upd G9 s6 (.lst [V.ref t6, .ref t7, .ref t8])) s7 (.lst ([V.ref t1, .ref t2, .ref t3, .ref t4, .ref t5] ++ [V.ref t6, .ref t7, .ref t8]))) x := fun x hx => bd10.its x hx
      have hs9 : SqL K (upd (upd G9 s6 (.lst [V.ref t6, .ref t7, .ref t8])) s7 (.lst ([V.ref t1, .ref t2, .ref t3, .ref t4, .ref t5] ++ [V.ref t6, .ref t7, .ref t8]))) s7 ([V.ref t1, .ref t2, .ref t3, .ref t4, .ref t5] ++ [V.ref t6, .ref t7, .ref t8]) := .of upd_same
      have hP9 := bd10.pen
      have hB9 := bd10.but
      have h8' : ([V.ref t1, .ref t2, .ref t3, .ref t4, .ref t5] ++ [V.ref t6, .ref t7, .ref t8]).length ≤ 1000 := by show 8 ≤ 1000; decide
      clear bd10 s91 bd9 hs8
      generalize upd (upd G9 s6 (.lst [V.ref t6, .ref t7, .ref t8])) s7 (.lst ([V.ref t1, .ref t2, .ref t3, .ref t4, .ref t5] ++ [V.ref t6, .ref t7, .ref t8])) = G10 at hall hs9 hP9 hB9 ⊢
      generalize [V.ref t1, .ref t2, .ref t3, .ref t4, .ref t5] ++ [V.ref t6, .ref t7, .ref t8] = things at hall hs9 h8' ⊢
      clear ns7 ns6
      -- all of them are refused where they should be
      refine ⟨.ref s7, rfl, s7, rfl, ⟨_, hs9⟩, fun D nD => ?_⟩
      refine lc_it (walk_list (K := K) (a := s7) (xs := things)) (AccP D fun i acc H' => acc = [] ∧ Same G10 H') (.zero ⟨rfl, same_new nD⟩) (fun i H' _ ⟨_, _, _, _, z⟩ => same_seqL' z hs9) (fun i x H' H'' hi ⟨acc, e1, l1, eacc, z⟩ y => ?_) (fun H' ⟨acc, e1, _, eacc, z⟩ => ?_)
      · obtain ⟨rfl, hx⟩ := y
        obtain ⟨t, a, ws, kk, rfl, ht, ha, hne, hlen, hwd, herr⟩ := (hall x (List.mem_of_getElem? hx)).same z
        refine ⟨t, _, rfl, .of ht, rfl, _, _, rfl, _, _, rfl, rfl, ?_⟩
        have hjl := join_len hwd hlen
        refine ⟨rfl, ⟨" ", rfl⟩, .ref a, rfl, " ", a, ws, rfl, rfl, .inl ha.seq, join_fits (fun v hv => Nat.le_trans (hwd v hv).1 (by decide)) (by omega), ?_⟩
        refine ⟨.str (Txt.join " " ws), kk, rfl, .inr ⟨_, ws, rfl, (by rw [sizeLine_eq]; omega), split_back hwd hne, by omega, fun v hv => Nat.le_trans (hwd v hv).1 (by decide), herr⟩, fun p2 H3 s3 n3 e3' => ?_⟩
        refine ⟨.int kk, rfl, size2, fun t2' nt2' => ?_⟩
        refine ⟨.tuple ([0, (kk : Int)].map .int), .tuple ([0, (kk : Int)].map .int), .tup (.of ((same_new nt2') _ _ e3')) (dp_ints [0, (kk : Int)]), .tup (.of upd_same) (dp_ints [0, (kk : Int)]), shapedT _, shapedT _, ?_⟩
        rw [eqv_tI, decide_eq_true rfl]
        refine ⟨_, rfl, ite2 (fun e => by cases e) (fun _ => ?_)⟩
        exact AccP.skip ((s3.trans (same_new nt2')) _ _ e1) l1 ⟨eacc, z.trans (s3.trans (same_new nt2'))⟩
      · subst eacc
        refine ⟨Nat.zero_le _, fun o9 no9 => ?_⟩
        refine ⟨.list [], .list [], .lst (.of ((same_new no9) _ _ e1)) .nil, .lst (.of upd_same) .nil, rfl, rfl, ?_⟩
        rw [show PyData.eqv (.list []) (.list []) = true from (eqv_lI [] []).trans rfl]
        exact q _ (hP9.same (z.trans (same_new no9))) (hB9.trans (.of_same (z.trans (same_new no9))))
end

theorem ne_self {x : V} (e : (!decide (x = x)) = true) : False := by simp at e
theorem if_sign {b : Bool} {σ : L2.St} {H : Hp} {Q : V → Hp → Prop} (h : Q (.str (signS b)) H) : if b = true then tC (.str ">") σ H Q else tC (.str ">=") σ H Q := by cases b <;> exact h
/-- what is no text, and stands elsewhere than the pen -/
def NoStr {K : PySem.W.Frag} {mg : Str → Option Value} (T : Top K mg) (p : Addr) (H : Hp) (x : V) : Prop := ((∃ k, k ≠ Ki.str ∧ IsKi H x k) ∨ ∃ a dx fs, x = .ref a ∧ H a = some (.ins T.C_Bound dx fs)) ∧ x ≠ .ref p
theorem NoStr.same {K : PySem.W.Frag} {mg : Str → Option Value} {T : Top K mg} {p : Addr} {H H' : Hp} {x : V} (s : Same H H') (h : NoStr T p H x) : NoStr T p H' x := by
  obtain ⟨h, n⟩ := h
  refine ⟨?_, n⟩
  rcases h with ⟨k, nk, hk⟩ | ⟨a, dx, fs, e, ha⟩
  · exact .inl ⟨k, nk, hk.same s⟩
  · exact .inr ⟨a, dx, fs, e, s _ _ ha⟩
theorem NoStr.but {K : PySem.W.Frag} {mg : Str → Option Value} {T : Top K mg} {p : Addr} {H H' : Hp} {x : V} (b : But p H H') (h : NoStr T p H x) : NoStr T p H' x := by
  obtain ⟨h, n⟩ := h
  refine ⟨?_, n⟩
  rcases h with ⟨k, nk, hk⟩ | ⟨a, dx, fs, rfl, ha⟩
  · refine .inl ⟨k, nk, ?_⟩
    cases k with
    | lst =>
      obtain ⟨a, xs, rfl, ha⟩ := hk
      exact ⟨a, xs, rfl, b _ _ (fun z => n (z ▸ rfl)) ha⟩
    | dct =>
      obtain ⟨a, xs, rfl, ha⟩ := hk
      exact ⟨a, xs, rfl, b _ _ (fun z => n (z ▸ rfl)) ha⟩
    | tup =>
      obtain ⟨a, xs, rfl, ha⟩ := hk
      exact ⟨a, xs, rfl, b _ _ (fun z => n (z ▸ rfl)) ha⟩
    | non => exact hk
    | bl => exact hk
    | int => exact hk
    | str => exact hk
  · exact .inr ⟨a, dx, fs, rfl, b _ _ (fun z => n (z ▸ rfl)) ha⟩
theorem NoStr.bad {K : PySem.W.Frag} {mg : Str → Option Value} {T : Top K mg} {p : Addr} {H : Hp} {x : V} (h : NoStr T p H x) : Bad K H x 0 := by
  rcases h.1 with ⟨k, nk, hk⟩ | ⟨a, dx, fs, rfl, ha⟩
  · refine .inl ⟨rfl, _, hk.ty, ?_⟩
    have := ki_kit (K := K) k .str
    have e : k.below .str = false := by cases k <;> first | rfl | exact absurd rfl nk
    rw [e] at this
    exact this
  · exact .inl ⟨rfl, _, ty_bound T ha, T.ks_Bound⟩
section
variable {P : Program} {w : World} {K : PySem.W.Frag} {mg : Str → Option Value} {base : Heap}
def spLaw (K : PySem.W.Frag) : Sp := fun vs H Q _ => ∃ (a : Addr) (ns : List Int), vs = [.ref a] ∧ SqL K H a (ns.map V.int) ∧ ns.length ≤ 63 ∧ ∀ H', Q (.bl true) H'
theorem ok_law (T : Top K mg) : GOk P w K mg base (11 + 1) T.a_law T.d_law ["_law_script"] (spLaw K) := by
  have G__law_pen := (ok_pen (P := P) (w := w) (base := base) T).mono (k := 11) (by decide)
  have G__law_draw := (ok_draw (P := P) (w := w) (base := base) T).mono (k := 11) (by decide)
  have G__law_pick := (ok_pick (P := P) (w := w) (base := base) T).mono (k := 11) (by decide)
  have G__law_factor := (ok_factor (P := P) (w := w) (base := base) T).mono (k := 11) (by decide)
  have G__law_spot := (ok_spot (P := P) (w := w) (base := base) T).mono (k := 11) (by decide)
  have G__law_words_right := ok_words (P := P) (w := w) (base := base) T
  have G_Bound___init__ := (ok_init (P := P) (w := w) (base := base) T).mono (k := 10) (by decide)
  have G_Bound___str__ := (ok_str (P := P) (w := w) (base := base) T).mono (k := 9) (by decide)
  have G_Bound___eq__ := (ok_eq (P := P) (w := w) (base := base) T).mono (k := 10) (by decide)
  have G_Bound_read := (ok_read (P := P) (w := w) (base := base) T).mono (k := 11) (by decide)
  refine gok T.F_law sclaw (fun vs H Q E h => ?_) (fun cdv A outer s H vs Q E hg hr h => ?_)
  · obtain ⟨a, ns, rfl, _⟩ := h
    rfl
  · obtain ⟨a, ns, rfl, hS, hl, q⟩ := h
    refine ⟨_, (pss_cons (ps_set (i := 1) sclaw.nd rfl (.inr rfl) (pe_call G__law_pen hr (by rfl) T.g__law_pen T.F__law_pen.kp T.b__law_pen .nil pass0 (pa_cons (pv 0) pa_nil)))
  (pss_cons (ps_for PassesOwn.never rfl (pi_range1 (by rfl) T.z_range (pa_cons pe_int pa_nil)) (pg_name (i := 2) sclaw.nd rfl (.inl rfl))
    (pss_cons (ps_set (i := 3) sclaw.nd rfl (.inl rfl) (pe_call G__law_draw hr (by rfl) T.g__law_draw T.F__law_draw.kp T.b__law_draw .nil pass0 (pa_cons (pv 1) (pa_cons pe_int pa_nil))))
  (pss_cons (ps_set (i := 4) sclaw.nd rfl (.inl rfl) (pe_callTy call_tuple_of (by rfl) T.z_tuple (by decide +kernel) (pa_cons (pe_lc (own := [("_law_k", 8)]) (g := gName 8) rfl sclaw.nd (pi_range1 (by rfl) T.z_range (pa_cons (pv 3) pa_nil)) (blkOk_by (own := [("_law_k", 8)]) (N := Nlaw) (sc := defScope slaw) (by decide +kernel)) (fun _ _ _ _ _ => (pg_name (i := 8) sclaw.nd rfl (.inl rfl))) (fun _ _ _ _ _ => pts_nil) (fun _ _ _ _ _ => (pe_call G__law_pick hr (by rfl) T.g__law_pick T.F__law_pick.kp T.b__law_pick .nil pass0 (pa_cons (pv 1) (pa_cons (pe_lst (pa_cons (pe_call G__law_factor hr (by rfl) T.g__law_factor T.F__law_factor.kp T.b__law_factor .nil pass0 (pa_cons (pv 1) pa_nil)) (pa_cons (pe_op op_sub (pe_op op_pow pe_int pe_int) pe_int) (pa_cons (pe_un un_neg (pe_op op_pow pe_int pe_int)) pa_nil)))) pa_nil))))) pa_nil)))
  (pss_cons (ps_set (i := 5) sclaw.nd rfl (.inl rfl) (pe_make T.mk_Bound G_Bound___init__ hr rfl T.g_Bound T.b_Bound___init__ .nil pass0 (pa_cons (pv 4) (pa_cons (pe_call G__law_pick hr (by rfl) T.g__law_pick T.F__law_pick.kp T.b__law_pick .nil pass0 (pa_cons (pv 1) (pa_cons (pe_lst (pa_cons pe_bl (pa_cons pe_bl pa_nil))) pa_nil))) pa_nil))))
  (pss_cons (ps_set (i := 6) sclaw.nd rfl (.inl rfl) (pe_op op_cat (pe_lc (own := [("_law_factor_here", 9)]) (g := gName 9) rfl sclaw.nd (pi_tup (pv 4)) (blkOk_by (own := [("_law_factor_here", 9)]) (N := Nlaw) (sc := defScope slaw) (by decide +kernel)) (fun _ _ _ _ _ => (pg_name (i := 9) sclaw.nd rfl (.inl rfl))) (fun _ _ _ _ _ => pts_nil) (fun _ _ _ _ _ => (pe_callTy call_str_int (by rfl) T.z_str (by decide +kernel) (pa_cons (pv 9) pa_nil)))) (pe_lst (pa_cons (pe_ifExp (pt_val (pe_fld (pv 5) rfl)) pe_str pe_str) (pa_cons pe_str pa_nil)))))
  (pss_cons (ps_if (PW.pt (pw_or (pt_cmpR op_ne (pe_callTy (call_strO T.om_Bound___str__ G_Bound___str__ T.b_Bound___str__ hr pass0) (by rfl) T.z_str (by decide +kernel) (pa_cons (pv 5) pa_nil)) (pe_joinK (K := K) rfl pe_str (pv 6)) (nomark _)) (pw_or1 (pt_cmpR (op_neO T.om_Bound___eq__ T.ne_Bound T.mr_Bound G_Bound___eq__ T.b_Bound___eq__ hr pass0) (pe_smethK0 (pe_glob rfl T.g_Bound (show RelV (.ref T.C_Bound) _ from rfl)) T.sm_Bound_read G_Bound_read hr T.kb_Bound_read_0 passN (pk_cons (pe_callTy (call_strO T.om_Bound___str__ G_Bound___str__ T.b_Bound___str__ hr pass0) (by rfl) T.z_str (by decide +kernel) (pa_cons (pv 5) pa_nil)) pk_nil)) (pv 5) (nomark _)))))
    (pss_one (ps_ret pe_bl))
    pss_nil)
  (pss_cons (ps_set (i := 7) sclaw.nd rfl (.inl rfl) (pe_call G__law_pick hr (by rfl) T.g__law_pick T.F__law_pick.kp T.b__law_pick .nil pass0 (pa_cons (pv 1) (pa_cons (pe_lst (pa_cons pe_non (pa_cons pe_int (pa_cons pe_bl (pa_cons (pe_tup pa_nil) (pa_cons (pe_lst (pa_cons (pe_callTy (call_strO T.om_Bound___str__ G_Bound___str__ T.b_Bound___str__ hr pass0) (by rfl) T.z_str (by decide +kernel) (pa_cons (pv 5) pa_nil)) pa_nil)) (pa_cons pe_dnewK (pa_cons (pv 5) pa_nil)))))))) pa_nil))))
  (pss_one (ps_if (PW.pt (pw_or (pt_not (pt_val (pe_call G__law_words_right hr (by rfl) T.g__law_words_right T.F__law_words_right.kp T.b__law_words_right .nil pass0 (pa_cons (pv 1) (pa_cons (pv 6) pa_nil))))) (pw_or1 (pt_cmpR (op_neD (Room.units hr)) (pe_call G__law_spot hr (by rfl) T.g__law_spot T.F__law_spot.kp T.b__law_spot .nil pass0 (pa_cons (pv 7) pa_nil)) (pe_tup (pa_cons pe_int (pa_cons pe_int pa_nil))) (nomark _)))))
    (pss_one (ps_ret pe_bl))
    pss_nil)))))))))
  (pss_one (ps_ret pe_bl)))), ?_⟩
    refine ⟨.ref a, rfl, a, ns, rfl, hS, hl, fun p c H1 s1 np hP => ?_⟩
    refine ⟨9, rfl, by decide, by decide, ?_⟩
    refine for_it (walk_range (lo := 0) (n := 9)) (fun i σ H' => (∃ u0 u2 u3 u4 u5 u6 u7 u8 u9, σ = [u0, some (.ref p), u2, u3, u4, u5, u6, u7, u8, u9]) ∧ Pen H' p c (40 * i)) ⟨⟨_, _, _, _, _, _, _, _, _, rfl⟩, hP.mono (Nat.zero_le _)⟩ (fun _ _ _ _ _ => trivial) (fun i x σ H6 H6' hi ⟨⟨u0, u2, u3, u4, u5, u6, u7, u8, u9, hσ⟩, hP6⟩ y => ?_) (fun σ H6 z => q H6)
    subst hσ
    obtain ⟨rfl, rfl⟩ := y
    clear hP np
    have hi' : i < 9 := hi
    -- many
    refine ⟨.ref p, rfl, p, c, 9, 40 * i, rfl, hP6, by decide, by decide, by omega, fun r7 H7 r70 r71 hP7 hB7 => ?_⟩
    obtain ⟨n, rfl⟩ := Int.eq_ofNat_of_zero_le r70
    have hn8 : n ≤ 8 := by omega
    clear r70 r71 hB7 hP6
    -- form
    refine ⟨.int n, rfl, n, rfl, by omega, by omega, fun D nD => ?_⟩
    have nDp := hP7.ne_none nD
    have nDc := hP7.ne_none2 nD
    refine lc_it (walk_range (lo := 0) (n := n)) (AccP D fun j acc H' => ∃ ns : List Int, acc = ns.map V.int ∧ ns.length = j ∧ (∀ r ∈ ns, r.natAbs < 10 ^ 60) ∧ Pen H' p c (40 * i + 1 + 3 * j)) (.zero ⟨[], rfl, rfl, by simp, hP7.same (same_new nD)⟩) (fun _ _ _ _ => trivial) (fun j x H' H'' hj ⟨acc, e1, l1, ns, e2, l2, hb, hP1⟩ y => ?_) (fun H' ⟨acc, e1, _, fs, e2, l2, hb, hP8⟩ => ?_)
    · obtain ⟨rfl, rfl⟩ := y
      refine ⟨rfl, ?_⟩
      refine ⟨.ref p, rfl, .ref p, rfl, p, c, _, rfl, hP1, by omega, fun r H3 hr20 hP3 hB3 => ?_⟩
      refine ⟨10, 60, rfl, rfl, ⟨by decide, by decide, by decide⟩, _, _, rfl, rfl, ?_⟩
      refine ⟨10, 59, rfl, rfl, ⟨by decide, by decide, by decide⟩, _, rfl, (by show 3 ≤ sizeLine; decide), fun l nl => ?_⟩
      refine ⟨p, c, l, _, _, rfl, hP3.same (same_new nl), hP3.ne_none nl, .of upd_same, by simp, (by show 3 < 2 ^ 20; decide), by omega, fun x H4 mem hP4 hB4 => ?_⟩
      have hx : ∃ z : Int, x = .int z ∧ z.natAbs < 10 ^ 60 := by
        simp only [List.mem_cons, List.not_mem_nil, or_false] at mem
        rcases mem with rfl | rfl | rfl
        · exact ⟨_, rfl, Nat.lt_of_le_of_lt hr20 (by decide +kernel)⟩
        · exact ⟨_, rfl, by decide +kernel⟩
        · exact ⟨_, rfl, by decide +kernel⟩
      obtain ⟨z, rfl, hz⟩ := hx
      have e4 : H4 D = some (.lst acc) := hB4 D _ nDp ((same_new nl) _ _ (hB3 D _ nDp e1))
      refine AccP.put (small_size (by omega)) e4 l1 ⟨ns ++ [z], by rw [e2, List.map_append]; rfl, by simp [l2], fun y hy => ?_, ?_⟩
      · rcases List.mem_append.mp hy with h1 | h1
        · exact hb y h1
        · rw [List.mem_singleton.mp h1]
          exact hz
      · exact (hP4.mono (by omega)).updN nDp nDc
    · refine ⟨D, _, rfl, .inl ⟨.of e1, fun tf ntf => ?_⟩⟩
      subst e2
      have htf : upd H' tf (.tup (fs.map V.int)) tf = some (.tup (fs.map V.int)) := upd_same
      have hP9 := hP8.same (same_new (o := .tup (fs.map V.int)) ntf)
      generalize upd H' tf (.tup (fs.map V.int)) = H9 at htf hP9 ⊢
      clear ntf hP8 e1 nD nDp nDc hP7
      have hfl : fs.length ≤ 8 := by omega
      -- bound
      refine ⟨.ref tf, rfl, .ref p, rfl, (by show 2 ≤ sizeLine; decide), fun l nl => ?_⟩
      refine ⟨p, c, l, _, _, rfl, hP9.same (same_new nl), hP9.ne_none nl, .of upd_same, by simp, (by show 2 < 2 ^ 20; decide), by omega, fun x H10 mem hP10 hB10 => ?_⟩
      obtain ⟨b, rfl⟩ : ∃ b : Bool, x = .bl b := by
        simp only [List.mem_cons, List.not_mem_nil, or_false] at mem
        rcases mem with rfl | rfl <;> exact ⟨_, rfl⟩
      have htf10 : H10 tf = some (.tup (fs.map V.int)) := hB10.tup (hP9.same (same_new nl)) ((same_new nl) _ _ htf)
      clear mem hB10 nl hP9 htf
      show ∀ (x dx : Addr), _
      refine init_here htf10 hfl fun ab H11 s11 hbd => ?_
      have hP11 := hP10.same s11
      have htf11 := s11 _ _ htf10
      clear s11 htf10 hP10
      obtain ⟨_, dxb, tb, eab, hab, htb⟩ := hbd
      cases eab
      have hbd : BoundAt T.C_Bound H11 (.ref ab) fs b := ⟨ab, dxb, tb, rfl, hab, htb⟩
      -- words
      refine ⟨.ref tf, rfl, tf, rfl, ⟨_, .of htf11⟩, fun D nD => ?_⟩
      refine lc_it (walk_tup (K := K) (a := tf) (xs := fs.map V.int)) (AccP D (MapP (Same H11) fs fun n => .str (numS n))) (.zero ⟨same_new nD, rfl⟩) (fun i H' _ ⟨_, _, _, z⟩ => same_seqT z.1 (.of htf11)) (fun i x H' H'' hi ⟨acc, e1, l1, z, eacc⟩ y => ?_) (fun H' ⟨acc, e1, _, z, eacc⟩ => ?_)
      · obtain ⟨rfl, hx⟩ := y
        rw [List.length_map] at hi
        obtain ⟨n', hx', rfl⟩ := get_int hx
        refine ⟨rfl, ?_⟩
        refine ⟨_, rfl, n', rfl, log_num (hb n' (List.mem_of_getElem? hx')), ?_⟩
        exact AccP.put (small_size (by omega)) e1 l1 (mapP_next hx' eacc (same_updN z nD))
      · rw [List.length_map, List.take_length] at eacc
        subst eacc
        have hab' := z _ _ hab
        refine ⟨.ref ab, rfl, ab, T.C_Bound, dxb, _, .bl b, rfl, hab', T.cl_Bound, T.na_Bound_is_strict, rfl, b, rfl, if_sign ?_⟩
        have hbent : Bent (fs.map numS) (signS b) := ⟨by rw [List.length_map]; exact hfl, fun u hu => by
          obtain ⟨n', hm', rfl⟩ := List.mem_map.mp hu
          exact isIntW_num (hb n' hm'), fun u hu => by
          obtain ⟨n', hm', rfl⟩ := List.mem_map.mp hu
          exact word_num (hb n' hm'), sign_ok b⟩
        have elst : (fs.map fun n => V.str (numS n)) ++ ([signS b, "0"] : List Str).map V.str = (fs.map numS ++ [signS b, "0"]).map V.str := by
          rw [List.map_append, List.map_map]
          rfl
        refine ⟨(by show 2 ≤ sizeLine; decide), fun l2 nl2 => ?_⟩
        refine ⟨D, l2, _, ([signS b, "0"] : List Str).map V.str, rfl, rfl, (same_new nl2) _ _ e1, upd_same, (by rw [List.length_map]; show fs.length + 2 ≤ sizeLine; rw [sizeLine_eq]; omega), fun w6 nw6 => ?_⟩
        rw [elst]
        have s12 := (z.trans (same_new (o := .lst [V.str (signS b), .str "0"]) nl2)).trans (same_new (o := .lst ((fs.map numS ++ [signS b, "0"]).map V.str)) nw6)
        have hw : LS (upd (upd H' l2 (.lst [V.str (signS b), .str "0"])) w6 (.lst ((fs.map numS ++ [signS b, "0"]).map V.str))) w6 (fs.map numS ++ [signS b, "0"]) := upd_same
        have hP12 := hP11.same s12
        have w6p : w6 ≠ p := (hP11.same (z.trans (same_new (o := .lst [V.str (signS b), .str "0"]) nl2))).ne_none nw6
        have hab12 := s12 _ _ hab
        have hbd12 := hbd.same s12
        generalize upd (upd H' l2 (.lst [V.str (signS b), .str "0"])) w6 (.lst ((fs.map numS ++ [signS b, "0"]).map V.str)) = H12 at hw hP12 hab12 hbd12 ⊢
        clear s12 nw6 nl2 elst hab' e1 z nD hbd hab htb htf11 hP11
        have hWl : (fs.map numS ++ [signS b, "0"]).length ≤ 20 := by
          rw [List.length_append, List.length_map]
          show fs.length + 2 ≤ 20
          omega
        -- str
        refine ⟨.ref ab, rfl, ab, dxb, _, rfl, hab12, .ref ab, fs, b, rfl, hbd12, hfl, hb, fun H13 s13 => ⟨_, rfl, ?_⟩⟩
        have hw13 := hw.same s13
        have hP13 := hP12.same s13
        have hab13 := s13 _ _ hab12
        have hbd13 := hbd12.same s13
        clear s13 hw hP12 hab12 hbd12
        refine ⟨⟨" ", rfl⟩, .ref w6, rfl, " ", w6, _, rfl, rfl, .inl hw13.seq, join_fits (words_len hb) (by omega), rfl, ?_⟩
        refine ⟨_, rfl, ite2 (fun e => (ne_self e).elim) (fun _ => ?_)⟩
        -- read
        refine ⟨rfl, .ref ab, rfl, ab, dxb, _, rfl, hab13, .ref ab, fs, b, rfl, hbd13, hfl, hb, fun H14 s14 => ⟨_, rfl, ?_⟩⟩
        have hw14 := hw13.same s14
        have hP14 := hP13.same s14
        have hab14 := s14 _ _ hab13
        have hbd14 := hbd13.same s14
        clear s14 hw13 hP13 hab13 hbd13
        have hjl := join_len hbent.words hWl
        refine ⟨.str (boundS fs b), rfl, .inr ⟨_, fs.map numS ++ [signS b, "0"], rfl, (by unfold boundS; rw [sizeLine_eq]; omega), split_back hbent.words (by simp), by omega, words_len hb, .inr ⟨fs, b, rfl, hfl, hb, fun y H15 s15 hy => ?_⟩⟩⟩
        have hw15 := hw14.same s15
        have hP15 := hP14.same s15
        have hab15 := s15 _ _ hab14
        have hbd15 := hbd14.same s15
        clear s15 hw14 hP14 hab14 hbd14
        obtain ⟨a2, d2, t2, rfl, ha2, ht2⟩ := id hy
        refine ⟨.ref ab, rfl, a2, d2, _, rfl, ha2, ⟨_, ty_bound T hab15, (by unfold PySem.W.notFirst; simp)⟩, .ref a2, .ref ab, fs, fs, b, b, rfl, hy, hbd15, ?_⟩
        refine ⟨_, rfl, _, rfl, ite2 (fun e => by simp at e) (fun _ => ?_)⟩
        clear hy ha2 ht2
        -- odd
        refine ⟨.ref p, rfl, (by show 0 ≤ sizeLine; decide), fun t1 nt1 => ?_⟩
        have st1 := same_new (o := .tup []) nt1
        refine ⟨.ref ab, rfl, ab, dxb, _, rfl, st1 _ _ hab15, .ref ab, fs, b, rfl, hbd15.same st1, hfl, hb, fun H16 s16 => ⟨_, rfl, ?_⟩⟩
        refine ⟨(by show 1 ≤ sizeLine; decide), fun l3 nl3 d4 nd4 => ?_⟩
        refine ⟨.ref ab, rfl, (by show 7 ≤ sizeLine; decide), fun l5 nl5 => ?_⟩
        have st3 := same_new (o := .lst [V.str (boundS fs b)]) nl3
        have st4 := same_new (o := .dK []) nd4
        have st5 := same_new (o := .lst [V.non, .int 0, .bl true, .ref t1, .ref l3, .ref d4, .ref ab]) nl5
        have s35 := (st3.trans st4).trans st5
        have s17 := (st1.trans s16).trans s35
        have hPb := hP15.same ((st1.trans s16).trans st3)
        have ht : NoStr T p (upd (upd (upd H16 l3 (.lst [V.str (boundS fs b)])) d4 (.dK [])) l5 (.lst [V.non, .int 0, .bl true, .ref t1, .ref l3, .ref d4, .ref ab])) (.ref t1) :=
          ⟨.inl ⟨.tup, by decide, ⟨t1, [], rfl, (s16.trans s35) _ _ upd_same⟩⟩, fun z => hP15.ne_none nt1 (by cases z; rfl)⟩
        have hl3 : NoStr T p (upd (upd (upd H16 l3 (.lst [V.str (boundS fs b)])) d4 (.dK [])) l5 (.lst [V.non, .int 0, .bl true, .ref t1, .ref l3, .ref d4, .ref ab])) (.ref l3) :=
          ⟨.inl ⟨.lst, by decide, ⟨l3, _, rfl, (st4.trans st5) _ _ upd_same⟩⟩, fun z => (hP15.same (st1.trans s16)).ne_none nl3 (by cases z; rfl)⟩
        have hd4 : NoStr T p (upd (upd (upd H16 l3 (.lst [V.str (boundS fs b)])) d4 (.dK [])) l5 (.lst [V.non, .int 0, .bl true, .ref t1, .ref l3, .ref d4, .ref ab])) (.ref d4) :=
          ⟨.inl ⟨.dct, by decide, ⟨d4, _, rfl, st5 _ _ upd_same⟩⟩, fun z => hPb.ne_none nd4 (by cases z; rfl)⟩
        have habp : ab ≠ p := by
          obtain ⟨ys, e⟩ := hP15.at_
          exact ne_of hab15 e (by intro z; cases z)
        have hab17 : NoStr T p (upd (upd (upd H16 l3 (.lst [V.str (boundS fs b)])) d4 (.dK [])) l5 (.lst [V.non, .int 0, .bl true, .ref t1, .ref l3, .ref d4, .ref ab])) (.ref ab) :=
          ⟨.inr ⟨ab, dxb, _, rfl, s17 _ _ hab15⟩, fun z => habp (by cases z; rfl)⟩
        have hw17 := hw15.same s17
        have hP17 := hP15.same s17
        have hl5 : SqL K (upd (upd (upd H16 l3 (.lst [V.str (boundS fs b)])) d4 (.dK [])) l5 (.lst [V.non, .int 0, .bl true, .ref t1, .ref l3, .ref d4, .ref ab])) l5 [V.non, .int 0, .bl true, .ref t1, .ref l3, .ref d4, .ref ab] := .of upd_same
        have nl5p := (hPb.same st4).ne_none nl5
        clear s17 s35 st5 st4 st3 hPb
        generalize upd (upd (upd H16 l3 (.lst [V.str (boundS fs b)])) d4 (.dK [])) l5 (.lst [V.non, .int 0, .bl true, .ref t1, .ref l3, .ref d4, .ref ab]) = H17 at ht hl3 hd4 hab17 hw17 hP17 hl5 ⊢
        refine ⟨p, c, l5, 40 * i + 1 + 3 * n + 1, _, rfl, hP17, nl5p, hl5, by simp, (by show 7 < 2 ^ 20; decide), by omega, fun x H20 mem hP20 hB20 => ?_⟩
        have hodd : NoStr T p H20 x := by
          refine NoStr.but hB20 ?_
          simp only [List.mem_cons, List.not_mem_nil, or_false] at mem
          rcases mem with rfl | rfl | rfl | rfl | rfl | rfl | rfl
          · exact ⟨.inl ⟨.non, by decide, rfl⟩, by intro z; cases z⟩
          · exact ⟨.inl ⟨.int, by decide, ⟨0, rfl⟩⟩, by intro z; cases z⟩
          · exact ⟨.inl ⟨.bl, by decide, ⟨true, rfl⟩⟩, by intro z; cases z⟩
          · exact ht
          · exact hl3
          · exact hd4
          · exact hab17
        have hw20 := hw17.but hB20 w6p
        clear ht hl3 hd4 hab17 mem hB20 hP17 hw17 hl5
        -- words, spot
        refine ⟨.ref p, rfl, .ref w6, rfl, p, c, w6, _, fs, b, rfl, hP20, w6p, hw20, hfl, hb, by omega, fun H21 hP21 hB21 => ⟨true, rfl, ?_⟩⟩
        refine ⟨x, rfl, x, 0, rfl, (hodd.but hB21).bad, fun p2 H22 s22 n22 e22 => ?_⟩
        refine ⟨(by show 2 ≤ sizeLine; decide), fun t9 nt9 => ?_⟩
        refine ⟨.tuple ([0, 0].map .int), .tuple ([0, 0].map .int), .tup (.of ((same_new nt9) _ _ e22)) (dp_ints [0, 0]), .tup (.of upd_same) (dp_ints [0, 0]), shapedT _, shapedT _, ?_⟩
        rw [eqv_tI, decide_eq_true rfl]
        refine ⟨_, rfl, ite2 (fun e => by cases e) (fun _ => ?_)⟩
        exact ⟨⟨_, _, _, _, _, _, _, _, _, rfl⟩, (hP21.same (s22.trans (same_new nt9))).mono (by omega)⟩
end

theorem kit_self {K : PySem.W.Frag} {C : Addr} : PySem.W.kitOne K (.ref C) (.ref C) = some true := by
  unfold PySem.W.kitOne
  simp
theorem kit_no {K : PySem.W.Frag} {C : Addr} {t : String} {b : Bool} (h : PySem.W.subIn K (.ref C) (.type t) = some b) (hm : PySem.W.kitMeta t = true) : PySem.W.kitOne K (.ref C) (.type t) = some b := by
  unfold PySem.W.kitOne
  rw [if_neg (by simp)]
  show (if PySem.W.kitMeta t = true then PySem.W.subIn K (.ref C) (.type t) else none) = some b
  rw [if_pos hm, h]
theorem exm_of2 {K : PySem.W.Frag} {A C : Addr} {b : Bool} (h1 : PySem.W.subIn K (.ref C) (.type "BaseException") = some true) (h2 : PySem.W.isClsIn K C = true) (h3 : PySem.W.typeIn K (.ref C) = some (.type "type")) (h4 : PySem.W.subIn K (.ref A) (.ref C) = some b) :
    PySem.W.exmOne K (.ref A) (.ref C) = some b := by
  have e1 : (PySem.W.subIn K (.ref C) (.type "BaseException") == some true) = true := by rw [h1] <;> rfl
  have e2 : ((PySem.W.clsIn K C).isSome && PySem.W.typeIn K (.ref C) == some (.type "type")) = true := by
    have h2' : (PySem.W.clsIn K C).isSome = true := h2
    rw [h2', h3] <;> rfl
  show (if (PySem.W.subIn K (.ref C) (.type "BaseException") == some true) = true then (if ((PySem.W.clsIn K C).isSome && PySem.W.typeIn K (.ref C) == some (.type "type")) = true then PySem.W.subIn K (.ref A) (.ref C) else none) else none) = some b
  rw [if_pos e1, if_pos e2]
  exact h4
theorem all_mk {P : Program} {w : World} {K : PySem.W.Frag} {h : Heap} {mg : Str → Option Value} {fa : Addr} (X : K.In h) (G : h.Ns mainGlobals mg) (hfa : mg "law" = some (.ref fa))
    {a_is_integer : Addr} {od0 an0 : Option Addr} {sl0 : Array (Option Value)} {oc0 kV0 dc0 pm0 cd0 ct0 : Value}
    {a_own_copy : Addr} {od1 an1 : Option Addr} {sl1 : Array (Option Value)} {oc1 kV1 dc1 pm1 cd1 ct1 : Value}
    {a_words_of : Addr} {od2 an2 : Option Addr} {sl2 : Array (Option Value)} {oc2 kV2 dc2 pm2 cd2 ct2 : Value}
    {a_word_at : Addr} {od3 an3 : Option Addr} {sl3 : Array (Option Value)} {oc3 kV3 dc3 pm3 cd3 ct3 : Value}
    {a_expect : Addr} {od4 an4 : Option Addr} {sl4 : Array (Option Value)} {oc4 kV4 dc4 pm4 cd4 ct4 : Value}
    {a_expect_end : Addr} {od5 an5 : Option Addr} {sl5 : Array (Option Value)} {oc5 kV5 dc5 pm5 cd5 ct5 : Value}
    {a_is_integer_word : Addr} {od6 an6 : Option Addr} {sl6 : Array (Option Value)} {oc6 kV6 dc6 pm6 cd6 ct6 : Value}
    {a_is_form : Addr} {od7 an7 : Option Addr} {sl7 : Array (Option Value)} {oc7 kV7 dc7 pm7 cd7 ct7 : Value}
    {a__law_pen : Addr} {od8 an8 : Option Addr} {sl8 : Array (Option Value)} {oc8 kV8 dc8 pm8 cd8 ct8 : Value}
    {a__law_draw : Addr} {od9 an9 : Option Addr} {sl9 : Array (Option Value)} {oc9 kV9 dc9 pm9 cd9 ct9 : Value}
    {a__law_pick : Addr} {od10 an10 : Option Addr} {sl10 : Array (Option Value)} {oc10 kV10 dc10 pm10 cd10 ct10 : Value}
    {a__law_factor : Addr} {od11 an11 : Option Addr} {sl11 : Array (Option Value)} {oc11 kV11 dc11 pm11 cd11 ct11 : Value}
    {a__law_spot : Addr} {od12 an12 : Option Addr} {sl12 : Array (Option Value)} {oc12 kV12 dc12 pm12 cd12 ct12 : Value}
    {a__law_words_right : Addr} {od13 an13 : Option Addr} {sl13 : Array (Option Value)} {oc13 kV13 dc13 pm13 cd13 ct13 : Value}
    {a_law : Addr} {od14 an14 : Option Addr} {sl14 : Array (Option Value)} {oc14 kV14 dc14 pm14 cd14 ct14 : Value}
    {a_Bound___init__ : Addr} {od15 an15 : Option Addr} {sl15 : Array (Option Value)} {oc15 kV15 dc15 pm15 cd15 ct15 : Value}
    {dT15 : Addr} {dO15 : Obj} {dI15 : List Value} {dM15 : Nat}
    {a_Bound_read : Addr} {od16 an16 : Option Addr} {sl16 : Array (Option Value)} {oc16 kV16 dc16 pm16 cd16 ct16 : Value}
    {a_Bound___eq__ : Addr} {od17 an17 : Option Addr} {sl17 : Array (Option Value)} {oc17 kV17 dc17 pm17 cd17 ct17 : Value}
    {a_Bound___str__ : Addr} {od18 an18 : Option Addr} {sl18 : Array (Option Value)} {oc18 kV18 dc18 pm18 cd18 ct18 : Value}
    {a_BadText___init__ : Addr} {od19 an19 : Option Addr} {sl19 : Array (Option Value)} {oc19 kV19 dc19 pm19 cd19 ct19 : Value}
    {C_Bound : Addr}
    {p_Bound_read : Addr}
    {mc_Bound_read : Value}
    {C_BadText : Addr}
    {nm_BadText q_BadText : Str} {n_BadText : Addr} {bs_BadText bm_BadText sub_BadText : List Value} {sn_BadText : List Str} {ab_BadText : Bool} {col_BadText : Option Bool} {dd_BadText : Option Addr} {m0_BadText m1_BadText m2_BadText m3_BadText m5_BadText : Option Value}
    {rest_Bound_read : List Value}
    {tc_MOST_DIGITS : Tok}
    {tc_MOST_FACTORS : Tok}
    (gBound : PySem.W.nsIn K mainGlobals "Bound" = some (some (.ref C_Bound)))
    (gBadText : PySem.W.nsIn K mainGlobals "BadText" = some (some (.ref C_BadText)))
    (tyBound_read : PySem.W.typeIn K (.ref C_Bound) = some mc_Bound_read)
    (rdBound_read : PySem.W.readsIn K C_Bound mc_Bound_read = true)
    (gaBound_read : PySem.W.specialIn K (.ref C_Bound) "__getattribute__" = some (some (.builtin "type.__getattribute__")))
    (gaBadText : PySem.W.findIn K (.ref C_BadText) "__getattribute__" = some (some (.builtin "BaseException.__getattribute__")))
    (atBound___init__ : PySem.W.findIn K (.ref C_Bound) "__init__" = some (some (.ref a_Bound___init__)))
    (atBound_read : PySem.W.findCls K (.ref C_Bound) mc_Bound_read "read" = some (.get (.builtin "staticmethod.__get__") (.ref p_Bound_read) .none (.ref C_Bound)))
    (atBound___eq__ : PySem.W.findIn K (.ref C_Bound) "__eq__" = some (some (.ref a_Bound___eq__)))
    (atBound___str__ : PySem.W.findIn K (.ref C_Bound) "__str__" = some (some (.ref a_Bound___str__)))
    (atBadText___init__ : PySem.W.findIn K (.ref C_BadText) "__init__" = some (some (.ref a_BadText___init__)))
    (rcBound_read : PySem.W.recIn K p_Bound_read "staticmethod" = some (.ref a_Bound_read :: rest_Bound_read))
    (ais_integer : PySem.W.nsIn K mainGlobals "is_integer" = some (some (.ref a_is_integer)))
    (lis_integer : K.lookup a_is_integer = some ⟨oc0, od0, .func (PySem.W.fnOf "is_integer" "is_integer" (defArgs sis_integer) (defBody sis_integer) (defScope sis_integer) .none kV0 dc0 pm0 an0 cd0 ct0), sl0⟩)
    (cis_integer : PySem.W.codeIn K cd0 "is_integer" = true)
    (kis_integer : PySem.W.keepIn K (.ref a_is_integer) = true)
    (aown_copy : PySem.W.nsIn K mainGlobals "own_copy" = some (some (.ref a_own_copy)))
    (lown_copy : K.lookup a_own_copy = some ⟨oc1, od1, .func (PySem.W.fnOf "own_copy" "own_copy" (defArgs sown_copy) (defBody sown_copy) (defScope sown_copy) .none kV1 dc1 pm1 an1 cd1 ct1), sl1⟩)
    (cown_copy : PySem.W.codeIn K cd1 "own_copy" = true)
    (kown_copy : PySem.W.keepIn K (.ref a_own_copy) = true)
    (awords_of : PySem.W.nsIn K mainGlobals "words_of" = some (some (.ref a_words_of)))
    (lwords_of : K.lookup a_words_of = some ⟨oc2, od2, .func (PySem.W.fnOf "words_of" "words_of" (defArgs swords_of) (defBody swords_of) (defScope swords_of) .none kV2 dc2 pm2 an2 cd2 ct2), sl2⟩)
    (cwords_of : PySem.W.codeIn K cd2 "words_of" = true)
    (kwords_of : PySem.W.keepIn K (.ref a_words_of) = true)
    (aword_at : PySem.W.nsIn K mainGlobals "word_at" = some (some (.ref a_word_at)))
    (lword_at : K.lookup a_word_at = some ⟨oc3, od3, .func (PySem.W.fnOf "word_at" "word_at" (defArgs sword_at) (defBody sword_at) (defScope sword_at) .none kV3 dc3 pm3 an3 cd3 ct3), sl3⟩)
    (cword_at : PySem.W.codeIn K cd3 "word_at" = true)
    (kword_at : PySem.W.keepIn K (.ref a_word_at) = true)
    (aexpect : PySem.W.nsIn K mainGlobals "expect" = some (some (.ref a_expect)))
    (lexpect : K.lookup a_expect = some ⟨oc4, od4, .func (PySem.W.fnOf "expect" "expect" (defArgs sexpect) (defBody sexpect) (defScope sexpect) .none kV4 dc4 pm4 an4 cd4 ct4), sl4⟩)
    (cexpect : PySem.W.codeIn K cd4 "expect" = true)
    (kexpect : PySem.W.keepIn K (.ref a_expect) = true)
    (aexpect_end : PySem.W.nsIn K mainGlobals "expect_end" = some (some (.ref a_expect_end)))
    (lexpect_end : K.lookup a_expect_end = some ⟨oc5, od5, .func (PySem.W.fnOf "expect_end" "expect_end" (defArgs sexpect_end) (defBody sexpect_end) (defScope sexpect_end) .none kV5 dc5 pm5 an5 cd5 ct5), sl5⟩)
    (cexpect_end : PySem.W.codeIn K cd5 "expect_end" = true)
    (kexpect_end : PySem.W.keepIn K (.ref a_expect_end) = true)
    (ais_integer_word : PySem.W.nsIn K mainGlobals "is_integer_word" = some (some (.ref a_is_integer_word)))
    (lis_integer_word : K.lookup a_is_integer_word = some ⟨oc6, od6, .func (PySem.W.fnOf "is_integer_word" "is_integer_word" (defArgs sis_integer_word) (defBody sis_integer_word) (defScope sis_integer_word) .none kV6 dc6 pm6 an6 cd6 ct6), sl6⟩)
    (cis_integer_word : PySem.W.codeIn K cd6 "is_integer_word" = true)
    (kis_integer_word : PySem.W.keepIn K (.ref a_is_integer_word) = true)
    (ais_form : PySem.W.nsIn K mainGlobals "is_form" = some (some (.ref a_is_form)))
    (lis_form : K.lookup a_is_form = some ⟨oc7, od7, .func (PySem.W.fnOf "is_form" "is_form" (defArgs sis_form) (defBody sis_form) (defScope sis_form) .none kV7 dc7 pm7 an7 cd7 ct7), sl7⟩)
    (cis_form : PySem.W.codeIn K cd7 "is_form" = true)
    (kis_form : PySem.W.keepIn K (.ref a_is_form) = true)
    (a_law_pen : PySem.W.nsIn K mainGlobals "_law_pen" = some (some (.ref a__law_pen)))
    (l_law_pen : K.lookup a__law_pen = some ⟨oc8, od8, .func (PySem.W.fnOf "_law_pen" "_law_pen" (defArgs s_law_pen) (defBody s_law_pen) (defScope s_law_pen) .none kV8 dc8 pm8 an8 cd8 ct8), sl8⟩)
    (c_law_pen : PySem.W.codeIn K cd8 "_law_pen" = true)
    (k_law_pen : PySem.W.keepIn K (.ref a__law_pen) = true)
    (a_law_draw : PySem.W.nsIn K mainGlobals "_law_draw" = some (some (.ref a__law_draw)))
    (l_law_draw : K.lookup a__law_draw = some ⟨oc9, od9, .func (PySem.W.fnOf "_law_draw" "_law_draw" (defArgs s_law_draw) (defBody s_law_draw) (defScope s_law_draw) .none kV9 dc9 pm9 an9 cd9 ct9), sl9⟩)
    (c_law_draw : PySem.W.codeIn K cd9 "_law_draw" = true)
    (k_law_draw : PySem.W.keepIn K (.ref a__law_draw) = true)
    (a_law_pick : PySem.W.nsIn K mainGlobals "_law_pick" = some (some (.ref a__law_pick)))
    (l_law_pick : K.lookup a__law_pick = some ⟨oc10, od10, .func (PySem.W.fnOf "_law_pick" "_law_pick" (defArgs s_law_pick) (defBody s_law_pick) (defScope s_law_pick) .none kV10 dc10 pm10 an10 cd10 ct10), sl10⟩)
    (c_law_pick : PySem.W.codeIn K cd10 "_law_pick" = true)
    (k_law_pick : PySem.W.keepIn K (.ref a__law_pick) = true)
    (a_law_factor : PySem.W.nsIn K mainGlobals "_law_factor" = some (some (.ref a__law_factor)))
    (l_law_factor : K.lookup a__law_factor = some ⟨oc11, od11, .func (PySem.W.fnOf "_law_factor" "_law_factor" (defArgs s_law_factor) (defBody s_law_factor) (defScope s_law_factor) .none kV11 dc11 pm11 an11 cd11 ct11), sl11⟩)
    (c_law_factor : PySem.W.codeIn K cd11 "_law_factor" = true)
    (k_law_factor : PySem.W.keepIn K (.ref a__law_factor) = true)
    (a_law_spot : PySem.W.nsIn K mainGlobals "_law_spot" = some (some (.ref a__law_spot)))
    (l_law_spot : K.lookup a__law_spot = some ⟨oc12, od12, .func (PySem.W.fnOf "_law_spot" "_law_spot" (defArgs s_law_spot) (defBody s_law_spot) (defScope s_law_spot) .none kV12 dc12 pm12 an12 cd12 ct12), sl12⟩)
    (c_law_spot : PySem.W.codeIn K cd12 "_law_spot" = true)
    (k_law_spot : PySem.W.keepIn K (.ref a__law_spot) = true)
    (a_law_words_right : PySem.W.nsIn K mainGlobals "_law_words_right" = some (some (.ref a__law_words_right)))
    (l_law_words_right : K.lookup a__law_words_right = some ⟨oc13, od13, .func (PySem.W.fnOf "_law_words_right" "_law_words_right" (defArgs s_law_words_right) (defBody s_law_words_right) (defScope s_law_words_right) .none kV13 dc13 pm13 an13 cd13 ct13), sl13⟩)
    (c_law_words_right : PySem.W.codeIn K cd13 "_law_words_right" = true)
    (k_law_words_right : PySem.W.keepIn K (.ref a__law_words_right) = true)
    (alaw : PySem.W.nsIn K mainGlobals "law" = some (some (.ref a_law)))
    (llaw : K.lookup a_law = some ⟨oc14, od14, .func (PySem.W.fnOf "law" "law" (defArgs slaw) (defBody slaw) (defScope slaw) .none kV14 dc14 pm14 an14 cd14 ct14), sl14⟩)
    (claw : PySem.W.codeIn K cd14 "law" = true)
    (klaw : PySem.W.keepIn K (.ref a_law) = true)
    (lBound___init__ : K.lookup a_Bound___init__ = some ⟨oc15, od15, .func (PySem.W.fnOf "__init__" "Bound.__init__" (defArgs sBound___init__) (defBody sBound___init__) (defScope sBound___init__) (.ref dT15) kV15 dc15 pm15 an15 cd15 ct15), sl15⟩)
    (cBound___init__ : PySem.W.codeIn K cd15 "Bound.__init__" = true)
    (kBound___init__ : PySem.W.keepIn K (.ref a_Bound___init__) = true)
    (dlBound___init__ : K.lookup dT15 = some dO15)
    (doBound___init__ : dO15.data = .seq dI15.toArray dM15)
    (dvBound___init__ : Vals [.bl false] dI15)
    (lBound_read : K.lookup a_Bound_read = some ⟨oc16, od16, .func (PySem.W.fnOf "read" "Bound.read" (defArgs sBound_read) (defBody sBound_read) (defScope sBound_read) .none kV16 dc16 pm16 an16 cd16 ct16), sl16⟩)
    (cBound_read : PySem.W.codeIn K cd16 "Bound.read" = true)
    (kBound_read : PySem.W.keepIn K (.ref a_Bound_read) = true)
    (lBound___eq__ : K.lookup a_Bound___eq__ = some ⟨oc17, od17, .func (PySem.W.fnOf "__eq__" "Bound.__eq__" (defArgs sBound___eq__) (defBody sBound___eq__) (defScope sBound___eq__) .none kV17 dc17 pm17 an17 cd17 ct17), sl17⟩)
    (cBound___eq__ : PySem.W.codeIn K cd17 "Bound.__eq__" = true)
    (kBound___eq__ : PySem.W.keepIn K (.ref a_Bound___eq__) = true)
    (lBound___str__ : K.lookup a_Bound___str__ = some ⟨oc18, od18, .func (PySem.W.fnOf "__str__" "Bound.__str__" (defArgs sBound___str__) (defBody sBound___str__) (defScope sBound___str__) .none kV18 dc18 pm18 an18 cd18 ct18), sl18⟩)
    (cBound___str__ : PySem.W.codeIn K cd18 "Bound.__str__" = true)
    (kBound___str__ : PySem.W.keepIn K (.ref a_Bound___str__) = true)
    (lBadText___init__ : K.lookup a_BadText___init__ = some ⟨oc19, od19, .func (PySem.W.fnOf "__init__" "BadText.__init__" (defArgs sBadText___init__) (defBody sBadText___init__) (defScope sBadText___init__) .none kV19 dc19 pm19 an19 cd19 ct19), sl19⟩)
    (cBadText___init__ : PySem.W.codeIn K cd19 "BadText.__init__" = true)
    (kBadText___init__ : PySem.W.keepIn K (.ref a_BadText___init__) = true)
    (pgBound : PySem.W.plainGet K C_Bound Str.empty = true)
    (hdBound : PySem.W.hasDictIn K C_Bound = true)
    (poBound : PySem.W.plainOver K C_Bound = true)
    (saBound : PySem.W.findIn K (.ref C_Bound) "__setattr__" = some (some (.builtin "object.__setattr__")))
    (kcBound : PySem.W.keepIn K (.ref C_Bound) = true)
    (naBound_form : PySem.W.findIn K (.ref C_Bound) "form" = some none)
    (naBound_is_strict : PySem.W.findIn K (.ref C_Bound) "is_strict" = some none)
    (neBound : PySem.W.findIn K (.ref C_Bound) "__ne__" = some (some (.builtin "object.__ne__")))
    (mrBound : PySem.W.mroIn K C_Bound (.type "object") = some true)
    (caBound : PySem.W.findIn K (.ref C_Bound) "__class__" = some (some (.builtin "object.__class__")))
    (fnBound___init__ : PySem.W.isFn K (.ref a_Bound___init__) = true)
    (mkBound : PySem.W.makesIn K C_Bound = true)
    (fnBound___eq__ : PySem.W.isFn K (.ref a_Bound___eq__) = true)
    (fnBound___str__ : PySem.W.isFn K (.ref a_Bound___str__) = true)
    (ksBound : PySem.W.subIn K (.ref C_Bound) (.type "str") = some false)
    (sg : PySem.W.specialIn K (.builtin "object.__class__") "__get__" = some (some (.builtin "getset_descriptor.__get__")))
    (tk : PySem.W.takesIn K (.builtin "object.__class__") = some true)
    (xlBadText : K.lookup C_BadText = some (excClassObj nm_BadText q_BadText C_BadText n_BadText bs_BadText bm_BadText true sn_BadText sub_BadText ab_BadText col_BadText dd_BadText m0_BadText m1_BadText m2_BadText m3_BadText m5_BadText "ValueError.__new__"))
    (rfBadText : PySem.HandSPX.refsVE bm_BadText = true)
    (saBadText : PySem.W.findIn K (.ref C_BadText) "__setattr__" = some (some (.builtin "object.__setattr__")))
    (eCBadText : PySem.W.subIn K (.ref C_BadText) (.type "BaseException") = some true)
    (tCBadText : PySem.W.typeIn K (.ref C_BadText) = some (.type "type"))
    (kCBadText : PySem.W.keepIn K (.ref C_BadText) = true)
    (tiBadText : PySem.W.typeIn K (.ref a_BadText___init__) = some (.type "function"))
    (noBadText_line : PySem.W.findIn K (.ref C_BadText) "line" = some none)
    (noBadText_word : PySem.W.findIn K (.ref C_BadText) "word" = some none)
    (ggBadText : PySem.W.findIn K (.ref C_BadText) "__getattr__" = some none)
    (hdBadText : PySem.W.hasDictIn K C_BadText = true)
    (caBadText : PySem.W.findIn K (.ref C_BadText) "__class__" = some (some (.builtin "object.__class__")))
    (mrBadText : PySem.W.mroIn K C_BadText (.type "object") = some true)
    (emBadText_BadText : PySem.W.subIn K (.ref C_BadText) (.ref C_BadText) = some true)
    (ekBadText_BadText : PySem.W.isClsIn K C_BadText = true)
    (ebBadText_BadText : PySem.W.subIn K (.ref C_BadText) (.type "BaseException") = some true)
    (etBadText_BadText : PySem.W.typeIn K (.ref C_BadText) = some (.type "type"))
    (z_abs : PySem.W.nsIn K mainGlobals "abs" = some none)
    (z_all : PySem.W.nsIn K mainGlobals "all" = some none)
    (z_bool : PySem.W.nsIn K mainGlobals "bool" = some none)
    (z_dict : PySem.W.nsIn K mainGlobals "dict" = some none)
    (z_int : PySem.W.nsIn K mainGlobals "int" = some none)
    (z_isinstance : PySem.W.nsIn K mainGlobals "isinstance" = some none)
    (z_len : PySem.W.nsIn K mainGlobals "len" = some none)
    (z_list : PySem.W.nsIn K mainGlobals "list" = some none)
    (z_range : PySem.W.nsIn K mainGlobals "range" = some none)
    (z_str : PySem.W.nsIn K mainGlobals "str" = some none)
    (z_tuple : PySem.W.nsIn K mainGlobals "tuple" = some none)
    (c_MOST_DIGITS : PySem.W.nsIn K mainGlobals "MOST_DIGITS" = some (some (.int 60 tc_MOST_DIGITS)))
    (c_MOST_FACTORS : PySem.W.nsIn K mainGlobals "MOST_FACTORS" = some (some (.int 8 tc_MOST_FACTORS))) :
    ∃ fd : FuncData, (∀ (s : Shared) (v : Value), BindsTo s fd ⟨[v], []⟩ [("_law_script", v)]) ∧ ∀ base : Heap, K.In base → base.Ns mainGlobals mg → GOk P w K mg base 12 fa fd ["_law_script"] (spLaw K) := by
  let T : Top K mg := {
    a_is_integer := a_is_integer,
    d_is_integer := (PySem.W.fnOf "is_integer" "is_integer" (defArgs sis_integer) (defBody sis_integer) (defScope sis_integer) .none kV0 dc0 pm0 an0 cd0 ct0),
    F_is_integer := fun_mk (st := sis_integer) lis_integer cis_integer kis_integer,
    b_is_integer := (fun_mk (st := sis_integer) lis_integer cis_integer kis_integer).binds (ps := ["value"]) fun _ _ _ _ _ _ us hl => match us, hl with | [_], _ => rfl,
    g_is_integer := PySem.W.mg_of X G ais_integer,
    a_own_copy := a_own_copy,
    d_own_copy := (PySem.W.fnOf "own_copy" "own_copy" (defArgs sown_copy) (defBody sown_copy) (defScope sown_copy) .none kV1 dc1 pm1 an1 cd1 ct1),
    F_own_copy := fun_mk (st := sown_copy) lown_copy cown_copy kown_copy,
    b_own_copy := (fun_mk (st := sown_copy) lown_copy cown_copy kown_copy).binds (ps := ["value"]) fun _ _ _ _ _ _ us hl => match us, hl with | [_], _ => rfl,
    g_own_copy := PySem.W.mg_of X G aown_copy,
    a_words_of := a_words_of,
    d_words_of := (PySem.W.fnOf "words_of" "words_of" (defArgs swords_of) (defBody swords_of) (defScope swords_of) .none kV2 dc2 pm2 an2 cd2 ct2),
    F_words_of := fun_mk (st := swords_of) lwords_of cwords_of kwords_of,
    b_words_of := (fun_mk (st := swords_of) lwords_of cwords_of kwords_of).binds (ps := ["text"]) fun _ _ _ _ _ _ us hl => match us, hl with | [_], _ => rfl,
    g_words_of := PySem.W.mg_of X G awords_of,
    a_word_at := a_word_at,
    d_word_at := (PySem.W.fnOf "word_at" "word_at" (defArgs sword_at) (defBody sword_at) (defScope sword_at) .none kV3 dc3 pm3 an3 cd3 ct3),
    F_word_at := fun_mk (st := sword_at) lword_at cword_at kword_at,
    b_word_at := (fun_mk (st := sword_at) lword_at cword_at kword_at).binds (ps := ["words", "at"]) fun _ _ _ _ _ _ us hl => match us, hl with | [_, _], _ => rfl,
    g_word_at := PySem.W.mg_of X G aword_at,
    a_expect := a_expect,
    d_expect := (PySem.W.fnOf "expect" "expect" (defArgs sexpect) (defBody sexpect) (defScope sexpect) .none kV4 dc4 pm4 an4 cd4 ct4),
    F_expect := fun_mk (st := sexpect) lexpect cexpect kexpect,
    b_expect := (fun_mk (st := sexpect) lexpect cexpect kexpect).binds (ps := ["words", "at", "word"]) fun _ _ _ _ _ _ us hl => match us, hl with | [_, _, _], _ => rfl,
    g_expect := PySem.W.mg_of X G aexpect,
    a_expect_end := a_expect_end,
    d_expect_end := (PySem.W.fnOf "expect_end" "expect_end" (defArgs sexpect_end) (defBody sexpect_end) (defScope sexpect_end) .none kV5 dc5 pm5 an5 cd5 ct5),
    F_expect_end := fun_mk (st := sexpect_end) lexpect_end cexpect_end kexpect_end,
    b_expect_end := (fun_mk (st := sexpect_end) lexpect_end cexpect_end kexpect_end).binds (ps := ["words", "at"]) fun _ _ _ _ _ _ us hl => match us, hl with | [_, _], _ => rfl,
    g_expect_end := PySem.W.mg_of X G aexpect_end,
    a_is_integer_word := a_is_integer_word,
    d_is_integer_word := (PySem.W.fnOf "is_integer_word" "is_integer_word" (defArgs sis_integer_word) (defBody sis_integer_word) (defScope sis_integer_word) .none kV6 dc6 pm6 an6 cd6 ct6),
    F_is_integer_word := fun_mk (st := sis_integer_word) lis_integer_word cis_integer_word kis_integer_word,
    b_is_integer_word := (fun_mk (st := sis_integer_word) lis_integer_word cis_integer_word kis_integer_word).binds (ps := ["word"]) fun _ _ _ _ _ _ us hl => match us, hl with | [_], _ => rfl,
    g_is_integer_word := PySem.W.mg_of X G ais_integer_word,
    a_is_form := a_is_form,
    d_is_form := (PySem.W.fnOf "is_form" "is_form" (defArgs sis_form) (defBody sis_form) (defScope sis_form) .none kV7 dc7 pm7 an7 cd7 ct7),
    F_is_form := fun_mk (st := sis_form) lis_form cis_form kis_form,
    b_is_form := (fun_mk (st := sis_form) lis_form cis_form kis_form).binds (ps := ["value"]) fun _ _ _ _ _ _ us hl => match us, hl with | [_], _ => rfl,
    g_is_form := PySem.W.mg_of X G ais_form,
    a__law_pen := a__law_pen,
    d__law_pen := (PySem.W.fnOf "_law_pen" "_law_pen" (defArgs s_law_pen) (defBody s_law_pen) (defScope s_law_pen) .none kV8 dc8 pm8 an8 cd8 ct8),
    F__law_pen := fun_mk (st := s_law_pen) l_law_pen c_law_pen k_law_pen,
    b__law_pen := (fun_mk (st := s_law_pen) l_law_pen c_law_pen k_law_pen).binds (ps := ["_law_script"]) fun _ _ _ _ _ _ us hl => match us, hl with | [_], _ => rfl,
    g__law_pen := PySem.W.mg_of X G a_law_pen,
    a__law_draw := a__law_draw,
    d__law_draw := (PySem.W.fnOf "_law_draw" "_law_draw" (defArgs s_law_draw) (defBody s_law_draw) (defScope s_law_draw) .none kV9 dc9 pm9 an9 cd9 ct9),
    F__law_draw := fun_mk (st := s_law_draw) l_law_draw c_law_draw k_law_draw,
    b__law_draw := (fun_mk (st := s_law_draw) l_law_draw c_law_draw k_law_draw).binds (ps := ["_law_pen_here", "_law_many"]) fun _ _ _ _ _ _ us hl => match us, hl with | [_, _], _ => rfl,
    g__law_draw := PySem.W.mg_of X G a_law_draw,
    a__law_pick := a__law_pick,
    d__law_pick := (PySem.W.fnOf "_law_pick" "_law_pick" (defArgs s_law_pick) (defBody s_law_pick) (defScope s_law_pick) .none kV10 dc10 pm10 an10 cd10 ct10),
    F__law_pick := fun_mk (st := s_law_pick) l_law_pick c_law_pick k_law_pick,
    b__law_pick := (fun_mk (st := s_law_pick) l_law_pick c_law_pick k_law_pick).binds (ps := ["_law_pen_here", "_law_some"]) fun _ _ _ _ _ _ us hl => match us, hl with | [_, _], _ => rfl,
    g__law_pick := PySem.W.mg_of X G a_law_pick,
    a__law_factor := a__law_factor,
    d__law_factor := (PySem.W.fnOf "_law_factor" "_law_factor" (defArgs s_law_factor) (defBody s_law_factor) (defScope s_law_factor) .none kV11 dc11 pm11 an11 cd11 ct11),
    F__law_factor := fun_mk (st := s_law_factor) l_law_factor c_law_factor k_law_factor,
    b__law_factor := (fun_mk (st := s_law_factor) l_law_factor c_law_factor k_law_factor).binds (ps := ["_law_pen_here"]) fun _ _ _ _ _ _ us hl => match us, hl with | [_], _ => rfl,
    g__law_factor := PySem.W.mg_of X G a_law_factor,
    a__law_spot := a__law_spot,
    d__law_spot := (PySem.W.fnOf "_law_spot" "_law_spot" (defArgs s_law_spot) (defBody s_law_spot) (defScope s_law_spot) .none kV12 dc12 pm12 an12 cd12 ct12),
    F__law_spot := fun_mk (st := s_law_spot) l_law_spot c_law_spot k_law_spot,
    b__law_spot := (fun_mk (st := s_law_spot) l_law_spot c_law_spot k_law_spot).binds (ps := ["_law_text"]) fun _ _ _ _ _ _ us hl => match us, hl with | [_], _ => rfl,
    g__law_spot := PySem.W.mg_of X G a_law_spot,
    a__law_words_right := a__law_words_right,
    d__law_words_right := (PySem.W.fnOf "_law_words_right" "_law_words_right" (defArgs s_law_words_right) (defBody s_law_words_right) (defScope s_law_words_right) .none kV13 dc13 pm13 an13 cd13 ct13),
    F__law_words_right := fun_mk (st := s_law_words_right) l_law_words_right c_law_words_right k_law_words_right,
    b__law_words_right := (fun_mk (st := s_law_words_right) l_law_words_right c_law_words_right k_law_words_right).binds (ps := ["_law_pen_here", "_law_words"]) fun _ _ _ _ _ _ us hl => match us, hl with | [_, _], _ => rfl,
    g__law_words_right := PySem.W.mg_of X G a_law_words_right,
    a_law := a_law,
    d_law := (PySem.W.fnOf "law" "law" (defArgs slaw) (defBody slaw) (defScope slaw) .none kV14 dc14 pm14 an14 cd14 ct14),
    F_law := fun_mk (st := slaw) llaw claw klaw,
    b_law := (fun_mk (st := slaw) llaw claw klaw).binds (ps := ["_law_script"]) fun _ _ _ _ _ _ us hl => match us, hl with | [_], _ => rfl,
    g_law := PySem.W.mg_of X G alaw,
    a_Bound___init__ := a_Bound___init__,
    d_Bound___init__ := (PySem.W.fnOf "__init__" "Bound.__init__" (defArgs sBound___init__) (defBody sBound___init__) (defScope sBound___init__) (.ref dT15) kV15 dc15 pm15 an15 cd15 ct15),
    F_Bound___init__ := (⟨⟨oc15, od15, _, kV15, dc15, pm15, an15, cd15, ct15, sl15, rfl, lBound___init__, cBound___init__, .inr ⟨by simp, dT15, dO15, dI15, dM15, rfl, dlBound___init__, doBound___init__, dvBound___init__⟩, .inl rfl⟩, kBound___init__⟩ : FunD K "__init__" "Bound.__init__" (defArgs sBound___init__) (defBody sBound___init__) (defScope sBound___init__) [.bl false] [] a_Bound___init__ (PySem.W.fnOf "__init__" "Bound.__init__" (defArgs sBound___init__) (defBody sBound___init__) (defScope sBound___init__) (.ref dT15) kV15 dc15 pm15 an15 cd15 ct15)),
    b_Bound___init__ := by { obtain ⟨ds, hv, hb⟩ := FunD.binds1 (⟨⟨oc15, od15, _, kV15, dc15, pm15, an15, cd15, ct15, sl15, rfl, lBound___init__, cBound___init__, .inr ⟨by simp, dT15, dO15, dI15, dM15, rfl, dlBound___init__, doBound___init__, dvBound___init__⟩, .inl rfl⟩, kBound___init__⟩ : FunD K "__init__" "Bound.__init__" (defArgs sBound___init__) (defBody sBound___init__) (defScope sBound___init__) [.bl false] [] a_Bound___init__ (PySem.W.fnOf "__init__" "Bound.__init__" (defArgs sBound___init__) (defBody sBound___init__) (defScope sBound___init__) (.ref dT15) kV15 dc15 pm15 an15 cd15 ct15)) 3 1 (by simp) rfl (ps := ["self", "form", "is_strict"]) (fun T kV doc pm an cdv ct us its h1 h2 => by { match us, its, h1, h2 with | [_, _, _], [_], _, _ => exact ⟨_, rfl, rfl⟩ }); cases hv; exact hb },
    a_Bound_read := a_Bound_read,
    d_Bound_read := (PySem.W.fnOf "read" "Bound.read" (defArgs sBound_read) (defBody sBound_read) (defScope sBound_read) .none kV16 dc16 pm16 an16 cd16 ct16),
    F_Bound_read := fun_mk (st := sBound_read) lBound_read cBound_read kBound_read,
    b_Bound_read := (fun_mk (st := sBound_read) lBound_read cBound_read kBound_read).binds (ps := ["text"]) fun _ _ _ _ _ _ us hl => match us, hl with | [_], _ => rfl,
    a_Bound___eq__ := a_Bound___eq__,
    d_Bound___eq__ := (PySem.W.fnOf "__eq__" "Bound.__eq__" (defArgs sBound___eq__) (defBody sBound___eq__) (defScope sBound___eq__) .none kV17 dc17 pm17 an17 cd17 ct17),
    F_Bound___eq__ := fun_mk (st := sBound___eq__) lBound___eq__ cBound___eq__ kBound___eq__,
    b_Bound___eq__ := (fun_mk (st := sBound___eq__) lBound___eq__ cBound___eq__ kBound___eq__).binds (ps := ["self", "other"]) fun _ _ _ _ _ _ us hl => match us, hl with | [_, _], _ => rfl,
    a_Bound___str__ := a_Bound___str__,
    d_Bound___str__ := (PySem.W.fnOf "__str__" "Bound.__str__" (defArgs sBound___str__) (defBody sBound___str__) (defScope sBound___str__) .none kV18 dc18 pm18 an18 cd18 ct18),
    F_Bound___str__ := fun_mk (st := sBound___str__) lBound___str__ cBound___str__ kBound___str__,
    b_Bound___str__ := (fun_mk (st := sBound___str__) lBound___str__ cBound___str__ kBound___str__).binds (ps := ["self"]) fun _ _ _ _ _ _ us hl => match us, hl with | [_], _ => rfl,
    a_BadText___init__ := a_BadText___init__,
    d_BadText___init__ := (PySem.W.fnOf "__init__" "BadText.__init__" (defArgs sBadText___init__) (defBody sBadText___init__) (defScope sBadText___init__) .none kV19 dc19 pm19 an19 cd19 ct19),
    F_BadText___init__ := fun_mk (st := sBadText___init__) lBadText___init__ cBadText___init__ kBadText___init__,
    b_BadText___init__ := (fun_mk (st := sBadText___init__) lBadText___init__ cBadText___init__ kBadText___init__).binds (ps := ["self", "line", "word"]) fun _ _ _ _ _ _ us hl => match us, hl with | [_, _, _], _ => rfl,
    C_Bound := C_Bound,
    g_Bound := PySem.W.mg_of X G gBound,
    cl_Bound := ⟨pgBound, hdBound, poBound, saBound⟩,
    kc_Bound := kcBound,
    na_Bound_form := naBound_form,
    na_Bound_is_strict := naBound_is_strict,
    ne_Bound := neBound,
    mr_Bound := mrBound,
    ca_Bound := caBound,
    om_Bound___init__ := ⟨atBound___init__, fnBound___init__⟩,
    mk_Bound := ⟨mkBound, atBound___init__, fnBound___init__, kcBound⟩,
    p_Bound_read := p_Bound_read,
    mc_Bound_read := mc_Bound_read,
    sm_Bound_read := ⟨rdBound_read, gaBound_read, atBound_read, ⟨_, rcBound_read⟩, kBound_read⟩,
    om_Bound___eq__ := ⟨atBound___eq__, fnBound___eq__⟩,
    om_Bound___str__ := ⟨atBound___str__, fnBound___str__⟩,
    ki_Bound := kit_self,
    ks_Bound := kit_no ksBound (by decide +kernel),
    sg := sg,
    tk := tk,
    C_BadText := C_BadText,
    g_BadText := PySem.W.mg_of X G gBadText,
    ox_BadText := ⟨⟨_, _, _, _, _, _, _, _, _, _, _, _, _, _, _, xlBadText, rfBadText⟩, saBadText, eCBadText, tCBadText, kCBadText⟩,
    ic_BadText := atBadText___init__,
    ti_BadText := tiBadText,
    no_BadText_line := noBadText_line,
    no_BadText_word := noBadText_word,
    xf_BadText := ⟨gaBadText, ggBadText, eCBadText, hdBadText⟩,
    ki_BadText := kit_self,
    ex_BadText := ⟨gaBadText, ggBadText, eCBadText, hdBadText, caBadText, sg, tk, mrBadText⟩,
    em_BadText_BadText := exm_of2 ebBadText_BadText ekBadText_BadText etBadText_BadText emBadText_BadText,
    kb_Bound_read_0 := { to := fun s us ws _ hl => by { obtain ⟨h1, h2⟩ := gPerm_len hl (by decide); match us, ws, h1, h2 with | [], [_], _, _ => exact .of_eq rfl }, rel := fun r q => gPerm_rel r q },
    e_law := fun s v => .of_eq rfl,
    z_abs := PySem.W.mg_none_of X G z_abs,
    z_all := PySem.W.mg_none_of X G z_all,
    z_bool := PySem.W.mg_none_of X G z_bool,
    z_dict := PySem.W.mg_none_of X G z_dict,
    z_int := PySem.W.mg_none_of X G z_int,
    z_isinstance := PySem.W.mg_none_of X G z_isinstance,
    z_len := PySem.W.mg_none_of X G z_len,
    z_list := PySem.W.mg_none_of X G z_list,
    z_range := PySem.W.mg_none_of X G z_range,
    z_str := PySem.W.mg_none_of X G z_str,
    z_tuple := PySem.W.mg_none_of X G z_tuple,
    t_MOST_DIGITS := tc_MOST_DIGITS,
    c_MOST_DIGITS := PySem.W.mg_of X G c_MOST_DIGITS,
    t_MOST_FACTORS := tc_MOST_FACTORS,
    c_MOST_FACTORS := PySem.W.mg_of X G c_MOST_FACTORS }
  have e : Value.ref fa = .ref T.a_law := Option.some.inj (hfa.symm.trans T.g_law)
  injection e with e
  subst e
  exact ⟨T.d_law, T.e_law, fun base _ _ => ok_law T⟩
end JP
open PySem PySem.W PyProof.Rows
set_option maxRecDepth 100000 in
set_option maxHeartbeats 0 in
theorem PySem.Challenge.cw_rowcounts_k27_bounds_written_and_read_holds : PySem.Challenge.rw_rowcounts_k27_bounds_written_and_read.Holds := by
  w_on; o_law; k_head; (case hw => w_witness2)
  k_fill
  refine JP.walk_g (l := PySem.Challenge.rw_rowcounts_k27_bounds_written_and_read) (n := 63) (k := 12) (x := "_law_script") (sp := fun K => JP.spLaw K) rfl (by decide) rfl ⟨rfl, by decide, by decide⟩ (fun w h Y => PySem.W.kIn_of Y) ?F (fun _ _ a ns hl _ hS => ⟨a, ns, rfl, hS, hl, fun _ => rfl⟩)
  case F =>
    intro w mg fa h KX G hmg
    refine' JP.all_mk KX G hmg ?gBound ?gBadText ?tyBound_read ?rdBound_read ?gaBound_read ?gaBadText ?atBound___init__ ?atBound_read ?atBound___eq__ ?atBound___str__ ?atBadText___init__ ?rcBound_read ?ais_integer ?lis_integer ?cis_integer ?kis_integer ?aown_copy ?lown_copy ?cown_copy ?kown_copy ?awords_of ?lwords_of ?cwords_of ?kwords_of ?aword_at ?lword_at ?cword_at ?kword_at ?aexpect ?lexpect ?cexpect ?kexpect ?aexpect_end ?lexpect_end ?cexpect_end ?kexpect_end ?ais_integer_word ?lis_integer_word ?cis_integer_word ?kis_integer_word ?ais_form ?lis_form ?cis_form ?kis_form ?a_law_pen ?l_law_pen ?c_law_pen ?k_law_pen ?a_law_draw ?l_law_draw ?c_law_draw ?k_law_draw ?a_law_pick ?l_law_pick ?c_law_pick ?k_law_pick ?a_law_factor ?l_law_factor ?c_law_factor ?k_law_factor ?a_law_spot ?l_law_spot ?c_law_spot ?k_law_spot ?a_law_words_right ?l_law_words_right ?c_law_words_right ?k_law_words_right ?alaw ?llaw ?claw ?klaw ?lBound___init__ ?cBound___init__ ?kBound___init__ ?dlBound___init__ ?doBound___init__ ?dvBound___init__ ?lBound_read ?cBound_read ?kBound_read ?lBound___eq__ ?cBound___eq__ ?kBound___eq__ ?lBound___str__ ?cBound___str__ ?kBound___str__ ?lBadText___init__ ?cBadText___init__ ?kBadText___init__ ?pgBound ?hdBound ?poBound ?saBound ?kcBound ?naBound_form ?naBound_is_strict ?neBound ?mrBound ?caBound ?fnBound___init__ ?mkBound ?fnBound___eq__ ?fnBound___str__ ?ksBound ?sg ?tk ?xlBadText ?rfBadText ?saBadText ?eCBadText ?tCBadText ?kCBadText ?tiBadText ?noBadText_line ?noBadText_word ?ggBadText ?hdBadText ?caBadText ?mrBadText ?emBadText_BadText ?ekBadText_BadText ?ebBadText_BadText ?etBadText_BadText ?z_abs ?z_all ?z_bool ?z_dict ?z_int ?z_isinstance ?z_len ?z_list ?z_range ?z_str ?z_tuple ?c_MOST_DIGITS ?c_MOST_FACTORS
    (case gBound => k_is)
    (case gBadText => k_is)
    (case tyBound_read => k_is)
    (case rdBound_read => k_is)
    (case gaBound_read => k_is)
    (case gaBadText => k_is)
    (case atBound___init__ => k_is)
    (case atBound_read => k_is)
    (case atBound___eq__ => k_is)
    (case atBound___str__ => k_is)
    (case atBadText___init__ => k_is)
    (case rcBound_read => k_is)
    (case ais_integer => k_is)
    (case lis_integer => k_is)
    (case cis_integer => k_is)
    (case kis_integer => k_is)
    (case aown_copy => k_is)
    (case lown_copy => k_is)
    (case cown_copy => k_is)
    (case kown_copy => k_is)
    (case awords_of => k_is)
    (case lwords_of => k_is)
    (case cwords_of => k_is)
    (case kwords_of => k_is)
    (case aword_at => k_is)
    (case lword_at => k_is)
    (case cword_at => k_is)
    (case kword_at => k_is)
    (case aexpect => k_is)
    (case lexpect => k_is)
    (case cexpect => k_is)
    (case kexpect => k_is)
    (case aexpect_end => k_is)
    (case lexpect_end => k_is)
    (case cexpect_end => k_is)
    (case kexpect_end => k_is)
    (case ais_integer_word => k_is)
    (case lis_integer_word => k_is)
    (case cis_integer_word => k_is)
    (case kis_integer_word => k_is)
    (case ais_form => k_is)
    (case lis_form => k_is)
    (case cis_form => k_is)
    (case kis_form => k_is)
    (case a_law_pen => k_is)
    (case l_law_pen => k_is)
    (case c_law_pen => k_is)
    (case k_law_pen => k_is)
    (case a_law_draw => k_is)
    (case l_law_draw => k_is)
    (case c_law_draw => k_is)
    (case k_law_draw => k_is)
    (case a_law_pick => k_is)
    (case l_law_pick => k_is)
    (case c_law_pick => k_is)
    (case k_law_pick => k_is)
    (case a_law_factor => k_is)
    (case l_law_factor => k_is)
    (case c_law_factor => k_is)
    (case k_law_factor => k_is)
    (case a_law_spot => k_is)
    (case l_law_spot => k_is)
    (case c_law_spot => k_is)
    (case k_law_spot => k_is)
    (case a_law_words_right => k_is)
    (case l_law_words_right => k_is)
    (case c_law_words_right => k_is)
    (case k_law_words_right => k_is)
    (case alaw => k_is)
    (case llaw => k_is)
    (case claw => k_is)
    (case klaw => k_is)
    (case lBound___init__ => k_is)
    (case cBound___init__ => k_is)
    (case kBound___init__ => k_is)
    (case dlBound___init__ => k_is)
    (case doBound___init__ => rfl)
    (case dvBound___init__ => exact .cons rfl .nil)
    (case lBound_read => k_is)
    (case cBound_read => k_is)
    (case kBound_read => k_is)
    (case lBound___eq__ => k_is)
    (case cBound___eq__ => k_is)
    (case kBound___eq__ => k_is)
    (case lBound___str__ => k_is)
    (case cBound___str__ => k_is)
    (case kBound___str__ => k_is)
    (case lBadText___init__ => k_is)
    (case cBadText___init__ => k_is)
    (case kBadText___init__ => k_is)
    (case pgBound => k_is)
    (case hdBound => k_is)
    (case poBound => k_is)
    (case saBound => k_is)
    (case kcBound => k_is)
    (case naBound_form => k_is)
    (case naBound_is_strict => k_is)
    (case neBound => k_is)
    (case mrBound => k_is)
    (case caBound => k_is)
    (case fnBound___init__ => k_is)
    (case mkBound => k_is)
    (case fnBound___eq__ => k_is)
    (case fnBound___str__ => k_is)
    (case ksBound => k_is)
    (case sg => k_is)
    (case tk => k_is)
    (case xlBadText => k_is)
    (case rfBadText => decide +kernel)
    (case saBadText => k_is)
    (case eCBadText => k_is)
    (case tCBadText => k_is)
    (case kCBadText => k_is)
    (case tiBadText => k_is)
    (case noBadText_line => k_is)
    (case noBadText_word => k_is)
    (case ggBadText => k_is)
    (case hdBadText => k_is)
    (case caBadText => k_is)
    (case mrBadText => k_is)
    (case emBadText_BadText => k_is)
    (case ekBadText_BadText => k_is)
    (case ebBadText_BadText => k_is)
    (case etBadText_BadText => k_is)
    (case z_abs => k_is)
    (case z_all => k_is)
    (case z_bool => k_is)
    (case z_dict => k_is)
    (case z_int => k_is)
    (case z_isinstance => k_is)
    (case z_len => k_is)
    (case z_list => k_is)
    (case z_range => k_is)
    (case z_str => k_is)
    (case z_tuple => k_is)
    (case c_MOST_DIGITS => k_is)
    (case c_MOST_FACTORS => k_is)
