import PyProof.Rows.All
import Wide.All
import OpenK.AllK
import Wide.FinOn
import HandS.ForMost
import HandS.IsInst
import PyProof.ReprRoads
import PyProof.ReprText
import HandS.Wide
import HandS.Walk
import HandS.Zip
import KE.KEqSeq
import HandS.TupMul
import KE.GoesEnum
import KE.GoesMore
import KE.KEqDeep
import OpenK.KMore
import HandS.Exc
import HandS.ExcInit
import HandS.ExcField
import HandS.ExcIs
import HandS.TryOnly
import HandS.ClsMeth
import HandS.Defaults
import HandS.MakeKw
import HandS.Text
import HandS.StrMore
import HandS.Flow
import HandS.SlotsOwn
import HandS.ExcOwn
import KE.KCallOwn
import KE.KExcIs
import KE.KFmtOwn
import PyProof.InstEq
import HandS.Star
import HandS.WordsExc
import KE.IntTextLaws
import HandS.Lambda
import KE.GoesZip
import HandS.Property
import HandS.MakeKwOnly
import KE.KOpsOwn
import KE.KNestM
import HandS.EndTab
import HandS.HeadWalk
import HandS.Head2
import HandS.Head3
import HandS.HeadHook3
import HandS.HeadHook4
import PySem.Challenge.RW_rowcounts_k25_bounds_made_and_asked
set_option Elab.async false
set_option linter.all false
set_option maxRecDepth 100000
set_option maxHeartbeats 4000000
namespace JP
open PySem PySem.Spec PyProof.Rows L2

/-! ## defs that are only called where no repr is going on -/
/-- a promise that is kept wherever no guard is on the stack -/
structure GOk (P : Program) (w : World) (K : PySem.W.Frag) (mg : Str → Option Value) (base : Heap) (k : Nat) (f : Addr) (fd : FuncData) (ps : List Str) (sp : Sp) : Prop where
  arity : ∀ vs H Q E, sp vs H Q E → vs.length = ps.length
  kept : ∀ (A : Around) (outer : List Env) (s : Shared) (H : Hp) (args : Args) (us : List Value) (vs : List V) (Q : VK) (E : XK), A.guards = some [] → Room k A →
    Env0 P w K mg base A outer s H → BindsTo s fd args (ps.zip us) → Vals vs us → sp vs H Q E → codeAny (model P w) A (.call (.ref f) args) (CR CX0 outer P w H s Q E) s

section
variable {P : Program} {w : World} {K : PySem.W.Frag} {mg : Str → Option Value} {base : Heap} {j k : Nat} {f : Addr} {fd : FuncData} {ps N : List Str} {sp : Sp}
theorem GOk.ofFn (F : FnOk P w K mg base CX0 k f fd ps sp) : GOk P w K mg base k f fd ps sp :=
  ⟨F.len, fun A outer s H args us vs Q E _ hr e0 hb hv hs => F.run A outer s H args us vs Q E hr e0 hb hv hs⟩
theorem GOk.mono (F : GOk P w K mg base j f fd ps sp) (h : j ≤ k) : GOk P w K mg base k f fd ps sp :=
  ⟨F.arity, fun A outer s H args us vs Q E g hr e0 hb hv hs => F.kept A outer s H args us vs Q E g (hr.mono h) e0 hb hv hs⟩

/-- a def of the text by its body; g: no guard around the body -/
theorem gok {x qual : Str} {st : Stmt} (F : Fun K x qual st f fd) (S : FnScope N ps (defScope st)) (len : ∀ vs H Q E, sp vs H Q E → vs.length = ps.length)
    (body : ∀ (cdv : Value) (A : Around) (outer : List Env) (s : Shared) (H : Hp) (vs : List V) (Q : VK) (E : XK), A.guards = some [] →
      Room k (A.deeper (envOfC qual (defScope st) s.heap.objs.size f cdv)) → sp vs H Q E →
      ∃ t, PSs (cxOf CX0 P w K mg base N qual (defScope st) f cdv A outer s H E).nox (defBody st) t ∧ t { nx := fun _ H' => Q .non H', rt := Q } (start N vs) H) :
    GOk P w K mg base (k + 1) f fd ps sp := by
  obtain ⟨oc, od, kV, doc, pm, an, cdv, ct, osl, rfl, lk, hcd⟩ := F.ex
  constructor
  · exact len
  intro A outer s H args us vs Q E g hr e0 hb r hs
  have hl := len vs H Q E hs
  have inK : K.In s.heap := e0.mod.kin.keeps fun b o q => (e0.bs b o q).1
  have nl : s.heap.NoLimit := e0.mod.nolimit.keeps fun b o q => (e0.bs b o q).1
  have kinds : ∀ y ∈ ps.zip us, (defScope st).names.lookup y.1 = some .local ∨ ((defScope st).names.lookup y.1 = some .cell ∧ ((cellsFrom (s.heap.objs.size + 1) (defScope st).names []).lookup y.1).isSome = true) := by
    intro y hy
    obtain ⟨n, v⟩ := y
    cases S.par n (List.of_mem_zip hy).1 with
    | inl q => exact Or.inl q
    | inr q => exact Or.inr (And.intro q (PySem.W.cellsFrom_some _ _ _ (Or.inl q)))
  apply codeAny_call_function hr.depth (inK _ _ lk) rfl S.co S.gen rfl (PySem.W.codeRec_of inK hcd)
  apply hb
  apply wpAny_newFunctionEnv_cells S.kind kinds
  intro env he s1 x1
  subst he
  refine And.intro (nl.keeps x1.toInCall.keep) (codeAny_func ?_)
  obtain ⟨t, ht, hq⟩ := body cdv A outer s H vs Q E g (hr.deeper _) hs
  have I : Inv (cxOf CX0 P w K mg base N qual (defScope st) f cdv A outer s H E) [] (start N vs) H s1 := inv_start S hr.hd e0 hl r x1
  apply wpAny_mono (ht.nox.run [] s1 (start N vs) H _ I hq)
  · intro fl s' q
    match fl, q with
    | .ret u, ⟨v, _, H', J, rv, z⟩ => exact ⟨v, H', J.os, J.bare, J.base, J.hok, rv, z⟩
    | .next, ⟨_, H', J, z⟩ => exact ⟨.non, H', J.os, J.bare, J.base, J.hok, rfl, z⟩
    | .brk, ⟨_, _, _, z⟩ => exact z.elim
    | .cont, ⟨_, _, _, z⟩ => exact z.elim
  · exact fun _ _ q => q
end

section
variable {X : Cx} {k : Nat} {f : Addr} {fd : FuncData} {ps : List Str} {sp : Sp} {x : Str} {p pos : Pos} {e : Expr} {es : List Expr} {t : TA} {dvs : List V} {ds : List Value} {E : XK}
theorem run_g {pins : List (Addr × Obj)} {σ : L2.St} {H : Hp} {s : Shared} {Q : VK} {us : List Value} {vs : List V} (F : GOk X.prog X.w X.K X.mg X.base k f fd ps sp) (g : X.A.guards = some []) (hr : Room k X.A)
    (hb : Binds X.K fd ps ds) (hd : Vals dvs ds) (I : Inv X pins σ H s) (r : Vals vs us) (h : sp (vs ++ dvs) H Q E) : wpAny (model X.prog X.w) X.A (call (.ref f) us) (EP X pins σ Q) X.xe s := by
  have r' := Vals.append r hd
  have n : (us ++ ds).length = ps.length := r'.length.symm.trans (F.arity _ _ _ _ h)
  apply wpAny_call
  apply codeAny_mono (F.kept X.A X.stack s H ⟨us, []⟩ (us ++ ds) (vs ++ dvs) Q E g hr I.env0 (hb s us I.kIn n) r' h)
  intro res s' q
  match res, q with
  | .ok (.ret u), q => exact I.after q
  | .ok .next, q => exact q.elim
  | .ok .brk, q => exact q.elim
  | .ok .cont, q => exact q.elim
  | .error _, q => exact False.elim q
/-- a call of such a def, by position -/
theorem pe_g (F : GOk X.prog X.w X.K X.mg X.base k f fd ps sp) (g : X.A.guards = some []) (hr : Room k X.A) (hg : Gl X x) (hm : X.mg x = some (.ref f)) (hk : PySem.W.keepIn X.K (.ref f) = true)
    (hb : Binds X.K fd ps ds) (hd : Vals dvs ds) (ha : PA X (e :: es) t) (hdb : (x == ("__debug__" : Str)) = false := by decide)
    (he : starEach (e :: es) X.env = (false, eval e X.env) :: starEach es X.env := by rfl) (hpl : (backTo pos (starEach es X.env)).any (·.1) = false := by rfl) :
    PE X (.Call (.Name x p) (e :: es) [] pos) (tCall sp dvs E t) := by
  constructor
  intro pins s σ H Q I h
  apply wpAny_Call_Name_kw
  apply ld_glob I hg hm _ hdb
  exact PySem.W.callWith_K (h₀ := X.base) I.ok.mod.kin hk (thn (ha.run pos pins s σ H _ I h) fun us s1 ⟨vs, H1, I1, r, q⟩ => ⟨I1.kIn, run_g F g hr hb hd I1 r q⟩) he hpl
end

/-! ## repr of data: none, bools, ints, texts, lists, tuples, dicts with text keys -/
mutual
inductive Dq (K : PySem.W.Frag) (H : Hp) : V → PyData → Prop
  | non : Dq K H .non .none
  | bl (b : Bool) : Dq K H (.bl b) (.bool b)
  | int (i : Int) : Dq K H (.int i) (.int i)
  | str (x : Str) : Dq K H (.str x) (.str x)
  | lst {a : Addr} {xs : List V} {ds : List PyData} : SqL K H a xs → DqAll K H xs ds → Dq K H (.ref a) (.list ds)
  | tup {a : Addr} {xs : List V} {ds : List PyData} : SqT K H a xs → DqAll K H xs ds → Dq K H (.ref a) (.tuple ds)
inductive DqAll (K : PySem.W.Frag) (H : Hp) : List V → List PyData → Prop
  | nil : DqAll K H [] []
  | cons {v : V} {vs : List V} {d : PyData} {ds : List PyData} : Dq K H v d → DqAll K H vs ds → DqAll K H (v :: vs) (d :: ds)
end
section
variable {X : Cx}
/-- repr(x) of such data -/
def rRepr (K : PySem.W.Frag) : List V → Hp → VK → Prop := fun xs H Q => ∃ x d, xs = [x] ∧ Dp K H x d ∧ d.showable = true ∧ d.hasDict = false ∧ d.depth ≤ 60 ∧ d.shown.length ≤ sizeLine ∧ Q (.str d.shown) H
theorem call_repr (g : X.A.guards = some []) (hu : X.A.units + 64 < cLine) : CallR X (.builtin "repr") (rRepr X.K) := by
  intro pins s σ H xs us Q I r h
  obtain ⟨x, d, rfl, hd, sh, nd, dp, sz, q⟩ := h
  obtain ⟨u, rfl, rv⟩ := vals1 r
  obtain ⟨as, rd⟩ := Dp.reads I d x u hd rv
  cases hd with
  | non =>
    cases rv
    refine PySem.P.repr_of_none ⟨.str _, H, I.tok _, ⟨_, rfl⟩, ?_⟩
    rw [PyData.shown_none] at q
    exact q
  | bl b =>
    cases rv
    refine PySem.P.repr_of_bool ⟨.str _, H, I.tok _, ⟨_, rfl⟩, ?_⟩
    rw [PyData.shown_bool] at q
    exact q
  | int i =>
    obtain ⟨t, rfl⟩ := rv
    refine PySem.P.repr_of_int (by simpa [PyData.showable] using sh) ⟨.str _, H, I.tok _, ⟨_, rfl⟩, ?_⟩
    rw [PyData.shown_int] at q
    exact q
  | str y =>
    obtain ⟨t, rfl⟩ := rv
    rw [PyData.shown_str] at q sz
    exact PySem.P.repr_of_str ⟨.str _, H, I.tok _, ⟨_, rfl⟩, q⟩ sz
  | lst a b =>
    cases rv
    exact repr_of_reads' rd sh (by rw [nd]; intro z; cases z) g (by omega) (fun _ _ e => e) (fun h' u tk k => ⟨.str _, H, I.kept k, ⟨_, rfl⟩, q⟩) sz
  | tup a b =>
    cases rv
    exact repr_of_reads' rd sh (by rw [nd]; intro z; cases z) g (by omega) (fun _ _ e => e) (fun h' u tk k => ⟨.str _, H, I.kept k, ⟨_, rfl⟩, q⟩) sz
end
end JP

namespace JP
open PySem PySem.Spec PySem.W PySem.Calls PyProof.Rows L2

/-! ## the end of a law's row, from a promise where no guard is on the stack -/
/-- the abstract heap at the law's call: the script at most -/
def scriptHp (K : PySem.W.Frag) (a : Addr) (o : Obj) (xs : List V) : Hp := fun b => if b = a ∧ K.lookup a = none then some (.frz o (.lst xs)) else none
section
variable {P : Program} {w : World} {K : PySem.W.Frag} {a b : Addr} {o : Obj} {xs : List V} {h : Heap}
theorem scriptHp_cases (b : Addr) : scriptHp K a o xs b = none ∨ (b = a ∧ K.lookup a = none ∧ scriptHp K a o xs b = some (.frz o (.lst xs))) := by
  unfold scriptHp
  by_cases c : b = a ∧ K.lookup a = none
  · right
    exact ⟨c.1, c.2, if_pos c⟩
  · left
    exact if_neg c
theorem scriptHp_some {u : HO} (e : scriptHp K a o xs b = some u) : b = a ∧ K.lookup a = none ∧ u = .frz o (.lst xs) := by
  rcases scriptHp_cases (K := K) (a := a) (o := o) (xs := xs) b with n | ⟨h1, h2, h3⟩
  · rw [n] at e
    cases e
  · rw [h3] at e
    exact ⟨h1, h2, (Option.some.inj e).symm⟩
theorem scriptHp_only : Only (scriptHp K a o xs) := fun b => by
  rcases scriptHp_cases (K := K) (a := a) (o := o) (xs := xs) b with n | ⟨_, _, e⟩
  · exact .inl n
  · exact .inr ⟨o, xs, e⟩
end

/-- the call of the law -/
theorem law_g {P : Program} {w : World} {K : PySem.W.Frag} {mg mb : Str → Option Value} {k : Nat} {fa a : Addr} {fd : FuncData} {x : Str} {sp : Sp} {s : Shared} {vs : List Value} {ns : List Int}
    (inK : K.In s.heap) (gl : s.heap.Ns mainGlobals mg) (bl : s.heap.Ns builtinsNs mb) (blt : ∀ x : Str, x ≠ "__name__" → mb x = bootBuiltins x) (nl : s.heap.NoLimit) (gens : s.gens = #[])
    (obj : s.heap.get? a = some { cls := .type "list", data := .seq vs.toArray }) (hnum : IntsAre vs ns) (small : ns.length ≤ sizeLine) (room : Room k callerA)
    (F : ∀ base : Heap, K.In base → base.Ns mainGlobals mg → GOk P w K mg base k fa fd [x] sp) (bind : ∀ (s : Shared) (u : Value), BindsTo s fd ⟨[u], []⟩ [(x, u)])
    (sat : ∀ H : Hp, Only H → SqL K H a (ns.map V.int) → sp [.ref a] H (fun v _ => v = .bl true) fun _ _ _ => False) :
    codeAny (model P w) callerA (.call (.ref fa) ⟨[.ref a], []⟩) (fun r s' => r = .ok (.ret (.bool true)) ∧ OldK s.heap s'.heap ∧ s'.os = s.os ∧ AllBare s'.gens) s := by
  have rel := vals_ints hnum
  have wide : (ns.map V.int).length ≤ sizeLine := by
    rw [List.length_map]
    exact small
  generalize hH : scriptHp K a { cls := .type "list", data := .seq vs.toArray } (ns.map V.int) = H
  have only : Only H := hH ▸ scriptHp_only
  have some_of : ∀ {b : Addr} {u : HO}, H b = some u → b = a ∧ K.lookup a = none ∧ u = .frz { cls := .type "list", data := .seq vs.toArray } (.lst (ns.map V.int)) := fun e => scriptHp_some (hH ▸ e)
  have held : HOk P w H s.heap := by
    intro b u e
    obtain ⟨rfl, _, rfl⟩ := some_of e
    exact ⟨obj, wide, vs, _, rel, obj⟩
  have seq : SqL K H a (ns.map V.int) := by
    cases q : K.lookup a with
    | none =>
      refine .inl (.inr ⟨{ cls := .type "list", data := .seq vs.toArray }, ?_⟩)
      rw [← hH]
      exact if_pos ⟨rfl, q⟩
    | some o =>
      have e := inK a o q
      rw [obj] at e
      cases e
      exact .inr ⟨_, vs.toArray, _, q, rfl, rfl, rfl, by
        rw [List.size_toArray, hnum.length]
        exact small, by simpa using rel⟩
  have free : ∀ {b : Addr} {ob : Obj}, s.heap.get? b = some ob → (∀ its n, ob.data ≠ .seq its n) → H b = none := fun {b ob} e d => by
    cases q : H b with
    | none => rfl
    | some u =>
      obtain ⟨rfl, _, _⟩ := some_of q
      rw [obj] at e
      cases e
      exact absurd rfl (d _ _)
  have nsOk : ∀ {b : Addr} {m : Str → Option Value}, s.heap.Ns b m → (hidT s.heap H).Ns b m := by
    intro b m z
    obtain ⟨ob, es, ep, e, d, r⟩ := z
    exact ⟨ob, es, ep, hidT_get e (free e (by intro its n z; rw [d] at z; cases z)), d, r⟩
  have inB : K.In (hidT s.heap H) := by
    intro b ob e
    refine hidT_get (inK b ob e) ?_
    cases q : H b with
    | none => rfl
    | some u =>
      obtain ⟨rfl, z, _⟩ := some_of q
      rw [z] at e
      cases e
  have mods : Mod K mg (hidT s.heap H) := by
    obtain ⟨mc, h1, h2⟩ := nl
    exact ⟨inB, nsOk gl, ⟨mb, nsOk bl, blt⟩, mc, nsOk h1, h2⟩
  have e0 : Env0 P w K mg (hidT s.heap H) callerA [] s H :=
    { frames := rfl, mod := mods, bs := fun b o e => of_hidT e, bsz := Nat.le_of_eq (hidT_size _ _), funs := trivial, frf := fun b z => (List.not_mem_nil z).elim, hok := held, bare := .of_eq gens }
  apply codeAny_mono ((F _ inB (nsOk gl)).kept callerA [] s H ⟨[.ref a], []⟩ [.ref a] [.ref a] _ _ rfl room e0 (bind s (.ref a)) (.cons rfl .nil) (sat H only seq))
  intro r s' z
  match r, z with
  | .error _, z => exact z.elim
  | .ok .next, z => exact z.elim
  | .ok .brk, z => exact z.elim
  | .ok .cont, z => exact z.elim
  | .ok (.ret u), ⟨v, H', os, bare, un, held', rv, z⟩ =>
    have ev : v = .bl true := z
    subst ev
    have eu : u = Value.bool true := rv
    subst eu
    refine ⟨rfl, OldK.of_keep ?_, os, bare⟩
    intro b ob e
    cases q : H b with
    | none => exact un.keep b ob e q List.not_mem_nil List.not_mem_nil
    | some u =>
      obtain ⟨rfl, _, rfl⟩ := some_of q
      have e1 := (held' _ _ (un.frzs _ _ _ q)).1
      rw [obj] at e
      cases e
      exact e1

theorem walk_g {l : PySem.W.OpenLaw} {n k : Nat} {q : Program} {loose : List Str} {XP : (Str → Option Value) → Heap → Prop} {YP : World → Heap → Prop} {d : DefRec} {K : PySem.Params → PySem.W.Frag} {sp : PySem.W.Frag → Sp} {x : Str}
    (hn : l.most = some n) (hn2 : n ≤ sizeLine) (hdf : d.params.defaults = []) (hr : Room k callerA) (hY : ∀ (w : World) (h : Heap), YP w h → (K w.params).In h)
    (F : ∀ (w : World) (mg : Str → Option Value) (fa : Addr) (h : Heap), (K w.params).In h → h.Ns mainGlobals mg → mg d.name = some (.ref fa) →
      ∃ fd : FuncData, (∀ (s : Shared) (u : Value), BindsTo s fd ⟨[u], []⟩ [(x, u)]) ∧ ∀ base : Heap, (K w.params).In base → base.Ns mainGlobals mg → GOk l.prog w (K w.params) mg base k fa fd [x] (sp (K w.params)))
    (sat : ∀ (K : PySem.W.Frag) (H : Hp) (a : Addr) (ns : List Int), ns.length ≤ n → Only H → SqL K H a (ns.map V.int) → sp K [.ref a] H (fun v _ => v = .bl true) fun _ _ _ => False) :
    PySem.W.WalkO q loose XP YP l.row.toRowW d [] (fun f vs => PySem.call f vs) := by
  apply Att.attach_call hn hdf
  intro w s₀ s mg mb fa o pm cd doc a vs ns G Y ho hd hcd hmg obj hnum len gens
  obtain ⟨fd, hb, hF⟩ := F w mg fa _ (hY w _ Y) G.T.g hmg
  exact law_g (hY w _ Y) G.T.g G.T.b G.T.builtins G.T.nolimit gens obj hnum (Nat.le_trans len hn2) hr hF hb fun H hO hS => sat _ H a ns len hO hS
end JP

namespace JP
open PySem PySem.Spec PyProof.Rows L2
/-! ### the pen: what a law draws from -/
def Pen (H : Hp) (p c : Addr) (m : Nat) : Prop := ∃ (ns : List Int) (n g : Int), H p = some (.lst [.ref c, .int n, .int g]) ∧ H c = some (.lst (ns.map V.int)) ∧ c ≠ p ∧ ns.length ≤ 63 ∧ 0 ≤ n ∧ n ≤ m ∧ 0 ≤ g
/-- all but the pen is as it was -/
def But (p : Addr) (H H' : Hp) : Prop := ∀ b o, b ≠ p → H b = some o → H' b = some o
theorem fmod_lo (x : Int) {y : Int} (h : 1 ≤ y) : 0 ≤ x.fmod y := by
  rw [Int.fmod_eq_emod_of_nonneg x (by omega)]
  exact Int.emod_nonneg x (by omega)
theorem fmod_lt (x : Int) {y : Int} (h : 1 ≤ y) : x.fmod y < y := by
  rw [Int.fmod_eq_emod_of_nonneg x (by omega)]
  exact Int.emod_lt_of_pos x (by omega)
theorem fmod_32 {x C : Int} (h1 : 1 ≤ C) (h2 : C ≤ 2 ^ 32) : x.fmod C < 2 ^ 32 := by
  have := fmod_lt x h1
  omega
theorem fmod_64 {x C : Int} (h1 : 1 ≤ C) (h2 : C ≤ 2 ^ 32) : -(2 ^ 64) < x.fmod C ∧ x.fmod C < 2 ^ 64 := by
  have := fmod_lt x h1
  have := fmod_lo x h1
  omega
theorem mix_bound {x C D E n : Int} {m : Nat} (h1 : 1 ≤ C) (h2 : C ≤ 2 ^ 32) (h3 : 0 ≤ D) (h4 : D ≤ 2 ^ 20) (h5 : 0 ≤ E) (h6 : E ≤ 2 ^ 20) (n0 : 0 ≤ n) (nm : n ≤ m) (hm : m ≤ 2 ^ 20) : (x.fmod C + D * n + E).natAbs < 2 ^ 64 := by
  have a := fmod_lo x h1
  have b := fmod_lt x h1
  have c : D * n ≤ 2 ^ 20 * 2 ^ 20 := Int.mul_le_mul h4 (by omega) n0 (by decide)
  have d : 0 ≤ D * n := Int.mul_nonneg h3 n0
  omega
theorem mix_bound2 {x C D E n : Int} {m : Nat} (h1 : 0 ≤ C) (h2 : C ≤ 2 ^ 20) (h3 : 0 ≤ D) (h4 : D ≤ 2 ^ 20) (h5 : 0 ≤ E) (h6 : E ≤ 2 ^ 20) (x0 : 0 ≤ x) (x1 : x < 2 ^ 32) (n0 : 0 ≤ n) (nm : n ≤ m) (hm : m ≤ 2 ^ 20) : (x * (2 * n + C) + D * n * n + E).natAbs < 2 ^ 64 := by
  have c : D * n ≤ 2 ^ 20 * 2 ^ 20 := Int.mul_le_mul h4 (by omega) n0 (by decide)
  have d : 0 ≤ D * n := Int.mul_nonneg h3 n0
  have c2 : D * n * n ≤ (2 ^ 20 * 2 ^ 20) * 2 ^ 20 := Int.mul_le_mul c (by omega) n0 (by decide)
  have d2 : 0 ≤ D * n * n := Int.mul_nonneg d n0
  have c3 : x * (2 * n + C) ≤ 2 ^ 32 * 2 ^ 22 := Int.mul_le_mul (by omega) (by omega) (by omega) (by decide)
  have d3 : 0 ≤ x * (2 * n + C) := Int.mul_nonneg x0 (by omega)
  omega
theorem but_upd {H : Hp} (p : Addr) (o : HO) : But p H (upd H p o) := fun b u n e => by
  rw [upd_ne n]
  exact e
theorem But.trans {p : Addr} {H H1 H2 : Hp} (a : But p H H1) (b : But p H1 H2) : But p H H2 := fun c o n e => b c o n (a c o n e)
theorem But.of_same {p : Addr} {H H1 : Hp} (a : Same H H1) : But p H H1 := fun c o _ e => a c o e
theorem but_new {H : Hp} {p a : Addr} {o : HO} (h : H a = none) : But p H (upd H a o) := fun b u _ e => by
  rw [upd_ne (ne_of_none e h)]
  exact e
theorem pen_set {H : Hp} {p c : Addr} {ns : List Int} {n g n' g' : Int} {m : Nat} (hp : H p = some (.lst [.ref c, .int n, .int g])) (hc : H c = some (.lst (ns.map V.int))) (ncp : c ≠ p) (hl : ns.length ≤ 63) (h0 : 0 ≤ n') (h1 : n' ≤ m) (h2 : 0 ≤ g') :
    Pen (upd H p (.lst [.ref c, .int n', .int g'])) p c m :=
  ⟨ns, n', g', upd_same, by
    rw [upd_ne ncp]
    exact hc, ncp, hl, h0, h1, h2⟩
theorem dp_ints {K : PySem.W.Frag} {H : Hp} : ∀ ns : List Int, DpAll K H (ns.map V.int) (ns.map PyData.int)
  | [] => .nil
  | n :: ns => .cons (.int n) (dp_ints ns)
theorem Pen.mono {H : Hp} {p c : Addr} {m n : Nat} (h : Pen H p c m) (k : m ≤ n) : Pen H p c n := by
  obtain ⟨ns, x, g, h1, h2, h3, h4, h5, h6, h7⟩ := h
  exact ⟨ns, x, g, h1, h2, h3, h4, h5, by omega, h7⟩
theorem Pen.same {H H' : Hp} {p c : Addr} {m : Nat} (h : Pen H p c m) (k : Same H H') : Pen H' p c m := by
  obtain ⟨ns, x, g, h1, h2, h3⟩ := h
  exact ⟨ns, x, g, k _ _ h1, k _ _ h2, h3⟩
theorem Pen.at_ {H : Hp} {p c : Addr} {m : Nat} (h : Pen H p c m) : ∃ xs, H p = some (.lst xs) := by
  obtain ⟨ns, x, g, h1, _⟩ := h
  exact ⟨_, h1⟩
theorem Pen.ne_none {H : Hp} {p c a : Addr} {m : Nat} (h : Pen H p c m) (e : H a = none) : a ≠ p := by
  obtain ⟨xs, q⟩ := h.at_
  exact (ne_of_none q e).symm
theorem Pen.ne_none2 {H : Hp} {p c a : Addr} {m : Nat} (h : Pen H p c m) (e : H a = none) : a ≠ c := by
  obtain ⟨ns, x, g, _, h2, _⟩ := h
  exact (ne_of_none h2 e).symm
/-- the pen stays where another object is written -/
theorem Pen.updN {H : Hp} {p c D : Addr} {m : Nat} {o : HO} (h : Pen H p c m) (n : D ≠ p) (n2 : D ≠ c) : Pen (upd H D o) p c m := by
  obtain ⟨ns, x, g, h1, h2, h3⟩ := h
  exact ⟨ns, x, g, (upd_ne n.symm).trans h1, (upd_ne n2.symm).trans h2, h3⟩
theorem same_new {H : Hp} {a : Addr} {o : HO} (h : H a = none) : Same H (upd H a o) := fun b u e => by
  rw [upd_ne (ne_of_none e h)]
  exact e
theorem But.seqL {K : PySem.W.Frag} {p a : Addr} {H H' : Hp} {xs : List V} (e : But p H H') (n : a ≠ p) (h : SqL K H a xs) : SqL K H' a xs := by
  rcases h with (h | ⟨o, h⟩) | h
  · exact .inl (.inl (e _ _ n h))
  · exact .inl (.inr ⟨o, e _ _ n h⟩)
  · exact .inr h
theorem But.seqT {K : PySem.W.Frag} {p a : Addr} {H H' : Hp} {xs : List V} (e : But p H H') (n : a ≠ p) (h : SqT K H a xs) : SqT K H' a xs := by
  rcases h with (h | ⟨o, h⟩) | h
  · exact .inl (.inl (e _ _ n h))
  · exact .inl (.inr ⟨o, e _ _ n h⟩)
  · exact .inr h
theorem same_seqT {K : PySem.W.Frag} {a : Addr} {H H' : Hp} {xs : List V} (e : Same H H') (h : SqT K H a xs) : SqT K H' a xs := by
  rcases h with (h | ⟨o, h⟩) | h
  · exact .inl (.inl (e _ _ h))
  · exact .inl (.inr ⟨o, e _ _ h⟩)
  · exact .inr h
theorem But.refl (p : Addr) (H : Hp) : But p H H := fun _ _ _ e => e
theorem atI_of {xs : List V} {r : Int} (h0 : 0 ≤ r) (h1 : r < xs.length) : ∃ v, atI xs r = some v ∧ v ∈ xs := by
  have hl : r.toNat < xs.length := by omega
  refine ⟨xs[r.toNat], ?_, List.getElem_mem hl⟩
  have := atI_nat (xs := xs) (j := r.toNat) (List.getElem?_eq_getElem hl)
  rw [Int.toNat_of_nonneg h0] at this
  exact this
theorem cut_all (xs : List V) {n : Nat} (h : xs.length ≤ n) : cutV xs none (some (n : Int)) = xs := by
  unfold cutV
  rw [show HT.sIx xs.length xs.length (some (n : Int)) = min n xs.length from HT.sIx_nat xs.length xs.length n, HT.sIx_none, Nat.min_eq_right h]
  simp
end JP

namespace JP
open PySem PySem.Spec PyProof.Rows L2

/-! ### values of several kinds, and isinstance of them -/
inductive Ki where
  | non | bl | int | str | lst | tup | dct
  deriving DecidableEq
def Ki.name : Ki → String
  | .non => "NoneType" | .bl => "bool" | .int => "int" | .str => "str" | .lst => "list" | .tup => "tuple" | .dct => "dict"
/-- x is of kind k in H -/
def IsKi (H : Hp) (x : V) : Ki → Prop
  | .non => x = .non
  | .bl => ∃ b, x = .bl b
  | .int => ∃ i, x = .int i
  | .str => ∃ s, x = .str s
  | .lst => ∃ a xs, x = .ref a ∧ H a = some (.lst xs)
  | .tup => ∃ a xs, x = .ref a ∧ H a = some (.tup xs)
  | .dct => ∃ a kvs, x = .ref a ∧ H a = some (.dK kvs)
theorem IsKi.ty {K : PySem.W.Frag} {H : Hp} {x : V} : ∀ {k : Ki}, IsKi H x k → TyX K H x (.type k.name)
  | .non, h => by
    cases h
    exact .base .non
  | .bl, h => by
    obtain ⟨b, rfl⟩ := h
    exact .base (.bl b)
  | .int, h => by
    obtain ⟨b, rfl⟩ := h
    exact .base (.int b)
  | .str, h => by
    obtain ⟨b, rfl⟩ := h
    exact .base (.str b)
  | .lst, h => by
    obtain ⟨a, xs, rfl, e⟩ := h
    exact .base (.lst e)
  | .tup, h => by
    obtain ⟨a, xs, rfl, e⟩ := h
    exact .base (.tup e)
  | .dct, h => by
    obtain ⟨a, xs, rfl, e⟩ := h
    exact .base (.dK e)
def Ki.below : Ki → Ki → Bool
  | .bl, .int => true
  | a, b => decide (a = b)
theorem ki_kit {K : PySem.W.Frag} : ∀ a b : Ki, PySem.W.kitOne K (.type a.name) (.type b.name) = some (a.below b) := by
  intro a b
  apply kit_ty
  cases a <;> cases b <;> decide +kernel
/-- isinstance(x, T) of such a value -/
theorem isi_ki {X : Cx} {H : Hp} {x : V} {Q : VK} {a : Ki} (b : Ki) (h : IsKi H x a) (q : Q (.bl (a.below b)) H) : rIsi X.K [x, .ty b.name] H Q :=
  ⟨x, .ty b.name, _, _, _, rfl, .ty _, h.ty, ki_kit a b, q⟩
theorem IsKi.same {H H' : Hp} (s : Same H H') {x : V} : ∀ {k : Ki}, IsKi H x k → IsKi H' x k
  | .non, h => h
  | .bl, h => h
  | .int, h => h
  | .str, h => h
  | .lst, ⟨a, xs, e, h⟩ => ⟨a, xs, e, s _ _ h⟩
  | .tup, ⟨a, xs, e, h⟩ => ⟨a, xs, e, s _ _ h⟩
  | .dct, ⟨a, xs, e, h⟩ => ⟨a, xs, e, s _ _ h⟩
/-- the kind of a value that stands for itself -/
def kiOf : V → Option Ki
  | .non => some .non
  | .bl _ => some .bl
  | .int _ => some .int
  | .str _ => some .str
  | _ => none
theorem kiOf_is {H : Hp} : ∀ {x : V} {k : Ki}, kiOf x = some k → IsKi H x k
  | .non, _, h => by
    cases h
    rfl
  | .bl b, _, h => by
    cases h
    exact ⟨b, rfl⟩
  | .int b, _, h => by
    cases h
    exact ⟨b, rfl⟩
  | .str b, _, h => by
    cases h
    exact ⟨b, rfl⟩
def isI : V → Bool
  | .int _ => true
  | _ => false
theorem isI_ki {x : V} {k : Ki} (h : kiOf x = some k) : isI x = decide (k = .int) := by
  cases x <;> cases h <;> rfl
end JP

namespace JP
open PySem PySem.Spec PyProof.Rows L2
open AutoSeq1 (wpAny_loadPart')

/-! ### tuples that stand in the heap: +, slices, times a number; the answer is a tuple, new or not -/
section
variable {X : Cx}
/-- t + u, any tuples -/
def rCat2 : R2 := fun x y H Q => ∃ a b xs ys, x = .ref a ∧ y = .ref b ∧ H a = some (.tup xs) ∧ H b = some (.tup ys) ∧ xs.length + ys.length ≤ sizeLine ∧
  ∀ p H', Same H H' → H' p = some (.tup (xs ++ ys)) → Q (.ref p) H'
theorem op_cat2 : OpR X (binaryOp .Add) rCat2 := by
  intro pins s σ H x y v u Q I rx ry h
  obtain ⟨a, b, xs, ys, rfl, rfl, ha, hb, hz, q⟩ := h
  cases rx
  cases ry
  by_cases hx : xs = []
  · subst hx
    obtain ⟨its, r1, p1, _⟩ := I.tuple (SqT.of ha)
    obtain ⟨its2, r2, p2, _⟩ := I.tuple (SqT.of hb)
    cases r1
    obtain ⟨⟨cls, dd, data, sl⟩, ho, hc, n, hd⟩ := id p1
    obtain ⟨⟨cls2, dd2, data2, sl2⟩, ho2, hc2, n2, hd2⟩ := id p2
    simp only at hc hd hc2 hd2
    subst hc hd hc2 hd2
    exact concat_meets ⟨_, ho, rfl⟩ ⟨_, ho2, rfl⟩ noFill_tuple_add seq_tuple_add PySem.F.slot_tuple_add PySem.F.entry_tuple_add (PySem.F.args_tuple_add_2 _ _)
      (tuple_addW0 a b _ _ n n2 dd dd2 sl sl2 (by rfl)) ⟨ho, ho2, ⟨.ref b, H, I.tok _, rfl, q b H (.refl H) (by rw [List.nil_append]; exact hb)⟩⟩
  · refine op_catT pins s σ H (.ref a) (.ref b) _ _ Q I rfl rfl ⟨a, b, xs, ys, rfl, rfl, .of ha, .of hb, hx, hz, fun e => ?_, fun _ p hp => ?_⟩
    · subst e
      exact q a H (.refl H) (by rw [List.append_nil]; exact ha)
    · exact q p _ (same_new hp) upd_same
/-- t[lo:hi] of any tuple: its items, in a new tuple or (the whole) in the same one -/
def rSl2 : V → Option Int → Option Int → Hp → VK → Prop := fun x lo hi H Q => ∃ a xs, x = .ref a ∧ H a = some (.tup xs) ∧ ∀ p H', Same H H' → H' p = some (.tup (cutV xs lo hi)) → Q (.ref p) H'
theorem getItem_tuple_whole {prog : Program} {w : World} {A : Around} {E : Value → Shared → Prop} {s : Shared} {t sl : Addr} {items : Array Value} {vl vu : Value} {lo hi : Option Int} {Q : Value → Shared → Prop} (ht : IsTup s.heap t items) (hs : s.heap.IsSliceOf sl vl vu .none) (pl : IsPart vl lo) (pu : IsPart vu hi)
    (hw : HT.sIx items.size 0 lo = 0 ∧ HT.sIx items.size items.size hi = items.size)
    (h : Q (.ref t) s) : wpAny (model prog w) A (getItem (.ref t) (.ref sl)) Q E s := by
  obtain ⟨⟨cls, dd, data, slo⟩, ho, hc, n, hd⟩ := id ht
  simp only at hc hd
  subst hc hd
  obtain ⟨os, hos, hcs, hds⟩ := id hs
  have hTs : s.TypeIs (.ref sl) "slice" := ⟨os, hos, hcs⟩
  unfold getItem
  try with_reducible refine wpAny_holding ?_
  first | refine wpAny_bind (wpAny_pure ?_) | skip
  refine wpAny_bind (wpAny_sequenceKey ht.typeIs (by decide) ?_)
  refine wpAny_bind (wpAny_callSpecial?_slot (name := Str.ofString "__getitem__") ht.typeIs PyProof.Rows.slot_tuple_getitem
    (wpAny_call_entry PyProof.Rows.slot_tuple_getitem ht.typeIs entry_tuple_getitem ?_ (args_tuple_getitem _ _)))
  show wpAny _ _ (Builtin.Tuple.tupleItemsOf (.ref t) >>= _) _ _ s
  refine wpAny_bind (tupleItemsOf_ ht ?_)
  refine wpAny_bind (wpAny_typeOf hTs ?_)
  rw [if_pos (by decide)]
  refine wpAny_bind (HT.sliceApplied_gen hs pl pu ?_)
  have hyes : (((HT.sIx items.size 0 lo : Nat) : Int) == 0 && (1 : Int) == 1 && (HT.sIx items.size items.size hi - HT.sIx items.size 0 lo) == items.size) = true := by
    rw [hw.1, hw.2]
    simp
  show wpAny _ _ (if (((HT.sIx items.size 0 lo : Nat) : Int) == 0 && (1 : Int) == 1 && (HT.sIx items.size items.size hi - HT.sIx items.size 0 lo) == items.size) = true then _ else _) _ _ s
  rw [if_pos hyes]
  wp_walk using wpAny_loadPart' ho
  exact ⟨_, rfl, wpAny_pure h⟩
theorem sl_tup2 : SlR X rSl2 := by
  intro pins s σ H x v vl vu lo hi sl Q I rx hs pl pu h
  obtain ⟨a, xs, rfl, hx, q⟩ := h
  by_cases hw : HT.sIx xs.length 0 lo = 0 ∧ HT.sIx xs.length xs.length hi = xs.length
  · cases rx
    obtain ⟨its, r, ht, hz⟩ := I.tuple (SqT.of hx)
    have hlen : its.toArray.size = xs.length := by rw [List.size_toArray]; exact r.length.symm
    refine ⟨"tuple", _, PyProof.Rows.slot_tuple_getitem.lookup, ht.typeIs, ?_⟩
    refine getItem_tuple_whole ht hs pl pu (by rw [hlen]; exact hw) ⟨.ref a, H, I, rfl, q a H (.refl H) ?_⟩
    have e : cutV xs lo hi = xs := by
      unfold cutV
      rw [hw.1, hw.2]
      simp
    rw [e]
    exact hx
  · exact sl_tup pins s σ H (.ref a) v vl vu lo hi sl Q I rx hs pl pu ⟨a, xs, rfl, .of hx, hw, fun p hp => q p _ (same_new hp) upd_same⟩
/-- t * k, k from 1 on -/
def rRep2 : R2 := fun x y H Q => ∃ l k xs, x = .ref l ∧ y = .int k ∧ H l = some (.tup xs) ∧ xs ≠ [] ∧ 1 ≤ k ∧ k ≤ 1000 ∧ xs.length ≤ 1000 ∧ ∀ p H', Same H H' → H' p = some (.tup (List.replicate k.toNat xs).flatten) → Q (.ref p) H'
theorem tuple_mulW1 (l : Addr) (items : Array Value) (n : Nat) (dd : Option Addr) (sl : Array (Option Value)) (u : Tok) :
    Meets (Builtin.«tuple.__mul__» ⟨[.ref l, .int 1 u], []⟩) (fun _ R s => s.heap.get? l = some { cls := .type "tuple", dict := dd, data := .seq items n, slots := sl } ∧
      R (.ok (.ret (Value.ref l))) { s with heap := s.heap, toks := s.toks }) :=
  .of_wp fun prog w A R s h => by
    obtain ⟨hp, g, d, tk, os⟩ := s
    obtain ⟨hl, h⟩ := h
    have f1 := AutoSeq1.idx_int
    have c1 : (items.isEmpty || (1 : Int) == 1) = true := by simp
    have c0 : (decide ((1 : Int) < -(2 ^ 63)) || decide ((1 : Int) ≥ 2 ^ 63)) = false := by decide
    wp_walk using wpAny_loadPart' hl
    repeat (first
      | (refine wpAny_ite_false (decide_eq_false (by rw [c0]; exact Bool.false_ne_true)) ?_; wp_walk using wpAny_loadPart' hl)
      | (refine wpAny_ite_true (decide_eq_true c1) ?_; wp_walk using wpAny_loadPart' hl))
    all_goals first | exact ⟨_, rfl, h⟩ | skip
theorem op_rep2 : OpR X (binaryOp .Mult) rRep2 := by
  intro pins s σ H x y v u Q I rx ry h
  obtain ⟨l, k, xs, rfl, rfl, hT, hne, h1, h2, hz, q⟩ := h
  by_cases hk : k = 1
  · subst hk
    cases rx
    obtain ⟨t, rfl⟩ := ry
    obtain ⟨its, r, ⟨⟨cls, dd, data, sl⟩, ho, hc, n, hd⟩, hs⟩ := I.tuple (SqT.of hT)
    simp only at hc hd
    subst hc hd
    refine wpAny_binaryOp_repeat_ref (T := "tuple") (U := "int") (by decide) ⟨_, ho, rfl⟩ (fun s' => typeIs_int s' 1 t) noFill_tuple_mul F.fills_int_mul F.slot_int_rmul repeat_tuple F.slot_int_index.lookup
      (call_meets F.slot_int_rmul (typeIs_int s 1 t) F.entry_int_rmul (F.args_int_rmul_2 _ _) (int_rmul_tuple 1 t l its.toArray n dd sl)
        ⟨ho, rfl, ⟨_, ho, rfl⟩, call_meets F.slot_tuple_mul ⟨_, ho, rfl⟩ F.entry_tuple_mul (F.args_tuple_mul_2 _ _) (tuple_mulW1 l its.toArray n dd sl t) ⟨ho, ?_⟩⟩)
    refine ⟨.ref l, H, I.tok _, rfl, q l H (.refl H) ?_⟩
    simpa using hT
  · exact op_repT pins s σ H (.ref l) (.int k) v u Q I rx ry ⟨l, k, xs, rfl, rfl, .of hT, hne, by omega, h2, hz, fun p hp => q p _ (same_new hp) upd_same⟩
end

/-! ### enumerate(tuple) -/
theorem enumT_end {prog : Program} {w : World} {A : Around} {E : Value → Shared → Prop} {s : Shared} {e it l : Addr} {i : Int} {n : Nat} {items : Array Value} {old : Value} {Q : Option Value → Shared → Prop} (hh : A.handled = none)
    (he : IsEnum s.heap e it i old) (hit : s.heap.IsTupleIter it l n) (hl : s.heap.IsTuple l items) (hx : items[n]? = none)
    (hQ : ∀ h', Heap.ExtBut it s.heap h' → Q none { s with heap := h' }) : wpAny (model prog w) A (pyNext (.ref e)) Q E s := by
  have hT : s.TypeIs (.ref e) "enumerate" := ⟨_, he, rfl⟩
  unfold pyNext
  refine wpAny_bind (wpAny_attempt (wpAny_callSpecial?_slot (name := Str.ofString "__next__") hT F.slot_enumerate_next
    (wpAny_call_entry F.slot_enumerate_next hT F.entry_enumerate_next ?_ (F.args_enumerate_next_1 _))))
  show wpAny _ _ (field (.ref e) 2 >>= _) _ _ _
  refine wpAny_bind (wpAny_field he rfl (x := .ref it) rfl ?_)
  refine wpAny_bind (wpAny_nextOf_tuple_end hh hit hl hx fun h' x he' hx' => ?_)
  obtain ⟨o, ho, hc⟩ := hx'
  refine wpAny_bind (wpAny_isInstance (T := "StopIteration") (b := true) ⟨o, ho, hc⟩ isSubtype_stop ?_)
  exact wpAny_pure (hQ _ he')
/-- the tuple at a as it stands at each turn, each item in a new pair -/
def IteT (K : PySem.W.Frag) (a : Addr) : It :=
  ⟨fun i H => ∃ (xs : List V) (x : V), SqT K H a xs ∧ xs[i]? = some x, fun i H v H' => ∃ T x, v = .ref T ∧ H T = none ∧ H' = upd H T (.tup [.int (i : Nat), x]) ∧ ∀ xs, SqT K H a xs → xs[i]? = some x, fun i H => ∃ xs : List V, SqT K H a xs ∧ xs.length ≤ i⟩
set_option maxHeartbeats 1000000 in
theorem meets_enumerate_newT {l : Addr} {items : Array Value} :
    Meets (Builtin.«enumerate.__new__» ⟨[.type "enumerate", .ref l], []⟩) (fun _ R s => s.heap.IsTuple l items ∧
      R (.ok (.ret (.ref (s.heap.push { cls := .type "tuple_iterator", data := .fields #[.ref l, .int 0 0] }).objs.size))) { s with heap := (s.heap.push { cls := .type "tuple_iterator", data := .fields #[.ref l, .int 0 0] }).push { cls := .type "enumerate", data := .fields #[.none, .bool false, .ref s.heap.objs.size, rawInt 0, .none, .none] } }) :=
  .of_wp fun prog w A R s h => by
    obtain ⟨hp, g, d, tk, os⟩ := s; obtain ⟨hL, h⟩ := h
    have hsub := sub_enumerate
    replace hL : Heap.IsTuple (Shared.heap ⟨hp, g, d, tk, os⟩) l items := hL
    wp_walk using wpAny_pyIter_tuple hL
    refine wpAny_stack_any fun st => wpAny_pure ?_
    split
    · rename_i c _ _ _ _ _
      cases (c == Value.type "enumerate")
      · wp_walk using wpAny_pyIter_tuple hL
        exact ⟨_, rfl, h⟩
      · wp_walk using wpAny_pyIter_tuple hL
        exact ⟨_, rfl, h⟩
    · wp_walk using wpAny_pyIter_tuple hL
      exact ⟨_, rfl, h⟩
theorem call_enumerate_tup {prog : Program} {w : World} {A : Around} {E : Value → Shared → Prop} {s : Shared} {l : Addr} {items : Array Value} {Q : Value → Shared → Prop} (hL : s.heap.IsTuple l items)
    (h : ∀ h', IsEnum h' (s.heap.objs.size + 1) s.heap.objs.size 0 .none → h'.IsTupleIter s.heap.objs.size l 0 → h'.objs.size = s.heap.objs.size + 2 →
      (∀ b o, s.heap.get? b = some o → h'.get? b = some o) → Q (.ref (s.heap.objs.size + 1)) { s with heap := h' }) :
    wpAny (model prog w) A (call (.type "enumerate") [.ref l]) Q E s := by
  refine callType_new F.called_enumerate (by decide) (F.typeCall_enumerate_1 _) (F.newCall_enumerate_1 _) (fun obj => F.args_object_init_2 obj _) F.entry_enumerate_new
    meets_enumerate_newT ⟨hL, ?_⟩
  have hz : (s.heap.push { cls := .type "tuple_iterator", data := .fields #[.ref l, .int 0 0] }).objs.size = s.heap.objs.size + 1 := Heap.size_push ..
  show _ ∧ _
  rw [hz]
  have he : IsEnum ((s.heap.push { cls := .type "tuple_iterator", data := .fields #[.ref l, .int 0 0] }).push
      { cls := .type "enumerate", data := .fields #[.none, .bool false, .ref s.heap.objs.size, rawInt 0, .none, .none] }) (s.heap.objs.size + 1) s.heap.objs.size 0 .none := by
    have := Heap.get?_push_size (s.heap.push { cls := .type "tuple_iterator", data := .fields #[.ref l, .int 0 0] })
      (o := { cls := .type "enumerate", data := .fields #[.none, .bool false, .ref s.heap.objs.size, rawInt 0, .none, .none] }) rfl
    rw [hz] at this; exact this
  refine ⟨⟨_, he, rfl⟩, h _ he ⟨_, Heap.get?_push_of_some _ (Heap.get?_push_size _ rfl), rfl, rfl⟩ (by rw [Heap.size_push, hz]) fun b o x => Heap.get?_push_of_some _ (Heap.get?_push_of_some _ x)⟩
theorem turn_enumT {P : Program} {w : World} {K : PySem.W.Frag} {elts : List Expr} {kk : Nat} {tpos : Pos} (a e it : Addr) (hai : a ≠ it) :
    Turn P w K (.Tuple elts kk tpos) (IteT K a) [e, it] e (fun i h => (∃ old, IsEnum h e it ((i : Nat) : Int) old) ∧ h.IsTupleIter it a i ∧ e ≠ it ∧ e ≠ a) where
  mem := by simp
  obj := fun i h st b hb => by
    obtain ⟨⟨old, he⟩, ⟨o, ho, hc, hd⟩, _⟩ := st
    have e' : b = e ∨ b = it := by simpa using hb
    rcases e' with z | z
    · rw [z]; exact ⟨_, he, fun v q => nomatch q⟩
    · rw [z]; exact ⟨o, ho, fun v q => by rw [hd] at q; cases q⟩
  keep := fun i h h' st k => let ⟨⟨old, he⟩, hi, hne⟩ := st; ⟨⟨old, k e (by simp) _ he⟩, hi.at fun o q => k it (by simp) o q, hne⟩
  item := by
    intro X hP hw hK hc i pins s σ H E I hf st hg
    subst hP hw hK
    obtain ⟨⟨old, he⟩, hit, hne, hnea⟩ := st
    obtain ⟨xs, x, hq, hx⟩ := hg
    obtain ⟨its, rv, p, hz⟩ := I.tuple hq
    obtain ⟨u, hu, ru⟩ := rv.get hx
    have hi : i < its.toArray.size := by
      rw [List.size_toArray]
      exact (List.getElem?_eq_some_iff.mp hu).1
    have hel : e < s.heap.objs.size := Heap.lt_size he
    have hil : it < s.heap.objs.size := by obtain ⟨_, q, _⟩ := hit; exact Heap.lt_size q
    refine wpAny_pyNext_enum_itemD (Draws.tuple (A := X.A.in1) (show X.A.in1.handled = none from I.ok.hd hc) it a hai its.toArray) he ⟨hit, p⟩ hi hne (by simp [hne, hnea]) fun u' h' tk hP ho hit' hT hsz hk => ?_
    have eu : u' = u := by
      have : its.toArray[i]? = some u := by simpa using hu
      rw [this] at hP
      exact (Option.some.inj hP).symm
    subst eu
    refine ⟨_, rfl, wpAny_letOwnedTupleGo_enum (s := { s with heap := h', toks := tk + 1 }) ho fun h'' he' sb => ?_⟩
    have hT2 : h''.get? s.heap.objs.size = some { cls := .type "tuple", data := .seq #[.int i tk, u'] } := (sb.2 _ (Nat.ne_of_gt hel)).trans hT
    have new : ObjOk X.prog X.w (upd H s.heap.objs.size (.tup [.int (i : Nat), x])) h'' s.heap.objs.size (.tup [.int (i : Nat), x]) :=
      ⟨by show 2 ≤ sizeLine; decide, [.int i tk, u'], .cons ⟨_, rfl⟩ (.cons ru .nil), ⟨_, hT2, rfl, _, rfl⟩⟩
    have I1 : Inv X pins σ (upd H s.heap.objs.size (.tup [.int (i : Nat), x])) { s with heap := h'', toks := tk + 1 } :=
      I.turnedNew (ch := [e, it]) (fun b ob hb q => (sb.2 b (fun z => hb (by simp [z]))).trans (hk b ob (fun z => hb (by simp [z])) (fun z => hb (by simp [z])) q)) hf (Nat.le_refl _) new
    refine ⟨.ref s.heap.objs.size, _, I1, rfl, ⟨_, x, rfl, I.hok.fresh (Nat.le_refl _), rfl, fun ys hy => by rw [I.tuple_inj hy hq]; exact hx⟩, ⟨⟨u', ?_⟩, hit'.1.at fun o q => (sb.2 it (Ne.symm hne)).trans q, hne, hnea⟩, fun b hb => ?_⟩
    · have e1 : ((i + 1 : Nat) : Int) = (i : Int) + 1 := by omega
      rw [e1]; exact he'
    · have hb' : b < s.heap.objs.size := by
        have e' : b = e ∨ b = it := by simpa using hb
        rcases e' with z | z
        · rw [z]; exact hel
        · rw [z]; exact hil
      rw [upd_ne (Nat.ne_of_lt hb')]
      exact (hf b hb).1
  done := by
    intro X hP hw hK hc i pins s σ H E I hf st hg
    subst hP hw hK
    obtain ⟨⟨old, he⟩, hit, hne, hnea⟩ := st
    obtain ⟨xs, hq, hx⟩ := hg
    obtain ⟨its, rv, p, hz⟩ := I.tuple hq
    obtain ⟨f0, f1, f2, f3, f4, f5⟩ := hf it (by simp)
    have hl := rv.length
    have hend : its.toArray[i]? = none := by simp; omega
    refine enumT_end (I.ok.hd hc) he hit p hend fun h' eb => ⟨rfl, I.turned (t' := s.toks) (fun b o hb q => eb b o hb q) f0 f1 f3 f4 f5⟩
  self := fun A i s Q E st h => let ⟨⟨_, he⟩, _⟩ := st; wpAny_pyIter_enum he h
def iEnumT (K : PySem.W.Frag) (ta : TA) : TI := fun σ H R => ta σ H fun vs H1 => ∃ a xs, vs = [.ref a] ∧ SqT K H1 a xs ∧ R (IteT K a) H1
theorem pi_enumT {X : Cx} {e : Expr} {ta : TA} {p pos tpos : Pos} {elts : List Expr} {kk : Nat} (hg : Gl X "enumerate") (hm : X.mg "enumerate" = none) (ha : PA X [e] ta) (hs : starEach [e] X.env = [(false, eval e X.env)] := by rfl) :
    PI X (.Tuple elts kk tpos) (.Call (.Name "enumerate" p) [e] [] pos) (iEnumT X.K ta) := by
  refine ⟨fun pins s σ H R I h => ?_⟩
  refine Call_ (ld_blt I hg hm boot_enumerate (PyProof.Rows.callWith_type1 (thn (ha.run pos pins s σ H _ I h) fun us s1 ⟨vs, H1, I1, r1, q1⟩ => ?_) hs rfl))
  obtain ⟨a, xs, ex, hq, q⟩ := q1
  subst ex
  cases r1 with
  | cons r rr =>
    cases rr
    cases r
    obtain ⟨its, rv, p', hz⟩ := I1.tuple hq
    have la : a < s1.heap.objs.size := p'.lt
    refine call_enumerate_tup p' fun h' he hit hsz hk => wpAny_pyIter_enum he ?_
    have I2 : Inv X pins σ H1 { s1 with heap := h' } := I1.kept (t' := s1.toks) hk
    refine ⟨s1.heap.objs.size + 1, [s1.heap.objs.size + 1, s1.heap.objs.size], _, _, H1, rfl, I2, turn_enumT a (s1.heap.objs.size + 1) s1.heap.objs.size (Nat.ne_of_lt la), ⟨⟨.none, he⟩, hit, Nat.succ_ne_self _, fun z => Nat.lt_irrefl a (Nat.lt_trans la (z ▸ Nat.lt_succ_self _))⟩, fun b hb => ?_, q⟩
    have e' : b = s1.heap.objs.size + 1 ∨ b = s1.heap.objs.size := by simpa using hb
    have hle : s1.heap.objs.size ≤ b := by
      rcases e' with z | z
      · rw [z]; exact Nat.le_add_right _ _
      · rw [z]; exact Nat.le_refl _
    exact I1.fpOk hle (I1.hok.fresh hle)
end JP

namespace JP
open PySem PySem.Spec PyProof.Rows L2

theorem same_updN {H H' : Hp} {D : Addr} {o : HO} (h : Same H H') (n : H D = none) : Same H (upd H' D o) := fun b u e => by
  rw [upd_ne (ne_of_none e n)]
  exact h b u e
theorem but_updN {p : Addr} {H H' : Hp} {D : Addr} {o : HO} (h : But p H H') (n : H D = none) : But p H (upd H' D o) := fun b u hb e => by
  rw [upd_ne (ne_of_none e n)]
  exact h b u hb e
/-- the list of a comprehension at D: what is made so far, and P of the turn, of it, of the heap -/
def AccP (D : Addr) (P : Nat → List V → Hp → Prop) (i : Nat) (H : Hp) : Prop := ∃ acc, H D = some (.lst acc) ∧ acc.length ≤ i ∧ P i acc H
theorem AccP.zero {D : Addr} {P : Nat → List V → Hp → Prop} {H : Hp} (h : P 0 [] (upd H D (.lst []))) : AccP D P 0 (upd H D (.lst [])) := ⟨[], upd_same, Nat.le_refl _, h⟩
theorem AccP.put {D : Addr} {P : Nat → List V → Hp → Prop} {H : Hp} {i : Nat} {acc : List V} {y : V} (hn : i < sizeLine) (e : H D = some (.lst acc)) (l : acc.length ≤ i) (p : P (i + 1) (acc ++ [y]) (upd H D (.lst (acc ++ [y])))) :
    ∃ acc, H D = some (.lst acc) ∧ acc.length < sizeLine ∧ AccP D P (i + 1) (upd H D (.lst (acc ++ [y]))) :=
  ⟨acc, e, by omega, acc ++ [y], upd_same, by simp; omega, p⟩
theorem AccP.skip {D : Addr} {P : Nat → List V → Hp → Prop} {H : Hp} {i : Nat} {acc : List V} (e : H D = some (.lst acc)) (l : acc.length ≤ i) (p : P (i + 1) acc H) : AccP D P (i + 1) H := ⟨acc, e, by omega, p⟩
theorem small_size {n : Nat} (h : n ≤ 1000) : n < sizeLine := by
  rw [sizeLine_eq]
  omega
theorem take_next {α : Type} {xs : List α} {i : Nat} {x : α} (h : xs[i]? = some x) : xs.take (i + 1) = xs.take i ++ [x] := by
  rw [List.take_succ, h]
  rfl
/-- the map so far -/
def MapP {α : Type} (Rl : Hp → Prop) (xs : List α) (f : α → V) : Nat → List V → Hp → Prop := fun i acc H => Rl H ∧ acc = (xs.take i).map f
theorem mapP_next {α : Type} {Rl : Hp → Prop} {xs : List α} {f : α → V} {i : Nat} {acc : List V} {H : Hp} {x : α} (h : xs[i]? = some x) (e : acc = (xs.take i).map f) (r : Rl H) : MapP Rl xs f (i + 1) (acc ++ [f x]) H := ⟨r, by rw [take_next h, e, List.map_append]; rfl⟩
theorem dec_int (a b : Int) : decide (V.int a = V.int b) = decide (a = b) := by simp
theorem walk_enumT {K : PySem.W.Frag} {a : Addr} {xs : List V} : Walk (IteT K a) xs.length (fun H => SqT K H a xs) (YPair (fun i => some (.int (i : Nat))) (fun i => xs[i]?)) := by
  refine ⟨fun i _ hi q => ⟨xs, xs[i], q, by simp [hi]⟩, fun _ q => ⟨xs, q, Nat.le_refl _⟩, fun i H v H' _ q y => ?_⟩
  obtain ⟨T, x, h1, h2, h3, h4⟩ := y
  exact ⟨T, .int (i : Nat), x, h1, h2, h3, rfl, h4 xs q⟩
theorem walk_zipT {K : PySem.W.Frag} {a b : Addr} {xs ys : List V} {n : Nat} (hn : n = min xs.length ys.length) : Walk (RZ.ItzT K a b) n (fun H => SqT K H a xs ∧ SqT K H b ys) (YPair (fun i => xs[i]?) (fun i => ys[i]?)) := by
  subst hn
  refine ⟨fun i _ hi q => ?_, fun _ q => ⟨xs, ys, q.1, q.2, by omega⟩, fun i H v H' _ q y => ?_⟩
  · have h1 : i < xs.length := by omega
    have h2 : i < ys.length := by omega
    exact ⟨xs, ys, xs[i], ys[i], q.1, q.2, by simp [h1], by simp [h2]⟩
  · obtain ⟨T, x, z, h1, h2, h3, h4, h5⟩ := y
    exact ⟨T, x, z, h1, h2, h3, h4 xs q.1, h5 ys q.2⟩
theorem get_int {ns : List Int} {i : Nat} {x : V} (h : (ns.map V.int)[i]? = some x) : ∃ n, ns[i]? = some n ∧ x = .int n := by
  rw [List.getElem?_map] at h
  obtain ⟨n, e, r⟩ := Option.map_eq_some_iff.mp h
  exact ⟨n, e, r.symm⟩
theorem atI_int {ns : List Int} {k : Nat} (h : k < ns.length) : atI (ns.map V.int) (k : Int) = some (.int (ns.getD k 0)) := atI_nat (by
  rw [List.getElem?_map, List.getD_eq_getElem?_getD, List.getElem?_eq_getElem h]
  rfl)
theorem getD_mem {ns : List Int} {k : Nat} (h : k < ns.length) : ns.getD k 0 ∈ ns := by
  rw [List.getD_eq_getElem?_getD, List.getElem?_eq_getElem h]
  exact List.getElem_mem h
theorem in64 {n : Int} (h : n.natAbs < 2 ^ 40) : -(2 ^ 64) < n ∧ n < 2 ^ 64 := by omega
theorem ixT {X : Cx} {K : PySem.W.Frag} (h : X.K = K) : IxR X (rIxT K) := h ▸ ix_tup
theorem ixL {X : Cx} {K : PySem.W.Frag} (h : X.K = K) : IxR X (rIxL K) := h ▸ ix_list
theorem eqD {X : Cx} {K : PySem.W.Frag} (hu : X.A.units + 64 < cLine) (h : X.K = K) : OpR X (compareOp .Eq) (rEqD K) := h ▸ op_eqD hu
theorem But.tup {p c a : Addr} {m : Nat} {H H' : Hp} {xs : List V} (b : But p H H') (hP : Pen H p c m) (h : H a = some (.tup xs)) : H' a = some (.tup xs) := by
  obtain ⟨ys, e⟩ := hP.at_
  exact b a _ (ne_of h e (by intro z; cases z)) h
theorem eqv_lI (a b : List Int) : PyData.eqv (.list (a.map .int)) (.list (b.map .int)) = decide (a = b) := by
  rw [← PySem.W.ked_eqvAll]
  simp [PyData.eqv]
theorem eqv_tI (a b : List Int) : PyData.eqv (.tuple (a.map .int)) (.tuple (b.map .int)) = decide (a = b) := by
  rw [← PySem.W.ked_eqvAll]
  simp [PyData.eqv]
/-- the numbers below i at which f holds -/
def pickI (f : Nat → Bool) (i : Nat) : List Int := ((List.range i).filter f).map fun (j : Nat) => (j : Int)
theorem pickI_succ (f : Nat → Bool) (i : Nat) : pickI f (i + 1) = if f i = true then pickI f i ++ [(i : Int)] else pickI f i := by
  unfold pickI
  rw [List.range_succ, List.filter_append, List.map_append, List.filter_cons, List.filter_nil]
  split
  · rfl
  · rw [List.map_nil, List.append_nil]
theorem pickI_len (f : Nat → Bool) (i : Nat) : (pickI f i).length ≤ i := by
  unfold pickI
  rw [List.length_map]
  exact Nat.le_trans (List.length_filter_le _ _) (by simp)
theorem pickI_nil (f : Nat → Bool) (i : Nat) : pickI f i = [] ↔ ∀ j, j < i → f j = false := by
  unfold pickI
  rw [List.map_eq_nil_iff, List.filter_eq_nil_iff]
  constructor
  · intro z j hj
    exact Bool.eq_false_iff.mpr (z j (List.mem_range.mpr hj))
  · intro z j hj
    exact Bool.eq_false_iff.mp (z j (List.mem_range.mp hj))
theorem pickI_first (f : Nat → Bool) {k : Nat} (hk : f k = true) (hz : ∀ j, j < k → f j = false) : ∀ i, k < i → ∃ r, pickI f i = (k : Int) :: r := by
  intro i hi
  induction i with
  | zero => omega
  | succ i ih =>
    rw [pickI_succ]
    by_cases e : i = k
    · subst e
      rw [if_pos hk, (pickI_nil f i).mpr hz]
      exact ⟨[], rfl⟩
    · obtain ⟨r, hr⟩ := ih (by omega)
      rw [hr]
      split
      · exact ⟨r ++ [(i : Int)], rfl⟩
      · exact ⟨r, rfl⟩
theorem toNat_len {α β : Type} (xs : List α) (f : α → β) : (((xs.map f).length : Nat) : Int).toNat = xs.length := by
  rw [List.length_map, Int.toNat_natCast]
theorem shapedT (ns : List Int) : SeqAt.shaped (.tuple (ns.map PyData.int)) = true := by
  simp [SeqAt.shaped, PyData.canLay0, PyData.depth, PySem.W.ke_canLayAll0, PySem.W.ke_depthAll]
end JP

namespace JP
open PySem PySem.Spec PyProof.Rows L2

/-! ### calls with keywords alone -/
section
variable {X : Cx} {CX : CXT} {k : Nat} {f : Addr} {fd : FuncData} {ps ks : List Str} {sp : Sp} {E : XK} {x : Str} {p pos : Pos} {kws : List Keyword} {tk : TA} {g : List Value → List Value → List Value} {gV : List V → List V → List V}
def tCallK0 (sp : Sp) (gV : List V → List V → List V) (E : XK) (tk : TA) : TE := fun σ H Q => tk σ H fun zs H2 => sp (gV [] zs) H2 Q E
/-- f(k = v, ..), nothing by position -/
theorem pe_callK0 (F : FnOk X.prog X.w X.K X.mg X.base CX k f fd ps sp) (hr : Room k X.A) (hg : Gl X x) (hm : X.mg x = some (.ref f)) (hk : PySem.W.keepIn X.K (.ref f) = true) (hb : KBinds X.K fd ps ks g gV) (hx : Passes CX X E)
    (hkw : PK X kws tk) (hall : (backToKw pos (keywordEach kws X.env)).all (·.1.isSome) = true := by rfl) (hks : (backToKw pos (keywordEach kws X.env)).filterMap (·.1) = ks := by rfl)
    (hdb : (x == ("__debug__" : Str)) = false := by decide)
    (hpl : ((backTo pos (starEach [] X.env)).any (·.1) || (backToKw pos (keywordEach kws X.env)).any (·.1.isNone)) = false := by rfl) :
    PE X (.Call (.Name x p) [] kws pos) (tCallK0 sp gV E tk) := by
  refine ⟨fun pins s σ H Q I h => ?_⟩
  refine wpAny_Call_Name_kw (ld_glob I hg hm ?_ hdb)
  refine PySem.W.callWith_KW0 (h₀ := X.base) I.ok.mod.kin hk hall (thn (hkw.run pos pins s σ H _ I h) fun ws s2 ⟨zs, H2, I2, rz, q2⟩ => ⟨I2.kIn, ?_⟩) hpl
  rw [hks]
  exact run_fnk (us := []) (vs := []) F hr hb hx I2 .nil rz q2
end
/-- the arguments in the parameters' order, told by their places among all arguments -/
def gPerm {α : Type} (np nk : Nat) (ix : List Nat) (us ws : List α) : List α := if us.length = np ∧ ws.length = nk then ix.filterMap (fun i => (us ++ ws)[i]?) else []
theorem gPerm_len {α : Type} {np nk n : Nat} {ix : List Nat} {us ws : List α} (h : (gPerm np nk ix us ws).length = n) (h0 : 0 < n) : us.length = np ∧ ws.length = nk := by
  unfold gPerm at h
  split at h
  · assumption
  · simp at h
    omega
theorem gPerm_rel {np nk : Nat} {ix : List Nat} {vs zs : List V} {us ws : List Value} (r : Vals vs us) (q : Vals zs ws) : Vals (gPerm np nk ix vs zs) (gPerm np nk ix us ws) := by
  unfold gPerm
  rw [r.length, q.length]
  split
  · have a := Vals.append r q
    clear r q
    generalize vs ++ zs = xs at a
    generalize us ++ ws = ys at a
    induction ix with
    | nil => exact .nil
    | cons i ix ih =>
      rw [List.filterMap_cons, List.filterMap_cons]
      cases e : xs[i]? with
      | none => rw [a.none_of e]; exact ih
      | some x =>
        obtain ⟨u, hu, ru⟩ := a.get e
        rw [hu]
        exact .cons ru ih
  · exact .nil
theorem same_seqL' {K : PySem.W.Frag} {a : Addr} {H H' : Hp} {xs : List V} (e : Same H H') (h : SqL K H a xs) : SqL K H' a xs := by
  rcases h with (h | ⟨o, h⟩) | h
  · exact .inl (.inl (e _ _ h))
  · exact .inl (.inr ⟨o, e _ _ h⟩)
  · exact .inr h
/-- for_it, the ends one by one -/
theorem for_it2 {J : It} {n : Nat} {G : Hp → Prop} {Y : Nat → Hp → V → Hp → Prop} (w : Walk J n G Y) {g : TG} {tb : TS} {B : L2.St → Hp → Prop} {R : VK} {σ : L2.St} {H : Hp} (Pv : Nat → L2.St → Hp → Prop) (h0 : Pv 0 σ H) (hG : ∀ i σ H, i ≤ n → Pv i σ H → G H)
    (hs : ∀ i x σ H H', i < n → Pv i σ H → Y i H x H' → g x σ H' fun σ2 H2 => tb { nx := Pv (i + 1), rt := R, bk := B, ct := Pv (i + 1) } σ2 H2) (hd : ∀ σ H, Pv n σ H → B σ H) :
    ∃ W : Nat → Nat → L2.St → Hp → Prop, (∃ m, W 0 m σ H) ∧ ∀ i m σ H, W i m σ H →
      (J.stop i H ∧ B σ H) ∨ (J.go i H ∧ ∃ N : L2.St → Hp → Prop, (∀ σ' H', N σ' H' → ∃ m', m' < m ∧ W (i + 1) m' σ' H') ∧ ∀ x H', J.yld i H x H' → g x σ H' fun σ2 H2 => tb { nx := N, rt := R, bk := B, ct := N } σ2 H2) :=
  for_it w (D := { nx := B, rt := R, bk := B, ct := B }) Pv h0 hG hs hd
end JP

namespace JP
open PySem PySem.Spec PyProof.Rows L2

/-! ### an exception that was caught and is kept by a name -/
/-- at a: an exception of the class cls, its dict d -/
def xo (a : Addr) (cls : Value) (d : Option Addr) : HO := .ext fun h => ∃ oe, h.get? a = some oe ∧ Zc cls d oe ∧ ∃ vs, oe.data = .fields vs
theorem xo_tup {a : Addr} {cls : Value} {d : Option Addr} {xs : List V} : xo a cls d ≠ .tup xs := fun z => by
  have q : HO.ext _ = HO.tup xs := z
  cases q
theorem xo_lst {a : Addr} {cls : Value} {d : Option Addr} {xs : List V} : xo a cls d ≠ .lst xs := fun z => by
  have q : HO.ext _ = HO.lst xs := z
  cases q
theorem xo_ok {P : Program} {w : World} {H : Hp} {h : Heap} {a : Addr} {cls : Value} {d : Option Addr} {oe : Obj} (e : h.get? a = some oe) (z : Zc cls d oe) (f : ∃ vs, oe.data = .fields vs) : ObjOk P w H h a (xo a cls d) :=
  ⟨⟨oe, e, z, f⟩, ⟨oe, e⟩, fun _ _ ⟨o, e1, r⟩ k => ⟨o, k o e1, r⟩⟩
theorem xo_at {P : Program} {w : World} {H : Hp} {h : Heap} {a : Addr} {cls : Value} {d : Option Addr} (k : HOk P w H h) (e : H a = some (xo a cls d)) : ∃ oe, h.get? a = some oe ∧ Zc cls d oe ∧ ∃ vs, oe.data = .fields vs := by
  have x : ObjOk P w H h a (.ext fun h => ∃ oe, h.get? a = some oe ∧ Zc cls d oe ∧ ∃ vs, oe.data = .fields vs) := k a _ e
  exact x.1
section
variable {X : Cx} {pins : List (Addr × Obj)} {σ : L2.St} {H : Hp} {s : Shared}
/-- an object that is known by a pin, new since the def was entered, is tracked from now on -/
theorem track {a : Addr} {oe : Obj} {cls : Value} {d : Option Addr} (I : Inv X ((a, oe) :: pins) σ H s) (z : Zc cls d oe) (f : ∃ vs, oe.data = .fields vs) (np : ∀ p ∈ X.pn ++ pins, p.1 ≠ a) (n0 : X.s_0.heap.get? a = none) :
    Inv X pins σ (upd H a (xo a cls d)) s := by
  obtain ⟨e, n, nl, nf, nc⟩ := I.pin (a, oe) (List.mem_append_right _ List.mem_cons_self)
  have old : ∀ {b : Addr} {o : Obj}, X.s_0.heap.get? b = some o → b ≠ a := fun {b o} q w => by
    rw [w, n0] at q
    cases q
  have no : ∀ {b : Addr} {o : HO}, H b = some o → b ≠ a := fun q => ne_of_none q n
  refine ⟨I.ok, I.os, I.bare, ⟨I.base.keep, I.base.slot, fun b o q m hx => ?_, I.base.there, fun b xs q => ?_, fun b o u q => ?_, fun b ps q => ?_⟩, I.loc, I.cell, ?_, fun x c q => ?_, fun p hp => ?_, fun b u q => ?_, I.len⟩
  · rw [upd_ne (old q)]
    exact I.base.free b o q m hx
  · have := I.base.tups b xs q
    rw [upd_ne (no this)]
    exact this
  · have := I.base.frzs b o u q
    rw [upd_ne (no this)]
    exact this
  · obtain ⟨more, this⟩ := I.base.tbls b ps q
    exact ⟨more, (upd_ne (no this)).trans this⟩
  · rw [upd_ne nl.symm]
    exact I.free
  · have : c ≠ a := fun w => by
      obtain ⟨v, o, ho, hd⟩ := I.cell x c q
      rw [w, show s.heap.get? a = some oe from e] at ho
      cases ho
      exact nc v hd
    rw [upd_ne this]
    exact I.freeC x c q
  · obtain ⟨p1, p2, p3⟩ := I.pin p (by
      rcases List.mem_append.mp hp with w | w
      · exact List.mem_append_left _ w
      · exact List.mem_append_right _ (List.mem_cons_of_mem _ w))
    exact ⟨p1, (upd_ne (np p hp)).trans p2, p3⟩
  · by_cases hb : b = a
    · subst hb
      rw [upd_same] at q
      cases q
      exact xo_ok e z f
    · rw [upd_ne hb] at q
      exact (I.hok b u q).stay (fun _ _ _ y => y) (fun c y => (upd_ne (no y)).trans y) fun c xs y => (upd_ne (no y)).trans y
theorem unsuiteP {a : Addr} {oe : Obj} (I : Inv (X.suite a ((a, oe) :: (X.pn ++ pins))) [] σ H s) (ok : X.Ok) : Inv X ((a, oe) :: pins) σ H s :=
  ⟨ok, I.os, I.bare, I.base, I.loc, I.cell, I.free, I.freeC, fun p hp => I.pin p (by
    rw [List.append_nil]
    rcases List.mem_append.mp hp with w | w
    · exact List.mem_cons_of_mem _ (List.mem_append_left _ w)
    · rcases List.mem_cons.mp w with w | w
      · rw [w]
        exact List.mem_cons_self
      · exact List.mem_cons_of_mem _ (List.mem_append_right _ w)), I.hok, I.len⟩
end
/-- what 'except x as n: suite' wishes of an exception of the body, where the suite runs through and the exception is kept -/
def wHeld (K : PySem.W.Frag) (c : Value) (i : Nat) (ts : Addr → Value → Option Addr → TS) (Wout : WX) (D : Ends) : WX := fun cls d σ H =>
  ∃ b, PySem.W.exmOne K cls c = some b ∧ (b = true → ∀ a, H a = none → ts a cls d { nx := fun σ' H' => D.nx (σ'.set i none) (upd H' a (xo a cls d)), rt := fun _ _ => False, bk := fun _ _ => False, ct := fun _ _ => False } (σ.set i (some (.ref a))) H) ∧
    (b = false → Wout cls d σ H)
section
variable {X : Cx} {x n : Str} {c : Value} {i : Nat} {body suite : List Stmt} {b₀ : Stmt} {np pos pos' : Pos} {tb : WX → TS} {ts : Addr → Value → Option Addr → TS} {Wout : WX}
theorem ps_try_held (hs : X.stack = X.env :: X.outer) (hf : X.env.frame = some X.env.locals) (hex : X.ex = []) (hN : X.N.Nodup) (hi : X.N[i]? = some n) (hln : X.env.kindOf n = some .local) (hc : Names X x c) (tk : Takes X Wout)
    (hb : ∀ (W : WX) (pn : List (Addr × Obj)) (xe : Value → Shared → Prop), Takes (X.tr pn xe) W → PassesOwn (model X.prog X.w) X.A X.env xe → PSs (X.tr pn xe) body (tb W))
    (hsu : ∀ (a : Addr) (oe : Obj) (cls : Value) (d : Option Addr) (pn : List (Addr × Obj)), Zc cls d oe → (∃ vs, oe.data = .fields vs) → PSs (X.suite a ((a, oe) :: pn)) (b₀ :: suite) (ts a cls d)) :
    PS X (.Try body [.ExceptHandler (some (.Name x np)) (some n) (b₀ :: suite) pos'] [] [] pos) (fun D σ H => tb (wHeld X.K c i ts Wout D) D σ H) := by
  constructor
  intro pins s σ H D I h
  have ok := I.ok
  have hfr : X.A.frames = some (X.env :: X.outer) := ok.frames.trans (congrArg some hs)
  have frsE : frs X.stack = X.env.locals :: X.fs := by
    rw [hs]
    show (X.env :: X.outer).filterMap _ = _
    rw [List.filterMap_cons, hf]
    rfl
  apply wpAny_Try_except
  refine wpAny_mono ((hb (wHeld X.K c i ts Wout D) (X.pn ++ pins)
    (fun e t => wpAny (model X.prog X.w) X.A (noteFrame e X.env) (fun _ t => wpAny (model X.prog X.w) X.A (setFlight e none) (fun _ t => wpAny (model X.prog X.w) X.A
      (handleBy e X.env [.ExceptHandler (some (.Name x np)) (some n) (b₀ :: suite) pos']) (SP X pins D) X.xe t) X.xe t) X.xe t)
    (fun u s' xx => ?ctch) PassesOwn.looking).run [] s σ H D (I.toTry _) h) (fun f s1 hsp => ?thru) (fun e s1 he => he)
  case thru =>
    cases f with
    | next => exact let ⟨_, _, J, q⟩ := hsp; wpAny_execs_nil ⟨_, _, J.ofTry ok, q⟩
    | brk => exact let ⟨_, _, J, q⟩ := hsp; ⟨_, _, J.ofTry ok, q⟩
    | cont => exact let ⟨_, _, J, q⟩ := hsp; ⟨_, _, J.ofTry ok, q⟩
    | ret u => exact let ⟨_, _, _, J, r, q⟩ := hsp; ⟨_, _, _, J.ofTry ok, r, q⟩
  case ctch =>
    obtain ⟨a, B, sI, pins', σ', H', cls, d, rfl, J', nb, up, sky, na, os, ag, b, hb1, hyes, hno⟩ := xx
    have J := J'.ofTry ok
    show wpAny (model X.prog X.w) X.A (noteFrame (.ref a) X.env) _ _ _
    refine Sky.land Zc.steady hfr hf (hs ▸ sky) fun h3 fl3 up3 => ?_
    have J3 := J.landed (s' := { s' with heap := h3 }) nb fl3.1 (up.trans up3) os ag
    obtain ⟨oe3, vs3, he3, hz3, hd3⟩ := fl3.there
    have nfr : a ∉ frs (X.env :: X.outer) := fun hm => by
      obtain ⟨_, o', e', hnf⟩ := fl3.2.2.1.mem hm
      rw [he3] at e'
      cases e'
      exact hnf _ hd3
    have nfs : a ∉ X.env.locals :: X.fs := by rwa [← frsE, hs]
    have nL : a ≠ X.env.locals := fun z => nfs (z ▸ List.mem_cons_self)
    have nF : a ∉ X.fs := fun z => nfs (List.mem_cons_of_mem _ z)
    have nB : B.get? a = none := fl3.2.1
    have inB : ∀ b o, sI.heap.get? b = some o → b ∉ X.env.locals :: X.fs → b ≠ a := fun b o e nm z => by
      have := nb b o e (by rw [frsE]; exact nm)
      rw [z, nB] at this
      cases this
    have pinsNot : ∀ p ∈ X.pn ++ pins, p.1 ≠ a := fun p hp => by
      obtain ⟨p1, _, p3, p4, _⟩ := J.pin p hp
      exact inB p.1 _ p1 fun hm => by
        rcases List.mem_cons.mp hm with w | w
        · exact p3 w
        · exact p4 w
    have new0 : X.s_0.heap.get? a = none := by
      cases e : X.s_0.heap.get? a with
      | none => rfl
      | some o =>
        obtain ⟨o', e'⟩ := J.base.there a o e (by rw [hex]; exact List.not_mem_nil)
        exact absurd rfl (inB a o' e' nfs)
    have S3 := J3.suite he3 hd3 na nL nF
    refine wpAny_handleBy_cons (codeAny_handlers_test ?_) (by intro q; cases q)
    have LT : PySem.W.Looks (model X.prog X.w) h3 (typeOf (.ref a)) cls := fun A Q E s k q => wpAny_typeOf_ref (k _ _ he3) (by rw [hz3.1]; exact q)
    have LM := PySem.W.exm_one (M := model X.prog X.w) (J3.kIn) LT hb1
    have test : ∀ {Q : Value → Shared → Prop} {E : Value → Shared → Prop}, Q c { s' with heap := h3 } → wpAny (model X.prog X.w) (X.A.mark (some (.ref a))) (eval (.Name x np) X.env) Q E { s' with heap := h3 } := fun {Q E} q => by
      rcases hc with ⟨hg, hdbg, hm | ⟨hm, hv, hnn⟩⟩
      · exact ld_glob (X := X.suite a ((a, oe3) :: (X.pn ++ pins))) S3 hg hm q hdbg
      · exact ld_blt (X := X.suite a ((a, oe3) :: (X.pn ++ pins))) S3 hg hm hv q hnn hdbg
    refine test (LM.here ?_)
    cases b with
    | true =>
      refine codeAny_handlers_suite_as ?_
      refine HandSPX.lands_againZ fl3 fun h4 fl4 up4 => ?_
      have J4 := J.landed (s' := { s' with heap := h4 }) nb fl4.1 ((up.trans up3).trans up4) os ag
      obtain ⟨oe4, vs4, he4, hz4, hd4⟩ := fl4.there
      refine store_ok (X := X.suite a ((a, oe4) :: (X.pn ++ pins))) (v := .ref a) (J4.suite he4 hd4 na nL nF) hN hi (.inl hln) rfl (fun s5 S5 => ?_) (.inr hln)
      refine wpAny_mono ((hsu a oe4 cls d (X.pn ++ pins) hz4 ⟨_, hd4⟩).run [] s5 _ H' _ S5 (hyes rfl a na)) (fun f s6 hsp => ?_) (fun _ _ z => z.elim)
      cases f with
      | next =>
        obtain ⟨σ6, H6, S6, q6⟩ := hsp
        exact gone_ok (unsuiteP S6 ok) hN hi hln fun s7 J7 => ⟨_, _, track J7 hz4 ⟨_, hd4⟩ pinsNot new0, q6⟩
      | brk => exact let ⟨_, _, _, q⟩ := hsp; q.elim
      | cont => exact let ⟨_, _, _, q⟩ := hsp; q.elim
      | ret u => exact let ⟨_, _, _, _, _, q⟩ := hsp; q.elim
    | false =>
      show wpAny _ X.A (handleBy (.ref a) X.env []) _ _ _
      refine wpAny_handleBy_nil ?_
      obtain ⟨k1, k2, k3, oe, vs, T, oT, ts', he, hz, hd, h1, hr⟩ := id fl3
      unfold PySem.passOn
      refine wpAny_bind (wpAny_field he hd h1 ?_)
      rw [if_neg (show ¬ ((Value.ref T == Value.none) = true) from by simp)]
      have fin : wpAny (model X.prog X.w) X.A (setFlight (.ref a) X.env.frame) (fun _ s4 => wpAny (model X.prog X.w) X.A (throw (.ref a) : Sem Flow) (SP X pins D) X.xe s4) X.xe { s' with heap := h3 } := by
        rw [hf]
        refine HandSPX.setFlight_upZ fl3 fun h4 hh4 up4 => wpAny_throw (tk _ _ ?_)
        exact ⟨a, B, sI, pins, σ', H', cls, d, rfl, J, nb, (up.trans up3).trans up4, .inr (.inr (by rw [hs]; exact hh4)), na, os, ag, hno rfl⟩
      first
        | exact wpAny_bind (wpAny_pure (wpAny_bind fin))
        | exact wpAny_bind fin
end
end JP

namespace JP
open PySem PySem.Spec PyProof.Rows L2

/-! ### an exception that is held: its fields, its class -/
/-- an exception of the class at C, held at a, with the fields fs -/
def Held (H : Hp) (a C : Addr) (fs : List (Str × V)) : Prop := ∃ d, H a = some (xo a (.ref C) (some d)) ∧ H d = some (.xd fs)
section
variable {X : Cx} {pins : List (Addr × Obj)} {σ : L2.St} {H : Hp} {s : Shared}
theorem held_inst {a C : Addr} {fs : List (Str × V)} (I : Inv X pins σ H s) (h : Held H a C fs) : ∃ (oe : Obj) (od : Obj) (mA : Str → Option Value), PySem.W.InstAt s.heap a oe C (some od) ∧ (∀ f, RelO (fs.lookup f) (mA f)) ∧ ∀ f : Str, PySem.W.lookIn f od = some (mA f) := by
  obtain ⟨d, ha, hd⟩ := h
  obtain ⟨oe, ho, hz, vs, hv⟩ := xo_at I.hok ha
  obtain ⟨mA, hns, hr⟩ := (show ObjOk X.prog X.w H s.heap d (.xd fs) from I.hok d _ hd)
  obtain ⟨od, ho2, hl⟩ := lookIn_ns hns
  exact ⟨oe, od, mA, ⟨ho, hz.1, by unfold PySem.W.notCls; rw [hv] <;> rfl, by rw [hz.2]; exact ho2⟩, hr, hl⟩
/-- e.f, e such an exception -/
def tXa (K : PySem.W.Frag) (f : Str) (te : TE) : TE := fun σ H Q => te σ H fun x H1 => ∃ a C fs v, x = .ref a ∧ XfC K C ∧ PySem.W.findIn K (.ref C) f = some none ∧ Held H1 a C fs ∧ fs.lookup f = some v ∧ Q v H1
theorem pe_xa {e : Expr} {te : TE} {pos : Pos} {n : Str} (he : PE X e te) (hb : attributeBase e n X.env (eval e X.env) = eval e X.env := by rfl) : PE X (.Attribute e n pos) (tXa X.K n te) := by
  refine ⟨fun pins s σ H Q I h => ?_⟩
  refine attr_of hb (thn (he.run pins s σ H _ I h) fun u s1 hh => ?_)
  obtain ⟨x, H1, I1, rx, a, C, fs, v, rfl, T, hno, hx, l, q⟩ := hh
  cases rx
  obtain ⟨oe, od, mA, J, hr, hl⟩ := held_inst I1 hx
  obtain ⟨u, hu, ru⟩ := RelO.some_of (v := v) (o := mA n) (by rw [← l]; exact hr n)
  exact HandSPX.exc_get I1.kIn J T.ga T.gg T.exC (PySem.W.findObj_own T.hdC hno rfl (by rw [hl, hu])) (handed_of ru) ⟨v, H1, I1.tok _, ru, q⟩
/-- isinstance(e, c), e such an exception -/
def rIsX (K : PySem.W.Frag) : List V → Hp → VK → Prop := fun xs H Q => ∃ (a C : Addr) (fs : List (Str × V)) (c : V) (cv : Value) (b : Bool), xs = [.ref a, c] ∧ ClsV c cv ∧ ExcC K C ∧ Held H a C fs ∧ PySem.W.kitOne K (.ref C) cv = some b ∧ Q (.bl b) H
theorem call_isX : CallR X (.builtin "isinstance") (rIsX X.K) := by
  intro pins s σ H xs us Q I r h
  obtain ⟨a, C, fs, c, cv, b, rfl, k, T, hx, e, q⟩ := h
  obtain ⟨u1, u2, rfl, r1, r2⟩ := vals2 r
  have e2 := k.eq r2
  subst e2
  cases r1
  obtain ⟨oe, od, mA, J, _⟩ := held_inst I hx
  obtain ⟨cd, hc, _⟩ := PySem.W.any_some T.hd
  exact PySem.W.kia_one (PySem.W.kitx_exc (by rw [hc]; rfl) T.hg T.hk T.hs T.ha T.hn T.ht T.hm) I.kIn J e (fun z => nomatch z) fun tk => ⟨.bl b, H, I.tok tk, rfl, q⟩
end

/-! ### instances of an own class: str(x), x == y, x != y -/
section
variable {X : Cx} {CX : CXT} {k : Nat} {C g : Addr} {fd : FuncData} {ps : List Str} {sp : Sp} {E : XK}
/-- C's own m stands at g -/
structure OwnM (K : PySem.W.Frag) (C : Addr) (m : Str) (g : Addr) : Prop where
  at_ : PySem.W.findIn K (.ref C) m = some (some (.ref g))
  fn : PySem.W.isFn K (.ref g) = true
theorem ins_inst {pins : List (Addr × Obj)} {σ : L2.St} {H : Hp} {s : Shared} {a dx : Addr} {fs : List (Str × V)} (I : Inv X pins σ H s) (h : H a = some (.ins C dx fs)) : ∃ ox od, PySem.W.InstAt s.heap a ox C od := by
  obtain ⟨mA, O, _⟩ := ins_get I.hok h
  obtain ⟨od, J, _⟩ := O.look
  exact ⟨_, _, J⟩
theorem call_at {A : Around} {pins : List (Addr × Obj)} {σ : L2.St} {H : Hp} {s : Shared} {us : List Value} {vs : List V} {Q : VK} (F : FnOk X.prog X.w X.K X.mg X.base CX k g fd ps sp) (hb : Binds X.K fd ps []) (hr : Room k A) (hx : Passes CX X E) (I : Inv X pins σ H s) (e0 : Env0 X.prog X.w X.K X.mg X.base A X.stack s H) (r : Vals vs us) (h : sp vs H Q E) :
    wpAny (model X.prog X.w) A (call (.ref g) us) (EP X pins σ Q) X.xe s := by
  have n : us.length = ps.length := r.length.symm.trans (F.len _ _ _ _ h)
  refine wpAny_call (codeAny_mono (F.run A X.stack s H ⟨us, []⟩ us vs Q E hr e0 (by
    have := hb s us I.kIn (by rw [List.append_nil]; exact n)
    rw [List.append_nil] at this
    exact this) r h) fun r s' hq => ?_)
  cases r with
  | error e => exact hx pins σ H s e s' I hq
  | ok fl =>
    cases fl with
    | ret u => exact I.after hq
    | next => exact False.elim hq
    | brk => exact False.elim hq
    | cont => exact False.elim hq
/-- str(x) -/
def rStrO (C : Addr) (sp : Sp) (E : XK) : List V → Hp → VK → Prop := fun xs H Q => ∃ a dx fs, xs = [.ref a] ∧ H a = some (.ins C dx fs) ∧ sp [.ref a] H (fun z H' => ∃ y, z = .str y ∧ Q z H') E
theorem call_strO (M : OwnM X.K C "__str__" g) (F : FnOk X.prog X.w X.K X.mg X.base CX k g fd ps sp) (hb : Binds X.K fd ps []) (hr : Room (k + 2) X.A) (hx : Passes CX X E) : CallR X (.type "str") (rStrO C sp E) := by
  intro pins s σ H xs us Q I r h
  obtain ⟨a, dx, fs, rfl, ha, q⟩ := h
  obtain ⟨u, rfl, ru⟩ := vals1 r
  cases ru
  obtain ⟨ox, od, J⟩ := ins_inst I ha
  have hr2 : Room k X.A.in1.in1 := (show Room (k + 1) X.A.in1 from Room.in1 hr).in1
  refine PySem.W.kso_call hr2.units0 I.kIn J M.at_ M.fn (wpAny_mono (call_at (us := [.ref a]) (vs := [.ref a]) F hb hr2 hx I I.env0.in1.in1 (.cons rfl .nil) q) (fun w s' z => ?_) fun _ _ x => x)
  obtain ⟨z', H', I', rz, y, ey, qz⟩ := z
  subst ey
  obtain ⟨t, e⟩ := (show ∃ t, w = Value.str y t from rz)
  subst e
  exact ⟨.str y, H', I', ⟨t, rfl⟩, qz⟩
/-- what stands on the right of a comparison: of a class that is not below C -/
structure RightOf (K : PySem.W.Frag) (H : Hp) (C : Addr) (y : V) : Prop where
  ty : ∃ t, TyX K H y t ∧ PySem.W.notFirst K C t = true
/-- x == y, x != y -/
def rEqO (C : Addr) (sp : Sp) (E : XK) (K : PySem.W.Frag) (neg : Bool) : R2 := fun x y H Q => ∃ a dx fs, x = .ref a ∧ H a = some (.ins C dx fs) ∧ RightOf K H C y ∧ sp [.ref a, y] H (fun z H' => ∃ b, z = .bl b ∧ Q (.bl (if neg then !b else b)) H') E
theorem op_eqO (M : OwnM X.K C "__eq__" g) (F : FnOk X.prog X.w X.K X.mg X.base CX k g fd ps sp) (hb : Binds X.K fd ps []) (hr : Room k X.A) (hx : Passes CX X E) : OpR X (compareOp .Eq) (rEqO C sp E X.K false) := by
  intro pins s σ H x y v u Q I rx ry h
  obtain ⟨a, dx, fs, rfl, ha, ⟨t, ty, hn⟩, q⟩ := h
  cases rx
  obtain ⟨ox, od, J⟩ := ins_inst I ha
  obtain ⟨P, Z, p, _⟩ := kit_of I ry ty
  obtain ⟨m, hF⟩ := I.fr
  show wpAny _ _ (richCompare .Eq _ _) _ _ _
  refine PySem.W.cmp_K (op := .Eq) hr.units0 hF I.ok.mod.kin J (Z.ty _ _ I.kIn p) hn M.at_ M.fn ?_
  refine wpAny_mono (call_at (us := [.ref a, u]) (vs := [.ref a, y]) F hb hr hx I I.env0 (.cons rfl (.cons ry .nil)) q) (fun w s' z => ?_) fun _ _ x => x
  obtain ⟨z', H', I', rz, b, eb, qz⟩ := z
  subst eb
  cases (show w = Value.bool b from rz)
  exact ⟨.bl b, H', I', rfl, qz⟩
/-- a builtin that stands as a class's special method -/
theorem ifBoundB {M : Model} {A : Around} {E : Value → Shared → Prop} {s : Shared} {K : PySem.W.Frag} {x C : Addr} {ox : Obj} {od : Option Obj} {name : Str} {id : String} {args : List Value} {Q : Option Value → Shared → Prop} (Y : K.In s.heap) (I : PySem.W.InstAt s.heap x ox C od)
    (hs : PySem.W.findIn K (.ref C) name = some (some (.builtin id))) (hb : ∀ self, bindSpecial (.builtin id) self = pure (.builtin id, [self])) (h : wpAny M A (call (.builtin id) (.ref x :: args)) (fun v => Q (some v)) E s) : wpAny M A (callSpecialIfBound? (.ref x) name args) Q E s := by
  simp only [callSpecialIfBound?, bindSpecialIfBound?]
  refine wpAny_holding (wpAny_bind (wpAny_bind (wpAny_bind (I.type.here ((PySem.W.looks_findIn Y hs).here ?_)))))
  refine wpAny_bind (wpAny_askSetting (wpAny_ite ?_))
  have fin : wpAny M A (call (.builtin id) ([.ref x] ++ args) >>= fun v => pure (some v)) Q E s := wpAny_bind (wpAny_mono h (fun v s' h' => wpAny_pure h') fun _ _ h' => h')
  split
  · exact wpAny_bind ((PySem.W.Looks.of_pure (hb _)).here (wpAny_pure (by exact fin)))
  · exact wpAny_tryCatch (wpAny_bind ((PySem.W.Looks.of_pure (hb _)).here (wpAny_pure (by exact fin))))
open Builtin in
/-- object.__ne__: what __eq__ does not say -/
theorem call_objne {prog : Program} {w : World} {A : Around} {E : Value → Shared → Prop} {s : Shared} {K : PySem.W.Frag} {x C f : Addr} {ox : Obj} {od : Option Obj} {b : Value} {Q : Value → Shared → Prop} (hu : A.in1.units < cLine) (Y : K.In s.heap) (I : PySem.W.InstAt s.heap x ox C od) (hm : PySem.W.mroIn K C (.type "object") = some true)
    (he : PySem.W.findIn K (.ref C) "__eq__" = some (some (.ref f))) (hf : PySem.W.isFn K (.ref f) = true) (h : wpAny (model prog w) A.in1 (call (.ref f) [.ref x, b]) (fun v s' => ∃ k, v = .bool k ∧ Q (.bool !k) s') E s) : wpAny (model prog w) A (call (.builtin "object.__ne__") [.ref x, b]) Q E s := by
  refine wpAny_call (codeAny_call_builtin PySem.F.cmp_object.ne.plain PySem.F.cmpEntry_ne (PySem.W.check_slot (i := "object.__ne__") (owner := "object") (n := "__ne__") PySem.F.cmpKind_ne PySem.F.cmpSplit_ne (I.type.andThen (PySem.W.looks_mroIn Y hm)) (PySem.F.cmpArgs_ne _ _) ?_))
  unfold Builtin.«object.__ne__»
  refine wpAny_bind (m := slotArgs "__ne__" 1 _) (wpAny_pure ?_)
  refine wpAny_bind (m := cRoomFor _ _) (wpAny_cRoomFor hu ?_)
  refine wpAny_bind (m := callSpecialIfBound? (.ref x) (Str.ofString "__eq__") _) (PySem.W.ifBound_K Y I he hf (wpAny_mono h (fun r s' hq => ?_) fun _ _ y => y))
  obtain ⟨k, rfl, q⟩ := hq
  cases k <;> exact wpAny_pure q
/-- x != y, where the class has no __ne__ of its own -/
theorem rich_ne {prog : Program} {w : World} {A : Around} {E : Value → Shared → Prop} {s : Shared} {K : PySem.W.Frag} {x C f : Addr} {ox : Obj} {od : Option Obj} {b tb : Value} {Q : Value → Shared → Prop} (hu0 : A.units < cLine) (hu : A.in1.units < cLine) (Y : K.In s.heap) (I : PySem.W.InstAt s.heap x ox C od)
    (hb : PySem.W.Looks (model prog w) s.heap (typeOf b) tb) (hn : PySem.W.notFirst K C tb = true) (hm : PySem.W.mroIn K C (.type "object") = some true) (hne : PySem.W.findIn K (.ref C) "__ne__" = some (some (.builtin "object.__ne__")))
    (he : PySem.W.findIn K (.ref C) "__eq__" = some (some (.ref f))) (hf : PySem.W.isFn K (.ref f) = true) (h : wpAny (model prog w) A.in1 (call (.ref f) [.ref x, b]) (fun v s' => ∃ k, v = .bool k ∧ Q (.bool !k) s') E s) : wpAny (model prog w) A (richCompare .NotEq (.ref x) b) Q E s := by
  have one : wpAny (model prog w) A (tryCompare (.ref x) "__ne__" b) (fun r s' => ∃ v, r = some v ∧ Q v s') E s := by
    unfold tryCompare
    refine wpAny_bind (ifBoundB (args := [b]) Y I hne PySem.F.cmp_object.ne.bind ?_)
    have z := call_objne (Q := fun v s' => ∃ k, v = .bool k ∧ Q v s') hu Y I hm he hf (wpAny_mono h (fun v s' hv => (let ⟨k, e, q⟩ := hv; ⟨k, e, _, rfl, q⟩ : ∃ k, v = .bool k ∧ ∃ k', Value.bool (!k) = .bool k' ∧ Q (.bool !k) s')) fun _ _ e => e)
    refine wpAny_mono z (fun v s' hv => ?_) fun _ _ e => e
    obtain ⟨k, rfl, q⟩ := hv
    exact wpAny_pure ⟨_, rfl, q⟩
  unfold richCompare
  simp only [PySem.oneThing_ref]
  refine wpAny_holding (wpAny_bind (wpAny_cRoomFor hu0 ?_))
  refine wpAny_bind (I.type.here (wpAny_bind (hb.here ?_)))
  split
  · rename_i q
    have e : PySem.W.subIn K tb (.ref C) = some false := by
      rcases Bool.or_eq_true_iff.mp hn with e | e
      · rw [beq_iff_eq.mp e] at q; simp at q
      · exact beq_iff_eq.mp e
    refine wpAny_bind ((PySem.W.looks_subIn Y e).here ?_)
    simp only [Bool.false_eq_true, if_false]
    refine wpAny_bind (wpAny_mono one (fun r s' z => ?_) fun _ _ e => e)
    obtain ⟨v, rfl, hq⟩ := z
    exact wpAny_pure hq
  · refine wpAny_bind (wpAny_pure ?_)
    simp only [Bool.false_eq_true, if_false]
    refine wpAny_bind (wpAny_mono one (fun r s' z => ?_) fun _ _ e => e)
    obtain ⟨v, rfl, hq⟩ := z
    exact wpAny_pure hq
theorem op_neO (M : OwnM X.K C "__eq__" g) (hne : PySem.W.findIn X.K (.ref C) "__ne__" = some (some (.builtin "object.__ne__"))) (hm : PySem.W.mroIn X.K C (.type "object") = some true) (F : FnOk X.prog X.w X.K X.mg X.base CX k g fd ps sp) (hb : Binds X.K fd ps []) (hr : Room (k + 1) X.A) (hx : Passes CX X E) : OpR X (compareOp .NotEq) (rEqO C sp E X.K true) := by
  intro pins s σ H x y v u Q I rx ry h
  obtain ⟨a, dx, fs, rfl, ha, ⟨t, ty, hn⟩, q⟩ := h
  cases rx
  obtain ⟨ox, od, J⟩ := ins_inst I ha
  obtain ⟨P, Z, p, _⟩ := kit_of I ry ty
  have hr2 : Room k X.A.in1 := Room.in1 hr
  show wpAny _ _ (richCompare .NotEq _ _) _ _ _
  refine rich_ne hr.units0 hr2.units0 I.kIn J (Z.ty _ _ I.kIn p) hn hm hne M.at_ M.fn ?_
  refine wpAny_mono (call_at (us := [.ref a, u]) (vs := [.ref a, y]) F hb hr2 hx I I.env0.in1 (.cons rfl (.cons ry .nil)) q) (fun w s' z => ?_) fun _ _ x => x
  obtain ⟨z', H', I', rz, b, eb, qz⟩ := z
  subst eb
  cases (show w = Value.bool b from rz)
  exact ⟨b, rfl, .bl !b, H', I', rfl, qz⟩
end

/-! ### C.m(e), m a static method -/
structure SMet (K : PySem.W.Frag) (C : Addr) (mc : Value) (m : Str) (p g : Addr) : Prop where
  rd : PySem.W.readsIn K C mc = true
  ga : PySem.W.specialIn K (.ref C) "__getattribute__" = some (some (.builtin "type.__getattribute__"))
  at_ : PySem.W.findCls K (.ref C) mc m = some (.get (.builtin "staticmethod.__get__") (.ref p) .none (.ref C))
  rc : ∃ rest, PySem.W.recIn K p "staticmethod" = some (.ref g :: rest)
  kp : PySem.W.keepIn K (.ref g) = true
section
variable {X : Cx} {CX : CXT} {k : Nat} {C p g : Addr} {mc : Value} {fd : FuncData} {ps ks : List Str} {sp : Sp} {E : XK} {o e : Expr} {es : List Expr} {kws : List Keyword} {m : Str} {pos apos : Pos} {ta : TE} {t tk : TA} {pl : Sem Bool} {gg : List Value → List Value → List Value} {gV : List V → List V → List V}
theorem getsm {pins : List (Addr × Obj)} {σ : L2.St} {H : Hp} {s : Shared} {A : Around} {E : Value → Shared → Prop} {Q : Value × List Value → Shared → Prop} (I : Inv X pins σ H s) (c : SMet X.K C mc m p g) (h : ∀ s', Inv X pins σ H s' → Q (.ref g, []) s') : wpAny (model X.prog X.w) A (getMethod (.ref C) m pl) Q E s := by
  obtain ⟨rest, hp⟩ := c.rc
  refine PySem.W.method_cls I.kIn c.ga (PySem.W.cls_bind I.kIn c.rd c.at_ (wpAny_call (PySem.W.sm_get (s := { s with toks := s.toks + 1 }) I.kIn hp (PySem.W.handed_on rfl (h _ (I.tok _))))))
def tSMeth (C : Addr) (sp : Sp) (E : L2.St → XK) (ta : TE) (t : TA) : TE := fun σ H Q => ta σ H fun x H1 => x = .ref C ∧ t σ H1 fun vs H2 => sp vs H2 Q (E σ)
theorem pe_smeth {E : L2.St → XK} (he : PE X o ta) (c : SMet X.K C mc m p g) (F : FnOk X.prog X.w X.K X.mg X.base CX k g fd ps sp) (hr : Room k X.A) (hb : Binds X.K fd ps []) (hx : ∀ σ, PassesAt CX X σ (E σ)) (ha : PA X (e :: es) t)
    (hst : starEach (e :: es) X.env = (false, eval e X.env) :: starEach es X.env := by rfl) (hpl : (backTo pos (starEach es X.env)).any (·.1) = false := by rfl)
    (ht : eval (.Call (.Attribute o m apos) (e :: es) [] pos) X.env = (do
      let ov ← eval o X.env
      standAt apos.atName
      let (f, first) ← holding [ov] (getMethod ov m pl)
      callWith pos f first (backTo pos (starEach (e :: es) X.env)) (backToKw pos (keywordEach [] X.env))) := by rfl) :
    PE X (.Call (.Attribute o m apos) (e :: es) [] pos) (tSMeth C sp E ta t) := by
  refine ⟨fun pins s σ H Q I h => ?_⟩
  refine PySem.W.methodCall_KW (pl := pl) (thn (he.run pins s σ H _ I h) fun u s1 ⟨x, H1, I1, rx, ex, q⟩ => ?_) ht
  subst ex
  cases (show u = Value.ref C from rx)
  refine getsm I1 c fun s2 I2 => ?_
  exact PySem.W.callWith_K (first := []) (h₀ := X.base) I.ok.mod.kin c.kp (thn (ha.run pos pins s2 σ H1 _ I2 q) fun us s3 ⟨vs, H2, I3, r, q2⟩ => ⟨I3.kIn, run_fnS (us := us) (vs := vs) F hr hb (hx σ) I3 r q2⟩) hst hpl
theorem passes_at {E : XK} (h : Passes CX X E) (σ : L2.St) : PassesAt CX X σ E := fun pins H s e s' I c => h pins σ H s e s' I c
/-- what is not raised passes -/
theorem takesN {X : Cx} : Takes X (fun _ _ _ _ => False) := fun _ _ x => by
  obtain ⟨_, _, _, _, _, _, _, _, _, _, _, _, _, _, _, _, z⟩ := x
  exact z.elim
def EN : XK := fun _ _ _ => False
theorem passN : Passes (L2.CX X.prog X.w) X EN := fun pins σ H s e s' I c => passes_call takesN (fun _ _ _ _ h => h) pins σ H s e s' I c
def tSMethK (C : Addr) (sp : Sp) (gV : List V → List V → List V) (E : XK) (ta : TE) (tk : TA) : TE := fun σ H Q => ta σ H fun x H1 => x = .ref C ∧ tk σ H1 fun zs H2 => sp (gV [] zs) H2 Q E
/-- C.m(k = v, ..) -/
theorem pe_smethK0 (he : PE X o ta) (c : SMet X.K C mc m p g) (F : FnOk X.prog X.w X.K X.mg X.base CX k g fd ps sp) (hr : Room k X.A) (hb : KBinds X.K fd ps ks gg gV) (hx : Passes CX X E) (hkw : PK X kws tk)
    (hall : (backToKw pos (keywordEach kws X.env)).all (·.1.isSome) = true := by rfl) (hks : (backToKw pos (keywordEach kws X.env)).filterMap (·.1) = ks := by rfl)
    (hpl : ((backTo pos (starEach [] X.env)).any (·.1) || (backToKw pos (keywordEach kws X.env)).any (·.1.isNone)) = false := by rfl)
    (ht : eval (.Call (.Attribute o m apos) [] kws pos) X.env = (do
      let ov ← eval o X.env
      standAt apos.atName
      let (f, first) ← holding [ov] (getMethod ov m pl)
      callWith pos f first (backTo pos (starEach [] X.env)) (backToKw pos (keywordEach kws X.env))) := by rfl) :
    PE X (.Call (.Attribute o m apos) [] kws pos) (tSMethK C sp gV E ta tk) := by
  refine ⟨fun pins s σ H Q I h => ?_⟩
  refine PySem.W.methodCall_KW (pl := pl) (thn (he.run pins s σ H _ I h) fun u s1 ⟨x, H1, I1, rx, ex, q⟩ => ?_) ht
  subst ex
  cases (show u = Value.ref C from rx)
  refine getsm I1 c fun s2 I2 => ?_
  refine PySem.W.callWith_KW0 (h₀ := X.base) I.ok.mod.kin c.kp hall (thn (hkw.run pos pins s2 σ H1 _ I2 q) fun ws s3 ⟨zs, H2, I3, rz, q2⟩ => ⟨I3.kIn, ?_⟩) hpl
  rw [hks]
  exact run_fnk (us := []) (vs := []) F hr hb hx I3 .nil rz q2
end

/-! ### an own exception with fields: made and raised -/
/-- its __init__ stores one field -/
def spE1 (K : PySem.W.Frag) (C : Addr) (f : Str) : Sp := fun vs H Q _ => ∃ a y, vs = [.ref a, y] ∧ H a = some (exo a C none) ∧ ∀ d, H d = none → d ≠ a → Q .non (upd (upd H d (exd d [(f, y)])) a (exo a C (some d)))
/-- two fields -/
def spE2 (K : PySem.W.Frag) (C : Addr) (f g : Str) : Sp := fun vs H Q _ => ∃ a y z, vs = [.ref a, y, z] ∧ H a = some (exo a C none) ∧ ∀ d, H d = none → d ≠ a → Q .non (upd (upd (upd H d (exd d [(f, y)])) a (exo a C (some d))) d (exd d [(g, z), (f, y)]))
theorem exd_end {H : Hp} {a d : Addr} {o : HO} {C : Addr} {fs gs : List (Str × V)} (n : H a = none) (nd : d ≠ a) : upd (del (upd (upd (upd (upd H a o) d (exd d fs)) a (exo a C (some d))) d (exd d gs)) a) d (.xd gs) = upd H d (.xd gs) := by
  funext b
  by_cases hd : b = d
  · subst hd
    rw [upd_same, upd_same]
  · rw [upd_ne hd, upd_ne hd]
    by_cases ha : b = a
    · subst ha
      rw [del_same, n]
    · rw [del_ne ha, upd_ne hd, upd_ne ha, upd_ne hd, upd_ne ha]
theorem exd_end1 {H : Hp} {a d : Addr} {o : HO} {C : Addr} {fs : List (Str × V)} (n : H a = none) (nd : d ≠ a) : upd (del (upd (upd (upd H a o) d (exd d fs)) a (exo a C (some d))) a) d (.xd fs) = upd H d (.xd fs) := by
  funext b
  by_cases hd : b = d
  · subst hd
    rw [upd_same, upd_same]
  · rw [upd_ne hd, upd_ne hd]
    by_cases ha : b = a
    · subst ha
      rw [del_same, n]
    · rw [del_ne ha, upd_ne ha, upd_ne hd, upd_ne ha]
/-- what the making of such an exception comes to -/
theorem mkE1 {K : PySem.W.Frag} {C : Addr} {f : Str} {y : V} {H1 : Hp} {Q E : XK} (q : ∀ d, H1 d = none → Q (.ref C) (some d) (upd H1 d (.xd [(f, y)]))) :
    [y].length ≤ 1000 ∧ ∀ a, H1 a = none → spE1 K C f (.ref a :: ([y] ++ [])) (upd H1 a (exo a C none))
      (fun v H2 => v = .non ∧ ∃ (d : Addr) (fs : List (Str × V)), H2 a = some (exo a C (some d)) ∧ H2 d = some (exd d fs) ∧ H1 d = none ∧ Q (.ref C) (some d) (upd (del H2 a) d (.xd fs))) E := by
  refine ⟨by simp, fun a na => ⟨a, y, rfl, upd_same, fun d nd nda => ⟨rfl, d, [(f, y)], upd_same, ?_, ?_, ?_⟩⟩⟩
  · rw [upd_ne nda, upd_same]
  · rw [upd_ne nda] at nd
    exact nd
  · rw [upd_ne nda] at nd
    rw [exd_end1 na nda]
    exact q d nd
theorem mkE2 {K : PySem.W.Frag} {C : Addr} {f g : Str} {y z : V} {H1 : Hp} {Q E : XK} (q : ∀ d, H1 d = none → Q (.ref C) (some d) (upd H1 d (.xd [(g, z), (f, y)]))) :
    [y, z].length ≤ 1000 ∧ ∀ a, H1 a = none → spE2 K C f g (.ref a :: ([y, z] ++ [])) (upd H1 a (exo a C none))
      (fun v H2 => v = .non ∧ ∃ (d : Addr) (fs : List (Str × V)), H2 a = some (exo a C (some d)) ∧ H2 d = some (exd d fs) ∧ H1 d = none ∧ Q (.ref C) (some d) (upd (del H2 a) d (.xd fs))) E := by
  refine ⟨by simp, fun a na => ⟨a, y, z, rfl, upd_same, fun d nd nda => ⟨rfl, d, [(g, z), (f, y)], ?_, upd_same, ?_, ?_⟩⟩⟩
  · rw [upd_ne nda.symm, upd_same]
  · rw [upd_ne nda] at nd
    exact nd
  · rw [upd_ne nda] at nd
    rw [exd_end na nda]
    exact q d nd
end JP

namespace JP
open PySem PySem.Spec PyProof.Rows L2 TL

/-! ### text * int -/
theorem op_mulS {X : Cx} : OpR X (binaryOp .Mult) (fun x y H Q => ∃ a n, x = .str a ∧ y = .int n ∧ MulOk a n ∧ Q (.str (Txt.mul a n)) H) := by
  intro pins s σ H x y v u Q I rx ry h
  obtain ⟨a, n, rfl, rfl, hz, q⟩ := h
  obtain ⟨t, rfl⟩ := rx
  obtain ⟨t', rfl⟩ := ry
  exact SB.mul hz (fun t' k => ⟨.str (Txt.mul a n), H, I.tok _, ⟨_, rfl⟩, q⟩)

/-! ### the texts of integers -/
abbrev numS (n : Int) : Str := Str.ofString (toString n)
theorem tl_num0 (m : Nat) : tl (numS (m : Int)) = numL m := tl_num m
theorem tl_numN (m : Nat) : tl (numS (Int.negSucc m)) = 45 :: numL (m + 1) := by
  have e : toString (Int.negSucc m) = "-" ++ toString (m + 1) := rfl
  rw [numS, e, tl_ofString, String.toList_append, List.map_append]
  have z := tl_num (m + 1)
  rw [tl_ofString] at z
  show [45] ++ _ = _
  rw [show (toString (m + 1) : String) = toString ((m + 1 : Nat) : Int) from rfl, z]
  rfl
theorem dig_uni : ∀ c, 48 ≤ c → c ≤ 57 → Unicode.isDigit c = true := fun c h1 h2 => by
  have : c = 48 ∨ c = 49 ∨ c = 50 ∨ c = 51 ∨ c = 52 ∨ c = 53 ∨ c = 54 ∨ c = 55 ∨ c = 56 ∨ c = 57 := by omega
  rcases this with rfl | rfl | rfl | rfl | rfl | rfl | rfl | rfl | rfl | rfl <;> decide +kernel
/-- whether a word is an integer as it is written, of at most 60 digits -/
def isIntW (w : Str) : Bool :=
  if (decide ((60 : Int) < (Txt.removeprefix w "-").length) || !Txt.isascii (Txt.removeprefix w "-") || !Txt.isdigit (Txt.removeprefix w "-")) = true then false
  else (decide (V.str w = V.str "0") || !Txt.startswith (Txt.removeprefix w "-") "0")
theorem allS (x : Str) (p : Nat → Bool) : x.cps.all p = (tl x).all p := by
  rw [Array.all_toList] <;> rfl
theorem head_numL {m : Nat} (h : 0 < m) : ∃ c r, numL m = c :: r ∧ c ≠ 48 := by
  induction m using Nat.strongRecOn with
  | _ m ih =>
    by_cases h10 : m < 10
    · exact ⟨48 + m, [], numL_lt h10, by omega⟩
    · obtain ⟨c, r, e, hc⟩ := ih (m / 10) (by omega) (by omega)
      exact ⟨c, r ++ [48 + m % 10], by rw [numL_step (by omega), e]; rfl, hc⟩
theorem tl_minus : tl ("-" : Str) = [45] := tl_ofString "-"
theorem tl_zero : tl ("0" : Str) = [48] := tl_ofString "0"
theorem len_minus : ("-" : Str).length = 1 := by rw [len_tl, tl_minus]; rfl
theorem len_zero : ("0" : Str).length = 1 := by rw [len_tl, tl_zero]; rfl
theorem rp_minus {x d : Str} (h : tl x = 45 :: tl d) : Txt.removeprefix x "-" = d := by
  have hs : Builtin.Str.subAt x "-" 0 = true := by
    rw [StrLaws.subAt_eq, show x.cps.toList = tl x from rfl, show ("-" : Str).cps.toList = tl "-" from rfl, tl_minus, h, len_minus]
    simp
  have hl : x.length = (tl d).length + 1 := by rw [len_tl, h]; rfl
  unfold Txt.removeprefix
  rw [if_pos hs]
  show (if (x.length - ("-" : Str).length == x.length) = true then x else Builtin.Str.strSub x ("-" : Str).length x.length) = d
  rw [if_neg (by rw [len_minus]; simp; omega), len_minus]
  refine ext_tl ?_
  rw [tl_strSub_end, h]
  rfl
theorem rp_plain {x : Str} (h : ∀ r, tl x ≠ 45 :: r) : Txt.removeprefix x "-" = x := by
  have hs : Builtin.Str.subAt x "-" 0 = false := by
    rw [StrLaws.subAt_eq, show x.cps.toList = tl x from rfl, show ("-" : Str).cps.toList = tl "-" from rfl, tl_minus, len_minus, List.drop_zero]
    cases e : tl x with
    | nil => rfl
    | cons c r =>
      have : c ≠ 45 := fun z => h r (by rw [e, z])
      simp [this]
  unfold Txt.removeprefix
  rw [if_neg (by rw [hs]; exact Bool.false_ne_true)]
  rfl
theorem sw_zero (x : Str) : Txt.startswith x "0" = match tl x with | c :: _ => c == 48 | [] => false := by
  unfold Txt.startswith
  rw [StrLaws.subAt_eq, show x.cps.toList = tl x from rfl, show ("0" : Str).cps.toList = tl "0" from rfl, tl_zero, len_zero, List.drop_zero, len_tl]
  cases tl x with
  | nil => rfl
  | cons c r => simp
/-- the digits of a number: plain signs, no other -/
theorem word_digits {w d : Str} {m : Nat} (hd : tl d = numL m) (hr : Txt.removeprefix w "-" = d) (hm : m < 10 ^ 60) (hz : 0 < m ∨ w = "0") : isIntW w = true := by
  have hl : d.length ≤ 60 := by rw [len_tl, hd]; exact numL_len (by decide) hm
  have hdig := numL_digits m
  have ha : Txt.isascii d = true := by
    unfold Txt.isascii
    rw [allS, hd, List.all_eq_true]
    intro c hc
    have := hdig c hc
    exact decide_eq_true (by omega)
  have hi : Txt.isdigit d = true := by
    unfold Txt.isdigit
    rw [allS, hd, len_tl, hd, Bool.and_eq_true, List.all_eq_true]
    refine ⟨decide_eq_true (List.length_pos_iff.mpr (numL_ne m)), fun c hc => ?_⟩
    have := hdig c hc
    exact dig_uni c this.1 this.2
  unfold isIntW
  rw [hr, ha, hi, decide_eq_false (by omega)]
  simp only [Bool.not_true, Bool.or_false, Bool.false_eq_true, if_false]
  rcases hz with hz | hz
  · obtain ⟨c, r, e, hc⟩ := head_numL hz
    rw [sw_zero, hd, e]
    simp [hc]
  · rw [hz]
    simp
theorem isIntW_num {n : Int} (h : n.natAbs < 10 ^ 60) : isIntW (numS n) = true := by
  cases n with
  | ofNat m =>
    have e := tl_num0 m
    have r : Txt.removeprefix (numS (m : Int)) "-" = numS (m : Int) := rp_plain fun r z => by
      rw [e] at z
      exact numL_free (n := m) (s := 45) (by omega) (by rw [z]; exact List.mem_cons_self)
    refine word_digits e r h ?_
    by_cases h0 : m = 0
    · subst h0
      exact .inr rfl
    · exact .inl (by omega)
  | negSucc m =>
    have e := tl_numN m
    have r : Txt.removeprefix (numS (Int.negSucc m)) "-" = numS ((m + 1 : Nat) : Int) := rp_minus (by rw [e, tl_num0])
    exact word_digits (tl_num0 _) r h (.inl (by omega))
theorem len_num {n : Int} (h : n.natAbs < 10 ^ 60) : (numS n).length ≤ 61 := by
  rw [len_tl]
  cases n with
  | ofNat m =>
    rw [show (Int.ofNat m) = (m : Int) from rfl, tl_num0]
    have := numL_len (n := m) (k := 60) (by decide) h
    omega
  | negSucc m =>
    rw [tl_numN, List.length_cons]
    have := numL_len (n := m + 1) (k := 60) (by decide) h
    omega
theorem int_back {n : Int} (h : n.natAbs < 10 ^ 60) : PySem.intText? (numS n) = some n := by
  cases n with
  | ofNat m => exact int_num (by
      have := numL_len (n := m) (k := 60) (by decide) h
      omega)
  | negSucc m =>
    have hl := numL_len (n := m + 1) (k := 60) (by decide) h
    have z := PySem.intText_neg (x := numS (Int.negSucc m)) (cs := numL (m + 1)) (tl_numN m) (numL_digits _) (numL_ne _) (by rw [len_tl, tl_numN, List.length_cons]; omega)
    rw [z, numL_val]
    rfl
theorem num_free {n : Int} {s : Nat} (h : s < 48 ∨ 57 < s) (h2 : s ≠ 45) : s ∉ tl (numS n) := by
  cases n with
  | ofNat m =>
    rw [show (Int.ofNat m) = (m : Int) from rfl, tl_num0]
    exact numL_free h
  | negSucc m =>
    rw [tl_numN]
    intro z
    rcases List.mem_cons.mp z with z | z
    · exact h2 z
    · exact numL_free h z
theorem log_num {n : Int} (h : n.natAbs < 10 ^ 60) : n.natAbs.log2 < 1920 := by
  by_cases h0 : n.natAbs = 0
  · rw [h0]
    decide
  · exact (Nat.log2_lt h0).mpr (Nat.lt_of_lt_of_le h (by decide +kernel))

/-! ### the words of a bound -/
/-- how many words from the first one on are integers, at most k -/
def lead : Nat → List Str → Nat
  | 0, _ => 0
  | _, [] => 0
  | k + 1, w :: ws => if isIntW w = true then lead k ws + 1 else 0
/-- the word at a place; behind the last one the empty word -/
abbrev wd (ws : List Str) (k : Nat) : Str := ws.getD k ""
def isSign (w : Str) : Bool := decide (V.str w = V.str ">=") || decide (V.str w = V.str ">")
/-- the first word that cannot stand -/
def rdErr (ws : List Str) : Option Nat :=
  if isSign (wd ws (lead 8 ws)) = false then some (lead 8 ws)
  else if decide (V.str (wd ws (lead 8 ws + 1)) = V.str "0") = false then some (lead 8 ws + 1)
  else if lead 8 ws + 2 < ws.length then some (lead 8 ws + 2)
  else none
theorem lead_le : ∀ (k : Nat) (ws : List Str), lead k ws ≤ k
  | 0, _ => Nat.le_refl _
  | _ + 1, [] => Nat.zero_le _
  | k + 1, w :: ws => by
    unfold lead
    split
    · have := lead_le k ws
      omega
    · omega
theorem lead_app : ∀ (k : Nat) (us r : List Str), (∀ u ∈ us, isIntW u = true) → us.length ≤ k → (us.length = k ∨ ∀ w r', r = w :: r' → isIntW w = false) → lead k (us ++ r) = us.length
  | 0, [], r, _, _, _ => rfl
  | 0, _ :: _, _, _, h, _ => absurd h (by simp)
  | k + 1, [], [], _, _, _ => rfl
  | k + 1, [], w :: r, _, _, h => by
    rcases h with h | h
    · simp at h
    · show lead (k + 1) (w :: r) = 0
      unfold lead
      rw [if_neg (by rw [h w r rfl]; exact Bool.false_ne_true)]
  | k + 1, u :: us, r, hu, hl, h => by
    show lead (k + 1) (u :: (us ++ r)) = _
    unfold lead
    rw [if_pos (hu u List.mem_cons_self), lead_app k us r (fun x hx => hu x (List.mem_cons_of_mem _ hx)) (by simpa using hl) (h.imp (fun z => by simpa using z) id)]
    rfl
theorem wd_app (us r : List Str) (k : Nat) : wd (us ++ r) (us.length + k) = wd r k := by
  show (us ++ r).getD (us.length + k) "" = r.getD k ""
  rw [List.getD_eq_getElem?_getD, List.getD_eq_getElem?_getD, List.getElem?_append_right (Nat.le_add_right _ _), Nat.add_sub_cancel_left]
/-- lead, step by step -/
theorem lead_lt {k : Nat} : ∀ {ws : List Str} {i : Nat}, i < lead k ws → isIntW (wd ws i) = true := by
  induction k with
  | zero => intro ws i h; exact absurd h (Nat.not_lt_zero i)
  | succ k ih =>
    intro ws i h
    cases ws with
    | nil => exact absurd h (Nat.not_lt_zero i)
    | cons w ws =>
      unfold lead at h
      by_cases hw : isIntW w = true
      · rw [if_pos hw] at h
        cases i with
        | zero => exact hw
        | succ i => exact ih (ws := ws) (i := i) (by omega)
      · rw [if_neg hw] at h
        exact absurd h (Nat.not_lt_zero i)
theorem isIntW_empty : isIntW "" = false := by decide +kernel
theorem lead_at {k : Nat} : ∀ {ws : List Str}, lead k ws < k → isIntW (wd ws (lead k ws)) = false := by
  induction k with
  | zero => intro ws h; exact absurd h (Nat.not_lt_zero _)
  | succ k ih =>
    intro ws h
    cases ws with
    | nil => exact isIntW_empty
    | cons w ws =>
      unfold lead at h ⊢
      by_cases hw : isIntW w = true
      · rw [if_pos hw] at h ⊢
        exact ih (ws := ws) (by omega)
      · rw [if_neg hw] at h ⊢
        exact Bool.eq_false_iff.mpr hw
end JP

namespace JP
open PySem PySem.Spec PyProof.Rows L2 TL

theorem neD {X : Cx} {K : PySem.W.Frag} (hu : X.A.units + 64 < cLine) (h : X.K = K) : OpR X (compareOp .NotEq) (rNeD K) := h ▸ op_neD hu
theorem pe_joinK {X : Cx} {K : PySem.W.Frag} (hK : X.K = K) {o e : Expr} {to te : TE} {apos pos : Pos} (ho : PE X o to) (he : PE X e te) (h1 : starEach [e] X.env = [(false, eval e X.env)] := by rfl) (h2 : attributeBase o (Str.ofString "join") X.env (eval o X.env) = eval o X.env := by rfl)
    (h3 : (apos.endLine == pos.line) = true := by rfl) : PE X ((o.Attribute (Str.ofString "join") apos).Call [e] [] pos) (tM1 (fun x xs H Q => ∃ a p ys, x = V.str a ∧ xs = [V.ref p] ∧ (SqL K H p (List.map V.str ys) ∨ SqT K H p (List.map V.str ys)) ∧
      (List.map (fun x => x.length) ys).sum + ys.length * a.length ≤ 16777216 ∧ Q (V.str (Txt.join a ys)) H) to te) := by
  subst hK
  exact pe_join ho he h1 h2 h3
/-! ### words that are joined with a space and split again -/
def Word (v : Str) : Prop := v.length ≤ 100 ∧ 32 ∉ tl v
instance (v : Str) : Decidable (Word v) := by unfold Word; infer_instance
theorem tl_space : tl (" " : Str) = [32] := tl_ofString " "
theorem len_joinL (S : List Nat) : ∀ parts : List (List Nat), (joinL S parts).length ≤ (parts.map List.length).sum + parts.length * S.length
  | [] => Nat.zero_le _
  | [p] => by
    show p.length ≤ _
    rw [List.map_cons, List.sum_cons]
    omega
  | p :: q :: r => by
    show (p ++ (S ++ joinL S (q :: r))).length ≤ _
    have ih := len_joinL S (q :: r)
    rw [List.length_append, List.length_append, List.map_cons, List.sum_cons, List.length_cons, Nat.add_mul]
    omega
theorem sum_le : ∀ {ws : List Str} {k : Nat}, (∀ v ∈ ws, v.length ≤ k) → ((ws.map tl).map List.length).sum ≤ k * ws.length
  | [], _, _ => Nat.zero_le _
  | v :: ws, k, h => by
    have h1 := h v List.mem_cons_self
    have h2 := sum_le (ws := ws) (k := k) fun x hx => h x (List.mem_cons_of_mem _ hx)
    rw [len_tl] at h1
    rw [List.map_cons, List.map_cons, List.sum_cons, List.length_cons, Nat.mul_add]
    omega
theorem join_len {ws : List Str} (h : ∀ v ∈ ws, Word v) (hl : ws.length ≤ 20) : (Txt.join " " ws).length ≤ 2020 := by
  have h1 := len_joinL [32] (ws.map tl)
  have h2 := sum_le (ws := ws) (k := 100) fun v hv => (h v hv).1
  rw [join_eq, len_tl, tl_join, tl_space]
  rw [List.length_map] at h1
  have : [32].length = 1 := rfl
  rw [this] at h1
  omega
theorem split_back {ws : List Str} (h : ∀ v ∈ ws, Word v) (hne : ws ≠ []) : Txt.split (Txt.join " " ws) " " = ws :=
  split_join (y := " ") (s := 32) (S := []) tl_space (by decide +kernel) hne fun p hp => (h p hp).2
theorem word_num {n : Int} (h : n.natAbs < 10 ^ 60) : Word (numS n) := ⟨by have := len_num h; omega, num_free (by omega) (by omega)⟩

/-! ### where reading stops -/
section
variable {us r : List Str}
def Stop (us r : List Str) : Prop := (∀ u ∈ us, isIntW u = true) ∧ us.length ≤ 8 ∧ (us.length = 8 ∨ ∀ w r', r = w :: r' → isIntW w = false)
theorem Stop.lead (h : Stop us r) : lead 8 (us ++ r) = us.length := lead_app 8 us r h.1 h.2.1 h.2.2
theorem Stop.wd0 (h : Stop us r) : wd (us ++ r) us.length = wd r 0 := wd_app us r 0
theorem Stop.a (h : Stop us r) (s : isSign (wd r 0) = false) : rdErr (us ++ r) = some us.length := by
  unfold rdErr
  rw [h.lead, h.wd0, if_pos s]
theorem Stop.b (h : Stop us r) (s : isSign (wd r 0) = true) (z : decide (V.str (wd r 1) = V.str "0") = false) : rdErr (us ++ r) = some (us.length + 1) := by
  unfold rdErr
  rw [h.lead, h.wd0, wd_app us r 1, if_neg (by rw [s]; simp), if_pos z]
theorem Stop.c (h : Stop us r) (s : isSign (wd r 0) = true) (z : decide (V.str (wd r 1) = V.str "0") = true) (l : 2 < r.length) : rdErr (us ++ r) = some (us.length + 2) := by
  unfold rdErr
  rw [h.lead, h.wd0, wd_app us r 1, if_neg (by rw [s]; simp), if_neg (by rw [z]; simp), if_pos (by rw [List.length_append]; omega)]
end

/-! ### lists of words, and parts of them -/
def LS (H : Hp) (a : Addr) (ws : List Str) : Prop := H a = some (.lst (ws.map V.str))
theorem LS.but {p a : Addr} {H H' : Hp} {ws : List Str} (h : LS H a ws) (b : But p H H') (n : a ≠ p) : LS H' a ws := b a _ n h
theorem LS.same {a : Addr} {H H' : Hp} {ws : List Str} (h : LS H a ws) (s : Same H H') : LS H' a ws := s _ _ h
theorem LS.seq {K : PySem.W.Frag} {a : Addr} {H : Hp} {ws : List Str} (h : LS H a ws) : SqL K H a (ws.map V.str) := .of h
theorem cut_lt (ws : List Str) {k : Nat} (h : k ≤ ws.length) : cutV (ws.map V.str) none (some (k : Int)) = (ws.take k).map V.str := by
  unfold cutV
  rw [HT.sIx_nat, HT.sIx_none, List.length_map, Nat.min_eq_left h, Nat.sub_zero, List.drop_zero, List.map_take]
theorem cut_ge (ws : List Str) {k : Nat} (h : k ≤ ws.length) : cutV (ws.map V.str) (some (k : Int)) none = (ws.drop k).map V.str := by
  unfold cutV
  rw [HT.sIx_nat, HT.sIx_none, List.length_map, Nat.min_eq_left h, List.take_of_length_le (by rw [List.length_drop, List.length_map]; omega), List.map_drop]
theorem sIx_neg (n d : Nat) {k : Nat} (h0 : 0 < k) (h : k ≤ n) : HT.sIx n d (some (-(k : Int))) = n - k := by
  show (if -(k : Int) < 0 then (-(k : Int) + (n : Int)).toNat else min (-(k : Int)).toNat n) = n - k
  rw [if_pos (by omega)]
  omega
theorem cut_ltN (ws : List Str) {k : Nat} (h0 : 0 < k) (h : k ≤ ws.length) : cutV (ws.map V.str) none (some (-(k : Int))) = (ws.take (ws.length - k)).map V.str := by
  unfold cutV
  rw [List.length_map, sIx_neg _ _ h0 h, HT.sIx_none, Nat.sub_zero, List.drop_zero, List.map_take]
theorem cut_geN (ws : List Str) {k : Nat} (h0 : 0 < k) (h : k ≤ ws.length) : cutV (ws.map V.str) (some (-(k : Int))) none = (ws.drop (ws.length - k)).map V.str := by
  unfold cutV
  rw [List.length_map, sIx_neg _ _ h0 h, HT.sIx_none, List.take_of_length_le (by rw [List.length_drop, List.length_map]; omega), List.map_drop]
theorem tk1 (us : List Str) (s z : Str) : (us ++ [s, z]).take ((us ++ [s, z]).length - 1) = us ++ [s] := by
  have e : us ++ [s, z] = (us ++ [s]) ++ [z] := by simp
  rw [e, List.length_append]
  exact List.take_left
theorem tk2 (us : List Str) (s z : Str) : (us ++ [s, z]).take ((us ++ [s, z]).length - 2) = us := by
  rw [List.length_append]
  exact List.take_left
theorem dr2 (us : List Str) (s z : Str) : (us ++ [s, z]).drop ((us ++ [s, z]).length - 2) = [s, z] := by
  rw [List.length_append]
  exact List.drop_left
theorem fits {a b : List Str} (h : a.length + b.length ≤ 1000) : (a.map V.str).length + (b.map V.str).length ≤ sizeLine := by
  rw [List.length_map, List.length_map, sizeLine_eq]
  omega
theorem app_str (a b : List Str) : a.map V.str ++ b.map V.str = (a ++ b).map V.str := (List.map_append ..).symm
/-- a pair of a list of words and the place where reading them stops -/
def It (H : Hp) (x : V) : Prop := ∃ (t a : Addr) (ws : List Str) (k : Nat), x = .ref t ∧ H t = some (.tup [.ref a, .int k]) ∧ LS H a ws ∧ ws ≠ [] ∧ ws.length ≤ 20 ∧ (∀ v ∈ ws, Word v) ∧ rdErr ws = some k
theorem It.same {H H' : Hp} {x : V} (s : Same H H') (h : It H x) : It H' x := by
  obtain ⟨t, a, ws, k, e, h1, h2, r⟩ := h
  exact ⟨t, a, ws, k, e, s _ _ h1, h2.same s, r⟩
/-- what is known while the pairs are made -/
structure Bd (H0 : Hp) (p c : Addr) (m : Nat) (l : Addr) (W : List Str) (xs : List V) (H : Hp) : Prop where
  pen : Pen H p c m
  but : But p H0 H
  lst : LS H l W
  its : ∀ x ∈ xs, It H x
theorem Bd.same {H0 H H' : Hp} {p c l : Addr} {m : Nat} {W : List Str} {xs : List V} (h : Bd H0 p c m l W xs H) (s : Same H H') : Bd H0 p c m l W xs H' :=
  ⟨h.pen.same s, h.but.trans (.of_same s), h.lst.same s, fun x hx => (h.its x hx).same s⟩
theorem Bd.add {H0 H H' : Hp} {p c l : Addr} {m : Nat} {W : List Str} {xs : List V} {x : V} (h : Bd H0 p c m l W xs H) (s : Same H H') (i : It H' x) : Bd H0 p c m l W (xs ++ [x]) H' :=
  ⟨h.pen.same s, h.but.trans (.of_same s), h.lst.same s, fun y hy => by
    rcases List.mem_append.mp hy with hy | hy
    · exact (h.its y hy).same s
    · rw [List.mem_singleton.mp hy]
      exact i⟩
/-- a new pair -/
theorem It.mk {H : Hp} {a t : Addr} {ws : List Str} {k : Nat} (n : H t = none) (h : LS H a ws) (h1 : ws ≠ []) (h2 : ws.length ≤ 20) (h3 : ∀ v ∈ ws, Word v) (h4 : rdErr ws = some k) : It (upd H t (.tup [.ref a, .int k])) (.ref t) :=
  ⟨t, a, ws, k, rfl, upd_same, h.same (same_new n), h1, h2, h3, h4⟩
end JP

namespace JP
open PySem PySem.Spec PyProof.Rows L2
/-- all but the one at p and the tables of code objects stay -/
def ButN (p : Addr) (H H' : Hp) : Prop := ∀ b o, b ≠ p → H b = some o → (∀ ps, o ≠ .tbl ps) → H' b = some o
theorem ButN.trans {p : Addr} {H H1 H2 : Hp} (a : ButN p H H1) (b : ButN p H1 H2) : ButN p H H2 := fun c o n e t => b c o n (a c o n e t) t
theorem ButN.of_but {p : Addr} {H H1 : Hp} (a : But p H H1) : ButN p H H1 := fun c o n e _ => a c o n e
theorem ButN.of_ext {p : Addr} {H H1 : Hp} (a : LamX.ExtN H H1) : ButN p H H1 := fun c o _ e t => a c o e t
theorem ext_same {H H' : Hp} (s : Same H H') : LamX.ExtN H H' := fun b o h _ => s b o h
theorem Pen.ext {H H' : Hp} {p c : Addr} {m : Nat} (h : Pen H p c m) (k : LamX.ExtN H H') : Pen H' p c m := by
  obtain ⟨ns, n, g, h1, h2, r⟩ := h
  exact ⟨ns, n, g, k _ _ h1 (by intro ps z; cases z), k _ _ h2 (by intro ps z; cases z), r⟩

/-! ### what a try wishes, told of stores of the right length alone -/
def wLen (n : Nat) (W : WX) : WX := fun cls d σ H => σ.length = n → W cls d σ H
theorem takesLen {X : Cx} {W : WX} (tk : Takes X W) : Takes X (wLen X.N.length W) := fun e s x => by
  obtain ⟨a, B, sI, pins', σ', H', cls, d, e1, J, nb, up, sky, na, os, ag, hw⟩ := x
  exact tk e s ⟨a, B, sI, pins', σ', H', cls, d, e1, J, nb, up, sky, na, os, ag, hw J.len⟩
section
variable {X : Cx} {x n : Str} {c : Value} {i : Nat} {body suite : List Stmt} {b₀ : Stmt} {np pos pos' : Pos} {tb : WX → TS} {ts : Addr → Value → Option Addr → TS} {Wout : WX}
theorem ps_try_heldL (hs : X.stack = X.env :: X.outer) (hf : X.env.frame = some X.env.locals) (hex : X.ex = []) (hN : X.N.Nodup) (hi : X.N[i]? = some n) (hln : X.env.kindOf n = some .local) (hc : Names X x c) (tk : Takes X Wout)
    (hb : ∀ (W : WX) (pn : List (Addr × Obj)) (xe : Value → Shared → Prop), Takes (X.tr pn xe) W → PassesOwn (model X.prog X.w) X.A X.env xe → PSs (X.tr pn xe) body (tb W))
    (hsu : ∀ (a : Addr) (oe : Obj) (cls : Value) (d : Option Addr) (pn : List (Addr × Obj)), Zc cls d oe → (∃ vs, oe.data = .fields vs) → PSs (X.suite a ((a, oe) :: pn)) (b₀ :: suite) (ts a cls d)) :
    PS X (.Try body [.ExceptHandler (some (.Name x np)) (some n) (b₀ :: suite) pos'] [] [] pos) (fun D σ H => tb (wLen X.N.length (wHeld X.K c i ts Wout D)) D σ H) :=
  ps_try_held (tb := fun W => tb (wLen X.N.length W)) hs hf hex hN hi hln hc tk (fun W pn xe tk' po => hb _ pn xe (takesLen tk') po) hsu
end

/-! ### for x in y, y a name that holds a list or a tuple -/
def iAnyV (K : PySem.W.Frag) (i : Nat) : TI := fun σ H R => ∃ a, σ[i]? = some (some (.ref a)) ∧ (((∃ xs, SqL K H a xs) ∧ R (Itl K a) H) ∨ ((∃ xs, SqT K H a xs) ∧ R (Itt K a) H))
theorem pi_anyV {X : Cx} {tg l : Expr} {i : Nat} (hl : PE X l (tVar i)) : PI X tg l (iAnyV X.K i) := ⟨fun pins s σ H R I h => by
  obtain ⟨a, e, ⟨hx, r⟩ | ⟨hx, r⟩⟩ := h
  · exact (pi_list hl).run pins s σ H R I ⟨.ref a, e, a, rfl, hx, r⟩
  · exact (pi_tup hl).run pins s σ H R I ⟨.ref a, e, a, rfl, hx, r⟩⟩

/-! ### len(x), x of an own class -/
section
variable {X : Cx} {CX : CXT} {k : Nat} {C g : Addr} {fd : FuncData} {ps : List Str} {sp : Sp} {E : XK}
def rLenO (C : Addr) (sp : Sp) (E : XK) : List V → Hp → VK → Prop := fun xs H Q => ∃ a dx fs, xs = [.ref a] ∧ H a = some (.ins C dx fs) ∧ sp [.ref a] H (fun z H' => ∃ n : Nat, z = .int n ∧ n < 2 ^ 63 ∧ Q (.int n) H') E
theorem call_lenO (M : OwnM X.K C "__len__" g) (F : FnOk X.prog X.w X.K X.mg X.base CX k g fd ps sp) (hb : Binds X.K fd ps []) (hr : Room (k + 1) X.A) (hx : Passes CX X E) : CallR X (.builtin "len") (rLenO C sp E) := by
  intro pins s σ H xs us Q I r h
  obtain ⟨a, dx, fs, rfl, ha, q⟩ := h
  obtain ⟨u, rfl, ru⟩ := vals1 r
  cases ru
  obtain ⟨ox, od, J⟩ := ins_inst I ha
  have inner := call_at (A := X.A.in1) (us := [.ref a]) (vs := [.ref a]) F hb (Room.in1 hr) hx I I.env0.in1 (.cons rfl .nil) q
  refine Calls.call_function_entry kind_len plain_len entry_len (args_len1 _) ?_
  unfold Builtin.«len»
  refine wpAny_bind (m := oneArg "len" _) (wpAny_pure (wpAny_bind (m := callSpecial? (.ref a) (Str.ofString "__len__")) (PySem.W.special_fn I.kIn J M.at_ (beq_iff_eq.mp M.fn) (wpAny_mono inner (fun v s' z => ?_) fun _ _ x => x))))
  obtain ⟨z', H', I', rz, n, ez, hn, qz⟩ := z
  subst ez
  obtain ⟨t, rfl⟩ := (show ∃ t, v = Value.int n t from rz)
  refine wpAny_bind (wpAny_holding (wpAny_pure (wpAny_bind (wpAny_letGo ?_))))
  have n1 : ¬ (n : Int) < 0 := by omega
  have n2 : ¬ (n : Int) ≥ 2 ^ 63 := by omega
  show wpAny _ _ (if (n : Int) < 0 then _ else _) _ _ _
  rw [if_neg n1]
  show wpAny _ _ (if (n : Int) ≥ 2 ^ 63 then _ else _) _ _ _
  rw [if_neg n2]
  exact wpAny_bind (wpAny_mkInt (wpAny_pure ⟨_, rfl, .int n, H', I'.tok _, ⟨_, rfl⟩, qz⟩))
end
end JP

namespace JP
open PySem PySem.Spec PyProof.Rows L2

/-! ### zip of two, each a list or a tuple (k: it is a tuple) -/
def SqK (K : PySem.W.Frag) (k : Bool) (H : Hp) (a : Addr) (xs : List V) : Prop := match k with
  | true => SqT K H a xs
  | false => SqL K H a xs
def HSq (k : Bool) (h : Heap) (a : Addr) (its : Array Value) : Prop := match k with
  | true => h.IsTuple a its
  | false => h.IsList a its
def HIt (k : Bool) (h : Heap) (it a : Addr) (i : Nat) : Prop := match k with
  | true => h.IsTupleIter it a i
  | false => h.IsListIter it a i
def itC (k : Bool) : String := match k with
  | true => "tuple_iterator"
  | false => "list_iterator"
theorem sqK_same {K : PySem.W.Frag} {k : Bool} {H H' : Hp} {a : Addr} {xs : List V} (s : Same H H') (h : SqK K k H a xs) : SqK K k H' a xs := by
  cases k
  · exact same_seqL' s h
  · exact same_seqT s h
theorem sqK_inj {X : Cx} {pins : List (Addr × Obj)} {σ : L2.St} {H : Hp} {s : Shared} {k : Bool} {a : Addr} {xs ys : List V} (I : Inv X pins σ H s) (h : SqK X.K k H a xs) (h2 : SqK X.K k H a ys) : xs = ys := by
  cases k
  · exact I.list_inj h h2
  · exact I.tuple_inj h h2
theorem sqK_at {X : Cx} {pins : List (Addr × Obj)} {σ : L2.St} {H : Hp} {s : Shared} {k : Bool} {a : Addr} {xs : List V} (I : Inv X pins σ H s) (h : SqK X.K k H a xs) : ∃ its : List Value, Vals xs its ∧ HSq k s.heap a its.toArray := by
  cases k
  · obtain ⟨its, r, p, _⟩ := I.list h
    exact ⟨its, r, p.isList⟩
  · obtain ⟨its, r, p, _⟩ := I.tuple h
    exact ⟨its, r, p⟩
theorem drawsK {P : Program} {w : World} {A : Around} (k : Bool) (hh : A.handled = none) (it l : Addr) (ne : l ≠ it) (its : Array Value) : Draws P w A it [it, l] its.size (fun i v => its[i]? = some v) (fun i h => HIt k h it l i ∧ HSq k h l its) := by
  cases k
  · exact Draws.list hh it l ne its
  · exact Draws.tuple hh it l ne its
abbrev zk1 (k : Bool) (h : Heap) (l : Addr) : Heap := h.push { cls := .type (itC k), data := .fields #[.ref l, .int 0 0] }
abbrev zk2 (k1 k2 : Bool) (h : Heap) (l m : Addr) : Heap := zk1 k2 (zk1 k1 h l) m
abbrev zk3 (k1 k2 : Bool) (h : Heap) (l m : Addr) : Heap := (zk2 k1 k2 h l m).push { cls := .type "tuple", data := .seq #[.ref h.objs.size, .ref (zk1 k1 h l).objs.size] }
abbrev zk4 (k1 k2 : Bool) (h : Heap) (l m : Addr) : Heap := (zk3 k1 k2 h l m).push { cls := .type "tuple", data := .seq #[.none, .none] }
abbrev zk5 (k1 k2 : Bool) (h : Heap) (l m : Addr) : Heap := (zk4 k1 k2 h l m).push { cls := .type "zip", data := .fields #[.none, .bool false, .bool false, .ref (zk2 k1 k2 h l m).objs.size, .ref (zk3 k1 k2 h l m).objs.size] }
theorem meets_zk (k1 k2 : Bool) (l m : Addr) (xs ys : Array Value) :
    Meets (Builtin.«zip.__new__» ⟨[.type "zip", .ref l, .ref m], []⟩) (fun _ R s => HSq k1 s.heap l xs ∧ HSq k2 s.heap m ys ∧
      R (.ok (.ret (.ref (zk4 k1 k2 s.heap l m).objs.size))) { s with heap := zk5 k1 k2 s.heap l m }) :=
  .of_wp fun prog w A R s h => by
    obtain ⟨hp, g, d, tk, os⟩ := s
    obtain ⟨a1, a2, h⟩ := h
    have hsub := sub_zip
    cases k1 <;> cases k2
    · have b1 : Heap.IsList (Shared.heap ⟨hp, g, d, tk, os⟩) l xs := a1
      have b2 : Heap.IsList (Shared.heap ⟨hp.push { cls := .type "list_iterator", data := .fields #[.ref l, .int 0 0] }, g, d, tk, os⟩) m ys := Heap.IsList.push a2 _
      wp_walk using wpAny_pyIter_list b1, wpAny_pyIter_list b2
      exact ⟨_, rfl, h⟩
    · have b1 : Heap.IsList (Shared.heap ⟨hp, g, d, tk, os⟩) l xs := a1
      have b2 : Heap.IsTuple (Shared.heap ⟨hp.push { cls := .type "list_iterator", data := .fields #[.ref l, .int 0 0] }, g, d, tk, os⟩) m ys := Heap.IsTuple.push a2 _
      wp_walk using wpAny_pyIter_list b1, wpAny_pyIter_tuple b2
      exact ⟨_, rfl, h⟩
    · have b1 : Heap.IsTuple (Shared.heap ⟨hp, g, d, tk, os⟩) l xs := a1
      have b2 : Heap.IsList (Shared.heap ⟨hp.push { cls := .type "tuple_iterator", data := .fields #[.ref l, .int 0 0] }, g, d, tk, os⟩) m ys := Heap.IsList.push a2 _
      wp_walk using wpAny_pyIter_tuple b1, wpAny_pyIter_list b2
      exact ⟨_, rfl, h⟩
    · have b1 : Heap.IsTuple (Shared.heap ⟨hp, g, d, tk, os⟩) l xs := a1
      have b2 : Heap.IsTuple (Shared.heap ⟨hp.push { cls := .type "tuple_iterator", data := .fields #[.ref l, .int 0 0] }, g, d, tk, os⟩) m ys := Heap.IsTuple.push a2 _
      wp_walk using wpAny_pyIter_tuple b1, wpAny_pyIter_tuple b2
      exact ⟨_, rfl, h⟩
theorem hit_new {k : Bool} {h : Heap} {it l : Addr} (e : h.get? it = some { cls := .type (itC k), data := .fields #[.ref l, .int 0 0] }) : HIt k h it l 0 := by
  cases k <;> exact ⟨_, e, rfl, rfl⟩
theorem call_zk {P : Program} {w : World} {A : Around} {E : Value → Shared → Prop} {s : Shared} (k1 k2 : Bool) {l m : Addr} {xs ys : Array Value} {Q : Value → Shared → Prop} (a1 : HSq k1 s.heap l xs) (a2 : HSq k2 s.heap m ys)
    (h : ∀ h', IsZip h' (s.heap.objs.size + 4) (s.heap.objs.size + 2) (s.heap.objs.size + 3) .none → IsPair h' (s.heap.objs.size + 2) (.ref s.heap.objs.size) (.ref (s.heap.objs.size + 1)) →
      IsPair h' (s.heap.objs.size + 3) .none .none → HIt k1 h' s.heap.objs.size l 0 → HIt k2 h' (s.heap.objs.size + 1) m 0 → (∀ c o, s.heap.get? c = some o → h'.get? c = some o) → Q (.ref (s.heap.objs.size + 4)) { s with heap := h' }) :
    wpAny (model P w) A (call (.type "zip") [.ref l, .ref m]) Q E s := by
  refine callType_new F.called_zip (by decide) (F.typeCall_zip_2 _ _) (F.newCall_zip_2 _ _) (fun obj => F.args_object_init_3 obj _ _) F.entry_zip_new (meets_zk k1 k2 l m xs ys) ⟨a1, a2, ?_⟩
  have n1 : (zk1 k1 s.heap l).objs.size = s.heap.objs.size + 1 := Heap.size_push ..
  have n2 : (zk2 k1 k2 s.heap l m).objs.size = s.heap.objs.size + 2 := (Heap.size_push ..).trans (by rw [n1])
  have n3 : (zk3 k1 k2 s.heap l m).objs.size = s.heap.objs.size + 3 := (Heap.size_push ..).trans (by rw [n2])
  have n4 : (zk4 k1 k2 s.heap l m).objs.size = s.heap.objs.size + 4 := (Heap.size_push ..).trans (by rw [n3])
  have p4 : ∀ {c o}, (zk4 k1 k2 s.heap l m).get? c = some o → (zk5 k1 k2 s.heap l m).get? c = some o := fun e => Heap.get?_push_of_some _ e
  have p3 : ∀ {c o}, (zk3 k1 k2 s.heap l m).get? c = some o → (zk5 k1 k2 s.heap l m).get? c = some o := fun e => p4 (Heap.get?_push_of_some _ e)
  have p2 : ∀ {c o}, (zk2 k1 k2 s.heap l m).get? c = some o → (zk5 k1 k2 s.heap l m).get? c = some o := fun e => p3 (Heap.get?_push_of_some _ e)
  have p1 : ∀ {c o}, (zk1 k1 s.heap l).get? c = some o → (zk5 k1 k2 s.heap l m).get? c = some o := fun e => p2 (Heap.get?_push_of_some _ e)
  have g5 : (zk5 k1 k2 s.heap l m).get? (zk4 k1 k2 s.heap l m).objs.size = some _ := Heap.get?_push_size _ rfl
  have g4 : (zk5 k1 k2 s.heap l m).get? (zk3 k1 k2 s.heap l m).objs.size = some _ := p4 (Heap.get?_push_size _ rfl)
  have g3 : (zk5 k1 k2 s.heap l m).get? (zk2 k1 k2 s.heap l m).objs.size = some _ := p3 (Heap.get?_push_size _ rfl)
  have g2 : (zk5 k1 k2 s.heap l m).get? (zk1 k1 s.heap l).objs.size = some _ := p2 (Heap.get?_push_size _ rfl)
  have g1 : (zk5 k1 k2 s.heap l m).get? s.heap.objs.size = some _ := p1 (Heap.get?_push_size _ rfl)
  show _ ∧ _
  rw [n2, n3, n4] at g5
  rw [n3] at g4
  rw [n1, n2] at g3
  rw [n1] at g2
  rw [n4]
  exact ⟨⟨_, g5, rfl⟩, h _ g5 g3 g4 (hit_new g1) (hit_new g2) fun c o x => p1 (Heap.get?_push_of_some _ x)⟩
/-- the two as they stand at each turn -/
def ItzK (K : PySem.W.Frag) (k1 k2 : Bool) (a b : Addr) : L2.It :=
  ⟨fun i H => ∃ (xs ys : List V) (x y : V), SqK K k1 H a xs ∧ SqK K k2 H b ys ∧ xs[i]? = some x ∧ ys[i]? = some y,
    fun i H v H' => ∃ T x y, v = .ref T ∧ H T = none ∧ H' = upd H T (.tup [x, y]) ∧ (∀ xs, SqK K k1 H a xs → xs[i]? = some x) ∧ ∀ ys, SqK K k2 H b ys → ys[i]? = some y,
    fun i H => ∃ xs ys : List V, SqK K k1 H a xs ∧ SqK K k2 H b ys ∧ i = min xs.length ys.length⟩
/-- the five new things -/
abbrev zkFp (z : Addr) : List Addr := [z + 4, z + 2, z + 3, z, z + 1]
def zkSt (k1 k2 : Bool) (a b z : Addr) (i : Nat) (h : Heap) : Prop := IsZip h (z + 4) (z + 2) (z + 3) .none ∧ IsPair h (z + 2) (.ref z) (.ref (z + 1)) ∧ (∃ x y, IsPair h (z + 3) x y) ∧ HIt k1 h z a i ∧ HIt k2 h (z + 1) b i
theorem notIn2 {c x y : Nat} (h1 : c ≠ x) (h2 : c ≠ y) : c ∉ [x, y] := fun h => by
  rcases List.mem_cons.mp h with h | h
  · exact h1 h
  · exact h2 (List.mem_singleton.mp h)
theorem zk_sep {a b z : Nat} (ha : a < z) (hb : b < z) : ZipSep2 (z + 4) (z + 2) (z + 3) z (z + 1) [z, a] [z + 1, b] where
  TIz := by show (z + 2 : Nat) ≠ z + 4; omega
  TOz := by show (z + 3 : Nat) ≠ z + 4; omega
  TITO := by show (z + 2 : Nat) ≠ z + 3; omega
  TIi1 := by show (z + 2 : Nat) ≠ z; omega
  mem1 := List.mem_cons_self
  zf1 := notIn2 (by omega) (by omega)
  Tf1 := notIn2 (by omega) (by omega)
  TIi2 := by show (z + 2 : Nat) ≠ z + 1; omega
  mem2 := List.mem_cons_self
  zf2 := notIn2 (by omega) (by omega)
  Tf2 := notIn2 (by omega) (by omega)
  sep1_2 := notIn2 (by omega) (by omega)
  sep2_1 := notIn2 (by omega) (by omega)
theorem hit_obj {k : Bool} {h : Heap} {it l : Addr} {i : Nat} (e : HIt k h it l i) : ∃ o, h.get? it = some o ∧ ∀ v, o.data ≠ .cell v := by
  cases k <;> exact let ⟨o, h1, _, d⟩ := e; ⟨o, h1, fun v q => by rw [d] at q; cases q⟩
theorem hit_keep {k : Bool} {h h' : Heap} {it l : Addr} {i : Nat} (e : HIt k h it l i) (s : ∀ o, h.get? it = some o → h'.get? it = some o) : HIt k h' it l i := by
  cases k
  · exact Heap.IsListIter.at e s
  · exact Heap.IsTupleIter.at e s
theorem hsq_keep {k : Bool} {h h' : Heap} {l : Addr} {its : Array Value} (e : HSq k h l its) (s : ∀ o, h.get? l = some o → h'.get? l = some o) : HSq k h' l its := by
  cases k
  · exact Heap.IsList.at e s
  · exact Heap.IsTuple.at e s
theorem turn_zk {P : Program} {w : World} {K : PySem.W.Frag} {elts : List Expr} {kk : Nat} {tpos : Pos} {k1 k2 : Bool} {a b z : Addr} (ha : a < z) (hb : b < z) :
    Turn P w K (.Tuple elts kk tpos) (ItzK K k1 k2 a b) (zkFp z) (z + 4) (zkSt k1 k2 a b z) where
  mem := by simp
  obj := fun i h ⟨hz, hT, ⟨x, y, hO⟩, h1, h2⟩ c hc => by
    have e : c = z + 4 ∨ c = z + 2 ∨ c = z + 3 ∨ c = z ∨ c = z + 1 := by simpa using hc
    rcases e with q | q | q | q | q
    · subst q
      exact ⟨_, hz, fun v q => by cases q⟩
    · subst q
      exact ⟨_, hT, fun v q => by cases q⟩
    · subst q
      exact ⟨_, hO, fun v q => by cases q⟩
    · subst q
      exact hit_obj h1
    · subst q
      exact hit_obj h2
  keep := fun i h h' ⟨hz, hT, ⟨x, y, hO⟩, h1, h2⟩ k =>
    ⟨k (z + 4) (by simp) _ hz, k (z + 2) (by simp) _ hT, ⟨x, y, k (z + 3) (by simp) _ hO⟩, hit_keep h1 fun o q => k z (by simp) o q, hit_keep h2 fun o q => k (z + 1) (by simp) o q⟩
  item := by
    intro X hP hw hK hc i pins s σ H E I hf st hg
    subst hP hw hK
    obtain ⟨hz, hT, ⟨x0, y0, hO⟩, h1, h2⟩ := st
    obtain ⟨xs, ys, x, y, qx, qy, hx, hy⟩ := hg
    obtain ⟨its, rv, p⟩ := sqK_at I qx
    obtain ⟨its2, rv2, p2⟩ := sqK_at I qy
    obtain ⟨u, hu, ru⟩ := rv.get hx
    obtain ⟨u2, hu2, ru2⟩ := rv2.get hy
    have hzl : z + 4 < s.heap.objs.size := Heap.lt_size hz
    have hd : X.A.in1.handled = none := I.ok.hd hc
    have S := zk_sep ha hb
    have na : a ≠ z := Nat.ne_of_lt ha
    have nb : b ≠ z + 1 := Nat.ne_of_lt (Nat.lt_succ_of_lt hb)
    refine wpAny_pyNext_zipD2_item S (drawsK k1 hd z a na its.toArray) (drawsK k2 hd (z + 1) b nb its2.toArray) hz hT hO ⟨h1, p⟩ ⟨h2, p2⟩ (by have := (List.getElem?_eq_some_iff.mp hu).1; simpa using this) (by have := (List.getElem?_eq_some_iff.mp hu2).1; simpa using this) fun v1 v2 h' tk e1 e2 z' O' s1 s2 hN hsz hk => ?_
    have ev1 : v1 = u := by
      have q : its.toArray[i]? = some u := by simpa using hu
      exact Option.some.inj (e1.symm.trans q)
    have ev2 : v2 = u2 := by
      have q : its2.toArray[i]? = some u2 := by simpa using hu2
      exact Option.some.inj (e2.symm.trans q)
    subst ev1 ev2
    refine ⟨_, rfl, wpAny_letOwnedTupleGo_zip (s := { s with heap := h', toks := tk }) z' fun h'' z'' sb => ?_⟩
    have nz : s.heap.objs.size ≠ z + 4 := Nat.ne_of_gt hzl
    have hN2 : h''.get? s.heap.objs.size = some { cls := .type "tuple", data := .seq #[v1, v2] } := (sb.2 _ nz).trans hN
    have new : ObjOk X.prog X.w (upd H s.heap.objs.size (.tup [x, y])) h'' s.heap.objs.size (.tup [x, y]) := ⟨by show 2 ≤ sizeLine; decide, [v1, v2], .cons ru (.cons ru2 .nil), ⟨_, hN2, rfl, _, rfl⟩⟩
    have I1 : Inv X pins σ (upd H s.heap.objs.size (.tup [x, y])) { s with heap := h'', toks := tk } :=
      I.turnedNew (t' := tk) (ch := zkFp z) (fun c o nc q => by
        have n1 : c ≠ z + 4 := fun e => nc (by simp [e])
        have n2 : c ≠ z + 3 := fun e => nc (by simp [e])
        have n3 : c ≠ z := fun e => nc (by simp [e])
        have n4 : c ≠ z + 1 := fun e => nc (by simp [e])
        exact (sb.2 c n1).trans (hk c o n1 n2 n3 n4 q)) hf (Nat.le_refl _) new
    refine ⟨.ref s.heap.objs.size, _, I1, rfl, ⟨_, x, y, rfl, I.hok.fresh (Nat.le_refl _), rfl, fun l hl => by rw [sqK_inj I hl qx]; exact hx, fun l hl => by rw [sqK_inj I hl qy]; exact hy⟩, ⟨z'', ?_, ⟨v1, v2, ?_⟩, ?_, ?_⟩, fun c hcm => ?_⟩
    · exact (sb.2 _ S.TIz).trans (hk _ _ S.TIz S.TITO S.TIi1 S.TIi2 hT)
    · exact (sb.2 _ S.TOz).trans O'
    · exact hit_keep s1.1 fun o q => (sb.2 _ S.zi1.symm).trans q
    · exact hit_keep s2.1 fun o q => (sb.2 _ S.zi2.symm).trans q
    · have hlt : c < s.heap.objs.size := by
        have e : c = z + 4 ∨ c = z + 2 ∨ c = z + 3 ∨ c = z ∨ c = z + 1 := by simpa using hcm
        have hz4 : z + 4 < s.heap.objs.size := hzl
        rcases e with q | q | q | q | q
        · rw [q]; exact hz4
        · rw [q]; exact Nat.lt_of_le_of_lt (Nat.add_le_add_left (by decide : (2 : Nat) ≤ 4) z) hz4
        · rw [q]; exact Nat.lt_of_le_of_lt (Nat.add_le_add_left (by decide : (3 : Nat) ≤ 4) z) hz4
        · rw [q]; exact Nat.lt_of_le_of_lt (Nat.le_add_right z 4) hz4
        · rw [q]; exact Nat.lt_of_le_of_lt (Nat.add_le_add_left (by decide : (1 : Nat) ≤ 4) z) hz4
      exact (upd_ne (Nat.ne_of_lt hlt)).trans (hf c hcm).1
  done := by
    intro X hP hw hK hc i pins s σ H E I hf st hg
    subst hP hw hK
    obtain ⟨hz, hT, ⟨x0, y0, hO⟩, h1, h2⟩ := st
    obtain ⟨xs, ys, qx, qy, he⟩ := hg
    obtain ⟨its, rv, p⟩ := sqK_at I qx
    obtain ⟨its2, rv2, p2⟩ := sqK_at I qy
    have l1 := rv.length
    have l2 := rv2.length
    have hd : X.A.in1.handled = none := I.ok.hd hc
    have S := zk_sep ha hb
    have na : a ≠ z := Nat.ne_of_lt ha
    have nb : b ≠ z + 1 := Nat.ne_of_lt (Nat.lt_succ_of_lt hb)
    exact wpAny_pyNext_zipD2_end S (drawsK k1 hd z a na its.toArray) (drawsK k2 hd (z + 1) b nb its2.toArray) hz hT hO ⟨h1, p⟩ ⟨h2, p2⟩ (by simp; omega) (by simp; omega) (by simp; omega) fun h' tk hk => ⟨rfl, I.turnedL (t' := tk) (ch := zkFp z) (fun c o nc q =>
      hk c o (fun e => nc (by simp [e])) (fun e => nc (by simp [e])) (fun e => nc (by simp [e])) (fun e => nc (by simp [e])) q) hf⟩
  self := fun A i s Q E st h => wpAny_pyIter_zip st.1 h
def iZipK (K : PySem.W.Frag) (ta : TA) : TI := fun σ H R => ta σ H fun vs H1 => ∃ k1 k2 a b xs ys, vs = [.ref a, .ref b] ∧ SqK K k1 H1 a xs ∧ SqK K k2 H1 b ys ∧ R (ItzK K k1 k2 a b) H1
theorem hsq_lt {k : Bool} {h : Heap} {a : Addr} {its : Array Value} (e : HSq k h a its) : a < h.objs.size := by
  cases k
  · obtain ⟨o, q, _⟩ := e
    exact Heap.lt_size q
  · exact IsTup.lt e
theorem pi_zipK {X : Cx} {e e2 : Expr} {ta : TA} {p pos tpos : Pos} {elts : List Expr} {kk : Nat} (hg : Gl X "zip") (hm : X.mg "zip" = none) (ha : PA X [e, e2] ta)
    (hs : starEach [e, e2] X.env = (false, eval e X.env) :: starEach [e2] X.env := by rfl) (hpl : (backTo pos (starEach [e2] X.env)).any (·.1) = false := by rfl) :
    PI X (.Tuple elts kk tpos) (.Call (.Name "zip" p) [e, e2] [] pos) (iZipK X.K ta) := by
  constructor
  intro pins s σ H R I h
  refine Call_ (ld_blt I hg hm PyProof.Rows.boot_zip (PyProof.Rows.callWith_type1 (thn (ha.run pos pins s σ H _ I h) fun us s1 ⟨vs, H1, I1, r1, k1, k2, a, b, xs, ys, ex, qx, qy, q⟩ => ?_) hs hpl))
  subst ex
  cases r1 with
  | cons r rr =>
    cases rr with
    | cons r' rr =>
      cases rr
      cases r
      cases r'
      obtain ⟨its, rv, p1⟩ := sqK_at I1 qx
      obtain ⟨its2, rv2, p2⟩ := sqK_at I1 qy
      refine call_zk k1 k2 p1 p2 fun h' hz hT hO g1 g2 hk => wpAny_pyIter_zip hz ?_
      have I2 : Inv X pins σ H1 { s1 with heap := h' } := I1.kept (t' := s1.toks) hk
      refine ⟨s1.heap.objs.size + 4, zkFp s1.heap.objs.size, _, _, H1, rfl, I2, turn_zk (hsq_lt p1) (hsq_lt p2), ⟨hz, hT, ⟨_, _, hO⟩, g1, g2⟩, fun c hcm => ?_, q⟩
      have hle : s1.heap.objs.size ≤ c := by
        have e : c = s1.heap.objs.size + 4 ∨ c = s1.heap.objs.size + 2 ∨ c = s1.heap.objs.size + 3 ∨ c = s1.heap.objs.size ∨ c = s1.heap.objs.size + 1 := by simpa using hcm
        rcases e with z | z | z | z | z <;> rw [z] <;> first | exact Nat.le_refl _ | exact Nat.le_add_right _ _
      exact I1.fpOk hle (I1.hok.fresh hle)
end JP

namespace JP
open PySem PySem.Spec PyProof.Rows L2

/-! ### errors that keep copies of their fields: flat values, by the heap -/
def spCopyF : Sp := fun vs H Q _ => ∃ y, vs = [y] ∧ flatV y = true ∧ Q y H
theorem flat_ki {y : V} (h : flatV y = true) (H : Hp) : ∃ k, IsKi H y k ∧ k.below .tup = false ∧ k.below .lst = false ∧ k.below .dct = false := by
  cases y with
  | non => exact ⟨.non, rfl, rfl, rfl, rfl⟩
  | bl b => exact ⟨.bl, ⟨b, rfl⟩, rfl, rfl, rfl⟩
  | int i => exact ⟨.int, ⟨i, rfl⟩, rfl, rfl, rfl⟩
  | str x => exact ⟨.str, ⟨x, rfl⟩, rfl, rfl, rfl⟩
  | _ => cases h
/-- its __init__ stores copies -/
def spE1F (K : PySem.W.Frag) (C : Addr) (f : Str) : Sp := fun vs H Q E => (∃ a y, vs = [.ref a, y] ∧ flatV y = true) ∧ spE1 K C f vs H Q E
def spE2F (K : PySem.W.Frag) (C : Addr) (f g : Str) : Sp := fun vs H Q E => (∃ a y z, vs = [.ref a, y, z] ∧ flatV y = true ∧ flatV z = true) ∧ spE2 K C f g vs H Q E
theorem mkE1F {K : PySem.W.Frag} {C : Addr} {f : Str} {y : V} {H1 : Hp} {Q E : XK} (q : ∀ d, H1 d = none → Q (.ref C) (some d) (upd H1 d (.xd [(f, y)]))) (fy : flatV y = true := by rfl) :
    [y].length ≤ 1000 ∧ ∀ a, H1 a = none → spE1F K C f (.ref a :: ([y] ++ [])) (upd H1 a (exo a C none))
      (fun v H2 => v = .non ∧ ∃ (d : Addr) (fs : List (Str × V)), H2 a = some (exo a C (some d)) ∧ H2 d = some (exd d fs) ∧ H1 d = none ∧ Q (.ref C) (some d) (upd (del H2 a) d (.xd fs))) E :=
  have m := mkE1 (K := K) (C := C) (f := f) (E := E) q
  ⟨m.1, fun a na => ⟨⟨a, y, rfl, fy⟩, m.2 a na⟩⟩
theorem mkE2F {K : PySem.W.Frag} {C : Addr} {f g : Str} {y z : V} {H1 : Hp} {Q E : XK} (q : ∀ d, H1 d = none → Q (.ref C) (some d) (upd H1 d (.xd [(g, z), (f, y)]))) (fy : flatV y = true := by rfl) (fz : flatV z = true := by rfl) :
    [y, z].length ≤ 1000 ∧ ∀ a, H1 a = none → spE2F K C f g (.ref a :: ([y, z] ++ [])) (upd H1 a (exo a C none))
      (fun v H2 => v = .non ∧ ∃ (d : Addr) (fs : List (Str × V)), H2 a = some (exo a C (some d)) ∧ H2 d = some (exd d fs) ∧ H1 d = none ∧ Q (.ref C) (some d) (upd (del H2 a) d (.xd fs))) E :=
  have m := mkE2 (K := K) (C := C) (f := f) (g := g) (E := E) q
  ⟨m.1, fun a na => ⟨⟨a, y, z, rfl, fy, fz⟩, m.2 a na⟩⟩
end JP

namespace JP
open PySem PySem.Spec PyProof.Rows L2

/-! ## data as trees: what a value is worth, the heap forgotten -/
inductive D where
  | non | bl (b : Bool) | int (i : Int) | str (x : Str) | ty (n : String) | adr (a : Addr)
  | tup (ds : List D) | lst (ds : List D) | scr (ns : List Int) | ins (C : Addr) (fs : List (Str × D)) | exc (C : Addr) (fs : List (Str × D)) | dic (kvs : List (D × D)) | dit (kvs : List (D × D))
instance : Inhabited D := ⟨.non⟩
def kD : Key → D
  | .inl i => .int i
  | .inr x => .str x
def tyNames : List String := ["int", "str", "bool", "list", "tuple", "dict", "set", "bytes", "float"]
/-- an own class whose instances are told apart -/
structure GoodC (K : PySem.W.Frag) (C : Addr) : Prop where
  cl : Cls K C
  ca : PySem.W.findIn K (.ref C) "__class__" = some (some (.builtin "object.__class__"))
  sg : PySem.W.specialIn K (.builtin "object.__class__") "__get__" = some (some (.builtin "getset_descriptor.__get__"))
  tk : PySem.W.takesIn K (.builtin "object.__class__") = some true
  mr : PySem.W.mroIn K C (.type "object") = some true
  kt : ∀ n ∈ tyNames, PySem.W.kitOne K (.ref C) (.type n) = some false
mutual
/-- the value v stands for d in the part F of the heap that stays -/
inductive Rep (K : PySem.W.Frag) (F : Hp) : V → D → Prop
  | non : Rep K F .non .non
  | bl (b : Bool) : Rep K F (.bl b) (.bl b)
  | int (i : Int) : Rep K F (.int i) (.int i)
  | str (x : Str) : Rep K F (.str x) (.str x)
  | ty (n : String) : Rep K F (.ty n) (.ty n)
  | adr (a : Addr) : Rep K F (.ref a) (.adr a)
  | tup {a : Addr} {xs : List V} {ds : List D} : F a = some (.tup xs) → RepAll K F xs ds → Rep K F (.ref a) (.tup ds)
  | lst {a : Addr} {xs : List V} {ds : List D} : F a = some (.lst xs) → RepAll K F xs ds → Rep K F (.ref a) (.lst ds)
  | scr {a : Addr} {ns : List Int} : SqL K F a (ns.map V.int) → Rep K F (.ref a) (.scr ns)
  | ins {a C dx : Addr} {fs : List (Str × V)} {ds : List (Str × D)} : F a = some (.ins C dx fs) → GoodC K C → (∀ p ∈ ds, NoAttr K C p.1) → RepF K F fs ds → Rep K F (.ref a) (.ins C ds)
  | exc {a C : Addr} {fs : List (Str × V)} {ds : List (Str × D)} : Held F a C fs → ExcC K C → RepF K F fs ds → Rep K F (.ref a) (.exc C ds)
  | dk {a : Addr} {kvs : List (Key × V)} {ds : List (D × D)} : Rd F a (.dK kvs) → RepK K F kvs ds → Rep K F (.ref a) (.dic ds)
  | dt {a : Addr} {kvs : List (List Key × V)} {ds : List (D × D)} : F a = some (.dT kvs) → RepT K F kvs ds → Rep K F (.ref a) (.dit ds)
inductive RepAll (K : PySem.W.Frag) (F : Hp) : List V → List D → Prop
  | nil : RepAll K F [] []
  | cons {v : V} {vs : List V} {d : D} {ds : List D} : Rep K F v d → RepAll K F vs ds → RepAll K F (v :: vs) (d :: ds)
inductive RepF (K : PySem.W.Frag) (F : Hp) : List (Str × V) → List (Str × D) → Prop
  | nil : RepF K F [] []
  | cons {f : Str} {v : V} {vs : List (Str × V)} {d : D} {ds : List (Str × D)} : Rep K F v d → RepF K F vs ds → RepF K F ((f, v) :: vs) ((f, d) :: ds)
inductive RepK (K : PySem.W.Frag) (F : Hp) : List (Key × V) → List (D × D) → Prop
  | nil : RepK K F [] []
  | cons {k : Key} {v : V} {vs : List (Key × V)} {d : D} {ds : List (D × D)} : Rep K F v d → RepK K F vs ds → RepK K F ((k, v) :: vs) ((kD k, d) :: ds)
inductive RepT (K : PySem.W.Frag) (F : Hp) : List (List Key × V) → List (D × D) → Prop
  | nil : RepT K F [] []
  | cons {k : List Key} {v : V} {vs : List (List Key × V)} {d : D} {ds : List (D × D)} : Rep K F v d → RepT K F vs ds → RepT K F ((k, v) :: vs) ((.tup (k.map kD), d) :: ds)
end
section
variable {K : PySem.W.Frag} {F F' : Hp}
theorem Held.same {F F' : Hp} {a C : Addr} {fs : List (Str × V)} (s : Same F F') (h : Held F a C fs) : Held F' a C fs := by
  obtain ⟨d, h1, h2⟩ := h
  exact ⟨d, s _ _ h1, s _ _ h2⟩
theorem Rd.same {F F' : Hp} {a : Addr} {u : HO} (s : Same F F') (h : Rd F a u) : Rd F' a u := by
  rcases h with h | ⟨o, h⟩
  · exact .inl (s _ _ h)
  · exact .inr ⟨o, s _ _ h⟩
mutual
theorem Rep.mono (s : Same F F') : ∀ {v : V} {d : D}, Rep K F v d → Rep K F' v d
  | _, _, .non => .non
  | _, _, .bl b => .bl b
  | _, _, .int i => .int i
  | _, _, .str x => .str x
  | _, _, .ty n => .ty n
  | _, _, .adr a => .adr a
  | _, _, .tup h r => .tup (s _ _ h) (RepAll.mono s r)
  | _, _, .lst h r => .lst (s _ _ h) (RepAll.mono s r)
  | _, _, .scr h => .scr (same_seqL' s h)
  | _, _, .ins h g n r => .ins (s _ _ h) g n (RepF.mono s r)
  | _, _, .exc h g r => .exc (h.same s) g (RepF.mono s r)
  | _, _, .dk h r => .dk (Rd.same s h) (RepK.mono s r)
  | _, _, .dt h r => .dt (s _ _ h) (RepT.mono s r)
theorem RepAll.mono (s : Same F F') : ∀ {vs : List V} {ds : List D}, RepAll K F vs ds → RepAll K F' vs ds
  | _, _, .nil => .nil
  | _, _, .cons h r => .cons (Rep.mono s h) (RepAll.mono s r)
theorem RepF.mono (s : Same F F') : ∀ {vs : List (Str × V)} {ds : List (Str × D)}, RepF K F vs ds → RepF K F' vs ds
  | _, _, .nil => .nil
  | _, _, .cons h r => .cons (Rep.mono s h) (RepF.mono s r)
theorem RepK.mono (s : Same F F') : ∀ {vs : List (Key × V)} {ds : List (D × D)}, RepK K F vs ds → RepK K F' vs ds
  | _, _, .nil => .nil
  | _, _, .cons h r => .cons (Rep.mono s h) (RepK.mono s r)
theorem RepT.mono (s : Same F F') : ∀ {vs : List (List Key × V)} {ds : List (D × D)}, RepT K F vs ds → RepT K F' vs ds
  | _, _, .nil => .nil
  | _, _, .cons h r => .cons (Rep.mono s h) (RepT.mono s r)
end
theorem RepAll.length : ∀ {vs : List V} {ds : List D}, RepAll K F vs ds → vs.length = ds.length
  | _, _, .nil => rfl
  | _, _, .cons _ r => congrArg (· + 1) (RepAll.length r)
theorem RepAll.append : ∀ {vs us : List V} {ds es : List D}, RepAll K F vs ds → RepAll K F us es → RepAll K F (vs ++ us) (ds ++ es)
  | _, _, _, _, .nil, q => q
  | _, _, _, _, .cons h r, q => .cons h (RepAll.append r q)
theorem RepAll.get : ∀ {vs : List V} {ds : List D} {i : Nat} {d : D}, RepAll K F vs ds → ds[i]? = some d → ∃ v, vs[i]? = some v ∧ Rep K F v d
  | _, _, _, _, .nil, e => by simp at e
  | _, _, 0, _, .cons h _, e => by
    cases e
    exact ⟨_, rfl, h⟩
  | _, _, i + 1, _, .cons _ r, e => RepAll.get (i := i) r e
theorem RepAll.get' : ∀ {vs : List V} {ds : List D} {i : Nat} {v : V}, RepAll K F vs ds → vs[i]? = some v → ∃ d, ds[i]? = some d ∧ Rep K F v d
  | _, _, _, _, .nil, e => by simp at e
  | _, _, 0, _, .cons h _, e => by
    cases e
    exact ⟨_, rfl, h⟩
  | _, _, i + 1, _, .cons _ r, e => RepAll.get' (i := i) r e
theorem RepAll.take : ∀ {vs : List V} {ds : List D} (n : Nat), RepAll K F vs ds → RepAll K F (vs.take n) (ds.take n)
  | _, _, 0, _ => .nil
  | _, _, _ + 1, .nil => .nil
  | _, _, n + 1, .cons h r => .cons h (RepAll.take n r)
theorem RepAll.drop : ∀ {vs : List V} {ds : List D} (n : Nat), RepAll K F vs ds → RepAll K F (vs.drop n) (ds.drop n)
  | _, _, 0, r => r
  | _, _, _ + 1, .nil => .nil
  | _, _, n + 1, .cons _ r => RepAll.drop n r
theorem RepF.look : ∀ {vs : List (Str × V)} {ds : List (Str × D)} {f : Str} {d : D}, RepF K F vs ds → ds.lookup f = some d → ∃ v, vs.lookup f = some v ∧ Rep K F v d
  | _, _, _, _, .nil, e => by simp at e
  | _, _, g, _, .cons (f := f) h r, e => by
    rw [List.lookup_cons] at e ⊢
    cases q : g == f with
    | true =>
      rw [q] at e
      cases e
      exact ⟨_, rfl, h⟩
    | false =>
      rw [q] at e
      exact RepF.look r e
theorem RepF.lookN : ∀ {vs : List (Str × V)} {ds : List (Str × D)} {f : Str}, RepF K F vs ds → ds.lookup f = none → vs.lookup f = none
  | _, _, _, .nil, _ => rfl
  | _, _, g, .cons (f := f) h r, e => by
    rw [List.lookup_cons] at e ⊢
    cases q : g == f with
    | true =>
      rw [q] at e
      cases e
    | false =>
      rw [q] at e
      exact RepF.lookN r e
theorem RepF.length : ∀ {vs : List (Str × V)} {ds : List (Str × D)}, RepF K F vs ds → vs.length = ds.length
  | _, _, .nil => rfl
  | _, _, .cons _ r => congrArg (· + 1) (RepF.length r)
/-- a field is stored -/
def putD (f : Str) (d : D) : List (Str × D) → List (Str × D)
  | [] => [(f, d)]
  | (g, e) :: r => if g = f then (f, d) :: r else (g, e) :: putD f d r
theorem repAll_of {xs : List V} {ds : List D} {f : V → D} (h : ∀ v ∈ xs, Rep K F v (f v)) : RepAll K F xs (xs.map f) := by
  induction xs with
  | nil => exact .nil
  | cons x xs ih => exact .cons (h x List.mem_cons_self) (ih fun v hv => h v (List.mem_cons_of_mem _ hv))
theorem repAll_ints : ∀ ns : List Int, RepAll K F (ns.map V.int) (ns.map D.int)
  | [] => .nil
  | n :: ns => .cons (.int n) (repAll_ints ns)
end

/-! ### what may change: each by its address -/
inductive MO where
  | lst (ds : List D) | ins (C : Addr) (fs : List (Str × D)) | dic (kvs : List (D × D)) | pen (m : Nat)
abbrev Gm := Addr → Option MO
def updG (G : Gm) (a : Addr) (m : MO) : Gm := fun b => if b = a then some m else G b
def delG (G : Gm) (a : Addr) : Gm := fun b => if b = a then none else G b
theorem updG_same {G : Gm} {a : Addr} {m : MO} : updG G a m a = some m := by unfold updG; rw [if_pos rfl]
theorem updG_ne {G : Gm} {a b : Addr} {m : MO} (h : b ≠ a) : updG G a m b = G b := by unfold updG; rw [if_neg h]
theorem updG_updG {G : Gm} {a : Addr} {m n : MO} : updG (updG G a m) a n = updG G a n := by
  funext b; unfold updG; split <;> rfl
theorem updG_self {G : Gm} {a : Addr} {m : MO} (h : G a = some m) : updG G a m = G := by
  funext b; unfold updG; split
  · rename_i e; rw [e, h]
  · rfl
theorem delG_same {G : Gm} {a : Addr} : delG G a a = none := by unfold delG; rw [if_pos rfl]
theorem delG_ne {G : Gm} {a b : Addr} (h : b ≠ a) : delG G a b = G b := by unfold delG; rw [if_neg h]
theorem delG_updG {G : Gm} {a : Addr} {m : MO} (h : G a = none) : delG (updG G a m) a = G := by
  funext b; unfold delG updG; split
  · rename_i e; rw [e, h]
  · rfl
def MRep (K : PySem.W.Frag) (F H : Hp) (a : Addr) : MO → Prop
  | .lst ds => ∃ xs, H a = some (.lst xs) ∧ RepAll K F xs ds
  | .ins C fs => ∃ dx fv, H a = some (.ins C dx fv) ∧ GoodC K C ∧ (∀ p ∈ fs, NoAttr K C p.1) ∧ RepF K F fv fs
  | .dic kvs => ∃ ks, H a = some (.dK ks) ∧ RepK K F ks kvs
  | .pen m => ∃ (c : Addr) (ns : List Int) (n g : Int), H a = some (.lst [.ref c, .int n, .int g]) ∧ F c = some (.lst (ns.map V.int)) ∧ ns.length ≤ 63 ∧ 0 ≤ n ∧ n ≤ m ∧ 0 ≤ g
def mutO : HO → Prop
  | .lst _ => True
  | .ins _ _ _ => True
  | .dK _ => True
  | .dT _ => True
  | _ => False
def notT : HO → Prop
  | .tbl _ => False
  | _ => True
theorem _root_.LamX.Tabs.but {T : List (Addr × Str)} {H : Hp} {o : HO} (t : LamX.Tabs T H) (a : Addr) (h : ∀ ps, H a = some (.tbl ps) → False) (h2 : ∀ φ, H a = some (.ext φ) → False) : LamX.Tabs T (upd H a o) := fun p hp => by
  obtain ⟨ps, h1, h3, h4⟩ := t p hp
  have n1 : p.1 ≠ a := fun e => h ps (by rw [← e]; exact h1)
  refine ⟨ps, (upd_ne n1).trans h1, h3, fun pos cv hc => ?_⟩
  obtain ⟨c, e1, e2⟩ := h4 pos cv hc
  have n2 : c ≠ a := fun e => h2 _ (by rw [← e]; exact e2)
  exact ⟨c, e1, (upd_ne n2).trans e2⟩
section
variable {K : PySem.W.Frag} {Tb : List (Addr × Str)} {F F' H H' Z : Hp} {G : Gm} {a : Addr} {m : MO}
theorem MRep.at_ (h : MRep K F H a m) : ∃ o, H a = some o ∧ mutO o := by
  cases m with
  | lst ds => obtain ⟨xs, e, _⟩ := h; exact ⟨_, e, trivial⟩
  | ins C fs => obtain ⟨dx, fv, e, _⟩ := h; exact ⟨_, e, trivial⟩
  | dic kvs => obtain ⟨ks, e, _⟩ := h; exact ⟨_, e, trivial⟩
  | pen m => obtain ⟨c, ns, n, g, e, _⟩ := h; exact ⟨_, e, trivial⟩
theorem MRep.mono (s : Same F F') (e : ∀ o, H a = some o → H' a = some o) (h : MRep K F H a m) : MRep K F' H' a m := by
  cases m with
  | lst ds => obtain ⟨xs, q, r⟩ := h; exact ⟨xs, e _ q, r.mono s⟩
  | ins C fs => obtain ⟨dx, fv, q, g, n, r⟩ := h; exact ⟨dx, fv, e _ q, g, n, r.mono s⟩
  | dic kvs => obtain ⟨ks, q, r⟩ := h; exact ⟨ks, e _ q, r.mono s⟩
  | pen m => obtain ⟨c, ns, n, g, q, r, t⟩ := h; exact ⟨c, ns, n, g, e _ q, s _ _ r, t⟩

/-- the heap: F stays, G may change, Z is the callers' own that may change but not here; Tb: tables of code objects that grow -/
structure DS (K : PySem.W.Frag) (Tb : List (Addr × Str)) (F H : Hp) (G : Gm) (Z : Hp) : Prop where
  sub : Same F H
  mu : ∀ a m, G a = some m → F a = none ∧ MRep K F H a m
  zub : Same Z H
  zf : ∀ a o, Z a = some o → F a = none ∧ G a = none ∧ mutO o
  ft : ∀ a o, F a = some o → notT o
  tab : LamX.Tabs Tb H
theorem DS.same (d : DS K Tb F H G Z) (s : Same H H') : DS K Tb F H' G Z :=
  ⟨d.sub.trans s, fun a m e => ⟨(d.mu a m e).1, (d.mu a m e).2.mono (.refl F) fun o q => s _ _ q⟩, d.zub.trans s, d.zf, d.ft, d.tab.ext s⟩
theorem DS.frz {o : HO} (d : DS K Tb F H G Z) (h : H a = some o) (g : G a = none) (z : Z a = none) (nt : notT o := by exact trivial) : DS K Tb (upd F a o) H G Z ∧ Same F (upd F a o) := by
  have s : Same F (upd F a o) := fun b u e => by
    by_cases c : b = a
    · subst c
      have := d.sub _ _ e
      rw [h] at this
      cases this
      exact upd_same
    · rw [upd_ne c]
      exact e
  refine ⟨⟨fun b u e => ?_, fun b m e => ?_, d.zub, fun b u e => ?_, fun b u e => ?_, d.tab⟩, s⟩
  · by_cases c : b = a
    · subst c
      rw [upd_same] at e
      cases e
      exact h
    · rw [upd_ne c] at e
      exact d.sub _ _ e
  · have c : b ≠ a := fun c => by rw [c, g] at e; cases e
    exact ⟨(upd_ne c).trans (d.mu b m e).1, (d.mu b m e).2.mono s fun o q => q⟩
  · have c : b ≠ a := fun c => by rw [c, z] at e; cases e
    exact ⟨(upd_ne c).trans (d.zf b u e).1, (d.zf b u e).2⟩
  · by_cases c : b = a
    · subst c
      rw [upd_same] at e
      cases e
      exact nt
    · rw [upd_ne c] at e
      exact d.ft b u e
theorem DS.noG (d : DS K Tb F H G Z) (h : H a = none) : G a = none := by
  cases e : G a with
  | none => rfl
  | some m =>
    obtain ⟨o, q, _⟩ := (d.mu a m e).2.at_
    rw [h] at q
    cases q
theorem DS.noZ (d : DS K Tb F H G Z) (h : H a = none) : Z a = none := by
  cases e : Z a with
  | none => rfl
  | some m =>
    have := d.zub a m e
    rw [h] at this
    cases this
theorem DS.noF (d : DS K Tb F H G Z) (h : H a = none) : F a = none := by
  cases e : F a with
  | none => rfl
  | some m =>
    have := d.sub a m e
    rw [h] at this
    cases this
theorem DS.notM (d : DS K Tb F H G Z) {o : HO} (h : H a = some o) (n : ¬ mutO o) : G a = none ∧ Z a = none := by
  constructor
  · cases e : G a with
    | none => rfl
    | some m =>
      obtain ⟨u, q, k⟩ := (d.mu a m e).2.at_
      rw [h] at q
      cases q
      exact absurd k n
  · cases e : Z a with
    | none => rfl
    | some u =>
      have := d.zub a u e
      rw [h] at this
      cases this
      exact absurd (d.zf a _ e).2.2 n
/-- a new thing that stays -/
theorem DS.new {o : HO} (d : DS K Tb F H G Z) (n : H a = none) (nt : notT o := by exact trivial) : DS K Tb (upd F a o) (upd H a o) G Z ∧ Same F (upd F a o) :=
  (d.same (same_new n)).frz upd_same (d.noG n) (d.noZ n) nt
/-- a thing that was got, new or not -/
theorem DS.got {o : HO} (d : DS K Tb F H G Z) (s : Same H H') (h : H' a = some o) (n : ¬ mutO o) (nt : notT o := by exact trivial) : DS K Tb (upd F a o) H' G Z ∧ Same F (upd F a o) :=
  have d' := d.same s
  d'.frz h (d'.notM h n).1 (d'.notM h n).2 nt
/-- a new thing that may change -/
theorem DS.open {o : HO} (d : DS K Tb F H G Z) (n : H a = none) (r : MRep K F (upd H a o) a m) : DS K Tb F (upd H a o) (updG G a m) Z := by
  have d' := d.same (same_new (o := o) n)
  refine ⟨d'.sub, fun b k e => ?_, d'.zub, fun b u e => ?_, d.ft, d'.tab⟩
  · by_cases c : b = a
    · subst c
      rw [updG_same] at e
      cases e
      exact ⟨d.noF n, r⟩
    · rw [updG_ne c] at e
      exact d'.mu b k e
  · have c : b ≠ a := fun c => by rw [c, d.noZ n] at e; cases e
    exact ⟨(d.zf b u e).1, (updG_ne c).trans (d.zf b u e).2.1, (d.zf b u e).2.2⟩
/-- it is written -/
theorem DS.write {o : HO} {m' : MO} (d : DS K Tb F H G Z) (g : G a = some m) (r : MRep K F (upd H a o) a m') : DS K Tb F (upd H a o) (updG G a m') Z := by
  have hf := (d.mu a m g).1
  have hz : Z a = none := by
    cases e : Z a with
    | none => rfl
    | some u =>
      have := (d.zf a u e).2.1
      rw [g] at this
      cases this
  have keep : ∀ b u, b ≠ a → H b = some u → upd H a o b = some u := fun b u n e => (upd_ne n).trans e
  refine ⟨fun b u e => ?_, fun b k e => ?_, fun b u e => ?_, fun b u e => ?_, d.ft, d.tab.but a (fun ps q => ?_) (fun φ q => ?_)⟩
  · exact keep b u (fun c => by rw [c, hf] at e; cases e) (d.sub b u e)
  · by_cases c : b = a
    · subst c
      rw [updG_same] at e
      cases e
      exact ⟨hf, r⟩
    · rw [updG_ne c] at e
      exact ⟨(d.mu b k e).1, (d.mu b k e).2.mono (.refl F) fun u q => keep b u c q⟩
  · exact keep b u (fun c => by rw [c, hz] at e; cases e) (d.zub b u e)
  · have c : b ≠ a := fun c => by rw [c, hz] at e; cases e
    exact ⟨(d.zf b u e).1, (updG_ne c).trans (d.zf b u e).2.1, (d.zf b u e).2.2⟩
  · obtain ⟨u, q', k⟩ := (d.mu a m g).2.at_
    rw [q] at q'
    cases q'
    exact k
  · obtain ⟨u, q', k⟩ := (d.mu a m g).2.at_
    rw [q] at q'
    cases q'
    exact k
/-- it is not changed any more -/
theorem DS.close {o : HO} (d : DS K Tb F H G Z) (g : G a = some m) (h : H a = some o) (nt : notT o := by exact trivial) : DS K Tb (upd F a o) H (delG G a) Z ∧ Same F (upd F a o) := by
  have hz : Z a = none := by
    cases e : Z a with
    | none => rfl
    | some u =>
      have := (d.zf a u e).2.1
      rw [g] at this
      cases this
  have d' : DS K Tb F H (delG G a) Z := ⟨d.sub, fun b k e => by
    by_cases c : b = a
    · rw [c, delG_same] at e
      cases e
    · rw [delG_ne c] at e
      exact d.mu b k e, d.zub, fun b u e => by
    have c : b ≠ a := fun c => by rw [c, hz] at e; cases e
    exact ⟨(d.zf b u e).1, (delG_ne c).trans (d.zf b u e).2.1, (d.zf b u e).2.2⟩, d.ft, d.tab⟩
  exact d'.frz h delG_same hz nt
/-- a further thing that is to stay as it is, for a while -/
theorem DS.zadd {o : HO} (d : DS K Tb F H G Z) (h : H a = some o) (f : F a = none) (g : G a = none) (n : mutO o) : DS K Tb F H G (upd Z a o) :=
  ⟨d.sub, d.mu, fun b u e => by
    by_cases c : b = a
    · subst c
      rw [upd_same] at e
      cases e
      exact h
    · rw [upd_ne c] at e
      exact d.zub b u e, fun b u e => by
    by_cases c : b = a
    · subst c
      rw [upd_same] at e
      cases e
      exact ⟨f, g, n⟩
    · rw [upd_ne c] at e
      exact d.zf b u e, d.ft, d.tab⟩
theorem DS.zdel {o : HO} (d : DS K Tb F H G (upd Z a o)) (n : Z a = none) : DS K Tb F H G Z ∧ H a = some o ∧ F a = none ∧ G a = none :=
  have k : ∀ b u, Z b = some u → upd Z a o b = some u := fun b u e => by
    have c : b ≠ a := fun c => by rw [c, n] at e; cases e
    rw [upd_ne c]
    exact e
  ⟨⟨d.sub, d.mu, fun b u e => d.zub b u (k b u e), fun b u e => d.zf b u (k b u e), d.ft, d.tab⟩, d.zub a o upd_same, (d.zf a o upd_same).1, (d.zf a o upd_same).2.1⟩
/-- a thing that nobody knows of is written -/
theorem DS.other {o u : HO} (d : DS K Tb F H G Z) (h : H a = some u) (f : F a = none) (g : G a = none) (z : Z a = none) (mu : mutO u := by exact trivial) : DS K Tb F (upd H a o) G Z :=
  have ne : ∀ {b : Addr} {Y : Hp} {q : HO}, Y a = none → Y b = some q → b ≠ a := fun y e c => by rw [c, y] at e; cases e
  ⟨fun b q e => (upd_ne (ne f e)).trans (d.sub b q e), fun b m e => ⟨(d.mu b m e).1, (d.mu b m e).2.mono (.refl F) fun q t => by
    have c : b ≠ a := fun c => by rw [c, g] at e; cases e
    exact (upd_ne c).trans t⟩, fun b q e => (upd_ne (ne z e)).trans (d.zub b q e), d.zf, d.ft, d.tab.but a (fun ps q => by rw [h] at q; cases q; exact mu) (fun φ q => by rw [h] at q; cases q; exact mu)⟩
end

/-! ### readings over trees -/
abbrev SD := List (Option D)
abbrev QD := D → Gm → Prop
abbrev TED := SD → Gm → QD → Prop
abbrev TTD := SD → Gm → (Bool → Gm → Prop) → Prop
abbrev TAD := SD → Gm → (List D → Gm → Prop) → Prop
/-- the slots -/
structure Sl (K : PySem.W.Frag) (F : Hp) (σ : L2.St) (δ : SD) : Prop where
  len : δ.length = σ.length
  get : ∀ (i : Nat) (d : D), δ[i]? = some (some d) → ∃ v : V, σ[i]? = some (some v) ∧ Rep K F v d
theorem Sl.mono {K : PySem.W.Frag} {F F' : Hp} {σ : L2.St} {δ : SD} (s : Same F F') (h : Sl K F σ δ) : Sl K F' σ δ :=
  ⟨h.len, fun i d e => let ⟨v, e', r⟩ := h.get i d e; ⟨v, e', r.mono s⟩⟩
theorem Sl.set {K : PySem.W.Frag} {F : Hp} {σ : L2.St} {δ : SD} {v : V} {d : D} (h : Sl K F σ δ) (i : Nat) (r : Rep K F v d) : Sl K F (σ.set i (some v)) (δ.set i (some d)) := by
  refine ⟨by simp [h.len], fun j e q => ?_⟩
  rw [List.getElem?_set] at q
  rw [List.getElem?_set]
  by_cases c : i = j
  · subst c
    rw [if_pos rfl] at q ⊢
    split at q
    · rename_i l
      cases q
      rw [if_pos (by rw [← h.len]; exact l)]
      exact ⟨v, rfl, r⟩
    · cases q
  · rw [if_neg c] at q ⊢
    exact h.get j e q
theorem Sl.drop {K : PySem.W.Frag} {F : Hp} {σ : L2.St} {δ : SD} (h : Sl K F σ δ) (i : Nat) (o : Option V) : Sl K F (σ.set i o) (δ.set i none) := by
  refine ⟨by simp [h.len], fun j e q => ?_⟩
  rw [List.getElem?_set] at q
  rw [List.getElem?_set]
  by_cases c : i = j
  · subst c
    rw [if_pos rfl] at q
    split at q <;> cases q
  · rw [if_neg c] at q ⊢
    exact h.get j e q
/-- where the code stands: what stood at the entry, and what is to stay -/
structure Bs where
  F : Hp
  Z : Hp
  T : List (Addr × Str)
/-- the state at δ, G -/
structure Sit (K : PySem.W.Frag) (B : Bs) (σ : L2.St) (H : Hp) (F : Hp) (δ : SD) (G : Gm) : Prop where
  ds : DS K B.T F H G B.Z
  gr : Same B.F F
  sl : Sl K F σ δ
theorem Sit.same {K : PySem.W.Frag} {B : Bs} {σ : L2.St} {H H' F : Hp} {δ : SD} {G : Gm} (S : Sit K B σ H F δ G) (s : Same H H') : Sit K B σ H' F δ G := ⟨S.ds.same s, S.gr, S.sl⟩
/-- behind an expression -/
def Beh (K : PySem.W.Frag) (B : Bs) (σ : L2.St) (F : Hp) (δ : SD) (Qd : QD) (v : V) (H' : Hp) : Prop :=
  ∃ F' G' d, Same F F' ∧ Sit K B σ H' F' δ G' ∧ Rep K F' v d ∧ Qd d G'
def up (K : PySem.W.Frag) (B : Bs) (T : TED) : TE := fun σ H Q => ∃ F G δ Qd, Sit K B σ H F δ G ∧ T δ G Qd ∧ ∀ v H', Beh K B σ F δ Qd v H' → Q v H'
def upT (K : PySem.W.Frag) (B : Bs) (T : TTD) : TT := fun σ H Q => ∃ F G δ Qd, Sit K B σ H F δ G ∧ T δ G Qd ∧ ∀ b H', (∃ F' G', Same F F' ∧ Sit K B σ H' F' δ G' ∧ Qd b G') → Q b H'
def upA (K : PySem.W.Frag) (B : Bs) (T : TAD) : TA := fun σ H Q => ∃ F G δ Qd, Sit K B σ H F δ G ∧ T δ G Qd ∧ ∀ vs H', (∃ F' G' ds, Same F F' ∧ Sit K B σ H' F' δ G' ∧ RepAll K F' vs ds ∧ Qd ds G') → Q vs H'
def DE (X : Cx) (B : Bs) (e : Expr) (T : TED) : Prop := PE X e (up X.K B T)
def DT (X : Cx) (B : Bs) (e : Expr) (T : TTD) : Prop := PT X e (upT X.K B T)
def DW (X : Cx) (B : Bs) (e : Expr) (T : TTD) : Prop := PW X e (upT X.K B T)
def DA (X : Cx) (B : Bs) (es : List Expr) (T : TAD) : Prop := PA X es (upA X.K B T)
section
variable {X : Cx} {B : Bs} {K : PySem.W.Frag}
theorem PE.weak {e : Expr} {t t' : TE} (h : PE X e t) (w : ∀ σ H Q, t' σ H Q → t σ H Q) : PE X e t' := ⟨fun pins s σ H Q I q => h.run pins s σ H Q I (w _ _ _ q)⟩
theorem PT.weak {e : Expr} {t t' : TT} (h : PT X e t) (w : ∀ σ H Q, t' σ H Q → t σ H Q) : PT X e t' := ⟨fun pins s σ H Q I q => h.run pins s σ H Q I (w _ _ _ q)⟩
theorem PW.weak {e : Expr} {t t' : TT} (h : PW X e t) (w : ∀ σ H Q, t' σ H Q → t σ H Q) : PW X e t' := ⟨fun wh pins s σ H Q I q => h.run wh pins s σ H Q I (w _ _ _ q)⟩
theorem PA.weak {e : List Expr} {t t' : TA} (h : PA X e t) (w : ∀ σ H Q, t' σ H Q → t σ H Q) : PA X e t' := ⟨fun pos pins s σ H Q I q => h.run pos pins s σ H Q I (w _ _ _ q)⟩
/-- two in a row -/
theorem up2 {ta tb : TED} {R : D → D → Gm → Prop} {RV : V → V → Hp → Prop} {σ : L2.St} {H F : Hp} {δ : SD} {G : Gm} (S : Sit K B σ H F δ G) (h : ta δ G fun x G1 => tb δ G1 fun y G2 => R x y G2)
    (k : ∀ x y H2 F2 G2 a b, Same F F2 → Sit K B σ H2 F2 δ G2 → Rep K F2 x a → Rep K F2 y b → R a b G2 → RV x y H2) : up K B ta σ H fun x H1 => up K B tb σ H1 fun y H2 => RV x y H2 :=
  ⟨F, G, δ, _, S, h, fun x H1 ⟨F1, G1, a, s1, S1, r1, h1⟩ => ⟨F1, G1, δ, _, S1, h1, fun y H2 ⟨F2, G2, b, s2, S2, r2, h2⟩ => k x y H2 F2 G2 a b (s1.trans s2) S2 (r1.mono s2) r2 h2⟩⟩
/-- the same thing again -/
theorem Beh.end_ {σ : L2.St} {H F F' : Hp} {δ : SD} {G' : Gm} {Qd : QD} {v : V} {d : D} (s : Same F F') (S : Sit K B σ H F' δ G') (r : Rep K F' v d) (q : Qd d G') : Beh K B σ F δ Qd v H := ⟨F', G', d, s, S, r, q⟩

/-! ### names, constants -/
def dVar (i : Nat) : TED := fun δ G Q => match δ[i]? with | some (some d) => Q d G | _ => False
def dC (d : D) : TED := fun _ G Q => Q d G
theorem de_var {i : Nat} {x : Str} {pos : Pos} (hN : X.N[i]? = some x) (hv : Vis X.env.scope x) (hd : (x == ("__debug__" : Str)) = false := by decide) (hcd : (x == ("__classdict__" : Str)) = false := by decide) : DE X B (.Name x pos) (dVar i) :=
  PE.weak (pe_var hN hv hd hcd) fun σ H Q ⟨F, G, δ, Qd, S, h, k⟩ => by
    unfold dVar at h
    split at h
    · rename_i d e
      obtain ⟨v, e', r⟩ := S.sl.get i d e
      exact ⟨v, e', k v H (.end_ (.refl F) S r h)⟩
    · exact h.elim
theorem de_c {e : Expr} {v : V} {d : D} (h : PE X e (tC v)) (r : ∀ F, Rep X.K F v d) : DE X B e (dC d) :=
  PE.weak h fun σ H Q ⟨F, G, δ, Qd, S, h, k⟩ => k v H (.end_ (.refl F) S (r F) h)
theorem de_int {i j pos} : DE X B (.Constant (.int i) j pos) (dC (.int i)) := de_c pe_int fun _ => .int i
theorem de_bl {b j pos} : DE X B (.Constant (.bool b) j pos) (dC (.bl b)) := de_c pe_bl fun _ => .bl b
theorem de_non {j pos} : DE X B (.Constant .none j pos) (dC .non) := de_c pe_non fun _ => .non
theorem de_str {x j pos} : DE X B (.Constant (.str x) j pos) (dC (.str x)) := de_c pe_str fun _ => .str x
theorem de_gint {x : Str} {i : Int} {u : Value} {pos : Pos} (hg : Gl X x) (hm : X.mg x = some u) (r : RelV (.int i) u) (hd : (x == ("__debug__" : Str)) = false := by decide) : DE X B (.Name x pos) (dC (.int i)) := de_c (pe_glob hg hm r hd) fun _ => .int i
theorem de_gadr {x : Str} {a : Addr} {pos : Pos} (hg : Gl X x) (hm : X.mg x = some (.ref a)) (hd : (x == ("__debug__" : Str)) = false := by decide) : DE X B (.Name x pos) (dC (.adr a)) := de_c (pe_glob hg hm (show RelV (.ref a) _ from rfl) hd) fun _ => .adr a
theorem de_gty {x : Str} {n : String} {pos : Pos} (hg : Gl X x) (hm : X.mg x = none) (hv : bootBuiltins x = some (.type n)) (hn : x ≠ "__name__" := by decide) (hd : (x == ("__debug__" : Str)) = false := by decide) : DE X B (.Name x pos) (dC (.ty n)) :=
  de_c (pe_bltn hg hm hv (show RelV (.ty n) _ from rfl) hn hd) fun _ => .ty n

/-! ### operators -/
abbrev R2D := D → D → Gm → QD → Prop
abbrev R1D := D → Gm → QD → Prop
def dOp (r : R2D) (ta tb : TED) : TED := fun δ G Q => ta δ G fun x G1 => tb δ G1 fun y G2 => r x y G2 Q
def dUn (r : R1D) (ta : TED) : TED := fun δ G Q => ta δ G fun x G1 => r x G1 Q
/-- an operator by the heap's own and by trees -/
def OpA (K : PySem.W.Frag) (rv : R2) (r : R2D) : Prop := ∀ (B : Bs) (σ : L2.St) (δ : SD) (H F : Hp) (G : Gm) (x y : V) (a b : D) (Qd : QD) (Q : VK), Sit K B σ H F δ G → Rep K F x a → Rep K F y b → r a b G Qd → (∀ v H', Beh K B σ F δ Qd v H' → Q v H') → rv x y H Q
theorem de_op {op : Operator} {rv : R2} {r : R2D} {a b : Expr} {ta tb : TED} {pos : Pos} (ho : OpR X (binaryOp op) rv) (hA : OpA X.K rv r) (ha : DE X B a ta) (hb : DE X B b tb) : DE X B (.BinOp a op b pos) (dOp r ta tb) :=
  PE.weak (pe_op ho ha hb) fun σ H Q ⟨F, G, δ, Qd, S, h, k⟩ => up2 S h fun x y H2 F2 G2 d e s2 S2 r1 r2 h2 => hA B σ δ H2 F2 G2 x y d e Qd Q S2 r1 r2 h2 fun v H' ⟨F', G', d', s', S', r', q'⟩ => k v H' ⟨F', G', d', s2.trans s', S', r', q'⟩
theorem de_cmp {op : CmpOp} {rv : R2} {r : R2D} {a b : Expr} {ta tb : TED} {pos : Pos} (ho : OpR X (compareOp op) rv) (hA : OpA X.K rv r) (ha : DE X B a ta) (hb : DE X B b tb) (hm : behindInMarks op b = false) : DE X B (.Compare a [op] [b] pos) (dOp r ta tb) :=
  PE.weak (pe_cmpR ho ha hb hm) fun σ H Q ⟨F, G, δ, Qd, S, h, k⟩ => up2 S h fun x y H2 F2 G2 d e s2 S2 r1 r2 h2 => hA B σ δ H2 F2 G2 x y d e Qd Q S2 r1 r2 h2 fun v H' ⟨F', G', d', s', S', r', q'⟩ => k v H' ⟨F', G', d', s2.trans s', S', r', q'⟩
theorem de_ix {rv : R2} {r : R2D} {a b : Expr} {ta tb : TED} {pos : Pos} (ho : IxR X rv) (hA : OpA X.K rv r) (ha : DE X B a ta) (hb : DE X B b tb) (hs : PlainIx b) : DE X B (.Subscript a b pos) (dOp r ta tb) :=
  PE.weak (pe_ix ho ha hb hs) fun σ H Q ⟨F, G, δ, Qd, S, h, k⟩ => up2 S h fun x y H2 F2 G2 d e s2 S2 r1 r2 h2 => hA B σ δ H2 F2 G2 x y d e Qd Q S2 r1 r2 h2 fun v H' ⟨F', G', d', s', S', r', q'⟩ => k v H' ⟨F', G', d', s2.trans s', S', r', q'⟩
/-- a test out of a value -/
def dTest (t : TED) : TTD := fun δ G Q => t δ G fun x G' => match x with | .bl b => Q b G' | _ => False
theorem rep_bl {F : Hp} {v : V} {b : Bool} (r : Rep K F v (.bl b)) : v = .bl b := by cases r; rfl
theorem rep_int {F : Hp} {v : V} {b : Int} (r : Rep K F v (.int b)) : v = .int b := by cases r; rfl
theorem rep_str {F : Hp} {v : V} {b : Str} (r : Rep K F v (.str b)) : v = .str b := by cases r; rfl
theorem rep_non {F : Hp} {v : V} (r : Rep K F v .non) : v = .non := by cases r; rfl
theorem rep_adr {F : Hp} {v : V} {a : Addr} (r : Rep K F v (.adr a)) : v = .ref a := by cases r; rfl
theorem up_test {t : TED} {σ : L2.St} {H : Hp} {Q : Bool → Hp → Prop} (h : upT K B (dTest t) σ H Q) : up K B t σ H fun x H' => ∃ k, x = .bl k ∧ Q k H' := by
  obtain ⟨F, G, δ, Qd, S, h, k⟩ := h
  refine ⟨F, G, δ, _, S, h, fun v H' ⟨F', G', d, s, S', r, q⟩ => ?_⟩
  cases d with
  | bl b =>
    cases r
    exact ⟨b, rfl, k b H' ⟨F', G', s, S', q⟩⟩
  | _ => exact q.elim
theorem dt_val {e : Expr} {t : TED} (h : DE X B e t) (he : ∀ whole, isTrue e X.env whole = (do let v ← whole; standAt e.pos; holding [v] (truthy v)) := by intro _; rfl) : DT X B e (dTest t) :=
  PT.weak (pt_val h he) fun σ H Q q => up_test q
theorem dt_cmp {op : CmpOp} {rv : R2} {r : R2D} {a b : Expr} {ta tb : TED} {pos : Pos} (ho : OpR X (compareOp op) rv) (hA : OpA X.K rv r) (ha : DE X B a ta) (hb : DE X B b tb) (hm : behindInMarks op b = false) : DT X B (.Compare a [op] [b] pos) (dTest (dOp r ta tb)) :=
  PT.weak (pt_cmpR ho ha hb hm) fun σ H Q q => by
    obtain ⟨F, G, δ, Qd, S, h, k⟩ := q
    refine up2 S h fun x y H2 F2 G2 d e s2 S2 r1 r2 h2 => hA B σ δ H2 F2 G2 x y d e _ _ S2 r1 r2 h2 fun v H' ⟨F', G', d', s', S', r', q'⟩ => ?_
    cases d' with
    | bl b =>
      cases r'
      exact ⟨b, rfl, k b H' ⟨F', G', s2.trans s', S', q'⟩⟩
    | _ => exact q'.elim
end
end JP

namespace JP
open PySem PySem.Spec PyProof.Rows L2
section
variable {X : Cx} {B : Bs} {K : PySem.W.Frag} {a b c : Expr} {rest : List Expr} {ta tb : TED} {pos : Pos}
/-! ### and, or, not, if else -/
def dAnd (ta tb : TED) : TED := fun δ G Q => ta δ G fun x G1 => match x with | .bl true => tb δ G1 Q | .bl false => Q (.bl false) G1 | _ => False
def dOr (ta tb : TED) : TED := fun δ G Q => ta δ G fun x G1 => match x with | .bl true => Q (.bl true) G1 | .bl false => tb δ G1 Q | _ => False
def dNot (ta : TED) : TED := fun δ G Q => ta δ G fun x G1 => match x with | .bl c => Q (.bl (!c)) G1 | _ => False
theorem de_one {op} {t : TED} (h : DE X B a t) : DE X B (.BoolOp op [a] pos) t := pe_one h
theorem de_and (ha : DE X B a ta) (hb : DE X B (.BoolOp .And (b :: rest) pos) tb) : DE X B (.BoolOp .And (a :: b :: rest) pos) (dAnd ta tb) :=
  PE.weak (pe_and ha hb) fun σ H Q ⟨F, G, δ, Qd, S, h, k⟩ => ⟨F, G, δ, _, S, h, fun v H1 ⟨F1, G1, d, s1, S1, r1, h1⟩ => by
    cases d with
    | bl c =>
      cases r1
      cases c with
      | true => exact ⟨true, rfl, F1, G1, δ, Qd, S1, h1, fun v H' ⟨F', G', d', s', S', r', q'⟩ => k v H' ⟨F', G', d', s1.trans s', S', r', q'⟩⟩
      | false => exact ⟨false, rfl, k _ _ ⟨F1, G1, _, s1, S1, .bl false, h1⟩⟩
    | _ => exact h1.elim⟩
theorem de_or (ha : DE X B a ta) (hb : DE X B (.BoolOp .Or (b :: rest) pos) tb) : DE X B (.BoolOp .Or (a :: b :: rest) pos) (dOr ta tb) :=
  PE.weak (pe_or ha hb) fun σ H Q ⟨F, G, δ, Qd, S, h, k⟩ => ⟨F, G, δ, _, S, h, fun v H1 ⟨F1, G1, d, s1, S1, r1, h1⟩ => by
    cases d with
    | bl c =>
      cases r1
      cases c with
      | false => exact ⟨false, rfl, F1, G1, δ, Qd, S1, h1, fun v H' ⟨F', G', d', s', S', r', q'⟩ => k v H' ⟨F', G', d', s1.trans s', S', r', q'⟩⟩
      | true => exact ⟨true, rfl, k _ _ ⟨F1, G1, _, s1, S1, .bl true, h1⟩⟩
    | _ => exact h1.elim⟩
theorem de_not (ha : DE X B a ta) : DE X B (.UnaryOp .Not a pos) (dNot ta) :=
  PE.weak (pe_not ha) fun σ H Q ⟨F, G, δ, Qd, S, h, k⟩ => ⟨F, G, δ, _, S, h, fun v H1 ⟨F1, G1, d, s1, S1, r1, h1⟩ => by
    cases d with
    | bl c =>
      cases r1
      exact ⟨c, rfl, k _ _ ⟨F1, G1, _, s1, S1, .bl _, h1⟩⟩
    | _ => exact h1.elim⟩
/-- tests -/
def dAndT (t u : TTD) : TTD := fun δ G Q => t δ G fun c G1 => match c with | true => u δ G1 Q | false => Q false G1
def dOrT (t u : TTD) : TTD := fun δ G Q => t δ G fun c G1 => match c with | true => Q true G1 | false => u δ G1 Q
def dNotT (t : TTD) : TTD := fun δ G Q => t δ G fun c G1 => Q (!c) G1
variable {tA tB' : TTD}
theorem dw_pt {e : Expr} {t : TTD} (h : DW X B e t) : DT X B e t := PW.pt h
theorem dw_and1 (ha : DT X B a tA) : DW X B (.BoolOp .And [a] pos) tA := pw_and1 ha
theorem dw_or1 (ha : DT X B a tA) : DW X B (.BoolOp .Or [a] pos) tA := pw_or1 ha
theorem dw_and (ha : DT X B a tA) (hb : DW X B (.BoolOp .And (b :: rest) pos) tB') : DW X B (.BoolOp .And (a :: b :: rest) pos) (dAndT tA tB') :=
  PW.weak (pw_and ha hb) fun σ H Q ⟨F, G, δ, Qd, S, h, k⟩ => ⟨F, G, δ, _, S, h, fun c H1 ⟨F1, G1, s1, S1, h1⟩ => by
    cases c with
    | true => exact ⟨F1, G1, δ, Qd, S1, h1, fun v H' ⟨F', G', s', S', q'⟩ => k v H' ⟨F', G', s1.trans s', S', q'⟩⟩
    | false => exact k _ _ ⟨F1, G1, s1, S1, h1⟩⟩
theorem dw_or (ha : DT X B a tA) (hb : DW X B (.BoolOp .Or (b :: rest) pos) tB') : DW X B (.BoolOp .Or (a :: b :: rest) pos) (dOrT tA tB') :=
  PW.weak (pw_or ha hb) fun σ H Q ⟨F, G, δ, Qd, S, h, k⟩ => ⟨F, G, δ, _, S, h, fun c H1 ⟨F1, G1, s1, S1, h1⟩ => by
    cases c with
    | false => exact ⟨F1, G1, δ, Qd, S1, h1, fun v H' ⟨F', G', s', S', q'⟩ => k v H' ⟨F', G', s1.trans s', S', q'⟩⟩
    | true => exact k _ _ ⟨F1, G1, s1, S1, h1⟩⟩
theorem dt_not (ha : DT X B a tA) : DT X B (.UnaryOp .Not a pos) (dNotT tA) :=
  PT.weak (pt_not ha) fun σ H Q ⟨F, G, δ, Qd, S, h, k⟩ => ⟨F, G, δ, _, S, h, fun c H1 ⟨F1, G1, s1, S1, h1⟩ => k _ _ ⟨F1, G1, s1, S1, h1⟩⟩
def dIf (t : TTD) (ta tb : TED) : TED := fun δ G Q => t δ G fun c G1 => match c with | true => ta δ G1 Q | false => tb δ G1 Q
theorem de_if (hc : DT X B c tA) (ha : DE X B a ta) (hb : DE X B b tb) : DE X B (.IfExp c a b pos) (dIf tA ta tb) :=
  PE.weak (pe_ifExp hc ha hb) fun σ H Q ⟨F, G, δ, Qd, S, h, k⟩ => ⟨F, G, δ, _, S, h, fun c H1 ⟨F1, G1, s1, S1, h1⟩ => by
    cases c with
    | true => exact ⟨F1, G1, δ, Qd, S1, h1, fun v H' ⟨F', G', d', s', S', r', q'⟩ => k v H' ⟨F', G', d', s1.trans s', S', r', q'⟩⟩
    | false => exact ⟨F1, G1, δ, Qd, S1, h1, fun v H' ⟨F', G', d', s', S', r', q'⟩ => k v H' ⟨F', G', d', s1.trans s', S', r', q'⟩⟩⟩
end

/-! ### lists of expressions, displays -/
section
variable {X : Cx} {B : Bs} {K : PySem.W.Frag} {e : Expr} {es : List Expr} {te : TED} {t : TAD} {pos : Pos}
def dNil : TAD := fun _ G Q => Q [] G
def dCons (te : TED) (tr : TAD) : TAD := fun δ G Q => te δ G fun d G1 => tr δ G1 fun ds G2 => Q (d :: ds) G2
theorem da_nil : DA X B [] dNil := PA.weak pa_nil fun σ H Q ⟨F, G, δ, Qd, S, h, k⟩ => k [] H ⟨F, G, [], .refl F, S, .nil, h⟩
theorem da_cons (ha : DE X B e te) (hr : DA X B es t) (hs : starEach (e :: es) X.env = (false, eval e X.env) :: starEach es X.env := by rfl) : DA X B (e :: es) (dCons te t) :=
  PA.weak (pa_cons ha hr hs) fun σ H Q ⟨F, G, δ, Qd, S, h, k⟩ => ⟨F, G, δ, _, S, h, fun v H1 ⟨F1, G1, d, s1, S1, r1, h1⟩ => ⟨F1, G1, δ, _, S1, h1, fun vs H2 ⟨F2, G2, ds, s2, S2, r2, h2⟩ =>
    k _ H2 ⟨F2, G2, d :: ds, s1.trans s2, S2, .cons (r1.mono s2) r2, h2⟩⟩⟩
def dTup (t : TAD) : TED := fun δ G Q => t δ G fun ds G1 => ds.length ≤ sizeLine ∧ Q (.tup ds) G1
def dLst (t : TAD) : TED := fun δ G Q => t δ G fun ds G1 => ds.length ≤ sizeLine ∧ Q (.lst ds) G1
/-- a new thing in the heap, that stays -/
theorem Beh.new {σ : L2.St} {H F F1 : Hp} {δ : SD} {G : Gm} {Qd : QD} {p : Addr} {o : HO} {d : D} (S : Sit K B σ H F1 δ G) (s : Same F F1) (n : H p = none) (r : Rep K (upd F1 p o) (.ref p) d) (q : Qd d G) (nt : notT o := by exact trivial) : Beh K B σ F δ Qd (.ref p) (upd H p o) :=
  have ⟨d1, s1⟩ := S.ds.new (o := o) n nt
  ⟨upd F1 p o, G, d, s.trans s1, ⟨d1, S.gr.trans s1, S.sl.mono s1⟩, r, q⟩
theorem rep_tup_new {F1 : Hp} {p : Addr} {vs : List V} {ds : List D} (n : F1 p = none) (r : RepAll K F1 vs ds) : Rep K (upd F1 p (.tup vs)) (.ref p) (.tup ds) := .tup upd_same (r.mono (same_new n))
theorem rep_lst_new {F1 : Hp} {p : Addr} {vs : List V} {ds : List D} (n : F1 p = none) (r : RepAll K F1 vs ds) : Rep K (upd F1 p (.lst vs)) (.ref p) (.lst ds) := .lst upd_same (r.mono (same_new n))
theorem de_tup {x1} (h : DA X B es t) : DE X B (.Tuple es x1 pos) (dTup t) :=
  PE.weak (pe_tup h) fun σ H Q ⟨F, G, δ, Qd, S, q, k⟩ => ⟨F, G, δ, _, S, q, fun vs H1 ⟨F1, G1, ds, s1, S1, r1, l, h1⟩ => ⟨by rw [r1.length]; exact l, fun p n =>
    k _ _ (.new S1 s1 n (rep_tup_new (S1.ds.noF n) r1) h1)⟩⟩
theorem de_lst (h : DA X B es t) : DE X B (.List es pos) (dLst t) :=
  PE.weak (pe_lst h) fun σ H Q ⟨F, G, δ, Qd, S, q, k⟩ => ⟨F, G, δ, _, S, q, fun vs H1 ⟨F1, G1, ds, s1, S1, r1, l, h1⟩ => ⟨by rw [r1.length]; exact l, fun p n =>
    k _ _ (.new S1 s1 n (rep_lst_new (S1.ds.noF n) r1) h1)⟩⟩
/-- a list that will be changed -/
def dLstM (t : TAD) : TED := fun δ G Q => t δ G fun ds G1 => ds.length ≤ sizeLine ∧ ∀ p, G1 p = none → Q (.adr p) (updG G1 p (.lst ds))
theorem Beh.open {σ : L2.St} {H F F1 : Hp} {δ : SD} {G : Gm} {Qd : QD} {p : Addr} {o : HO} {m : MO} (S : Sit K B σ H F1 δ G) (s : Same F F1) (n : H p = none) (r : MRep K F1 (upd H p o) p m) (q : Qd (.adr p) (updG G p m)) : Beh K B σ F δ Qd (.ref p) (upd H p o) :=
  ⟨F1, updG G p m, .adr p, s, ⟨S.ds.open n r, S.gr, S.sl⟩, .adr p, q⟩
theorem de_lstM (h : DA X B es t) : DE X B (.List es pos) (dLstM t) :=
  PE.weak (pe_lst h) fun σ H Q ⟨F, G, δ, Qd, S, q, k⟩ => ⟨F, G, δ, _, S, q, fun vs H1 ⟨F1, G1, ds, s1, S1, r1, l, h1⟩ => ⟨by rw [r1.length]; exact l, fun p n =>
    k _ _ (.open (m := .lst ds) S1 s1 n ⟨vs, upd_same, r1⟩ (h1 p (S1.ds.noG n)))⟩⟩
/-- what was changed and is so no more: it is read as what it is worth -/
def dClose (t : TED) : TED := fun δ G Q => t δ G fun d G1 => ∃ a, d = .adr a ∧ match G1 a with | some (.lst ds) => Q (.lst ds) (delG G1 a) | some (.ins C fs) => Q (.ins C fs) (delG G1 a) | some (.dic kvs) => Q (.dic kvs) (delG G1 a) | _ => False
theorem Sit.close {σ : L2.St} {H F : Hp} {δ : SD} {G : Gm} {a : Addr} {m : MO} {o : HO} (S : Sit K B σ H F δ G) (g : G a = some m) (h : H a = some o) (nt : notT o := by exact trivial) : Sit K B σ H (upd F a o) δ (delG G a) ∧ Same F (upd F a o) :=
  have ⟨d1, s1⟩ := S.ds.close g h nt
  ⟨⟨d1, S.gr.trans s1, S.sl.mono s1⟩, s1⟩
theorem de_close (h : DE X B e te) : DE X B e (dClose te) :=
  PE.weak h fun σ H Q ⟨F, G, δ, Qd, S, q, k⟩ => ⟨F, G, δ, _, S, q, fun v H1 ⟨F1, G1, d, s1, S1, r1, a, ea, h1⟩ => by
    subst ea
    cases r1
    cases g : G1 a with
    | none =>
      rw [g] at h1
      exact h1.elim
    | some m =>
      rw [g] at h1
      have r := (S1.ds.mu a m g).2
      cases m with
      | lst ds =>
        obtain ⟨xs, e, r⟩ := r
        obtain ⟨S2, s2⟩ := S1.close g e
        exact k _ _ ⟨_, _, _, s1.trans s2, S2, .lst upd_same (r.mono s2), h1⟩
      | ins C fs =>
        obtain ⟨dx, fv, e, gc, na, r⟩ := r
        obtain ⟨S2, s2⟩ := S1.close g e
        exact k _ _ ⟨_, _, _, s1.trans s2, S2, .ins upd_same gc na (r.mono s2), h1⟩
      | dic kvs =>
        obtain ⟨ks, e, r⟩ := r
        obtain ⟨S2, s2⟩ := S1.close g e
        exact k _ _ ⟨_, _, _, s1.trans s2, S2, .dk (.of upd_same) (r.mono s2), h1⟩
      | pen m => exact h1.elim⟩
end

/-! ### statements -/
structure EndsD where
  nx : SD → Gm → Prop
  rt : QD
  bk : SD → Gm → Prop := fun _ _ => False
  ct : SD → Gm → Prop := fun _ _ => False
abbrev TSD := EndsD → SD → Gm → Prop
def BehS (K : PySem.W.Frag) (B : Bs) (F : Hp) (q : SD → Gm → Prop) (σ : L2.St) (H : Hp) : Prop := ∃ F' G' δ', Same F F' ∧ Sit K B σ H F' δ' G' ∧ q δ' G'
def BehR (K : PySem.W.Frag) (B : Bs) (F : Hp) (q : QD) (v : V) (H : Hp) : Prop := ∃ F' G' d, Same F F' ∧ DS K B.T F' H G' B.Z ∧ Same B.F F' ∧ Rep K F' v d ∧ q d G'
structure Low (K : PySem.W.Frag) (B : Bs) (F : Hp) (E : EndsD) (D : Ends) : Prop where
  nx : ∀ σ H, BehS K B F E.nx σ H → D.nx σ H
  rt : ∀ v H, BehR K B F E.rt v H → D.rt v H
  bk : ∀ σ H, BehS K B F E.bk σ H → D.bk σ H
  ct : ∀ σ H, BehS K B F E.ct σ H → D.ct σ H
section
variable {X : Cx} {B : Bs} {K : PySem.W.Frag}
theorem BehS.mono {F F' : Hp} {q : SD → Gm → Prop} {σ : L2.St} {H : Hp} (s : Same F F') (h : BehS K B F' q σ H) : BehS K B F q σ H := let ⟨F1, G, δ, s1, r⟩ := h; ⟨F1, G, δ, s.trans s1, r⟩
theorem BehR.mono {F F' : Hp} {q : QD} {v : V} {H : Hp} (s : Same F F') (h : BehR K B F' q v H) : BehR K B F q v H := let ⟨F1, G, δ, s1, r⟩ := h; ⟨F1, G, δ, s.trans s1, r⟩
theorem Low.mono {F F' : Hp} {E : EndsD} {D : Ends} (s : Same F F') (h : Low K B F E D) : Low K B F' E D :=
  ⟨fun σ H q => h.nx σ H (q.mono s), fun σ H q => h.rt σ H (q.mono s), fun σ H q => h.bk σ H (q.mono s), fun σ H q => h.ct σ H (q.mono s)⟩
def upS (K : PySem.W.Frag) (B : Bs) (T : TSD) : TS := fun D σ H => ∃ F G δ E, Sit K B σ H F δ G ∧ T E δ G ∧ Low K B F E D
def DSt (X : Cx) (B : Bs) (st : Stmt) (T : TSD) : Prop := PS X st (upS X.K B T)
def DB (X : Cx) (B : Bs) (st : List Stmt) (T : TSD) : Prop := PSs X st (upS X.K B T)
theorem PS.weak {e : Stmt} {t t' : TS} (h : PS X e t) (w : ∀ D σ H, t' D σ H → t D σ H) : PS X e t' := ⟨fun pins s σ H D I q => h.run pins s σ H D I (w _ _ _ q)⟩
theorem PSs.weak {e : List Stmt} {t t' : TS} (h : PSs X e t) (w : ∀ D σ H, t' D σ H → t D σ H) : PSs X e t' := ⟨fun pins s σ H D I q => h.run pins s σ H D I (w _ _ _ q)⟩
variable {st : Stmt} {rest : List Stmt} {t u : TSD} {e : Expr} {te : TED} {pos : Pos}
def dNext : TSD := fun E δ G => E.nx δ G
def dSeq (t u : TSD) : TSD := fun E δ G => t { E with nx := u E } δ G
theorem db_nil : DB X B [] dNext := PSs.weak pss_nil fun D σ H ⟨F, G, δ, E, S, h, L⟩ => L.nx σ H ⟨F, G, δ, .refl F, S, h⟩
theorem db_cons (h1 : DSt X B st t) (h2 : DB X B rest u) : DB X B (st :: rest) (dSeq t u) :=
  PSs.weak (pss_cons h1 h2) fun D σ H ⟨F, G, δ, E, S, h, L⟩ => ⟨F, G, δ, _, S, h, ⟨fun σ' H' ⟨F', G', δ', s', S', q'⟩ => ⟨F', G', δ', E, S', q', L.mono s'⟩, L.rt, L.bk, L.ct⟩⟩
theorem db_one (h1 : DSt X B st t) : DB X B [st] t := pss_one h1
theorem ds_pass : DSt X B (.Pass pos) dNext := PS.weak ps_pass fun D σ H ⟨F, G, δ, E, S, h, L⟩ => L.nx σ H ⟨F, G, δ, .refl F, S, h⟩
def dBreak : TSD := fun E δ G => E.bk δ G
def dCont : TSD := fun E δ G => E.ct δ G
theorem ds_break : DSt X B (.Break pos) dBreak := PS.weak ps_break fun D σ H ⟨F, G, δ, E, S, h, L⟩ => L.bk σ H ⟨F, G, δ, .refl F, S, h⟩
theorem ds_cont : DSt X B (.Continue pos) dCont := PS.weak ps_continue fun D σ H ⟨F, G, δ, E, S, h, L⟩ => L.ct σ H ⟨F, G, δ, .refl F, S, h⟩
def dDrop (te : TED) : TSD := fun E δ G => te δ G fun _ G1 => E.nx δ G1
theorem ds_expr (he : DE X B e te) (hs : swapsWith e none pos.line X.env = pure false := by rfl) : DSt X B (.Expr e pos) (dDrop te) :=
  PS.weak (ps_expr he hs) fun D σ H ⟨F, G, δ, E, S, h, L⟩ => ⟨F, G, δ, _, S, h, fun v H' ⟨F', G', d, s', S', r', q'⟩ => L.nx σ H' ⟨F', G', δ, s', S', q'⟩⟩
def dRet (te : TED) : TSD := fun E δ G => te δ G E.rt
theorem ds_ret (he : DE X B e te) : DSt X B (.Return (some e) pos) (dRet te) :=
  PS.weak (ps_ret he) fun D σ H ⟨F, G, δ, E, S, h, L⟩ => ⟨F, G, δ, _, S, h, fun v H' ⟨F', G', d, s', S', r', q'⟩ => L.rt v H' ⟨F', G', d, s', S'.ds, S'.gr, r', q'⟩⟩
def dRetN : TSD := fun E _ G => E.rt .non G
theorem ds_retN : DSt X B (.Return none pos) dRetN := PS.weak ps_retN fun D σ H ⟨F, G, δ, E, S, h, L⟩ => L.rt .non H ⟨F, G, .non, .refl F, S.ds, S.gr, .non, h⟩
def dIfS (c : TTD) (t u : TSD) : TSD := fun E δ G => c δ G fun b G1 => match b with | true => t E δ G1 | false => u E δ G1
theorem ds_if {c : Expr} {a b : List Stmt} {tc : TTD} (hc : DT X B c tc) (ha : DB X B a t) (hb : DB X B b u) : DSt X B (.If c a b pos) (dIfS tc t u) :=
  PS.weak (ps_if hc ha hb) fun D σ H ⟨F, G, δ, E, S, h, L⟩ => ⟨F, G, δ, _, S, h, fun b H' ⟨F', G', s', S', q'⟩ => by
    cases b with
    | true => exact ⟨F', G', δ, E, S', q', L.mono s'⟩
    | false => exact ⟨F', G', δ, E, S', q', L.mono s'⟩⟩
/-- targets -/
abbrev TGD := D → SD → Gm → (SD → Gm → Prop) → Prop
abbrev TGsD := List D → SD → Gm → (SD → Gm → Prop) → Prop
def upG (K : PySem.W.Frag) (B : Bs) (T : TGD) : TG := fun v σ H Q => ∃ F G δ d Qd, Sit K B σ H F δ G ∧ Rep K F v d ∧ T d δ G Qd ∧ ∀ σ' H', BehS K B F Qd σ' H' → Q σ' H'
def upGs (K : PySem.W.Frag) (B : Bs) (T : TGsD) : TGs := fun vs σ H Q => ∃ F G δ ds Qd, Sit K B σ H F δ G ∧ RepAll K F vs ds ∧ T ds δ G Qd ∧ ∀ σ' H', BehS K B F Qd σ' H' → Q σ' H'
def DG (X : Cx) (B : Bs) (tg : Expr) (T : TGD) : Prop := PG X tg (upG X.K B T)
def DGs (X : Cx) (B : Bs) (ts : List Expr) (T : TGsD) : Prop := PGs X ts (upGs X.K B T)
theorem PG.weak {e : Expr} {t t' : TG} (h : PG X e t) (w : ∀ v σ H Q, t' v σ H Q → t v σ H Q) : PG X e t' := ⟨fun pins s σ H v u Q I r q => h.run pins s σ H v u Q I r (w _ _ _ _ q)⟩
theorem PGs.weak {e : List Expr} {t t' : TGs} (h : PGs X e t) (w : ∀ v σ H Q, t' v σ H Q → t v σ H Q) : PGs X e t' := ⟨fun pins s σ H v u Q I r q => h.run pins s σ H v u Q I r (w _ _ _ _ q)⟩
def gNameD (i : Nat) : TGD := fun d δ G Q => Q (δ.set i (some d)) G
theorem Sit.set {σ : L2.St} {H F : Hp} {δ : SD} {G : Gm} {v : V} {d : D} (S : Sit K B σ H F δ G) (i : Nat) (r : Rep K F v d) : Sit K B (σ.set i (some v)) H F (δ.set i (some d)) G := ⟨S.ds, S.gr, S.sl.set i r⟩
theorem dg_name {i : Nat} {x : Str} (hN : X.N.Nodup) (hi : X.N[i]? = some x) (hx : Loc X.env.scope x) (hf : X.fn x = true ∨ X.env.scope.names.lookup x = some .local := by first | exact .inl rfl | exact .inr rfl | assumption) : DG X B (.Name x pos) (gNameD i) :=
  PG.weak (pg_name hN hi hx hf) fun v σ H Q ⟨F, G, δ, d, Qd, S, r, h, k⟩ => k _ _ ⟨F, G, _, .refl F, S.set i r, h⟩
def gNilD : TGsD := fun ds δ G Q => match ds with | [] => Q δ G | _ => False
def gConsD (t : TGD) (u : TGsD) : TGsD := fun ds δ G Q => match ds with | d :: r => t d δ G fun δ1 G1 => u r δ1 G1 Q | [] => False
theorem dgs_nil : DGs X B [] gNilD := PGs.weak pgs_nil fun vs σ H Q ⟨F, G, δ, ds, Qd, S, r, h, k⟩ => by
  cases r with
  | nil => exact ⟨rfl, k _ _ ⟨F, G, _, .refl F, S, h⟩⟩
  | cons _ _ => exact h.elim
theorem dgs_cons {e : Expr} {es : List Expr} {t : TGD} {u : TGsD} (h1 : DG X B e t) (h2 : DGs X B es u)
    (hs : (assignEach (e :: es) X.env).map (·.2) = assign e X.env :: (assignEach es X.env).map (·.2) := by rfl) : DGs X B (e :: es) (gConsD t u) :=
  PGs.weak (pgs_cons h1 h2 hs) fun vs σ H Q ⟨F, G, δ, ds, Qd, S, r, h, k⟩ => by
    cases r with
    | nil => exact h.elim
    | cons r1 rr => exact ⟨_, _, rfl, F, G, δ, _, _, S, r1, h, fun σ' H' ⟨F', G', δ', s', S', q'⟩ => ⟨F', G', δ', _, Qd, S', rr.mono s', q', fun σ2 H2 q2 => k σ2 H2 (q2.mono s')⟩⟩
def gTupD (n : Nat) (t : TGsD) : TGD := fun d δ G Q => match d with | .tup ds => ds.length = n ∧ t ds δ G Q | _ => False
theorem dg_tup {es : List Expr} {k : Nat} {t : TGsD} {n : Nat} (hc : X.calm = true) (h : DGs X B es t)
    (hn : (assignEach es X.env).length = n := by rfl) (hst : (assignEach es X.env).findIdx? (·.1) = none := by rfl) : DG X B (.Tuple es k pos) (gTupD n t) :=
  PG.weak (pg_tup hc h hn hst) fun v σ H Q ⟨F, G, δ, d, Qd, S, r, h, k⟩ => by
    cases d with
    | tup ds =>
      cases r with
      | tup hq ra => exact ⟨_, _, rfl, SqT.of (S.ds.sub _ _ hq), ra.length.trans h.1, F, G, δ, ds, Qd, S, ra, h.2, k⟩
    | _ => exact h.elim
def dAsg (te : TED) (g : TGD) : TSD := fun E δ G => te δ G fun d G1 => g d δ G1 E.nx
theorem ds_asg {tg e : Expr} {te : TED} {g : TGD} (he : DE X B e te) (hg : DG X B tg g) (hs : swapsWithSole [tg] e pos.line X.env = pure false := by rfl) (hw : swappedStores [tg] e X.env = pure none := by rfl)
    (h1 : (assignEach [tg] X.env).map (·.2) = [assign tg X.env] := by rfl) : DSt X B (.Assign [tg] e pos) (dAsg te g) :=
  PS.weak (ps_asg he hg hs hw h1) fun D σ H ⟨F, G, δ, E, S, h, L⟩ => ⟨F, G, δ, _, S, h, fun v H' ⟨F', G', d, s', S', r', q'⟩ => ⟨F', G', δ, d, E.nx, S', r', q', fun σ2 H2 q2 => L.nx σ2 H2 (q2.mono s')⟩⟩
end
end JP

namespace JP
open PySem PySem.Spec PyProof.Rows L2
section
variable {X : Cx} {B : Bs} {K : PySem.W.Frag} {e : Expr} {te : TED} {pos : Pos}
/-! ### names stored, changed in place; while -/
theorem ds_set {i : Nat} {x : Str} {pos' : Pos} (hN : X.N.Nodup) (hi : X.N[i]? = some x) (hx : Loc X.env.scope x) (he : DE X B e te) (hs : swapsWith e (some (.Name x pos')) pos.line X.env = pure false := by rfl) (hf : X.fn x = true ∨ X.env.scope.names.lookup x = some .local := by first | exact .inl rfl | exact .inr rfl | assumption) :
    DSt X B (.Assign [.Name x pos'] e pos) (dAsg te (gNameD i)) :=
  PS.weak (ps_set hN hi hx he hs hf) fun D σ H ⟨F, G, δ, E, S, h, L⟩ => ⟨F, G, δ, _, S, h, fun v H' ⟨F', G', d, s', S', r', q'⟩ => L.nx _ _ ⟨F', G', _, s', S'.set i r', q'⟩⟩
def dPar (i j : Nat) (ta : TAD) : TSD := fun E δ G => ta δ G fun ds G1 => match ds with | [d, e] => E.nx ((δ.set i (some d)).set j (some e)) G1 | _ => False
theorem ds_par {i j : Nat} {x y : Str} {a b : Expr} {ta : TAD} {px py pt : Pos} {kt k2 pt2} (hc : X.calm = true) (hN : X.N.Nodup) (hi : X.N[i]? = some x) (hj : X.N[j]? = some y) (hij : i ≠ j)
    (hx : X.env.scope.names.lookup x = some .local) (hy : X.env.scope.names.lookup y = some .local) (ha : DA X B [a, b] ta)
    (hw : swappedStores [.Tuple [.Name x px, .Name y py] kt pt] (.Tuple [a, b] k2 pt2) X.env = pure (some [x, y]))
    (hs : swapsWithSole [.Tuple [.Name x px, .Name y py] kt pt] (.Tuple [a, b] k2 pt2) pos.line X.env = pure false := by rfl) :
    DSt X B (.Assign [.Tuple [.Name x px, .Name y py] kt pt] (.Tuple [a, b] k2 pt2) pos) (dPar i j ta) :=
  PS.weak (ps_par hc hN hi hj hij hx hy ha hw hs) fun D σ H ⟨F, G, δ, E, S, h, L⟩ => ⟨F, G, δ, _, S, h, fun vs H' ⟨F', G', ds, s', S', r', q'⟩ => by
    match ds, r', q' with
    | [d, e], .cons r1 (.cons r2 .nil), q' => exact ⟨_, _, rfl, L.nx _ _ ⟨F', G', _, s', (S'.set i r1).set j r2, q'⟩⟩⟩
/-- a op= b by trees -/
def IpA (K : PySem.W.Frag) (rv : TIp) (r : R2D) : Prop := ∀ (B : Bs) (σ : L2.St) (δ : SD) (H F : Hp) (G : Gm) (x y : V) (a b : D) (Qd : QD) (Q : VK), Sit K B σ H F δ G → Rep K F x a → Rep K F y b → r a b G Qd → (∀ v H', Beh K B σ F δ Qd v H' → Q v H') → rv x y H Q
def dAug (i : Nat) (te : TED) (r : R2D) : TSD := fun E δ G => match δ[i]? with | some (some a) => te δ G fun b G1 => r a b G1 fun d G2 => E.nx (δ.set i (some d)) G2 | _ => False
theorem ds_aug {i : Nat} {x : Str} {op : Operator} {ti : TIp} {r : R2D} {pos' : Pos} (hN : X.N.Nodup) (hi : X.N[i]? = some x) (hx : Loc X.env.scope x) (he : DE X B e te) (ho : PIp X op ti) (hA : IpA X.K ti r) (hf : X.fn x = true ∨ X.env.scope.names.lookup x = some .local := by first | exact .inl rfl | exact .inr rfl | assumption) :
    DSt X B (.AugAssign (.Name x pos') op e pos) (dAug i te r) :=
  PS.weak (ps_aug hN hi hx he ho hf) fun D σ H ⟨F, G, δ, E, S, h, L⟩ => by
    unfold dAug at h
    split at h
    · rename_i a e
      obtain ⟨v, e', ra⟩ := S.sl.get i a e
      exact ⟨v, e', F, G, δ, _, S, h, fun y H1 ⟨F1, G1, b, s1, S1, r1, h1⟩ => hA B σ δ H1 F1 G1 v y a b _ _ S1 (ra.mono s1) r1 h1 fun z H2 ⟨F2, G2, d, s2, S2, r2, h2⟩ => L.nx _ _ ⟨F2, G2, _, s1.trans s2, S2.set i r2, h2⟩⟩
    · exact h.elim
/-- while: turn by turn, at most so many -/
def whD (c : TTD) (tb : TSD) (E : EndsD) : Nat → SD → Gm → Prop
  | 0, _, _ => False
  | n + 1, δ, G => c δ G fun b G1 => match b with | true => tb { nx := whD c tb E n, rt := E.rt, bk := E.nx, ct := whD c tb E n } δ G1 | false => E.nx δ G1
def dWhile (c : TTD) (tb : TSD) : TSD := fun E δ G => ∃ n, whD c tb E n δ G
theorem ds_while {c : Expr} {body : List Stmt} {tc : TTD} {tb : TSD} (hp : PassesOwn (model X.prog X.w) X.A X.env X.xe) (hc : DT X B c tc) (hb : DB X B body tb) : DSt X B (.While c body [] pos) (dWhile tc tb) :=
  PS.weak (ps_while hp hc hb) fun D σ H ⟨F, G, δ, E, S, ⟨n, h⟩, L⟩ => by
    refine ⟨fun m σ' H' => ∃ F' G' δ', Same F F' ∧ Sit X.K B σ' H' F' δ' G' ∧ whD tc tb E m δ' G', ⟨n, F, G, δ, .refl F, S, h⟩, ?_⟩
    rintro m σ1 H1 ⟨F1, G1, δ1, s1, S1, h1⟩
    cases m with
    | zero => exact h1.elim
    | succ m =>
      refine ⟨F1, G1, δ1, _, S1, h1, fun b H2 ⟨F2, G2, s2, S2, h2⟩ => ?_⟩
      cases b with
      | true => exact ⟨fun σ' H' => ∃ F' G' δ', Same F F' ∧ Sit X.K B σ' H' F' δ' G' ∧ whD tc tb E m δ' G', fun σ' H' q => ⟨m, Nat.lt_succ_self m, q⟩, F2, G2, δ1, _, S2, h2,
          ⟨fun σ' H' ⟨F', G', δ', s', S', q⟩ => ⟨F', G', δ', (s1.trans s2).trans s', S', q⟩, fun v H' q => L.rt v H' (q.mono (s1.trans s2)), fun σ' H' q => L.nx σ' H' (BehS.mono (s1.trans s2) q), fun σ' H' ⟨F', G', δ', s', S', q⟩ => ⟨F', G', δ', (s1.trans s2).trans s', S', q⟩⟩⟩
      | false => exact L.nx _ _ ⟨F2, G2, δ1, s1.trans s2, S2, h2⟩

/-! ### what is walked -/
structure ItD (K : PySem.W.Frag) (F : Hp) (J : L2.It) (ds : List D) : Prop where
  go : ∀ i H, i < ds.length → Same F H → J.go i H
  stop : ∀ H, Same F H → J.stop ds.length H
  yld : ∀ i H x H', i < ds.length → Same F H → J.yld i H x H' → ∀ (B : Bs) σ δ G F1, Sit K B σ H F1 δ G → Same F F1 → ∃ F2 d, Same F1 F2 ∧ Sit K B σ H' F2 δ G ∧ ds[i]? = some d ∧ Rep K F2 x d
abbrev TID := SD → Gm → (List D → Gm → Prop) → Prop
def upI (K : PySem.W.Frag) (B : Bs) (T : TID) : TI := fun σ H R => ∃ F G δ Qd, Sit K B σ H F δ G ∧ T δ G Qd ∧ ∀ J H', (∃ F' G' ds, Same F F' ∧ Sit K B σ H' F' δ G' ∧ ItD K F' J ds ∧ Qd ds G') → R J H'
def DI (X : Cx) (B : Bs) (tg iter : Expr) (T : TID) : Prop := PI X tg iter (upI X.K B T)
theorem PI.weak {tg e : Expr} {t t' : TI} (h : PI X tg e t) (w : ∀ σ H Q, t' σ H Q → t σ H Q) : PI X tg e t' := ⟨fun pins s σ H Q I q => h.run pins s σ H Q I (w _ _ _ q)⟩
theorem itD_list {F : Hp} {a : Addr} {xs : List V} {ds : List D} (h : SqL K F a xs) (r : RepAll K F xs ds) : ItD K F (Itl K a) ds :=
  ⟨fun i H hi s => by
    have l := r.length
    exact ⟨xs, xs[i]'(by omega), same_seqL' s h, by simp [show i < xs.length by omega]⟩, fun H s => ⟨xs, same_seqL' s h, by rw [r.length]; exact Nat.le_refl _⟩, fun i H x H' hi s y B σ δ G F1 S s1 => by
    obtain ⟨rfl, y⟩ := y
    obtain ⟨d, hd, rd⟩ := r.get' (y xs (same_seqL' s h))
    exact ⟨F1, d, .refl F1, S, hd, rd.mono s1⟩⟩
theorem itD_tup {F : Hp} {a : Addr} {xs : List V} {ds : List D} (h : SqT K F a xs) (r : RepAll K F xs ds) : ItD K F (Itt K a) ds :=
  ⟨fun i H hi s => by
    have l := r.length
    exact ⟨xs, xs[i]'(by omega), same_seqT s h, by simp [show i < xs.length by omega]⟩, fun H s => ⟨xs, same_seqT s h, by rw [r.length]; exact Nat.le_refl _⟩, fun i H x H' hi s y B σ δ G F1 S s1 => by
    obtain ⟨rfl, y⟩ := y
    obtain ⟨d, hd, rd⟩ := r.get' (y xs (same_seqT s h))
    exact ⟨F1, d, .refl F1, S, hd, rd.mono s1⟩⟩
def iListD (te : TED) : TID := fun δ G R => te δ G fun d G1 => match d with | .lst ds => R ds G1 | _ => False
def iTupD (te : TED) : TID := fun δ G R => te δ G fun d G1 => match d with | .tup ds => R ds G1 | _ => False
theorem di_list {tg : Expr} (h : DE X B e te) : DI X B tg e (iListD te) :=
  PI.weak (pi_list h) fun σ H R ⟨F, G, δ, Qd, S, h, k⟩ => ⟨F, G, δ, _, S, h, fun v H1 ⟨F1, G1, d, s1, S1, r1, h1⟩ => by
    cases d with
    | lst ds =>
      cases r1 with
      | lst hq ra => exact ⟨_, rfl, ⟨_, SqL.of (S1.ds.sub _ _ hq)⟩, k _ _ ⟨F1, G1, ds, s1, S1, itD_list (.of hq) ra, h1⟩⟩
    | _ => exact h1.elim⟩
theorem di_tup {tg : Expr} (h : DE X B e te) : DI X B tg e (iTupD te) :=
  PI.weak (pi_tup h) fun σ H R ⟨F, G, δ, Qd, S, h, k⟩ => ⟨F, G, δ, _, S, h, fun v H1 ⟨F1, G1, d, s1, S1, r1, h1⟩ => by
    cases d with
    | tup ds =>
      cases r1 with
      | tup hq ra => exact ⟨_, rfl, ⟨_, SqT.of (S1.ds.sub _ _ hq)⟩, k _ _ ⟨F1, G1, ds, s1, S1, itD_tup (.of hq) ra, h1⟩⟩
    | _ => exact h1.elim⟩
/-- a name that holds a list or a tuple -/
def iAnyD (i : Nat) : TID := fun δ G R => match δ[i]? with | some (some (.lst ds)) => R ds G | some (some (.tup ds)) => R ds G | _ => False
theorem di_anyV {tg l : Expr} {i : Nat} (hl : PE X l (tVar i)) : DI X B tg l (iAnyD i) :=
  PI.weak (pi_anyV hl) fun σ H R ⟨F, G, δ, Qd, S, h, k⟩ => by
    unfold iAnyD at h
    split at h
    · rename_i ds e
      obtain ⟨v, e', r⟩ := S.sl.get i _ e
      cases r with
      | lst hq ra => exact ⟨_, e', .inl ⟨⟨_, SqL.of (S.ds.sub _ _ hq)⟩, k _ _ ⟨F, G, ds, .refl F, S, itD_list (.of hq) ra, h⟩⟩⟩
    · rename_i ds e
      obtain ⟨v, e', r⟩ := S.sl.get i _ e
      cases r with
      | tup hq ra => exact ⟨_, e', .inr ⟨⟨_, SqT.of (S.ds.sub _ _ hq)⟩, k _ _ ⟨F, G, ds, .refl F, S, itD_tup (.of hq) ra, h⟩⟩⟩
    · exact h.elim
def rangeD (lo : Int) (n : Nat) : List D := (List.range n).map fun (i : Nat) => .int (lo + i)
theorem itD_range {F : Hp} (lo : Int) (n : Nat) : ItD K F (Itr lo n) (rangeD lo n) := by
  have l : (rangeD lo n).length = n := by simp [rangeD]
  refine ⟨fun i H hi _ => by rw [l] at hi; exact hi, fun H _ => by rw [l]; exact Nat.le_refl n, fun i H x H' hi s y B σ δ G F1 S s1 => ?_⟩
  obtain ⟨rfl, rfl⟩ := y
  rw [l] at hi
  exact ⟨F1, .int (lo + i), .refl F1, S, by simp [rangeD, hi], .int _⟩
def iRange1D (ta : TAD) : TID := fun δ G R => ta δ G fun ds G1 => match ds with | [.int j] => (-(2 ^ 62) ≤ j ∧ j < 2 ^ 62) ∧ R (rangeD 0 j.toNat) G1 | _ => False
def iRange2D (ta : TAD) : TID := fun δ G R => ta δ G fun ds G1 => match ds with | [.int i, .int j] => (-(2 ^ 62) ≤ i ∧ i < 2 ^ 62 ∧ -(2 ^ 62) ≤ j ∧ j < 2 ^ 62) ∧ R (rangeD i (j - i).toNat) G1 | _ => False
theorem di_range1 {tg a : Expr} {ta : TAD} {p pos : Pos} (hg : Gl X "range") (hm : X.mg "range" = none) (ha : DA X B [a] ta) (hs : starEach [a] X.env = [(false, eval a X.env)] := by rfl) : DI X B tg (.Call (.Name "range" p) [a] [] pos) (iRange1D ta) :=
  PI.weak (pi_range1 hg hm ha hs) fun σ H R ⟨F, G, δ, Qd, S, h, k⟩ => ⟨F, G, δ, _, S, h, fun vs H1 ⟨F1, G1, ds, s1, S1, r1, h1⟩ => by
    match ds, r1, h1 with
    | [.int j], .cons r .nil, h1 =>
      cases r
      exact ⟨j, rfl, h1.1.1, h1.1.2, k _ _ ⟨F1, G1, _, s1, S1, itD_range 0 _, h1.2⟩⟩⟩
theorem di_range2 {tg a b : Expr} {ta : TAD} {p pos : Pos} (hg : Gl X "range") (hm : X.mg "range" = none) (ha : DA X B [a, b] ta) (hs : starEach [a, b] X.env = [(false, eval a X.env), (false, eval b X.env)] := by rfl) (hs2 : starEach [b] X.env = [(false, eval b X.env)] := by rfl) : DI X B tg (.Call (.Name "range" p) [a, b] [] pos) (iRange2D ta) :=
  PI.weak (pi_range2 hg hm ha hs hs2) fun σ H R ⟨F, G, δ, Qd, S, h, k⟩ => ⟨F, G, δ, _, S, h, fun vs H1 ⟨F1, G1, ds, s1, S1, r1, h1⟩ => by
    match ds, r1, h1 with
    | [.int i, .int j], .cons r (.cons r2 .nil), h1 =>
      cases r
      cases r2
      exact ⟨i, j, rfl, h1.1, k _ _ ⟨F1, G1, _, s1, S1, itD_range i _, h1.2⟩⟩⟩

/-! ### for -/
def forD (g : TGD) (tb : TSD) (E : EndsD) : List D → SD → Gm → Prop
  | [] => fun δ G => E.nx δ G
  | d :: ds => fun δ G => g d δ G fun δ1 G1 => tb { nx := forD g tb E ds, rt := E.rt, bk := E.nx, ct := forD g tb E ds } δ1 G1
def dFor (ti : TID) (g : TGD) (tb : TSD) : TSD := fun E δ G => ti δ G fun ds G1 => forD g tb E ds δ G1
theorem drop_get {α : Type} {ds : List α} {i : Nat} {d : α} (h : ds[i]? = some d) : ds.drop i = d :: ds.drop (i + 1) := by
  have hi : i < ds.length := (List.getElem?_eq_some_iff.mp h).1
  rw [List.drop_eq_getElem_cons hi]
  rw [List.getElem?_eq_getElem hi] at h
  cases h
  rfl
theorem ds_for {tg iter : Expr} {body : List Stmt} {ti : TID} {g : TGD} {tb : TSD} (hp : PassesOwn (model X.prog X.w) X.A X.env X.xe) (hc : X.calm = true) (hi : DI X B tg iter ti) (hg : DG X B tg g) (hb : DB X B body tb)
    (hs : ∀ x, foldedSetIterable iter X.env x = pure x := by intro _; rfl) : DSt X B (.For tg iter body [] pos) (dFor ti g tb) :=
  PS.weak (ps_for hp hc hi hg hb hs) fun D σ H ⟨F, G, δ, E, S, h, L⟩ => ⟨F, G, δ, _, S, h, fun J H1 ⟨F1, G1, ds, s1, S1, it, h1⟩ => by
    refine ⟨fun i m σ' H' => m = ds.length - i ∧ i ≤ ds.length ∧ ∃ F' G' δ', Same F1 F' ∧ Sit X.K B σ' H' F' δ' G' ∧ forD g tb E (ds.drop i) δ' G', ⟨ds.length, by simp, Nat.zero_le _, F1, G1, δ, .refl F1, S1, h1⟩, ?_⟩
    rintro i m σ2 H2 ⟨rfl, hi, F2, G2, δ2, s2, S2, h2⟩
    have sh : Same F1 H2 := s2.trans S2.ds.sub
    rcases Nat.lt_or_ge i ds.length with hlt | hge
    · refine .inr ⟨it.go i H2 hlt sh, fun σ' H' => ∃ F' G' δ', Same F1 F' ∧ Sit X.K B σ' H' F' δ' G' ∧ forD g tb E (ds.drop (i + 1)) δ' G', fun σ' H' q => ⟨ds.length - (i + 1), by omega, rfl, hlt, q⟩, fun x H3 y => ?_⟩
      obtain ⟨F3, d, s3, S3, hd, rd⟩ := it.yld i H2 x H3 hlt sh y B σ2 δ2 G2 F2 S2 s2
      rw [drop_get hd] at h2
      refine ⟨F3, G2, δ2, d, _, S3, rd, h2, fun σ4 H4 ⟨F4, G4, δ4, s4, S4, h4⟩ => ⟨F4, G4, δ4, _, S4, h4, ?_⟩⟩
      have st : Same F1 F4 := (s2.trans s3).trans s4
      exact ⟨fun σ' H' ⟨F', G', δ', s', S', q⟩ => ⟨F', G', δ', st.trans s', S', q⟩, fun v H' q => L.rt v H' (q.mono (s1.trans st)), fun σ' H' q => L.nx σ' H' (BehS.mono (s1.trans st) q), fun σ' H' ⟨F', G', δ', s', S', q⟩ => ⟨F', G', δ', st.trans s', S', q⟩⟩
    · have e : i = ds.length := by omega
      subst e
      rw [List.drop_length] at h2
      exact .inl ⟨it.stop H2 sh, L.nx _ _ ⟨F2, G2, δ2, s1.trans s2, S2, h2⟩⟩⟩

/-! ### list comprehensions -/
def wipeD (δ : SD) : List Nat → SD
  | [] => δ
  | v :: vs => (wipeD δ vs).set v none
theorem Sl.wipe {F : Hp} {σ : L2.St} {δ : SD} (h : Sl K F σ δ) : ∀ vs : List Nat, Sl K F (wipe σ vs) (wipeD δ vs)
  | [] => h
  | v :: vs => (Sl.wipe h vs).drop v none
/-- a target within a comprehension -/
def CG (K : PySem.W.Frag) (vs : List Nat) (g : TG) (gD : TGD) : Prop := ∀ (B : Bs) (σ : L2.St) (H F : Hp) (δ : SD) (G : Gm) (v : V) (d : D) (Qd : SD → Gm → Prop) (Q : L2.St → Hp → Prop), Sit K B σ H F δ G → Rep K F v d → gD d δ G Qd →
  (∀ σ' δ', wipe σ' vs = wipe σ vs → Sit K B σ' H F δ' G → Qd δ' G → Q σ' H) → g v σ H Q
def CGs (K : PySem.W.Frag) (vs : List Nat) (g : TGs) (gD : TGsD) : Prop := ∀ (B : Bs) (σ : L2.St) (H F : Hp) (δ : SD) (G : Gm) (us : List V) (ds : List D) (Qd : SD → Gm → Prop) (Q : L2.St → Hp → Prop), Sit K B σ H F δ G → RepAll K F us ds → gD ds δ G Qd →
  (∀ σ' δ', wipe σ' vs = wipe σ vs → Sit K B σ' H F δ' G → Qd δ' G → Q σ' H) → g us σ H Q
theorem set_swap {α : Type} (xs : List α) (i j : Nat) (a b : α) (h : i ≠ j) : (xs.set i a).set j b = (xs.set j b).set i a := List.set_comm a b h
theorem wipe_set {i : Nat} {o : Option V} : ∀ {vs : List Nat} {σ : L2.St}, i ∈ vs → wipe (σ.set i o) vs = wipe σ vs
  | [], _, h => by simp at h
  | v :: vs, σ, h => by
    by_cases c : i ∈ vs
    · show (wipe (σ.set i o) vs).set v none = (wipe σ vs).set v none
      rw [wipe_set c]
    · have e : i = v := by
        rcases List.mem_cons.mp h with h | h
        · exact h
        · exact absurd h c
      subst e
      have : ∀ {us : List Nat}, i ∉ us → wipe (σ.set i o) us = (wipe σ us).set i o := by
        intro us
        induction us with
        | nil => intro _; rfl
        | cons u us ih =>
          intro hu
          have h1 : i ≠ u := fun z => hu (z ▸ List.mem_cons_self)
          have h2 : i ∉ us := fun z => hu (List.mem_cons_of_mem _ z)
          show (wipe (σ.set i o) us).set u none = ((wipe σ us).set u none).set i o
          rw [ih h2, List.set_comm _ _ h1]
      show (wipe (σ.set i o) vs).set i none = (wipe σ vs).set i none
      rw [this c, List.set_set]
theorem cg_name {vs : List Nat} {i : Nat} (h : i ∈ vs) : CG K vs (gName i) (gNameD i) := fun B σ H F δ G v d Qd Q S r q k => k _ _ (wipe_set h) (S.set i r) q
theorem cg_nil {vs : List Nat} : CGs K vs gNil gNilD := fun B σ H F δ G us ds Qd Q S r q k => by
  cases r with
  | nil => exact ⟨rfl, k _ _ rfl S q⟩
  | cons _ _ => exact q.elim
theorem cg_cons {vs : List Nat} {g : TG} {gD : TGD} {u : TGs} {uD : TGsD} (h1 : CG K vs g gD) (h2 : CGs K vs u uD) : CGs K vs (gCons g u) (gConsD gD uD) := fun B σ H F δ G us ds Qd Q S r q k => by
  cases r with
  | nil => exact q.elim
  | cons r rr => exact ⟨_, _, rfl, h1 B σ H F δ G _ _ _ _ S r q fun σ1 δ1 e1 S1 q1 => h2 B σ1 H F δ1 G _ _ _ _ S1 rr q1 fun σ2 δ2 e2 S2 q2 => k σ2 δ2 (e2.trans e1) S2 q2⟩
theorem cg_tup {vs : List Nat} {n : Nat} {u : TGs} {uD : TGsD} (h : CGs K vs u uD) : CG K vs (gTup K n u) (gTupD n uD) := fun B σ H F δ G v d Qd Q S r q k => by
  cases d with
  | tup ds =>
    cases r with
    | tup hq ra => exact ⟨_, _, rfl, SqT.of (S.ds.sub _ _ hq), ra.length.trans q.1, h B σ H F δ G _ _ _ _ S ra q.2 k⟩
  | _ => exact q.elim
def lcD (g : TGD) (tt : TTD) (te : TED) (Fin : List D → Gm → Prop) (δ : SD) : List D → List D → Gm → Prop
  | [], acc, G => Fin acc G
  | d :: ds, acc, G => g d δ G fun δ1 G1 => tt δ1 G1 fun b G2 => match b with | true => te δ1 G2 fun y G3 => lcD g tt te Fin δ ds (acc ++ [y]) G3 | false => lcD g tt te Fin δ ds acc G2
/-- one more, all of it within what a list holds -/
def dLcF (ti : TID) (g : TGD) (tt : TTD) (te : TED) (vs : List Nat) (Fin : QD → List D → Gm → Prop) : TED := fun δ G Q => ti δ G fun ds G1 => ds.length < sizeLine ∧ lcD g tt te (Fin Q) (wipeD δ vs) ds [] G1
abbrev finL : QD → List D → Gm → Prop := fun Q acc G => Q (.lst acc) G
abbrev finM : QD → List D → Gm → Prop := fun Q acc G => ∀ p, G p = none → Q (.adr p) (updG G p (.lst acc))
def dLc (ti : TID) (g : TGD) (tt : TTD) (te : TED) (vs : List Nat) : TED := dLcF ti g tt te vs finL
def dLcM (ti : TID) (g : TGD) (tt : TTD) (te : TED) (vs : List Nat) : TED := dLcF ti g tt te vs finM
/-- what is made of the list in the end -/
def FinA (K : PySem.W.Frag) (Fin : QD → List D → Gm → Prop) : Prop := ∀ (B : Bs) (σ : L2.St) (δ : SD) (F F3 H3 : Hp) (G3 : Gm) (acc : List D) (av : List V) (D : Addr) (Qd : QD), Same F F3 → Sit K B σ H3 F3 δ G3 → H3 D = some (.lst av) → F3 D = none → G3 D = none → B.Z D = none → RepAll K F3 av acc → Fin Qd acc G3 → Beh K B σ F δ Qd (.ref D) H3
theorem finA_l : FinA K finL := fun B σ δ F F3 H3 G3 acc av D Qd s S h f g z ra q => by
  obtain ⟨d3, s3⟩ := S.ds.frz h g z
  exact ⟨_, G3, .lst acc, s.trans s3, ⟨d3, S.gr.trans s3, S.sl.mono s3⟩, .lst upd_same (ra.mono s3), q⟩
theorem finA_m : FinA K finM := fun B σ δ F F3 H3 G3 acc av D Qd s S h f g z ra q => by
  refine ⟨F3, updG G3 D (.lst acc), .adr D, s, ⟨⟨S.ds.sub, fun b m e => ?_, S.ds.zub, fun b u e => ?_, S.ds.ft, S.ds.tab⟩, S.gr, S.sl⟩, .adr D, q D g⟩
  · by_cases c : b = D
    · subst c
      rw [updG_same] at e
      cases e
      exact ⟨f, av, h, ra⟩
    · rw [updG_ne c] at e
      exact S.ds.mu b m e
  · have c : b ≠ D := fun c => by rw [c, z] at e; cases e
    exact ⟨(S.ds.zf b u e).1, (updG_ne c).trans (S.ds.zf b u e).2.1, (S.ds.zf b u e).2.2⟩
def dYes : TTD := fun _ G Q => Q true G
def DTs (X : Cx) (B : Bs) (ifs : List Expr) (T : TTD) : Prop := PTs X ifs (upT X.K B T)
theorem dts_nil : DTs X B [] dYes := ⟨fun pins s σ H Q I h => pts_nil.run pins s σ H Q I (let ⟨F, G, δ, Qd, S, h, k⟩ := h; k true H ⟨F, G, .refl F, S, h⟩)⟩
theorem dts_one {c : Expr} {t : TTD} (h : DT X B c t) : DTs X B [c] t := pts_one h
def upU (K : PySem.W.Frag) (T : TED) : TE := fun σ H Q => ∃ B, up K B T σ H Q
def upTU (K : PySem.W.Frag) (T : TTD) : TT := fun σ H Q => ∃ B, upT K B T σ H Q
/-- what a comprehension's reading comes to -/
theorem lc_adeq {ti : TID} {gV : TG} {g : TGD} {tt : TTD} {te : TED} {vs : List Nat} {Fin : QD → List D → Gm → Prop} (fin : FinA K Fin) (hg : CG K vs gV g) (σ : L2.St) (H : Hp) (Q : VK) (h : up K B (dLcF ti g tt te vs Fin) σ H Q) : tLc (upI K B ti) gV (upTU K tt) (upU K te) vs σ H Q := by
  obtain ⟨F, G, δ, Qd, S, h, k⟩ := h
  refine ⟨F, G, δ, _, S, h, fun J H1 ⟨F1, G1, ds, s1, S1, it, hz, h1⟩ D nD => ?_⟩
  have fD : F1 D = none := S1.ds.noF nD
  have zD : B.Z D = none := S1.ds.noZ nD
  refine ⟨fun i m H' => m = ds.length - i ∧ i ≤ ds.length ∧ ∃ F' G' acc av, Same F1 F' ∧ F' D = none ∧ G' D = none ∧ H' D = some (.lst av) ∧ RepAll K F' av acc ∧ acc.length ≤ i ∧ Sit K B σ H' F' δ G' ∧ lcD g tt te (Fin Qd) (wipeD δ vs) (ds.drop i) acc G',
    ⟨ds.length, by simp, Nat.zero_le _, F1, G1, [], [], .refl F1, fD, S1.ds.noG nD, upd_same, .nil, Nat.le_refl _, S1.same (same_new nD), h1⟩, ?_⟩
  rintro i m H2 ⟨rfl, hi, F2, G2, acc, av, s2, f2, g2, h2D, ra, la, S2, h2⟩
  have sh : Same F1 H2 := s2.trans S2.ds.sub
  rcases Nat.lt_or_ge i ds.length with hlt | hge
  · refine .inr ⟨it.go i H2 hlt sh, fun H' => ∃ F' G' acc av, Same F1 F' ∧ F' D = none ∧ G' D = none ∧ H' D = some (.lst av) ∧ RepAll K F' av acc ∧ acc.length ≤ i + 1 ∧ Sit K B σ H' F' δ G' ∧ lcD g tt te (Fin Qd) (wipeD δ vs) (ds.drop (i + 1)) acc G', fun H' q => ⟨ds.length - (i + 1), by omega, rfl, hlt, q⟩, fun x H3 y => ?_⟩
    -- the new list stays through the turn
    obtain ⟨F3, d, s3, S3, hd, rd⟩ := it.yld i H2 x H3 hlt sh y ⟨F1, upd B.Z D (.lst av), B.T⟩ σ δ G2 F2 ⟨S2.ds.zadd h2D f2 g2 trivial, s2, S2.sl⟩ s2
    rw [drop_get hd] at h2
    have Sw : Sit K ⟨F1, upd B.Z D (.lst av), B.T⟩ (wipe σ vs) H3 F3 (wipeD δ vs) G2 := ⟨S3.ds, S3.gr, S3.sl.wipe vs⟩
    refine hg _ _ _ _ _ _ _ _ _ _ Sw rd h2 fun σ4 δ4 e4 S4 h4 => ⟨?_, ⟨F1, upd B.Z D (.lst av), B.T⟩, F3, G2, δ4, _, S4, h4, fun b H5 ⟨F5, G5, s5, S5, h5⟩ => ?_⟩
    · have ww : ∀ (us : List Nat) (σ : L2.St), (∀ u ∈ us, u ∈ vs) → wipe (wipe σ us) vs = wipe σ vs := by
        intro us
        induction us with
        | nil => intro σ _; rfl
        | cons u us ih =>
          intro σ hu
          show wipe ((wipe σ us).set u none) vs = wipe σ vs
          rw [wipe_set (hu u List.mem_cons_self)]
          exact ih σ fun v hv => hu v (List.mem_cons_of_mem _ hv)
      exact e4.trans (ww vs σ fun u hu => hu)
    · cases b with
      | false =>
        obtain ⟨d5, h5D, f5, g5⟩ := S5.ds.zdel zD
        exact ⟨F5, G5, acc, av, (s2.trans s3).trans s5, f5, g5, h5D, ra.mono (s3.trans s5), by omega, ⟨d5, S2.gr.trans (s3.trans s5), S2.sl.mono (s3.trans s5)⟩, h5⟩
      | true =>
        refine ⟨⟨F1, upd B.Z D (.lst av), B.T⟩, F5, G5, δ4, _, S5, h5, fun y H6 ⟨F6, G6, dy, s6, S6, r6, h6⟩ => ?_⟩
        obtain ⟨d6, h6D, f6, g6⟩ := S6.ds.zdel zD
        have st := (s3.trans s5).trans s6
        refine ⟨av, h6D, by rw [ra.length]; omega, F6, G6, acc ++ [dy], av ++ [y], s2.trans st, f6, g6, upd_same, (ra.mono st).append (.cons r6 .nil), by simp; omega, ⟨d6.other h6D f6 g6 zD, S2.gr.trans st, S2.sl.mono st⟩, h6⟩
  · have e : i = ds.length := by omega
    subst e
    rw [List.drop_length] at h2
    exact .inl ⟨it.stop H2 sh, k _ _ (fin B σ δ F F2 H2 G2 acc av D Qd (s1.trans s2) S2 h2D f2 g2 zD ra h2)⟩
section
variable {elt tg iter : Expr} {ifs : List Expr} {scope : Scope} {own : List (Str × Nat)} {ti : TID} {gV : TG} {g : TGD} {tt : TTD} {te : TED}
theorem de_lcF {Fin : QD → List D → Gm → Prop} (fin : FinA X.K Fin) (hc : X.calm = true) (hN : X.N.Nodup) (hi : DI X B tg iter ti) (ok : BlkOk X.N X.env.scope scope own)
    (hcg : CG X.K (own.map (·.2)) gV g)
    (hg : ∀ (s : Shared) (H : Hp) (C : Addr) (cl : List (Str × Addr)) (fp : List Addr), PG (X.blk s H scope (compEnvC scope cl C X.env) fp) tg gV)
    (ht : ∀ (s : Shared) (H : Hp) (C : Addr) (cl : List (Str × Addr)) (fp : List Addr) (B : Bs), DTs (X.blk s H scope (compEnvC scope cl C X.env) fp) B ifs tt)
    (he : ∀ (s : Shared) (H : Hp) (C : Addr) (cl : List (Str × Addr)) (fp : List Addr) (B : Bs), DE (X.blk s H scope (compEnvC scope cl C X.env) fp) B elt te) (hs : ∀ x, foldedSetIterable iter X.env x = pure x := by intro _; rfl) :
    DE X B (.ListComp elt [⟨tg, iter, ifs, 0⟩] scope pos) (dLcF ti g tt te (own.map (·.2)) Fin) :=
  PE.weak (pe_lc hc hN hi ok hg (fun s H C cl fp => ⟨fun pins s σ H Q I ⟨B, h⟩ => (ht _ _ C cl fp B).run pins s σ H Q I h⟩) (fun s H C cl fp => ⟨fun pins s σ H Q I ⟨B, h⟩ => (he _ _ C cl fp B).run pins s σ H Q I h⟩) hs) fun σ H Q h => lc_adeq fin hcg σ H Q h
theorem ds_setLcF {Fin : QD → List D → Gm → Prop} (fin : FinA X.K Fin) {i : Nat} {y : Str} {py spos : Pos} (hc : X.calm = true) (hN : X.N.Nodup) (hy : X.N[i]? = some y) (hyl : X.env.scope.names.lookup y = some .local)
    (hsw : swapsWith (.ListComp elt [⟨tg, iter, ifs, 0⟩] scope pos) (some (.Name y py)) spos.line X.env = pure true) (hi : DI X B tg iter ti) (ok : BlkOk X.N X.env.scope scope own)
    (hcg : CG X.K (own.map (·.2)) gV g)
    (hg : ∀ (s : Shared) (H : Hp) (C : Addr) (cl : List (Str × Addr)) (fp : List Addr), PG (X.blk s H scope (compEnvC scope cl C X.env) fp) tg gV)
    (ht : ∀ (s : Shared) (H : Hp) (C : Addr) (cl : List (Str × Addr)) (fp : List Addr) (B : Bs), DTs (X.blk s H scope (compEnvC scope cl C X.env) fp) B ifs tt)
    (he : ∀ (s : Shared) (H : Hp) (C : Addr) (cl : List (Str × Addr)) (fp : List Addr) (B : Bs), DE (X.blk s H scope (compEnvC scope cl C X.env) fp) B elt te) (hs : ∀ x, foldedSetIterable iter X.env x = pure x := by intro _; rfl) :
    DSt X B (.Assign [.Name y py] (.ListComp elt [⟨tg, iter, ifs, 0⟩] scope pos) spos) (dAsg (dLcF ti g tt te (own.map (·.2)) Fin) (gNameD i)) :=
  PS.weak (ps_setLc hc hN hy hyl hsw hi ok hg (fun s H C cl fp => ⟨fun pins s σ H Q I ⟨B, h⟩ => (ht _ _ C cl fp B).run pins s σ H Q I h⟩) (fun s H C cl fp => ⟨fun pins s σ H Q I ⟨B, h⟩ => (he _ _ C cl fp B).run pins s σ H Q I h⟩) hs) fun D σ H ⟨F, G, δ, E, S, h, L⟩ =>
    lc_adeq fin hcg σ H _ ⟨F, G, δ, _, S, h, fun v H' ⟨F', G', d, s', S', r', q'⟩ => L.nx _ _ ⟨F', G', _, s', S'.set i r', q'⟩⟩
end
end
end JP

namespace JP
open PySem PySem.Spec PyProof.Rows L2

/-! ### what a def promises, of trees -/
/-- what is wished of an exception: its class, its fields -/
abbrev WD := Addr → List (Str × D) → Gm → Prop
abbrev WN : WD := fun _ _ _ => False
abbrev SpD := List D → Gm → QD → WD → Prop
def XRep (K : PySem.W.Frag) (F : Hp) (dd : Option Addr) (fs : List (Str × D)) : Prop := (dd = none ∧ fs = []) ∨ ∃ a fv, dd = some a ∧ F a = some (.xd fv) ∧ RepF K F fv fs
def XW (K : PySem.W.Frag) (B : Bs) (W : WD) : XK := fun cls dd H => ∃ F G C fs, cls = .ref C ∧ Same B.F F ∧ DS K B.T F H G B.Z ∧ XRep K F dd fs ∧ W C fs G
def lowSp (K : PySem.W.Frag) (sp : SpD) : Sp := fun vs H Q E => ∃ (B : Bs) (G : Gm) (ds : List D) (Qd : QD) (W : WD), DS K B.T B.F H G B.Z ∧ RepAll K B.F vs ds ∧ sp ds G Qd W ∧ (∀ v H', BehR K B B.F Qd v H' → Q v H') ∧ (∀ cls dd H', XW K B W cls dd H' → E cls dd H')
abbrev FnD (P : Program) (w : World) (K : PySem.W.Frag) (mg : Str → Option Value) (base : Heap) (k : Nat) (f : Addr) (fd : FuncData) (ps : List Str) (sp : SpD) : Prop := FnOk P w K mg base (L2.CX P w) k f fd ps (lowSp K sp)
abbrev GnD (P : Program) (w : World) (K : PySem.W.Frag) (mg : Str → Option Value) (base : Heap) (k : Nat) (f : Addr) (fd : FuncData) (ps : List Str) (sp : SpD) : Prop := GOk P w K mg base k f fd ps (lowSp K sp)
def startD (N : List Str) (ds : List D) : SD := ds.map some ++ List.replicate (N.length - ds.length) none
theorem sl_start {K : PySem.W.Frag} {F : Hp} {N : List Str} {vs : List V} {ds : List D} (r : RepAll K F vs ds) : Sl K F (L2.start N vs) (startD N ds) := by
  have l := r.length
  refine ⟨by simp [L2.start, startD, l], fun i d e => ?_⟩
  unfold startD at e
  unfold L2.start
  rcases Nat.lt_or_ge i ds.length with h | h
  · rw [List.getElem?_append_left (by simpa using h), List.getElem?_map] at e
    obtain ⟨d', e1, e2⟩ := Option.map_eq_some_iff.mp e
    cases e2
    obtain ⟨v, ev, rv⟩ := r.get e1
    exact ⟨v, by rw [List.getElem?_append_left (by simp; omega), List.getElem?_map, ev]; rfl, rv⟩
  · rw [List.getElem?_append_right (by simpa using h)] at e
    rw [List.getElem?_replicate] at e
    split at e <;> cases e
section
variable {P : Program} {w : World} {K : PySem.W.Frag} {mg : Str → Option Value} {base : Heap} {k : Nat} {f : Addr} {fd : FuncData} {ps N : List Str} {sp : SpD}
theorem FnD.arity (F : FnD P w K mg base k f fd ps sp) {ds : List D} {G : Gm} {Q : QD} {W : WD} {B : Bs} {H : Hp} {vs : List V} (d : DS K B.T B.F H G B.Z) (r : RepAll K B.F vs ds) (h : sp ds G Q W) : vs.length = ps.length :=
  F.len vs H (fun _ _ => True) (fun _ _ _ => True) ⟨B, G, ds, Q, W, d, r, h, fun _ _ _ => trivial, fun _ _ _ _ => trivial⟩
/-- a def of the text by its body -/
theorem dfn {x qual : Str} {st : Stmt} (F : Fun K x qual st f fd) (S : FnScope N ps (defScope st)) (len : ∀ ds G Q W, sp ds G Q W → ds.length = ps.length)
    (body : ∀ (cdv : Value) (A : Around) (outer : List Env) (s : Shared) (H : Hp) (E : XK) (B : Bs) (W : WD), Room k (A.deeper (envOfC qual (defScope st) s.heap.objs.size f cdv)) →
      Takes (cxOf (L2.CX P w) P w K mg base N qual (defScope st) f cdv A outer s H E) (fun cls d _ H => XW K B W cls d H) →
      ∃ T, DB (cxOf (L2.CX P w) P w K mg base N qual (defScope st) f cdv A outer s H E) B (defBody st) T ∧ ∀ ds G Q, sp ds G Q W → T { nx := fun _ G => Q .non G, rt := Q } (startD N ds) G) :
    FnD P w K mg base (k + 1) f fd ps sp :=
  F.okX S (fun vs H Q E ⟨B, G, ds, Qd, W, d, r, h, _, _⟩ => r.length.trans (len ds G Qd W h)) fun cdv A outer s H vs Q E hr ⟨B, G, ds, Qd, W, d, r, h, kq, ke⟩ => by
    obtain ⟨T, hT, hq⟩ := body cdv A outer s H E B W hr ((takes_of rfl rfl rfl rfl).imp fun c d _ H q => ke c d H q)
    refine ⟨upS K B T, hT, B.F, G, startD N ds, _, ⟨d, .refl B.F, sl_start r⟩, hq ds G Qd h, ⟨fun σ H' ⟨F', G', δ', s', S', q⟩ => kq _ _ ⟨F', G', .non, s', S'.ds, S'.gr, .non, q⟩, fun v H' q => kq v H' q, fun _ _ ⟨_, _, _, _, _, q⟩ => q.elim, fun _ _ ⟨_, _, _, _, _, q⟩ => q.elim⟩⟩
/-- with defaults -/
theorem dfnD {x qual : Str} {pm : Arguments} {bd : List Stmt} {sc : Scope} {dvs : List V} {kws : List (Str × V)} (F : FunD K x qual pm bd sc dvs kws f fd) (S : FnScope N ps sc) (len : ∀ ds G Q W, sp ds G Q W → ds.length = ps.length)
    (body : ∀ (cdv : Value) (A : Around) (outer : List Env) (s : Shared) (H : Hp) (E : XK) (B : Bs) (W : WD), Room k (A.deeper (envOfC qual sc s.heap.objs.size f cdv)) →
      Takes (cxOf (L2.CX P w) P w K mg base N qual sc f cdv A outer s H E) (fun cls d _ H => XW K B W cls d H) →
      ∃ T, DB (cxOf (L2.CX P w) P w K mg base N qual sc f cdv A outer s H E) B bd T ∧ ∀ ds G Q, sp ds G Q W → T { nx := fun _ G => Q .non G, rt := Q } (startD N ds) G) :
    FnD P w K mg base (k + 1) f fd ps sp :=
  F.ok (CX := L2.CX P w) S (fun vs H Q E ⟨B, G, ds, Qd, W, d, r, h, _, _⟩ => r.length.trans (len ds G Qd W h)) fun cdv A outer s H vs Q E hr ⟨B, G, ds, Qd, W, d, r, h, kq, ke⟩ => by
    obtain ⟨T, hT, hq⟩ := body cdv A outer s H E B W hr ((takes_of rfl rfl rfl rfl).imp fun c d _ H q => ke c d H q)
    refine ⟨upS K B T, hT, B.F, G, startD N ds, _, ⟨d, .refl B.F, sl_start r⟩, hq ds G Qd h, ⟨fun σ H' ⟨F', G', δ', s', S', q⟩ => kq _ _ ⟨F', G', .non, s', S'.ds, S'.gr, .non, q⟩, fun v H' q => kq v H' q, fun _ _ ⟨_, _, _, _, _, q⟩ => q.elim, fun _ _ ⟨_, _, _, _, _, q⟩ => q.elim⟩⟩
/-- a def that is called where no repr goes on, and lets nothing out -/
theorem dfg {x qual : Str} {st : Stmt} (F : Fun K x qual st f fd) (S : FnScope N ps (defScope st)) (len : ∀ ds G Q W, sp ds G Q W → ds.length = ps.length)
    (body : ∀ (cdv : Value) (A : Around) (outer : List Env) (s : Shared) (H : Hp) (E : XK) (B : Bs), A.guards = some [] → Room k (A.deeper (envOfC qual (defScope st) s.heap.objs.size f cdv)) →
      ∃ T, DB (cxOf CX0 P w K mg base N qual (defScope st) f cdv A outer s H E).nox B (defBody st) T ∧ ∀ ds G Q W, sp ds G Q W → T { nx := fun _ G => Q .non G, rt := Q } (startD N ds) G) :
    GnD P w K mg base (k + 1) f fd ps sp :=
  gok F S (fun vs H Q E ⟨B, G, ds, Qd, W, d, r, h, _, _⟩ => r.length.trans (len ds G Qd W h)) fun cdv A outer s H vs Q E g hr ⟨B, G, ds, Qd, W, d, r, h, kq, ke⟩ => by
    obtain ⟨T, hT, hq⟩ := body cdv A outer s H E B g hr
    refine ⟨upS K B T, hT, B.F, G, startD N ds, _, ⟨d, .refl B.F, sl_start r⟩, hq ds G Qd W h, ⟨fun σ H' ⟨F', G', δ', s', S', q⟩ => kq _ _ ⟨F', G', .non, s', S'.ds, S'.gr, .non, q⟩, fun v H' q => kq v H' q, fun _ _ ⟨_, _, _, _, _, q⟩ => q.elim, fun _ _ ⟨_, _, _, _, _, q⟩ => q.elim⟩⟩
end
section
variable {X : Cx} {B : Bs} {K : PySem.W.Frag} {W : WD}
/-- what a callee may let out is taken -/
theorem hx_of (tk : Takes X fun cls d _ H => XW X.K B W cls d H) : Passes (L2.CX X.prog X.w) X (XW X.K B W) := passes_call tk fun _ _ _ _ h => h
theorem hx0 : Passes (L2.CX X.prog X.w) X (XW X.K B WN) := passes_call takesN fun cls d σ H ⟨_, _, _, _, _, _, _, _, h⟩ => h.elim
def dCall (sp : SpD) (W : WD) (t : TAD) : TED := fun δ G Q => t δ G fun ds G1 => sp ds G1 Q W
variable {k : Nat} {f C : Addr} {fd : FuncData} {ps : List Str} {sp : SpD} {x m : Str} {p pos apos : Pos} {e o : Expr} {es : List Expr} {te : TED} {t : TAD} {σ : L2.St} {H F : Hp} {δ : SD} {G : Gm}
/-- into a call: what it wants of trees is had of the heap -/
theorem low_of {Q : VK} {Qd : QD} {vs : List V} {ds : List D} {F1 : Hp} {G1 : Gm} (kk : ∀ v H', Beh K B σ F δ Qd v H' → Q v H') (s1 : Same F F1) (S1 : Sit K B σ H F1 δ G1) (r : RepAll K F1 vs ds) (h : sp ds G1 Qd W) : lowSp K sp vs H Q (XW K B W) :=
  ⟨⟨F1, B.Z, B.T⟩, G1, ds, Qd, W, S1.ds, r, h, fun v H' ⟨F', G', d, s', ds', _, r', q'⟩ => kk v H' ⟨F', G', d, s1.trans s', ⟨ds', S1.gr.trans s', S1.sl.mono s'⟩, r', q'⟩,
    fun cls dd H' ⟨F', G', C, fs, e, s', ds', xr, w⟩ => ⟨F', G', C, fs, e, S1.gr.trans s', ds', xr, w⟩⟩
theorem de_call (Fn : FnD X.prog X.w X.K X.mg X.base k f fd ps sp) (hr : Room k X.A) (hg : Gl X x) (hm : X.mg x = some (.ref f)) (hk : PySem.W.keepIn X.K (.ref f) = true) (hb : Binds X.K fd ps []) (hx : Passes (L2.CX X.prog X.w) X (XW X.K B W))
    (ha : DA X B (e :: es) t) (hdb : (x == ("__debug__" : Str)) = false := by decide) (he : starEach (e :: es) X.env = (false, eval e X.env) :: starEach es X.env := by rfl) (hpl : (backTo pos (starEach es X.env)).any (·.1) = false := by rfl) :
    DE X B (.Call (.Name x p) (e :: es) [] pos) (dCall sp W t) :=
  PE.weak (pe_call Fn hr hg hm hk hb .nil hx ha hdb he hpl) fun σ H Q ⟨F, G, δ, Qd, S, h, kk⟩ => ⟨F, G, δ, _, S, h, fun vs H1 ⟨F1, G1, ds, s1, S1, r1, h1⟩ => by
    show lowSp X.K sp (vs ++ []) H1 Q _
    rw [List.append_nil]
    exact low_of kk s1 S1 r1 h1⟩
theorem de_call0 (Fn : FnD X.prog X.w X.K X.mg X.base k f fd ps sp) (hr : Room k X.A) (hg : Gl X x) (hm : X.mg x = some (.ref f)) (hk : PySem.W.keepIn X.K (.ref f) = true) (hb : Binds X.K fd ps []) (hx : Passes (L2.CX X.prog X.w) X (XW X.K B W))
    (hdb : (x == ("__debug__" : Str)) = false := by decide) : DE X B (.Call (.Name x p) [] [] pos) (dCall sp W dNil) :=
  PE.weak (pe_call0 Fn hr hg hm hk hb .nil hx hdb) fun σ H Q ⟨F, G, δ, Qd, S, h, kk⟩ => low_of (vs := []) kk (.refl F) S .nil h
theorem de_g (Fn : GnD X.prog X.w X.K X.mg X.base k f fd ps sp) (g : X.A.guards = some []) (hr : Room k X.A) (hg : Gl X x) (hm : X.mg x = some (.ref f)) (hk : PySem.W.keepIn X.K (.ref f) = true) (hb : Binds X.K fd ps [])
    (ha : DA X B (e :: es) t) (hdb : (x == ("__debug__" : Str)) = false := by decide) (he : starEach (e :: es) X.env = (false, eval e X.env) :: starEach es X.env := by rfl) (hpl : (backTo pos (starEach es X.env)).any (·.1) = false := by rfl) :
    DE X B (.Call (.Name x p) (e :: es) [] pos) (dCall sp WN t) :=
  PE.weak (pe_g (E := XW X.K B WN) Fn g hr hg hm hk hb .nil ha hdb he hpl) fun σ H Q ⟨F, G, δ, Qd, S, h, kk⟩ => ⟨F, G, δ, _, S, h, fun vs H1 ⟨F1, G1, ds, s1, S1, r1, h1⟩ => by
    show lowSp X.K sp (vs ++ []) H1 Q _
    rw [List.append_nil]
    exact low_of kk s1 S1 r1 h1⟩
/-- keywords -/
def upK := @upA
def DK (X : Cx) (B : Bs) (kws : List Keyword) (T : TAD) : Prop := PK X kws (upA X.K B T)
theorem dk_nil : DK X B [] dNil := ⟨fun pos pins s σ H Q I ⟨F, G, δ, Qd, S, h, k⟩ => pk_nil.run pos pins s σ H Q I (k [] H ⟨F, G, [], .refl F, S, .nil, h⟩)⟩
theorem dk_cons {nm : Option Str} {kpos : Pos} {kws : List Keyword} (ha : DE X B e te) (hr : DK X B kws t) : DK X B (⟨nm, e, kpos⟩ :: kws) (dCons te t) :=
  ⟨fun pos pins s σ H Q I ⟨F, G, δ, Qd, S, h, k⟩ => (pk_cons ha hr).run pos pins s σ H Q I ⟨F, G, δ, _, S, h, fun v H1 ⟨F1, G1, d, s1, S1, r1, h1⟩ => ⟨F1, G1, δ, _, S1, h1, fun vs H2 ⟨F2, G2, ds, s2, S2, r2, h2⟩ =>
    k _ H2 ⟨F2, G2, d :: ds, s1.trans s2, S2, .cons (r1.mono s2) r2, h2⟩⟩⟩⟩
def PermOk (gV : List V → List V → List V) (gD : List D → List D → List D) : Prop := ∀ (K : PySem.W.Frag) (F : Hp) (vs zs : List V) (ds es : List D), RepAll K F vs ds → RepAll K F zs es → RepAll K F (gV vs zs) (gD ds es)
theorem perm_ok {np nk : Nat} {ix : List Nat} : PermOk (gPerm np nk ix) (gPerm np nk ix) := fun K F vs zs ds es r q => by
  unfold gPerm
  rw [r.length, q.length]
  split
  · have a := r.append q
    generalize vs ++ zs = xs at a
    generalize ds ++ es = ys at a
    clear r q
    induction ix with
    | nil => exact .nil
    | cons i ix ih =>
      rw [List.filterMap_cons, List.filterMap_cons]
      cases e : ys[i]? with
      | none =>
        have : xs[i]? = none := by
          rw [List.getElem?_eq_none_iff] at e ⊢
          rw [a.length]
          exact e
        rw [this]
        exact ih
      | some d =>
        obtain ⟨v, ev, rv⟩ := a.get e
        rw [ev]
        exact .cons rv ih
  · exact .nil
variable {kws : List Keyword} {tk : TAD} {ks : List Str} {gg : List Value → List Value → List Value} {gV : List V → List V → List V} {gD : List D → List D → List D}
def dCallK (sp : SpD) (gD : List D → List D → List D) (W : WD) (t tk : TAD) : TED := fun δ G Q => t δ G fun ds G1 => tk δ G1 fun es G2 => sp (gD ds es) G2 Q W
theorem de_callK (Fn : FnD X.prog X.w X.K X.mg X.base k f fd ps sp) (hr : Room k X.A) (hg : Gl X x) (hm : X.mg x = some (.ref f)) (hk : PySem.W.keepIn X.K (.ref f) = true) (hb : KBinds X.K fd ps ks gg gV) (hx : Passes (L2.CX X.prog X.w) X (XW X.K B W)) (hp : PermOk gV gD)
    (ha : DA X B (e :: es) t) (hkw : DK X B kws tk) (hall : (backToKw pos (keywordEach kws X.env)).all (·.1.isSome) = true := by rfl) (hks : (backToKw pos (keywordEach kws X.env)).filterMap (·.1) = ks := by rfl) (hdb : (x == ("__debug__" : Str)) = false := by decide)
    (he : starEach (e :: es) X.env = (false, eval e X.env) :: starEach es X.env := by rfl) (hpl : ((backTo pos (starEach (e :: es) X.env)).any (·.1) || (backToKw pos (keywordEach kws X.env)).any (·.1.isNone)) = false := by rfl) :
    DE X B (.Call (.Name x p) (e :: es) kws pos) (dCallK sp gD W t tk) :=
  PE.weak (pe_callK Fn hr hg hm hk hb hx ha hkw hall hks hdb he hpl) fun σ H Q ⟨F, G, δ, Qd, S, h, kk⟩ => ⟨F, G, δ, _, S, h, fun vs H1 ⟨F1, G1, ds, s1, S1, r1, h1⟩ => ⟨F1, G1, δ, _, S1, h1, fun zs H2 ⟨F2, G2, es, s2, S2, r2, h2⟩ =>
    low_of kk (s1.trans s2) S2 (hp _ _ _ _ _ _ (r1.mono s2) r2) h2⟩⟩
theorem de_callK0 (Fn : FnD X.prog X.w X.K X.mg X.base k f fd ps sp) (hr : Room k X.A) (hg : Gl X x) (hm : X.mg x = some (.ref f)) (hk : PySem.W.keepIn X.K (.ref f) = true) (hb : KBinds X.K fd ps ks gg gV) (hx : Passes (L2.CX X.prog X.w) X (XW X.K B W)) (hp : PermOk gV gD)
    (hkw : DK X B kws tk) (hall : (backToKw pos (keywordEach kws X.env)).all (·.1.isSome) = true := by rfl) (hks : (backToKw pos (keywordEach kws X.env)).filterMap (·.1) = ks := by rfl) (hdb : (x == ("__debug__" : Str)) = false := by decide)
    (hpl : ((backTo pos (starEach [] X.env)).any (·.1) || (backToKw pos (keywordEach kws X.env)).any (·.1.isNone)) = false := by rfl) :
    DE X B (.Call (.Name x p) [] kws pos) (dCallK sp gD W dNil tk) :=
  PE.weak (pe_callK0 Fn hr hg hm hk hb hx hkw hall hks hdb hpl) fun σ H Q ⟨F, G, δ, Qd, S, h, kk⟩ => ⟨F, G, δ, _, S, h, fun zs H2 ⟨F2, G2, es, s2, S2, r2, h2⟩ =>
    low_of kk s2 S2 (hp _ _ _ _ _ _ .nil r2) h2⟩

/-! ### own classes -/
/-- the instance and its attributes, changeable or not -/
def insD (d : D) (G : Gm) : Option (Addr × List (Str × D)) := match d with
  | .ins C fs => some (C, fs)
  | .adr a => match G a with | some (.ins C fs) => some (C, fs) | _ => none
  | _ => none
theorem ins_rep {v : V} {d : D} {C : Addr} {fs : List (Str × D)} (S : Sit K B σ H F δ G) (r : Rep K F v d) (h : insD d G = some (C, fs)) : ∃ a dx fv, v = .ref a ∧ H a = some (.ins C dx fv) ∧ GoodC K C ∧ (∀ p ∈ fs, NoAttr K C p.1) ∧ RepF K F fv fs := by
  cases d with
  | ins C' fs' =>
    cases h
    cases r with
    | ins e g n rf => exact ⟨_, _, _, rfl, S.ds.sub _ _ e, g, n, rf⟩
  | adr a =>
    cases r
    cases g : G a with
    | none => simp [insD, g] at h
    | some mo =>
      cases mo with
      | ins C' fs' =>
        simp only [insD, g, Option.some.injEq, Prod.mk.injEq] at h
        obtain ⟨rfl, rfl⟩ := h
        obtain ⟨dx, fv, e, gc, n, rf⟩ := (S.ds.mu a _ g).2
        exact ⟨a, dx, fv, rfl, e, gc, n, rf⟩
      | _ => simp [insD, g] at h
  | _ => simp [insD] at h
theorem look_mem {f : Str} {y : D} : ∀ {fs : List (Str × D)}, fs.lookup f = some y → (f, y) ∈ fs
  | [], h => by cases h
  | (g, e) :: r, h => by
    rw [List.lookup_cons] at h
    cases q : f == g with
    | true =>
      rw [q] at h
      cases h
      rw [beq_iff_eq] at q
      subst q
      exact List.mem_cons_self
    | false =>
      rw [q] at h
      exact List.mem_cons_of_mem _ (look_mem h)
def fldD (d : D) (G : Gm) (f : Str) : Option D := (insD d G).bind fun p => p.2.lookup f
def dFld (te : TED) (f : Str) : TED := fun δ G Q => te δ G fun d G1 => match fldD d G1 f with | some y => Q y G1 | none => False
theorem de_fld {f : Str} (he : DE X B e te) (hb : attributeBase e f X.env (eval e X.env) = eval e X.env := by rfl) : DE X B (.Attribute e f pos) (dFld te f) :=
  PE.weak (pe_fld he hb) fun σ H Q ⟨F, G, δ, Qd, S, h, kk⟩ => ⟨F, G, δ, _, S, h, fun v H1 ⟨F1, G1, d, s1, S1, r1, h1⟩ => by
    cases q : insD d G1 with
    | none => simp [fldD, q] at h1
    | some cf =>
      obtain ⟨C, fs⟩ := cf
      obtain ⟨a, dx, fv, rfl, e, gc, na, rf⟩ := ins_rep S1 r1 q
      cases l : fs.lookup f with
      | none => simp [fldD, q, l] at h1
      | some y =>
        simp only [fldD, q, Option.bind_some, l] at h1
        obtain ⟨u, lu, ru⟩ := rf.look l
        exact ⟨a, C, dx, fv, u, rfl, e, gc.cl, na _ (look_mem l), lu, kk _ _ ⟨F1, G1, y, s1, S1, ru, h1⟩⟩⟩
theorem repF_put {f : Str} {v : V} {d : D} (r : Rep K F v d) : ∀ {fv : List (Str × V)} {fs : List (Str × D)}, RepF K F fv fs → RepF K F (putF f v fv) (putD f d fs)
  | _, _, .nil => .cons r .nil
  | _, _, .cons (f := g) h q => by
    by_cases c : g = f
    · subst c
      unfold putF putD
      rw [if_pos rfl, if_pos rfl]
      exact .cons r q
    · unfold putF putD
      rw [if_neg c, if_neg c]
      exact .cons h (repF_put r q)
theorem putD_mem {f : Str} {d : D} : ∀ {fs : List (Str × D)} {p : Str × D}, p ∈ putD f d fs → p = (f, d) ∨ p ∈ fs
  | [], p, h => by
    rcases List.mem_cons.mp h with h | h
    · exact .inl h
    · cases h
  | (g, e) :: r, p, h => by
    unfold putD at h
    split at h
    · rcases List.mem_cons.mp h with h | h
      · exact .inl h
      · exact .inr (List.mem_cons_of_mem _ h)
    · rcases List.mem_cons.mp h with h | h
      · exact .inr (h ▸ List.mem_cons_self)
      · rcases putD_mem h with h | h
        · exact .inl h
        · exact .inr (List.mem_cons_of_mem _ h)
/-- o.f = e, o what may change -/
def dSetF (C : Addr) (to te : TED) (f : Str) : TSD := fun E δ G => te δ G fun y G1 => to δ G1 fun d G2 => match d with
  | .adr a => (match G2 a with | some (.ins C' fs) => C' = C ∧ fs.length < 1000 ∧ E.nx δ (updG G2 a (.ins C (putD f y fs))) | _ => False)
  | _ => False
theorem ds_fld {f : Str} {to : TED} {value : Expr} {tv : TED} {pos' : Pos} (na : NoAttr X.K C f) (ho : DE X B o to) (hv : DE X B value tv) (hs : swapsWith value (some (.Attribute o f pos')) pos.line X.env = pure false := by rfl) : DSt X B (.Assign [.Attribute o f pos'] value pos) (dSetF C to tv f) :=
  PS.weak (ps_fld ho hv hs) fun D σ H ⟨F, G, δ, E, S, h, L⟩ => ⟨F, G, δ, _, S, h, fun y H1 ⟨F1, G1, dy, s1, S1, r1, h1⟩ => ⟨F1, G1, δ, _, S1, h1, fun x H2 ⟨F2, G2, d, s2, S2, r2, h2⟩ => by
    cases d with
    | adr a =>
      cases r2
      cases g : G2 a with
      | none =>
        simp only [g] at h2
      | some mo =>
        cases mo with
        | ins C' fs =>
          simp only [g] at h2
          obtain ⟨rfl, hl, q⟩ := h2
          obtain ⟨dx, fv, e, gc, n, rf⟩ := (S2.ds.mu a _ g).2
          refine ⟨a, C', dx, fv, rfl, e, gc.cl, na, by rw [rf.length]; exact hl, L.nx _ _ ⟨F2, _, δ, s1.trans s2, ⟨S2.ds.write (m' := .ins C' (putD f dy fs)) g ⟨dx, _, upd_same, gc, fun p hp => ?_, repF_put (r1.mono s2) rf⟩, S2.gr, S2.sl⟩, q⟩⟩
          rcases putD_mem hp with hp | hp
          · rw [hp]
            exact na
          · exact n p hp
        | _ => simp only [g] at h2
    | _ => exact h2.elim⟩⟩
/-- C(..): made, its __init__ called, then it changes no more -/
def dMake (C : Addr) (sp : SpD) (W : WD) (t : TAD) : TED := fun δ G Q => t δ G fun ds G1 => ∀ x, G1 x = none →
  sp (.adr x :: ds) (updG G1 x (.ins C [])) (fun d G2 => d = .non ∧ match G2 x with | some (.ins C' fs) => Q (.ins C' fs) (delG G2 x) | _ => False) (fun C' fs G2 => W C' fs (delG G2 x))
theorem DS.forget {K : PySem.W.Frag} {Tb : List (Addr × Str)} {F H Z : Hp} {G : Gm} {a : Addr} (d : DS K Tb F H G Z) : DS K Tb F H (delG G a) Z := ⟨d.sub, fun b m e => by
    by_cases c : b = a
    · rw [c, delG_same] at e
      cases e
    · rw [delG_ne c] at e
      exact d.mu b m e, d.zub, fun b u e => ⟨(d.zf b u e).1, by
      have := (d.zf b u e).2.1
      by_cases c : b = a
      · rw [c, delG_same]
      · rw [delG_ne c]
        exact this, (d.zf b u e).2.2⟩, d.ft, d.tab⟩
/-- what a making comes to -/
theorem low_make {vs : List V} {ds : List D} {F1 : Hp} {G1 : Gm} {Q : VK} {Qd : QD} (gc : GoodC K C) (kk : ∀ v H', Beh K B σ F δ Qd v H' → Q v H') (s1 : Same F F1) (S1 : Sit K B σ H F1 δ G1) (r1 : RepAll K F1 vs ds)
    (h1 : ∀ x, G1 x = none → sp (.adr x :: ds) (updG G1 x (.ins C [])) (fun d G2 => d = .non ∧ match G2 x with | some (.ins C' fs) => Qd (.ins C' fs) (delG G2 x) | _ => False) (fun C' fs G2 => W C' fs (delG G2 x))) :
    ∀ x dx, H x = none → H dx = none → dx ≠ x → lowSp K sp (.ref x :: vs) (upd (upd H dx (.own x)) x (.ins C dx [])) (fun v H2 => v = .non ∧ Q (.ref x) H2) (XW K B W) := fun x dx nx ndx ne => by
  have sa : Same H (upd H dx (.own x)) := same_new ndx
  have S2 := S1.same sa
  have nx2 : upd H dx (.own x) x = none := by rw [upd_ne ne.symm]; exact nx
  have d3 := S2.ds.open (o := .ins C dx []) (m := .ins C []) nx2 ⟨dx, [], upd_same, gc, fun p hp => (by cases hp), .nil⟩
  refine ⟨⟨F1, B.Z, B.T⟩, _, _, _, _, d3, .cons (.adr x) r1, h1 x (S1.ds.noG nx), fun v H' ⟨F', G', d, s', ds', _, r', e, q'⟩ => ?_, fun cls dd H' ⟨F', G', C', fs, e, s', ds', xr, w⟩ => ⟨F', _, C', fs, e, S1.gr.trans s', ds'.forget, xr, w⟩⟩
  subst e
  refine ⟨rep_non r', ?_⟩
  cases g : G' x with
  | none => simp only [g] at q'
  | some mo =>
    cases mo with
    | ins C' fs =>
      simp only [g] at q'
      obtain ⟨dx', fv, e, gc', na, rf⟩ := (ds'.mu x _ g).2
      obtain ⟨d4, s4⟩ := ds'.close g e
      exact kk _ _ ⟨_, _, _, (s1.trans s').trans s4, ⟨d4, S1.gr.trans (s'.trans s4), S1.sl.mono (s'.trans s4)⟩, .ins upd_same gc' na (rf.mono s4), q'⟩
    | _ => simp only [g] at q'
theorem de_make (M : Mk X.K C f) (gc : GoodC X.K C) (Fn : FnD X.prog X.w X.K X.mg X.base k f fd ps sp) (hr : Room (k + 1) X.A) (hg : Gl X x) (hm : X.mg x = some (.ref C)) (hb : Binds X.K fd ps []) (hx : Passes (L2.CX X.prog X.w) X (XW X.K B W)) (ha : DA X B (e :: es) t)
    (hdb : (x == ("__debug__" : Str)) = false := by decide) (he : starEach (e :: es) X.env = (false, eval e X.env) :: starEach es X.env := by rfl) (hpl : (backTo pos (starEach es X.env)).any (·.1) = false := by rfl) :
    DE X B (.Call (.Name x p) (e :: es) [] pos) (dMake C sp W t) :=
  PE.weak (pe_make M Fn hr hg hm hb .nil hx ha hdb he hpl) fun σ H Q ⟨F, G, δ, Qd, S, h, kk⟩ => ⟨F, G, δ, _, S, h, fun vs H1 ⟨F1, G1, ds, s1, S1, r1, h1⟩ => by
    show ∀ x dx, _ → _ → _ → lowSp X.K sp (.ref x :: (vs ++ [])) _ _ _
    rw [List.append_nil]
    exact low_make gc kk s1 S1 r1 h1⟩
theorem de_makeDf {dvs : List V} {dds : List D} {dus : List Value} (rd : ∀ F, RepAll X.K F dvs dds) (hd : Vals dvs dus) (M : Mk X.K C f) (gc : GoodC X.K C) (Fn : FnD X.prog X.w X.K X.mg X.base k f fd ps sp) (hr : Room (k + 1) X.A) (hg : Gl X x) (hm : X.mg x = some (.ref C)) (hb : Binds X.K fd ps dus) (hx : Passes (L2.CX X.prog X.w) X (XW X.K B W)) (ha : DA X B (e :: es) t)
    (hdb : (x == ("__debug__" : Str)) = false := by decide) (he : starEach (e :: es) X.env = (false, eval e X.env) :: starEach es X.env := by rfl) (hpl : (backTo pos (starEach es X.env)).any (·.1) = false := by rfl) :
    DE X B (.Call (.Name x p) (e :: es) [] pos) (dMake C sp W fun δ G Q => t δ G fun ds G1 => Q (ds ++ dds) G1) :=
  PE.weak (pe_make M Fn hr hg hm hb hd hx ha hdb he hpl) fun σ H Q ⟨F, G, δ, Qd, S, h, kk⟩ => ⟨F, G, δ, _, S, h, fun vs H1 ⟨F1, G1, ds, s1, S1, r1, h1⟩ => low_make gc kk s1 S1 (r1.append (rd F1)) h1⟩
theorem de_make0 (M : Mk X.K C f) (gc : GoodC X.K C) (Fn : FnD X.prog X.w X.K X.mg X.base k f fd ps sp) (hr : Room (k + 1) X.A) (hg : Gl X x) (hm : X.mg x = some (.ref C)) (hb : Binds X.K fd ps []) (hx : Passes (L2.CX X.prog X.w) X (XW X.K B W))
    (hdb : (x == ("__debug__" : Str)) = false := by decide) : DE X B (.Call (.Name x p) [] [] pos) (dMake C sp W dNil) :=
  PE.weak (pe_make0 M Fn hr hg hm hb .nil hx hdb) fun σ H Q ⟨F, G, δ, Qd, S, h, kk⟩ => low_make gc kk (.refl F) S .nil h
def dMakeK (C : Addr) (n m : Nat) (sp : SpD) (gD : List D → List D → List D) (W : WD) (t tk : TAD) : TED := fun δ G Q => t δ G fun ds G1 => tk δ G1 fun es G2 => ds.length = n ∧ es.length = m ∧ ∀ x, G2 x = none →
  sp (gD (.adr x :: ds) es) (updG G2 x (.ins C [])) (fun d G3 => d = .non ∧ match G3 x with | some (.ins C' fs) => Q (.ins C' fs) (delG G3 x) | _ => False) (fun C' fs G3 => W C' fs (delG G3 x))
theorem low_makeK {vs zs : List V} {ds es : List D} {F1 : Hp} {G1 : Gm} {Q : VK} {Qd : QD} (hp : PermOk gV gD) (gc : GoodC K C) (kk : ∀ v H', Beh K B σ F δ Qd v H' → Q v H') (s1 : Same F F1) (S1 : Sit K B σ H F1 δ G1) (r1 : RepAll K F1 vs ds) (r2 : RepAll K F1 zs es)
    (h1 : ∀ x, G1 x = none → sp (gD (.adr x :: ds) es) (updG G1 x (.ins C [])) (fun d G2 => d = .non ∧ match G2 x with | some (.ins C' fs) => Qd (.ins C' fs) (delG G2 x) | _ => False) (fun C' fs G2 => W C' fs (delG G2 x))) :
    ∀ x dx, H x = none → H dx = none → dx ≠ x → lowSp K sp (gV (.ref x :: vs) zs) (upd (upd H dx (.own x)) x (.ins C dx [])) (fun v H2 => v = .non ∧ Q (.ref x) H2) (XW K B W) := fun x dx nx ndx ne => by
  have sa : Same H (upd H dx (.own x)) := same_new ndx
  have S2 := S1.same sa
  have nx2 : upd H dx (.own x) x = none := by rw [upd_ne ne.symm]; exact nx
  have d3 := S2.ds.open (o := .ins C dx []) (m := .ins C []) nx2 ⟨dx, [], upd_same, gc, fun p hp => (by cases hp), .nil⟩
  refine ⟨⟨F1, B.Z, B.T⟩, _, _, _, _, d3, hp _ _ _ _ _ _ (.cons (.adr x) r1) r2, h1 x (S1.ds.noG nx), fun v H' ⟨F', G', d, s', ds', _, r', e, q'⟩ => ?_, fun cls dd H' ⟨F', G', C', fs, e, s', ds', xr, w⟩ => ⟨F', _, C', fs, e, S1.gr.trans s', ds'.forget, xr, w⟩⟩
  subst e
  refine ⟨rep_non r', ?_⟩
  cases g : G' x with
  | none => simp only [g] at q'
  | some mo =>
    cases mo with
    | ins C' fs =>
      simp only [g] at q'
      obtain ⟨dx', fv, e, gc', na, rf⟩ := (ds'.mu x _ g).2
      obtain ⟨d4, s4⟩ := ds'.close g e
      exact kk _ _ ⟨_, _, _, (s1.trans s').trans s4, ⟨d4, S1.gr.trans (s'.trans s4), S1.sl.mono (s'.trans s4)⟩, .ins upd_same gc' na (rf.mono s4), q'⟩
    | _ => simp only [g] at q'
theorem de_makeK0 (M : Mk X.K C f) (gc : GoodC X.K C) (Fn : FnD X.prog X.w X.K X.mg X.base k f fd ps sp) (hr : Room (k + 1) X.A) (hg : Gl X x) (hm : X.mg x = some (.ref C)) (hb : KBn X.K fd ps 1 ks gg gV) (hx : Passes (L2.CX X.prog X.w) X (XW X.K B W)) (hp : PermOk gV gD) (hkw : DK X B kws tk)
    (hall : (backToKw pos (keywordEach kws X.env)).all (·.1.isSome) = true := by rfl) (hks : (backToKw pos (keywordEach kws X.env)).filterMap (·.1) = ks := by rfl) (hdb : (x == ("__debug__" : Str)) = false := by decide)
    (hpl : ((backTo pos (starEach [] X.env)).any (·.1) || (backToKw pos (keywordEach kws X.env)).any (·.1.isNone)) = false := by rfl) :
    DE X B (.Call (.Name x p) [] kws pos) (dMakeK C 0 ks.length sp gD W dNil tk) :=
  PE.weak (pe_makeK0 M Fn hr hg hm hb hx hkw hall hks hdb hpl) fun σ H Q ⟨F, G, δ, Qd, S, h, kk⟩ => ⟨F, G, δ, _, S, h, fun zs H1 ⟨F1, G1, es, s1, S1, r1, h1⟩ => ⟨rfl, r1.length.trans h1.2.1, low_makeK hp gc kk s1 S1 .nil r1 h1.2.2⟩⟩
theorem de_makeK {n : Nat} (M : Mk X.K C f) (gc : GoodC X.K C) (Fn : FnD X.prog X.w X.K X.mg X.base k f fd ps sp) (hr : Room (k + 1) X.A) (hg : Gl X x) (hm : X.mg x = some (.ref C)) (hb : KBn X.K fd ps (n + 1) ks gg gV) (hx : Passes (L2.CX X.prog X.w) X (XW X.K B W)) (hp : PermOk gV gD) (ha : DA X B (e :: es) t) (hkw : DK X B kws tk)
    (hall : (backToKw pos (keywordEach kws X.env)).all (·.1.isSome) = true := by rfl) (hks : (backToKw pos (keywordEach kws X.env)).filterMap (·.1) = ks := by rfl) (hdb : (x == ("__debug__" : Str)) = false := by decide)
    (he : starEach (e :: es) X.env = (false, eval e X.env) :: starEach es X.env := by rfl) (hpl : ((backTo pos (starEach (e :: es) X.env)).any (·.1) || (backToKw pos (keywordEach kws X.env)).any (·.1.isNone)) = false := by rfl) :
    DE X B (.Call (.Name x p) (e :: es) kws pos) (dMakeK C n ks.length sp gD W t tk) :=
  PE.weak (pe_makeK M Fn hr hg hm hb hx ha hkw hall hks hdb he hpl) fun σ H Q ⟨F, G, δ, Qd, S, h, kk⟩ => ⟨F, G, δ, _, S, h, fun vs H1 ⟨F1, G1, ds, s1, S1, r1, h1⟩ => ⟨F1, G1, δ, _, S1, h1, fun zs H2 ⟨F2, G2, es, s2, S2, r2, h2⟩ => ⟨r1.length.trans h2.1, r2.length.trans h2.2.1, low_makeK hp gc kk (s1.trans s2) S2 (r1.mono s2) r2 h2.2.2⟩⟩⟩
/-- o.m(..) -/
def dMeth (C : Addr) (m : Str) (sp : SpD) (W : WD) (to : TED) (t : TAD) : TED := fun δ G Q => to δ G fun d G1 => match insD d G1 with | some (C', fs) => C' = C ∧ fs.lookup m = none ∧ t δ G1 fun ds G2 => sp (d :: ds) G2 Q W | none => False
theorem de_meth {pl : Sem Bool} {to : TED} (he : DE X B o to) (c : Cls X.K C) (hm : Meth X.K C m f) (Fn : FnD X.prog X.w X.K X.mg X.base k f fd ps sp) (hr : Room k X.A) (hb : Binds X.K fd ps []) (hx : Passes (L2.CX X.prog X.w) X (XW X.K B W)) (ha : DA X B (e :: es) t)
    (hst : starEach (e :: es) X.env = (false, eval e X.env) :: starEach es X.env := by rfl) (hpl : (backTo pos (starEach es X.env)).any (·.1) = false := by rfl)
    (ht : eval (.Call (.Attribute o m apos) (e :: es) [] pos) X.env = (do
      let ov ← eval o X.env
      standAt apos.atName
      let (f, first) ← holding [ov] (getMethod ov m pl)
      callWith pos f first (backTo pos (starEach (e :: es) X.env)) (backToKw pos (keywordEach [] X.env))) := by rfl) :
    DE X B (.Call (.Attribute o m apos) (e :: es) [] pos) (dMeth C m sp W to t) :=
  PE.weak (pe_meth he c hm Fn hr hb .nil hx ha hst hpl ht) fun σ H Q ⟨F, G, δ, Qd, S, h, kk⟩ => ⟨F, G, δ, _, S, h, fun v H1 ⟨F1, G1, d, s1, S1, r1, h1⟩ => by
    cases q : insD d G1 with
    | none =>
      simp only [q] at h1
    | some cf =>
      obtain ⟨C', fs⟩ := cf
      simp only [q] at h1
      obtain ⟨rfl, hl, h1⟩ := h1
      obtain ⟨a, dx, fv, rfl, e, gc, na, rf⟩ := ins_rep S1 r1 q
      refine ⟨a, dx, fv, rfl, e, rf.lookN hl, F1, G1, δ, _, S1, h1, fun vs H2 ⟨F2, G2, ds, s2, S2, r2, h2⟩ => ?_⟩
      show lowSp X.K sp (.ref a :: (vs ++ [])) H2 Q _
      rw [List.append_nil]
      exact low_of kk (s1.trans s2) S2 (.cons (r1.mono s2) r2) h2⟩
theorem de_meth0 {pl : Sem Bool} {to : TED} (he : DE X B o to) (c : Cls X.K C) (hm : Meth X.K C m f) (Fn : FnD X.prog X.w X.K X.mg X.base k f fd ps sp) (hr : Room k X.A) (hb : Binds X.K fd ps []) (hx : Passes (L2.CX X.prog X.w) X (XW X.K B W))
    (ht : eval (.Call (.Attribute o m apos) [] [] pos) X.env = (do
      let ov ← eval o X.env
      standAt apos.atName
      let (f, first) ← holding [ov] (getMethod ov m pl)
      callWith pos f first (backTo pos (starEach [] X.env)) (backToKw pos (keywordEach [] X.env))) := by rfl) :
    DE X B (.Call (.Attribute o m apos) [] [] pos) (dMeth C m sp W to dNil) :=
  PE.weak (pe_meth0 he c hm Fn hr hb .nil hx ht) fun σ H Q ⟨F, G, δ, Qd, S, h, kk⟩ => ⟨F, G, δ, _, S, h, fun v H1 ⟨F1, G1, d, s1, S1, r1, h1⟩ => by
    cases q : insD d G1 with
    | none =>
      simp only [q] at h1
    | some cf =>
      obtain ⟨C', fs⟩ := cf
      simp only [q] at h1
      obtain ⟨rfl, hl, h1⟩ := h1
      obtain ⟨a, dx, fv, rfl, e, gc, na, rf⟩ := ins_rep S1 r1 q
      exact ⟨a, dx, fv, rfl, e, rf.lookN hl, low_of kk s1 S1 (.cons r1 .nil) h1⟩⟩
/-- o.f, a property -/
def dProp (C : Addr) (sp : SpD) (to : TED) : TED := fun δ G Q => to δ G fun d G1 => match insD d G1 with | some (C', _) => C' = C ∧ sp [d] G1 Q WN | none => False
theorem de_prop {f' : Str} {pa : Addr} {to : TED} (he : DE X B o to) (c : Cls X.K C) (hp : PropOf X.K C f' pa f) (Fn : FnD X.prog X.w X.K X.mg X.base k f fd ps sp) (hr : Room (k + 1) X.A) (hb : Binds X.K fd ps [])
    (hab : attributeBase o f' X.env (eval o X.env) = eval o X.env := by rfl) : DE X B (.Attribute o f' pos) (dProp C sp to) :=
  PE.weak (pe_prop he c hp Fn hr hb .nil (E := XW X.K B WN) (fun pins σ H s e s' I c => (hx0 (X := X.nox) (B := B)) pins σ H s e s' I c) hab) fun σ H Q ⟨F, G, δ, Qd, S, h, kk⟩ => ⟨F, G, δ, _, S, h, fun v H1 ⟨F1, G1, d, s1, S1, r1, h1⟩ => by
    cases q : insD d G1 with
    | none =>
      simp only [q] at h1
    | some cf =>
      obtain ⟨C', fs⟩ := cf
      simp only [q] at h1
      obtain ⟨rfl, h1⟩ := h1
      obtain ⟨a, dx, fv, rfl, e, gc, na, rf⟩ := ins_rep S1 r1 q
      exact ⟨a, dx, fv, rfl, e, low_of kk s1 S1 (.cons r1 .nil) h1⟩⟩
end
end JP

namespace JP
open PySem PySem.Spec PyProof.Rows L2

/-! ## operators and built-in calls, of trees -/
theorem tuple_mulW00 (l : Addr) (its : List Value) (n : Nat) (dd : Option Addr) (sl : Array (Option Value)) (u : Tok) (hne : its ≠ []) :
    Meets (Builtin.«tuple.__mul__» ⟨[.ref l, .int 0 u], []⟩) (fun _ R s => s.heap.get? l = some { cls := .type "tuple", dict := dd, data := .seq its.toArray n, slots := sl } ∧
      R (.ok (.ret (Value.ref s.heap.objs.size))) { s with heap := s.heap.push { cls := .type "tuple", data := .seq #[] }, toks := s.toks }) :=
  .of_wp fun prog w A R s h => by
    obtain ⟨hp, g, d, tk, os⟩ := s
    obtain ⟨hl, h⟩ := h
    have f1 := AutoSeq1.idx_int
    have e0 : its.toArray.isEmpty = false := by cases its with | nil => exact absurd rfl hne | cons _ _ => rfl
    have c1 : (its.toArray.isEmpty || (0 : Int) == 1) = false := by rw [e0]; rfl
    have c2 : (decide ((0 : Int) ≤ 0) || its.toArray.isEmpty) = true := by simp
    have c0 : (decide ((0 : Int) < -(2 ^ 63)) || decide ((0 : Int) ≥ 2 ^ 63)) = false := by decide
    wp_walk using AutoSeq1.wpAny_loadPart' hl
    repeat (first
      | (refine wpAny_ite_false (decide_eq_false (by rw [c0]; exact Bool.false_ne_true)) ?_; wp_walk using AutoSeq1.wpAny_loadPart' hl)
      | (refine wpAny_ite_false (decide_eq_false (by rw [c1]; exact Bool.false_ne_true)) ?_; wp_walk using AutoSeq1.wpAny_loadPart' hl)
      | (refine wpAny_ite_true (decide_eq_true c2) ?_; wp_walk using AutoSeq1.wpAny_loadPart' hl))
    all_goals first | exact ⟨_, rfl, h⟩ | skip
/-- t * 0 -/
def rRep0 : R2 := fun x y H Q => ∃ l xs, x = .ref l ∧ y = .int 0 ∧ H l = some (.tup xs) ∧ xs ≠ [] ∧ ∀ p, H p = none → Q (.ref p) (upd H p (.tup []))
theorem op_rep0 {X : Cx} : OpR X (binaryOp .Mult) rRep0 := by
  intro pins s σ H x y v u Q I rx ry h
  obtain ⟨l, xs, rfl, rfl, hT, hne, q⟩ := h
  cases rx
  obtain ⟨t, rfl⟩ := ry
  obtain ⟨its, r, ⟨⟨cls, dd, data, sl⟩, ho, hc, n, hd⟩, hs⟩ := I.tuple (SqT.of hT)
  simp only at hc hd
  subst hc hd
  have hi : its ≠ [] := fun z => hne (by
    have := r.length
    rw [z] at this
    exact List.length_eq_zero_iff.mp this)
  refine wpAny_binaryOp_repeat_ref (T := "tuple") (U := "int") (by decide) ⟨_, ho, rfl⟩ (fun s' => typeIs_int s' 0 t) noFill_tuple_mul F.fills_int_mul F.slot_int_rmul repeat_tuple F.slot_int_index.lookup
    (call_meets F.slot_int_rmul (typeIs_int s 0 t) F.entry_int_rmul (F.args_int_rmul_2 _ _) (int_rmul_tuple 0 t l its.toArray n dd sl)
      ⟨ho, rfl, ⟨_, ho, rfl⟩, call_meets F.slot_tuple_mul ⟨_, ho, rfl⟩ F.entry_tuple_mul (F.args_tuple_mul_2 _ _) (tuple_mulW00 l its n dd sl t hi) ⟨ho, ?_⟩⟩)
  refine ⟨.ref s.heap.objs.size, _, I.laid (o := .tup []) (t' := s.toks) (fun b o e => Heap.get?_push_of_some _ e) (Nat.le_refl _) ⟨Nat.zero_le _, [], .nil, ⟨_, Heap.get?_push_size _ rfl, rfl, 0, rfl⟩⟩, rfl, q _ (I.hok.fresh (Nat.le_refl _))⟩
section
variable {X : Cx} {B : Bs} {K : PySem.W.Frag} {a b : Expr} {ta tb : TED} {pos : Pos}
variable {σ : L2.St} {H F : Hp} {δ : SD} {G : Gm}
theorem rep_tup {v : V} {ds : List D} (r : Rep K F v (.tup ds)) : ∃ p xs, v = .ref p ∧ F p = some (.tup xs) ∧ RepAll K F xs ds := by
  cases r with
  | tup h r => exact ⟨_, _, rfl, h, r⟩
theorem rep_lst {v : V} {ds : List D} (r : Rep K F v (.lst ds)) : ∃ p xs, v = .ref p ∧ F p = some (.lst xs) ∧ RepAll K F xs ds := by
  cases r with
  | lst h r => exact ⟨_, _, rfl, h, r⟩
/-- got: a tuple that stands behind -/
theorem Beh.gotT {H' : Hp} {Qd : QD} {p : Addr} {xs : List V} {ds : List D} (S : Sit K B σ H F δ G) (s : Same H H') (h : H' p = some (.tup xs)) (r : RepAll K F xs ds) (q : Qd (.tup ds) G) : Beh K B σ F δ Qd (.ref p) H' :=
  have ⟨d1, s1⟩ := S.ds.got s h (by intro z; exact z)
  ⟨_, G, _, s1, ⟨d1, S.gr.trans s1, S.sl.mono s1⟩, .tup upd_same (r.mono s1), q⟩
theorem Beh.newL {Qd : QD} {p : Addr} {xs : List V} {ds : List D} (S : Sit K B σ H F δ G) (n : H p = none) (r : RepAll K F xs ds) (q : Qd (.lst ds) G) : Beh K B σ F δ Qd (.ref p) (upd H p (.lst xs)) :=
  .new S (.refl F) n (rep_lst_new (S.ds.noF n) r) q
theorem Beh.val {Qd : QD} {v : V} {d : D} (S : Sit K B σ H F δ G) (r : Rep K F v d) (q : Qd d G) : Beh K B σ F δ Qd v H := ⟨F, G, d, .refl F, S, r, q⟩
/-- + -/
def addD : R2D := fun a b G Q => match a, b with
  | .int i, .int j => Q (.int (i + j)) G
  | .int i, .bl k => Q (.int (i + b2i k)) G
  | .str x, .str y => x.length + y.length ≤ sizeLine ∧ Q (.str (x ++ y)) G
  | .lst xs, .lst ys => xs.length + ys.length ≤ sizeLine ∧ Q (.lst (xs ++ ys)) G
  | .tup xs, .tup ys => xs.length + ys.length ≤ sizeLine ∧ Q (.tup (xs ++ ys)) G
  | _, _ => False
theorem de_add (ha : DE X B a ta) (hb : DE X B b tb) : DE X B (.BinOp a .Add b pos) (dOp addD ta tb) :=
  de_op (op_add.or (op_add_ib.or (op_add_str.or (op_cat.or op_cat2)))) (fun B σ δ H F G x y a b Qd Q S r1 r2 h k => by
    unfold addD at h
    split at h
    · rw [rep_int r1, rep_int r2]
      exact .inl ⟨_, _, rfl, rfl, k _ _ (.val S (.int _) h)⟩
    · rw [rep_int r1, rep_bl r2]
      exact .inr (.inl ⟨_, _, rfl, rfl, k _ _ (.val S (.int _) h)⟩)
    · rw [rep_str r1, rep_str r2]
      exact .inr (.inr (.inl ⟨_, _, rfl, rfl, h.1, k _ _ (.val S (.str _) h.2)⟩))
    · obtain ⟨p, us, rfl, e1, q1⟩ := rep_lst r1
      obtain ⟨p2, us2, rfl, e2, q2⟩ := rep_lst r2
      exact .inr (.inr (.inr (.inl ⟨p, p2, us, us2, rfl, rfl, S.ds.sub _ _ e1, S.ds.sub _ _ e2, by rw [q1.length, q2.length]; exact h.1, fun l nl => k _ _ (.newL S nl (q1.append q2) h.2)⟩)))
    · obtain ⟨p, us, rfl, e1, q1⟩ := rep_tup r1
      obtain ⟨p2, us2, rfl, e2, q2⟩ := rep_tup r2
      exact .inr (.inr (.inr (.inr ⟨p, p2, us, us2, rfl, rfl, S.ds.sub _ _ e1, S.ds.sub _ _ e2, by rw [q1.length, q2.length]; exact h.1, fun l H' s e => k _ _ (.gotT S s e (q1.append q2) h.2)⟩)))
    · exact h.elim) ha hb
def subD : R2D := fun a b G Q => match a, b with | .int i, .int j => Q (.int (i - j)) G | _, _ => False
theorem de_sub (ha : DE X B a ta) (hb : DE X B b tb) : DE X B (.BinOp a .Sub b pos) (dOp subD ta tb) :=
  de_op op_sub (fun B σ δ H F G x y a b Qd Q S r1 r2 h k => by
    unfold subD at h
    split at h
    · rw [rep_int r1, rep_int r2]
      exact ⟨_, _, rfl, rfl, k _ _ (.val S (.int _) h)⟩
    · exact h.elim) ha hb
/-- *: within what is reckoned -/
def mulD : R2D := fun a b G Q => match a, b with
  | .int i, .int j => CMulW i j ∧ Q (.int (i * j)) G
  | .str x, .int n => MulOk x n ∧ Q (.str (Txt.mul x n)) G
  | .lst xs, .int n => (-(2 ^ 63) ≤ n ∧ n < 2 ^ 63 ∧ xs.length * n.toNat ≤ sizeLine) ∧ Q (.lst (List.replicate n.toNat xs).flatten) G
  | .tup xs, .int n => (xs ≠ [] ∧ 0 ≤ n ∧ n ≤ 1000 ∧ xs.length ≤ 1000) ∧ Q (.tup (List.replicate n.toNat xs).flatten) G
  | _, _ => False
theorem RepAll.rep {F : Hp} {vs : List V} {ds : List D} (r : RepAll K F vs ds) : ∀ n : Nat, RepAll K F (List.replicate n vs).flatten (List.replicate n ds).flatten
  | 0 => .nil
  | n + 1 => by
    rw [List.replicate_succ, List.replicate_succ, List.flatten_cons, List.flatten_cons]
    exact r.append (RepAll.rep r n)
theorem de_mul (ha : DE X B a ta) (hb : DE X B b tb) : DE X B (.BinOp a .Mult b pos) (dOp mulD ta tb) :=
  de_op (op_mulW.or (op_mulS.or (op_rep.or (op_rep2.or op_rep0)))) (fun B σ δ H F G x y a b Qd Q S r1 r2 h k => by
    unfold mulD at h
    split at h
    · rw [rep_int r1, rep_int r2]
      exact .inl ⟨_, _, rfl, rfl, h.1, k _ _ (.val S (.int _) h.2)⟩
    · rw [rep_str r1, rep_int r2]
      exact .inr (.inl ⟨_, _, rfl, rfl, h.1, k _ _ (.val S (.str _) h.2)⟩)
    · obtain ⟨p, us, rfl, e1, q1⟩ := rep_lst r1
      rw [rep_int r2]
      exact .inr (.inr (.inl ⟨p, _, us, rfl, rfl, S.ds.sub _ _ e1, h.1.1, h.1.2.1, by rw [q1.length]; exact h.1.2.2, fun l nl => k _ _ (.newL S nl (q1.rep _) h.2)⟩))
    · rename_i ds n
      obtain ⟨p, us, rfl, e1, q1⟩ := rep_tup r1
      rw [rep_int r2]
      have l := q1.length
      obtain ⟨⟨h1, h2, h3, h4⟩, hq⟩ := h
      have hne : us ≠ [] := fun z => h1 (by rw [z] at l; exact List.length_eq_zero_iff.mp l.symm)
      by_cases c : n = 0
      · subst c
        exact .inr (.inr (.inr (.inr ⟨p, us, rfl, rfl, S.ds.sub _ _ e1, hne, fun l nl => k _ _ (.gotT S (same_new nl) upd_same .nil hq)⟩)))
      · exact .inr (.inr (.inr (.inl ⟨p, n, us, rfl, rfl, S.ds.sub _ _ e1, hne, by omega, h3, by omega, fun l H' s e => k _ _ (.gotT S s e (q1.rep _) hq)⟩)))
    · exact h.elim) ha hb
def divD : R2D := fun a b G Q => match a, b with | .int i, .int j => CDivW i j ∧ Q (.int (i / j)) G | _, _ => False
theorem de_fdiv (ha : DE X B a ta) (hb : DE X B b tb) : DE X B (.BinOp a .FloorDiv b pos) (dOp divD ta tb) :=
  de_op op_fdivW (fun B σ δ H F G x y a b Qd Q S r1 r2 h k => by
    unfold divD at h
    split at h
    · rw [rep_int r1, rep_int r2]
      exact ⟨_, _, rfl, rfl, h.1, k _ _ (.val S (.int _) h.2)⟩
    · exact h.elim) ha hb
def modD : R2D := fun a b G Q => match a, b with | .int i, .int j => 0 < j ∧ Q (.int (i % j)) G | _, _ => False
theorem de_mod (ha : DE X B a ta) (hb : DE X B b tb) : DE X B (.BinOp a .Mod b pos) (dOp modD ta tb) :=
  de_op op_mod (fun B σ δ H F G x y a b Qd Q S r1 r2 h k => by
    unfold modD at h
    split at h
    · rw [rep_int r1, rep_int r2]
      exact ⟨_, _, rfl, rfl, h.1, k _ _ (.val S (.int _) h.2)⟩
    · exact h.elim) ha hb
def powD : R2D := fun a b G Q => match a, b with | .int i, .int j => CPow i j ∧ Q (.int (i ^ j.toNat)) G | _, _ => False
theorem de_pow (ha : DE X B a ta) (hb : DE X B b tb) : DE X B (.BinOp a .Pow b pos) (dOp powD ta tb) :=
  de_op op_pow (fun B σ δ H F G x y a b Qd Q S r1 r2 h k => by
    unfold powD at h
    split at h
    · rw [rep_int r1, rep_int r2]
      exact ⟨_, _, rfl, rfl, h.1, k _ _ (.val S (.int _) h.2)⟩
    · exact h.elim) ha hb
def negD : R1D := fun a G Q => match a with | .int i => Q (.int (-i)) G | _ => False
theorem de_neg (ha : DE X B a ta) : DE X B (.UnaryOp .USub a pos) (dUn negD ta) :=
  PE.weak (pe_un un_neg ha) fun σ H Q ⟨F, G, δ, Qd, S, h, k⟩ => ⟨F, G, δ, _, S, h, fun v H1 ⟨F1, G1, d, s1, S1, r1, h1⟩ => by
    cases d with
    | int i =>
      cases r1
      exact ⟨i, rfl, k _ _ ⟨F1, G1, _, s1, S1, .int _, h1⟩⟩
    | _ => exact h1.elim⟩
/-- comparisons of ints, of texts -/
def cmpD (p : Int → Int → Bool) : R2D := fun a b G Q => match a, b with | .int i, .int j => Q (.bl (p i j)) G | _, _ => False
theorem cmp_A {p : Int → Int → Bool} : OpA K (rI0 fun i j => .bl (p i j)) (cmpD p) := fun B σ δ H F G x y a b Qd Q S r1 r2 h k => by
  unfold cmpD at h
  split at h
  · rw [rep_int r1, rep_int r2]
    exact ⟨_, _, rfl, rfl, k _ _ (.val S (.bl _) h)⟩
  · exact h.elim
abbrev ltD : R2D := cmpD fun i j => decide (i < j)
abbrev leD : R2D := cmpD fun i j => decide (i ≤ j)
abbrev gtD : R2D := cmpD fun i j => decide (j < i)
abbrev geD : R2D := cmpD fun i j => decide (j ≤ i)
theorem lt_A : OpA K (rI0 fun i j => .bl (decide (i < j))) ltD := cmp_A
theorem le_A : OpA K (rI0 fun i j => .bl (decide (i ≤ j))) leD := cmp_A
theorem gt_A : OpA K (rI0 fun i j => .bl (decide (j < i))) gtD := cmp_A
theorem ge_A : OpA K (rI0 fun i j => .bl (decide (j ≤ i))) geD := cmp_A
def isNon : D → Bool
  | .non => true
  | _ => false
def isND : R2D := fun a b G Q => match b with | .non => Q (.bl (isNon a)) G | _ => False
def notND : R2D := fun a b G Q => match b with | .non => Q (.bl (!isNon a)) G | _ => False
theorem rep_isnon {F : Hp} {v : V} {d : D} (r : Rep K F v d) : decide (v = .non) = isNon d := by
  cases r <;> rfl
theorem isN_A : OpA K (fun x y H Q => y = .non ∧ Q (.bl (decide (x = .non))) H) isND := fun B σ δ H F G x y a b Qd Q S r1 r2 h k => by
  unfold isND at h
  split at h
  · refine ⟨rep_non r2, k _ _ (.val S (.bl _) ?_)⟩
    rw [rep_isnon r1]
    exact h
  · exact h.elim
theorem notN_A : OpA K (fun x y H Q => y = .non ∧ Q (.bl (!decide (x = .non))) H) notND := fun B σ δ H F G x y a b Qd Q S r1 r2 h k => by
  unfold notND at h
  split at h
  · refine ⟨rep_non r2, k _ _ (.val S (.bl _) ?_)⟩
    rw [rep_isnon r1]
    exact h
  · exact h.elim
/-! data that is compared by == as it stands -/
mutual
inductive DP : D → PyData → Prop
  | non : DP .non .none
  | bl (b : Bool) : DP (.bl b) (.bool b)
  | int (i : Int) : DP (.int i) (.int i)
  | str (x : Str) : DP (.str x) (.str x)
  | lst {ds : List D} {ps : List PyData} : DPs ds ps → DP (.lst ds) (.list ps)
  | tup {ds : List D} {ps : List PyData} : DPs ds ps → DP (.tup ds) (.tuple ps)
inductive DPs : List D → List PyData → Prop
  | nil : DPs [] []
  | cons {d : D} {ds : List D} {p : PyData} {ps : List PyData} : DP d p → DPs ds ps → DPs (d :: ds) (p :: ps)
end
mutual
theorem DP.rep (s : Same F H) : ∀ {d : D} {p : PyData} {v : V}, DP d p → Rep K F v d → Dp K H v p
  | _, _, _, .non, r => by cases r; exact .non
  | _, _, _, .bl b, r => by cases r; exact .bl b
  | _, _, _, .int i, r => by cases r; exact .int i
  | _, _, _, .str x, r => by cases r; exact .str x
  | _, _, _, .lst h, r => by
    cases r with
    | lst e q => exact .lst (.of (s _ _ e)) (DPs.rep s h q)
  | _, _, _, .tup h, r => by
    cases r with
    | tup e q => exact .tup (.of (s _ _ e)) (DPs.rep s h q)
theorem DPs.rep (s : Same F H) : ∀ {d : List D} {p : List PyData} {v : List V}, DPs d p → RepAll K F v d → DpAll K H v p
  | _, _, _, .nil, r => by cases r; exact .nil
  | _, _, _, .cons h t, r => by
    cases r with
    | cons r q => exact .cons (DP.rep s h r) (DPs.rep s t q)
end
theorem dps_ints : ∀ ns : List Int, DPs (ns.map D.int) (ns.map PyData.int)
  | [] => .nil
  | n :: ns => .cons (.int n) (dps_ints ns)
def eqD2 : R2D := fun a b G Q => ∃ p q, DP a p ∧ DP b q ∧ SeqAt.shaped p = true ∧ SeqAt.shaped q = true ∧ Q (.bl (PyData.eqv p q)) G
def neD2 : R2D := fun a b G Q => ∃ p q, DP a p ∧ DP b q ∧ SeqAt.shaped p = true ∧ SeqAt.shaped q = true ∧ Q (.bl (!PyData.eqv p q)) G
theorem eq_A : OpA K (rEqD K) eqD2 := fun B σ δ H F G x y a b Qd Q S r1 r2 ⟨p, q, hp, hq, s1, s2, h⟩ k => ⟨p, q, hp.rep S.ds.sub r1, hq.rep S.ds.sub r2, s1, s2, k _ _ (.val S (.bl _) h)⟩
theorem ne_A : OpA K (rNeD K) neD2 := fun B σ δ H F G x y a b Qd Q S r1 r2 ⟨p, q, hp, hq, s1, s2, h⟩ k => ⟨p, q, hp.rep S.ds.sub r1, hq.rep S.ds.sub r2, s1, s2, k _ _ (.val S (.bl _) h)⟩
/-- in a list or a tuple of plain things -/
inductive Fl : V → D → Prop
  | non : Fl .non .non | bl (b : Bool) : Fl (.bl b) (.bl b) | int (i : Int) : Fl (.int i) (.int i) | str (x : Str) : Fl (.str x) (.str x)
theorem Fl.rep {F : Hp} {v u : V} {d : D} (f : Fl v d) (r : Rep K F u d) : u = v ∧ flatV v = true := by
  cases f <;> cases r <;> exact ⟨rfl, rfl⟩
theorem fl_all {F : Hp} : ∀ {vs us : List V} {ds : List D}, Paired Fl vs ds → RepAll K F us ds → us = vs ∧ vs.all flatV = true
  | _, _, _, .nil, .nil => ⟨rfl, rfl⟩
  | _, _, _, .cons f t, .cons r q => by
    obtain ⟨e1, g1⟩ := f.rep r
    obtain ⟨e2, g2⟩ := fl_all t q
    exact ⟨by rw [e1, e2], by rw [List.all_cons, g1, g2]; rfl⟩
def seqD (d : D) (G : Gm) : Option (List D) := match d with
  | .lst ds => some ds
  | .tup ds => some ds
  | .adr a => match G a with | some (.lst ds) => some ds | _ => none
  | _ => none
theorem seq_rep {v : V} {d : D} {ds : List D} (S : Sit K B σ H F δ G) (r : Rep K F v d) (h : seqD d G = some ds) : ∃ p xs, v = .ref p ∧ (SqL K H p xs ∨ SqT K H p xs) ∧ RepAll K F xs ds := by
  cases d with
  | lst es =>
    cases h
    obtain ⟨p, xs, e, h1, h2⟩ := rep_lst r
    exact ⟨p, xs, e, .inl (.of (S.ds.sub _ _ h1)), h2⟩
  | tup es =>
    cases h
    obtain ⟨p, xs, e, h1, h2⟩ := rep_tup r
    exact ⟨p, xs, e, .inr (.of (S.ds.sub _ _ h1)), h2⟩
  | adr a =>
    cases r
    cases g : G a with
    | none => simp [seqD, g] at h
    | some mo =>
      cases mo with
      | lst es =>
        simp only [seqD, g, Option.some.injEq] at h
        subst h
        obtain ⟨xs, e, q⟩ := (S.ds.mu a _ g).2
        exact ⟨a, xs, rfl, .inl (.of e), q⟩
      | _ => simp [seqD, g] at h
  | _ => simp [seqD] at h
def inD (neg : Bool) : R2D := fun a b G Q => match seqD b G with | some ds => ∃ v vs, Fl v a ∧ Paired Fl vs ds ∧ Q (.bl (if neg then !inV v vs else inV v vs)) G | none => False
theorem in_A {neg : Bool} : OpA K (rIn K neg) (inD neg) := fun B σ δ H F G x y a b Qd Q S r1 r2 h k => by
  unfold inD at h
  split at h
  · rename_i ds e
    obtain ⟨v, vs, f1, f2, q⟩ := h
    obtain ⟨p, xs, rfl, hs, ra⟩ := seq_rep S r2 e
    obtain ⟨rfl, g1⟩ := f1.rep r1
    obtain ⟨rfl, g2⟩ := fl_all f2 ra
    exact ⟨p, xs, rfl, hs, g1, g2, k _ _ (.val S (.bl _) q)⟩
  · exact h.elim
/-- d[i] -/
def ixD : R2D := fun a b G Q => match b with
  | .int i => (match a with
    | .str z => z.length ≤ sizeLine ∧ (match atI z.cps.toList i with | some c => Q (.str ⟨#[c]⟩) G | none => False)
    | _ => match seqD a G with | some ds => (match atI ds i with | some d => Q d G | none => False) | none => False)
  | _ => False
theorem atI_rep {F : Hp} {xs : List V} {ds : List D} {i : Int} {d : D} (r : RepAll K F xs ds) (h : atI ds i = some d) : ∃ v, atI xs i = some v ∧ Rep K F v d := by
  unfold atI at h ⊢
  rw [r.length]
  cases e : ixN ds.length i with
  | none => rw [e] at h; cases h
  | some j =>
    rw [e] at h
    exact r.get h
theorem ix_A : OpA K (rIx K) ixD := fun B σ δ H F G x y a b Qd Q S r1 r2 h k => by
  cases b with
  | int i =>
    cases r2
    have main : ∀ {ds : List D} {d : D}, seqD a G = some ds → atI ds i = some d → Qd d G → rIx K x (.int i) H Q := fun {ds d} e1 e2 q => by
      obtain ⟨p, xs, rfl, hs, ra⟩ := seq_rep S r1 e1
      obtain ⟨v, ev, rv⟩ := atI_rep ra e2
      rcases hs with hs | hs
      · exact .inl ⟨p, xs, i, v, rfl, rfl, hs, ev, k _ _ (.val S rv q)⟩
      · exact .inr (.inl ⟨p, xs, i, v, rfl, rfl, hs, ev, k _ _ (.val S rv q)⟩)
    have tail : (match seqD a G with | some ds => (match atI ds i with | some d => Qd d G | none => False) | none => False) → rIx K x (.int i) H Q := fun h => by
      cases e : seqD a G with
      | none => simp only [e] at h
      | some ds =>
        simp only [e] at h
        cases e2 : atI ds i with
        | none => simp only [e2] at h
        | some d =>
          simp only [e2] at h
          exact main e e2 h
    cases a with
    | str z =>
      cases r1
      obtain ⟨h1, h2⟩ := h
      cases e : atI z.cps.toList i with
      | none => simp only [e] at h2
      | some c =>
        simp only [e] at h2
        exact .inr (.inr ⟨z, i, c, rfl, rfl, h1, e, k _ _ (.val S (.str _) h2)⟩)
    | _ => exact tail h
  | _ => exact h.elim
end
end JP

namespace JP
open PySem PySem.Spec PyProof.Rows L2
section
variable {X : Cx} {B : Bs} {K : PySem.W.Frag} {a b e : Expr} {es : List Expr} {ta tb te : TED} {t : TAD} {pos p : Pos}
variable {σ : L2.St} {H F : Hp} {δ : SD} {G : Gm} {W : WD}
/-! ### types -/
def kiD : D → Option Ki
  | .non => some .non | .bl _ => some .bl | .int _ => some .int | .str _ => some .str | .lst _ => some .lst | .tup _ => some .tup | .dic _ => some .dct | .dit _ => some .dct
  | _ => none
inductive TyD (K : PySem.W.Frag) (d : D) (G : Gm) : Value → Prop
  | ki {k : Ki} : kiD d = some k → TyD K d G (.type k.name)
  | ins {C : Addr} {fs : List (Str × D)} : insD d G = some (C, fs) → TyD K d G (.ref C)
theorem ki_ty {v : V} {d : D} {k : Ki} (S : Same F H) (r : Rep K F v d) (h : kiD d = some k) : TyX K H v (.type k.name) := by
  cases r with
  | dk q r =>
    cases h
    rcases q with q | ⟨o, q⟩
    · exact .base (.dK (S _ _ q))
    · exact .fDict (S _ _ q)
  | dt q r => cases h; exact .base (.dT (S _ _ q))
  | tup q r => cases h; exact .base (.tup (S _ _ q))
  | lst q r => cases h; exact .base (.lst (S _ _ q))
  | non => cases h; exact .base .non
  | bl b => cases h; exact .base (.bl b)
  | int b => cases h; exact .base (.int b)
  | str b => cases h; exact .base (.str b)
  | _ => cases h
theorem tyD_ty {v : V} {d : D} {t : Value} (S : Sit K B σ H F δ G) (r : Rep K F v d) (h : TyD K d G t) : TyX K H v t := by
  cases h with
  | ki h => exact ki_ty S.ds.sub r h
  | ins h =>
    obtain ⟨a, dx, fv, rfl, e, gc, _, _⟩ := ins_rep S r h
    exact .base (.ins e gc.cl gc.ca gc.sg gc.tk gc.mr)
theorem kit_any {K : PySem.W.Frag} (k : Ki) : ∀ ks : List Ki, PySem.W.kitAny K (.type k.name) (ks.map fun j => .type j.name) = some (ks.any k.below)
  | [] => rfl
  | j :: js => by
    have h1 := ki_kit (K := K) k j
    have h2 := kit_any (K := K) k js
    rw [List.map_cons, List.any_cons]
    show (match PySem.W.kitOne K (.type k.name) (.type j.name) with | some true => _ | some false => _ | none => _) = _
    rw [h1]
    cases k.below j with
    | true => rfl
    | false => exact h2
theorem mem_ty : ∀ j : Ki, j = .non ∨ j.name ∈ tyNames := by intro j; cases j <;> first | exact .inl rfl | (right; simp [Ki.name, tyNames])
/-- isinstance(x, T), T built-in -/
def isK (d : D) (G : Gm) (j : Ki) : Option Bool := match kiD d with
  | some k => some (k.below j)
  | none => match insD d G with | some _ => (if j = .non then none else some false) | none => none
def dIsK (j : Ki) (te : TED) : TED := fun δ G Q => te δ G fun d G1 => match isK d G1 j with | some b => Q (.bl b) G1 | none => False
theorem isK_ty {v : V} {d : D} {j : Ki} {b : Bool} (S : Sit K B σ H F δ G) (r : Rep K F v d) (h : isK d G j = some b) : ∃ t, TyX K H v t ∧ PySem.W.kitOne K t (.type j.name) = some b := by
  cases q : kiD d with
  | some k =>
    simp only [isK, q, Option.some.injEq] at h
    subst h
    exact ⟨_, ki_ty S.ds.sub r q, ki_kit k j⟩
  | none =>
    cases i : insD d G with
    | none => simp [isK, q, i] at h
    | some cf =>
      obtain ⟨C, fs⟩ := cf
      simp only [isK, q, i] at h
      split at h
      · cases h
      · rename_i nj
        cases h
        obtain ⟨a, dx, fv, rfl, e, gc, _, _⟩ := ins_rep S r i
        exact ⟨.ref C, .base (.ins e gc.cl gc.ca gc.sg gc.tk gc.mr), gc.kt _ ((mem_ty j).resolve_left nj)⟩
theorem de_isK {c : Expr} {j : Ki} (hg : Gl X "isinstance") (hm : X.mg "isinstance" = none) (hv : bootBuiltins "isinstance" = some (.builtin "isinstance")) (ha : DE X B e te) (hc : PE X c (tC (.ty j.name)))
    (h1 : starEach [e, c] X.env = (false, eval e X.env) :: starEach [c] X.env := by rfl) (h2 : starEach [c] X.env = (false, eval c X.env) :: starEach [] X.env := by rfl) (hpl : (backTo pos (starEach [c] X.env)).any (·.1) = false := by rfl) :
    DE X B (.Call (.Name "isinstance" p) [e, c] [] pos) (dIsK j te) :=
  PE.weak (pe_callB call_isi hg hm hv (pa_cons ha (pa_cons hc pa_nil h2) h1) (he := h1) (hpl := hpl)) fun σ H Q ⟨F, G, δ, Qd, S, h, k⟩ => ⟨F, G, δ, _, S, h, fun v H1 ⟨F1, G1, d, s1, S1, r1, h1⟩ => by
    cases q : isK d G1 j with
    | none => simp only [q] at h1
    | some b =>
      simp only [q] at h1
      obtain ⟨t, ty, kt⟩ := isK_ty S1 r1 q
      exact ⟨v, .ty _, t, _, b, rfl, .ty _, ty, kt, k _ _ ⟨F1, G1, _, s1, S1, .bl b, h1⟩⟩⟩
/-- isinstance(x, (T1, T2)) -/
def isKs (d : D) (G : Gm) (js : List Ki) : Option Bool := match kiD d with
  | some k => some (js.any k.below)
  | none => match insD d G with | some _ => (if js.all (fun j => decide (j ≠ .non)) = true then some false else none) | none => none
def dIsKs (js : List Ki) (te : TED) : TED := fun δ G Q => te δ G fun d G1 => match isKs d G1 js with | some b => Q (.bl b) G1 | none => False
theorem kit_anyC {C : Addr} (g : GoodC K C) : ∀ js : List Ki, (∀ j ∈ js, j ≠ .non) → PySem.W.kitAny K (.ref C) (js.map fun j => .type j.name) = some false
  | [], _ => rfl
  | j :: js, h => by
    have h1 := g.kt j.name ((mem_ty j).resolve_left (h j List.mem_cons_self))
    have h2 := kit_anyC g js fun i hi => h i (List.mem_cons_of_mem _ hi)
    rw [List.map_cons]
    show (match PySem.W.kitOne K (.ref C) (.type j.name) with | some true => _ | some false => _ | none => _) = _
    rw [h1]
    exact h2
def tyVs (js : List Ki) : TA := fun _ H Q => Q (js.map fun j => .ty j.name) H
theorem pa_tys_nil : PA X [] (tyVs []) := pa_nil
theorem pa_tys_cons {c : Expr} {j : Ki} {js : List Ki} (hc : PE X c (tC (.ty j.name))) (hr : PA X es (tyVs js)) (h1 : starEach (c :: es) X.env = (false, eval c X.env) :: starEach es X.env := by rfl) : PA X (c :: es) (tyVs (j :: js)) := pa_cons hc hr h1
theorem de_isKs {es : List Expr} {x1} {tp : Pos} {js : List Ki} (hg : Gl X "isinstance") (hm : X.mg "isinstance" = none) (hv : bootBuiltins "isinstance" = some (.builtin "isinstance")) (ha : DE X B e te) (hc : PA X es (tyVs js)) (hl : js.length ≤ sizeLine)
    (h1 : starEach [e, .Tuple es x1 tp] X.env = (false, eval e X.env) :: starEach [.Tuple es x1 tp] X.env := by rfl) (h2 : starEach [.Tuple es x1 tp] X.env = (false, eval (.Tuple es x1 tp) X.env) :: starEach [] X.env := by rfl) (hpl : (backTo pos (starEach [.Tuple es x1 tp] X.env)).any (·.1) = false := by rfl) :
    DE X B (.Call (.Name "isinstance" p) [e, .Tuple es x1 tp] [] pos) (dIsKs js te) :=
  PE.weak (pe_callB call_isiT hg hm hv (pa_cons ha (pa_cons (pe_tup hc) pa_nil h2) h1) (he := h1) (hpl := hpl)) fun σ H Q ⟨F, G, δ, Qd, S, h, k⟩ => ⟨F, G, δ, _, S, h, fun v H1 ⟨F1, G1, d, s1, S1, r1, h1⟩ => by
    refine ⟨by rw [List.length_map]; exact hl, fun tp ntp => ?_⟩
    have s2 := same_new (o := .tup (js.map fun j => V.ty j.name)) ntp
    have S2 := S1.same s2
    have pair : ∀ js : List Ki, Paired ClsV (js.map fun j => V.ty j.name) (js.map fun j => .type j.name) := fun js => by
      induction js with
      | nil => exact .nil
      | cons j js ih => exact .cons (.ty _) ih
    cases q : kiD d with
    | some kk =>
      simp only [isKs, q] at h1
      exact ⟨v, tp, _, _, _, _, rfl, upd_same, pair js, ki_ty S2.ds.sub r1 q, kit_any kk js, k _ _ ⟨F1, G1, _, s1, S2, .bl _, h1⟩⟩
    | none =>
      cases i : insD d G1 with
      | none => simp only [isKs, q, i] at h1
      | some cf =>
        obtain ⟨C, fs⟩ := cf
        by_cases hn : js.all (fun j => decide (j ≠ .non)) = true
        · simp only [isKs, q, i, if_pos hn] at h1
          obtain ⟨a, dx, fv, rfl, e, gc, _, _⟩ := ins_rep S2 r1 i
          exact ⟨_, tp, _, _, _, _, rfl, upd_same, pair js, .base (.ins e gc.cl gc.ca gc.sg gc.tk gc.mr), kit_anyC gc js (fun j hj => of_decide_eq_true (List.all_eq_true.mp hn j hj)), k _ _ ⟨F1, G1, _, s1, S2, .bl _, h1⟩⟩
        · simp only [isKs, q, i, if_neg hn] at h1⟩
/-- isinstance(x, C), C an own class -/
def dIsC (K : PySem.W.Frag) (C : Addr) (te : TED) : TED := fun δ G Q => te δ G fun d G1 => ∃ t b, TyD K d G1 t ∧ PySem.W.kitOne K t (.ref C) = some b ∧ Q (.bl b) G1
theorem de_isC {c : Expr} {C : Addr} (hg : Gl X "isinstance") (hm : X.mg "isinstance" = none) (hv : bootBuiltins "isinstance" = some (.builtin "isinstance")) (ha : DE X B e te) (hc : PE X c (tC (.ref C)))
    (h1 : starEach [e, c] X.env = (false, eval e X.env) :: starEach [c] X.env := by rfl) (h2 : starEach [c] X.env = (false, eval c X.env) :: starEach [] X.env := by rfl) (hpl : (backTo pos (starEach [c] X.env)).any (·.1) = false := by rfl) :
    DE X B (.Call (.Name "isinstance" p) [e, c] [] pos) (dIsC X.K C te) :=
  PE.weak (pe_callB call_isi hg hm hv (pa_cons ha (pa_cons hc pa_nil h2) h1) (he := h1) (hpl := hpl)) fun σ H Q ⟨F, G, δ, Qd, S, h, k⟩ => ⟨F, G, δ, _, S, h, fun v H1 ⟨F1, G1, d, s1, S1, r1, t, b, ty, kt, h1⟩ =>
    ⟨v, .ref C, t, _, b, rfl, .own C, tyD_ty S1 r1 ty, kt, k _ _ ⟨F1, G1, _, s1, S1, .bl b, h1⟩⟩⟩
/-- isinstance(e, C), e a caught exception -/
def dIsX (K : PySem.W.Frag) (C : Addr) (te : TED) : TED := fun δ G Q => te δ G fun d G1 => match d with | .exc A _ => ∃ b, PySem.W.kitOne K (.ref A) (.ref C) = some b ∧ Q (.bl b) G1 | _ => False
theorem de_isX {c : Expr} {C : Addr} (hg : Gl X "isinstance") (hm : X.mg "isinstance" = none) (hv : bootBuiltins "isinstance" = some (.builtin "isinstance")) (ha : DE X B e te) (hc : PE X c (tC (.ref C)))
    (h1 : starEach [e, c] X.env = (false, eval e X.env) :: starEach [c] X.env := by rfl) (h2 : starEach [c] X.env = (false, eval c X.env) :: starEach [] X.env := by rfl) (hpl : (backTo pos (starEach [c] X.env)).any (·.1) = false := by rfl) :
    DE X B (.Call (.Name "isinstance" p) [e, c] [] pos) (dIsX X.K C te) :=
  PE.weak (pe_callB call_isX hg hm hv (pa_cons ha (pa_cons hc pa_nil h2) h1) (he := h1) (hpl := hpl)) fun σ H Q ⟨F, G, δ, Qd, S, h, k⟩ => ⟨F, G, δ, _, S, h, fun v H1 ⟨F1, G1, d, s1, S1, r1, h1⟩ => by
    cases d with
    | exc A fs =>
      obtain ⟨b, kt, h1⟩ := h1
      cases r1 with
      | exc hx g rf => exact ⟨_, A, _, .ref C, _, b, rfl, .own C, g, hx.same S1.ds.sub, kt, k _ _ ⟨F1, G1, _, s1, S1, .bl b, h1⟩⟩
    | _ => exact h1.elim⟩
/-- e.f, e a caught exception -/
def dXa (K : PySem.W.Frag) (f : Str) (te : TED) : TED := fun δ G Q => te δ G fun d G1 => match d with | .exc C fs => XfC K C ∧ PySem.W.findIn K (.ref C) f = some none ∧ (match fs.lookup f with | some y => Q y G1 | none => False) | _ => False
theorem de_xa {n : Str} (he : DE X B e te) (hb : attributeBase e n X.env (eval e X.env) = eval e X.env := by rfl) : DE X B (.Attribute e n pos) (dXa X.K n te) :=
  PE.weak (pe_xa he hb) fun σ H Q ⟨F, G, δ, Qd, S, h, k⟩ => ⟨F, G, δ, _, S, h, fun v H1 ⟨F1, G1, d, s1, S1, r1, h1⟩ => by
    cases d with
    | exc C fs =>
      obtain ⟨xf, no, h1⟩ := h1
      cases l : fs.lookup n with
      | none => simp only [l] at h1
      | some y =>
        simp only [l] at h1
        cases r1 with
        | exc hx g rf =>
          obtain ⟨u, lu, ru⟩ := rf.look l
          exact ⟨_, C, _, u, rfl, xf, no, hx.same S1.ds.sub, lu, k _ _ ⟨F1, G1, _, s1, S1, ru, h1⟩⟩
    | _ => exact h1.elim⟩

/-! ### built-in calls -/
def CallA (K : PySem.W.Frag) (rv : List V → Hp → VK → Prop) (r : List D → Gm → QD → Prop) : Prop := ∀ (B : Bs) (σ : L2.St) (δ : SD) (H F : Hp) (G : Gm) (xs : List V) (ds : List D) (Qd : QD) (Q : VK), Sit K B σ H F δ G → RepAll K F xs ds → r ds G Qd → (∀ v H', Beh K B σ F δ Qd v H' → Q v H') → rv xs H Q
def dCB (r : List D → Gm → QD → Prop) (t : TAD) : TED := fun δ G Q => t δ G fun ds G1 => r ds G1 Q
theorem cb_adeq {rv : List V → Hp → VK → Prop} {r : List D → Gm → QD → Prop} (hA : CallA K rv r) {Q : VK} (h : up K B (dCB r t) σ H Q) : tCB rv (upA K B t) σ H Q := by
  obtain ⟨F, G, δ, Qd, S, h, k⟩ := h
  exact ⟨F, G, δ, _, S, h, fun vs H1 ⟨F1, G1, ds, s1, S1, r1, h1⟩ => hA B σ δ H1 F1 G1 vs ds Qd Q S1 r1 h1 fun v H' ⟨F', G', d, s', S', r', q'⟩ => k v H' ⟨F', G', d, s1.trans s', S', r', q'⟩⟩
theorem de_callB {id : String} {x : Str} {rv : List V → Hp → VK → Prop} {r : List D → Gm → QD → Prop} (hc : CallR X (.builtin id) rv) (hA : CallA X.K rv r) (hg : Gl X x) (hm : X.mg x = none) (hv : bootBuiltins x = some (.builtin id)) (ha : DA X B (e :: es) t) (hn : x ≠ "__name__" := by decide) (hdb : (x == ("__debug__" : Str)) = false := by decide)
    (he : starEach (e :: es) X.env = (false, eval e X.env) :: starEach es X.env := by rfl) (hpl : (backTo pos (starEach es X.env)).any (·.1) = false := by rfl) : DE X B (.Call (.Name x p) (e :: es) [] pos) (dCB r t) :=
  PE.weak (pe_callB hc hg hm hv ha (hn := hn) (hdb := hdb) (he := he) (hpl := hpl)) fun σ H Q h => cb_adeq hA h
theorem de_callTy {T : String} {x : Str} {rv : List V → Hp → VK → Prop} {r : List D → Gm → QD → Prop} (hc : CallR X (.type T) rv) (hA : CallA X.K rv r) (hg : Gl X x) (hm : X.mg x = none) (hv : bootBuiltins x = some (.type T)) (ha : DA X B (e :: es) t) (hn : x ≠ "__name__" := by decide) (hdb : (x == ("__debug__" : Str)) = false := by decide)
    (he : starEach (e :: es) X.env = (false, eval e X.env) :: starEach es X.env := by rfl) (hpl : (backTo pos (starEach es X.env)).any (·.1) = false := by rfl) : DE X B (.Call (.Name x p) (e :: es) [] pos) (dCB r t) :=
  PE.weak (pe_callTy hc hg hm hv ha (hn := hn) (hdb := hdb) (he := he) (hpl := hpl)) fun σ H Q h => cb_adeq hA h
theorem repAll1 {vs : List V} {d : D} (r : RepAll K F vs [d]) : ∃ v, vs = [v] ∧ Rep K F v d := by
  cases r with
  | cons h t => cases t; exact ⟨_, rfl, h⟩
theorem repAll2 {vs : List V} {d d' : D} (r : RepAll K F vs [d, d']) : ∃ v u, vs = [v, u] ∧ Rep K F v d ∧ Rep K F u d' := by
  cases r with
  | cons h t =>
    obtain ⟨u, rfl, h2⟩ := repAll1 t
    exact ⟨_, u, rfl, h, h2⟩
abbrev LD := List D → Gm → QD → Prop
/-- len -/
def lenD : LD := fun ds G Q => match ds with
  | [.str z] => z.length ≤ sizeLine ∧ Q (.int z.length) G
  | [d] => (match seqD d G with | some es => Q (.int es.length) G | none => False)
  | _ => False
abbrev rLen2 (K : PySem.W.Frag) : List V → Hp → VK → Prop := fun xs H Q => (∃ p ys, xs = [.ref p] ∧ (SqL K H p ys ∨ SqT K H p ys) ∧ Q (.int ys.length) H) ∨ (∃ z, xs = [.str z] ∧ z.length ≤ sizeLine ∧ Q (.int z.length) H)
theorem call_len2 : CallR X (.builtin "len") (rLen2 X.K) := call_len_seq.or call_len_str
theorem len_A : CallA K (rLen2 K) lenD := fun B σ δ H F G xs ds Qd Q S r h k => by
  have main : ∀ {d : D}, ds = [d] → (match seqD d G with | some es => Qd (.int es.length) G | none => False) → rLen2 K xs H Q := fun {d} ed hh => by
    subst ed
    obtain ⟨v, rfl, rv⟩ := repAll1 r
    cases e : seqD d G with
    | none =>
      rw [e] at hh
      exact hh.elim
    | some es =>
      rw [e] at hh
      obtain ⟨p, xs, rfl, hs, ra⟩ := seq_rep S rv e
      exact .inl ⟨p, xs, rfl, hs, k _ _ (.val S (.int _) (by rw [ra.length]; exact hh))⟩
  unfold lenD at h
  split at h
  · obtain ⟨v, rfl, rv⟩ := repAll1 r
    rw [rep_str rv]
    exact .inr ⟨_, rfl, h.1, k _ _ (.val S (.int _) h.2)⟩
  · exact main rfl h
  · exact h.elim
/-- sum, all, any of a list that was made -/
def sumD : LD := fun ds G Q => ∃ ns : List Int, ds = [.lst (ns.map .int)] ∧ Q (.int ns.sum) G
theorem rep_ints {xs : List V} : ∀ {ns : List Int}, RepAll K F xs (ns.map .int) → xs = ns.map V.int := by
  intro ns
  induction ns generalizing xs with
  | nil => intro r; cases r; rfl
  | cons n ns ih => intro r; cases r with | cons h t => cases h; rw [ih t]; rfl
theorem rep_bls {xs : List V} : ∀ {ns : List Bool}, RepAll K F xs (ns.map .bl) → xs = ns.map V.bl := by
  intro ns
  induction ns generalizing xs with
  | nil => intro r; cases r; rfl
  | cons n ns ih => intro r; cases r with | cons h t => cases h; rw [ih t]; rfl
theorem sum_A : CallA K (rSum K) sumD := fun B σ δ H F G xs ds Qd Q S r ⟨ns, e, h⟩ k => by
  subst e
  obtain ⟨v, rfl, rv⟩ := repAll1 r
  obtain ⟨p, us, rfl, e1, q1⟩ := rep_lst rv
  exact ⟨p, ns, rfl, .of (by rw [← rep_ints q1]; exact S.ds.sub _ _ e1), k _ _ (.val S (.int _) h)⟩
def allD : LD := fun ds G Q => ∃ bs : List Bool, ds = [.lst (bs.map .bl)] ∧ Q (.bl (bs.all id)) G
def anyD : LD := fun ds G Q => ∃ bs : List Bool, ds = [.lst (bs.map .bl)] ∧ Q (.bl (bs.any id)) G
theorem all_A : CallA K (rAll K) allD := fun B σ δ H F G xs ds Qd Q S r ⟨ns, e, h⟩ k => by
  subst e
  obtain ⟨v, rfl, rv⟩ := repAll1 r
  obtain ⟨p, us, rfl, e1, q1⟩ := rep_lst rv
  exact ⟨p, ns, rfl, .of (by rw [← rep_bls q1]; exact S.ds.sub _ _ e1), k _ _ (.val S (.bl _) h)⟩
theorem any_A : CallA K (rAny K) anyD := fun B σ δ H F G xs ds Qd Q S r ⟨ns, e, h⟩ k => by
  subst e
  obtain ⟨v, rfl, rv⟩ := repAll1 r
  obtain ⟨p, us, rfl, e1, q1⟩ := rep_lst rv
  exact ⟨p, ns, rfl, .of (by rw [← rep_bls q1]; exact S.ds.sub _ _ e1), k _ _ (.val S (.bl _) h)⟩
def absD : LD := fun ds G Q => match ds with | [.int i] => Q (.int (if i < 0 then -i else i)) G | _ => False
theorem abs_A : CallA K (fun xs H Q => ∃ i, xs = [.int i] ∧ Q (.int (if i < 0 then -i else i)) H) absD := fun B σ δ H F G xs ds Qd Q S r h k => by
  unfold absD at h
  split at h
  · obtain ⟨v, rfl, rv⟩ := repAll1 r
    rw [rep_int rv]
    exact ⟨_, rfl, k _ _ (.val S (.int _) h)⟩
  · exact h.elim
def intD : LD := fun ds G Q => match ds with | [.int i] => Q (.int i) G | [.bl c] => Q (.int (if c then 1 else 0)) G | _ => False
theorem int_A : CallA K (fun xs H Q => (∃ i, xs = [.int i] ∧ Q (.int i) H) ∨ ∃ k, xs = [.bl k] ∧ Q (.int (if k then 1 else 0)) H) intD := fun B σ δ H F G xs ds Qd Q S r h k => by
  unfold intD at h
  split at h
  · obtain ⟨v, rfl, rv⟩ := repAll1 r
    rw [rep_int rv]
    exact .inl ⟨_, rfl, k _ _ (.val S (.int _) h)⟩
  · obtain ⟨v, rfl, rv⟩ := repAll1 r
    rw [rep_bl rv]
    exact .inr ⟨_, rfl, k _ _ (.val S (.int _) h)⟩
  · exact h.elim
/-- repr of data -/
def reprD : LD := fun ds G Q => ∃ d p, ds = [d] ∧ DP d p ∧ p.showable = true ∧ p.hasDict = false ∧ p.depth ≤ 60 ∧ p.shown.length ≤ sizeLine ∧ Q (.str p.shown) G
theorem repr_A : CallA K (rRepr K) reprD := fun B σ δ H F G xs ds Qd Q S r ⟨d, p, e, hp, h1, h2, h3, h4, h⟩ k => by
  subst e
  obtain ⟨v, rfl, rv⟩ := repAll1 r
  exact ⟨v, p, rfl, hp.rep S.ds.sub rv, h1, h2, h3, h4, k _ _ (.val S (.str _) h)⟩
/-- tuple(..), list(..) -/
def tupD : LD := fun ds G Q => match ds with | [.lst es] => Q (.tup es) G | [.tup es] => Q (.tup es) G | _ => False
theorem tup_A : CallA K (fun xs H Q => ∃ p ys, xs = [.ref p] ∧ ((SqL K H p ys ∧ ∀ l, H l = none → Q (.ref l) (upd H l (.tup ys))) ∨ (SqT K H p ys ∧ Q (.ref p) H))) tupD := fun B σ δ H F G xs ds Qd Q S r h k => by
  unfold tupD at h
  split at h
  · obtain ⟨v, rfl, rv⟩ := repAll1 r
    obtain ⟨p, us, rfl, e1, q1⟩ := rep_lst rv
    exact ⟨p, us, rfl, .inl ⟨.of (S.ds.sub _ _ e1), fun l nl => k _ _ (.gotT S (same_new nl) upd_same q1 h)⟩⟩
  · obtain ⟨v, rfl, rv⟩ := repAll1 r
    obtain ⟨p, us, rfl, e1, q1⟩ := rep_tup rv
    exact ⟨p, us, rfl, .inr ⟨.of (S.ds.sub _ _ e1), k _ _ (.val S (.tup e1 q1) h)⟩⟩
  · exact h.elim
def lstD : LD := fun ds G Q => match ds with | [d] => (match seqD d G with | some es => Q (.lst es) G | none => False) | _ => False
theorem lst_A : CallA K (fun xs H Q => ∃ p ys, xs = [.ref p] ∧ (SqL K H p ys ∨ SqT K H p ys) ∧ ∀ l, H l = none → Q (.ref l) (upd H l (.lst ys))) lstD := fun B σ δ H F G xs ds Qd Q S r h k => by
  unfold lstD at h
  split at h
  · rename_i d
    obtain ⟨v, rfl, rv⟩ := repAll1 r
    cases e : seqD d G with
    | none => simp only [e] at h
    | some es =>
      simp only [e] at h
      obtain ⟨p, xs, rfl, hs, ra⟩ := seq_rep S rv e
      exact ⟨p, xs, rfl, hs, fun l nl => k _ _ (.newL S nl ra h)⟩
  · exact h.elim

/-! ### slices -/
abbrev TOD := SD → Gm → (Option Int → Gm → Prop) → Prop
def upO (K : PySem.W.Frag) (B : Bs) (T : TOD) : TO := fun σ H Q => ∃ F G δ Qd, Sit K B σ H F δ G ∧ T δ G Qd ∧ ∀ o H', (∃ F' G', Same F F' ∧ Sit K B σ H' F' δ G' ∧ Qd o G') → Q o H'
def DO (X : Cx) (B : Bs) (e : Option Expr) (T : TOD) : Prop := PO X e (upO X.K B T)
def oNone : TOD := fun _ G Q => Q none G
def oSome (te : TED) : TOD := fun δ G Q => te δ G fun d G1 => match d with | .int i => Q (some i) G1 | _ => False
theorem do_none : DO X B none oNone := ⟨fun pins s σ H Q I ⟨F, G, δ, Qd, S, h, k⟩ => po_none.run pins s σ H Q I (k none H ⟨F, G, .refl F, S, h⟩)⟩
theorem do_some (h : DE X B e te) : DO X B (some e) (oSome te) := ⟨fun pins s σ H Q I ⟨F, G, δ, Qd, S, q, k⟩ => (po_some h).run pins s σ H Q I ⟨F, G, δ, _, S, q, fun v H1 ⟨F1, G1, d, s1, S1, r1, h1⟩ => by
    cases d with
    | int i =>
      cases r1
      exact ⟨i, rfl, k _ _ ⟨F1, G1, s1, S1, h1⟩⟩
    | _ => exact h1.elim⟩⟩
def cutD {α : Type} (xs : List α) (lo hi : Option Int) : List α := (xs.drop (HT.sIx xs.length 0 lo)).take (HT.sIx xs.length xs.length hi - HT.sIx xs.length 0 lo)
/-- a list, changeable or not -/
def lsD (d : D) (G : Gm) : Option (List D) := match d with
  | .lst ds => some ds
  | .adr a => match G a with | some (.lst ds) => some ds | _ => none
  | _ => none
theorem ls_rep {v : V} {d : D} {ds : List D} (S : Sit K B σ H F δ G) (r : Rep K F v d) (h : lsD d G = some ds) : ∃ p xs, v = .ref p ∧ H p = some (.lst xs) ∧ RepAll K F xs ds := by
  cases d with
  | lst es =>
    cases h
    obtain ⟨p, xs, e, h1, h2⟩ := rep_lst r
    exact ⟨p, xs, e, S.ds.sub _ _ h1, h2⟩
  | adr a =>
    cases r
    cases g : G a with
    | none => simp [lsD, g] at h
    | some mo =>
      cases mo with
      | lst es =>
        simp only [lsD, g, Option.some.injEq] at h
        subst h
        obtain ⟨xs, e, q⟩ := (S.ds.mu a _ g).2
        exact ⟨a, xs, rfl, e, q⟩
      | _ => simp [lsD, g] at h
  | _ => simp [lsD] at h
def slD (d : D) (G : Gm) (lo hi : Option Int) (Q : QD) : Prop := match d with
  | .tup ds => Q (.tup (cutD ds lo hi)) G
  | .scr ns => Q (.lst ((cutD ns lo hi).map .int)) G
  | _ => match lsD d G with | some ds => Q (.lst (cutD ds lo hi)) G | none => False
def dSl (te : TED) (tl th : TOD) : TED := fun δ G Q => te δ G fun d G1 => tl δ G1 fun lo G2 => th δ G2 fun hi G3 => slD d G3 lo hi Q
theorem cut_rep {xs : List V} {ds : List D} (r : RepAll K F xs ds) (lo hi : Option Int) : RepAll K F (cutV xs lo hi) (cutD ds lo hi) := by
  unfold cutV cutD
  rw [r.length]
  exact (r.drop _).take _
theorem cut_map {α β : Type} (f : α → β) (xs : List α) (lo hi : Option Int) : cutD (xs.map f) lo hi = (cutD xs lo hi).map f := by
  unfold cutD
  rw [List.length_map, List.map_take, List.map_drop]
theorem de_sl {lo hi : Option Expr} {tl th : TOD} {p2 : Pos} (he : DE X B e te) (hl : DO X B lo tl) (hu : DO X B hi th) : DE X B (.Subscript e (.Slice lo hi none p2) pos) (dSl te tl th) :=
  PE.weak (pe_slice (sl_list.or sl_tup2) he hl hu) fun σ H Q ⟨F, G, δ, Qd, S, h, k⟩ => ⟨F, G, δ, _, S, h, fun v H1 ⟨F1, G1, d, s1, S1, r1, h1⟩ => ⟨F1, G1, δ, _, S1, h1, fun l H2 ⟨F2, G2, s2, S2, h2⟩ => ⟨F2, G2, δ, _, S2, h2, fun u H3 ⟨F3, G3, s3, S3, h3⟩ => by
    have r3 := (r1.mono s2).mono s3
    have kk : ∀ v H', Beh X.K B σ F3 δ Qd v H' → Q v H' := fun v H' ⟨F', G', d, s', S', r', q'⟩ => k v H' ⟨F', G', d, ((s1.trans s2).trans s3).trans s', S', r', q'⟩
    have main : (match lsD d G3 with | some ds => Qd (.lst (cutD ds l u)) G3 | none => False) → (rSlL X.K v l u H3 Q ∨ rSl2 v l u H3 Q) := fun h3 => by
      cases e : lsD d G3 with
      | none =>
        rw [e] at h3
        exact h3.elim
      | some ds =>
        rw [e] at h3
        obtain ⟨p, xs, rfl, hs, ra⟩ := ls_rep S3 r3 e
        exact .inl ⟨p, xs, rfl, .of hs, fun q nq => kk _ _ (.newL S3 nq (cut_rep ra l u) h3)⟩
    cases d with
    | tup ds =>
      obtain ⟨p, us, rfl, e1, q1⟩ := rep_tup r3
      exact .inr ⟨p, us, rfl, S3.ds.sub _ _ e1, fun q H' s e => kk _ _ (.gotT S3 s e (cut_rep q1 l u) h3)⟩
    | scr ns =>
      cases r3 with
      | scr hs => exact .inl ⟨_, _, rfl, same_seqL' S3.ds.sub hs, fun q nq => kk _ _ (.newL S3 nq (by rw [show cutV (ns.map V.int) l u = (cutD ns l u).map V.int from cut_map V.int ns l u]; exact repAll_ints _) h3)⟩
    | _ => exact main h3⟩⟩⟩
end
end JP

namespace JP
open PySem PySem.Spec PyProof.Rows L2
section
variable {X : Cx} {B : Bs} {K : PySem.W.Frag} {a b e o : Expr} {es : List Expr} {ta tb te to : TED} {t : TAD} {pos p apos : Pos}
variable {σ : L2.St} {H F : Hp} {δ : SD} {G : Gm} {W : WD}
/-! ### xs.append(e) -/
def lsM (d : D) (G : Gm) : Option (Addr × List D) := match d with
  | .adr a => match G a with | some (.lst ds) => some (a, ds) | _ => none
  | _ => none
theorem lsM_rep {v : V} {d : D} {a : Addr} {ds : List D} (S : Sit K B σ H F δ G) (r : Rep K F v d) (h : lsM d G = some (a, ds)) : d = .adr a ∧ v = .ref a ∧ G a = some (.lst ds) ∧ ∃ xs, H a = some (.lst xs) ∧ RepAll K F xs ds := by
  cases d with
  | adr a' =>
    cases r
    cases g : G a' with
    | none => simp [lsM, g] at h
    | some mo =>
      cases mo with
      | lst es =>
        simp only [lsM, g, Option.some.injEq, Prod.mk.injEq] at h
        obtain ⟨rfl, rfl⟩ := h
        obtain ⟨xs, e, q⟩ := (S.ds.mu _ _ g).2
        exact ⟨rfl, rfl, g, xs, e, q⟩
      | _ => simp [lsM, g] at h
  | _ => simp [lsM] at h
def dApp (to te : TED) : TED := fun δ G Q => to δ G fun d G1 => match lsM d G1 with
  | some _ => te δ G1 fun y G2 => (match lsM d G2 with | some (a, ds) => ds.length < sizeLine ∧ Q .non (updG G2 a (.lst (ds ++ [y]))) | none => False)
  | none => False
theorem de_append (ho : DE X B o to) (he : DE X B e te)
    (hbase : attributeBase o (Str.ofString "append") X.env (eval o X.env) = eval o X.env := by rfl)
    (hfew : ((backTo pos (starEach (e :: []) X.env)).all (fun x => !x.1) && (backToKw pos (keywordEach [] X.env)).all (fun x => x.1.isSome)
      && decide ((e :: ([] : List Expr)).length + ([] : List Keyword).length + (if ([] : List Keyword).isEmpty then 0 else 1) < 30)) = true := by rfl)
    (hline : (apos.endLine == pos.line) = true := by rfl) (hs : starEach (e :: []) X.env = (false, eval e X.env) :: starEach [] X.env := by rfl) (hplain : (backTo pos (starEach [] X.env)).any (·.1) = false := by rfl) :
    DE X B (.Call (.Attribute o (Str.ofString "append") apos) [e] [] pos) (dApp to te) :=
  PE.weak (pe_bm PySem.F.plainAttrs_list PySem.F.slot_list_append PySem.F.type_list_append mt_append ho (pa_cons he pa_nil hs) (hbase := hbase) (hfew := hfew) (hline := hline) (hs := hs) (hplain := hplain)) fun σ H Q ⟨F, G, δ, Qd, S, h, k⟩ => ⟨F, G, δ, _, S, h, fun v H1 ⟨F1, G1, d, s1, S1, r1, h1⟩ => by
    cases q : lsM d G1 with
    | none => simp only [q] at h1
    | some ad =>
      obtain ⟨a, ds⟩ := ad
      simp only [q] at h1
      obtain ⟨rfl, rfl, g, xs, e1, ra⟩ := lsM_rep S1 r1 q
      refine ⟨.inl ⟨rfl, xs, .of e1⟩, F1, G1, δ, _, S1, h1, fun y H2 ⟨F2, G2, dy, s2, S2, r2, h2⟩ => ?_⟩
      cases q2 : lsM (.adr a) G2 with
      | none => simp only [q2] at h2
      | some ad2 =>
        obtain ⟨a2, ds2⟩ := ad2
        simp only [q2] at h2
        obtain ⟨e3, e4, g2, xs2, e5, ra2⟩ := lsM_rep S2 (.adr a) q2
        cases e4
        refine ⟨a, xs2, y, rfl, rfl, e5, by rw [ra2.length]; exact h2.1, k _ _ ⟨F2, _, .non, s1.trans s2, ⟨S2.ds.write (m' := .lst (ds2 ++ [dy])) g2 ⟨_, upd_same, ra2.append (.cons r2 .nil)⟩, S2.gr, S2.sl⟩, .non, h2.2⟩⟩⟩

/-! ### raise -/
def dRaise (W : WD) (C : Addr) (fs : List Str) (t : TAD) : TSD := fun E δ G => t δ G fun ds G1 => ds.length = fs.length ∧ W C (fs.zip ds).reverse G1
theorem xw_new {H1 F1 : Hp} {G1 : Gm} {C d : Addr} {fv : List (Str × V)} {fs : List (Str × D)} (S1 : Sit K B σ H1 F1 δ G1) (n : H1 d = none) (r : RepF K F1 fv fs) (w : W C fs G1) : XW K B W (.ref C) (some d) (upd H1 d (.xd fv)) := by
  obtain ⟨d2, s2⟩ := S1.ds.new (o := .xd fv) n
  exact ⟨_, G1, C, fs, rfl, S1.gr.trans s2, d2, .inr ⟨d, fv, rfl, upd_same, r.mono s2⟩, w⟩
section
variable {k : Nat} {f C : Addr} {fI : Addr} {fd : FuncData} {ps : List Str} {x f1 f2 : Str}
theorem ds_raise1 (hc : X.calm = true) (tk : Takes X fun cls d _ H => XW X.K B W cls d H) (T : OexC X.K C) (iC : PySem.W.findIn X.K (.ref C) "__init__" = some (some (.ref fI))) (tI : PySem.W.typeIn X.K (.ref fI) = some (.type "function"))
    (F1 : FnOk X.prog X.w X.K X.mg X.base CX0 k fI fd ps (spE1 X.K C f1)) (hr : Room (k + 1) X.A) (hb : Binds X.K fd ps []) (hg : Gl X x) (hm : X.mg x = some (.ref C)) (ha : DA X B (e :: es) t)
    (hdb : (x == ("__debug__" : Str)) = false := by decide) (he : starEach (e :: es) X.env = (false, eval e X.env) :: starEach es X.env := by rfl) (hpl : (backTo pos (starEach es X.env)).any (·.1) = false := by rfl) :
    DSt X B (.Raise (some (.Call (.Name x p) (e :: es) [] pos)) none apos) (dRaise W C [f1] t) :=
  PS.weak (ps_raise hc tk (pmk_oex T iC tI F1 hr hb .nil pass0 hg hm ha hdb he hpl)) fun D σ H ⟨F, G, δ, E, S, h, L⟩ => ⟨F, G, δ, _, S, h, fun vs H1 ⟨F1, G1, ds, s1, S1, r1, hl, h1⟩ => by
    match ds, r1, hl, h1 with
    | [d], .cons r .nil, hl, h1 => exact mkE1 fun dd n => xw_new S1 n (.cons r .nil) h1⟩
theorem ds_raise2 (hc : X.calm = true) (tk : Takes X fun cls d _ H => XW X.K B W cls d H) (T : OexC X.K C) (iC : PySem.W.findIn X.K (.ref C) "__init__" = some (some (.ref fI))) (tI : PySem.W.typeIn X.K (.ref fI) = some (.type "function"))
    (F1 : FnOk X.prog X.w X.K X.mg X.base CX0 k fI fd ps (spE2 X.K C f1 f2)) (hr : Room (k + 1) X.A) (hb : Binds X.K fd ps []) (hg : Gl X x) (hm : X.mg x = some (.ref C)) (ha : DA X B (e :: es) t)
    (hdb : (x == ("__debug__" : Str)) = false := by decide) (he : starEach (e :: es) X.env = (false, eval e X.env) :: starEach es X.env := by rfl) (hpl : (backTo pos (starEach es X.env)).any (·.1) = false := by rfl) :
    DSt X B (.Raise (some (.Call (.Name x p) (e :: es) [] pos)) none apos) (dRaise W C [f1, f2] t) :=
  PS.weak (ps_raise hc tk (pmk_oex T iC tI F1 hr hb .nil pass0 hg hm ha hdb he hpl)) fun D σ H ⟨F, G, δ, E, S, h, L⟩ => ⟨F, G, δ, _, S, h, fun vs H1 ⟨F1, G1, ds, s1, S1, r1, hl, h1⟩ => by
    match ds, r1, hl, h1 with
    | [d, d2], .cons r (.cons r2 .nil), hl, h1 => exact mkE2 fun dd n => xw_new S1 n (.cons r2 (.cons r .nil)) h1⟩
end

/-! ### own classes: len, str, ==, !=, C.m(..), x(..) -/
section
variable {k : Nat} {f C pa : Addr} {mc : Value} {fd : FuncData} {ps ks : List Str} {sp : SpD} {x m : Str} {kws : List Keyword} {tk : TAD} {gg : List Value → List Value → List Value} {gV : List V → List V → List V} {gD : List D → List D → List D}
/-- into a def from a state, its end to be looked at -/
theorem low_at {Qd : QD} {Q : VK} {vs : List V} {ds : List D} (S : Sit K B σ H F δ G) (r : RepAll K F vs ds) (h : sp ds G Qd W) (kk : ∀ v H', Beh K B σ F δ Qd v H' → Q v H') : lowSp K sp vs H Q (XW K B W) := low_of kk (.refl F) S r h
def lenOD (C : Addr) (sp : SpD) (W : WD) : LD := fun ds G Q => match ds with
  | [d] => (match insD d G with | some (C', _) => C' = C ∧ sp [d] G (fun z G1 => match z with | .int n => (0 ≤ n ∧ n < 2 ^ 63) ∧ Q (.int n) G1 | _ => False) W | none => False)
  | _ => False
theorem de_lenO (M : OwnM X.K C "__len__" f) (Fn : FnD X.prog X.w X.K X.mg X.base k f fd ps sp) (hb : Binds X.K fd ps []) (hr : Room (k + 1) X.A) (hx : Passes (L2.CX X.prog X.w) X (XW X.K B W)) (hg : Gl X "len") (hm : X.mg "len" = none) (hv : bootBuiltins "len" = some (.builtin "len")) (ha : DA X B [e] t)
    (he : starEach [e] X.env = (false, eval e X.env) :: starEach [] X.env := by rfl) (hpl : (backTo pos (starEach [] X.env)).any (·.1) = false := by rfl) : DE X B (.Call (.Name "len" p) [e] [] pos) (dCB (lenOD C sp W) t) :=
  PE.weak (pe_callB (call_lenO M Fn hb hr hx) hg hm hv ha (he := he) (hpl := hpl)) fun σ H Q ⟨F, G, δ, Qd, S, h, kk⟩ => ⟨F, G, δ, _, S, h, fun vs H1 ⟨F1, G1, ds, s1, S1, r1, h1⟩ => by
    unfold lenOD at h1
    split at h1
    case h_2 => exact h1.elim
    case h_1 d =>
      obtain ⟨v, rfl, r⟩ := repAll1 r1
      cases q : insD d G1 with
      | none => simp only [q] at h1
      | some cf =>
        obtain ⟨C', fs⟩ := cf
        simp only [q] at h1
        obtain ⟨rfl, h2⟩ := h1
        obtain ⟨a, dx, fv, rfl, e1, gc, na, rf⟩ := ins_rep S1 r q
        refine ⟨a, dx, fv, rfl, e1, low_at S1 (.cons r .nil) h2 fun v H' ⟨F', G', d', s', S', r', q'⟩ => ?_⟩
        cases d' with
        | int n =>
          cases r'
          obtain ⟨⟨n0, n1⟩, q'⟩ := q'
          obtain ⟨j, rfl⟩ := Int.eq_ofNat_of_zero_le n0
          exact ⟨j, rfl, by omega, kk _ _ ⟨F', G', _, s1.trans s', S', .int _, q'⟩⟩
        | _ => exact q'.elim⟩
def strOD (C : Addr) (sp : SpD) (W : WD) : LD := fun ds G Q => match ds with
  | [d] => (match insD d G with | some (C', _) => C' = C ∧ sp [d] G (fun z G1 => match z with | .str n => Q (.str n) G1 | _ => False) W | none => False)
  | _ => False
theorem de_strO (M : OwnM X.K C "__str__" f) (Fn : FnD X.prog X.w X.K X.mg X.base k f fd ps sp) (hb : Binds X.K fd ps []) (hr : Room (k + 2) X.A) (hx : Passes (L2.CX X.prog X.w) X (XW X.K B W)) (hg : Gl X "str") (hm : X.mg "str" = none) (hv : bootBuiltins "str" = some (.type "str")) (ha : DA X B [e] t)
    (he : starEach [e] X.env = (false, eval e X.env) :: starEach [] X.env := by rfl) (hpl : (backTo pos (starEach [] X.env)).any (·.1) = false := by rfl) : DE X B (.Call (.Name "str" p) [e] [] pos) (dCB (strOD C sp W) t) :=
  PE.weak (pe_callTy (call_strO M Fn hb hr hx) hg hm hv ha (he := he) (hpl := hpl)) fun σ H Q ⟨F, G, δ, Qd, S, h, kk⟩ => ⟨F, G, δ, _, S, h, fun vs H1 ⟨F1, G1, ds, s1, S1, r1, h1⟩ => by
    unfold strOD at h1
    split at h1
    case h_2 => exact h1.elim
    case h_1 d =>
      obtain ⟨v, rfl, r⟩ := repAll1 r1
      cases q : insD d G1 with
      | none => simp only [q] at h1
      | some cf =>
        obtain ⟨C', fs⟩ := cf
        simp only [q] at h1
        obtain ⟨rfl, h2⟩ := h1
        obtain ⟨a, dx, fv, rfl, e1, gc, na, rf⟩ := ins_rep S1 r q
        refine ⟨a, dx, fv, rfl, e1, low_at S1 (.cons r .nil) h2 fun v H' ⟨F', G', d', s', S', r', q'⟩ => ?_⟩
        cases d' with
        | str n =>
          cases r'
          exact ⟨n, rfl, kk _ _ ⟨F', G', _, s1.trans s', S', .str _, q'⟩⟩
        | _ => exact q'.elim⟩
/-- x == y, x != y, x of the class C -/
def eqOD (K : PySem.W.Frag) (C : Addr) (sp : SpD) (W : WD) (neg : Bool) : R2D := fun a b G Q => match insD a G with
  | some (C', _) => C' = C ∧ (∃ t, TyD K b G t ∧ PySem.W.notFirst K C t = true) ∧ sp [a, b] G (fun z G1 => match z with | .bl c => Q (.bl (if neg then !c else c)) G1 | _ => False) W
  | none => False
theorem eqO_A {B : Bs} {σ : L2.St} {δ : SD} {H F : Hp} {G : Gm} {x y : V} {a b : D} {neg : Bool} {Qd : QD} {Q : VK} (S : Sit K B σ H F δ G) (r1 : Rep K F x a) (r2 : Rep K F y b) (h : eqOD K C sp W neg a b G Qd) (kk : ∀ v H', Beh K B σ F δ Qd v H' → Q v H') : rEqO C (lowSp K sp) (XW K B W) K neg x y H Q := by
  unfold eqOD at h
  cases q : insD a G with
  | none => simp only [q] at h
  | some cf =>
    obtain ⟨C', fs⟩ := cf
    simp only [q] at h
    obtain ⟨rfl, ⟨t, ty, nf⟩, h⟩ := h
    obtain ⟨ad, dx, fv, rfl, e1, gc, na, rf⟩ := ins_rep S r1 q
    refine ⟨ad, dx, fv, rfl, e1, ⟨t, tyD_ty S r2 ty, nf⟩, low_at S (.cons r1 (.cons r2 .nil)) h fun v H' ⟨F', G', d', s', S', r', q'⟩ => ?_⟩
    cases d' with
    | bl c =>
      cases r'
      exact ⟨c, rfl, kk _ _ ⟨F', G', _, s', S', .bl _, q'⟩⟩
    | _ => exact q'.elim
theorem de_eqO (M : OwnM X.K C "__eq__" f) (Fn : FnD X.prog X.w X.K X.mg X.base k f fd ps sp) (hb : Binds X.K fd ps []) (hr : Room k X.A) (hx : Passes (L2.CX X.prog X.w) X (XW X.K B W)) (ha : DE X B a ta) (hb2 : DE X B b tb) : DE X B (.Compare a [.Eq] [b] pos) (dOp (eqOD X.K C sp W false) ta tb) :=
  PE.weak (pe_cmpR (op_eqO M Fn hb hr hx) ha hb2 (nomark _)) fun σ H Q ⟨F, G, δ, Qd, S, h, k⟩ => up2 S h fun x y H2 F2 G2 d e s2 S2 r1 r2 h2 => eqO_A S2 r1 r2 h2 fun v H' ⟨F', G', d', s', S', r', q'⟩ => k v H' ⟨F', G', d', s2.trans s', S', r', q'⟩
theorem dt_eqO (M : OwnM X.K C "__eq__" f) (Fn : FnD X.prog X.w X.K X.mg X.base k f fd ps sp) (hb : Binds X.K fd ps []) (hr : Room k X.A) (hx : Passes (L2.CX X.prog X.w) X (XW X.K B W)) (ha : DE X B a ta) (hb2 : DE X B b tb) : DT X B (.Compare a [.Eq] [b] pos) (dTest (dOp (eqOD X.K C sp W false) ta tb)) :=
  PT.weak (pt_cmpR (op_eqO M Fn hb hr hx) ha hb2 (nomark _)) fun σ H Q q => by
    obtain ⟨F, G, δ, Qd, S, h, k⟩ := q
    refine up2 S h fun x y H2 F2 G2 d e s2 S2 r1 r2 h2 => eqO_A S2 r1 r2 h2 fun v H' ⟨F', G', d', s', S', r', q'⟩ => ?_
    cases d' with
    | bl b =>
      cases r'
      exact ⟨b, rfl, k b H' ⟨F', G', s2.trans s', S', q'⟩⟩
    | _ => exact q'.elim
theorem de_neO (M : OwnM X.K C "__eq__" f) (hne : PySem.W.findIn X.K (.ref C) "__ne__" = some (some (.builtin "object.__ne__"))) (hmr : PySem.W.mroIn X.K C (.type "object") = some true) (Fn : FnD X.prog X.w X.K X.mg X.base k f fd ps sp) (hb : Binds X.K fd ps []) (hr : Room (k + 1) X.A) (hx : Passes (L2.CX X.prog X.w) X (XW X.K B W)) (ha : DE X B a ta) (hb2 : DE X B b tb) :
    DE X B (.Compare a [.NotEq] [b] pos) (dOp (eqOD X.K C sp W true) ta tb) :=
  PE.weak (pe_cmpR (op_neO M hne hmr Fn hb hr hx) ha hb2 (nomark _)) fun σ H Q ⟨F, G, δ, Qd, S, h, k⟩ => up2 S h fun x y H2 F2 G2 d e s2 S2 r1 r2 h2 => eqO_A S2 r1 r2 h2 fun v H' ⟨F', G', d', s', S', r', q'⟩ => k v H' ⟨F', G', d', s2.trans s', S', r', q'⟩
theorem dt_neO (M : OwnM X.K C "__eq__" f) (hne : PySem.W.findIn X.K (.ref C) "__ne__" = some (some (.builtin "object.__ne__"))) (hmr : PySem.W.mroIn X.K C (.type "object") = some true) (Fn : FnD X.prog X.w X.K X.mg X.base k f fd ps sp) (hb : Binds X.K fd ps []) (hr : Room (k + 1) X.A) (hx : Passes (L2.CX X.prog X.w) X (XW X.K B W)) (ha : DE X B a ta) (hb2 : DE X B b tb) :
    DT X B (.Compare a [.NotEq] [b] pos) (dTest (dOp (eqOD X.K C sp W true) ta tb)) :=
  PT.weak (pt_cmpR (op_neO M hne hmr Fn hb hr hx) ha hb2 (nomark _)) fun σ H Q q => by
    obtain ⟨F, G, δ, Qd, S, h, k⟩ := q
    refine up2 S h fun x y H2 F2 G2 d e s2 S2 r1 r2 h2 => eqO_A S2 r1 r2 h2 fun v H' ⟨F', G', d', s', S', r', q'⟩ => ?_
    cases d' with
    | bl b =>
      cases r'
      exact ⟨b, rfl, k b H' ⟨F', G', s2.trans s', S', q'⟩⟩
    | _ => exact q'.elim
/-- C.m(..), m a static method -/
theorem de_smeth {pl : Sem Bool} (hx : Passes (L2.CX X.prog X.w) X (XW X.K B W)) (he : PE X o (tC (.ref C))) (c : SMet X.K C mc m pa f) (Fn : FnD X.prog X.w X.K X.mg X.base k f fd ps sp) (hr : Room k X.A) (hb : Binds X.K fd ps []) (ha : DA X B (e :: es) t)
    (hst : starEach (e :: es) X.env = (false, eval e X.env) :: starEach es X.env := by rfl) (hpl : (backTo pos (starEach es X.env)).any (·.1) = false := by rfl)
    (ht : eval (.Call (.Attribute o m apos) (e :: es) [] pos) X.env = (do
      let ov ← eval o X.env
      standAt apos.atName
      let (f, first) ← holding [ov] (getMethod ov m pl)
      callWith pos f first (backTo pos (starEach (e :: es) X.env)) (backToKw pos (keywordEach [] X.env))) := by rfl) :
    DE X B (.Call (.Attribute o m apos) (e :: es) [] pos) (dCall sp W t) :=
  PE.weak (pe_smeth (E := fun _ => XW X.K B W) he c Fn hr hb (fun σ pins H s e s' I c => hx pins σ H s e s' I c) ha hst hpl ht) fun σ H Q ⟨F, G, δ, Qd, S, h, kk⟩ => ⟨rfl, F, G, δ, _, S, h, fun vs H1 ⟨F1, G1, ds, s1, S1, r1, h1⟩ => low_of kk s1 S1 r1 h1⟩
theorem de_smethK0 {pl : Sem Bool} (hx : Passes (L2.CX X.prog X.w) X (XW X.K B W)) (he : PE X o (tC (.ref C))) (c : SMet X.K C mc m pa f) (Fn : FnD X.prog X.w X.K X.mg X.base k f fd ps sp) (hr : Room k X.A) (hb : KBinds X.K fd ps ks gg gV) (hp : PermOk gV gD) (hkw : DK X B kws tk)
    (hall : (backToKw pos (keywordEach kws X.env)).all (·.1.isSome) = true := by rfl) (hks : (backToKw pos (keywordEach kws X.env)).filterMap (·.1) = ks := by rfl)
    (hpl : ((backTo pos (starEach [] X.env)).any (·.1) || (backToKw pos (keywordEach kws X.env)).any (·.1.isNone)) = false := by rfl)
    (ht : eval (.Call (.Attribute o m apos) [] kws pos) X.env = (do
      let ov ← eval o X.env
      standAt apos.atName
      let (f, first) ← holding [ov] (getMethod ov m pl)
      callWith pos f first (backTo pos (starEach [] X.env)) (backToKw pos (keywordEach kws X.env))) := by rfl) :
    DE X B (.Call (.Attribute o m apos) [] kws pos) (dCallK sp gD W dNil tk) :=
  PE.weak (pe_smethK0 he c Fn hr hb hx hkw hall hks hpl ht) fun σ H Q ⟨F, G, δ, Qd, S, h, kk⟩ => ⟨rfl, F, G, δ, _, S, h, fun zs H1 ⟨F1, G1, es, s1, S1, r1, h1⟩ => low_of kk s1 S1 (hp _ _ _ _ _ _ .nil r1) h1⟩
/-- x(..), x an instance of C -/
def isO : D → Bool
  | .ins _ _ => true
  | .adr _ => true
  | _ => false
theorem isO_ref {v : V} {d : D} (r : Rep K F v d) (h : isO d = true) : ∃ a, v = .ref a := by
  cases r <;> first | exact ⟨_, rfl⟩ | cases h
def dCallO (C : Addr) (sp : SpD) (W : WD) (tf : TED) (t : TAD) : TED := fun δ G Q => tf δ G fun d G1 => isO d = true ∧ t δ G1 fun ds G2 => match insD d G2 with | some (C', _) => C' = C ∧ sp (d :: ds) G2 Q W | none => False
theorem de_callO {tf : TED} {fe : Expr} (hf : DE X B fe tf) (c : StX.CallO X.K C f) (Fn : FnD X.prog X.w X.K X.mg X.base k f fd ps sp) (hr : Room k X.A) (hb : Binds X.K fd ps []) (hx : Passes (L2.CX X.prog X.w) X (XW X.K B W)) (ha : DA X B (e :: es) t)
    (ht : eval (.Call fe (e :: es) [] pos) X.env = (do callWith pos (← eval fe X.env) [] (backTo pos (starEach (e :: es) X.env)) (backToKw pos (keywordEach [] X.env))) := by rfl)
    (he : starEach (e :: es) X.env = (false, eval e X.env) :: starEach es X.env := by rfl) (hpl : (backTo pos (starEach es X.env)).any (·.1) = false := by rfl) : DE X B (.Call fe (e :: es) [] pos) (dCallO C sp W tf t) :=
  PE.weak (StX.pe_callO hf c (FnOk.raw Fn hb .nil) hr hx ha ht he hpl) fun σ H Q ⟨F, G, δ, Qd, S, h, kk⟩ => ⟨F, G, δ, _, S, h, fun v H1 ⟨F1, G1, d, s1, S1, r1, ho, h1⟩ => by
    obtain ⟨a, rfl⟩ := isO_ref r1 ho
    refine ⟨a, rfl, F1, G1, δ, _, S1, h1, fun vs H2 ⟨F2, G2, ds, s2, S2, r2, h2⟩ => ?_⟩
    cases q : insD d G2 with
    | none => simp only [q] at h2
    | some cf =>
      obtain ⟨C', fs⟩ := cf
      simp only [q] at h2
      obtain ⟨rfl, h3⟩ := h2
      have r3 := r1.mono s2
      obtain ⟨a', dx, fv, ea, e1, gc, na, rf⟩ := ins_rep S2 r3 q
      cases ea
      refine ⟨.inr ⟨dx, fv, e1⟩, ?_⟩
      show lowSp X.K sp ((V.ref a :: vs) ++ []) H2 Q _
      rw [List.append_nil]
      exact low_of kk (s1.trans s2) S2 (.cons r3 r2) h3⟩
end
end
/-! ### zip -/
section
variable {X : Cx} {B : Bs} {K : PySem.W.Frag} {e e2 : Expr} {t : TAD} {pos p tpos : Pos}
variable {σ : L2.St} {H F : Hp} {δ : SD} {G : Gm}
def seqS (d : D) : Option (List D) := match d with
  | .lst ds => some ds
  | .tup ds => some ds
  | _ => none
def zipD (xs ys : List D) : List D := (xs.zip ys).map fun p => .tup [p.1, p.2]
theorem seqS_rep {v : V} {d : D} {ds : List D} (r : Rep K F v d) (h : seqS d = some ds) : ∃ k a xs, v = .ref a ∧ SqK K k F a xs ∧ RepAll K F xs ds := by
  cases d with
  | lst es =>
    cases h
    obtain ⟨p, xs, e, h1, h2⟩ := rep_lst r
    exact ⟨false, p, xs, e, .of h1, h2⟩
  | tup es =>
    cases h
    obtain ⟨p, xs, e, h1, h2⟩ := rep_tup r
    exact ⟨true, p, xs, e, .of h1, h2⟩
  | _ => simp [seqS] at h
theorem itD_zip {k1 k2 : Bool} {a b : Addr} {xs ys : List V} {ds es : List D} (h1 : SqK K k1 F a xs) (h2 : SqK K k2 F b ys) (r1 : RepAll K F xs ds) (r2 : RepAll K F ys es) : ItD K F (ItzK K k1 k2 a b) (zipD ds es) := by
  have l1 := r1.length
  have l2 := r2.length
  have lz : (zipD ds es).length = min ds.length es.length := by simp [zipD]
  refine ⟨fun i H hi s => ?_, fun H s => ⟨xs, ys, sqK_same s h1, sqK_same s h2, by rw [lz]; omega⟩, fun i H x H' hi s y B σ δ G F1 S s1 => ?_⟩
  · rw [lz] at hi
    have i1 : i < xs.length := by omega
    have i2 : i < ys.length := by omega
    exact ⟨xs, ys, xs[i], ys[i], sqK_same s h1, sqK_same s h2, by simp [i1], by simp [i2]⟩
  · obtain ⟨T, u, w, rfl, nT, rfl, y1, y2⟩ := y
    obtain ⟨d1, e1, q1⟩ := r1.get' (y1 xs (sqK_same s h1))
    obtain ⟨d2, e2, q2⟩ := r2.get' (y2 ys (sqK_same s h2))
    obtain ⟨d3, s3⟩ := S.ds.new (o := .tup [u, w]) nT
    refine ⟨_, .tup [d1, d2], s3, ⟨d3, S.gr.trans s3, S.sl.mono s3⟩, ?_, .tup upd_same (.cons ((q1.mono s1).mono s3) (.cons ((q2.mono s1).mono s3) .nil))⟩
    have hz : (ds.zip es)[i]? = some (d1, d2) := by
      rw [List.getElem?_zip_eq_some]
      exact ⟨e1, e2⟩
    simp [zipD, hz]
def iZipD (ta : TAD) : TID := fun δ G R => ta δ G fun ds G1 => match ds with
  | [d, d2] => (match seqS d, seqS d2 with | some xs, some ys => R (zipD xs ys) G1 | _, _ => False)
  | _ => False
theorem di_zip {elts : List Expr} {kk : Nat} (hg : Gl X "zip") (hm : X.mg "zip" = none) (ha : DA X B [e, e2] t)
    (hs : starEach [e, e2] X.env = (false, eval e X.env) :: starEach [e2] X.env := by rfl) (hpl : (backTo pos (starEach [e2] X.env)).any (·.1) = false := by rfl) : DI X B (.Tuple elts kk tpos) (.Call (.Name "zip" p) [e, e2] [] pos) (iZipD t) :=
  PI.weak (pi_zipK hg hm ha hs hpl) fun σ H R ⟨F, G, δ, Qd, S, h, k⟩ => ⟨F, G, δ, _, S, h, fun vs H1 ⟨F1, G1, ds, s1, S1, r1, h1⟩ => by
    split at h1
    case h_2 => exact h1.elim
    case h_1 d d2 =>
      obtain ⟨v, u, rfl, q1, q2⟩ := repAll2 r1
      split at h1
      case h_2 => exact h1.elim
      case h_1 xs ys ex ey =>
        obtain ⟨k1, a, us, rfl, g1, ra1⟩ := seqS_rep q1 ex
        obtain ⟨k2, b, ws, rfl, g2, ra2⟩ := seqS_rep q2 ey
        exact ⟨k1, k2, a, b, us, ws, rfl, sqK_same S1.ds.sub g1, sqK_same S1.ds.sub g2, k _ _ ⟨F1, G1, _, s1, S1, itD_zip g1 g2 ra1 ra2, h1⟩⟩⟩
end
end JP

namespace JP
open PySem PySem.Spec PyProof.Rows L2
/-! ### short forms for derivations -/
section
variable {X : Cx} {B : Bs} {K : PySem.W.Frag} {e : Expr} {te : TED} {pos p : Pos}
theorem dv (i : Nat) {x : Str} {pos : Pos} (hN : X.N[i]? = some x := by rfl) (hv : Vis X.env.scope x := by first | exact Or.inl rfl | exact Or.inr (Or.inl rfl) | exact Or.inr (Or.inr rfl)) (hd : (x == ("__debug__" : Str)) = false := by decide)
    (hcd : (x == ("__classdict__" : Str)) = false := by decide) : DE X B (.Name x pos) (dVar i) := de_var hN hv hd hcd
theorem de_dict0 : DE X B (.Dict [] [] pos) (dC (.dic [])) :=
  PE.weak pe_dnewK fun σ H Q ⟨F, G, δ, Qd, S, h, k⟩ => fun p n => k _ _ (.new S (.refl F) n (.dk (.of upd_same) .nil) h)
theorem de_isCK {c : Expr} {C : Addr} (hK : X.K = K) (hg : Gl X "isinstance") (hm : X.mg "isinstance" = none) (hv : bootBuiltins "isinstance" = some (.builtin "isinstance")) (ha : DE X B e te) (hc : PE X c (tC (.ref C)))
    (h1 : starEach [e, c] X.env = (false, eval e X.env) :: starEach [c] X.env := by rfl) (h2 : starEach [c] X.env = (false, eval c X.env) :: starEach [] X.env := by rfl) (hpl : (backTo pos (starEach [c] X.env)).any (·.1) = false := by rfl) :
    DE X B (.Call (.Name "isinstance" p) [e, c] [] pos) (dIsC K C te) := hK ▸ de_isC hg hm hv ha hc h1 h2 hpl
theorem de_isXK {c : Expr} {C : Addr} (hK : X.K = K) (hg : Gl X "isinstance") (hm : X.mg "isinstance" = none) (hv : bootBuiltins "isinstance" = some (.builtin "isinstance")) (ha : DE X B e te) (hc : PE X c (tC (.ref C)))
    (h1 : starEach [e, c] X.env = (false, eval e X.env) :: starEach [c] X.env := by rfl) (h2 : starEach [c] X.env = (false, eval c X.env) :: starEach [] X.env := by rfl) (hpl : (backTo pos (starEach [c] X.env)).any (·.1) = false := by rfl) :
    DE X B (.Call (.Name "isinstance" p) [e, c] [] pos) (dIsX K C te) := hK ▸ de_isX hg hm hv ha hc h1 h2 hpl
theorem de_xaK {n : Str} (hK : X.K = K) (he : DE X B e te) (hb : attributeBase e n X.env (eval e X.env) = eval e X.env := by rfl) : DE X B (.Attribute e n pos) (dXa K n te) := hK ▸ de_xa he hb
end

/-! ### defs that are proved of the heap, told of trees -/
section
variable {P : Program} {w : World} {K : PySem.W.Frag} {mg : Str → Option Value} {base : Heap} {k : Nat} {f : Addr} {fd : FuncData} {ps : List Str}
theorem fn_any {CX : CXT} {sp : Sp} (F : FnOk P w K mg base CX0 k f fd ps sp) : FnOk P w K mg base CX k f fd ps sp :=
  ⟨F.len, fun A outer s H args us vs Q E hr e0 hb r h => codeAny_mono (F.run A outer s H args us vs Q E hr e0 hb r h) fun r s' q => by
    cases r with
    | error e => exact (show False from q).elim
    | ok fl => cases fl <;> exact q⟩
theorem DS.but {Tb : List (Addr × Str)} {F H H' Z : Hp} {G : Gm} {p : Addr} {m m' : MO} (d : DS K Tb F H G Z) (g : G p = some m) (b : But p H H') (r : MRep K F H' p m') : DS K Tb F H' (updG G p m') Z := by
  have hf := (d.mu p m g).1
  obtain ⟨u, hu, mu⟩ := (d.mu p m g).2.at_
  have hz : Z p = none := by
    cases e : Z p with
    | none => rfl
    | some u =>
      have := (d.zf p u e).2.1
      rw [g] at this
      cases this
  refine ⟨fun a o e => b a o (fun c => by rw [c, hf] at e; cases e) (d.sub a o e), fun a n e => ?_, fun a o e => b a o (fun c => by rw [c, hz] at e; cases e) (d.zub a o e), fun a o e => ?_, d.ft, fun q hq => ?_⟩
  · by_cases c : a = p
    · subst c
      rw [updG_same] at e
      cases e
      exact ⟨hf, r⟩
    · rw [updG_ne c] at e
      exact ⟨(d.mu a n e).1, (d.mu a n e).2.mono (.refl F) fun o q => b a o c q⟩
  · have c : a ≠ p := fun c => by rw [c, hz] at e; cases e
    exact ⟨(d.zf a o e).1, (updG_ne c).trans (d.zf a o e).2.1, (d.zf a o e).2.2⟩
  · obtain ⟨ps, h1, h3, h4⟩ := d.tab q hq
    refine ⟨ps, b _ _ (fun c => ?_) h1, h3, fun pos cv hc => ?_⟩
    · rw [c, hu] at h1
      cases h1
      exact mu
    · obtain ⟨c, e1, e2⟩ := h4 pos cv hc
      refine ⟨c, e1, b _ _ (fun c' => ?_) e2⟩
      rw [c', hu] at e2
      have e3 : u = HO.ext _ := Option.some.inj e2
      rw [e3] at mu
      exact mu
def spDraw : Sp := fun vs H Q _ => ∃ (p c : Addr) (many : Int) (m : Nat), vs = [.ref p, .int many] ∧ Pen H p c m ∧ 1 ≤ many ∧ many < 2 ^ 60 ∧ m ≤ 2 ^ 20 ∧
  ∀ (r : Int) (H' : Hp), 0 ≤ r → r < many → Pen H' p c (m + 1) → But p H H' → Q (.int r) H'
def spPen (K : PySem.W.Frag) : Sp := fun vs H Q _ => ∃ (a : Addr) (ns : List Int), vs = [.ref a] ∧ SqL K H a (ns.map V.int) ∧ ns.length ≤ 63 ∧
  ∀ (p c : Addr) (H' : Hp), Same H H' → H p = none → H c = none → Pen H' p c 0 → Q (.ref p) H'
/-- a draw: any number below, one step of the pen -/
def drawD : SpD := fun ds G Q _ => ∃ (p : Addr) (n : Int) (m : Nat), ds = [.adr p, .int n] ∧ G p = some (.pen m) ∧ 1 ≤ n ∧ n < 2 ^ 60 ∧ m ≤ 2 ^ 20 ∧ ∀ r, 0 ≤ r → r < n → Q (.int r) (updG G p (.pen (m + 1)))
theorem draw_of (Fn : FnOk P w K mg base CX0 k f fd ps spDraw) : FnD P w K mg base k f fd ps drawD :=
  (fn_any Fn).imp fun vs H Q E ⟨B, G, ds, Qd, W, d, r, ⟨p, n, m, ed, g, n1, n2, hm, q⟩, kq, ke⟩ => by
    subst ed
    obtain ⟨v, u, rfl, r1, r2⟩ := repAll2 r
    cases r1
    cases r2
    obtain ⟨fp, c, ns, j, gg, h1, h2, h3, h4, h5, h6⟩ := d.mu p _ g
    have ncp : c ≠ p := fun e => by rw [e, fp] at h2; cases h2
    have hP : Pen H p c m := ⟨ns, j, gg, h1, d.sub _ _ h2, ncp, h3, h4, h5, h6⟩
    refine ⟨p, c, n, m, rfl, hP, n1, n2, hm, fun r H' r0 r1 hP' hB => kq _ _ ⟨B.F, _, .int r, .refl _, d.but g hB (m' := .pen (m + 1)) ?_, .refl _, .int r, q r r0 r1⟩⟩
    obtain ⟨ns', j', g', q1, q2, q3, q4, q5, q6, q7⟩ := hP'
    have e2 := hB c _ ncp (d.sub _ _ h2)
    rw [q2] at e2
    have e3 : ns'.map V.int = ns.map V.int := by injection Option.some.inj e2
    exact ⟨c, ns', j', g', q1, by rw [e3]; exact h2, q4, q5, q6, q7⟩
/-- the pen -/
def penD : SpD := fun ds G Q _ => ∃ ns, ds = [.scr ns] ∧ ns.length ≤ 63 ∧ ∀ p, G p = none → Q (.adr p) (updG G p (.pen 0))
theorem pen_of (Fn : FnOk P w K mg base CX0 k f fd ps (spPen K)) : FnD P w K mg base k f fd ps penD :=
  (fn_any Fn).imp fun vs H Q E ⟨B, G, ds, Qd, W, d, r, ⟨ns, ed, hl, q⟩, kq, ke⟩ => by
    subst ed
    obtain ⟨v, rfl, r1⟩ := repAll1 r
    cases r1 with
    | scr hs =>
      refine ⟨_, ns, rfl, same_seqL' d.sub hs, hl, fun p c H' s np nc hP => ?_⟩
      obtain ⟨ns', j', g', q1, q2, q3, q4, q5, q6, q7⟩ := hP
      have d1 := d.same s
      obtain ⟨d2, s2⟩ := d1.frz q2 (d.noG nc) (d.noZ nc)
      refine kq _ _ ⟨upd B.F c (.lst (ns'.map V.int)), updG G p (.pen 0), .adr p, s2, ⟨d2.sub, fun a n e => ?_, d2.zub, fun a o e => ?_, d2.ft, d2.tab⟩, s2, .adr p, q p (d.noG np)⟩
      · by_cases c' : a = p
        · subst c'
          rw [updG_same] at e
          cases e
          exact ⟨(upd_ne q3.symm).trans (d.noF np), c, ns', j', g', q1, upd_same, q4, q5, q6, q7⟩
        · rw [updG_ne c'] at e
          exact d2.mu a n e
      · have c' : a ≠ p := fun c => by rw [c, d.noZ np] at e; cases e
        exact ⟨(d2.zf a o e).1, (updG_ne c').trans (d2.zf a o e).2.1, (d2.zf a o e).2.2⟩
/-- the law: from the script to True -/
def lawD : SpD := fun ds G Q _ => ∃ ns, ds = [.scr ns] ∧ ns.length ≤ 63 ∧ (∀ a, G a = none) ∧ ∀ G', Q (.bl true) G'
theorem only_notT {H : Hp} (o : Only H) : ∀ b u, H b = some u → notT u := fun b u e => by
  rcases o b with n | ⟨ob, xs, n⟩
  · rw [n] at e
    cases e
  · rw [n] at e
    cases e
    trivial
theorem law_sat {a : Addr} {ns : List Int} {H : Hp} (hl : ns.length ≤ 63) (o : Only H) (s : SqL K H a (ns.map V.int)) : lowSp K lawD [.ref a] H (fun v _ => v = .bl true) fun _ _ _ => False := by
  refine ⟨⟨H, fun _ => none, []⟩, fun _ => none, [.scr ns], fun d _ => d = .bl true, WN, ⟨.refl H, ?_, ?_, ?_, only_notT o, ?_⟩, .cons (.scr s) .nil, ⟨ns, rfl, hl, fun _ => rfl, fun _ => rfl⟩, ?_, ?_⟩
  · intro _ _ e
    cases e
  · intro _ _ e
    cases e
  · intro _ _ e
    cases e
  · intro _ hp
    cases hp
  · rintro v H' ⟨_, _, _, _, _, _, r, e⟩
    subst e
    exact rep_bl r
  · rintro _ _ _ ⟨_, _, _, _, _, _, _, _, w⟩
    exact w
end
end JP

namespace JP
open PySem PySem.Spec PyProof.Rows L2
/-! ### readings of loops and of types -/
/-- a thing whose type is told -/
def Told (d : D) (G : Gm) : Prop := (kiD d).isSome = true ∨ (insD d G).isSome = true
def isB (d : D) (j : Ki) : Bool := match kiD d with
  | some k => k.below j
  | none => false
theorem told_is {d : D} {G : Gm} (h : Told d G) {j : Ki} (hj : j ≠ .non) : isK d G j = some (isB d j) := by
  unfold isK isB
  cases q : kiD d with
  | some k => rfl
  | none =>
    rcases h with h | h
    · rw [q] at h; cases h
    · cases i : insD d G with
      | none => rw [i] at h; cases h
      | some _ => simp [hj]
theorem told_ki {d : D} {G : Gm} {k : Ki} (h : kiD d = some k) : Told d G := .inl (by rw [h]; rfl)
theorem told_ins {C : Addr} {fs : List (Str × D)} {G : Gm} : Told (.ins C fs) G := .inr rfl
theorem told_isKs {d : D} {G : Gm} {js : List Ki} (h : Told d G) (hj : js.all (fun j => decide (j ≠ .non)) = true) : isKs d G js = some (js.any (isB d)) := by
  unfold isKs
  cases q : kiD d with
  | some k =>
    have e : isB d = k.below := by funext j; unfold isB; rw [q]
    rw [e]
  | none =>
    have e0 : ∀ j, isB d j = false := fun j => by unfold isB; rw [q]
    have e1 : js.any (isB d) = false := by
      rw [List.any_eq_false]
      intro j _
      rw [e0]
      exact Bool.false_ne_true
    rw [e1]
    rcases h with h | h
    · rw [q] at h; cases h
    · cases i : insD d G with
      | none => rw [i] at h; cases h
      | some _ =>
        show (if _ then _ else _) = _
        rw [if_pos hj]
/-- a comprehension over pure things -/
theorem lc_map {i : Nat} {te : TED} {Fin : List D → Gm → Prop} {δ : SD} {G : Gm} (f : D → D) : ∀ (ds acc : List D), (∀ d ∈ ds, ∀ Q : QD, Q (f d) G → te (δ.set i (some d)) G Q) → Fin (acc ++ ds.map f) G → lcD (gNameD i) dYes te Fin δ ds acc G
  | [], acc, _, q => by rw [List.map_nil, List.append_nil] at q; exact q
  | d :: ds, acc, h, q => h d List.mem_cons_self _ (lc_map f ds (acc ++ [f d]) (fun e he => h e (List.mem_cons_of_mem _ he)) (by rw [List.append_assoc]; exact q))
theorem lc_mapG {g : TGD} {te : TED} {Fin : List D → Gm → Prop} {δ : SD} {G : Gm} (f : D → D) : ∀ (ds acc : List D), (∀ d ∈ ds, ∀ Q : QD, Q (f d) G → g d δ G fun δ1 G1 => te δ1 G1 Q) → Fin (acc ++ ds.map f) G → lcD g dYes te Fin δ ds acc G
  | [], acc, _, q => by rw [List.map_nil, List.append_nil] at q; exact q
  | d :: ds, acc, h, q => h d List.mem_cons_self _ (lc_mapG f ds (acc ++ [f d]) (fun e he => h e (List.mem_cons_of_mem _ he)) (by rw [List.append_assoc]; exact q))
theorem zip_ints (ns ms : List Int) : zipD (ns.map .int) (ms.map .int) = (ns.zip ms).map fun p => .tup [.int p.1, .int p.2] := by
  unfold zipD
  rw [List.zip_map, List.map_map]
  rfl
theorem lc_filt {i : Nat} {tt : TTD} {te : TED} {Fin : List D → Gm → Prop} {δ : SD} {G : Gm} (p : D → Bool) (f : D → D) : ∀ (ds acc : List D), (∀ d ∈ ds, ∀ Q : Bool → Gm → Prop, Q (p d) G → tt (δ.set i (some d)) G Q) →
    (∀ d ∈ ds, ∀ Q : QD, p d = true → Q (f d) G → te (δ.set i (some d)) G Q) → Fin (acc ++ (ds.filter p).map f) G → lcD (gNameD i) tt te Fin δ ds acc G
  | [], acc, _, _, q => by rw [List.filter_nil, List.map_nil, List.append_nil] at q; exact q
  | d :: ds, acc, h1, h2, q => h1 d List.mem_cons_self _ (by
      cases e : p d with
      | true =>
        rw [List.filter_cons_of_pos e] at q
        exact h2 d List.mem_cons_self _ e (lc_filt p f ds (acc ++ [f d]) (fun e he => h1 e (List.mem_cons_of_mem _ he)) (fun e he => h2 e (List.mem_cons_of_mem _ he)) (by rw [List.append_assoc]; exact q))
      | false =>
        rw [List.filter_cons_of_neg (by rw [e]; exact Bool.false_ne_true)] at q
        exact lc_filt p f ds acc (fun e he => h1 e (List.mem_cons_of_mem _ he)) (fun e he => h2 e (List.mem_cons_of_mem _ he)) q)
/-- by a word: of the turn, of what is made, of what may change -/
theorem lc_inv {g : TGD} {tt : TTD} {te : TED} {Fin : List D → Gm → Prop} {δ : SD} (I : Nat → List D → Gm → Prop) {n : Nat} : ∀ (ds acc : List D) (j : Nat) (G : Gm), j + ds.length = n →
    (∀ j acc G d, d ∈ ds → j < n → I j acc G → g d δ G fun δ1 G1 => tt δ1 G1 fun b G2 => match b with | true => te δ1 G2 fun y G3 => I (j + 1) (acc ++ [y]) G3 | false => I (j + 1) acc G2) → I j acc G → (∀ acc G, I n acc G → Fin acc G) →
    (∀ (d : D) (G : Gm) (Q Q' : SD → Gm → Prop), (∀ δ G, Q δ G → Q' δ G) → g d δ G Q → g d δ G Q') → (∀ δ G (Q Q' : Bool → Gm → Prop), (∀ b G, Q b G → Q' b G) → tt δ G Q → tt δ G Q') → (∀ δ G (Q Q' : QD), (∀ b G, Q b G → Q' b G) → te δ G Q → te δ G Q') → lcD g tt te Fin δ ds acc G
  | [], acc, j, G, hj, _, h, hF, _, _, _ => by
    have e : j = n := by simpa using hj
    subst e
    exact hF acc G h
  | d :: ds, acc, j, G, hj, hs, h, hF, mg, mt, me => by
    have hj' : j + 1 + ds.length = n := by rw [List.length_cons] at hj; omega
    refine mg d G _ _ (fun δ1 G1 q => mt δ1 G1 _ _ (fun b G2 q => ?_) q) (hs j acc G d List.mem_cons_self (by omega) h)
    cases b with
    | true => exact me δ1 G2 _ _ (fun y G3 q => lc_inv I ds (acc ++ [y]) (j + 1) G3 hj' (fun j acc G e he => hs j acc G e (List.mem_cons_of_mem _ he)) q hF mg mt me) q
    | false => exact lc_inv I ds acc (j + 1) G2 hj' (fun j acc G e he => hs j acc G e (List.mem_cons_of_mem _ he)) q hF mg mt me
/-- the same, plainer: each turn is told of any end -/
theorem lc_inv' {i : Nat} {te : TED} {Fin : List D → Gm → Prop} {δ : SD} (I : Nat → List D → Gm → Prop) {n : Nat} : ∀ (ds acc : List D) (j : Nat) (G : Gm), j + ds.length = n →
    (∀ j acc G d (Q : QD), d ∈ ds → j < n → I j acc G → (∀ y G', I (j + 1) (acc ++ [y]) G' → Q y G') → te (δ.set i (some d)) G Q) → I j acc G → (∀ acc G, I n acc G → Fin acc G) → lcD (gNameD i) dYes te Fin δ ds acc G
  | [], acc, j, G, hj, _, h, hF => by
    have e : j = n := by simpa using hj
    subst e
    exact hF acc G h
  | d :: ds, acc, j, G, hj, hs, h, hF =>
    hs j acc G d _ List.mem_cons_self (by rw [List.length_cons] at hj; omega) h fun y G' q => lc_inv' I ds (acc ++ [y]) (j + 1) G' (by rw [List.length_cons] at hj; omega) (fun j acc G e Q he => hs j acc G e Q (List.mem_cons_of_mem _ he)) q hF
/-- for, by a word; each turn is told of any end -/
theorem for_inv {g : TGD} {tb : TSD} {E : EndsD} (I : Nat → SD → Gm → Prop) {n : Nat} : ∀ (ds : List D) (j : Nat) (δ : SD) (G : Gm), j + ds.length = n →
    (∀ j δ G d (N : SD → Gm → Prop), d ∈ ds → j < n → I j δ G → (∀ δ' G', I (j + 1) δ' G' → N δ' G') → g d δ G fun δ1 G1 => tb { nx := N, rt := E.rt, bk := E.nx, ct := N } δ1 G1) → I j δ G → (∀ δ G, I n δ G → E.nx δ G) → forD g tb E ds δ G
  | [], j, δ, G, hj, _, h, hF => by
    have e : j = n := by simpa using hj
    subst e
    exact hF δ G h
  | d :: ds, j, δ, G, hj, hs, h, hF =>
    hs j δ G d _ List.mem_cons_self (by rw [List.length_cons] at hj; omega) h fun δ' G' q => for_inv I ds (j + 1) δ' G' (by rw [List.length_cons] at hj; omega) (fun j δ G e N he => hs j δ G e N (List.mem_cons_of_mem _ he)) q hF
theorem small1000 {n : Nat} (h : n ≤ 1000) : n ≤ sizeLine := by
  rw [sizeLine_eq]
  omega
/-- the class facts that GoodC wants -/
theorem gc_kt {K : PySem.W.Frag} {C : Addr} (h1 : PySem.W.kitOne K (.ref C) (.type "int") = some false) (h2 : PySem.W.kitOne K (.ref C) (.type "str") = some false) (h3 : PySem.W.kitOne K (.ref C) (.type "bool") = some false) (h4 : PySem.W.kitOne K (.ref C) (.type "list") = some false)
    (h5 : PySem.W.kitOne K (.ref C) (.type "tuple") = some false) (h6 : PySem.W.kitOne K (.ref C) (.type "dict") = some false) (h7 : PySem.W.kitOne K (.ref C) (.type "set") = some false) (h8 : PySem.W.kitOne K (.ref C) (.type "bytes") = some false) (h9 : PySem.W.kitOne K (.ref C) (.type "float") = some false) :
    ∀ n ∈ tyNames, PySem.W.kitOne K (.ref C) (.type n) = some false := by
  intro n hn
  simp only [tyNames, List.mem_cons, List.not_mem_nil, or_false] at hn
  rcases hn with rfl | rfl | rfl | rfl | rfl | rfl | rfl | rfl | rfl <;> assumption
end JP

namespace JP
open PySem PySem.Spec PyProof.Rows L2

/-! ### lambdas handed to a def that calls them -/
section
variable {K : PySem.W.Frag} {Tb : List (Addr × Str)} {F F' H H' Z : Hp} {G : Gm}
theorem DS.extN (d : DS K Tb F H G Z) (s : LamX.ExtN H H') (t : LamX.Tabs Tb H') : DS K Tb F H' G Z :=
  ⟨fun a o e => s _ _ (d.sub a o e) fun ps z => by
      subst z
      exact d.ft a _ e,
    fun a m e => ⟨(d.mu a m e).1, (d.mu a m e).2.mono (.refl F) fun o q => s _ _ q fun ps z => by
      subst z
      obtain ⟨o', q', mu⟩ := (d.mu a m e).2.at_
      rw [q] at q'
      cases q'
      exact mu⟩,
    fun a o e => s _ _ (d.zub a o e) fun ps z => by
      subst z
      exact (d.zf a _ e).2.2,
    d.zf, d.ft, t⟩
/-- a reading of the lambda's call, by trees -/
abbrev CallD := WD → Gm → QD → Prop
def tlD (K : PySem.W.Frag) (B : Bs) (F0 : Hp) (tl : XK → Hp → VK → Prop) : CallD := fun W G Qd => ∀ (F H : Hp) (E : XK) (Q : VK), Same F0 F → DS K B.T F H G B.Z →
  (∀ cls dd H', XW K ⟨F, B.Z, B.T⟩ W cls dd H' → E cls dd H') → (∀ v H', BehR K ⟨F, B.Z, B.T⟩ F Qd v H' → Q v H') → tl E H Q
abbrev HearD := CallD → Gm → QD → Prop
def TTH (K : PySem.W.Frag) (B : Bs) (hd : HearD) : (XK → Hp → VK → Prop) → Hp → VK → Prop := fun tl H Q =>
  ∃ F G Qd, Same B.F F ∧ DS K B.T F H G B.Z ∧ (∀ v H', BehR K B F Qd v H' → Q v H') ∧ hd (tlD K B F tl) G Qd
def dLam (hd : HearD) (T : WD → TED) : TED := fun δ G Qd => hd (fun W G' Q' => T W δ G' Q') G Qd
def MonoH (hd : HearD) : Prop := ∀ (c c' : CallD) (G : Gm) (Q : QD), (∀ W G Q, c W G Q → c' W G Q) → hd c G Q → hd c' G Q
end
section
variable {X : Cx} {B : Bs}
theorem de_lam {hd : HearD} {x a : Str} {g c P : Addr} {k : Nat} {pg : Arguments} {bg : List Stmt} {sg : Scope} {dV kV doc pm cdv ct oc : Value} {an od : Option Addr} {osl : Array (Option Value)} {Ng : List Str}
    {params : Arguments} {body : Expr} {scope : Scope} {T : WD → TED} {p lpos pos : Pos} (mono : MonoH hd) (hg : Gl X x) (hm : X.mg x = some (.ref g)) (hk : PySem.W.keepIn X.K (.ref g) = true)
    (lk : X.K.lookup g = some ⟨oc, od, .func (PySem.W.fnOf x x pg bg sg dV kV doc pm an cdv ct), osl⟩) (hcg : PySem.W.codeIn X.K cdv x = true) (hb : L2.Binds X.K (PySem.W.fnOf x x pg bg sg dV kV doc pm an cdv ct) [a] []) (Sg : FnScope Ng [a] sg) (hNg : Ng[0]? = some a) (hva : Vis sg a)
    (hG : LamX.GivesTo X Ng x sg g cdv bg a (X.env.qual ++ "<lambda>") (TTH X.K B hd))
    (TB : LamX.TabB X.base X.mg c P) (hcode : X.env.code = .ref c) (hmT : (P, X.env.qual ++ "<lambda>") ∈ B.T) (hu : ∀ p ∈ B.T, p.1 = P → p.2 = X.env.qual ++ "<lambda>") (hr : Room (k + 2) X.A) (L : LamX.LamS X.env.scope scope) (hdef : defaultsOf params X.env = ([], []))
    (hbind : ∀ (q : Str) (cl : List (Str × Addr)) (pm cv ctv : Value), bindArgs (PySem.W.kla_fn "<lambda>" q params body scope cl pm cv ctv) ⟨[], []⟩ = pure [])
    (hbody : ∀ (A : Around) (outer : List Env) (s : Shared) (H : Hp) (E : XK) (f c' : Addr) (B' : Bs) (W : WD), B'.T = B.T → B'.Z = B.Z → Room k (A.deeper (LamX.lamEnv X scope s.heap.objs.size f c')) →
      Takes (LamX.lamCx X A outer s H E scope f c') (fun cls d _ H => XW X.K B' W cls d H) → DE (LamX.lamCx X A outer s H E scope f c') B' body (T W))
    (hdb : (x == ("__debug__" : Str)) = false := by decide) (hd1 : (a == ("__debug__" : Str)) = false := by decide) (hcd : (a == ("__classdict__" : Str)) = false := by decide) :
    DE X B (.Call (.Name x p) [.Lambda params body scope lpos] [] pos) (dLam hd T) :=
  PE.weak (LamX.pe_lamcall (T := B.T) (t := fun E σ H Q => ∃ (B' : Bs) (W : WD), B'.T = B.T ∧ B'.Z = B.Z ∧ (∀ cls dd H', XW X.K B' W cls dd H' → E cls dd H') ∧ up X.K B' (T W) σ H Q) hg hm hk lk hcg hb Sg hNg hva hG TB hcode hmT hu hr L hdef hbind
    (fun A outer s H E f c' hr' => ⟨fun pins s' σ H' Q I ⟨B', W, e1, e2, hE, h⟩ => (hbody A outer s H E f c' B' W e1 e2 hr' ((takes_of rfl rfl rfl rfl).imp fun cls d _ H q => hE cls d H q)).run pins s' σ H' Q I h⟩) hdb hd1 hcd)
    fun σ H Q ⟨F, G, δ, Qd, S, h, kk⟩ => ⟨S.ds.tab, fun H1 e1 t1 => ⟨F, G, Qd, S.gr, S.ds.extN e1 t1, fun v H' ⟨F', G', d, s', ds', gr', r', q'⟩ => kk v H' ⟨F', G', d, s', ⟨ds', gr', S.sl.mono s'⟩, r', q'⟩,
      mono _ _ _ _ (fun W G' Q' hT F2 H2 E Q2 s2 d2 xe kq => ⟨⟨F2, B.Z, B.T⟩, W, rfl, rfl, xe, F2, G', δ, Q', ⟨d2, .refl F2, S.sl.mono s2⟩, hT, fun v H' ⟨F', G'', d, s', S', r', q'⟩ => kq v H' ⟨F', G'', d, s', S'.ds, s', r', q'⟩⟩) h⟩⟩

/-! ### the def that got the lambda -/
def dAct (f : Addr) (hc : CallD) (W : WD) : TED := fun δ G Q => (match δ[0]? with | some (some (D.adr f')) => f' = f | _ => False) ∧ hc W G Q
theorem codeO_notT {c : Addr} {q : Str} : notT (LamX.CodeO c q) := trivial
theorem codeO_notM {c : Addr} {q : Str} : ¬ mutO (LamX.CodeO c q) := fun h => h
abbrev hearCx (X : Cx) (Ng : List Str) (x : Str) (sg : Scope) (g : Addr) (cdg : Value) (s : Shared) (H : Hp) : Cx := cxOf C8.CX0 X.prog X.w X.K X.mg X.base Ng x sg g cdg X.A X.stack s H C8.E0
def MonoC (hc : CallD) : Prop := ∀ (W W' : WD) (G : Gm) (Q Q' : QD), (∀ C fs G, W C fs G → W' C fs G) → (∀ d G, Q d G → Q' d G) → hc W G Q → hc W' G Q'
theorem gives_of {hd : HearD} {x a q : Str} {g : Addr} {cdg : Value} {bg : List Stmt} {sg : Scope} {Ng : List Str}
    (h : ∀ (f : Addr) (s : Shared) (H : Hp) (B' : Bs) (hc : CallD), MonoC hc →
      (∀ (B2 : Bs) (W : WD) (pn : List (Addr × Obj)) (xe : Value → Shared → Prop) (p1 p2 : Pos), Same B'.F B2.F → B2.T = B'.T → B2.Z = B'.Z → Takes ((hearCx X Ng x sg g cdg s H).tr pn xe) (fun cls d _ H => XW X.K B2 W cls d H) →
        DE ((hearCx X Ng x sg g cdg s H).tr pn xe) B2 (.Call (.Name a p1) [] [] p2) (dAct f hc W)) →
      ∃ T, DB (hearCx X Ng x sg g cdg s H).nox B' bg T ∧ ∀ G Qd, hd hc G Qd → T { nx := fun _ G => Qd .non G, rt := Qd } (startD Ng [.adr f]) G) :
    LamX.GivesTo X Ng x sg g cdg bg a q (TTH X.K B hd) := by
  rintro f c' s H Q tl act hc ⟨F, G, Qd, sF, ds, kq, hh⟩
  obtain ⟨d1, s1⟩ := ds.frz hc (ds.notM hc codeO_notM).1 (ds.notM hc codeO_notM).2 codeO_notT
  obtain ⟨T, hT, hq⟩ := h f s H ⟨upd F c' (LamX.CodeO c' q), B.Z, B.T⟩ (tlD X.K B F tl) (fun W W' G Q Q' hW hQ q F2 H2 E2 Q2 s2 d2 xe kq => q F2 H2 E2 Q2 s2 d2 (fun cls dd H' ⟨F', G', C, fs, e, s', ds', xr, w⟩ => xe cls dd H' ⟨F', G', C, fs, e, s', ds', xr, hW _ _ _ w⟩) fun v H' ⟨F', G', d, s', ds', gr', r', q'⟩ => kq v H' ⟨F', G', d, s', ds', gr', r', hQ _ _ q'⟩) (fun B2 W pn xe p1 p2 sB eT eZ tk => by
    refine PE.weak (act (fun cls d _ H => XW X.K B2 W cls d H) pn xe (XW X.K B2 W) p1 p2 tk (fun _ _ _ _ z => z)) fun σ2 H2 Q2 ⟨F2, G2, δ2, Qd2, S2, ⟨h0, h1⟩, kk⟩ => ?_
    obtain ⟨BF, BZ, BT⟩ := B2
    obtain rfl : BT = B.T := eT
    obtain rfl : BZ = B.Z := eZ
    refine ⟨?_, S2.ds.sub _ _ (S2.gr _ _ (sB _ _ upd_same)), h1 F2 H2 _ _ (s1.trans (sB.trans S2.gr)) S2.ds (fun cls dd H' ⟨F', G', C, fs, e, s', ds', xr, w⟩ => ⟨F', G', C, fs, e, S2.gr.trans s', ds', xr, w⟩) fun v H' ⟨F', G', d, s', ds', gr', r', q'⟩ => kk v H' ⟨F', G', d, s', ⟨ds', S2.gr.trans s', S2.sl.mono s'⟩, r', q'⟩⟩
    cases e0 : δ2[0]? with
    | none => rw [e0] at h0; exact h0.elim
    | some o =>
      cases o with
      | none => rw [e0] at h0; exact h0.elim
      | some d =>
        rw [e0] at h0
        cases d with
        | adr f' =>
          obtain rfl : f' = f := h0
          obtain ⟨v, ev, rv⟩ := S2.sl.get 0 _ e0
          cases rv
          exact ev
        | _ => exact h0.elim)
  refine ⟨upS X.K _ T, hT, upd F c' (LamX.CodeO c' q), G, startD Ng [.adr f], _, ⟨d1, .refl _, sl_start (.cons (.adr f) .nil)⟩, hq G Qd hh, ?_⟩
  have kq' : ∀ v H', BehR X.K ⟨upd F c' (LamX.CodeO c' q), B.Z, B.T⟩ (upd F c' (LamX.CodeO c' q)) Qd v H' → Q v H' := fun v H' ⟨F', G', d, s', ds', gr', r', q'⟩ => kq v H' ⟨F', G', d, s1.trans s', ds', sF.trans (s1.trans s'), r', q'⟩
  exact ⟨fun σ H' ⟨F', G', δ', s', S', q'⟩ => kq' _ _ ⟨F', G', .non, s', S'.ds, S'.gr, .non, q'⟩, fun v H' q' => kq' v H' q', fun _ _ ⟨_, _, _, _, _, q'⟩ => q'.elim, fun _ _ ⟨_, _, _, _, _, q'⟩ => q'.elim⟩
theorem db_never {ss : List Stmt} : DB X B ss (fun _ _ _ => False) := PSs.weak pss_never fun D σ H ⟨F, G, δ, E, S, h, L⟩ => h

/-! ### try: .. except C as n: m = n -/
def tryHD (K : PySem.W.Frag) (C : Addr) (n j : Nat) (T : WD → TSD) : TSD := fun E δ G =>
  T (fun C' fs G' => fs ≠ [] ∧ ExcC K C' ∧ PySem.W.exmOne K (.ref C') (.ref C) = some true ∧ E.nx ((List.replicate n none).set j (some (.exc C' fs))) G') E δ G
theorem ds_tryH {x n m : Str} {C : Addr} {i j : Nat} {body : List Stmt} {np mp np' ap pos' pos : Pos} {T : WD → TSD}
    (hs : X.stack = X.env :: X.outer) (hf : X.env.frame = some X.env.locals) (hex : X.ex = []) (hN : X.N.Nodup) (hi : X.N[i]? = some n) (hj : X.N[j]? = some m) (hij : i ≠ j) (hln : X.env.kindOf n = some .local) (hc : Names X x (.ref C))
    (hsu : ∀ (a : Addr) (oe : Obj) (cls : Value) (d : Option Addr) (pn : List (Addr × Obj)), PSs (X.suite a ((a, oe) :: pn)) [.Assign [.Name m mp] (.Name n np') ap] (tAsg (tVar i) (gName j)))
    (hb : ∀ (B' : Bs) (W : WD) (pn : List (Addr × Obj)) (xe : Value → Shared → Prop), Same B.F B'.F → B'.T = B.T → B'.Z = B.Z → Takes (X.tr pn xe) (fun cls d _ H => XW X.K B' W cls d H) → DB (X.tr pn xe) B' body (T W)) :
    DSt X B (.Try body [.ExceptHandler (some (.Name x np)) (some n) [.Assign [.Name m mp] (.Name n np') ap] pos'] [] [] pos) (tryHD X.K C X.N.length j T) :=
  PS.weak (ps_try_heldL (tb := fun Wx D σ H => ∃ (B' : Bs) (W : WD), Same B.F B'.F ∧ B'.T = B.T ∧ B'.Z = B.Z ∧ (∀ cls d σ' H', XW X.K B' W cls d H' → Wx cls d σ' H') ∧ upS X.K B' (T W) D σ H) hs hf hex hN hi hln hc takesN
    (fun Wx pn xe tk po => ⟨fun pins s σ H D I ⟨B', W, e0, e1, e2, hW, h⟩ => (hb B' W pn xe e0 e1 e2 (tk.imp fun c d σ H q => hW c d σ H q)).run pins s σ H D I h⟩)
    (fun a oe cls d pn _ _ => hsu a oe cls d pn)) fun D σ H ⟨F, G, δ, E, S, h, L⟩ => by
    refine ⟨⟨F, B.Z, B.T⟩, _, S.gr, rfl, rfl, ?_, F, G, δ, E, ⟨S.ds, .refl F, S.sl⟩, h, ⟨fun σ' H' ⟨F', G', δ', s', S', q'⟩ => L.nx σ' H' ⟨F', G', δ', s', ⟨S'.ds, S.gr.trans s', S'.sl⟩, q'⟩, fun v H' ⟨F', G', d, s', ds', gr', r', q'⟩ => L.rt v H' ⟨F', G', d, s', ds', S.gr.trans s', r', q'⟩,
      fun σ' H' ⟨F', G', δ', s', S', q'⟩ => L.bk σ' H' ⟨F', G', δ', s', ⟨S'.ds, S.gr.trans s', S'.sl⟩, q'⟩, fun σ' H' ⟨F', G', δ', s', S', q'⟩ => L.ct σ' H' ⟨F', G', δ', s', ⟨S'.ds, S.gr.trans s', S'.sl⟩, q'⟩⟩⟩
    rintro cls dd σ' H' ⟨F', G', C', fs, rfl, s', ds', xr, ne, ec, em, q⟩ hlen
    refine ⟨true, em, fun _ a na => ?_, fun z => by cases z⟩
    rcases xr with ⟨_, z⟩ | ⟨a', fv, rfl, hx, rf⟩
    · exact absurd z ne
    have hil : i < σ'.length := by rw [hlen]; exact (List.getElem?_eq_some_iff.mp hi).1
    have hjl : j < σ'.length := by rw [hlen]; exact (List.getElem?_eq_some_iff.mp hj).1
    obtain ⟨d2, s2⟩ := ds'.new (o := xo a (.ref C') (some a')) na trivial
    refine ⟨.ref a, by rw [List.getElem?_set_self hil], ?_⟩
    refine L.nx _ _ ⟨_, G', _, s'.trans s2, ⟨d2, (S.gr.trans s').trans s2, ⟨by simp [hlen], fun k d e => ?_⟩⟩, q⟩
    rw [List.getElem?_set] at e
    split at e
    · rename_i ek
      subst ek
      split at e
      · cases e
        refine ⟨.ref a, ?_, .exc ⟨a', upd_same, s2 _ _ hx⟩ ec (rf.mono s2)⟩
        rw [List.getElem?_set_ne hij, List.getElem?_set_self (by simpa using hjl)]
      · cases e
    · rw [List.getElem?_replicate] at e
      split at e <;> cases e
end

/-! ### defs that make lambdas: their tables are told -/
def lowSpT (K : PySem.W.Frag) (Tb : List (Addr × Str)) (sp : SpD) : Sp := fun vs H Q E => ∃ (B : Bs) (G : Gm) (ds : List D) (Qd : QD) (W : WD), B.T = Tb ∧ DS K B.T B.F H G B.Z ∧ RepAll K B.F vs ds ∧ sp ds G Qd W ∧ (∀ v H', BehR K B B.F Qd v H' → Q v H') ∧ (∀ cls dd H', XW K B W cls dd H' → E cls dd H')
abbrev FnT (P : Program) (w : World) (K : PySem.W.Frag) (mg : Str → Option Value) (base : Heap) (Tb : List (Addr × Str)) (k : Nat) (f : Addr) (fd : FuncData) (ps : List Str) (sp : SpD) : Prop := FnOk P w K mg base (L2.CX P w) k f fd ps (lowSpT K Tb sp)
abbrev GnT (P : Program) (w : World) (K : PySem.W.Frag) (mg : Str → Option Value) (base : Heap) (Tb : List (Addr × Str)) (k : Nat) (f : Addr) (fd : FuncData) (ps : List Str) (sp : SpD) : Prop := GOk P w K mg base k f fd ps (lowSpT K Tb sp)
section
variable {P : Program} {w : World} {K : PySem.W.Frag} {mg : Str → Option Value} {base : Heap} {Tb : List (Addr × Str)} {k : Nat} {f : Addr} {fd : FuncData} {ps N : List Str} {sp : SpD}
theorem dfnT {x qual : Str} {st : Stmt} {c : Addr} (F : Fun K x qual st f fd) (hc : fd.code = .ref c) (S : FnScope N ps (defScope st)) (len : ∀ ds G Q W, sp ds G Q W → ds.length = ps.length)
    (body : ∀ (A : Around) (outer : List Env) (s : Shared) (H : Hp) (E : XK) (B : Bs) (W : WD), B.T = Tb → Room k (A.deeper (envOfC qual (defScope st) s.heap.objs.size f (.ref c))) →
      Takes (cxOf (L2.CX P w) P w K mg base N qual (defScope st) f (.ref c) A outer s H E) (fun cls d _ H => XW K B W cls d H) →
      ∃ T, DB (cxOf (L2.CX P w) P w K mg base N qual (defScope st) f (.ref c) A outer s H E) B (defBody st) T ∧ ∀ ds G Q, sp ds G Q W → T { nx := fun _ G => Q .non G, rt := Q } (startD N ds) G) :
    FnT P w K mg base Tb (k + 1) f fd ps sp := by
  obtain ⟨oc, od, kV, doc, pm, an, cdv, ct, osl, rfl, lk, hcd⟩ := F.ex
  obtain rfl : cdv = .ref c := hc
  refine ⟨fun vs H Q E ⟨B, G, ds, Qd, W, _, d, r, h, _, _⟩ => r.length.trans (len ds G Qd W h), fun A outer s H args us vs Q E hr e0 hb rv ⟨B, G, ds, Qd, W, eT, d, r, h, kq, ke⟩ => ?_⟩
  refine LamX.run_ofS lk hcd S hr e0 hb rv (r.length.trans (len ds G Qd W h)) fun hr' => ?_
  obtain ⟨T, hT, hq⟩ := body A outer s H E B W eT hr' ((takes_of rfl rfl rfl rfl).imp fun c d _ H q => ke c d H q)
  exact ⟨upS K B T, hT, B.F, G, startD N ds, _, ⟨d, .refl B.F, sl_start r⟩, hq ds G Qd h, ⟨fun σ H' ⟨F', G', δ', s', S', q⟩ => kq _ _ ⟨F', G', .non, s', S'.ds, S'.gr, .non, q⟩, fun v H' q => kq v H' q, fun _ _ ⟨_, _, _, _, _, q⟩ => q.elim, fun _ _ ⟨_, _, _, _, _, q⟩ => q.elim⟩⟩
theorem dfgT {x qual : Str} {st : Stmt} {c : Addr} (F : Fun K x qual st f fd) (hc : fd.code = .ref c) (S : FnScope N ps (defScope st)) (len : ∀ ds G Q W, sp ds G Q W → ds.length = ps.length)
    (body : ∀ (A : Around) (outer : List Env) (s : Shared) (H : Hp) (E : XK) (B : Bs), B.T = Tb → A.guards = some [] → Room k (A.deeper (envOfC qual (defScope st) s.heap.objs.size f (.ref c))) →
      ∃ T, DB (cxOf CX0 P w K mg base N qual (defScope st) f (.ref c) A outer s H E).nox B (defBody st) T ∧ ∀ ds G Q W, sp ds G Q W → T { nx := fun _ G => Q .non G, rt := Q } (startD N ds) G) :
    GnT P w K mg base Tb (k + 1) f fd ps sp := by
  obtain ⟨oc, od, kV, doc, pm, an, cdv, ct, osl, rfl, lk, hcd⟩ := F.ex
  obtain rfl : cdv = .ref c := hc
  refine ⟨fun vs H Q E ⟨B, G, ds, Qd, W, _, d, r, h, _, _⟩ => r.length.trans (len ds G Qd W h), fun A outer s H args us vs Q E g hr e0 hb rv ⟨B, G, ds, Qd, W, eT, d, r, h, kq, ke⟩ => ?_⟩
  refine LamX.run_ofS lk hcd S hr e0 hb rv (r.length.trans (len ds G Qd W h)) fun hr' => ?_
  obtain ⟨T, hT, hq⟩ := body A outer s H E B eT g hr'
  exact ⟨upS K B T, PSs.nox hT, B.F, G, startD N ds, _, ⟨d, .refl B.F, sl_start r⟩, hq ds G Qd W h, ⟨fun σ H' ⟨F', G', δ', s', S', q⟩ => kq _ _ ⟨F', G', .non, s', S'.ds, S'.gr, .non, q⟩, fun v H' q => kq v H' q, fun _ _ ⟨_, _, _, _, _, q⟩ => q.elim, fun _ _ ⟨_, _, _, _, _, q⟩ => q.elim⟩⟩
end
section
variable {X : Cx} {B : Bs} {K : PySem.W.Frag} {W : WD} {k : Nat} {f : Addr} {fd : FuncData} {ps : List Str} {sp : SpD} {x : Str} {p pos : Pos} {e : Expr} {es : List Expr} {t : TAD} {σ : L2.St} {H F : Hp} {δ : SD} {G : Gm}
theorem low_ofT {Q : VK} {Qd : QD} {vs : List V} {ds : List D} {F1 : Hp} {G1 : Gm} (kk : ∀ v H', Beh K B σ F δ Qd v H' → Q v H') (s1 : Same F F1) (S1 : Sit K B σ H F1 δ G1) (r : RepAll K F1 vs ds) (h : sp ds G1 Qd W) : lowSpT K B.T sp vs H Q (XW K B W) :=
  ⟨⟨F1, B.Z, B.T⟩, G1, ds, Qd, W, rfl, S1.ds, r, h, fun v H' ⟨F', G', d, s', ds', _, r', q'⟩ => kk v H' ⟨F', G', d, s1.trans s', ⟨ds', S1.gr.trans s', S1.sl.mono s'⟩, r', q'⟩,
    fun cls dd H' ⟨F', G', C, fs, e, s', ds', xr, w⟩ => ⟨F', G', C, fs, e, S1.gr.trans s', ds', xr, w⟩⟩
theorem de_callT {Tb : List (Addr × Str)} (eT : B.T = Tb) (Fn : FnT X.prog X.w X.K X.mg X.base Tb k f fd ps sp) (hr : Room k X.A) (hg : Gl X x) (hm : X.mg x = some (.ref f)) (hk : PySem.W.keepIn X.K (.ref f) = true) (hb : Binds X.K fd ps []) (hx : Passes (L2.CX X.prog X.w) X (XW X.K B W))
    (ha : DA X B (e :: es) t) (hdb : (x == ("__debug__" : Str)) = false := by decide) (he : starEach (e :: es) X.env = (false, eval e X.env) :: starEach es X.env := by rfl) (hpl : (backTo pos (starEach es X.env)).any (·.1) = false := by rfl) :
    DE X B (.Call (.Name x p) (e :: es) [] pos) (dCall sp W t) := by
  subst eT
  exact PE.weak (pe_call Fn hr hg hm hk hb .nil hx ha hdb he hpl) fun σ H Q ⟨F, G, δ, Qd, S, h, kk⟩ => ⟨F, G, δ, _, S, h, fun vs H1 ⟨F1, G1, ds, s1, S1, r1, h1⟩ => by
    show lowSpT X.K B.T sp (vs ++ []) H1 Q _
    rw [List.append_nil]
    exact low_ofT kk s1 S1 r1 h1⟩
theorem de_gT {Tb : List (Addr × Str)} (eT : B.T = Tb) (Fn : GnT X.prog X.w X.K X.mg X.base Tb k f fd ps sp) (g : X.A.guards = some []) (hr : Room k X.A) (hg : Gl X x) (hm : X.mg x = some (.ref f)) (hk : PySem.W.keepIn X.K (.ref f) = true) (hb : Binds X.K fd ps [])
    (ha : DA X B (e :: es) t) (hdb : (x == ("__debug__" : Str)) = false := by decide) (he : starEach (e :: es) X.env = (false, eval e X.env) :: starEach es X.env := by rfl) (hpl : (backTo pos (starEach es X.env)).any (·.1) = false := by rfl) :
    DE X B (.Call (.Name x p) (e :: es) [] pos) (dCall sp WN t) := by
  subst eT
  exact PE.weak (pe_g (E := XW X.K B WN) Fn g hr hg hm hk hb .nil ha hdb he hpl) fun σ H Q ⟨F, G, δ, Qd, S, h, kk⟩ => ⟨F, G, δ, _, S, h, fun vs H1 ⟨F1, G1, ds, s1, S1, r1, h1⟩ => by
    show lowSpT X.K B.T sp (vs ++ []) H1 Q _
    rw [List.append_nil]
    exact low_ofT kk s1 S1 r1 h1⟩
end
end JP

namespace JP
open PySem PySem.Spec PyProof.Rows L2

/-! ### x(k = v, ..), x of an own class -/
theorem callO_kw {M : Model} {A : Around} {E : Value → Shared → Prop} {s : Shared} {a : Addr} {pos : Pos} {Q : Value → Shared → Prop} {args : List (Bool × Sem Value)} {kws : List (Option Str × Sem Value)}
    (hp : (args.any (·.1) || kws.any (·.1.isNone)) = false)
    (h : wpAny M A (evalArgs (.ref a) true args kws) (fun z t => (∃ C ox od, PySem.W.InstAt t.heap a ox C od ∧ ox.data = .plain) ∧ wpAny M A (call (.ref a) ([] ++ z.pos) z.kw) Q E t) E s) :
    wpAny M A (callWith pos (.ref a) [] args kws) Q E s := by
  unfold callWith
  apply wpAny_bind
  apply wpAny_holding
  apply wpAny_mono h
  · rintro z t ⟨⟨C, ox, od, J, d0⟩, g⟩
    apply wpAny_bind
    apply wpAny_standAt
    simp only [hp]
    apply wpAny_bind
    apply (PySem.W.kco_keeper (M := M) J d0).here
    apply wpAny_bind
    refine wpAny_mono (wpAny_operateT g) (fun r u hr => ?_) fun _ _ q => q
    exact wpAny_bind (wpAny_holding (wpAny_point (wpAny_pure hr)))
  · intro _ _ q
    exact q
def tCallOK (X : Cx) (C : Addr) (n : Nat) (sp : Sp) (gV : List V → List V → List V) (E : XK) (tf : TE) (tk : TA) : TE := fun σ H Q => tf σ H fun y H1 => ∃ a, y = V.ref a ∧ tk σ H1 fun zs H2 => zs.length = n ∧ StX.InsC X H2 a C ∧ sp (gV [.ref a] zs) H2 Q E
section
variable {X : Cx} {B : Bs} {CX : CXT} {k : Nat} {f C : Addr} {fd : FuncData} {ps ks : List Str} {fe : Expr} {pos : Pos} {kws : List Keyword} {g : List Value → List Value → List Value} {gV : List V → List V → List V} {gD : List D → List D → List D}
theorem pe_callOK {sp : Sp} {E : XK} {tf : TE} {tk : TA} (hf : PE X fe tf) (c : StX.CallO X.K C f) (F : FnOk X.prog X.w X.K X.mg X.base CX k f fd ps sp) (hr : Room k X.A) (hb : KBn X.K fd ps 1 ks g gV) (hx : Passes CX X E) (hkw : PK X kws tk)
    (hall : (backToKw pos (keywordEach kws X.env)).all (·.1.isSome) = true := by rfl) (hks : (backToKw pos (keywordEach kws X.env)).filterMap (·.1) = ks := by rfl)
    (ht : eval (.Call fe [] kws pos) X.env = (do callWith pos (← eval fe X.env) [] (backTo pos (starEach [] X.env)) (backToKw pos (keywordEach kws X.env))) := by rfl)
    (hpl : ((backTo pos (starEach [] X.env)).any (·.1) || (backToKw pos (keywordEach kws X.env)).any (·.1.isNone)) = false := by rfl) : PE X (.Call fe [] kws pos) (tCallOK X C ks.length sp gV E tf tk) := by
  constructor
  intro pins s σ H Q I h
  rw [ht]
  refine wpAny_bind (thn (hf.run pins s σ H _ I h) ?_)
  rintro u s1 ⟨y, H1, I1, ry, a, rfl, q⟩
  obtain rfl : u = Value.ref a := ry
  apply callO_kw hpl
  apply evalArgs_kw2_nil hall
  refine thn (hkw.run pos pins s1 σ H1 _ I1 q) ?_
  rintro ws s2 ⟨zs, H2, I2, rz, lz, hi, q2⟩
  obtain ⟨ox, od, J, hd⟩ := StX.insC_at I2 hi
  refine ⟨⟨C, ox, od, J, hd⟩, ?_⟩
  rw [hks]
  have r1 : Vals [V.ref a] [Value.ref a] := .cons rfl .nil
  have run := F.run X.A X.stack s2 H2 ⟨[.ref a], ks.zip ws⟩ (g [.ref a] ws) (gV [.ref a] zs) Q E hr I2.env0 (hb.to s2 [.ref a] ws I2.kIn rfl (rz.length.symm.trans lz)) (hb.rel r1 rz) q2
  apply wpAny_call
  apply PySem.W.kco_code (a := ⟨[], ks.zip ws⟩) I2.kIn J hd c.at_ c.fn c.fi
  apply codeAny_mono run
  intro r s' hq
  match r, hq with
  | .error e, hq => exact hx pins σ H2 s2 e s' I2 hq
  | .ok (.ret u), hq => exact I2.after hq
  | .ok .next, hq => exact hq.elim
  | .ok .brk, hq => exact hq.elim
  | .ok .cont, hq => exact hq.elim
def dCallOK (C : Addr) (n : Nat) (sp : SpD) (gD : List D → List D → List D) (W : WD) (tf : TED) (tk : TAD) : TED := fun δ G Q => tf δ G fun d G1 => isO d = true ∧ tk δ G1 fun ds G2 => ds.length = n ∧ match insD d G2 with | some (C', _) => C' = C ∧ sp (gD [d] ds) G2 Q W | none => False
theorem de_callOK {sp : SpD} {W : WD} {tf : TED} {tk : TAD} (hf : DE X B fe tf) (c : StX.CallO X.K C f) (Fn : FnD X.prog X.w X.K X.mg X.base k f fd ps sp) (hr : Room k X.A) (hb : KBn X.K fd ps 1 ks g gV) (hx : Passes (L2.CX X.prog X.w) X (XW X.K B W)) (hp : PermOk gV gD) (hkw : DK X B kws tk)
    (hall : (backToKw pos (keywordEach kws X.env)).all (·.1.isSome) = true := by rfl) (hks : (backToKw pos (keywordEach kws X.env)).filterMap (·.1) = ks := by rfl)
    (ht : eval (.Call fe [] kws pos) X.env = (do callWith pos (← eval fe X.env) [] (backTo pos (starEach [] X.env)) (backToKw pos (keywordEach kws X.env))) := by rfl)
    (hpl : ((backTo pos (starEach [] X.env)).any (·.1) || (backToKw pos (keywordEach kws X.env)).any (·.1.isNone)) = false := by rfl) : DE X B (.Call fe [] kws pos) (dCallOK C ks.length sp gD W tf tk) :=
  PE.weak (pe_callOK hf c Fn hr hb hx hkw hall hks ht hpl) fun σ H Q ⟨F, G, δ, Qd, S, h, kk⟩ => ⟨F, G, δ, _, S, h, fun v H1 ⟨F1, G1, d, s1, S1, r1, ho, h1⟩ => by
    obtain ⟨a, rfl⟩ := isO_ref r1 ho
    refine ⟨a, rfl, F1, G1, δ, _, S1, h1, fun zs H2 ⟨F2, G2, ds, s2, S2, r2, hl, h2⟩ => ?_⟩
    cases q : insD d G2 with
    | none => simp only [q] at h2
    | some cf =>
      obtain ⟨C', fs⟩ := cf
      simp only [q] at h2
      obtain ⟨rfl, h3⟩ := h2
      have r3 := r1.mono s2
      obtain ⟨a', dx, fv, ea, e1, gc, na, rf⟩ := ins_rep S2 r3 q
      cases ea
      exact ⟨r2.length.trans hl, .inr ⟨dx, fv, e1⟩, low_of kk (s1.trans s2) S2 (hp _ _ _ _ _ _ (.cons r3 .nil) r2) h3⟩⟩
end
/-! ### ==, != by own classes, the fragment by its name -/
section
variable {X : Cx} {B : Bs} {K : PySem.W.Frag} {a b : Expr} {ta tb : TED} {pos : Pos} {W : WD} {k : Nat} {f C : Addr} {fd : FuncData} {ps : List Str} {sp : SpD}
theorem de_eqOK (hK : X.K = K) (M : OwnM X.K C "__eq__" f) (Fn : FnD X.prog X.w X.K X.mg X.base k f fd ps sp) (hb : Binds X.K fd ps []) (hr : Room k X.A) (hx : Passes (L2.CX X.prog X.w) X (XW X.K B W)) (ha : DE X B a ta) (hb2 : DE X B b tb) : DE X B (.Compare a [.Eq] [b] pos) (dOp (eqOD K C sp W false) ta tb) := hK ▸ de_eqO M Fn hb hr hx ha hb2
theorem dt_eqOK (hK : X.K = K) (M : OwnM X.K C "__eq__" f) (Fn : FnD X.prog X.w X.K X.mg X.base k f fd ps sp) (hb : Binds X.K fd ps []) (hr : Room k X.A) (hx : Passes (L2.CX X.prog X.w) X (XW X.K B W)) (ha : DE X B a ta) (hb2 : DE X B b tb) : DT X B (.Compare a [.Eq] [b] pos) (dTest (dOp (eqOD K C sp W false) ta tb)) := hK ▸ dt_eqO M Fn hb hr hx ha hb2
theorem de_neOK (hK : X.K = K) (M : OwnM X.K C "__eq__" f) (hne : PySem.W.findIn X.K (.ref C) "__ne__" = some (some (.builtin "object.__ne__"))) (hmr : PySem.W.mroIn X.K C (.type "object") = some true) (Fn : FnD X.prog X.w X.K X.mg X.base k f fd ps sp) (hb : Binds X.K fd ps []) (hr : Room (k + 1) X.A) (hx : Passes (L2.CX X.prog X.w) X (XW X.K B W)) (ha : DE X B a ta) (hb2 : DE X B b tb) :
    DE X B (.Compare a [.NotEq] [b] pos) (dOp (eqOD K C sp W true) ta tb) := hK ▸ de_neO M hne hmr Fn hb hr hx ha hb2
theorem dt_neOK (hK : X.K = K) (M : OwnM X.K C "__eq__" f) (hne : PySem.W.findIn X.K (.ref C) "__ne__" = some (some (.builtin "object.__ne__"))) (hmr : PySem.W.mroIn X.K C (.type "object") = some true) (Fn : FnD X.prog X.w X.K X.mg X.base k f fd ps sp) (hb : Binds X.K fd ps []) (hr : Room (k + 1) X.A) (hx : Passes (L2.CX X.prog X.w) X (XW X.K B W)) (ha : DE X B a ta) (hb2 : DE X B b tb) :
    DT X B (.Compare a [.NotEq] [b] pos) (dTest (dOp (eqOD K C sp W true) ta tb)) := hK ▸ dt_neO M hne hmr Fn hb hr hx ha hb2
end
end JP

namespace JP
open PySem PySem.Spec PyProof.Rows L2

/-! ### x + y, x * y, .. of one own class; ~x -/
def rBinO (C : Addr) (sp : Sp) (E : XK) : R2 := fun x y H Q => ∃ a dx fs b dy gs, x = .ref a ∧ y = .ref b ∧ H a = some (.ins C dx fs) ∧ H b = some (.ins C dy gs) ∧ sp [.ref a, .ref b] H (fun v H' => (∃ c, v = .ref c) ∧ Q v H') E
section
variable {X : Cx} {CX : CXT} {k : Nat} {C g : Addr} {fd : FuncData} {ps : List Str} {sp : Sp} {E : XK}
theorem op_binO {op : Operator} (hc : PySem.W.selfFirst X.K C = true) (M : OwnM X.K C (PySem.dunder op.info.2) g) (F : FnOk X.prog X.w X.K X.mg X.base CX k g fd ps sp) (hb : Binds X.K fd ps []) (hr : Room k X.A) (hx : Passes CX X E) : OpR X (binaryOp op) (rBinO C sp E) := by
  intro pins s σ H x y v u Q I rx ry h
  obtain ⟨a, dx, fs, b, dy, gs, rfl, rfl, ha, hb2, q⟩ := h
  cases rx
  cases ry
  obtain ⟨ox, od, J⟩ := ins_inst I ha
  obtain ⟨oy, oe, J2⟩ := ins_inst I hb2
  obtain ⟨m, hF⟩ := I.fr
  refine PySem.W.binop_K hF I.ok.mod.kin J J2.type hc M.at_ M.fn ?_
  refine wpAny_mono (call_at (us := [.ref a, .ref b]) (vs := [.ref a, .ref b]) F hb hr hx I I.env0 (.cons rfl (.cons rfl .nil)) q) (fun w s' z => ?_) fun _ _ x => x
  obtain ⟨z', H', I', rz, ⟨c, rfl⟩, qz⟩ := z
  obtain rfl : w = Value.ref c := rz
  exact ⟨.ref c, H', I', rfl, qz⟩
end
/-- by trees -/
def binOD (C : Addr) (sp : SpD) (W : WD) : R2D := fun a b G Q => match insD a G with
  | some (C1, _) => (match insD b G with
    | some (C2, _) => C1 = C ∧ C2 = C ∧ sp [a, b] G (fun z G1 => isO z = true ∧ Q z G1) W
    | none => False)
  | none => False
section
variable {X : Cx} {B : Bs} {k : Nat} {C g : Addr} {fd : FuncData} {ps : List Str} {sp : SpD} {W : WD} {op : Operator} {a b : Expr} {ta tb : TED} {pos : Pos}
theorem de_binO (hc : PySem.W.selfFirst X.K C = true) (M : OwnM X.K C (PySem.dunder op.info.2) g) (Fn : FnD X.prog X.w X.K X.mg X.base k g fd ps sp) (hb : Binds X.K fd ps []) (hr : Room k X.A) (hx : Passes (L2.CX X.prog X.w) X (XW X.K B W)) (ha : DE X B a ta) (hb2 : DE X B b tb) : DE X B (.BinOp a op b pos) (dOp (binOD C sp W) ta tb) :=
  PE.weak (pe_op (op_binO hc M Fn hb hr hx) ha hb2) fun σ H Q ⟨F, G, δ, Qd, S, h, k⟩ => up2 S h fun x y H2 F2 G2 d e s2 S2 r1 r2 h2 => by
    unfold binOD at h2
    cases q1 : insD d G2 with
    | none => simp only [q1] at h2
    | some c1 =>
      obtain ⟨C1, f1⟩ := c1
      cases q2 : insD e G2 with
      | none => simp only [q1, q2] at h2
      | some c2 =>
        obtain ⟨C2, f2⟩ := c2
        simp only [q1, q2] at h2
        obtain ⟨rfl, rfl, h3⟩ := h2
        obtain ⟨a1, dx1, fv1, rfl, e1, _⟩ := ins_rep S2 r1 q1
        obtain ⟨a2, dx2, fv2, rfl, e2, _⟩ := ins_rep S2 r2 q2
        refine ⟨a1, dx1, fv1, a2, dx2, fv2, rfl, rfl, e1, e2, low_at S2 (.cons r1 (.cons r2 .nil)) h3 fun v H' ⟨F', G', d', s', S', r', o', q'⟩ => ⟨isO_ref r' o', k v H' ⟨F', G', d', s2.trans s', S', r', q'⟩⟩⟩
end
/-! ### ~x; x op a flat value -/
def rInvO (C : Addr) (sp : Sp) (E : XK) : V → Hp → VK → Prop := fun x H Q => ∃ a dx fs, x = .ref a ∧ H a = some (.ins C dx fs) ∧ sp [.ref a] H Q E
def rBinF (C : Addr) (T : String) (sp : Sp) (E : XK) : R2 := fun x y H Q => ∃ a dx fs, x = .ref a ∧ H a = some (.ins C dx fs) ∧ (∀ u, RelV y u → typeOf u = pure (.type T)) ∧ sp [.ref a, y] H (fun v H' => (∃ c, v = .ref c) ∧ Q v H') E
section
variable {X : Cx} {CX : CXT} {k : Nat} {C g : Addr} {fd : FuncData} {ps : List Str} {sp : Sp} {E : XK}
theorem un_invO (M : OwnM X.K C "__invert__" g) (F : FnOk X.prog X.w X.K X.mg X.base CX k g fd ps sp) (hb : Binds X.K fd ps []) (hr : Room k X.A) (hx : Passes CX X E) : UnR X (unaryOp .Invert) (rInvO C sp E) := by
  intro pins s σ H x v Q I rx h
  obtain ⟨a, dx, fs, rfl, ha, q⟩ := h
  cases rx
  obtain ⟨ox, od, J⟩ := ins_inst I ha
  obtain ⟨m, hF⟩ := I.fr
  exact PySem.W.ksp_inv hF I.ok.mod.kin J M.at_ M.fn (call_at (us := [.ref a]) (vs := [.ref a]) F hb hr hx I I.env0 (.cons rfl .nil) q)
theorem op_binF {op : Operator} {T : String} {fo ro rc : Option Value} (hc : PySem.W.selfFirst X.K C = true) (M : OwnM X.K C (PySem.dunder op.info.2) g) (hrd : PySem.W.findIn X.K (.ref C) (dunderR op.info.2) = some rc) (hrc : rc = none ∨ ∃ g : Addr, rc = some (.ref g))
    (h1 : PySem.W.findIn X.K (.type T) (PySem.dunder op.info.2) = some fo) (h2 : PySem.W.findIn X.K (.type T) (dunderR op.info.2) = some ro) (hsub : PySem.W.subIn X.K (.type T) (.ref C) = some false)
    (F : FnOk X.prog X.w X.K X.mg X.base CX k g fd ps sp) (hb : Binds X.K fd ps []) (hr : Room k X.A) (hx : Passes CX X E) : OpR X (binaryOp op) (rBinF C T sp E) := by
  intro pins s σ H x y v u Q I rx ry h
  obtain ⟨a, dx, fs, rfl, ha, ht, q⟩ := h
  cases rx
  obtain ⟨ox, od, J⟩ := ins_inst I ha
  obtain ⟨m, hF⟩ := I.fr
  refine PySem.W.ksp_binT hF I.ok.mod.kin J (ht u ry) hc M.at_ M.fn hrd hrc h1 h2 hsub ?_
  refine wpAny_mono (call_at (us := [.ref a, u]) (vs := [.ref a, y]) F hb hr hx I I.env0 (.cons rfl (.cons ry .nil)) q) (fun w s' z => ?_) fun _ _ x => x
  obtain ⟨z', H', I', rz, ⟨c, rfl⟩, qz⟩ := z
  obtain rfl : w = Value.ref c := rz
  exact ⟨.ref c, H', I', rfl, qz⟩
end
/-- by trees -/
def invOD (C : Addr) (sp : SpD) (W : WD) : R1D := fun a G Q => match insD a G with
  | some (C1, _) => C1 = C ∧ sp [a] G Q W
  | none => False
def flatT : D → String → Bool
  | .int _, T => T == "int"
  | .bl _, T => T == "bool"
  | .str _, T => T == "str"
  | .non, T => T == "NoneType"
  | _, _ => false
theorem flatT_ty {K : PySem.W.Frag} {F : Hp} {v : V} {d : D} {T : String} (r : Rep K F v d) (h : flatT d T = true) : ∀ u, RelV v u → typeOf u = pure (.type T) := by
  intro u ru
  cases d with
  | non =>
    obtain rfl := beq_iff_eq.mp (show (T == "NoneType") = true from h)
    cases r
    cases (show u = Value.none from ru)
    rfl
  | bl b =>
    obtain rfl := beq_iff_eq.mp (show (T == "bool") = true from h)
    cases r
    cases (show u = Value.bool _ from ru)
    rfl
  | int i =>
    obtain rfl := beq_iff_eq.mp (show (T == "int") = true from h)
    cases r
    obtain ⟨t, rfl⟩ := (show ∃ t, u = Value.int _ t from ru)
    rfl
  | str x =>
    obtain rfl := beq_iff_eq.mp (show (T == "str") = true from h)
    cases r
    obtain ⟨t, rfl⟩ := (show ∃ t, u = Value.str _ t from ru)
    rfl
  | _ => exact absurd h Bool.false_ne_true
def binFD (C : Addr) (T : String) (sp : SpD) (W : WD) : R2D := fun a b G Q => match insD a G with
  | some (C1, _) => C1 = C ∧ flatT b T = true ∧ sp [a, b] G (fun z G1 => isO z = true ∧ Q z G1) W
  | none => False
section
variable {X : Cx} {B : Bs} {k : Nat} {C g : Addr} {fd : FuncData} {ps : List Str} {sp : SpD} {W : WD} {op : Operator} {a b : Expr} {ta tb : TED} {pos : Pos} {T : String} {fo ro rc : Option Value}
theorem de_invO (M : OwnM X.K C "__invert__" g) (Fn : FnD X.prog X.w X.K X.mg X.base k g fd ps sp) (hb : Binds X.K fd ps []) (hr : Room k X.A) (hx : Passes (L2.CX X.prog X.w) X (XW X.K B W)) (ha : DE X B a ta) : DE X B (.UnaryOp .Invert a pos) (dUn (invOD C sp W) ta) :=
  PE.weak (pe_un (un_invO M Fn hb hr hx) ha) fun σ H Q ⟨F, G, δ, Qd, S, h, k⟩ => ⟨F, G, δ, _, S, h, fun v H1 ⟨F1, G1, d, s1, S1, r1, h1⟩ => by
    unfold invOD at h1
    cases q1 : insD d G1 with
    | none => simp only [q1] at h1
    | some c1 =>
      obtain ⟨C1, f1⟩ := c1
      simp only [q1] at h1
      obtain ⟨rfl, h3⟩ := h1
      obtain ⟨a1, dx1, fv1, rfl, e1, _⟩ := ins_rep S1 r1 q1
      exact ⟨a1, dx1, fv1, rfl, e1, low_at S1 (.cons r1 .nil) h3 fun v H' ⟨F', G', d', s', S', r', q'⟩ => k v H' ⟨F', G', d', s1.trans s', S', r', q'⟩⟩⟩
theorem de_binF (hc : PySem.W.selfFirst X.K C = true) (M : OwnM X.K C (PySem.dunder op.info.2) g) (hrd : PySem.W.findIn X.K (.ref C) (dunderR op.info.2) = some rc) (hrc : rc = none ∨ ∃ g : Addr, rc = some (.ref g))
    (h1 : PySem.W.findIn X.K (.type T) (PySem.dunder op.info.2) = some fo) (h2 : PySem.W.findIn X.K (.type T) (dunderR op.info.2) = some ro) (hsub : PySem.W.subIn X.K (.type T) (.ref C) = some false)
    (Fn : FnD X.prog X.w X.K X.mg X.base k g fd ps sp) (hb : Binds X.K fd ps []) (hr : Room k X.A) (hx : Passes (L2.CX X.prog X.w) X (XW X.K B W)) (ha : DE X B a ta) (hb2 : DE X B b tb) : DE X B (.BinOp a op b pos) (dOp (binFD C T sp W) ta tb) :=
  PE.weak (pe_op (op_binF hc M hrd hrc h1 h2 hsub Fn hb hr hx) ha hb2) fun σ H Q ⟨F, G, δ, Qd, S, h, k⟩ => up2 S h fun x y H2 F2 G2 d e s2 S2 r1 r2 h2 => by
    unfold binFD at h2
    cases q1 : insD d G2 with
    | none => simp only [q1] at h2
    | some c1 =>
      obtain ⟨C1, f1⟩ := c1
      simp only [q1] at h2
      obtain ⟨rfl, hf, h3⟩ := h2
      obtain ⟨a1, dx1, fv1, rfl, e1, _⟩ := ins_rep S2 r1 q1
      exact ⟨a1, dx1, fv1, rfl, e1, flatT_ty r2 hf, low_at S2 (.cons r1 (.cons r2 .nil)) h3 fun v H' ⟨F', G', d', s', S', r', o', q'⟩ => ⟨isO_ref r' o', k v H' ⟨F', G', d', s2.trans s', S', r', q'⟩⟩⟩
end
end JP

namespace JP
open PySem PySem.Spec PyProof.Rows L2

/-! ### errors that keep copies of their fields: flat values -/
def flatD : D → Bool
  | .non => true
  | .bl _ => true
  | .int _ => true
  | .str _ => true
  | _ => false
theorem flatD_V {K : PySem.W.Frag} {F : Hp} {v : V} {d : D} (r : Rep K F v d) (h : flatD d = true) : flatV v = true := by
  cases d with
  | non => cases r; rfl
  | bl b => cases r; rfl
  | int b => cases r; rfl
  | str b => cases r; rfl
  | _ => cases h
/-- p, where all are flat -/
def andFlat : List D → Prop → Prop
  | [], p => p
  | .non :: r, p => andFlat r p
  | .bl _ :: r, p => andFlat r p
  | .int _ :: r, p => andFlat r p
  | .str _ :: r, p => andFlat r p
  | _, _ => False
theorem flat_cons {d : D} {ds : List D} (h : flatD d = true) (t : ∀ e ∈ ds, flatD e = true) : ∀ e ∈ d :: ds, flatD e = true := fun e he => by
  rcases List.mem_cons.mp he with rfl | he
  · exact h
  · exact t e he
theorem andFlat_and {p : Prop} : ∀ {ds : List D}, andFlat ds p → p ∧ ∀ d ∈ ds, flatD d = true
  | [], h => ⟨h, fun d hd => by cases hd⟩
  | .non :: r, h => have := andFlat_and (ds := r) h; ⟨this.1, flat_cons rfl this.2⟩
  | .bl _ :: r, h => have := andFlat_and (ds := r) h; ⟨this.1, flat_cons rfl this.2⟩
  | .int _ :: r, h => have := andFlat_and (ds := r) h; ⟨this.1, flat_cons rfl this.2⟩
  | .str _ :: r, h => have := andFlat_and (ds := r) h; ⟨this.1, flat_cons rfl this.2⟩
  | .ty _ :: _, h => h.elim
  | .adr _ :: _, h => h.elim
  | .tup _ :: _, h => h.elim
  | .lst _ :: _, h => h.elim
  | .scr _ :: _, h => h.elim
  | .ins _ _ :: _, h => h.elim
  | .exc _ _ :: _, h => h.elim
  | .dic _ :: _, h => h.elim
  | .dit _ :: _, h => h.elim
def dRaiseF (W : WD) (C : Addr) (fs : List Str) (t : TAD) : TSD := fun E δ G => t δ G fun ds G1 => ds.length = fs.length ∧ andFlat ds (W C (fs.zip ds).reverse G1)
section
variable {X : Cx} {B : Bs} {K : PySem.W.Frag} {e : Expr} {es : List Expr} {t : TAD} {pos p apos : Pos} {W : WD}
variable {k : Nat} {f C : Addr} {fI : Addr} {fd : FuncData} {ps : List Str} {x f1 f2 : Str}
theorem ds_raise1F (hc : X.calm = true) (tk : Takes X fun cls d _ H => XW X.K B W cls d H) (T : OexC X.K C) (iC : PySem.W.findIn X.K (.ref C) "__init__" = some (some (.ref fI))) (tI : PySem.W.typeIn X.K (.ref fI) = some (.type "function"))
    (F1 : FnOk X.prog X.w X.K X.mg X.base CX0 k fI fd ps (spE1F X.K C f1)) (hr : Room (k + 1) X.A) (hb : Binds X.K fd ps []) (hg : Gl X x) (hm : X.mg x = some (.ref C)) (ha : DA X B (e :: es) t)
    (hdb : (x == ("__debug__" : Str)) = false := by decide) (he : starEach (e :: es) X.env = (false, eval e X.env) :: starEach es X.env := by rfl) (hpl : (backTo pos (starEach es X.env)).any (·.1) = false := by rfl) :
    DSt X B (.Raise (some (.Call (.Name x p) (e :: es) [] pos)) none apos) (dRaiseF W C [f1] t) :=
  PS.weak (ps_raise hc tk (pmk_oex T iC tI F1 hr hb .nil pass0 hg hm ha hdb he hpl)) fun D σ H ⟨F, G, δ, E, S, h, L⟩ => ⟨F, G, δ, _, S, h, fun vs H1 ⟨F1, G1, ds, s1, S1, r1, hl, h1⟩ => by
    match ds, r1, hl, h1 with
    | [d], .cons r .nil, hl, h1 =>
      obtain ⟨h1, hf⟩ := andFlat_and h1
      have fl := flatD_V r (hf d List.mem_cons_self)
      exact mkE1F (fun dd n => xw_new S1 n (.cons r .nil) h1) fl⟩
theorem ds_raise2F (hc : X.calm = true) (tk : Takes X fun cls d _ H => XW X.K B W cls d H) (T : OexC X.K C) (iC : PySem.W.findIn X.K (.ref C) "__init__" = some (some (.ref fI))) (tI : PySem.W.typeIn X.K (.ref fI) = some (.type "function"))
    (F1 : FnOk X.prog X.w X.K X.mg X.base CX0 k fI fd ps (spE2F X.K C f1 f2)) (hr : Room (k + 1) X.A) (hb : Binds X.K fd ps []) (hg : Gl X x) (hm : X.mg x = some (.ref C)) (ha : DA X B (e :: es) t)
    (hdb : (x == ("__debug__" : Str)) = false := by decide) (he : starEach (e :: es) X.env = (false, eval e X.env) :: starEach es X.env := by rfl) (hpl : (backTo pos (starEach es X.env)).any (·.1) = false := by rfl) :
    DSt X B (.Raise (some (.Call (.Name x p) (e :: es) [] pos)) none apos) (dRaiseF W C [f1, f2] t) :=
  PS.weak (ps_raise hc tk (pmk_oex T iC tI F1 hr hb .nil pass0 hg hm ha hdb he hpl)) fun D σ H ⟨F, G, δ, E, S, h, L⟩ => ⟨F, G, δ, _, S, h, fun vs H1 ⟨F1, G1, ds, s1, S1, r1, hl, h1⟩ => by
    match ds, r1, hl, h1 with
    | [d, d2], .cons r (.cons r2 .nil), hl, h1 =>
      obtain ⟨h1, hf⟩ := andFlat_and h1
      have fl := flatD_V r (hf d List.mem_cons_self)
      have fl2 := flatD_V r2 (hf d2 (List.mem_cons_of_mem _ List.mem_cons_self))
      exact mkE2F (fun dd n => xw_new S1 n (.cons r2 (.cons r .nil)) h1) fl fl2⟩
end
end JP

namespace JP
open PySem PySem.Spec PySem.W PyProof.Rows L2

/-! ## the head by names: what a law leans on, looked at once -/
/-- a def: where its function object is, what the text says of it, its defaults -/
structure DefY where
  ad : Frag → Addr
  nm : Str
  qual : Str
  st : Stmt
  dfl : List V
/-- the address behind a class's name in a table -/
def nsA (K : Frag) (C : Addr) (x : Str) : Addr := match findIn K (.ref C) x with
  | some (some (.ref a)) => a
  | _ => 0
/-- what a staticmethod, a property holds first -/
def fstA (K : Frag) (c : String) (p : Addr) : Addr := match recIn K p c with
  | some (.ref a :: _) => a
  | _ => 0
def fnY (K : Frag) (d : DefY) : He.FnW := match K.lookup (d.ad K) with
  | some ⟨_, _, .func fd, _⟩ => some (fd.name, fd.qualname, fd.params, fd.body, fd.scope, fd.globals, fd.closure, fd.builtins)
  | _ => none
def valOf (d : DefY) : He.FnW := some (d.nm, d.qual, defArgs d.st, .stmts (defBody d.st), defScope d.st, mainGlobals, [], builtinsNs)
def okY (K : Frag) (d : DefY) : Bool := keepIn K (.ref (d.ad K)) && match K.lookup (d.ad K) with
  | some ⟨_, _, .func fd, _⟩ => codeIn K fd.code d.qual && He.dflB K fd.defaults d.dfl
  | _ => false
/-- the code object of the function at a -/
def codeAt (K : Frag) (a : Addr) : Addr := match K.lookup a with
  | some ⟨_, _, .func fd, _⟩ => (match fd.code with
    | .ref c => c
    | _ => 0)
  | _ => 0
def tabAt (K : Frag) (a : Addr) : Addr × Addr := (codeAt K a, He.tabOf K (codeAt K a))
def tabsOk (g : Addr → Option Obj) (K : Frag) (tf : List (Frag → Addr)) : Bool := tf.all fun f => codeHdIn K (tabAt K (f K)).1 (tabAt K (f K)).2 && match g (tabAt K (f K)).2 with
  | some o => He.emptyTab o
  | none => false
/-- a dict of the top with text keys: where, its keys in order -/
abbrev TabY : Type := (Frag → Addr) × List Str
abbrev ObY : Type := Bool × List He.FnW × List (Option (List (Option (Str × Int))))
def lookY (n : Nat) (bs : Frag → List Bool) (fn : List DefY) (tf : List (Frag → Addr)) (ts : List TabY) (g : Addr → Option Obj) : ObY :=
  ((bs (He.frT g (He.asD g n))).all id && ((fn.all (okY (He.frT g (He.asD g n)))) && tabsOk g (He.frT g (He.asD g n)) tf), fn.map (fnY (He.frT g (He.asD g n))), ts.map fun t => He.dicW (He.frT g (He.asD g n)) (t.1 (He.frT g (He.asD g n))))
structure SaysY (bs : Frag → List Bool) (fn : List DefY) (tf : List (Frag → Addr)) (ts : List TabY) (w : World) (h : Heap) (K : Frag) : Prop where
  inK : K.In h
  bools : (bs K).all id = true
  oks : fn.all (okY K) = true
  fns : fn.map (fnY K) = fn.map valOf
  tabs : ts.map (fun t => He.dicW K (t.1 K)) = ts.map fun t => some (He.keysIn w.params t.2)
  hd : ∀ f ∈ tf, codeHdIn K (tabAt K (f K)).1 (tabAt K (f K)).2 = true
  out : ∀ f ∈ tf, K.lookup (tabAt K (f K)).2 = none
  mt : ∀ f ∈ tf, h.get? (tabAt K (f K)).2 = some { cls := .none, data := .fields #[] }
theorem saysY_of {n : Nat} {bs : Frag → List Bool} {fn : List DefY} {tf : List (Frag → Addr)} {ts : List TabY} {w : World} {h : Heap} (e : lookY n bs fn tf ts h.get? = (true, fn.map valOf, ts.map fun t => some (He.keysIn w.params t.2))) : SaysY bs fn tf ts w h (He.frT h.get? (He.asD h.get? n)) := by
  generalize hK : He.frT h.get? (He.asD h.get? n) = K at *
  have e' : ((bs K).all id && (fn.all (okY K) && tabsOk h.get? K tf), fn.map (fnY K), ts.map fun t => He.dicW K (t.1 K)) = ((true, fn.map valOf, ts.map fun t => some (He.keysIn w.params t.2)) : ObY) := by rw [← hK]; exact e
  injection e' with e1 e23
  injection e23 with e2 e3
  rw [Bool.and_eq_true, Bool.and_eq_true] at e1
  obtain ⟨b1, b2, b3⟩ := e1
  have each : ∀ f ∈ tf, codeHdIn K (tabAt K (f K)).1 (tabAt K (f K)).2 = true ∧ ∃ o, h.get? (tabAt K (f K)).2 = some o ∧ He.emptyTab o = true := by
    intro f hf
    have z := List.all_eq_true.mp b3 f hf
    rw [Bool.and_eq_true] at z
    refine ⟨z.1, ?_⟩
    cases q : h.get? (tabAt K (f K)).2 with
    | none => rw [q] at z; cases z.2
    | some o => rw [q] at z; exact ⟨o, rfl, z.2⟩
  refine ⟨hK ▸ He.frT_in, b1, b2, e2, e3, fun f hf => (each f hf).1, fun f hf => ?_, fun f hf => ?_⟩
  · obtain ⟨_, o, q, z⟩ := each f hf
    have := He.frT_none (as := He.asD h.get? n) q z
    rw [hK] at this
    exact this
  · obtain ⟨_, o, q, z⟩ := each f hf
    rw [q, He.emptyTab_eq z]
def hookY (n : Nat) (bs : Frag → List Bool) (fn : List DefY) (tf : List (Frag → Addr)) (ts : List TabY) : Hook where
  α := ObY
  obs := fun s => lookY n bs fn tf ts s.heap.get?
  val := fun w => (true, fn.map valOf, ts.map fun t => some (He.keysIn w.params t.2))
  says := fun w h => ∃ K : Frag, SaysY bs fn tf ts w h K
  of := fun _ _ e => ⟨_, saysY_of e⟩
  keeps := fun _ _ _ ⟨K, c⟩ k => ⟨K, ⟨Frag.In.keeps c.inK k, c.bools, c.oks, c.fns, c.tabs, c.hd, c.out, fun f hf => k _ _ (c.mt f hf)⟩⟩
theorem lookY_eq {n : Nat} {bs : Frag → List Bool} {fn : List DefY} {tf : List (Frag → Addr)} {ts : List TabY} {g : Addr → Option Obj} {s : Shared} (h : ∀ a, g a = s.heap.get? a) : lookY n bs fn tf ts g = (hookY n bs fn tf ts).obs s := by
  obtain rfl : g = s.heap.get? := funext h
  rfl
section
variable {bs : Frag → List Bool} {fn : List DefY} {tf : List (Frag → Addr)} {ts : List TabY} {w : World} {h : Heap} {K : Frag}
theorem SaysY.bit (c : SaysY bs fn tf ts w h K) (i : Nat) {b : Bool} (e : (bs K)[i]? = some b) : b = true := List.all_eq_true.mp c.bools b (List.mem_of_getElem? e)
theorem SaysY.tab (c : SaysY bs fn tf ts w h K) (i : Nat) {t : TabY} (e : ts[i]? = some t := by rfl) : ∃ es n, L2.KDict K w (t.1 K) es n := by
  have e2 : (ts.map fun t => He.dicW K (t.1 K))[i]? = (ts.map fun t => some (He.keysIn w.params t.2))[i]? := by rw [c.tabs]
  rw [List.getElem?_map, List.getElem?_map, e] at e2
  exact He.dicW_ok (Option.some.inj e2)
theorem SaysY.fn_at (c : SaysY bs fn tf ts w h K) (i : Nat) {d : DefY} (e : fn[i]? = some d) :
    ∃ oc od osl dV kV doc pm an cdv ct, K.lookup (d.ad K) = some ⟨oc, od, .func (fnOf d.nm d.qual (defArgs d.st) (defBody d.st) (defScope d.st) dV kV doc pm an cdv ct), osl⟩ ∧ codeIn K cdv d.qual = true ∧ keepIn K (.ref (d.ad K)) = true ∧ DflV K dV d.dfl := by
  have ok := List.all_eq_true.mp c.oks d (List.mem_of_getElem? e)
  have val : fnY K d = valOf d := by
    have := congrArg (fun z : List He.FnW => z[i]?) c.fns
    simp only [List.getElem?_map, e, Option.map_some, Option.some.injEq] at this
    exact this
  unfold okY at ok
  unfold fnY at val
  rw [Bool.and_eq_true] at ok
  obtain ⟨k1, k2⟩ := ok
  cases q : K.lookup (d.ad K) with
  | none => rw [q] at k2; cases k2
  | some o =>
    obtain ⟨oc, od, dt, osl⟩ := o
    rw [q] at k2 val
    cases dt with
    | func fd =>
      obtain ⟨n1, n2, n3, n4, n5, n6, n7, n8, n9, n10, n11, n12, n13, n14, n15⟩ := fd
      rw [Bool.and_eq_true] at k2
      have v : (some (n1, n2, n3, n4, n5, n6, n7, n15) : He.FnW) = valOf d := val
      simp only [valOf, Option.some.injEq, Prod.mk.injEq] at v
      obtain ⟨rfl, rfl, rfl, rfl, rfl, rfl, rfl, rfl⟩ := v
      exact ⟨oc, od, osl, _, _, _, _, _, _, _, rfl, k2.1, k1, He.dflB_ok k2.2⟩
    | _ => cases k2
end
end JP

namespace JP
open PySem PySem.Spec PySem.W PySem.Calls PyProof.Rows L2

/-! ## the end of a law's row: no guard on the stack, tables of code objects -/
/-- the abstract heap at the law's call: the empty tables, the script at most -/
def endHp (K : Frag) (ts : List Addr) (a : Addr) (o : Obj) (xs : List V) : Hp := fun b => if b ∈ ts then some (.tbl #[]) else scriptHp K a o xs b
/-- so it looks -/
def OnlyT (ts : List Addr) (H : Hp) : Prop := ∀ b, (b ∈ ts → H b = some (.tbl #[])) ∧ (b ∉ ts → H b = none ∨ ∃ o xs, H b = some (.frz o (.lst xs)))
section
variable {K : Frag} {ts : List Addr} {a b : Addr} {o : Obj} {xs : List V}
theorem endHp_tab (h : b ∈ ts) : endHp K ts a o xs b = some (.tbl #[]) := if_pos h
theorem endHp_not (h : b ∉ ts) : endHp K ts a o xs b = scriptHp K a o xs b := if_neg h
theorem endHp_only : OnlyT ts (endHp K ts a o xs) := fun b => ⟨endHp_tab, fun h => by
  rw [endHp_not h]
  exact scriptHp_only b⟩
end
theorem law_gt {P : Program} {w : World} {K : Frag} {mg mb : Str → Option Value} {k : Nat} {fa a : Addr} {fd : FuncData} {x : Str} {sp : Sp} {s : Shared} {vs : List Value} {ns : List Int} {cs : List (Addr × Addr)}
    (inK : K.In s.heap) (gl : s.heap.Ns mainGlobals mg) (bl : s.heap.Ns builtinsNs mb) (blt : ∀ x : Str, x ≠ "__name__" → mb x = bootBuiltins x) (nl : s.heap.NoLimit) (gens : s.gens = #[])
    (mt : ∀ p ∈ cs, s.heap.get? p.2 = some { cls := .none, data := .fields #[] }) (out : ∀ p ∈ cs, K.lookup p.2 = none) (hds : ∀ p ∈ cs, CodeHd s.heap p.1 p.2)
    (main : ∃ (bm : Addr) (ob : Obj), mg "__builtins__" = some (.ref bm) ∧ bm ≠ builtinsNs ∧ s.heap.get? bm = some ob ∧ ob.cls = .type "module" ∧ ob.dict = some builtinsNs ∧ ob.data = .plain)
    (obj : s.heap.get? a = some { cls := .type "list", data := .seq vs.toArray }) (hnum : IntsAre vs ns) (small : ns.length ≤ sizeLine) (room : Room k callerA)
    (F : ∀ base : Heap, K.In base → base.Ns mainGlobals mg → (∀ p ∈ cs, LamX.TabB base mg p.1 p.2) → GOk P w K mg base k fa fd [x] sp) (bind : ∀ (s : Shared) (u : Value), BindsTo s fd ⟨[u], []⟩ [(x, u)])
    (sat : ∀ H : Hp, OnlyT (cs.map Prod.snd) H → SqL K H a (ns.map V.int) → sp [.ref a] H (fun v _ => v = .bl true) fun _ _ _ => False) :
    codeAny (model P w) callerA (.call (.ref fa) ⟨[.ref a], []⟩) (fun r s' => r = .ok (.ret (.bool true)) ∧ OldK s.heap s'.heap ∧ s'.os = s.os ∧ AllBare s'.gens) s := by
  have rel := vals_ints hnum
  have wide : (ns.map V.int).length ≤ sizeLine := by
    rw [List.length_map]
    exact small
  generalize hts : cs.map Prod.snd = ts at sat
  have tab_at : ∀ {b : Addr}, b ∈ ts → s.heap.get? b = some { cls := .none, data := .fields #[] } := by
    intro b hb
    rw [← hts] at hb
    obtain ⟨p, hp, rfl⟩ := List.mem_map.mp hb
    exact mt p hp
  have tab_K : ∀ {b : Addr}, b ∈ ts → K.lookup b = none := by
    intro b hb
    rw [← hts] at hb
    obtain ⟨p, hp, rfl⟩ := List.mem_map.mp hb
    exact out p hp
  have a_ts : a ∉ ts := by
    intro hb
    have q := tab_at hb
    rw [obj] at q
    cases q
  generalize hH : endHp K ts a { cls := .type "list", data := .seq vs.toArray } (ns.map V.int) = H
  have only : OnlyT ts H := hH ▸ endHp_only
  have kinds : ∀ {b : Addr} {u : HO}, H b = some u → (b ∈ ts ∧ u = .tbl #[]) ∨ (b ∉ ts ∧ b = a ∧ K.lookup a = none ∧ u = .frz { cls := .type "list", data := .seq vs.toArray } (.lst (ns.map V.int))) := by
    intro b u e
    by_cases hb : b ∈ ts
    · rw [(only b).1 hb] at e
      exact .inl ⟨hb, (Option.some.inj e).symm⟩
    · rw [← hH, endHp_not hb] at e
      obtain ⟨q1, q2, q3⟩ := scriptHp_some e
      exact .inr ⟨hb, q1, q2, q3⟩
  have held : HOk P w H s.heap := by
    intro b u e
    rcases kinds e with ⟨hb, rfl⟩ | ⟨_, rfl, _, rfl⟩
    · exact tab_at hb
    · exact ⟨obj, wide, vs, _, rel, obj⟩
  have seq : SqL K H a (ns.map V.int) := by
    cases q : K.lookup a with
    | none =>
      refine .inl (.inr ⟨{ cls := .type "list", data := .seq vs.toArray }, ?_⟩)
      rw [← hH, endHp_not a_ts]
      exact if_pos ⟨rfl, q⟩
    | some o =>
      have e := inK a o q
      rw [obj] at e
      cases e
      exact .inr ⟨_, vs.toArray, _, q, rfl, rfl, rfl, by
        rw [List.size_toArray, hnum.length]
        exact small, by simpa using rel⟩
  have free : ∀ {b : Addr} {ob : Obj}, s.heap.get? b = some ob → (∀ its n, ob.data ≠ .seq its n) → ob.data ≠ .fields #[] → H b = none := by
    intro b ob e d1 d2
    cases q : H b with
    | none => rfl
    | some u =>
      rcases kinds q with ⟨hb, _⟩ | ⟨_, rfl, _, _⟩
      · rw [tab_at hb] at e
        cases e
        exact absurd rfl d2
      · rw [obj] at e
        cases e
        exact absurd rfl (d1 _ _)
  have nsOk : ∀ {b : Addr} {m : Str → Option Value}, s.heap.Ns b m → (hidT s.heap H).Ns b m := by
    intro b m z
    obtain ⟨ob, es, ep, e, d, r⟩ := z
    exact ⟨ob, es, ep, hidT_get e (free e (by intro its n z; rw [d] at z; cases z) (by intro z; rw [d] at z; cases z)), d, r⟩
  have inB : K.In (hidT s.heap H) := by
    intro b ob e
    refine hidT_get (inK b ob e) ?_
    cases q : H b with
    | none => rfl
    | some u =>
      rcases kinds q with ⟨hb, _⟩ | ⟨_, rfl, z, _⟩
      · rw [tab_K hb] at e
        cases e
      · rw [z] at e
        cases e
  have mods : Mod K mg (hidT s.heap H) := by
    obtain ⟨mc, h1, h2⟩ := nl
    exact ⟨inB, nsOk gl, ⟨mb, nsOk bl, blt⟩, mc, nsOk h1, h2⟩
  have tabB : ∀ p ∈ cs, LamX.TabB (hidT s.heap H) mg p.1 p.2 := by
    intro p hp
    have here := mt p hp
    constructor
    · obtain ⟨ob, fs, y1, y2, y3, y4, y5, y6, y7, got, cl, da, p11, rest⟩ := hds p hp
      refine ⟨ob, fs, y1, y2, y3, y4, y5, y6, y7, hidT_get got (free got ?_ ?_), cl, da, p11, rest⟩
      · intro its n z
        rw [da] at z
        cases z
      · intro z
        rw [da] at z
        cases z
        cases p11
    · obtain ⟨bm, ob, b1, b2, b3, b4, b5, b6⟩ := main
      refine ⟨bm, ob, b1, b2, ?_, ?_, hidT_get b3 (free b3 ?_ ?_), b4, b5, b6⟩
      · intro q
        obtain ⟨o', es, ep, e, hd, _⟩ := gl
        rw [q, e] at b3
        cases b3
        rw [hd] at b6
        cases b6
      · intro q
        rw [q, here] at b3
        cases b3
        cases b6
      · intro its n z
        rw [b6] at z
        cases z
      · intro z
        rw [b6] at z
        cases z
    · intro z
      obtain ⟨o', es, ep, e, hd, _⟩ := gl
      rw [z, here] at e
      cases e
      cases hd
  have e0 : Env0 P w K mg (hidT s.heap H) callerA [] s H :=
    { frames := rfl, mod := mods, bs := fun b o e => of_hidT e, bsz := Nat.le_of_eq (hidT_size _ _), funs := trivial, frf := fun b z => (List.not_mem_nil z).elim, hok := held, bare := .of_eq gens }
  apply codeAny_mono ((F _ inB (nsOk gl) tabB).kept callerA [] s H ⟨[.ref a], []⟩ [.ref a] [.ref a] _ _ rfl room e0 (bind s (.ref a)) (.cons rfl .nil) (sat H only seq))
  intro r s' z
  match r, z with
  | .error _, z => exact z.elim
  | .ok .next, z => exact z.elim
  | .ok .brk, z => exact z.elim
  | .ok .cont, z => exact z.elim
  | .ok (.ret u), ⟨v, H', os, bare, un, held', rv, z⟩ =>
    have ev : v = .bl true := z
    subst ev
    have eu : u = Value.bool true := rv
    subst eu
    have stays : ∀ b ob, b ∉ ts → s.heap.get? b = some ob → s'.heap.get? b = some ob := by
      intro b ob hb e
      cases q : H b with
      | none => exact un.keep b ob e q List.not_mem_nil List.not_mem_nil
      | some u =>
        rcases kinds q with ⟨hb', _⟩ | ⟨_, rfl, _, rfl⟩
        · exact absurd hb' hb
        · have e1 := (held' _ _ (un.frzs _ _ _ q)).1
          rw [obj] at e
          cases e
          exact e1
    have grows : ∀ p ∈ cs, ∃ more : Array Value, s'.heap.get? p.2 = some { cls := .none, data := .fields more } := by
      intro p hp
      have mem : p.2 ∈ ts := hts ▸ List.mem_map.mpr ⟨p, hp, rfl⟩
      obtain ⟨more, q⟩ := un.tbls p.2 #[] ((only p.2).1 mem)
      exact ⟨_, held' p.2 _ q⟩
    have isTab : ∀ {b : Addr}, b ∈ ts → ∃ p ∈ cs, p.2 = b := by
      intro b hb
      rw [← hts] at hb
      obtain ⟨p, hp, e⟩ := List.mem_map.mp hb
      exact ⟨p, hp, e⟩
    refine ⟨rfl, ⟨?_, ?_⟩, os, bare⟩
    · intro b ob e
      by_cases hb : b ∈ ts
      · right; left
        obtain ⟨p, hp, rfl⟩ := isTab hb
        obtain ⟨more, hm⟩ := grows p hp
        rw [mt p hp] at e
        cases e
        refine ⟨((hds p hp).tab (mt p hp)).isCodeTable, rfl, #[], more, rfl, ?_⟩
        rw [hm, Array.empty_append]
      · left
        exact stays b ob hb e
    · intro b ob e
      by_cases hb : b ∈ ts
      · obtain ⟨p, hp, rfl⟩ := isTab hb
        obtain ⟨more, hm⟩ := grows p hp
        exact ⟨_, hm⟩
      · exact ⟨ob, stays b ob hb e⟩
/-- the law by what the head says of it -/
theorem walk_gt {l : OpenLaw} {n k : Nat} {q : Program} {loose : List Str} {XP : (Str → Option Value) → Heap → Prop} {YP : World → Heap → Prop} {d : DefRec} {x : Str}
    (most : l.most = some n) (small : n ≤ sizeLine) (nodef : d.params.defaults = []) (room : Room k callerA)
    (F : ∀ (w : World) (mg : Str → Option Value) (fa : Addr) (h : Heap), YP w h → h.Ns mainGlobals mg → mg d.name = some (.ref fa) →
      ∃ (K : Frag) (fd : FuncData) (cs : List (Addr × Addr)) (sp : Sp), K.In h ∧ (∀ p ∈ cs, h.get? p.2 = some { cls := .none, data := .fields #[] }) ∧ (∀ p ∈ cs, K.lookup p.2 = none) ∧ (∀ p ∈ cs, CodeHd h p.1 p.2) ∧
        (∀ (s : Shared) (u : Value), BindsTo s fd ⟨[u], []⟩ [(x, u)]) ∧ (∀ (H : Hp) (a : Addr) (ns : List Int), ns.length ≤ n → OnlyT (cs.map Prod.snd) H → SqL K H a (ns.map V.int) → sp [.ref a] H (fun v _ => v = .bl true) fun _ _ _ => False) ∧
        ∀ base : Heap, K.In base → base.Ns mainGlobals mg → (∀ p ∈ cs, LamX.TabB base mg p.1 p.2) → GOk l.prog w K mg base k fa fd [x] sp) :
    WalkO q loose XP YP l.row.toRowW d [] (fun f vs => PySem.call f vs) := by
  apply Att.attach_callB most nodef
  intro w s₀ s mg mb fa o pm cd doc a vs ns G Y ho hd hcd hmg obj hnum len bits gens
  obtain ⟨K, fd, cs, sp, inK, mt, out, hds, hb, sat, hF⟩ := F w mg fa _ Y G.T.g hmg
  exact law_gt inK G.T.g G.T.b G.T.builtins G.T.nolimit gens mt out hds G.T.bmain obj hnum (Nat.le_trans len small) room hF hb fun H hO hS => sat H a ns len hO hS
/-- what is to be shown of a law that says how it draws -/
theorem law_satT {K : Frag} {Tb : List (Addr × Str)} {a : Addr} {ns : List Int} {H : Hp} {ts : List Addr} (hT : ∀ p ∈ Tb, p.1 ∈ ts) (hl : ns.length ≤ 63) (o : OnlyT ts H) (s : SqL K H a (ns.map V.int)) : lowSpT K Tb lawD [.ref a] H (fun v _ => v = .bl true) fun _ _ _ => False := by
  refine ⟨⟨fun b => if b ∈ ts then none else H b, fun _ => none, Tb⟩, fun _ => none, [.scr ns], fun d _ => d = .bl true, WN, rfl, ⟨?_, ?_, ?_, ?_, ?_, ?_⟩, .cons (.scr ?_) .nil, ⟨ns, rfl, hl, fun _ => rfl, fun _ => rfl⟩, ?_, ?_⟩
  · intro b u e
    change (if b ∈ ts then none else H b) = some u at e
    by_cases hb : b ∈ ts
    · rw [if_pos hb] at e
      cases e
    · rw [if_neg hb] at e
      exact e
  · intro _ _ e
    cases e
  · intro _ _ e
    cases e
  · intro _ _ e
    cases e
  · intro b u e
    change (if b ∈ ts then none else H b) = some u at e
    by_cases hb : b ∈ ts
    · rw [if_pos hb] at e
      cases e
    · rw [if_neg hb] at e
      rcases (o b).2 hb with z | ⟨ob, xs, z⟩
      · rw [z] at e
        cases e
      · rw [z] at e
        cases e
        trivial
  · intro p hp
    exact .nil ((o p.1).1 (hT p hp))
  · rcases s with (s | ⟨ob, s⟩) | s
    · have ha : a ∉ ts := fun z => by rw [(o a).1 z] at s; cases s
      exact .inl (.inl ((if_neg ha).trans s))
    · have ha : a ∉ ts := fun z => by rw [(o a).1 z] at s; cases s
      exact .inl (.inr ⟨ob, (if_neg ha).trans s⟩)
    · exact .inr s
  · rintro v H' ⟨_, _, _, _, _, _, r, e⟩
    subst e
    exact rep_bl r
  · rintro _ _ _ ⟨_, _, _, _, _, _, _, _, w⟩
    exact w
end JP
namespace JP
open PySem PySem.Spec PySem.W PySem.Calls PyProof.Rows L2
/-- an own error class with an own __init__ -/
def oexB (K : Frag) (C : Addr) : Bool := match K.lookup C with
  | some ⟨.type "type", _, .cls cd, sl⟩ => (match cd.mro, sl.toList with
    | .ref D :: up, [_, _, _, _, some (.builtin made), _] => decide (D = C) && (decide (made = "ValueError.__new__") && (cd.hasDict && (!cd.hasDel && PySem.HandSPX.refsVE up)))
    | _, _ => false)
  | _ => false
theorem oexB_cls {K : Frag} {C : Addr} (e : oexB K C = true) : ∃ nm q N bs bm sn sub ab col dd k0 k1 k2 k3 k5, K.lookup C = some (excClassObj nm q C N bs bm true sn sub ab col dd k0 k1 k2 k3 k5 "ValueError.__new__") ∧ PySem.HandSPX.refsVE bm = true := by
  unfold oexB at e
  cases q : K.lookup C with
  | none =>
    rw [q] at e
    cases e
  | some o =>
    rw [q] at e
    split at e
    · rename_i dd cd sl ho
      injection ho with ho
      subst ho
      split at e
      · rename_i D up s0 s1 s2 s3 made s5 hm hs
        rw [Bool.and_eq_true, Bool.and_eq_true, Bool.and_eq_true, Bool.and_eq_true] at e
        obtain ⟨e1, e2, e3, e4, e5⟩ := e
        obtain rfl := of_decide_eq_true e1
        obtain rfl := of_decide_eq_true e2
        obtain ⟨nm, bs, mro, ns, qn, hd, sn, sub, ab, col, del⟩ := cd
        have hm' : mro = .ref D :: up := hm
        have e3' : hd = true := e3
        have e4' : del = false := by simpa using e4
        subst hm' e3' e4'
        obtain ⟨l⟩ := sl
        have hs' : l = [s0, s1, s2, s3, some (.builtin "ValueError.__new__"), s5] := hs
        subst hs'
        exact ⟨nm, qn, ns, bs, up, sn, sub, ab, col, dd, s0, s1, s2, s3, s5, rfl, e5⟩
      · cases e
    · cases e
theorem codeAt_is {K : Frag} {a : Addr} {oc : Value} {od : Option Addr} {osl : Array (Option Value)} {fd : FuncData} {q : Str} (lk : K.lookup a = some ⟨oc, od, .func fd, osl⟩) (hq : codeIn K fd.code q = true) : fd.code = .ref (codeAt K a) := by
  obtain ⟨c, e⟩ := He.codeIn_ref hq
  rw [e]
  unfold codeAt
  rw [lk]
  show Value.ref c = .ref (match fd.code with | .ref c => c | _ => 0)
  rw [e]
theorem dfl_none {K : Frag} {dV : Value} (h : DflV K dV []) : dV = .none := by
  rcases h with ⟨_, e⟩ | ⟨e, _⟩
  · exact e
  · exact absurd rfl e
/-- what stands behind the first -/
def rstA (K : Frag) (c : String) (p : Addr) : List Value := match recIn K p c with
  | some (_ :: r) => r
  | _ => []
section
variable {bs : Frag → List Bool} {fn : List DefY} {tf : List (Frag → Addr)} {ts : List TabY} {w : World} {h : Heap} {K : Frag}
theorem SaysY.fact (c : SaysY bs fn tf ts w h K) (i : Nat) {p : Prop} [Decidable p] (e : (bs K)[i]? = some (decide p) := by rfl) : p := of_decide_eq_true (c.bit i e)
theorem SaysY.mts (c : SaysY bs fn tf ts w h K) : ∀ p ∈ tf.map (fun f => tabAt K (f K)), h.get? p.2 = some { cls := .none, data := .fields #[] } := fun p hp => by
  obtain ⟨f, hf, rfl⟩ := List.mem_map.mp hp
  exact c.mt f hf
theorem SaysY.outs (c : SaysY bs fn tf ts w h K) : ∀ p ∈ tf.map (fun f => tabAt K (f K)), K.lookup p.2 = none := fun p hp => by
  obtain ⟨f, hf, rfl⟩ := List.mem_map.mp hp
  exact c.out f hf
theorem SaysY.hds (c : SaysY bs fn tf ts w h K) : ∀ p ∈ tf.map (fun f => tabAt K (f K)), CodeHd h p.1 p.2 := fun p hp => by
  obtain ⟨f, hf, rfl⟩ := List.mem_map.mp hp
  exact codeHd_of_K c.inK (c.hd f hf)
end
end JP

namespace JP
open PySem PySem.Spec PyProof.Rows L2
def topS (i : Nat) : Stmt := PySem.Challenge.pw_rowcounts_k25_bounds_made_and_asked.main.body.getD i (.Pass ⟨0, 0, 0, 0⟩)
abbrev sis_integer : Stmt := topS 1
abbrev Nis_integer : List Str := ["value"]
theorem scis_integer : FnScope Nis_integer ["value"] (defScope sis_integer) := ⟨rfl, rfl, rfl, by decide +kernel, rfl, by decide +kernel, by decide +kernel⟩
abbrev sown_copy : Stmt := topS 3
abbrev Nown_copy : List Str := ["value", "item", "key"]
theorem scown_copy : FnScope Nown_copy ["value"] (defScope sown_copy) := ⟨rfl, rfl, rfl, by decide +kernel, rfl, by decide +kernel, by decide +kernel⟩
abbrev sis_form : Stmt := topS 27
abbrev Nis_form : List Str := ["value", "factor"]
theorem scis_form : FnScope Nis_form ["value"] (defScope sis_form) := ⟨rfl, rfl, rfl, by decide +kernel, rfl, by decide +kernel, by decide +kernel⟩
abbrev sis_nought : Stmt := topS 28
abbrev Nis_nought : List Str := ["form", "factor"]
theorem scis_nought : FnScope Nis_nought ["form"] (defScope sis_nought) := ⟨rfl, rfl, rfl, by decide +kernel, rfl, by decide +kernel, by decide +kernel⟩
abbrev scheck_numbers_of : Stmt := topS 29
abbrev Ncheck_numbers_of : List Str := ["numbers", "many", "number"]
theorem sccheck_numbers_of : FnScope Ncheck_numbers_of ["numbers", "many"] (defScope scheck_numbers_of) := ⟨rfl, rfl, rfl, by decide +kernel, rfl, by decide +kernel, by decide +kernel⟩
abbrev svalue_of : Stmt := topS 30
abbrev Nvalue_of : List Str := ["form", "numbers", "factor", "number"]
theorem scvalue_of : FnScope Nvalue_of ["form", "numbers"] (defScope svalue_of) := ⟨rfl, rfl, rfl, by decide +kernel, rfl, by decide +kernel, by decide +kernel⟩
abbrev s_law_pen : Stmt := topS 35
abbrev N_law_pen : List Str := ["_law_script"]
theorem sc_law_pen : FnScope N_law_pen ["_law_script"] (defScope s_law_pen) := ⟨rfl, rfl, rfl, by decide +kernel, rfl, by decide +kernel, by decide +kernel⟩
abbrev s_law_draw : Stmt := topS 36
abbrev N_law_draw : List Str := ["_law_pen_here", "_law_many", "_law_digit", "_law_at", "_law_cell", "_law_great", "_law_mixed"]
theorem sc_law_draw : FnScope N_law_draw ["_law_pen_here", "_law_many"] (defScope s_law_draw) := ⟨rfl, rfl, rfl, by decide +kernel, rfl, by decide +kernel, by decide +kernel⟩
abbrev s_law_pick : Stmt := topS 37
abbrev N_law_pick : List Str := ["_law_pen_here", "_law_some"]
theorem sc_law_pick : FnScope N_law_pick ["_law_pen_here", "_law_some"] (defScope s_law_pick) := ⟨rfl, rfl, rfl, by decide +kernel, rfl, by decide +kernel, by decide +kernel⟩
abbrev s_law_factor : Stmt := topS 38
abbrev N_law_factor : List Str := ["_law_pen_here"]
theorem sc_law_factor : FnScope N_law_factor ["_law_pen_here"] (defScope s_law_factor) := ⟨rfl, rfl, rfl, by decide +kernel, rfl, by decide +kernel, by decide +kernel⟩
abbrev s_law_form : Stmt := topS 39
abbrev N_law_form : List Str := ["_law_pen_here", "_law_many", "_law_k"]
theorem sc_law_form : FnScope N_law_form ["_law_pen_here", "_law_many"] (defScope s_law_form) := ⟨rfl, rfl, rfl, by decide +kernel, rfl, by decide +kernel, by decide +kernel⟩
abbrev s_law_value : Stmt := topS 40
abbrev N_law_value : List Str := ["_law_form_here", "_law_spots", "_law_one", "_law_other"]
theorem sc_law_value : FnScope N_law_value ["_law_form_here", "_law_spots"] (defScope s_law_value) := ⟨rfl, rfl, rfl, by decide +kernel, rfl, by decide +kernel, by decide +kernel⟩
abbrev s_law_heard : Stmt := topS 41
abbrev N_law_heard : List Str := ["_law_call_so", "_law_caught", "_law_found", "error"]
theorem sc_law_heard : FnScope N_law_heard ["_law_call_so"] (defScope s_law_heard) := ⟨rfl, rfl, rfl, by decide +kernel, rfl, by decide +kernel, by decide +kernel⟩
abbrev s_law_refused_right : Stmt := topS 42
abbrev N_law_refused_right : List Str := ["_law_pen_here", "_law_bound", "_law_many", "_law_odd", "_law_bad", "_law_heard_here"]
theorem sc_law_refused_right : FnScope N_law_refused_right ["_law_pen_here", "_law_bound", "_law_many"] (defScope s_law_refused_right) := ⟨rfl, rfl, rfl, by decide +kernel, rfl, by decide +kernel, by decide +kernel⟩
abbrev slaw : Stmt := topS 43
abbrev Nlaw : List Str := ["_law_script", "_law_pen_here", "_law_lap", "_law_many", "_law_is_so", "_law_form_here", "_law_bound", "_law_turn_so", "_law_spots", "_law_value_here", "_law_due", "_law_near", "_law_k", "_law_one"]
theorem sclaw : FnScope Nlaw ["_law_script"] (defScope slaw) := ⟨rfl, rfl, rfl, by decide +kernel, rfl, by decide +kernel, by decide +kernel⟩
abbrev sBound___init__ : Stmt := inClass (topS 26) 0
abbrev NBound___init__ : List Str := ["self", "form", "is_strict"]
theorem scBound___init__ : FnScope NBound___init__ ["self", "form", "is_strict"] (defScope sBound___init__) := ⟨rfl, rfl, rfl, by decide +kernel, rfl, by decide +kernel, by decide +kernel⟩
abbrev sBound_is_false : Stmt := inClass (topS 26) 2
abbrev NBound_is_false : List Str := ["self"]
theorem scBound_is_false : FnScope NBound_is_false ["self"] (defScope sBound_is_false) := ⟨rfl, rfl, rfl, by decide +kernel, rfl, by decide +kernel, by decide +kernel⟩
abbrev sBound___call__ : Stmt := inClass (topS 26) 3
abbrev NBound___call__ : List Str := ["self", "numbers", "total"]
theorem scBound___call__ : FnScope NBound___call__ ["self", "numbers"] (defScope sBound___call__) := ⟨rfl, rfl, rfl, by decide +kernel, rfl, by decide +kernel, by decide +kernel⟩
abbrev sBound___len__ : Stmt := inClass (topS 26) 4
abbrev NBound___len__ : List Str := ["self"]
theorem scBound___len__ : FnScope NBound___len__ ["self"] (defScope sBound___len__) := ⟨rfl, rfl, rfl, by decide +kernel, rfl, by decide +kernel, by decide +kernel⟩
abbrev sBound___eq__ : Stmt := inClass (topS 26) 9
abbrev NBound___eq__ : List Str := ["self", "other"]
theorem scBound___eq__ : FnScope NBound___eq__ ["self", "other"] (defScope sBound___eq__) := ⟨rfl, rfl, rfl, by decide +kernel, rfl, by decide +kernel, by decide +kernel⟩
abbrev sBadForm___init__ : Stmt := inClass (topS 9) 0
abbrev NBadForm___init__ : List Str := ["self", "part"]
theorem scBadForm___init__ : FnScope NBadForm___init__ ["self", "part"] (defScope sBadForm___init__) := ⟨rfl, rfl, rfl, by decide +kernel, rfl, by decide +kernel, by decide +kernel⟩
structure Top (K : PySem.W.Frag) (mg : Str → Option Value) where
  a_is_integer : Addr
  d_is_integer : FuncData
  F_is_integer : Fun K "is_integer" "is_integer" sis_integer a_is_integer d_is_integer
  b_is_integer : Binds K d_is_integer ["value"] []
  g_is_integer : mg "is_integer" = some (.ref a_is_integer)
  a_own_copy : Addr
  d_own_copy : FuncData
  F_own_copy : Fun K "own_copy" "own_copy" sown_copy a_own_copy d_own_copy
  b_own_copy : Binds K d_own_copy ["value"] []
  g_own_copy : mg "own_copy" = some (.ref a_own_copy)
  a_is_form : Addr
  d_is_form : FuncData
  F_is_form : Fun K "is_form" "is_form" sis_form a_is_form d_is_form
  b_is_form : Binds K d_is_form ["value"] []
  g_is_form : mg "is_form" = some (.ref a_is_form)
  a_is_nought : Addr
  d_is_nought : FuncData
  F_is_nought : Fun K "is_nought" "is_nought" sis_nought a_is_nought d_is_nought
  b_is_nought : Binds K d_is_nought ["form"] []
  g_is_nought : mg "is_nought" = some (.ref a_is_nought)
  a_check_numbers_of : Addr
  d_check_numbers_of : FuncData
  F_check_numbers_of : Fun K "check_numbers_of" "check_numbers_of" scheck_numbers_of a_check_numbers_of d_check_numbers_of
  b_check_numbers_of : Binds K d_check_numbers_of ["numbers", "many"] []
  g_check_numbers_of : mg "check_numbers_of" = some (.ref a_check_numbers_of)
  a_value_of : Addr
  d_value_of : FuncData
  F_value_of : Fun K "value_of" "value_of" svalue_of a_value_of d_value_of
  b_value_of : Binds K d_value_of ["form", "numbers"] []
  g_value_of : mg "value_of" = some (.ref a_value_of)
  a__law_pen : Addr
  d__law_pen : FuncData
  F__law_pen : Fun K "_law_pen" "_law_pen" s_law_pen a__law_pen d__law_pen
  b__law_pen : Binds K d__law_pen ["_law_script"] []
  g__law_pen : mg "_law_pen" = some (.ref a__law_pen)
  a__law_draw : Addr
  d__law_draw : FuncData
  F__law_draw : Fun K "_law_draw" "_law_draw" s_law_draw a__law_draw d__law_draw
  b__law_draw : Binds K d__law_draw ["_law_pen_here", "_law_many"] []
  g__law_draw : mg "_law_draw" = some (.ref a__law_draw)
  a__law_pick : Addr
  d__law_pick : FuncData
  F__law_pick : Fun K "_law_pick" "_law_pick" s_law_pick a__law_pick d__law_pick
  b__law_pick : Binds K d__law_pick ["_law_pen_here", "_law_some"] []
  g__law_pick : mg "_law_pick" = some (.ref a__law_pick)
  a__law_factor : Addr
  d__law_factor : FuncData
  F__law_factor : Fun K "_law_factor" "_law_factor" s_law_factor a__law_factor d__law_factor
  b__law_factor : Binds K d__law_factor ["_law_pen_here"] []
  g__law_factor : mg "_law_factor" = some (.ref a__law_factor)
  a__law_form : Addr
  d__law_form : FuncData
  F__law_form : Fun K "_law_form" "_law_form" s_law_form a__law_form d__law_form
  b__law_form : Binds K d__law_form ["_law_pen_here", "_law_many"] []
  g__law_form : mg "_law_form" = some (.ref a__law_form)
  a__law_value : Addr
  d__law_value : FuncData
  F__law_value : Fun K "_law_value" "_law_value" s_law_value a__law_value d__law_value
  b__law_value : Binds K d__law_value ["_law_form_here", "_law_spots"] []
  g__law_value : mg "_law_value" = some (.ref a__law_value)
  a__law_heard : Addr
  d__law_heard : FuncData
  F__law_heard : Fun K "_law_heard" "_law_heard" s_law_heard a__law_heard d__law_heard
  b__law_heard : Binds K d__law_heard ["_law_call_so"] []
  g__law_heard : mg "_law_heard" = some (.ref a__law_heard)
  a__law_refused_right : Addr
  d__law_refused_right : FuncData
  F__law_refused_right : Fun K "_law_refused_right" "_law_refused_right" s_law_refused_right a__law_refused_right d__law_refused_right
  b__law_refused_right : Binds K d__law_refused_right ["_law_pen_here", "_law_bound", "_law_many"] []
  g__law_refused_right : mg "_law_refused_right" = some (.ref a__law_refused_right)
  a_law : Addr
  d_law : FuncData
  F_law : Fun K "law" "law" slaw a_law d_law
  b_law : Binds K d_law ["_law_script"] []
  g_law : mg "law" = some (.ref a_law)
  a_Bound___init__ : Addr
  d_Bound___init__ : FuncData
  F_Bound___init__ : FunD K "__init__" "Bound.__init__" (defArgs sBound___init__) (defBody sBound___init__) (defScope sBound___init__) [.bl false] [] a_Bound___init__ d_Bound___init__
  b_Bound___init__ : Binds K d_Bound___init__ ["self", "form", "is_strict"] []
  a_Bound_is_false : Addr
  d_Bound_is_false : FuncData
  F_Bound_is_false : Fun K "is_false" "Bound.is_false" sBound_is_false a_Bound_is_false d_Bound_is_false
  b_Bound_is_false : Binds K d_Bound_is_false ["self"] []
  a_Bound___call__ : Addr
  d_Bound___call__ : FuncData
  F_Bound___call__ : Fun K "__call__" "Bound.__call__" sBound___call__ a_Bound___call__ d_Bound___call__
  b_Bound___call__ : Binds K d_Bound___call__ ["self", "numbers"] []
  a_Bound___len__ : Addr
  d_Bound___len__ : FuncData
  F_Bound___len__ : Fun K "__len__" "Bound.__len__" sBound___len__ a_Bound___len__ d_Bound___len__
  b_Bound___len__ : Binds K d_Bound___len__ ["self"] []
  a_Bound___eq__ : Addr
  d_Bound___eq__ : FuncData
  F_Bound___eq__ : Fun K "__eq__" "Bound.__eq__" sBound___eq__ a_Bound___eq__ d_Bound___eq__
  b_Bound___eq__ : Binds K d_Bound___eq__ ["self", "other"] []
  a_BadForm___init__ : Addr
  d_BadForm___init__ : FuncData
  F_BadForm___init__ : Fun K "__init__" "BadForm.__init__" sBadForm___init__ a_BadForm___init__ d_BadForm___init__
  b_BadForm___init__ : Binds K d_BadForm___init__ ["self", "part"] []
  C_Bound : Addr
  g_Bound : mg "Bound" = some (.ref C_Bound)
  cl_Bound : Cls K C_Bound
  kc_Bound : PySem.W.keepIn K (.ref C_Bound) = true
  na_Bound_form : NoAttr K C_Bound "form"
  na_Bound_is_strict : NoAttr K C_Bound "is_strict"
  ne_Bound : PySem.W.findIn K (.ref C_Bound) "__ne__" = some (some (.builtin "object.__ne__"))
  mr_Bound : PySem.W.mroIn K C_Bound (.type "object") = some true
  ca_Bound : PySem.W.findIn K (.ref C_Bound) "__class__" = some (some (.builtin "object.__class__"))
  om_Bound___init__ : OwnM K C_Bound "__init__" a_Bound___init__
  mk_Bound : Mk K C_Bound a_Bound___init__
  om_Bound___call__ : OwnM K C_Bound "__call__" a_Bound___call__
  om_Bound___len__ : OwnM K C_Bound "__len__" a_Bound___len__
  om_Bound___eq__ : OwnM K C_Bound "__eq__" a_Bound___eq__
  ki_Bound : PySem.W.kitOne K (.ref C_Bound) (.ref C_Bound) = some true
  ks_Bound : PySem.W.kitOne K (.ref C_Bound) (.type "str") = some false
  sg : PySem.W.specialIn K (.builtin "object.__class__") "__get__" = some (some (.builtin "getset_descriptor.__get__"))
  tk : PySem.W.takesIn K (.builtin "object.__class__") = some true
  C_BadForm : Addr
  g_BadForm : mg "BadForm" = some (.ref C_BadForm)
  ox_BadForm : OexC K C_BadForm
  ic_BadForm : PySem.W.findIn K (.ref C_BadForm) "__init__" = some (some (.ref a_BadForm___init__))
  ti_BadForm : PySem.W.typeIn K (.ref a_BadForm___init__) = some (.type "function")
  no_BadForm_part : PySem.W.findIn K (.ref C_BadForm) "part" = some none
  xf_BadForm : XfC K C_BadForm
  ki_BadForm : PySem.W.kitOne K (.ref C_BadForm) (.ref C_BadForm) = some true
  ex_BadForm : ExcC K C_BadForm
  C_CountError : Addr
  g_CountError : mg "CountError" = some (.ref C_CountError)
  em_BadForm_CountError : PySem.W.exmOne K (.ref C_BadForm) (.ref C_CountError) = some true
  gc_Bound : GoodC K C_Bound
  me_Bound___init__ : Meth K C_Bound "__init__" a_Bound___init__
  pa_Bound_is_false : Addr
  pr_Bound_is_false : PropOf K C_Bound "is_false" pa_Bound_is_false a_Bound_is_false
  oc_Bound___call__ : StX.CallO K C_Bound a_Bound___call__
  me_Bound___len__ : Meth K C_Bound "__len__" a_Bound___len__
  me_Bound___eq__ : Meth K C_Bound "__eq__" a_Bound___eq__
  nf_tuple_Bound : PySem.W.notFirst K C_Bound (.type "tuple") = true
  kn_tuple_Bound : PySem.W.kitOne K (.type "tuple") (.ref C_Bound) = some false
  nf_NoneType_Bound : PySem.W.notFirst K C_Bound (.type "NoneType") = true
  kn_NoneType_Bound : PySem.W.kitOne K (.type "NoneType") (.ref C_Bound) = some false
  e_law : ∀ (s : Shared) (u : Value), BindsTo s d_law ⟨[u], []⟩ [("_law_script", u)]
  z_abs : mg "abs" = none
  z_all : mg "all" = none
  z_bool : mg "bool" = none
  z_dict : mg "dict" = none
  z_int : mg "int" = none
  z_isinstance : mg "isinstance" = none
  z_len : mg "len" = none
  z_list : mg "list" = none
  z_range : mg "range" = none
  z_repr : mg "repr" = none
  z_sum : mg "sum" = none
  z_tuple : mg "tuple" = none
  z_zip : mg "zip" = none
  t_MOST_FACTORS : Tok
  c_MOST_FACTORS : mg "MOST_FACTORS" = some (.int 8 t_MOST_FACTORS)
  mb_Bound_0 : KBn K d_Bound___init__ ["self", "form", "is_strict"] 2 ["is_strict"] (gPerm 2 1 [0, 1, 2]) (gPerm 2 1 [0, 1, 2])
  mb_Bound_1 : KBn K d_Bound___init__ ["self", "form", "is_strict"] 1 ["is_strict", "form"] (gPerm 1 2 [0, 2, 1]) (gPerm 1 2 [0, 2, 1])
  kb_Bound___call___0 : KBn K d_Bound___call__ ["self", "numbers"] 1 ["numbers"] (gPerm 1 1 [0, 1]) (gPerm 1 1 [0, 1])
  p__law_refused_right : Addr
  c__law_refused_right : Addr
  hc__law_refused_right : d__law_refused_right.code = .ref c__law_refused_right
  c_law : Addr
  hc_law : d_law.code = .ref c_law
  bd_Bound___init__ : Binds K d_Bound___init__ ["self", "form", "is_strict"] [.bool false]
/-- the tables of the defs that make lambdas -/
def TbL {K : PySem.W.Frag} {mg : Str → Option Value} (T : Top K mg) : List (Addr × Str) := [(T.p__law_refused_right, "_law_refused_right.<locals>.<lambda>")]
structure TabsB {K : PySem.W.Frag} {mg : Str → Option Value} (T : Top K mg) (base : Heap) : Prop where
  _law_refused_right : LamX.TabB base mg T.c__law_refused_right T.p__law_refused_right
theorem mem__law_refused_right {K : PySem.W.Frag} {mg : Str → Option Value} {T : Top K mg} : (T.p__law_refused_right, ("_law_refused_right.<locals>.<lambda>" : Str)) ∈ TbL T := List.mem_cons_self
theorem one__law_refused_right {K : PySem.W.Frag} {mg : Str → Option Value} {T : Top K mg} : ∀ p ∈ TbL T, p.1 = T.p__law_refused_right → p.2 = ("_law_refused_right.<locals>.<lambda>" : Str) := fun p hp _ => by rw [List.mem_singleton.mp hp]

section
variable {P : Program} {w : World} {K : PySem.W.Frag} {mg : Str → Option Value} {base : Heap}
theorem ok_draw (T : Top K mg) : FnOk P w K mg base CX0 (0 + 1) T.a__law_draw T.d__law_draw ["_law_pen_here", "_law_many"] spDraw := by
  refine T.F__law_draw.ok sc_law_draw (fun vs H Q E h => ?_) (fun cdv A outer s H vs Q E hr h => ?_)
  · obtain ⟨p, c, many, m, rfl, _⟩ := h
    rfl
  · obtain ⟨p, c, many, m, rfl, ⟨ns, n, g, hp, hc, ncp, hl, n0, nm, g0⟩, h1, h2, hm, q⟩ := h
    refine ⟨_, (pss_cons (ps_if (pt_cmpR op_gt (pe_ix (ixL (K := K) rfl) (pv 0) pe_int (fun _ _ => rfl)) pe_int (nomark _))
    (pss_cons (ps_set (i := 2) sc_law_draw.nd rfl (.inl rfl) (pe_op op_modN (pe_callTy call_int1 (by rfl) T.z_int (by decide +kernel) (pa_cons (pe_ix (ixL (K := K) rfl) (pv 0) pe_int (fun _ _ => rfl)) pa_nil)) (pv 1)))
  (pss_cons (ps_asg (pe_op op_fdivW (pe_callTy call_int1 (by rfl) T.z_int (by decide +kernel) (pa_cons (pe_ix (ixL (K := K) rfl) (pv 0) pe_int (fun _ _ => rfl)) pa_nil)) (pv 1)) (pg_sub (pv 0) pe_int set_list))
  (pss_one (ps_ret (pv 2)))))
    pss_nil)
  (pss_cons (ps_set (i := 3) sc_law_draw.nd rfl (.inl rfl) (pe_ix (ixL (K := K) rfl) (pv 0) pe_int (fun _ _ => rfl)))
  (pss_cons (ps_asg (pe_op op_add (pv 3) pe_int) (pg_sub (pv 0) pe_int set_list))
  (pss_cons (ps_set (i := 4) sc_law_draw.nd rfl (.inl rfl) (pe_op op_add (pe_op op_mul pe_int (pv 3)) pe_int))
  (pss_cons (ps_if (pt_cmpR (op_neD (Room.units hr)) (pe_ix (ixL (K := K) rfl) (pv 0) pe_int (fun _ _ => rfl)) (pe_lst pa_nil) (nomark _))
    (pss_one (ps_set (i := 4) sc_law_draw.nd rfl (.inl rfl) (pe_ix (ixL (K := K) rfl) (pe_ix (ixL (K := K) rfl) (pv 0) pe_int (fun _ _ => rfl)) (pe_op op_modN (pe_callTy call_int1 (by rfl) T.z_int (by decide +kernel) (pa_cons (pv 3) pa_nil)) (pe_callB call_len_seq (by rfl) T.z_len (by decide +kernel) (pa_cons (pe_ix (ixL (K := K) rfl) (pv 0) pe_int (fun _ _ => rfl)) pa_nil))) (fun _ _ => rfl))))
    pss_nil)
  (pss_cons (ps_if (PW.pt (pw_and (pt_cmpR op_lt (pv 3) (pe_callB call_len_seq (by rfl) T.z_len (by decide +kernel) (pa_cons (pe_ix (ixL (K := K) rfl) (pv 0) pe_int (fun _ _ => rfl)) pa_nil)) (nomark _)) (pw_and1 (pt_cmpR op_ge (pe_callB call_abs (by rfl) T.z_abs (by decide +kernel) (pa_cons (pv 4) pa_nil)) (pe_op op_pow pe_int pe_int) (nomark _)))))
    (pss_cons (ps_set (i := 5) sc_law_draw.nd rfl (.inl rfl) (pe_op op_add (pe_op op_mul pe_int (pe_op op_sub (pe_callB call_abs (by rfl) T.z_abs (by decide +kernel) (pa_cons (pv 4) pa_nil)) (pe_op op_pow pe_int pe_int))) (pe_callTy call_int1 (by rfl) T.z_int (by decide +kernel) (pa_cons (pe_cmpR op_lt (pv 4) pe_int (nomark _)) pa_nil))))
  (pss_cons (ps_asg (pe_op op_fdivW (pe_callTy call_int1 (by rfl) T.z_int (by decide +kernel) (pa_cons (pv 5) pa_nil)) (pv 1)) (pg_sub (pv 0) pe_int set_list))
  (pss_one (ps_ret (pe_op op_modN (pe_callTy call_int1 (by rfl) T.z_int (by decide +kernel) (pa_cons (pv 5) pa_nil)) (pv 1))))))
    pss_nil)
  (pss_cons (ps_set (i := 6) sc_law_draw.nd rfl (.inl rfl) (pe_op op_modN (pe_callTy call_int1 (by rfl) T.z_int (by decide +kernel) (pa_cons (pe_op op_pow (pe_op op_add (pe_op op_add (pe_op op_modN (pe_callTy call_int1 (by rfl) T.z_int (by decide +kernel) (pa_cons (pv 4) pa_nil)) pe_int) (pe_op op_mul pe_int (pv 3))) pe_int) pe_int) pa_nil)) pe_int))
  (pss_cons (ps_set (i := 6) sc_law_draw.nd rfl (.inl rfl) (pe_op op_modN (pe_callTy call_int1 (by rfl) T.z_int (by decide +kernel) (pa_cons (pe_op op_pow (pe_op op_add (pe_op op_add (pe_op op_mul (pv 6) (pe_op op_add (pe_op op_mul pe_int (pv 3)) pe_int)) (pe_op op_mul (pe_op op_mul pe_int (pv 3)) (pv 3))) pe_int) pe_int) pa_nil)) pe_int))
  (pss_one (ps_ret (pe_op op_modN (pe_callTy call_int1 (by rfl) T.z_int (by decide +kernel) (pa_cons (pe_op op_fdivW (pv 6) pe_int) pa_nil)) (pv 1)))))))))))), ?_⟩
    -- if pen[2] > 0
    refine ⟨.ref p, rfl, p, _, 2, .int g, rfl, rfl, .of hp, atI_nat (j := 2) rfl, _, _, rfl, rfl, _, rfl, ite2 (fun e => ?_) (fun e => ?_)⟩
    · have hg : (0 : Int) < g := of_decide_eq_true e
      -- digit = int(pen[2]) % many
      refine ⟨.ref p, rfl, p, _, 2, .int g, rfl, rfl, .of hp, atI_nat (j := 2) rfl, .inl ⟨g, rfl, .int many, rfl, g, many, rfl, rfl, by omega, ?_⟩⟩
      -- pen[2] = int(pen[2]) // many
      refine ⟨.ref p, rfl, p, _, 2, .int g, rfl, rfl, .of hp, atI_nat (j := 2) rfl, .inl ⟨g, rfl, .int many, rfl, g, many, rfl, rfl, wide_div (b := 60) (by omega) (by omega) (by omega) (by omega), .ref p, rfl, p, _, 2, 2, rfl, rfl, hp, rfl, ?_⟩⟩
      refine ⟨_, rfl, q _ _ (fmod_lo _ h1) (fmod_lt _ h1) (pen_set hp hc ncp hl n0 (by omega) (Int.ediv_nonneg g0 (by omega))) (but_upd _ _)⟩
    · -- at = pen[1]; pen[1] = at + 1
      refine ⟨.ref p, rfl, p, _, 1, .int n, rfl, rfl, .of hp, atI_nat (j := 1) rfl, ?_⟩
      refine ⟨.int n, rfl, n, 1, rfl, rfl, .ref p, rfl, p, _, 1, 1, rfl, rfl, hp, rfl, ?_⟩
      generalize hH1 : upd H p (.lst ([V.ref c, .int n, .int g].set 1 (.int (n + 1)))) = H1
      have hp1 : H1 p = some (.lst [.ref c, .int (n + 1), .int g]) := by
        rw [← hH1, upd_same]
        rfl
      have hc1 : H1 c = some (.lst (ns.map V.int)) := by
        rw [← hH1, upd_ne ncp]
        exact hc
      have hb1 : But p H H1 := by
        rw [← hH1]
        exact but_upd _ _
      -- cell = C * at + D
      refine ⟨.int n, rfl, _, n, rfl, rfl, .inl (by decide), _, _, rfl, rfl, ?_⟩
      -- if pen[0] != []
      refine ⟨.ref p, rfl, p, _, 0, .ref c, rfl, rfl, .of hp1, atI_nat (j := 0) rfl, Nat.zero_le _, fun o no => ?_⟩
      have hpo : p ≠ o := ne_of_none hp1 no
      have hco : c ≠ o := ne_of_none hc1 no
      refine ⟨.list (ns.map .int), .list [], .lst (.of ((upd_ne hco).trans hc1)) (dp_ints ns), .lst (.of upd_same) .nil, PySem.W.ke_shaped_ints ns, PySem.W.ke_shaped_ints [], _, rfl, ?_⟩
      generalize hH2 : upd H1 o (.lst []) = H2
      have hp2 : H2 p = some (.lst [.ref c, .int (n + 1), .int g]) := by
        rw [← hH2, upd_ne hpo]
        exact hp1
      have hc2 : H2 c = some (.lst (ns.map V.int)) := by
        rw [← hH2, upd_ne hco]
        exact hc1
      have hb2 : But p H H2 := by
        rw [← hH2]
        exact hb1.trans (but_new no)
      -- cell = pen[0][int(at) % len(pen[0])]
      refine ite2 (fun e2 => ?thn) (fun e2 => ?els)
      case' els =>
        dsimp only
        generalize ((_ : Int) * n + _ : Int) = cell
      case' thn =>
        have hn : ns ≠ [] := fun z => by
          subst z
          cases e2
        have hln : 0 < ns.length := List.length_pos_iff.mpr hn
        have hz : ((ns.map V.int).length : Int) = ns.length := by rw [List.length_map]
        have hj0 : 0 ≤ n.fmod (ns.map V.int).length := fmod_lo _ (by omega)
        have hj1 : n.fmod (ns.map V.int).length < ns.length := hz ▸ fmod_lt _ (by omega)
        have hat : atI (ns.map V.int) (n.fmod (ns.map V.int).length) = some (.int (ns.getD (n.fmod (ns.map V.int).length).toNat 0)) := by
          have := atI_nat (xs := ns.map V.int) (j := (n.fmod (ns.map V.int).length).toNat) (v := .int (ns.getD (n.fmod (ns.map V.int).length).toNat 0)) (by
            rw [List.getElem?_map, List.getD_eq_getElem?_getD, List.getElem?_eq_getElem (by omega)]
            rfl)
          rw [Int.toNat_of_nonneg hj0] at this
          exact this
        refine ⟨.ref p, rfl, p, _, 0, .ref c, rfl, rfl, .of hp2, atI_nat (j := 0) rfl, .int n, rfl, .inl ⟨n, rfl, .ref p, rfl, p, _, 0, .ref c, rfl, rfl, .of hp2, atI_nat (j := 0) rfl, c, _, rfl, .inl (.of hc2), n, _, rfl, rfl, by omega, c, _, _, _, rfl, rfl, .of hc2, hat, ?_⟩⟩
        clear hat hj1 hj0
        generalize ns.getD (n.fmod (ns.map V.int).length).toNat 0 = cell
      all_goals
        -- if at < len(pen[0]) and abs(cell) >= 10 ** 18
        refine ⟨.int n, rfl, .ref p, rfl, p, _, 0, .ref c, rfl, rfl, .of hp2, atI_nat (j := 0) rfl, c, _, rfl, .inl (.of hc2), n, _, rfl, rfl, _, rfl, ite2 (fun e3 => ?_) (fun e3 => ?_)⟩
        · refine ⟨.int cell, rfl, cell, rfl, 10, 18, rfl, rfl, ⟨by decide, by decide, by decide⟩, _, _, rfl, rfl, _, rfl, ite2 (fun e4 => ?_) (fun e4 => ?_)⟩
          · -- great = 2 * (abs(cell) - 10 ** 18) + int(cell < 0)
            have hbig : (10 : Int) ^ 18 ≤ if cell < 0 then -cell else cell := of_decide_eq_true e4
            refine ⟨.int cell, rfl, cell, rfl, 10, 18, rfl, rfl, ⟨by decide, by decide, by decide⟩, _, _, rfl, rfl, 2, _, rfl, rfl, .inl (by decide), .int cell, rfl, _, _, rfl, rfl, .inr ⟨_, rfl, _, _, rfl, rfl, ?_⟩⟩
            have hgr : ∀ k : Bool, 0 ≤ 2 * ((if cell < 0 then -cell else cell) - (10 : Int) ^ (18 : Int).toNat) + (if k = true then 1 else 0) := fun k => by
              have : (10 : Int) ^ (18 : Int).toNat = (10 : Int) ^ 18 := rfl
              rw [this]
              cases k <;> simp <;> omega
            refine ⟨_, rfl, .inl ⟨_, rfl, .int many, rfl, _, many, rfl, rfl, wide_div (b := 60) (by omega) (by omega) (by omega) (by omega), .ref p, rfl, p, _, 2, 2, rfl, rfl, hp2, rfl, ?_⟩⟩
            refine ⟨_, rfl, .inl ⟨_, rfl, .int many, rfl, _, many, rfl, rfl, by omega, ?_⟩⟩
            exact q _ _ (fmod_lo _ h1) (fmod_lt _ h1) (pen_set hp2 hc2 ncp hl (by omega) (by omega) (Int.ediv_nonneg (hgr _) (by omega))) (hb2.trans (but_upd _ _))
          · skip
            refine ⟨.int cell, rfl, .inl ⟨cell, rfl, cell, _, rfl, rfl, (by show (_ : Int) ≠ 0; decide), .int n, rfl, _, n, rfl, rfl, .inl (by decide), _, _, rfl, rfl, _, _, rfl, rfl, _, _, rfl, rfl, ⟨by decide, by decide, mix_bound (by decide) (by decide) (by decide) (by decide) (by decide) (by decide) n0 nm hm⟩, (.inl ⟨_, rfl, _, _, rfl, rfl, (by show (_ : Int) ≠ 0; decide), ?_⟩)⟩⟩
            refine ⟨_, rfl, .int n, rfl, 2, n, rfl, rfl, .inl (by decide), _, _, rfl, rfl, _, _, rfl, rfl, .inl (fmod_64 (by decide) (by decide)), .int n, rfl, _, n, rfl, rfl, .inl (by decide), .int n, rfl, _, n, rfl, rfl, .inr ⟨by omega, by omega⟩, _, _, rfl, rfl, _, _, rfl, rfl, _, _, rfl, rfl, ⟨by decide, by decide, mix_bound2 (by decide) (by decide) (by decide) (by decide) (by decide) (by decide) (fmod_lo _ (by decide)) (fmod_32 (by decide) (by decide)) n0 nm hm⟩, (.inl ⟨_, rfl, _, _, rfl, rfl, (by show (_ : Int) ≠ 0; decide), ?_⟩)⟩
            refine ⟨_, rfl, _, 32, rfl, rfl, ⟨by decide, by decide⟩, .inl ⟨_, rfl, .int many, rfl, _, many, rfl, rfl, by omega, ?_⟩⟩
            exact q _ _ (fmod_lo _ h1) (fmod_lt _ h1) ⟨ns, n + 1, g, hp2, hc2, ncp, hl, by omega, by omega, g0⟩ hb2
        · skip
          refine ⟨.int cell, rfl, .inl ⟨cell, rfl, cell, _, rfl, rfl, (by show (_ : Int) ≠ 0; decide), .int n, rfl, _, n, rfl, rfl, .inl (by decide), _, _, rfl, rfl, _, _, rfl, rfl, _, _, rfl, rfl, ⟨by decide, by decide, mix_bound (by decide) (by decide) (by decide) (by decide) (by decide) (by decide) n0 nm hm⟩, (.inl ⟨_, rfl, _, _, rfl, rfl, (by show (_ : Int) ≠ 0; decide), ?_⟩)⟩⟩
          refine ⟨_, rfl, .int n, rfl, 2, n, rfl, rfl, .inl (by decide), _, _, rfl, rfl, _, _, rfl, rfl, .inl (fmod_64 (by decide) (by decide)), .int n, rfl, _, n, rfl, rfl, .inl (by decide), .int n, rfl, _, n, rfl, rfl, .inr ⟨by omega, by omega⟩, _, _, rfl, rfl, _, _, rfl, rfl, _, _, rfl, rfl, ⟨by decide, by decide, mix_bound2 (by decide) (by decide) (by decide) (by decide) (by decide) (by decide) (fmod_lo _ (by decide)) (fmod_32 (by decide) (by decide)) n0 nm hm⟩, (.inl ⟨_, rfl, _, _, rfl, rfl, (by show (_ : Int) ≠ 0; decide), ?_⟩)⟩
          refine ⟨_, rfl, _, 32, rfl, rfl, ⟨by decide, by decide⟩, .inl ⟨_, rfl, .int many, rfl, _, many, rfl, rfl, by omega, ?_⟩⟩
          exact q _ _ (fmod_lo _ h1) (fmod_lt _ h1) ⟨ns, n + 1, g, hp2, hc2, ncp, hl, by omega, by omega, g0⟩ hb2
theorem ok_pen (T : Top K mg) : FnOk P w K mg base CX0 (0 + 1) T.a__law_pen T.d__law_pen ["_law_script"] (spPen K) := by
  refine T.F__law_pen.ok sc_law_pen (fun vs H Q E h => ?_) (fun cdv A outer s H vs Q E hr h => ?_)
  · obtain ⟨a, ns, rfl, _⟩ := h
    rfl
  · obtain ⟨a, ns, rfl, hS, hl, q⟩ := h
    refine ⟨_, (pss_one (ps_ret (pe_lst (pa_cons (pe_callTy call_list_of (by rfl) T.z_list (by decide +kernel) (pa_cons (pe_slice sl_list (pv 0) po_none (po_some pe_int)) pa_nil)) (pa_cons pe_int (pa_cons pe_int pa_nil)))))), ?_⟩
    refine ⟨.ref a, rfl, 63, rfl, a, _, rfl, hS, fun c nc => ?_⟩
    refine ⟨c, _, rfl, .inl (.of upd_same), fun l nl => ?_⟩
    refine ⟨(by show 3 ≤ sizeLine; decide), fun p np => ?_⟩
    have e : cutV (ns.map V.int) none (some 63) = ns.map V.int := cut_all _ (by
      rw [List.length_map]
      exact hl)
    refine q p l _ (((same_new nc).trans (same_new nl)).trans (same_new np)) (((same_new nc).trans (same_new nl)).free np) ((same_new nc).free nl) ⟨ns, 0, 0, upd_same, ?_, ne_of_none upd_same np, hl, by omega, by omega, by omega⟩
    rw [upd_ne (ne_of_none upd_same np), upd_same, e]
theorem dok__law_draw (T : Top K mg) : FnD P w K mg base 1 T.a__law_draw T.d__law_draw ["_law_pen_here", "_law_many"] drawD := draw_of (ok_draw T)
theorem dok__law_pen (T : Top K mg) : FnD P w K mg base 1 T.a__law_pen T.d__law_pen ["_law_script"] penD := pen_of (ok_pen T)
end

section
variable {P : Program} {w : World} {K : PySem.W.Frag} {mg : Str → Option Value} {base : Heap}
theorem vok_own_copy (T : Top K mg) : FnOk P w K mg base CX0 (0 + 1) T.a_own_copy T.d_own_copy ["value"] spCopyF := by
  refine T.F_own_copy.ok scown_copy (fun vs H Q E h => ?_) (fun cdv A outer s H vs Q E hr h => ?_)
  · obtain ⟨y, rfl, _⟩ := h
    rfl
  · obtain ⟨y, rfl, hf, q⟩ := h
    obtain ⟨k, hk, h1, h2, h3⟩ := flat_ki hf H
    refine ⟨_, (pss_cons (ps_if (pt_val (pe_callB call_isi (by rfl) T.z_isinstance (by decide +kernel) (pa_cons (pv 0) (pa_cons (pe_bltn (by rfl) T.z_tuple (by decide +kernel) (show RelV (.ty "tuple") _ from rfl)) pa_nil))))
    (pss_one ps_never)
    pss_nil)
  (pss_cons (ps_if (pt_val (pe_callB call_isi (by rfl) T.z_isinstance (by decide +kernel) (pa_cons (pv 0) (pa_cons (pe_bltn (by rfl) T.z_list (by decide +kernel) (show RelV (.ty "list") _ from rfl)) pa_nil))))
    (pss_one ps_never)
    pss_nil)
  (pss_cons (ps_if (pt_val (pe_callB call_isi (by rfl) T.z_isinstance (by decide +kernel) (pa_cons (pv 0) (pa_cons (pe_bltn (by rfl) T.z_dict (by decide +kernel) (show RelV (.ty "dict") _ from rfl)) pa_nil))))
    (pss_one ps_never)
    pss_nil)
  (pss_one (ps_ret (pv 0)))))), ?_⟩
    refine ⟨y, rfl, _, _, _, _, _, rfl, .ty _, hk.ty, ki_kit _ .tup, _, rfl, ite2 (fun e => absurd e (by rw [h1]; decide)) fun _ => ?_⟩
    refine ⟨y, rfl, _, _, _, _, _, rfl, .ty _, hk.ty, ki_kit _ .lst, _, rfl, ite2 (fun e => absurd e (by rw [h2]; decide)) fun _ => ?_⟩
    refine ⟨y, rfl, _, _, _, _, _, rfl, .ty _, hk.ty, ki_kit _ .dct, _, rfl, ite2 (fun e => absurd e (by rw [h3]; decide)) fun _ => ?_⟩
    exact ⟨y, rfl, q⟩
theorem vok_BadForm___init__ (T : Top K mg) : FnOk P w K mg base CX0 (4 + 1) T.a_BadForm___init__ T.d_BadForm___init__ ["self", "part"] (spE1F K T.C_BadForm "part") := by
  have G_own_copy := (vok_own_copy (P := P) (w := w) (base := base) T).mono (k := 4) (by decide)
  refine T.F_BadForm___init__.ok scBadForm___init__ (fun vs H Q E h => ?_) (fun cdv A outer s H vs Q E hr h => ?_)
  · obtain ⟨⟨a, y, rfl, _⟩, _⟩ := h
    rfl
  · obtain ⟨⟨a0, y0, e0, hf⟩, a, y, rfl, ha, q⟩ := h
    obtain ⟨rfl, rfl⟩ : a = a0 ∧ y = y0 := by cases e0; exact ⟨rfl, rfl⟩
    refine ⟨_, (pss_one (ps_ost (pv 0) (pe_call G_own_copy hr (by rfl) T.g_own_copy T.F_own_copy.kp T.b_own_copy .nil pass0 (pa_cons (pv 1) pa_nil)))), ?_⟩
    exact ⟨y, rfl, y, rfl, hf, .ref a, rfl, a, T.C_BadForm, rfl, T.ox_BadForm, T.no_BadForm_part, .inl ⟨ha, fun d nd nda => q d nd nda⟩⟩

def isInt : D → Bool
  | .int _ => true
  | _ => false
def integerD : SpD := fun ds G Q _ => ∃ d, ds = [d] ∧ Told d G ∧ Q (.bl (isInt d)) G
theorem dok_is_integer (T : Top K mg) : FnD P w K mg base 4 T.a_is_integer T.d_is_integer ["value"] integerD := by
  refine dfn (k := 3) T.F_is_integer scis_integer (fun ds G Q W h => ?_) (fun cdv A outer s H E B W hr tk => have hx := hx_of tk; ⟨_, (db_one (ds_ret (de_and (de_isK (j := .int) (by rfl) T.z_isinstance (by decide +kernel) (dv 0) (pe_bltn (by rfl) T.z_int (by decide +kernel) rfl)) (de_one (de_not (de_isK (j := .bl) (by rfl) T.z_isinstance (by decide +kernel) (dv 0) (pe_bltn (by rfl) T.z_bool (by decide +kernel) rfl))))))), fun ds G Q h => ?_⟩)
  · obtain ⟨d, rfl, _⟩ := h
    rfl
  · obtain ⟨d, rfl, ht, q⟩ := h
    show (match isK d G .int with | some b => _ | none => _)
    rw [told_is ht (by decide)]
    cases d <;> first | exact q | skip
    all_goals
      show (match isK _ G .bl with | some b => _ | none => _)
      rw [told_is ht (by decide)]
      exact q
def isForm : D → Bool
  | .tup es => decide (es.length ≤ 8) && es.all isInt
  | _ => false
/-- told, and what is in it, too -/
def ToldT (d : D) (G : Gm) : Prop := Told d G ∧ ∀ es, seqS d = some es → ∀ e ∈ es, Told e G
theorem gt_or {n : Nat} (k : Nat) : decide ((k : Int) < (n : Int)) = !decide (n ≤ k) := by
  by_cases h : n ≤ k
  · rw [decide_eq_true h, decide_eq_false (by omega)]
    rfl
  · rw [decide_eq_false h, decide_eq_true (by omega)]
    rfl
def formD : SpD := fun ds G Q _ => ∃ d, ds = [d] ∧ ToldT d G ∧ Q (.bl (isForm d)) G
theorem map_bl (f : D → Bool) (es : List D) : es.map (fun e => D.bl (f e)) = (es.map f).map D.bl := by rw [List.map_map]; rfl
theorem dok_is_form (T : Top K mg) : FnD P w K mg base 8 T.a_is_form T.d_is_form ["value"] formD := by
  have G_is_integer := (dok_is_integer (P := P) (w := w) (base := base) T).mono (k := 5) (by decide)
  refine dfn (k := 7) T.F_is_form scis_form (fun ds G Q W h => ?_) (fun cdv A outer s H E B W hr tk => have hx := hx_of tk; ⟨_, (db_cons (ds_if (dw_pt (dw_or (dt_not (dt_val (de_isK (j := .tup) (by rfl) T.z_isinstance (by decide +kernel) (dv 0) (pe_bltn (by rfl) T.z_tuple (by decide +kernel) rfl)))) (dw_or1 (dt_cmp op_gt gt_A (de_callB call_len2 len_A (by rfl) T.z_len (by decide +kernel) (da_cons (dv 0) da_nil)) (de_gint rfl T.c_MOST_FACTORS (show RelV (.int 8) _ from ⟨_, rfl⟩)) (nomark _)))))
    (db_one (ds_ret de_bl))
    db_nil)
  (db_one (ds_ret (de_callB (cr_all rfl) all_A (by rfl) T.z_all (by decide +kernel) (da_cons (de_lcF (own := [("factor", 1)]) (gV := gName 1) finA_l rfl scis_form.nd (di_tup (dv 0)) (blkOk_by (own := [("factor", 1)]) (N := Nis_form) (sc := defScope sis_form) (by decide +kernel)) (cg_name (i := 1) (by decide)) (fun _ _ _ _ _ => (pg_name (i := 1) scis_form.nd rfl (.inl rfl))) (fun _ _ _ _ _ _ => dts_nil) (fun _ _ _ _ _ _ => (de_call G_is_integer (hr.mono (by decide)) (by rfl) T.g_is_integer T.F_is_integer.kp T.b_is_integer hx0 (da_cons (dv 1) da_nil)))) da_nil))))), fun ds G Q h => ?_⟩)
  · obtain ⟨d, rfl, _⟩ := h
    rfl
  · obtain ⟨d, rfl, ⟨ht, he⟩, q⟩ := h
    show (match isK d G .tup with | some b => _ | none => _)
    rw [told_is ht (by decide)]
    cases d
    case tup es =>
      show (match decide ((8 : Int) < (es.length : Int)) with | true => _ | false => _)
      rw [show decide ((8 : Int) < (es.length : Int)) = !decide (es.length ≤ 8) from gt_or 8]
      by_cases h8 : es.length ≤ 8
      · rw [decide_eq_true h8]
        refine ⟨Nat.lt_of_le_of_lt h8 (by decide), lc_map (fun d => .bl (isInt d)) es [] (fun e me Q hQ => ⟨e, rfl, he es rfl e me, hQ⟩) ?_⟩
        refine ⟨es.map isInt, by rw [List.nil_append, map_bl], ?_⟩
        have : isForm (.tup es) = (es.map isInt).all id := by simp [isForm, h8]
        rw [← this]
        exact q
      · rw [decide_eq_false h8]
        have : isForm (.tup es) = false := by simp [isForm, h8]
        rw [this] at q
        exact q
    all_goals exact q
def noughtI (ns : List Int) : Bool := ns.all fun n => n == 0
def noughtD : SpD := fun ds G Q _ => ∃ ns : List Int, ds = [.tup (ns.map .int)] ∧ ns.length ≤ 1000 ∧ Q (.bl (noughtI ns)) G
theorem dok_is_nought (T : Top K mg) : FnD P w K mg base 4 T.a_is_nought T.d_is_nought ["form"] noughtD := by
  refine dfn (k := 3) T.F_is_nought scis_nought (fun ds G Q W h => ?_) (fun cdv A outer s H E B W hr tk => have hx := hx_of tk; ⟨_, (db_one (ds_ret (de_callB (cr_all rfl) all_A (by rfl) T.z_all (by decide +kernel) (da_cons (de_lcF (own := [("factor", 1)]) (gV := gName 1) finA_l rfl scis_nought.nd (di_tup (dv 0)) (blkOk_by (own := [("factor", 1)]) (N := Nis_nought) (sc := defScope sis_nought) (by decide +kernel)) (cg_name (i := 1) (by decide)) (fun _ _ _ _ _ => (pg_name (i := 1) scis_nought.nd rfl (.inl rfl))) (fun _ _ _ _ _ _ => dts_nil) (fun _ _ _ _ _ _ => (de_cmp (op_eqD (Room.units hr)) eq_A (dv 1) de_int (nomark _)))) da_nil)))), fun ds G Q h => ?_⟩)
  · obtain ⟨d, rfl, _⟩ := h
    rfl
  · obtain ⟨ns, rfl, hl, q⟩ := h
    refine ⟨by rw [List.length_map]; exact small_size hl, lc_map (fun d => .bl (match d with | .int n => n == 0 | _ => false)) (ns.map .int) [] (fun e me Q hQ => ?_) ?_⟩
    · obtain ⟨n, _, rfl⟩ := List.mem_map.mp me
      exact ⟨.int n, .int 0, .int n, .int 0, rfl, rfl, hQ⟩
    · refine ⟨ns.map fun n => n == 0, ?_, ?_⟩
      · rw [List.nil_append, List.map_map, List.map_map]
        rfl
      · have : (ns.map fun n => n == 0).all id = noughtI ns := by
          rw [List.all_map]
          rfl
        rw [this]
        exact q
def numsOk (d : D) (n : Int) : Bool := match seqS d with
  | some es => decide ((es.length : Int) = n) && es.all isInt
  | none => false
theorem seqS_cases {d : D} {es : List D} (h : seqS d = some es) : d = .lst es ∨ d = .tup es := by
  cases d <;> cases h
  · exact .inr rfl
  · exact .inl rfl
def checkD (C : Addr) : SpD := fun ds G Q W => ∃ d n, ds = [d, .int n] ∧ ToldT d G ∧ (∀ es, seqS d = some es → es.length ≤ 1000) ∧ (numsOk d n = true → Q .non G) ∧ (numsOk d n = false → W C [("part", .str "numbers")] G)
theorem dok_check_numbers_of (T : Top K mg) : FnD P w K mg base 9 T.a_check_numbers_of T.d_check_numbers_of ["numbers", "many"] (checkD T.C_BadForm) := by
  have G_BadForm___init__ := (vok_BadForm___init__ (P := P) (w := w) (base := base) T).mono (k := 6) (by decide)
  have G_is_integer := (dok_is_integer (P := P) (w := w) (base := base) T).mono (k := 6) (by decide)
  refine dfn (k := 8) T.F_check_numbers_of sccheck_numbers_of (fun ds G Q W h => ?_) (fun cdv A outer s H E B W hr tk => have hx := hx_of tk; ⟨_, (db_cons (ds_if (dw_pt (dw_or (dt_not (dt_val (de_isKs (js := [.lst, .tup]) (by rfl) T.z_isinstance (by decide +kernel) (dv 0) (pa_tys_cons (pe_bltn (by rfl) T.z_list (by decide +kernel) rfl) (pa_tys_cons (pe_bltn (by rfl) T.z_tuple (by decide +kernel) rfl) pa_tys_nil)) (by decide)))) (dw_or1 (dt_cmp (op_neD (Room.units hr)) ne_A (de_callB call_len2 len_A (by rfl) T.z_len (by decide +kernel) (da_cons (dv 0) da_nil)) (dv 1) (nomark _)))))
    (db_one (ds_raise1F rfl tk T.ox_BadForm T.ic_BadForm T.ti_BadForm G_BadForm___init__ (hr.mono (by decide)) T.b_BadForm___init__ rfl T.g_BadForm (da_cons de_str da_nil)))
    db_nil)
  (db_one (ds_if (dt_not (dt_val (de_callB (cr_all rfl) all_A (by rfl) T.z_all (by decide +kernel) (da_cons (de_lcF (own := [("number", 2)]) (gV := gName 2) finA_l rfl sccheck_numbers_of.nd (di_anyV (pv 0)) (blkOk_by (own := [("number", 2)]) (N := Ncheck_numbers_of) (sc := defScope scheck_numbers_of) (by decide +kernel)) (cg_name (i := 2) (by decide)) (fun _ _ _ _ _ => (pg_name (i := 2) sccheck_numbers_of.nd rfl (.inl rfl))) (fun _ _ _ _ _ _ => dts_nil) (fun _ _ _ _ _ _ => (de_call G_is_integer (hr.mono (by decide)) (by rfl) T.g_is_integer T.F_is_integer.kp T.b_is_integer hx0 (da_cons (dv 2) da_nil)))) da_nil))))
    (db_one (ds_raise1F rfl tk T.ox_BadForm T.ic_BadForm T.ti_BadForm G_BadForm___init__ (hr.mono (by decide)) T.b_BadForm___init__ rfl T.g_BadForm (da_cons de_str da_nil)))
    db_nil))), fun ds G Q h => ?_⟩)
  · obtain ⟨d, n, rfl, _⟩ := h
    rfl
  · obtain ⟨d, n, rfl, ⟨ht, he⟩, hl, q1, q0⟩ := h
    show (match isKs d G [.lst, .tup] with | some b => _ | none => _)
    rw [told_isKs ht (by decide)]
    cases hs : seqS d with
    | none =>
      have q := q0 (by unfold numsOk; rw [hs])
      cases d <;> first | exact ⟨rfl, q⟩ | cases hs
    | some es =>
      have hk1 : (es.length : Int) = n → numsOk d n = es.all isInt := fun hn => by
        unfold numsOk
        rw [hs]
        show (decide ((es.length : Int) = n) && es.all isInt) = _
        rw [decide_eq_true hn, Bool.true_and]
      have hk0 : ¬ (es.length : Int) = n → numsOk d n = false := fun hn => by
        unfold numsOk
        rw [hs]
        show (decide ((es.length : Int) = n) && es.all isInt) = _
        rw [decide_eq_false hn, Bool.false_and]
      rcases seqS_cases hs with rfl | rfl
      all_goals
        refine ⟨.int es.length, .int n, .int _, .int _, rfl, rfl, ?_⟩
        show (match !(decide ((es.length : Int) = n)) with | true => _ | false => _)
        by_cases hn : (es.length : Int) = n
        · rw [decide_eq_true hn]
          rw [hk1 hn] at q1 q0
          refine ⟨Nat.lt_of_le_of_lt (hl es hs) (by decide), lc_map (fun d => .bl (isInt d)) es [] (fun e me Q hQ => ⟨e, rfl, he es hs e me, hQ⟩) ?_⟩
          refine ⟨es.map isInt, by rw [List.nil_append, map_bl], ?_⟩
          rw [List.all_map]
          show (match !(es.all isInt) with | true => _ | false => _)
          cases ha : es.all isInt with
          | true => exact q1 ha
          | false => exact ⟨rfl, q0 ha⟩
        · rw [decide_eq_false hn]
          exact ⟨rfl, q0 (hk0 hn)⟩
/-- the sum of the products -/
def dot (ns ms : List Int) : Int := ((ns.zip ms).map fun p => p.1 * p.2).sum
def valueD : SpD := fun ds G Q _ => ∃ (ns ms : List Int) (d : D), ds = [.tup (ns.map .int), d] ∧ seqS d = some (ms.map .int) ∧ ns.length ≤ 1000 ∧ (∀ p ∈ ns.zip ms, CMulW p.1 p.2) ∧ Q (.int (dot ns ms)) G
theorem dok_value_of (T : Top K mg) : FnD P w K mg base 4 T.a_value_of T.d_value_of ["form", "numbers"] valueD := by
  refine dfn (k := 3) T.F_value_of scvalue_of (fun ds G Q W h => ?_) (fun cdv A outer s H E B W hr tk => have hx := hx_of tk; ⟨_, (db_one (ds_ret (de_callB (cr_sum rfl) sum_A (by rfl) T.z_sum (by decide +kernel) (da_cons (de_lcF (own := [("factor", 2), ("number", 3)]) (gV := gTup K 2 (gCons (gName 2) (gCons (gName 3) (gNil)))) finA_l rfl scvalue_of.nd (di_zip (by rfl) T.z_zip (da_cons (dv 0) (da_cons (dv 1) da_nil))) (blkOk_by (own := [("factor", 2), ("number", 3)]) (N := Nvalue_of) (sc := defScope svalue_of) (by decide +kernel)) (cg_tup (cg_cons (cg_name (i := 2) (by decide)) (cg_cons (cg_name (i := 3) (by decide)) cg_nil))) (fun _ _ _ _ _ => (pg_tup (by rfl) (pgs_cons (pg_name (i := 2) scvalue_of.nd rfl (.inl rfl)) (pgs_cons (pg_name (i := 3) scvalue_of.nd rfl (.inl rfl)) pgs_nil)))) (fun _ _ _ _ _ _ => dts_nil) (fun _ _ _ _ _ _ => (de_mul (dv 2) (dv 3)))) da_nil)))), fun ds G Q h => ?_⟩)
  · obtain ⟨ns, ms, d, rfl, _⟩ := h
    rfl
  · obtain ⟨ns, ms, d, rfl, hs, hl, hc, q⟩ := h
    show (match seqS (.tup (ns.map .int)), seqS d with | some xs, some ys => _ | _, _ => _)
    rw [hs]
    show (zipD (ns.map .int) (ms.map .int)).length < sizeLine ∧ lcD _ _ _ _ _ (zipD (ns.map .int) (ms.map .int)) [] G
    rw [zip_ints]
    refine ⟨by rw [List.length_map, List.length_zip]; exact small_size (by omega), lc_mapG (fun d => match d with | .tup [.int a, .int b] => .int (a * b) | _ => .non) _ [] (fun e me Q hQ => ?_) ?_⟩
    · obtain ⟨p, mp, rfl⟩ := List.mem_map.mp me
      exact ⟨rfl, hc p mp, hQ⟩
    · refine ⟨(ns.zip ms).map fun (p : Int × Int) => p.1 * p.2, ?_, (show Q (.int (dot ns ms)) G from q)⟩
      rw [List.nil_append, List.map_map, List.map_map]
      rfl
/-- a Bound -/
def bndD (C : Addr) (ns : List Int) (b : Bool) : D := .ins C [("form", .tup (ns.map .int)), ("is_strict", .bl b)]
def initD (CB C : Addr) : SpD := fun ds G Q W => ∃ (x : Addr) (f s : D), ds = [.adr x, f, s] ∧ G x = some (.ins CB []) ∧ ToldT f G ∧ Told s G ∧
  (isForm f = false → W C [("part", .str "form")] G) ∧ (isForm f = true → isB s .bl = false → W C [("part", .str "strict")] G) ∧
  (isForm f = true → isB s .bl = true → Q .non (updG G x (.ins CB [("form", f), ("is_strict", s)])))
theorem dok_Bound___init__ (T : Top K mg) : FnD P w K mg base 12 T.a_Bound___init__ T.d_Bound___init__ ["self", "form", "is_strict"] (initD T.C_Bound T.C_BadForm) := by
  have G_is_form := (dok_is_form (P := P) (w := w) (base := base) T).mono (k := 9) (by decide)
  have G_BadForm___init__ := (vok_BadForm___init__ (P := P) (w := w) (base := base) T).mono (k := 9) (by decide)
  refine dfnD (k := 11) T.F_Bound___init__ scBound___init__ (fun ds G Q W h => ?_) (fun cdv A outer s H E B W hr tk => have hx := hx_of tk; ⟨_, (db_cons (ds_if (dt_not (dt_val (de_call G_is_form (hr.mono (by decide)) (by rfl) T.g_is_form T.F_is_form.kp T.b_is_form hx (da_cons (dv 1) da_nil))))
    (db_one (ds_raise1F rfl tk T.ox_BadForm T.ic_BadForm T.ti_BadForm G_BadForm___init__ (hr.mono (by decide)) T.b_BadForm___init__ rfl T.g_BadForm (da_cons de_str da_nil)))
    db_nil)
  (db_cons (ds_if (dt_not (dt_val (de_isK (j := .bl) (by rfl) T.z_isinstance (by decide +kernel) (dv 2) (pe_bltn (by rfl) T.z_bool (by decide +kernel) rfl))))
    (db_one (ds_raise1F rfl tk T.ox_BadForm T.ic_BadForm T.ti_BadForm G_BadForm___init__ (hr.mono (by decide)) T.b_BadForm___init__ rfl T.g_BadForm (da_cons de_str da_nil)))
    db_nil)
  (db_cons (ds_fld (C := T.C_Bound) T.na_Bound_form (dv 0) (dv 1))
  (db_one (ds_fld (C := T.C_Bound) T.na_Bound_is_strict (dv 0) (dv 2)))))), fun ds G Q h => ?_⟩)
  · obtain ⟨x, f, s, rfl, _⟩ := h
    rfl
  · obtain ⟨x, f, s, rfl, hx, tf, ts, q1, q2, q3⟩ := h
    refine ⟨f, rfl, tf, ?_⟩
    cases hf : isForm f with
    | false => exact ⟨rfl, q1 hf⟩
    | true =>
      show (match isK s G .bl with | some b => _ | none => _)
      rw [told_is ts (by decide)]
      cases hb : isB s .bl with
      | false => exact ⟨rfl, q2 hf hb⟩
      | true =>
        show (match G x with | some (.ins C' fs) => _ | _ => _)
        rw [hx]
        refine ⟨rfl, by decide, ?_⟩
        show (match updG G x _ x with | some (.ins C' fs) => _ | _ => _)
        rw [updG_same]
        refine ⟨rfl, (by show 1 < 1000; decide), ?_⟩
        rw [updG_updG]
        exact q3 hf hb
/-- whether a bound holds of a value -/
def holds (b : Bool) (v : Int) : Bool := if b = true then decide (0 < v) else decide (0 ≤ v)
def callD (CB C : Addr) : SpD := fun ds G Q W => ∃ (ns : List Int) (b : Bool) (d : D), ds = [bndD CB ns b, d] ∧ ns.length ≤ 1000 ∧ ToldT d G ∧ (∀ es, seqS d = some es → es.length ≤ 1000) ∧ (numsOk d ns.length = false → W C [("part", .str "numbers")] G) ∧
  ∀ ms : List Int, seqS d = some (ms.map .int) → ms.length = ns.length → (∀ p ∈ ns.zip ms, CMulW p.1 p.2) ∧ Q (.bl (holds b (dot ns ms))) G
theorem all_ints {es : List D} (h : es.all isInt = true) : ∃ ms : List Int, es = ms.map .int := by
  induction es with
  | nil => exact ⟨[], rfl⟩
  | cons e es ih =>
    rw [List.all_cons, Bool.and_eq_true] at h
    obtain ⟨ms, rfl⟩ := ih h.2
    cases e
    case int i => exact ⟨i :: ms, rfl⟩
    all_goals cases h.1
theorem dok_Bound___call__ (T : Top K mg) : FnD P w K mg base 13 T.a_Bound___call__ T.d_Bound___call__ ["self", "numbers"] (callD T.C_Bound T.C_BadForm) := by
  have G_check_numbers_of := (dok_check_numbers_of (P := P) (w := w) (base := base) T).mono (k := 10) (by decide)
  have G_value_of := (dok_value_of (P := P) (w := w) (base := base) T).mono (k := 10) (by decide)
  refine dfn (k := 12) T.F_Bound___call__ scBound___call__ (fun ds G Q W h => ?_) (fun cdv A outer s H E B W hr tk => have hx := hx_of tk; ⟨_, (db_cons (ds_expr (de_call G_check_numbers_of (hr.mono (by decide)) (by rfl) T.g_check_numbers_of T.F_check_numbers_of.kp T.b_check_numbers_of hx (da_cons (dv 1) (da_cons (de_callB call_len2 len_A (by rfl) T.z_len (by decide +kernel) (da_cons (de_fld (dv 0)) da_nil)) da_nil))))
  (db_cons (ds_set (i := 2) scBound___call__.nd rfl (.inl rfl) (de_call G_value_of (hr.mono (by decide)) (by rfl) T.g_value_of T.F_value_of.kp T.b_value_of hx (da_cons (de_fld (dv 0)) (da_cons (dv 1) da_nil))))
  (db_one (ds_ret (de_if (dt_val (de_fld (dv 0))) (de_cmp op_gt gt_A (dv 2) de_int (nomark _)) (de_cmp op_ge ge_A (dv 2) de_int (nomark _))))))), fun ds G Q h => ?_⟩)
  · obtain ⟨ns, b, d, rfl, _⟩ := h
    rfl
  · obtain ⟨ns, b, d, rfl, hl, ht, hz, q0, q1⟩ := h
    refine ⟨d, _, rfl, ht, hz, fun hk => ?_, fun hk => q0 (by rw [List.length_map] at hk; exact hk)⟩
    rw [List.length_map] at hk
    obtain ⟨ms, hs, hlen⟩ : ∃ ms : List Int, seqS d = some (ms.map .int) ∧ ms.length = ns.length := by
      unfold numsOk at hk
      cases hs : seqS d with
      | none => rw [hs] at hk; cases hk
      | some es =>
        rw [hs, Bool.and_eq_true] at hk
        obtain ⟨ms, rfl⟩ := all_ints hk.2
        refine ⟨ms, rfl, ?_⟩
        have := of_decide_eq_true hk.1
        rw [List.length_map] at this
        omega
    obtain ⟨hc, q⟩ := q1 ms hs hlen
    refine ⟨ns, ms, d, rfl, hs, hl, hc, ?_⟩
    cases b <;> exact q
def lenBD (CB : Addr) : SpD := fun ds G Q _ => ∃ (ns : List Int) (b : Bool), ds = [bndD CB ns b] ∧ Q (.int ns.length) G
theorem dok_Bound___len__ (T : Top K mg) : FnD P w K mg base 4 T.a_Bound___len__ T.d_Bound___len__ ["self"] (lenBD T.C_Bound) := by
  refine dfn (k := 3) T.F_Bound___len__ scBound___len__ (fun ds G Q W h => ?_) (fun cdv A outer s H E B W hr tk => have hx := hx_of tk; ⟨_, (db_one (ds_ret (de_callB call_len2 len_A (by rfl) T.z_len (by decide +kernel) (da_cons (de_fld (dv 0)) da_nil)))), fun ds G Q h => ?_⟩)
  · obtain ⟨ns, b, rfl, _⟩ := h
    rfl
  · obtain ⟨ns, b, rfl, q⟩ := h
    show Q (.int ((ns.map D.int).length : Nat)) G
    rw [List.length_map]
    exact q
def falseD (CB : Addr) : SpD := fun ds G Q _ => ∃ (ns : List Int) (b : Bool), ds = [bndD CB ns b] ∧ ns.length ≤ 1000 ∧ Q (.bl (b && noughtI ns)) G
theorem dok_Bound_is_false (T : Top K mg) : FnD P w K mg base 8 T.a_Bound_is_false T.d_Bound_is_false ["self"] (falseD T.C_Bound) := by
  have G_is_nought := (dok_is_nought (P := P) (w := w) (base := base) T).mono (k := 5) (by decide)
  refine dfn (k := 7) T.F_Bound_is_false scBound_is_false (fun ds G Q W h => ?_) (fun cdv A outer s H E B W hr tk => have hx := hx_of tk; ⟨_, (db_one (ds_ret (de_and (de_fld (dv 0)) (de_one (de_call G_is_nought (hr.mono (by decide)) (by rfl) T.g_is_nought T.F_is_nought.kp T.b_is_nought hx (da_cons (de_fld (dv 0)) da_nil)))))), fun ds G Q h => ?_⟩)
  · obtain ⟨ns, b, rfl, _⟩ := h
    rfl
  · obtain ⟨ns, b, rfl, hl, q⟩ := h
    cases b
    · exact q
    · exact ⟨ns, rfl, hl, q⟩
def eqBD (K : PySem.W.Frag) (CB : Addr) : SpD := fun ds G Q _ => ∃ (ns : List Int) (b : Bool) (y : D), ds = [bndD CB ns b, y] ∧
  ((∃ (ms : List Int) (c : Bool), y = bndD CB ms c ∧ Q (.bl (decide (ns = ms) && decide (b = c))) G) ∨ (∃ t, TyD K y G t ∧ PySem.W.kitOne K t (.ref CB) = some false ∧ Q (.bl false) G))
theorem dp_tupI (ns : List Int) : DP (.tup (ns.map .int)) (.tuple (ns.map .int)) := .tup (dps_ints ns)
theorem dok_Bound___eq__ (T : Top K mg) : FnD P w K mg base 4 T.a_Bound___eq__ T.d_Bound___eq__ ["self", "other"] (eqBD K T.C_Bound) := by
  refine dfn (k := 3) T.F_Bound___eq__ scBound___eq__ (fun ds G Q W h => ?_) (fun cdv A outer s H E B W hr tk => have hx := hx_of tk; ⟨_, (db_one (ds_ret (de_and (de_isCK (K := K) (C := T.C_Bound) rfl (by rfl) T.z_isinstance (by decide +kernel) (dv 1) (pe_glob rfl T.g_Bound rfl)) (de_and (de_cmp (op_eqD (Room.units hr)) eq_A (de_fld (dv 0)) (de_fld (dv 1)) (nomark _)) (de_one (de_cmp (op_eqD (Room.units hr)) eq_A (de_fld (dv 0)) (de_fld (dv 1)) (nomark _))))))), fun ds G Q h => ?_⟩)
  · obtain ⟨ns, b, y, rfl, _⟩ := h
    rfl
  · obtain ⟨ns, b, y, rfl, h⟩ := h
    rcases h with ⟨ms, c, rfl, q⟩ | ⟨t, ty, kt, q⟩
    · refine ⟨_, true, .ins rfl, T.ki_Bound, ?_⟩
      refine ⟨_, _, dp_tupI ns, dp_tupI ms, shapedT ns, shapedT ms, ?_⟩
      rw [eqv_tI]
      cases hd : decide (ns = ms) with
      | false =>
        rw [hd] at q
        exact q
      | true =>
        rw [hd, Bool.true_and] at q
        refine ⟨_, _, .bl b, .bl c, rfl, rfl, ?_⟩
        have e : PyData.eqv (.bool b) (.bool c) = decide (b = c) := by cases b <;> cases c <;> decide +kernel
        rw [e]
        exact q
    · exact ⟨t, false, ty, kt, q⟩
end

section
variable {P : Program} {w : World} {K : PySem.W.Frag} {mg : Str → Option Value} {base : Heap}
/-- one of a list -/
def pickD : SpD := fun ds G Q _ => ∃ (p : Addr) (xs : List D) (m : Nat), ds = [.adr p, .lst xs] ∧ G p = some (.pen m) ∧ xs ≠ [] ∧ xs.length ≤ 1000 ∧ m ≤ 2 ^ 20 ∧ ∀ x ∈ xs, Q x (updG G p (.pen (m + 1)))
theorem dok__law_pick (T : Top K mg) : FnD P w K mg base 5 T.a__law_pick T.d__law_pick ["_law_pen_here", "_law_some"] pickD := by
  have G__law_draw := (dok__law_draw (P := P) (w := w) (base := base) T).mono (k := 2) (by decide)
  refine dfn (k := 4) T.F__law_pick sc_law_pick (fun ds G Q W h => ?_) (fun cdv A outer s H E B W hr tk => have hx := hx_of tk; ⟨_, (db_one (ds_ret (de_ix ix_seq ix_A (dv 1) (de_call G__law_draw (hr.mono (by decide)) (by rfl) T.g__law_draw T.F__law_draw.kp T.b__law_draw hx (da_cons (dv 0) (da_cons (de_callB call_len2 len_A (by rfl) T.z_len (by decide +kernel) (da_cons (dv 1) da_nil)) da_nil))) (fun _ _ => rfl)))), fun ds G Q h => ?_⟩)
  · obtain ⟨p, xs, m, rfl, _⟩ := h
    rfl
  · obtain ⟨p, xs, m, rfl, hG, hne, hl, hm, q⟩ := h
    have pos := List.length_pos_iff.mpr hne
    refine ⟨p, xs.length, m, rfl, hG, by omega, by omega, hm, fun r r0 r1 => ?_⟩
    obtain ⟨k, rfl⟩ := Int.eq_ofNat_of_zero_le r0
    have hk : k < xs.length := by omega
    have e : atI xs (k : Int) = some xs[k] := atI_nat (List.getElem?_eq_getElem hk)
    show (match atI xs (k : Int) with | some d => _ | none => _)
    rw [e]
    exact q _ (List.getElem_mem hk)
/-- a factor: small, two steps of the pen -/
def factorD : SpD := fun ds G Q _ => ∃ (p : Addr) (m : Nat), ds = [.adr p] ∧ G p = some (.pen m) ∧ m + 1 ≤ 2 ^ 20 ∧ ∀ r : Int, r.natAbs ≤ 20 → Q (.int r) (updG G p (.pen (m + 2)))
theorem dok__law_factor (T : Top K mg) : FnD P w K mg base 9 T.a__law_factor T.d__law_factor ["_law_pen_here"] factorD := by
  have G__law_pick := (dok__law_pick (P := P) (w := w) (base := base) T).mono (k := 6) (by decide)
  have G__law_draw := (dok__law_draw (P := P) (w := w) (base := base) T).mono (k := 6) (by decide)
  refine dfn (k := 8) T.F__law_factor sc_law_factor (fun ds G Q W h => ?_) (fun cdv A outer s H E B W hr tk => have hx := hx_of tk; ⟨_, (db_one (ds_ret (de_call G__law_pick (hr.mono (by decide)) (by rfl) T.g__law_pick T.F__law_pick.kp T.b__law_pick hx (da_cons (dv 0) (da_cons (de_lst (da_cons de_int (da_cons de_int (da_cons de_int (da_cons (de_neg de_int) (da_cons de_int (da_cons (de_neg de_int) (da_cons de_int (da_cons (de_neg de_int) (da_cons (de_sub (de_call G__law_draw (hr.mono (by decide)) (by rfl) T.g__law_draw T.F__law_draw.kp T.b__law_draw hx (da_cons (dv 0) (da_cons de_int da_nil))) de_int) da_nil)))))))))) da_nil))))), fun ds G Q h => ?_⟩)
  · obtain ⟨p, m, rfl, _⟩ := h
    rfl
  · obtain ⟨p, m, rfl, hG, hm, q⟩ := h
    refine ⟨p, 40, m, rfl, hG, by decide, by decide, by omega, fun r r0 r1 => ?_⟩
    refine ⟨(by show 9 ≤ sizeLine; decide), p, _, m + 1, rfl, updG_same, by simp, (by show 9 ≤ 1000; decide), hm, fun x hx => ?_⟩
    rw [updG_updG]
    have : ∃ r : Int, x = .int r ∧ r.natAbs ≤ 20 := by
      simp only [List.mem_cons, List.not_mem_nil, or_false] at hx
      rcases hx with rfl | rfl | rfl | rfl | rfl | rfl | rfl | rfl | rfl <;> refine ⟨_, rfl, ?_⟩ <;> omega
    obtain ⟨r, rfl, hr⟩ := this
    exact q r hr
def Small (ns : List Int) : Prop := ∀ n ∈ ns, n.natAbs ≤ 20
theorem small_nil : Small [] := fun _ h => by cases h
def lawFormD : SpD := fun ds G Q _ => ∃ (p : Addr) (n m : Nat), ds = [.adr p, .int n] ∧ G p = some (.pen m) ∧ n ≤ 100 ∧ m + 2 * n ≤ 2 ^ 20 ∧ ∀ ns : List Int, ns.length = n → Small ns → Q (.tup (ns.map .int)) (updG G p (.pen (m + 2 * n)))
theorem dok__law_form (T : Top K mg) : FnD P w K mg base 13 T.a__law_form T.d__law_form ["_law_pen_here", "_law_many"] lawFormD := by
  have G__law_factor := (dok__law_factor (P := P) (w := w) (base := base) T).mono (k := 10) (by decide)
  refine dfn (k := 12) T.F__law_form sc_law_form (fun ds G Q W h => ?_) (fun cdv A outer s H E B W hr tk => have hx := hx_of tk; ⟨_, (db_one (ds_ret (de_callTy call_tuple_of tup_A (by rfl) T.z_tuple (by decide +kernel) (da_cons (de_lcF (own := [("_law_k", 2)]) (gV := gName 2) finA_l rfl sc_law_form.nd (di_range1 (by rfl) T.z_range (da_cons (dv 1) da_nil)) (blkOk_by (own := [("_law_k", 2)]) (N := N_law_form) (sc := defScope s_law_form) (by decide +kernel)) (cg_name (i := 2) (by decide)) (fun _ _ _ _ _ => (pg_name (i := 2) sc_law_form.nd rfl (.inl rfl))) (fun _ _ _ _ _ _ => dts_nil) (fun _ _ _ _ _ _ => (de_call G__law_factor (hr.mono (by decide)) (by rfl) T.g__law_factor T.F__law_factor.kp T.b__law_factor hx0 (da_cons (dv 0) da_nil)))) da_nil)))), fun ds G Q h => ?_⟩)
  · obtain ⟨p, n, m, rfl, _⟩ := h
    rfl
  · obtain ⟨p, n, m, rfl, hG, hn, hm, q⟩ := h
    have el : (rangeD 0 (n : Int).toNat).length = n := by simp [rangeD]
    refine ⟨⟨by omega, by omega⟩, by rw [el]; exact small_size (by omega), ?_⟩
    refine lc_inv' (fun j acc G' => ∃ ns : List Int, acc = ns.map .int ∧ ns.length = j ∧ Small ns ∧ G' = updG G p (.pen (m + 2 * j))) (n := n) _ [] 0 G (by rw [Nat.zero_add]; exact el) (fun j acc G' d R hd hj hI hR => ?_) ⟨[], rfl, rfl, small_nil, (updG_self hG).symm⟩ (fun acc G' hI => ?_)
    · obtain ⟨ns, rfl, hl, hs, rfl⟩ := hI
      refine ⟨p, m + 2 * j, rfl, updG_same, by omega, fun r hr => ?_⟩
      rw [updG_updG]
      refine hR _ _ ⟨ns ++ [r], by rw [List.map_append]; rfl, by rw [List.length_append, hl]; rfl, fun x hx => ?_, rfl⟩
      rcases List.mem_append.mp hx with hx | hx
      · exact hs x hx
      · rw [List.mem_singleton.mp hx]
        exact hr
    · obtain ⟨ns, rfl, hl, hs, rfl⟩ := hI
      exact q ns hl hs
/-- sum of int(a * b) -/
def lawValueD : SpD := fun ds G Q _ => ∃ (ns ms : List Int) (d : D), ds = [.tup (ns.map .int), d] ∧ seqS d = some (ms.map .int) ∧ ns.length ≤ 1000 ∧ (∀ p ∈ ns.zip ms, CMulW p.1 p.2) ∧ Q (.int (dot ns ms)) G
theorem dok__law_value (T : Top K mg) : FnD P w K mg base 4 T.a__law_value T.d__law_value ["_law_form_here", "_law_spots"] lawValueD := by
  refine dfn (k := 3) T.F__law_value sc_law_value (fun ds G Q W h => ?_) (fun cdv A outer s H E B W hr tk => have hx := hx_of tk; ⟨_, (db_one (ds_ret (de_callB (cr_sum rfl) sum_A (by rfl) T.z_sum (by decide +kernel) (da_cons (de_lcF (own := [("_law_one", 2), ("_law_other", 3)]) (gV := gTup K 2 (gCons (gName 2) (gCons (gName 3) (gNil)))) finA_l rfl sc_law_value.nd (di_zip (by rfl) T.z_zip (da_cons (dv 0) (da_cons (dv 1) da_nil))) (blkOk_by (own := [("_law_one", 2), ("_law_other", 3)]) (N := N_law_value) (sc := defScope s_law_value) (by decide +kernel)) (cg_tup (cg_cons (cg_name (i := 2) (by decide)) (cg_cons (cg_name (i := 3) (by decide)) cg_nil))) (fun _ _ _ _ _ => (pg_tup (by rfl) (pgs_cons (pg_name (i := 2) sc_law_value.nd rfl (.inl rfl)) (pgs_cons (pg_name (i := 3) sc_law_value.nd rfl (.inl rfl)) pgs_nil)))) (fun _ _ _ _ _ _ => dts_nil) (fun _ _ _ _ _ _ => (de_callTy call_int1 int_A (by rfl) T.z_int (by decide +kernel) (da_cons (de_mul (dv 2) (dv 3)) da_nil)))) da_nil)))), fun ds G Q h => ?_⟩)
  · obtain ⟨ns, ms, d, rfl, _⟩ := h
    rfl
  · obtain ⟨ns, ms, d, rfl, hs, hl, hc, q⟩ := h
    show (match seqS (.tup (ns.map .int)), seqS d with | some xs, some ys => _ | _, _ => _)
    rw [hs]
    show (zipD (ns.map .int) (ms.map .int)).length < sizeLine ∧ lcD _ _ _ _ _ (zipD (ns.map .int) (ms.map .int)) [] G
    rw [zip_ints]
    refine ⟨by rw [List.length_map, List.length_zip]; exact small_size (by omega), lc_mapG (fun d => match d with | .tup [.int a, .int b] => .int (a * b) | _ => .non) _ [] (fun e me Q hQ => ?_) ?_⟩
    · obtain ⟨p, mp, rfl⟩ := List.mem_map.mp me
      exact ⟨rfl, hc p mp, hQ⟩
    · refine ⟨(ns.zip ms).map fun (p : Int × Int) => p.1 * p.2, ?_, (show Q (.int (dot ns ms)) G from q)⟩
      rw [List.nil_append, List.map_map, List.map_map]
      rfl
end

section
variable {P : Program} {w : World} {K : PySem.W.Frag} {mg : Str → Option Value} {base : Heap}
/-- what is heard of a lambda that raises BadForm, or gives a value -/
def heardD (C : Addr) : HearD := fun call G Qd => call (fun C' fs G' => C' = C ∧ ∃ p : Str, fs = ([("part", .str p)] : List (Str × D)) ∧ Qd (.tup [.str "form", .str p]) G') G (fun d G' => Qd (.lst [d]) G')
theorem mono__law_heard {C : Addr} : MonoH (heardD C) := fun _ _ _ _ hm hh => hm _ _ _ hh
theorem hear__law_heard {X : Cx} {B : Bs} (T : Top K mg) (hK : X.K = K) (hM : X.mg = mg) {cdg : Value} {q : Str} : LamX.GivesTo X N_law_heard "_law_heard" (defScope s_law_heard) T.a__law_heard cdg (defBody s_law_heard) "_law_call_so" q (TTH X.K B (heardD T.C_BadForm)) := by
  subst hK hM
  refine gives_of fun f s H B' hc mono act => ⟨_, (db_cons (ds_asg (de_tup (da_cons de_non (da_cons de_non da_nil))) (dg_tup (by rfl) (dgs_cons (dg_name (i := 1) sc_law_heard.nd rfl (.inl rfl)) (dgs_cons (dg_name (i := 2) sc_law_heard.nd rfl (.inl rfl)) dgs_nil))))
  (db_cons (ds_tryH (X := (hearCx X N_law_heard "_law_heard" (defScope s_law_heard) T.a__law_heard cdg s H).nox) (C := T.C_CountError) (i := 3) (j := 1) rfl rfl rfl sc_law_heard.nd rfl rfl (by decide) rfl ⟨rfl, by decide, .inl T.g_CountError⟩ (fun a oe cls d pn => pss_one (ps_set (i := 1) sc_law_heard.nd rfl (.inl rfl) (pv 3))) (fun B2 W pn xe sB eT eZ tk => db_one (ds_set (i := 2) sc_law_heard.nd rfl (.inl rfl) (act B2 W pn xe _ _ sB eT eZ tk))))
  (db_cons (ds_if (dt_cmp op_isN isN_A (dv 1) de_non (nomark _))
    (db_one (ds_ret (de_lst (da_cons (dv 2) da_nil))))
    db_nil)
  (db_cons (ds_if (dt_val (de_isXK (K := X.K) (C := T.C_BadForm) rfl (by rfl) T.z_isinstance (by decide +kernel) (dv 1) (pe_glob rfl T.g_BadForm rfl)))
    (db_one (ds_ret (de_tup (da_cons de_str (da_cons (de_xaK (K := X.K) rfl (dv 1)) da_nil)))))
    db_nil)
  db_never)))), fun G Qd h => ?_⟩
  refine ⟨(by show 2 ≤ sizeLine; decide), rfl, rfl, mono _ _ _ _ _ (fun C fs G1 hw => ?_) (fun d G1 hd => ?_) h⟩
  · obtain ⟨rfl, p, rfl, q⟩ := hw
    refine ⟨by simp, T.ex_BadForm, T.em_BadForm_CountError, true, T.ki_BadForm, T.xf_BadForm, T.no_BadForm_part, small1000 (show 2 ≤ 1000 by decide), q⟩
  · exact ⟨(by show 1 ≤ sizeLine; decide), hd⟩
def refusedD (CB : Addr) : SpD := fun ds G Q _ => ∃ (p : Addr) (ns : List Int) (b : Bool) (m n : Nat), ds = [.adr p, bndD CB ns b, .int n] ∧ G p = some (.pen m) ∧ ns.length = n ∧ 1 ≤ n ∧ n ≤ 8 ∧ m + 3 ≤ 2 ^ 20 ∧ Q (.bl true) (updG G p (.pen (m + 3)))
theorem odd_ok {odd : D} {G : Gm} (h : odd ∈ [D.non, D.int 0, D.str (Str.ofString "1"), D.lst [D.int 1], D.tup [D.int 1, D.bl true], D.tup [D.non], D.tup [D.str (Str.ofString "1")], D.dic [], D.tup (List.replicate (Int.toNat 9) [D.int 1]).flatten, D.tup [D.tup [D.int 1]]]) :
    (∀ G, ToldT odd G) ∧ isForm odd = false := by
  simp only [List.mem_cons, List.not_mem_nil, or_false] at h
  rcases h with rfl | rfl | rfl | rfl | rfl | rfl | rfl | rfl | rfl | rfl
  all_goals refine ⟨fun G => ⟨told_ki rfl, fun es he e me => ?_⟩, by decide +kernel⟩
  all_goals cases he
  all_goals first
    | (simp only [List.mem_cons, List.not_mem_nil, or_false] at me; rcases me with rfl | rfl <;> exact told_ki rfl)
    | (simp only [List.mem_cons, List.not_mem_nil, or_false] at me; rcases me with rfl; exact told_ki rfl)
    | (rw [List.eq_of_mem_replicate (show e ∈ List.replicate 9 (D.int 1) from me)]; exact told_ki rfl)
theorem bad_ok {bad : D} {G : Gm} {n : Nat} (h : bad ∈ [D.non, D.int 0, D.str (Str.ofString "a"), D.dic [], D.lst [D.str (Str.ofString "a")], D.tup [D.non], D.lst [D.bl true], D.int (10 ^ Int.toNat 40)]) :
    (∀ G, ToldT bad G) ∧ (∀ es, seqS bad = some es → es.length ≤ 1000) ∧ numsOk bad n = false := by
  simp only [List.mem_cons, List.not_mem_nil, or_false] at h
  rcases h with rfl | rfl | rfl | rfl | rfl | rfl | rfl | rfl
  all_goals refine ⟨fun G => ⟨told_ki rfl, fun es he e me => ?_⟩, fun es he => ?_, ?_⟩
  all_goals first
    | (cases he; done)
    | (cases he; simp only [List.mem_cons, List.not_mem_nil, or_false] at me; rcases me with rfl; exact told_ki rfl)
    | (cases he; decide)
    | rfl
    | (show (decide _ && _) = false; rw [Bool.and_eq_false_iff]; right; rfl)
theorem refuse {CB C : Addr} {ns : List Int} {b : Bool} {d : D} {G : Gm} {Q : QD} {W : WD} (hl : ns.length ≤ 1000) (ht : ToldT d G) (hz : ∀ es, seqS d = some es → es.length ≤ 1000) (hn : numsOk d ns.length = false) (hw : W C [("part", .str "numbers")] G) : callD CB C [bndD CB ns b, d] G Q W :=
  ⟨ns, b, d, rfl, hl, ht, hz, fun _ => hw, fun ms hs hlen => absurd hn (by
    unfold numsOk
    rw [hs]
    show ¬ (decide (((ms.map D.int).length : Int) = ns.length) && (ms.map D.int).all isInt) = false
    rw [List.length_map, hlen, decide_eq_true rfl, Bool.true_and, List.all_map]
    simp [isInt])⟩
theorem updG_comm {G : Gm} {a b : Addr} {x y : MO} (h : a ≠ b) : updG (updG G a x) b y = updG (updG G b y) a x := by
  funext c
  unfold updG
  by_cases h1 : c = a
  · by_cases h2 : c = b
    · exact absurd (h1.symm.trans h2) h
    · simp [h1, h2, h]
  · by_cases h2 : c = b
    · subst h2
      simp [h1]
    · simp [h1, h2]
theorem lsM_at {G : Gm} {a : Addr} {l : List D} (h : G a = some (.lst l)) : lsM (.adr a) G = some (a, l) := by
  show (match G a with | some (.lst ds) => some (a, ds) | _ => none) = _
  rw [h]
theorem rep_len {k : Nat} {x : D} : (List.replicate k [x]).flatten.length = k := by simp
theorem rep_mem {k : Nat} {x e : D} (h : e ∈ (List.replicate k [x]).flatten) : e = x := by
  obtain ⟨l, hl, he⟩ := List.mem_flatten.mp h
  rw [List.eq_of_mem_replicate hl] at he
  exact List.mem_singleton.mp he
theorem numsOk_len {d : D} {es : List D} {n : Int} (h : seqS d = some es) (hn : (es.length : Int) ≠ n) : numsOk d n = false := by
  unfold numsOk
  rw [h]
  show (decide ((es.length : Int) = n) && es.all isInt) = false
  rw [decide_eq_false hn]
  rfl
theorem st_ok {st : D} (h : st ∈ [D.non, D.int 0, D.int 1, D.str (Str.ofString "True"), D.tup []]) : (∀ G, Told st G) ∧ isB st .bl = false := by
  simp only [List.mem_cons, List.not_mem_nil, or_false] at h
  rcases h with rfl | rfl | rfl | rfl | rfl <;> exact ⟨fun G => told_ki rfl, by decide +kernel⟩
theorem dok__law_refused_right (T : Top K mg) (TB : TabsB T base) : FnT P w K mg base (TbL T) 20 T.a__law_refused_right T.d__law_refused_right ["_law_pen_here", "_law_bound", "_law_many"] (refusedD T.C_Bound) := by
  have G__law_pick := (dok__law_pick (P := P) (w := w) (base := base) T).mono (k := 14) (by decide)
  obtain ⟨oc__law_heard, od__law_heard, kV__law_heard, doc__law_heard, pm__law_heard, an__law_heard, cdv__law_heard, ct__law_heard, osl__law_heard, ed__law_heard, lk__law_heard, hcd__law_heard⟩ := T.F__law_heard.ex
  have hb__law_heard := T.b__law_heard
  rw [ed__law_heard] at hb__law_heard lk__law_heard
  have G_Bound___init__ := (dok_Bound___init__ (P := P) (w := w) (base := base) T).mono (k := 14) (by decide)
  have G_Bound___call__ := (dok_Bound___call__ (P := P) (w := w) (base := base) T).mono (k := 14) (by decide)
  refine dfnT (k := 19) T.F__law_refused_right T.hc__law_refused_right sc_law_refused_right (fun ds G Q W h => ?_) (fun A outer s H E B W eT hr tk => have hx := hx_of tk; ⟨_, (db_cons (ds_set (i := 3) sc_law_refused_right.nd rfl (.inr rfl) (de_call G__law_pick (hr.mono (by decide)) (by rfl) T.g__law_pick T.F__law_pick.kp T.b__law_pick hx (da_cons (dv 0) (da_cons (de_lst (da_cons de_non (da_cons de_int (da_cons de_str (da_cons (de_lst (da_cons de_int da_nil)) (da_cons (de_tup (da_cons de_int (da_cons de_bl da_nil))) (da_cons (de_tup (da_cons de_non da_nil)) (da_cons (de_tup (da_cons de_str da_nil)) (da_cons de_dict0 (da_cons (de_mul (de_tup (da_cons de_int da_nil)) de_int) (da_cons (de_tup (da_cons (de_tup (da_cons de_int da_nil)) da_nil)) da_nil))))))))))) da_nil))))
  (db_cons (ds_set (i := 4) sc_law_refused_right.nd rfl (.inr rfl) (de_call G__law_pick (hr.mono (by decide)) (by rfl) T.g__law_pick T.F__law_pick.kp T.b__law_pick hx (da_cons (dv 0) (da_cons (de_lst (da_cons de_non (da_cons de_int (da_cons de_str (da_cons de_dict0 (da_cons (de_lst (da_cons de_str da_nil)) (da_cons (de_tup (da_cons de_non da_nil)) (da_cons (de_lst (da_cons de_bl da_nil)) (da_cons (de_pow de_int de_int) da_nil))))))))) da_nil))))
  (db_cons (ds_set (i := 5) sc_law_refused_right.nd rfl (.inl rfl) (de_lstM (da_cons (de_lam (k := 17) mono__law_heard rfl T.g__law_heard T.F__law_heard.kp lk__law_heard hcd__law_heard hb__law_heard sc_law_heard rfl (.inl rfl) (hear__law_heard T rfl rfl) TB._law_refused_right rfl (by rw [eT]; exact mem__law_refused_right) (by rw [eT]; exact one__law_refused_right) (hr.mono (by decide)) (LamX.lamS_by (show LamX.lamSB (defScope s_law_refused_right) _ = true by decide +kernel)) rfl (fun _ _ _ _ _ => rfl) (fun A outer s H E f c' B W eT2 eZ hr tk => have hx := hx_of tk; (de_make T.mk_Bound T.gc_Bound G_Bound___init__ (hr.mono (by decide)) rfl T.g_Bound T.b_Bound___init__ hx (da_cons (dv 3) (da_cons de_str da_nil))))) da_nil)))
  (db_cons (ds_expr (de_append (dv 5) (de_lam (k := 17) mono__law_heard rfl T.g__law_heard T.F__law_heard.kp lk__law_heard hcd__law_heard hb__law_heard sc_law_heard rfl (.inl rfl) (hear__law_heard T rfl rfl) TB._law_refused_right rfl (by rw [eT]; exact mem__law_refused_right) (by rw [eT]; exact one__law_refused_right) (hr.mono (by decide)) (LamX.lamS_by (show LamX.lamSB (defScope s_law_refused_right) _ = true by decide +kernel)) rfl (fun _ _ _ _ _ => rfl) (fun A outer s H E f c' B W eT2 eZ hr tk => have hx := hx_of tk; (de_makeK T.mk_Bound T.gc_Bound G_Bound___init__ (hr.mono (by decide)) rfl T.g_Bound T.mb_Bound_0 hx perm_ok (da_cons (de_tup (da_cons de_int (da_cons de_int da_nil))) da_nil) (dk_cons (de_call G__law_pick (hr.mono (by decide)) (by rfl) T.g__law_pick T.F__law_pick.kp T.b__law_pick hx (da_cons (dv 0) (da_cons (de_lst (da_cons de_non (da_cons de_int (da_cons de_int (da_cons de_str (da_cons (de_tup da_nil) da_nil)))))) da_nil))) dk_nil))))))
  (db_cons (ds_expr (de_append (dv 5) (de_lam (k := 17) mono__law_heard rfl T.g__law_heard T.F__law_heard.kp lk__law_heard hcd__law_heard hb__law_heard sc_law_heard rfl (.inl rfl) (hear__law_heard T rfl rfl) TB._law_refused_right rfl (by rw [eT]; exact mem__law_refused_right) (by rw [eT]; exact one__law_refused_right) (hr.mono (by decide)) (LamX.lamS_by (show LamX.lamSB (defScope s_law_refused_right) _ = true by decide +kernel)) rfl (fun _ _ _ _ _ => rfl) (fun A outer s H E f c' B W eT2 eZ hr tk => have hx := hx_of tk; (de_callO (dv 1) T.oc_Bound___call__ G_Bound___call__ (hr.mono (by decide)) T.b_Bound___call__ hx (da_cons (dv 4) da_nil))))))
  (db_cons (ds_expr (de_append (dv 5) (de_lam (k := 17) mono__law_heard rfl T.g__law_heard T.F__law_heard.kp lk__law_heard hcd__law_heard hb__law_heard sc_law_heard rfl (.inl rfl) (hear__law_heard T rfl rfl) TB._law_refused_right rfl (by rw [eT]; exact mem__law_refused_right) (by rw [eT]; exact one__law_refused_right) (hr.mono (by decide)) (LamX.lamS_by (show LamX.lamSB (defScope s_law_refused_right) _ = true by decide +kernel)) rfl (fun _ _ _ _ _ => rfl) (fun A outer s H E f c' B W eT2 eZ hr tk => have hx := hx_of tk; (de_callO (dv 1) T.oc_Bound___call__ G_Bound___call__ (hr.mono (by decide)) T.b_Bound___call__ hx (da_cons (de_mul (de_lst (da_cons de_int da_nil)) (de_add (dv 2) de_int)) da_nil))))))
  (db_cons (ds_expr (de_append (dv 5) (de_lam (k := 17) mono__law_heard rfl T.g__law_heard T.F__law_heard.kp lk__law_heard hcd__law_heard hb__law_heard sc_law_heard rfl (.inl rfl) (hear__law_heard T rfl rfl) TB._law_refused_right rfl (by rw [eT]; exact mem__law_refused_right) (by rw [eT]; exact one__law_refused_right) (hr.mono (by decide)) (LamX.lamS_by (show LamX.lamSB (defScope s_law_refused_right) _ = true by decide +kernel)) rfl (fun _ _ _ _ _ => rfl) (fun A outer s H E f c' B W eT2 eZ hr tk => have hx := hx_of tk; (de_callO (dv 1) T.oc_Bound___call__ G_Bound___call__ (hr.mono (by decide)) T.b_Bound___call__ hx (da_cons (de_add (de_callTy call_tuple_of tup_A (by rfl) T.z_tuple (by decide +kernel) (da_cons (de_mul (de_lst (da_cons de_bl da_nil)) (dv 2)) da_nil)) (de_tup (da_cons de_non da_nil))) da_nil))))))
  (db_one (ds_ret (de_cmp (op_eqD (Room.units hr)) eq_A (de_close (dv 5)) (de_add (de_lst (da_cons (de_tup (da_cons de_str (da_cons de_str da_nil))) (da_cons (de_tup (da_cons de_str (da_cons de_str da_nil))) da_nil))) (de_mul (de_lst (da_cons (de_tup (da_cons de_str (da_cons de_str da_nil))) da_nil)) de_int)) (nomark _))))))))))), fun ds G Q h => ?_⟩)
  · obtain ⟨p, ns, b, m, n, rfl, _⟩ := h
    rfl
  · obtain ⟨p, ns, b, m, n, rfl, hG, hl, h1, h8, hm, q⟩ := h
    refine ⟨small1000 (by decide), small1000 (by decide), small1000 (by decide), small1000 (by decide), small1000 (by decide), ⟨by simp, by decide, by decide, by decide⟩, small1000 (by decide), small1000 (by decide), small1000 (by decide), ?_⟩
    refine ⟨p, _, m, rfl, hG, by simp, by decide, by omega, fun odd ho => ?_⟩
    refine ⟨small1000 (by decide), small1000 (by decide), small1000 (by decide), ⟨by decide, by decide, by decide⟩, small1000 (by decide), ?_⟩
    refine ⟨p, _, m + 1, rfl, updG_same, by simp, by decide, by omega, fun bad hb => ?_⟩
    rw [updG_updG]
    obtain ⟨ho1, ho2⟩ := odd_ok (G := updG G p (.pen (m + 2))) ho
    obtain ⟨hb1, hb2, hb3⟩ := bad_ok (n := ns.length) (G := updG G p (.pen (m + 2))) hb
    clear ho hb
    refine fun x nx => ⟨x, odd, .str "odd", rfl, updG_same, ho1 _, told_ki rfl, fun _ => ⟨rfl, "form", rfl, ?_⟩, fun h => absurd h (by rw [ho2]; decide), fun h => absurd h (by rw [ho2]; decide)⟩
    rw [delG_updG nx]
    refine ⟨small1000 (show 1 ≤ 1000 by decide), fun a na => ?_⟩
    have hap : a ≠ p := fun e => by rw [e, updG_same] at na; cases na
    have ga : G a = none := (updG_ne hap).symm.trans na
    clear G__law_pick G_Bound___init__ G_Bound___call__ hx tk hr nx na
    show (match lsM (.adr a) _ with | some _ => _ | none => _)
    rw [lsM_at updG_same]
    refine ⟨small1000 (show 2 ≤ 1000 by decide), small1000 (show 0 ≤ 1000 by decide), small1000 (show 5 ≤ 1000 by decide), p, _, m + 2, rfl, (updG_ne hap.symm).trans updG_same, by simp, by decide, by omega, fun st hst => ?_⟩
    obtain ⟨hs1, hs2⟩ := st_ok hst
    clear hst
    rw [updG_comm hap, updG_updG]
    refine ⟨rfl, rfl, fun x nx => ⟨x, .tup [.int 1, .int 2], st, rfl, updG_same, ⟨told_ki rfl, fun es he e me => ?_⟩, hs1 _, fun h => absurd h (by decide), fun _ _ => ⟨rfl, "strict", rfl, ?_⟩, fun _ h => absurd h (by rw [hs2]; decide)⟩⟩
    · cases he
      simp only [List.mem_cons, List.not_mem_nil, or_false] at me
      rcases me with rfl | rfl <;> exact told_ki rfl
    rw [delG_updG nx]
    clear nx
    show (match lsM (.adr a) _ with | some (a, ds) => _ | none => _)
    rw [lsM_at updG_same]
    refine ⟨small_size (show 1 ≤ 1000 by decide), ?_⟩
    rw [updG_updG]
    -- the bound asked with bad numbers
    show (match lsM (.adr a) _ with | some _ => _ | none => _)
    rw [lsM_at updG_same]
    refine ⟨rfl, rfl, refuse (by omega) (hb1 _) hb2 hb3 ⟨rfl, "numbers", rfl, ?_⟩⟩
    show (match lsM (.adr a) _ with | some (a, ds) => _ | none => _)
    rw [lsM_at updG_same]
    refine ⟨small_size (show 2 ≤ 1000 by decide), ?_⟩
    rw [updG_updG]
    -- one number too many
    show (match lsM (.adr a) _ with | some _ => _ | none => _)
    rw [lsM_at updG_same]
    refine ⟨rfl, small1000 (show 1 ≤ 1000 by decide), ⟨by omega, by omega, small1000 (show 1 * _ ≤ 1000 by omega)⟩, rfl, refuse (by omega) ⟨told_ki rfl, fun es he e me => ?_⟩ (fun es he => ?_) (numsOk_len rfl ?_) ⟨rfl, "numbers", rfl, ?_⟩⟩
    · cases he
      rw [rep_mem me]
      exact told_ki rfl
    · cases he
      rw [rep_len]
      omega
    · rw [rep_len]
      omega
    show (match lsM (.adr a) _ with | some (a, ds) => _ | none => _)
    rw [lsM_at updG_same]
    refine ⟨small_size (show 3 ≤ 1000 by decide), ?_⟩
    rw [updG_updG]
    -- a tuple, too, and not of integers
    show (match lsM (.adr a) _ with | some _ => _ | none => _)
    rw [lsM_at updG_same]
    refine ⟨rfl, small1000 (show 1 ≤ 1000 by decide), ⟨by omega, by omega, small1000 (show 1 * _ ≤ 1000 by omega)⟩, small1000 (show 1 ≤ 1000 by decide), small1000 (by rw [rep_len]; show _ + 1 ≤ 1000; omega), rfl, refuse (by omega) ⟨told_ki rfl, fun es he e me => ?_⟩ (fun es he => ?_) (numsOk_len rfl ?_) ⟨rfl, "numbers", rfl, ?_⟩⟩
    · cases he
      rcases List.mem_append.mp me with me | me
      · rw [rep_mem me]
        exact told_ki rfl
      · rw [List.mem_singleton.mp me]
        exact told_ki rfl
    · cases he
      rw [List.length_append, rep_len]
      show _ + 1 ≤ 1000
      omega
    · rw [List.length_append, rep_len]
      show ¬ ((_ + 1 : Nat) : Int) = _
      omega
    show (match lsM (.adr a) _ with | some (a, ds) => _ | none => _)
    rw [lsM_at updG_same]
    refine ⟨small_size (show 4 ≤ 1000 by decide), ?_⟩
    rw [updG_updG]
    -- what was heard
    refine ⟨a, rfl, ?_⟩
    rw [updG_same]
    refine ⟨small1000 (show 2 ≤ 1000 by decide), small1000 (show 2 ≤ 1000 by decide), small1000 (show 2 ≤ 1000 by decide), small1000 (show 2 ≤ 1000 by decide), small1000 (show 1 ≤ 1000 by decide), ⟨by decide, by decide, small1000 (by decide)⟩, small1000 (by decide), ?_⟩
    rw [delG_updG ((updG_ne hap).trans ga)]
    have hf : DP (.tup [.str "form", .str "form"]) (.tuple [.str "form", .str "form"]) := .tup (.cons (.str _) (.cons (.str _) .nil))
    have hs : DP (.tup [.str "form", .str "strict"]) (.tuple [.str "form", .str "strict"]) := .tup (.cons (.str _) (.cons (.str _) .nil))
    have hn : DP (.tup [.str "form", .str "numbers"]) (.tuple [.str "form", .str "numbers"]) := .tup (.cons (.str _) (.cons (.str _) .nil))
    have hd := DP.lst (.cons hf (.cons hs (.cons hn (.cons hn (.cons hn .nil)))))
    refine ⟨_, _, hd, hd, by decide +kernel, by decide +kernel, ?_⟩
    exact q
end

section
variable {P : Program} {w : World} {K : PySem.W.Frag} {mg : Str → Option Value} {base : Heap}
theorem eqv_str (x : Str) : PyData.eqv (.str x) (.str x) = true := by
  unfold PyData.eqv
  simp
theorem sh {x : Str} (ok : PyData.strOk x = true) : SeqAt.shaped (.str x) = true := by simp [SeqAt.shaped, PyData.canLay0, PyData.depth, ok]
theorem shown_small : ∀ n : Nat, n ≤ 9 → (PyData.int (n : Int)).shown.length ≤ 1000 := by decide +kernel
theorem shown_ok : ∀ n : Nat, n ≤ 9 → PyData.strOk (PyData.int (n : Int)).shown = true := by decide +kernel
theorem shown_okB (b : Bool) : PyData.strOk (PyData.bool b).shown = true := by cases b <;> decide +kernel
theorem rb1 (b : Bool) : (PyData.bool b).showable = true := by cases b <;> rfl
theorem rb2 (b : Bool) : (PyData.bool b).hasDict = false := by cases b <;> rfl
theorem rb3 (b : Bool) : (PyData.bool b).depth ≤ 60 := by cases b <;> decide +kernel
theorem rb4 (b : Bool) : (PyData.bool b).shown.length ≤ sizeLine := by cases b <;> exact small1000 (by decide +kernel)
theorem ri1 {n : Nat} (h : n ≤ 9) : (PyData.int (n : Int)).showable = true := by
  simp [PyData.showable]
  exact Nat.lt_of_le_of_lt (Nat.log2_le_self n) (by omega)
theorem ri2 {n : Nat} : (PyData.int (n : Int)).hasDict = false := by simp [PyData.hasDict]
theorem ri3 {n : Nat} : (PyData.int (n : Int)).depth ≤ 60 := by simp [PyData.depth]
theorem ri4 {n : Nat} (h : n ≤ 9) : (PyData.int (n : Int)).shown.length ≤ sizeLine := small1000 (shown_small n h)
theorem isForm_ints {ns : List Int} (h : ns.length ≤ 8) : isForm (.tup (ns.map .int)) = true := by
  show (decide ((ns.map D.int).length ≤ 8) && (ns.map D.int).all isInt) = true
  rw [List.length_map, decide_eq_true h, Bool.true_and, List.all_map]
  simp [isInt]
theorem toldT_ints {d : D} {ns : List Int} (h : d = .tup (ns.map .int) ∨ d = .lst (ns.map .int)) (G : Gm) : ToldT d G := by
  rcases h with rfl | rfl
  all_goals
    refine ⟨told_ki rfl, fun es he e me => ?_⟩
    cases he
    obtain ⟨n, _, rfl⟩ := List.mem_map.mp me
    exact told_ki rfl
/-- a Bound is made -/
theorem make_ok {CB C x : Addr} {G : Gm} {R : QD} {W : WD} {ns : List Int} {b : Bool} (hl : ns.length ≤ 8) (q : R .non (updG G x (.ins CB [("form", .tup (ns.map .int)), ("is_strict", .bl b)]))) :
    initD CB C [.adr x, .tup (ns.map .int), .bl b] (updG G x (.ins CB [])) R W := by
  refine ⟨x, _, _, rfl, updG_same, toldT_ints (.inl rfl) _, told_ki rfl, fun h => absurd h (by rw [isForm_ints hl]; decide), fun _ h => absurd h (by show ¬ (true = false); decide), fun _ _ => ?_⟩
  rw [updG_updG]
  exact q
theorem numsOk_ints {d : D} {ms : List Int} {n : Nat} (hs : seqS d = some (ms.map .int)) (h : ms.length = n) : numsOk d n = true := by
  unfold numsOk
  rw [hs]
  show (decide (((ms.map D.int).length : Int) = n) && (ms.map D.int).all isInt) = true
  rw [List.length_map, h, decide_eq_true rfl, Bool.true_and, List.all_map]
  simp [isInt]
theorem ints_inj {a b : List Int} (h : a.map D.int = b.map D.int) : a = b := (List.map_inj_right (fun x y e => by injection e)).mp h
/-- a Bound is asked -/
theorem call_ok {CB C : Addr} {ns ms : List Int} {b : Bool} {d : D} {G : Gm} {Q : QD} {W : WD} (hl : ns.length ≤ 8) (hd : d = .tup (ms.map .int) ∨ d = .lst (ms.map .int)) (hn : ms.length = ns.length) (hc : ∀ p ∈ ns.zip ms, CMulW p.1 p.2) (q : Q (.bl (holds b (dot ns ms))) G) : callD CB C [bndD CB ns b, d] G Q W := by
  have hs : seqS d = some (ms.map .int) := by rcases hd with rfl | rfl <;> rfl
  refine ⟨ns, b, d, rfl, by omega, toldT_ints hd _, fun es he => ?_, fun h => absurd h (by rw [numsOk_ints hs hn]; decide), fun ms' hs' _ => ?_⟩
  · rw [hs] at he
    cases he
    rw [List.length_map]
    omega
  · rw [hs] at hs'
    have := ints_inj (Option.some.inj hs')
    subst this
    exact ⟨hc, q⟩
theorem cmul_small {ns ms : List Int} (h1 : Small ns) (h2 : ∀ x ∈ ms, x.natAbs ≤ 10 ^ 30) : ∀ p ∈ ns.zip ms, CMulW p.1 p.2 := fun p hp => by
  have a := h1 _ (List.of_mem_zip hp).1
  have b := h2 _ (List.of_mem_zip hp).2
  have a2 : p.1.natAbs.log2 ≤ 20 := Nat.le_trans (Nat.log2_le_self _) a
  have b2 : p.2.natAbs.log2 < 100 := by
    by_cases z : p.2.natAbs = 0
    · rw [z]
      decide
    · exact (Nat.log2_lt z).mpr (Nat.lt_of_le_of_lt b (by decide))
  unfold CMulW
  omega
theorem nought_rep (ns : List Int) : noughtI ns = decide (ns = List.replicate ns.length 0) := by
  unfold noughtI
  rw [Bool.eq_iff_iff, List.all_eq_true, decide_eq_true_iff, List.eq_replicate_iff]
  simp
theorem zeros_map (n : Nat) : (List.replicate n [D.int 0]).flatten = (List.replicate n (0 : Int)).map D.int := by simp
/-- what a Bound is not equal to -/
def Off (CB : Addr) (ns : List Int) (b : Bool) (y : D) : Prop := (∃ (ms : List Int) (c : Bool), y = bndD CB ms c ∧ (decide (ns = ms) && decide (b = c)) = false) ∨ (∃ ds, y = .tup ds) ∨ y = .non
theorem eq_off {T : Top K mg} {ns : List Int} {b : Bool} {y : D} {G : Gm} {Q : QD} {neg : Bool} (h : Off T.C_Bound ns b y) (q : Q (.bl neg) G) : eqOD K T.C_Bound (eqBD K T.C_Bound) WN neg (bndD T.C_Bound ns b) y G Q := by
  refine ⟨rfl, ?_, ns, b, y, rfl, ?_⟩
  · rcases h with ⟨ms, c, rfl, _⟩ | ⟨ds, rfl⟩ | rfl
    · exact ⟨.ref T.C_Bound, .ins rfl, by simp [PySem.W.notFirst]⟩
    · exact ⟨_, .ki rfl, T.nf_tuple_Bound⟩
    · exact ⟨_, .ki rfl, T.nf_NoneType_Bound⟩
  · rcases h with ⟨ms, c, rfl, e⟩ | ⟨ds, rfl⟩ | rfl
    · refine .inl ⟨ms, c, rfl, ?_⟩
      rw [e]
      cases neg <;> exact q
    · exact .inr ⟨_, .ki rfl, T.kn_tuple_Bound, by cases neg <;> exact q⟩
    · exact .inr ⟨_, .ki rfl, T.kn_NoneType_Bound, by cases neg <;> exact q⟩
theorem eq_on {T : Top K mg} {ns : List Int} {b : Bool} {G : Gm} {Q : QD} {neg : Bool} (q : Q (.bl (!neg)) G) : eqOD K T.C_Bound (eqBD K T.C_Bound) WN neg (bndD T.C_Bound ns b) (bndD T.C_Bound ns b) G Q := by
  refine ⟨rfl, ⟨.ref T.C_Bound, .ins rfl, by simp [PySem.W.notFirst]⟩, ns, b, _, rfl, .inl ⟨ns, b, rfl, ?_⟩⟩
  rw [decide_eq_true rfl, decide_eq_true rfl]
  cases neg <;> exact q
theorem dok_law (T : Top K mg) (TB : TabsB T base) : GnT P w K mg base (TbL T) 24 T.a_law T.d_law ["_law_script"] lawD := by
  have G__law_pen := (dok__law_pen (P := P) (w := w) (base := base) T).mono (k := 21) (by decide)
  have G__law_form := (dok__law_form (P := P) (w := w) (base := base) T).mono (k := 21) (by decide)
  have G_Bound___init__ := (dok_Bound___init__ (P := P) (w := w) (base := base) T).mono (k := 21) (by decide)
  have G__law_draw := (dok__law_draw (P := P) (w := w) (base := base) T).mono (k := 21) (by decide)
  have G__law_pick := (dok__law_pick (P := P) (w := w) (base := base) T).mono (k := 21) (by decide)
  have G__law_value := (dok__law_value (P := P) (w := w) (base := base) T).mono (k := 21) (by decide)
  have G__law_refused_right := (dok__law_refused_right (P := P) (w := w) (base := base) T TB).mono (k := 21) (by decide)
  have G_Bound___call__ := (dok_Bound___call__ (P := P) (w := w) (base := base) T).mono (k := 21) (by decide)
  have G_Bound___len__ := (dok_Bound___len__ (P := P) (w := w) (base := base) T).mono (k := 21) (by decide)
  have G_Bound___eq__ := (dok_Bound___eq__ (P := P) (w := w) (base := base) T).mono (k := 21) (by decide)
  have G_Bound_is_false := (dok_Bound_is_false (P := P) (w := w) (base := base) T).mono (k := 21) (by decide)
  refine dfgT (k := 23) T.F_law T.hc_law sclaw (fun ds G Q W h => ?_) (fun A outer s H E B eT hg hr => ⟨_, (db_cons (ds_set (i := 1) sclaw.nd rfl (.inr rfl) (de_call G__law_pen (hr.mono (by decide)) (by rfl) T.g__law_pen T.F__law_pen.kp T.b__law_pen hx0 (da_cons (dv 0) da_nil)))
  (db_cons (ds_for PassesOwn.never rfl (di_range1 (by rfl) T.z_range (da_cons de_int da_nil)) (dg_name (i := 2) sclaw.nd rfl (.inl rfl))
    (db_cons (ds_par (i := 3) (j := 4) (by rfl) sclaw.nd rfl rfl (by decide) rfl rfl (da_cons (de_call G__law_draw (hr.mono (by decide)) (by rfl) T.g__law_draw T.F__law_draw.kp T.b__law_draw hx0 (da_cons (dv 1) (da_cons de_int da_nil))) (da_cons (de_call G__law_pick (hr.mono (by decide)) (by rfl) T.g__law_pick T.F__law_pick.kp T.b__law_pick hx0 (da_cons (dv 1) (da_cons (de_lst (da_cons de_bl (da_cons de_bl da_nil))) da_nil))) da_nil)) (by rfl))
  (db_cons (ds_set (i := 5) sclaw.nd rfl (.inl rfl) (de_call G__law_form (hr.mono (by decide)) (by rfl) T.g__law_form T.F__law_form.kp T.b__law_form hx0 (da_cons (dv 1) (da_cons (dv 3) da_nil))))
  (db_cons (ds_set (i := 6) sclaw.nd rfl (.inr rfl) (de_make T.mk_Bound T.gc_Bound G_Bound___init__ (hr.mono (by decide)) rfl T.g_Bound T.b_Bound___init__ hx0 (da_cons (dv 5) (da_cons (dv 4) da_nil))))
  (db_cons (ds_if (dw_pt (dw_or (dt_cmp (op_neD (Room.units hr)) ne_A (de_fld (dv 6)) (dv 5) (nomark _)) (dw_or (dt_cmp (op_neD (Room.units hr)) ne_A (de_callB (call_repr hg (Room.units hr)) repr_A (by rfl) T.z_repr (by decide +kernel) (da_cons (de_fld (dv 6)) da_nil)) (de_callB (call_repr hg (Room.units hr)) repr_A (by rfl) T.z_repr (by decide +kernel) (da_cons (dv 4) da_nil)) (nomark _)) (dw_or1 (dt_cmp (op_neD (Room.units hr)) ne_A (de_callB (call_repr hg (Room.units hr)) repr_A (by rfl) T.z_repr (by decide +kernel) (da_cons (de_lenO T.om_Bound___len__ G_Bound___len__ T.b_Bound___len__ (hr.mono (by decide)) hx0 (by rfl) T.z_len (by decide +kernel) (da_cons (dv 6) da_nil)) da_nil)) (de_callB (call_repr hg (Room.units hr)) repr_A (by rfl) T.z_repr (by decide +kernel) (da_cons (dv 3) da_nil)) (nomark _))))))
    (db_one (ds_ret de_bl))
    db_nil)
  (db_cons (ds_if (dt_cmp (op_neD (Room.units hr)) ne_A (de_callB (call_repr hg (Room.units hr)) repr_A (by rfl) T.z_repr (by decide +kernel) (da_cons (de_prop (dv 6) T.cl_Bound T.pr_Bound_is_false G_Bound_is_false (hr.mono (by decide)) T.b_Bound_is_false) da_nil)) (de_callB (call_repr hg (Room.units hr)) repr_A (by rfl) T.z_repr (by decide +kernel) (da_cons (de_and (dv 4) (de_one (de_cmp (op_eqD (Room.units hr)) eq_A (dv 5) (de_mul (de_tup (da_cons de_int da_nil)) (dv 3)) (nomark _)))) da_nil)) (nomark _))
    (db_one (ds_ret de_bl))
    db_nil)
  (db_cons (ds_for PassesOwn.never rfl (di_range1 (by rfl) T.z_range (da_cons de_int da_nil)) (dg_name (i := 7) sclaw.nd rfl (.inl rfl))
    (db_cons (ds_setLcF (i := 8) (own := [("_law_k", 12)]) (gV := gName 12) finA_l rfl sclaw.nd rfl rfl (sw_true rfl rfl rfl (by decide +kernel)) (di_range1 (by rfl) T.z_range (da_cons (dv 3) da_nil)) (blkOk_by (own := [("_law_k", 12)]) (N := Nlaw) (sc := defScope slaw) (by decide +kernel)) (cg_name (i := 12) (by decide)) (fun _ _ _ _ _ => (pg_name (i := 12) sclaw.nd rfl (.inl rfl))) (fun _ _ _ _ _ _ => dts_nil) (fun _ _ _ _ _ _ => (de_call G__law_pick (hr.mono (by decide)) (by rfl) T.g__law_pick T.F__law_pick.kp T.b__law_pick hx0 (da_cons (dv 1) (da_cons (de_lst (da_cons de_int (da_cons de_int (da_cons (de_neg de_int) (da_cons de_int (da_cons (de_pow de_int de_int) (da_cons (de_call G__law_draw (hr.mono (by decide)) (by rfl) T.g__law_draw T.F__law_draw.kp T.b__law_draw hx0 (da_cons (dv 1) (da_cons de_int da_nil))) da_nil))))))) da_nil)))))
  (db_cons (ds_set (i := 9) sclaw.nd rfl (.inl rfl) (de_call G__law_value (hr.mono (by decide)) (by rfl) T.g__law_value T.F__law_value.kp T.b__law_value hx0 (da_cons (dv 5) (da_cons (dv 8) da_nil))))
  (db_cons (ds_set (i := 10) sclaw.nd rfl (.inl rfl) (de_if (dt_val (dv 4)) (de_cmp op_gt gt_A (dv 9) de_int (nomark _)) (de_cmp op_ge ge_A (dv 9) de_int (nomark _))))
  (db_one (ds_if (dw_pt (dw_or (dt_cmp (op_neD (Room.units hr)) ne_A (de_callB (call_repr hg (Room.units hr)) repr_A (by rfl) T.z_repr (by decide +kernel) (da_cons (de_callO (dv 6) T.oc_Bound___call__ G_Bound___call__ (hr.mono (by decide)) T.b_Bound___call__ hx0 (da_cons (dv 8) da_nil)) da_nil)) (de_callB (call_repr hg (Room.units hr)) repr_A (by rfl) T.z_repr (by decide +kernel) (da_cons (dv 10) da_nil)) (nomark _)) (dw_or1 (dt_cmp (op_neD (Room.units hr)) ne_A (de_callB (call_repr hg (Room.units hr)) repr_A (by rfl) T.z_repr (by decide +kernel) (da_cons (de_callOK (dv 6) T.oc_Bound___call__ G_Bound___call__ (hr.mono (by decide)) T.kb_Bound___call___0 hx0 perm_ok (dk_cons (de_callTy call_tuple_of tup_A (by rfl) T.z_tuple (by decide +kernel) (da_cons (dv 8) da_nil)) dk_nil)) da_nil)) (de_callB (call_repr hg (Room.units hr)) repr_A (by rfl) T.z_repr (by decide +kernel) (da_cons (dv 10) da_nil)) (nomark _)))))
    (db_one (ds_ret de_bl))
    db_nil))))))
  (db_cons (ds_set (i := 11) sclaw.nd rfl (.inl rfl) (de_lstM (da_cons (de_make T.mk_Bound T.gc_Bound G_Bound___init__ (hr.mono (by decide)) rfl T.g_Bound T.b_Bound___init__ hx0 (da_cons (dv 5) (da_cons (de_not (dv 4)) da_nil))) (da_cons (dv 5) (da_cons de_non da_nil)))))
  (db_cons (ds_if (dt_cmp op_lt lt_A (dv 3) de_int (nomark _))
    (db_one (ds_expr (de_append (dv 11) (de_make T.mk_Bound T.gc_Bound G_Bound___init__ (hr.mono (by decide)) rfl T.g_Bound T.b_Bound___init__ hx0 (da_cons (de_add (dv 5) (de_tup (da_cons de_int da_nil))) (da_cons (dv 4) da_nil))))))
    db_nil)
  (db_cons (ds_if (dt_neOK rfl T.om_Bound___eq__ T.ne_Bound T.mr_Bound G_Bound___eq__ T.b_Bound___eq__ (hr.mono (by decide)) hx0 (dv 6) (de_makeK0 T.mk_Bound T.gc_Bound G_Bound___init__ (hr.mono (by decide)) rfl T.g_Bound T.mb_Bound_1 hx0 perm_ok (dk_cons (dv 4) (dk_cons (dv 5) dk_nil))))
    (db_one (ds_ret de_bl))
    db_nil)
  (db_cons (ds_if (dt_cmp (op_neD (Room.units hr)) ne_A (de_lcF (own := [("_law_one", 13)]) (gV := gName 13) finA_l rfl sclaw.nd (di_list (de_close (dv 11))) (blkOk_by (own := [("_law_one", 13)]) (N := Nlaw) (sc := defScope slaw) (by decide +kernel)) (cg_name (i := 13) (by decide)) (fun _ _ _ _ _ => (pg_name (i := 13) sclaw.nd rfl (.inl rfl))) (fun _ _ _ _ _ _ => (dts_one (dw_pt (dw_or (dt_eqOK rfl T.om_Bound___eq__ G_Bound___eq__ T.b_Bound___eq__ (hr.mono (by decide)) hx0 (dv 6) (dv 13)) (dw_or1 (dt_not (dt_neOK rfl T.om_Bound___eq__ T.ne_Bound T.mr_Bound G_Bound___eq__ T.b_Bound___eq__ (hr.mono (by decide)) hx0 (dv 6) (dv 13)))))))) (fun _ _ _ _ _ _ => (dv 13))) (de_lst da_nil) (nomark _))
    (db_one (ds_ret de_bl))
    db_nil)
  (db_one (ds_if (dw_pt (dw_or (dt_neOK rfl T.om_Bound___eq__ T.ne_Bound T.mr_Bound G_Bound___eq__ T.b_Bound___eq__ (hr.mono (by decide)) hx0 (de_makeDf (fun _ => .cons (.bl false) .nil) (.cons rfl .nil) T.mk_Bound T.gc_Bound G_Bound___init__ (hr.mono (by decide)) rfl T.g_Bound T.bd_Bound___init__ hx0 (da_cons (dv 5) da_nil)) (de_make T.mk_Bound T.gc_Bound G_Bound___init__ (hr.mono (by decide)) rfl T.g_Bound T.b_Bound___init__ hx0 (da_cons (dv 5) (da_cons de_bl da_nil)))) (dw_or1 (dw_pt (dw_and (dt_cmp op_gt gt_A (dv 3) de_int (nomark _)) (dw_and1 (dt_not (dt_val (de_callT eT G__law_refused_right (hr.mono (by decide)) (by rfl) T.g__law_refused_right T.F__law_refused_right.kp T.b__law_refused_right hx0 (da_cons (dv 1) (da_cons (dv 6) (da_cons (dv 3) da_nil))))))))))))
    (db_one (ds_ret de_bl))
    db_nil)))))))))))))
  (db_one (ds_ret de_bl)))), fun ds G Q W h => ?_⟩)
  · obtain ⟨ns, rfl, _⟩ := h
    rfl
  · obtain ⟨script, rfl, hl, hG, q⟩ := h
    refine ⟨script, rfl, hl, fun p hp => ?_⟩
    refine ⟨⟨by decide, by decide⟩, ?_⟩
    refine for_inv (fun j δ G' => ∃ (x0 x2 x3 x4 x5 x6 x7 x8 x9 x10 x11 x12 x13 : Option D) (m : Nat), δ = [x0, some (.adr p), x2, x3, x4, x5, x6, x7, x8, x9, x10, x11, x12, x13] ∧ m ≤ 90 * j ∧ G' = updG G p (.pen m)) (n := 9) (rangeD 0 9) 0 _ _ rfl (fun j δ G1 d N hd hj hI hN => ?_) ⟨_, _, _, _, _, _, _, _, _, _, _, _, _, 0, rfl, by omega, rfl⟩ (fun δ G1 hI => q _)
    obtain ⟨x0, x2, x3, x4, x5, x6, x7, x8, x9, x10, x11, x12, x13, m, rfl, hm, rfl⟩ := hI
    -- many, is_so
    refine ⟨p, 9, m, rfl, updG_same, by decide, by decide, by omega, fun r r0 r1 => ?_⟩
    rw [updG_updG]
    obtain ⟨n, rfl⟩ := Int.eq_ofNat_of_zero_le r0
    have hn : n ≤ 8 := by omega
    clear r0 r1
    refine ⟨small1000 (by decide), p, _, m + 1, rfl, updG_same, by simp, by decide, by omega, fun so hso => ?_⟩
    rw [updG_updG]
    obtain ⟨b, rfl⟩ : ∃ b, so = .bl b := by
      simp only [List.mem_cons, List.not_mem_nil, or_false] at hso
      rcases hso with rfl | rfl <;> exact ⟨_, rfl⟩
    clear hso
    -- the form, the bound
    refine ⟨p, n, m + 2, rfl, updG_same, by omega, by omega, fun ns hns hs => ?_⟩
    rw [updG_updG]
    subst hns
    refine fun x nx => make_ok hn ⟨rfl, ?_⟩
    rw [updG_same, delG_updG nx]
    clear nx x
    -- its form, its strictness, its length
    refine ⟨_, _, dp_tupI ns, dp_tupI ns, shapedT ns, shapedT ns, ?_⟩
    rw [eqv_tI, decide_eq_true rfl]
    refine ⟨.bl b, .bool b, rfl, .bl b, rb1 b, rb2 b, rb3 b, rb4 b, .bl b, .bool b, rfl, .bl b, rb1 b, rb2 b, rb3 b, rb4 b, .str _, .str _, .str _, .str _, sh (shown_okB b), sh (shown_okB b), ?_⟩
    rw [eqv_str]
    have hn9 : ns.length ≤ 9 := by omega
    refine ⟨rfl, ns, b, rfl, ⟨by omega, by omega⟩, .int ns.length, .int ns.length, rfl, .int _, ri1 hn9, ri2, ri3, ri4 hn9, .int ns.length, .int ns.length, rfl, .int _, ri1 hn9, ri2, ri3, ri4 hn9, .str _, .str _, .str _, .str _, sh (shown_ok _ hn9), sh (shown_ok _ hn9), ?_⟩
    rw [eqv_str]
    -- is_false
    refine ⟨rfl, ns, b, rfl, by omega, _, .bool (b && noughtI ns), rfl, .bl _, rb1 _, rb2 _, rb3 _, rb4 _, ?_⟩
    have hz : ∀ (Q1 : QD) (G1 : Gm) (δ1 : SD), δ1[3]? = some (some (.int ns.length)) → δ1[4]? = some (some (.bl b)) → δ1[5]? = some (some (.tup (ns.map .int))) → Q1 (.bl (b && noughtI ns)) G1 →
        dAnd (dVar 4) (dOp eqD2 (dVar 5) (dOp mulD (dTup (dCons (dC (D.int 0)) dNil)) (dVar 3))) δ1 G1 Q1 := fun Q1 G1 δ1 e3 e4 e5 q1 => by
      show (match δ1[4]? with | some (some d) => _ | _ => _)
      rw [e4]
      cases b with
      | false => exact q1
      | true =>
        show (match δ1[5]? with | some (some d) => _ | _ => _)
        rw [e5]
        refine ⟨small1000 (by decide), ?_⟩
        show (match δ1[3]? with | some (some d) => _ | _ => _)
        rw [e3]
        refine ⟨⟨by simp, by omega, by omega, by show 1 ≤ 1000; decide⟩, ?_⟩
        show eqD2 _ (.tup (List.replicate ns.length [D.int 0]).flatten) _ _
        rw [zeros_map]
        refine ⟨_, _, dp_tupI ns, dp_tupI _, shapedT ns, shapedT _, ?_⟩
        rw [eqv_tI, ← nought_rep]
        exact q1
    refine hz _ _ [x0, some (.adr p), some d, some (.int ns.length), some (.bl b), some (.tup (ns.map .int)), some (bndD T.C_Bound ns b), x7, x8, x9, x10, x11, x12, x13] rfl rfl rfl ?_
    refine ⟨_, .bool (b && noughtI ns), rfl, .bl _, rb1 _, rb2 _, rb3 _, rb4 _, .str _, .str _, .str _, .str _, sh (shown_okB _), sh (shown_okB _), ?_⟩
    rw [eqv_str]
    clear hz
    -- four times spots
    refine ⟨⟨by decide, by decide⟩, ?_⟩
    generalize hM : m + 2 + 2 * ns.length = M
    have hM2 : M ≤ 90 * j + 18 := by omega
    refine for_inv (fun i δ G' => ∃ (y7 y8 y9 y10 : Option D), δ = [x0, some (.adr p), some d, some (.int ns.length), some (.bl b), some (.tup (ns.map .int)), some (bndD T.C_Bound ns b), y7, y8, y9, y10, x11, x12, x13] ∧ G' = updG G p (.pen (M + 2 * ns.length * i))) (n := 4) (rangeD 0 4) 0 _ _ rfl (fun i δ G1 e N2 he hi hI hN2 => ?_) ⟨_, _, _, _, rfl, rfl⟩ (fun δ G1 hI => ?_)
    · obtain ⟨y7, y8, y9, y10, rfl, rfl⟩ := hI
      have hMi : M + 2 * ns.length * i ≤ 90 * j + 66 := by
        have : 2 * ns.length * i ≤ 16 * 3 := Nat.mul_le_mul (by omega) (by omega)
        omega
      generalize hMM : M + 2 * ns.length * i = MM at hMi
      have el : (rangeD 0 ((ns.length : Nat) : Int).toNat).length = ns.length := by simp [rangeD]
      refine ⟨⟨by omega, by omega⟩, by rw [el]; exact small_size (by omega), ?_⟩
      refine lc_inv' (fun k acc G' => ∃ ms : List Int, acc = ms.map .int ∧ ms.length = k ∧ (∀ x ∈ ms, x.natAbs ≤ 10 ^ 30) ∧ G' = updG G p (.pen (MM + 2 * k))) (n := ns.length) _ [] 0 _ (by rw [Nat.zero_add]; exact el) (fun k acc G' y R hy hk hI hR => ?_) ⟨[], rfl, rfl, (fun _ h => (List.not_mem_nil h).elim), rfl⟩ (fun acc G' hI => ?_)
      · obtain ⟨ms, rfl, hml, hmb, rfl⟩ := hI
        refine ⟨⟨by decide, by decide, by decide⟩, p, 9, _, rfl, updG_same, by decide, by decide, by omega, fun r r0 r1 => ?_⟩
        rw [updG_updG]
        refine ⟨small1000 (show 6 ≤ 1000 by decide), p, _, _, rfl, updG_same, by simp, (by show 6 ≤ 1000; decide), by omega, fun x hx => ?_⟩
        rw [updG_updG]
        have : ∃ r : Int, x = .int r ∧ r.natAbs ≤ 10 ^ 30 := by
          simp only [List.mem_cons, List.not_mem_nil, or_false] at hx
          rcases hx with rfl | rfl | rfl | rfl | rfl | rfl
          · exact ⟨_, rfl, by decide⟩
          · exact ⟨_, rfl, by decide⟩
          · exact ⟨_, rfl, by decide⟩
          · exact ⟨_, rfl, by decide⟩
          · exact ⟨_, rfl, by decide +kernel⟩
          · exact ⟨_, rfl, by omega⟩
        obtain ⟨z, rfl, hz⟩ := this
        refine hR _ _ ⟨ms ++ [z], by rw [List.map_append]; rfl, by rw [List.length_append, hml]; rfl, fun x hx => ?_, by rw [show MM + 2 * (k + 1) = MM + 2 * k + 1 + 1 by omega]⟩
        rcases List.mem_append.mp hx with hx | hx
        · exact hmb x hx
        · rw [List.mem_singleton.mp hx]
          exact hz
      · obtain ⟨ms, rfl, hml, hmb, rfl⟩ := hI
        have hc := cmul_small hs hmb
        refine ⟨ns, ms, .lst (ms.map .int), rfl, rfl, by omega, hc, ?_⟩
        have hd : ∀ (Q1 : QD) (G1 : Gm) (δ1 : SD), δ1[4]? = some (some (.bl b)) → δ1[9]? = some (some (.int (dot ns ms))) → Q1 (.bl (holds b (dot ns ms))) G1 →
            dIf (dTest (dVar 4)) (dOp gtD (dVar 9) (dC (D.int 0))) (dOp geD (dVar 9) (dC (D.int 0))) δ1 G1 Q1 := fun Q1 G1 δ1 e4 e9 q1 => by
          show (match δ1[4]? with | some (some d) => _ | _ => _)
          rw [e4]
          cases b
          all_goals
            show (match δ1[9]? with | some (some d) => _ | _ => _)
            rw [e9]
            exact q1
        refine hd _ _ [x0, some (.adr p), some d, some (.int ns.length), some (.bl b), some (.tup (ns.map .int)), some (bndD T.C_Bound ns b), some e, some (.lst (ms.map .int)), some (.int (dot ns ms)), y10, x11, x12, x13] rfl rfl ?_
        clear hd
        generalize hh : holds b (dot ns ms) = c
        refine ⟨rfl, rfl, call_ok hn (.inr rfl) hml hc ?_⟩
        rw [hh]
        refine ⟨_, .bool c, rfl, .bl _, rb1 _, rb2 _, rb3 _, rb4 _, _, .bool c, rfl, .bl _, rb1 _, rb2 _, rb3 _, rb4 _, .str _, .str _, .str _, .str _, sh (shown_okB _), sh (shown_okB _), ?_⟩
        rw [eqv_str]
        refine ⟨rfl, rfl, rfl, call_ok hn (.inl rfl) hml hc ?_⟩
        rw [hh]
        refine ⟨_, .bool c, rfl, .bl _, rb1 _, rb2 _, rb3 _, rb4 _, _, .bool c, rfl, .bl _, rb1 _, rb2 _, rb3 _, rb4 _, .str _, .str _, .str _, .str _, sh (shown_okB _), sh (shown_okB _), ?_⟩
        rw [eqv_str]
        refine hN2 _ _ ⟨_, _, _, _, rfl, ?_⟩
        rw [show M + 2 * ns.length * (i + 1) = MM + 2 * ns.length by rw [← hMM, Nat.mul_add]; omega]
    obtain ⟨y7, y8, y9, y10, rfl, rfl⟩ := hI
    have hM3 : M + 2 * ns.length * 4 ≤ 90 * j + 82 := by omega
    generalize M + 2 * ns.length * 4 = MM at hM3
    clear hM hM2 hn9 M
    -- what the bound is near to
    refine fun x nx => make_ok hn ⟨rfl, ?_⟩
    rw [updG_same, delG_updG nx]
    clear nx x
    refine ⟨small1000 (show 3 ≤ 1000 by decide), fun a na => ?_⟩
    have hap : a ≠ p := fun e => by rw [e, updG_same] at na; cases na
    have h1 : Off T.C_Bound ns b (bndD T.C_Bound ns (!b)) := .inl ⟨ns, !b, rfl, by cases b <;> simp⟩
    have h2 : Off T.C_Bound ns b (.tup (ns.map .int)) := .inr (.inl ⟨_, rfl⟩)
    have h3 : Off T.C_Bound ns b .non := .inr (.inr rfl)
    have h4 : Off T.C_Bound ns b (bndD T.C_Bound (ns ++ [1]) b) := .inl ⟨_, b, rfl, by
      rw [decide_eq_false (show ¬ ns = ns ++ [1] from fun e => by simpa using congrArg List.length e)]
      rfl⟩
    show (match decide ((ns.length : Int) < 8) with | true => _ | false => _)
    by_cases h8 : (ns.length : Int) < 8
    case' pos =>
      rw [decide_eq_true h8]
      show (match lsM (.adr a) _ with | some _ => _ | none => _)
      rw [lsM_at updG_same]
      refine ⟨small1000 (show 1 ≤ 1000 by decide), small1000 (by rw [List.length_map]; show _ + 1 ≤ 1000; omega), ?_⟩
      rw [show ns.map D.int ++ [D.int 1] = (ns ++ [1]).map D.int by rw [List.map_append]; rfl]
      refine fun x nx => make_ok (by rw [List.length_append]; show _ + 1 ≤ 8; omega) ⟨rfl, ?_⟩
      rw [updG_same, delG_updG nx]
      clear nx x
      show (match lsM (.adr a) _ with | some (a, ds) => _ | none => _)
      rw [lsM_at updG_same]
      refine ⟨small_size (show 3 ≤ 1000 by decide), ?_⟩
      rw [updG_updG]
      obtain ⟨L, hL, hoff, hlen⟩ : ∃ L : List D, L = [.ins T.C_Bound [("form", .tup (ns.map .int)), ("is_strict", .bl (!b))], .tup (ns.map .int), .non] ++ [.ins T.C_Bound [("form", .tup ((ns ++ [1]).map .int)), ("is_strict", .bl b)]] ∧ (∀ y ∈ L, Off T.C_Bound ns b y) ∧ L.length ≤ 4 := ⟨_, rfl, fun y hy => by
        simp only [List.cons_append, List.nil_append, List.mem_cons, List.not_mem_nil, or_false] at hy
        rcases hy with rfl | rfl | rfl | rfl <;> first | exact h1 | exact h2 | exact h3 | exact h4, by show 4 ≤ 4; decide⟩
      rw [← hL]
    case' neg =>
      rw [decide_eq_false h8]
      obtain ⟨L, hL, hoff, hlen⟩ : ∃ L : List D, L = [.ins T.C_Bound [("form", .tup (ns.map .int)), ("is_strict", .bl (!b))], .tup (ns.map .int), .non] ∧ (∀ y ∈ L, Off T.C_Bound ns b y) ∧ L.length ≤ 4 := ⟨_, rfl, fun y hy => by
        simp only [List.mem_cons, List.not_mem_nil, or_false] at hy
        rcases hy with rfl | rfl | rfl <;> first | exact h1 | exact h2 | exact h3, by show 3 ≤ 4; decide⟩
      rw [← hL]
    all_goals
      clear h1 h2 h3 h4 h8 hL
      -- made by keywords
      refine ⟨rfl, rfl, fun x nx => make_ok hn ⟨rfl, ?_⟩⟩
      rw [updG_same, delG_updG nx]
      clear nx x
      refine eq_on ?_
      -- none of those near
      refine ⟨a, rfl, ?_⟩
      rw [updG_same, delG_updG na]
      refine ⟨small_size (by omega), lc_filt (fun _ => false) id L [] (fun y hy R hR => ?_) (fun y hy R z _ => by cases z) ?_⟩
      · rcases hoff y hy with ⟨ms, c, rfl, e⟩ | ⟨ds, rfl⟩ | rfl
        · refine ⟨rfl, ⟨.ref T.C_Bound, .ins rfl, by simp [PySem.W.notFirst]⟩, ns, b, _, rfl, .inl ⟨ms, c, rfl, ?_⟩⟩
          rw [e]
          refine ⟨rfl, ⟨.ref T.C_Bound, .ins rfl, by simp [PySem.W.notFirst]⟩, ns, b, _, rfl, .inl ⟨ms, c, rfl, ?_⟩⟩
          rw [e]
          exact hR
        · refine ⟨rfl, ⟨_, .ki rfl, T.nf_tuple_Bound⟩, ns, b, _, rfl, .inr ⟨_, .ki rfl, T.kn_tuple_Bound, ?_⟩⟩
          refine ⟨rfl, ⟨_, .ki rfl, T.nf_tuple_Bound⟩, ns, b, _, rfl, .inr ⟨_, .ki rfl, T.kn_tuple_Bound, ?_⟩⟩
          exact hR
        · refine ⟨rfl, ⟨_, .ki rfl, T.nf_NoneType_Bound⟩, ns, b, _, rfl, .inr ⟨_, .ki rfl, T.kn_NoneType_Bound, ?_⟩⟩
          refine ⟨rfl, ⟨_, .ki rfl, T.nf_NoneType_Bound⟩, ns, b, _, rfl, .inr ⟨_, .ki rfl, T.kn_NoneType_Bound, ?_⟩⟩
          exact hR
      rw [show [] ++ (L.filter fun _ => false).map id = [] by simp]
      refine ⟨small1000 (show 0 ≤ 1000 by decide), .list [], .list [], .lst .nil, .lst .nil, by decide +kernel, by decide +kernel, ?_⟩
      rw [show PyData.eqv (.list []) (.list []) = true by decide +kernel]
      -- the default; what is refused
      refine fun x nx => make_ok hn ⟨rfl, ?_⟩
      rw [updG_same, delG_updG nx]
      clear nx x
      refine fun x nx => make_ok hn ⟨rfl, ?_⟩
      rw [updG_same, delG_updG nx]
      clear nx x
      refine eq_on ?_
      show (match decide ((0 : Int) < (ns.length : Int)) with | true => _ | false => _)
      by_cases h0 : (0 : Int) < (ns.length : Int)
      · rw [decide_eq_true h0]
        refine ⟨p, ns, b, MM, ns.length, rfl, updG_same, rfl, by omega, hn, by omega, ?_⟩
        rw [updG_updG]
        exact hN _ _ ⟨_, _, _, _, _, _, _, _, _, _, _, _, _, _, rfl, by omega, rfl⟩
      · rw [decide_eq_false h0]
        exact hN _ _ ⟨_, _, _, _, _, _, _, _, _, _, _, _, _, _, rfl, by omega, rfl⟩
end

end JP
namespace JP
open PySem PySem.Spec PyProof.Rows L2
theorem kit_self {K : PySem.W.Frag} {C : Addr} : PySem.W.kitOne K (.ref C) (.ref C) = some true := by
  unfold PySem.W.kitOne
  simp
theorem kit_no {K : PySem.W.Frag} {C : Addr} {t : String} {b : Bool} (h : PySem.W.subIn K (.ref C) (.type t) = some b) (hm : PySem.W.kitMeta t = true) : PySem.W.kitOne K (.ref C) (.type t) = some b := by
  unfold PySem.W.kitOne
  rw [if_neg (by simp)]
  show (if PySem.W.kitMeta t = true then PySem.W.subIn K (.ref C) (.type t) else none) = some b
  rw [if_pos hm, h]
theorem exm_of2 {K : PySem.W.Frag} {A C : Addr} {b : Bool} (h1 : PySem.W.subIn K (.ref C) (.type "BaseException") = some true) (h2 : PySem.W.isClsIn K C = true) (h3 : PySem.W.typeIn K (.ref C) = some (.type "type")) (h4 : PySem.W.subIn K (.ref A) (.ref C) = some b) :
    PySem.W.exmOne K (.ref A) (.ref C) = some b := by
  have e1 : (PySem.W.subIn K (.ref C) (.type "BaseException") == some true) = true := by rw [h1] <;> rfl
  have e2 : ((PySem.W.clsIn K C).isSome && PySem.W.typeIn K (.ref C) == some (.type "type")) = true := by
    have h2' : (PySem.W.clsIn K C).isSome = true := h2
    rw [h2', h3] <;> rfl
  show (if (PySem.W.subIn K (.ref C) (.type "BaseException") == some true) = true then (if ((PySem.W.clsIn K C).isSome && PySem.W.typeIn K (.ref C) == some (.type "type")) = true then PySem.W.subIn K (.ref A) (.ref C) else none) else none) = some b
  rw [if_pos e1, if_pos e2]
  exact h4
abbrev RY : PySem.W.OpenRow := PySem.W.OpenLaw.row PySem.Challenge.rw_rowcounts_k25_bounds_made_and_asked
def bsY (K : PySem.W.Frag) : List Bool := [
    decide (PySem.W.nsIn K mainGlobals "Bound" = some (some (.ref (He.ga K "Bound")))),
    decide (PySem.W.plainGet K (He.ga K "Bound") Str.empty = true),
    decide (PySem.W.hasDictIn K (He.ga K "Bound") = true),
    decide (PySem.W.plainOver K (He.ga K "Bound") = true),
    decide (PySem.W.findIn K (.ref (He.ga K "Bound")) "__setattr__" = some (some (.builtin "object.__setattr__"))),
    decide (PySem.W.keepIn K (.ref (He.ga K "Bound")) = true),
    decide (PySem.W.findIn K (.ref (He.ga K "Bound")) "form" = some none),
    decide (PySem.W.findIn K (.ref (He.ga K "Bound")) "is_strict" = some none),
    decide (PySem.W.findIn K (.ref (He.ga K "Bound")) "__ne__" = some (some (.builtin "object.__ne__"))),
    decide (PySem.W.mroIn K (He.ga K "Bound") (.type "object") = some true),
    decide (PySem.W.findIn K (.ref (He.ga K "Bound")) "__class__" = some (some (.builtin "object.__class__"))),
    decide (PySem.W.findIn K (.ref (He.ga K "Bound")) "__init__" = some (some (.ref (nsA K (He.ga K "Bound") "__init__")))),
    decide (PySem.W.isFn K (.ref (nsA K (He.ga K "Bound") "__init__")) = true),
    decide (PySem.W.makesIn K (He.ga K "Bound") = true),
    decide (PySem.W.findIn K (.ref (He.ga K "Bound")) "__call__" = some (some (.ref (nsA K (He.ga K "Bound") "__call__")))),
    decide (PySem.W.isFn K (.ref (nsA K (He.ga K "Bound") "__call__")) = true),
    decide (PySem.W.findIn K (.ref (He.ga K "Bound")) "__len__" = some (some (.ref (nsA K (He.ga K "Bound") "__len__")))),
    decide (PySem.W.isFn K (.ref (nsA K (He.ga K "Bound") "__len__")) = true),
    decide (PySem.W.findIn K (.ref (He.ga K "Bound")) "__eq__" = some (some (.ref (nsA K (He.ga K "Bound") "__eq__")))),
    decide (PySem.W.isFn K (.ref (nsA K (He.ga K "Bound") "__eq__")) = true),
    decide (PySem.W.subIn K (.ref (He.ga K "Bound")) (.type "str") = some false),
    decide (PySem.W.specialIn K (.builtin "object.__class__") "__get__" = some (some (.builtin "getset_descriptor.__get__"))),
    decide (PySem.W.takesIn K (.builtin "object.__class__") = some true),
    decide (PySem.W.nsIn K mainGlobals "BadForm" = some (some (.ref (He.ga K "BadForm")))),
    decide (oexB K (He.ga K "BadForm") = true),
    decide (PySem.W.findIn K (.ref (He.ga K "BadForm")) "__setattr__" = some (some (.builtin "object.__setattr__"))),
    decide (PySem.W.subIn K (.ref (He.ga K "BadForm")) (.type "BaseException") = some true),
    decide (PySem.W.typeIn K (.ref (He.ga K "BadForm")) = some (.type "type")),
    decide (PySem.W.keepIn K (.ref (He.ga K "BadForm")) = true),
    decide (PySem.W.findIn K (.ref (He.ga K "BadForm")) "__init__" = some (some (.ref (nsA K (He.ga K "BadForm") "__init__")))),
    decide (PySem.W.typeIn K (.ref (nsA K (He.ga K "BadForm") "__init__")) = some (.type "function")),
    decide (PySem.W.findIn K (.ref (He.ga K "BadForm")) "part" = some none),
    decide (PySem.W.findIn K (.ref (He.ga K "BadForm")) "__getattribute__" = some (some (.builtin "BaseException.__getattribute__"))),
    decide (PySem.W.findIn K (.ref (He.ga K "BadForm")) "__getattr__" = some none),
    decide (PySem.W.hasDictIn K (He.ga K "BadForm") = true),
    decide (PySem.W.findIn K (.ref (He.ga K "BadForm")) "__class__" = some (some (.builtin "object.__class__"))),
    decide (PySem.W.mroIn K (He.ga K "BadForm") (.type "object") = some true),
    decide (PySem.W.nsIn K mainGlobals "CountError" = some (some (.ref (He.ga K "CountError")))),
    decide (PySem.W.subIn K (.ref (He.ga K "BadForm")) (.ref (He.ga K "CountError")) = some true),
    decide (PySem.W.isClsIn K (He.ga K "CountError") = true),
    decide (PySem.W.subIn K (.ref (He.ga K "CountError")) (.type "BaseException") = some true),
    decide (PySem.W.typeIn K (.ref (He.ga K "CountError")) = some (.type "type")),
    decide (PySem.W.subIn K (.ref (He.ga K "Bound")) (.type "int") = some false),
    decide (PySem.W.subIn K (.ref (He.ga K "Bound")) (.type "bool") = some false),
    decide (PySem.W.subIn K (.ref (He.ga K "Bound")) (.type "list") = some false),
    decide (PySem.W.subIn K (.ref (He.ga K "Bound")) (.type "tuple") = some false),
    decide (PySem.W.subIn K (.ref (He.ga K "Bound")) (.type "dict") = some false),
    decide (PySem.W.subIn K (.ref (He.ga K "Bound")) (.type "set") = some false),
    decide (PySem.W.subIn K (.ref (He.ga K "Bound")) (.type "bytes") = some false),
    decide (PySem.W.subIn K (.ref (He.ga K "Bound")) (.type "float") = some false),
    decide (PySem.W.findIn K (.ref (He.ga K "Bound")) "is_false" = some (some (.ref (nsA K (He.ga K "Bound") "is_false")))),
    decide (PySem.W.specialIn K (.ref (nsA K (He.ga K "Bound") "is_false")) "__get__" = some (some (.builtin "property.__get__"))),
    decide (PySem.W.takesIn K (.ref (nsA K (He.ga K "Bound") "is_false")) = some true),
    decide (PySem.W.recIn K (nsA K (He.ga K "Bound") "is_false") "property" = some (.ref (fstA K "property" (nsA K (He.ga K "Bound") "is_false")) :: (rstA K "property" (nsA K (He.ga K "Bound") "is_false")))),
    decide (PySem.W.fnIn K (nsA K (He.ga K "Bound") "__call__") = true),
    decide (PySem.W.notFirst K (He.ga K "Bound") (.type "tuple") = true),
    decide (PySem.W.kitOne K (.type "tuple") (.ref (He.ga K "Bound")) = some false),
    decide (PySem.W.notFirst K (He.ga K "Bound") (.type "NoneType") = true),
    decide (PySem.W.kitOne K (.type "NoneType") (.ref (He.ga K "Bound")) = some false),
    decide (PySem.W.nsIn K mainGlobals "is_integer" = some (some (.ref (He.ga K "is_integer")))),
    decide (PySem.W.nsIn K mainGlobals "own_copy" = some (some (.ref (He.ga K "own_copy")))),
    decide (PySem.W.nsIn K mainGlobals "is_form" = some (some (.ref (He.ga K "is_form")))),
    decide (PySem.W.nsIn K mainGlobals "is_nought" = some (some (.ref (He.ga K "is_nought")))),
    decide (PySem.W.nsIn K mainGlobals "check_numbers_of" = some (some (.ref (He.ga K "check_numbers_of")))),
    decide (PySem.W.nsIn K mainGlobals "value_of" = some (some (.ref (He.ga K "value_of")))),
    decide (PySem.W.nsIn K mainGlobals "_law_pen" = some (some (.ref (He.ga K "_law_pen")))),
    decide (PySem.W.nsIn K mainGlobals "_law_draw" = some (some (.ref (He.ga K "_law_draw")))),
    decide (PySem.W.nsIn K mainGlobals "_law_pick" = some (some (.ref (He.ga K "_law_pick")))),
    decide (PySem.W.nsIn K mainGlobals "_law_factor" = some (some (.ref (He.ga K "_law_factor")))),
    decide (PySem.W.nsIn K mainGlobals "_law_form" = some (some (.ref (He.ga K "_law_form")))),
    decide (PySem.W.nsIn K mainGlobals "_law_value" = some (some (.ref (He.ga K "_law_value")))),
    decide (PySem.W.nsIn K mainGlobals "_law_heard" = some (some (.ref (He.ga K "_law_heard")))),
    decide (PySem.W.nsIn K mainGlobals "_law_refused_right" = some (some (.ref (He.ga K "_law_refused_right")))),
    decide (PySem.W.nsIn K mainGlobals "law" = some (some (.ref (He.ga K "law")))),
    decide (PySem.W.nsIn K mainGlobals "abs" = some none),
    decide (PySem.W.nsIn K mainGlobals "all" = some none),
    decide (PySem.W.nsIn K mainGlobals "bool" = some none),
    decide (PySem.W.nsIn K mainGlobals "dict" = some none),
    decide (PySem.W.nsIn K mainGlobals "int" = some none),
    decide (PySem.W.nsIn K mainGlobals "isinstance" = some none),
    decide (PySem.W.nsIn K mainGlobals "len" = some none),
    decide (PySem.W.nsIn K mainGlobals "list" = some none),
    decide (PySem.W.nsIn K mainGlobals "range" = some none),
    decide (PySem.W.nsIn K mainGlobals "repr" = some none),
    decide (PySem.W.nsIn K mainGlobals "sum" = some none),
    decide (PySem.W.nsIn K mainGlobals "tuple" = some none),
    decide (PySem.W.nsIn K mainGlobals "zip" = some none),
    decide ((He.Fa.int "MOST_FACTORS" 8).ok K = true)]
def fnsY : List DefY := [
    ⟨fun K => (He.ga K "is_integer"), "is_integer", "is_integer", sis_integer, []⟩,
    ⟨fun K => (He.ga K "own_copy"), "own_copy", "own_copy", sown_copy, []⟩,
    ⟨fun K => (He.ga K "is_form"), "is_form", "is_form", sis_form, []⟩,
    ⟨fun K => (He.ga K "is_nought"), "is_nought", "is_nought", sis_nought, []⟩,
    ⟨fun K => (He.ga K "check_numbers_of"), "check_numbers_of", "check_numbers_of", scheck_numbers_of, []⟩,
    ⟨fun K => (He.ga K "value_of"), "value_of", "value_of", svalue_of, []⟩,
    ⟨fun K => (He.ga K "_law_pen"), "_law_pen", "_law_pen", s_law_pen, []⟩,
    ⟨fun K => (He.ga K "_law_draw"), "_law_draw", "_law_draw", s_law_draw, []⟩,
    ⟨fun K => (He.ga K "_law_pick"), "_law_pick", "_law_pick", s_law_pick, []⟩,
    ⟨fun K => (He.ga K "_law_factor"), "_law_factor", "_law_factor", s_law_factor, []⟩,
    ⟨fun K => (He.ga K "_law_form"), "_law_form", "_law_form", s_law_form, []⟩,
    ⟨fun K => (He.ga K "_law_value"), "_law_value", "_law_value", s_law_value, []⟩,
    ⟨fun K => (He.ga K "_law_heard"), "_law_heard", "_law_heard", s_law_heard, []⟩,
    ⟨fun K => (He.ga K "_law_refused_right"), "_law_refused_right", "_law_refused_right", s_law_refused_right, []⟩,
    ⟨fun K => (He.ga K "law"), "law", "law", slaw, []⟩,
    ⟨fun K => (nsA K (He.ga K "Bound") "__init__"), "__init__", "Bound.__init__", sBound___init__, [.bl false]⟩,
    ⟨fun K => (fstA K "property" (nsA K (He.ga K "Bound") "is_false")), "is_false", "Bound.is_false", sBound_is_false, []⟩,
    ⟨fun K => (nsA K (He.ga K "Bound") "__call__"), "__call__", "Bound.__call__", sBound___call__, []⟩,
    ⟨fun K => (nsA K (He.ga K "Bound") "__len__"), "__len__", "Bound.__len__", sBound___len__, []⟩,
    ⟨fun K => (nsA K (He.ga K "Bound") "__eq__"), "__eq__", "Bound.__eq__", sBound___eq__, []⟩,
    ⟨fun K => (nsA K (He.ga K "BadForm") "__init__"), "__init__", "BadForm.__init__", sBadForm___init__, []⟩]
def tfY : List (PySem.W.Frag → Addr) := [fun K => (He.ga K "_law_refused_right")]
def looseY : List Str := (["is_integer", "own_copy", "CountError", "BadInput", "Refused", "BadBounds", "BadForm", "BadNumber", "BadQuestion", "BadRule", "BadTest", "BadText"] : List Str) ++ (["NoTable", "TooMany", "MOST_DIGITS", "words_of", "word_at", "expect", "expect_end", "is_integer_word", "MOST_FACTORS", "Bound", "is_form", "is_nought"] : List Str) ++ (["check_numbers_of", "value_of", "sum_form", "times_form", "minus_form", "_law_pen", "_law_draw", "_law_pick", "_law_factor", "_law_form", "_law_value", "_law_heard"] : List Str) ++ (["_law_refused_right"] : List Str)
def tsY : List TabY := []
abbrev hkY : PySem.W.Hook := hookY 6 bsY fnsY tfY tsY
def obY (s : PySem.W.SharedT) : ObY := lookY 6 bsY fnsY tfY tsY (HandSHeadRun.getT s)
theorem obY_eq (s : PySem.W.SharedT) : obY s = hkY.obs s.abs := lookY_eq (HandSHeadRun.getT_eq s)
set_option maxHeartbeats 0 in
theorem runY (w : World) : HandSHeadRun.RunEq RY (PySem.W.view RY.prog [43]) hkY obY 12000 looseY w := by
  intro os
  kernel_rfl
theorem all_y {P : Program} {w : World} {K : PySem.W.Frag} {h : Heap} {mg : Str → Option Value} {fa : Addr} (G : h.Ns mainGlobals mg) (hfa : mg "law" = some (.ref fa)) (c : SaysY bsY fnsY tfY tsY w h K) :
    ∃ (fd : FuncData) (cs : List (Addr × Addr)) (sp : Sp), (∀ p ∈ cs, h.get? p.2 = some { cls := .none, data := .fields #[] }) ∧ (∀ p ∈ cs, K.lookup p.2 = none) ∧ (∀ p ∈ cs, PySem.W.CodeHd h p.1 p.2) ∧ (∀ (s : Shared) (u : Value), BindsTo s fd ⟨[u], []⟩ [("_law_script", u)]) ∧ (∀ (H : Hp) (a : Addr) (ns : List Int), ns.length ≤ 63 → OnlyT (cs.map Prod.snd) H → SqL K H a (ns.map V.int) → sp [.ref a] H (fun v _ => v = .bl true) fun _ _ _ => False) ∧
      ∀ base : Heap, K.In base → base.Ns mainGlobals mg → (∀ p ∈ cs, LamX.TabB base mg p.1 p.2) → GOk P w K mg base 24 fa fd ["_law_script"] sp := by
  have X := c.inK
  have gBound : PySem.W.nsIn K mainGlobals "Bound" = some (some (.ref (He.ga K "Bound"))) := c.fact 0
  have pgBound : PySem.W.plainGet K (He.ga K "Bound") Str.empty = true := c.fact 1
  have hdBound : PySem.W.hasDictIn K (He.ga K "Bound") = true := c.fact 2
  have poBound : PySem.W.plainOver K (He.ga K "Bound") = true := c.fact 3
  have saBound : PySem.W.findIn K (.ref (He.ga K "Bound")) "__setattr__" = some (some (.builtin "object.__setattr__")) := c.fact 4
  have kcBound : PySem.W.keepIn K (.ref (He.ga K "Bound")) = true := c.fact 5
  have naBound_form : PySem.W.findIn K (.ref (He.ga K "Bound")) "form" = some none := c.fact 6
  have naBound_is_strict : PySem.W.findIn K (.ref (He.ga K "Bound")) "is_strict" = some none := c.fact 7
  have neBound : PySem.W.findIn K (.ref (He.ga K "Bound")) "__ne__" = some (some (.builtin "object.__ne__")) := c.fact 8
  have mrBound : PySem.W.mroIn K (He.ga K "Bound") (.type "object") = some true := c.fact 9
  have caBound : PySem.W.findIn K (.ref (He.ga K "Bound")) "__class__" = some (some (.builtin "object.__class__")) := c.fact 10
  have atBound___init__ : PySem.W.findIn K (.ref (He.ga K "Bound")) "__init__" = some (some (.ref (nsA K (He.ga K "Bound") "__init__"))) := c.fact 11
  have fnBound___init__ : PySem.W.isFn K (.ref (nsA K (He.ga K "Bound") "__init__")) = true := c.fact 12
  have mkBound : PySem.W.makesIn K (He.ga K "Bound") = true := c.fact 13
  have atBound___call__ : PySem.W.findIn K (.ref (He.ga K "Bound")) "__call__" = some (some (.ref (nsA K (He.ga K "Bound") "__call__"))) := c.fact 14
  have fnBound___call__ : PySem.W.isFn K (.ref (nsA K (He.ga K "Bound") "__call__")) = true := c.fact 15
  have atBound___len__ : PySem.W.findIn K (.ref (He.ga K "Bound")) "__len__" = some (some (.ref (nsA K (He.ga K "Bound") "__len__"))) := c.fact 16
  have fnBound___len__ : PySem.W.isFn K (.ref (nsA K (He.ga K "Bound") "__len__")) = true := c.fact 17
  have atBound___eq__ : PySem.W.findIn K (.ref (He.ga K "Bound")) "__eq__" = some (some (.ref (nsA K (He.ga K "Bound") "__eq__"))) := c.fact 18
  have fnBound___eq__ : PySem.W.isFn K (.ref (nsA K (He.ga K "Bound") "__eq__")) = true := c.fact 19
  have ksBound : PySem.W.subIn K (.ref (He.ga K "Bound")) (.type "str") = some false := c.fact 20
  have sg : PySem.W.specialIn K (.builtin "object.__class__") "__get__" = some (some (.builtin "getset_descriptor.__get__")) := c.fact 21
  have tk : PySem.W.takesIn K (.builtin "object.__class__") = some true := c.fact 22
  have gBadForm : PySem.W.nsIn K mainGlobals "BadForm" = some (some (.ref (He.ga K "BadForm"))) := c.fact 23
  have xoBadForm : oexB K (He.ga K "BadForm") = true := c.fact 24
  have saBadForm : PySem.W.findIn K (.ref (He.ga K "BadForm")) "__setattr__" = some (some (.builtin "object.__setattr__")) := c.fact 25
  have eCBadForm : PySem.W.subIn K (.ref (He.ga K "BadForm")) (.type "BaseException") = some true := c.fact 26
  have tCBadForm : PySem.W.typeIn K (.ref (He.ga K "BadForm")) = some (.type "type") := c.fact 27
  have kCBadForm : PySem.W.keepIn K (.ref (He.ga K "BadForm")) = true := c.fact 28
  have atBadForm___init__ : PySem.W.findIn K (.ref (He.ga K "BadForm")) "__init__" = some (some (.ref (nsA K (He.ga K "BadForm") "__init__"))) := c.fact 29
  have tiBadForm : PySem.W.typeIn K (.ref (nsA K (He.ga K "BadForm") "__init__")) = some (.type "function") := c.fact 30
  have noBadForm_part : PySem.W.findIn K (.ref (He.ga K "BadForm")) "part" = some none := c.fact 31
  have gaBadForm : PySem.W.findIn K (.ref (He.ga K "BadForm")) "__getattribute__" = some (some (.builtin "BaseException.__getattribute__")) := c.fact 32
  have ggBadForm : PySem.W.findIn K (.ref (He.ga K "BadForm")) "__getattr__" = some none := c.fact 33
  have hdBadForm : PySem.W.hasDictIn K (He.ga K "BadForm") = true := c.fact 34
  have caBadForm : PySem.W.findIn K (.ref (He.ga K "BadForm")) "__class__" = some (some (.builtin "object.__class__")) := c.fact 35
  have mrBadForm : PySem.W.mroIn K (He.ga K "BadForm") (.type "object") = some true := c.fact 36
  have gCountError : PySem.W.nsIn K mainGlobals "CountError" = some (some (.ref (He.ga K "CountError"))) := c.fact 37
  have emBadForm_CountError : PySem.W.subIn K (.ref (He.ga K "BadForm")) (.ref (He.ga K "CountError")) = some true := c.fact 38
  have ekBadForm_CountError : PySem.W.isClsIn K (He.ga K "CountError") = true := c.fact 39
  have ebBadForm_CountError : PySem.W.subIn K (.ref (He.ga K "CountError")) (.type "BaseException") = some true := c.fact 40
  have etBadForm_CountError : PySem.W.typeIn K (.ref (He.ga K "CountError")) = some (.type "type") := c.fact 41
  have ktint_Bound : PySem.W.subIn K (.ref (He.ga K "Bound")) (.type "int") = some false := c.fact 42
  have ktbool_Bound : PySem.W.subIn K (.ref (He.ga K "Bound")) (.type "bool") = some false := c.fact 43
  have ktlist_Bound : PySem.W.subIn K (.ref (He.ga K "Bound")) (.type "list") = some false := c.fact 44
  have kttuple_Bound : PySem.W.subIn K (.ref (He.ga K "Bound")) (.type "tuple") = some false := c.fact 45
  have ktdict_Bound : PySem.W.subIn K (.ref (He.ga K "Bound")) (.type "dict") = some false := c.fact 46
  have ktset_Bound : PySem.W.subIn K (.ref (He.ga K "Bound")) (.type "set") = some false := c.fact 47
  have ktbytes_Bound : PySem.W.subIn K (.ref (He.ga K "Bound")) (.type "bytes") = some false := c.fact 48
  have ktfloat_Bound : PySem.W.subIn K (.ref (He.ga K "Bound")) (.type "float") = some false := c.fact 49
  have patBound_is_false : PySem.W.findIn K (.ref (He.ga K "Bound")) "is_false" = some (some (.ref (nsA K (He.ga K "Bound") "is_false"))) := c.fact 50
  have pgeBound_is_false : PySem.W.specialIn K (.ref (nsA K (He.ga K "Bound") "is_false")) "__get__" = some (some (.builtin "property.__get__")) := c.fact 51
  have ptkBound_is_false : PySem.W.takesIn K (.ref (nsA K (He.ga K "Bound") "is_false")) = some true := c.fact 52
  have prcBound_is_false : PySem.W.recIn K (nsA K (He.ga K "Bound") "is_false") "property" = some (.ref (fstA K "property" (nsA K (He.ga K "Bound") "is_false")) :: (rstA K "property" (nsA K (He.ga K "Bound") "is_false"))) := c.fact 53
  have fiBound___call__ : PySem.W.fnIn K (nsA K (He.ga K "Bound") "__call__") = true := c.fact 54
  have nftuple_Bound : PySem.W.notFirst K (He.ga K "Bound") (.type "tuple") = true := c.fact 55
  have kntuple_Bound : PySem.W.kitOne K (.type "tuple") (.ref (He.ga K "Bound")) = some false := c.fact 56
  have nfNoneType_Bound : PySem.W.notFirst K (He.ga K "Bound") (.type "NoneType") = true := c.fact 57
  have knNoneType_Bound : PySem.W.kitOne K (.type "NoneType") (.ref (He.ga K "Bound")) = some false := c.fact 58
  have ais_integer : PySem.W.nsIn K mainGlobals "is_integer" = some (some (.ref (He.ga K "is_integer"))) := c.fact 59
  have aown_copy : PySem.W.nsIn K mainGlobals "own_copy" = some (some (.ref (He.ga K "own_copy"))) := c.fact 60
  have ais_form : PySem.W.nsIn K mainGlobals "is_form" = some (some (.ref (He.ga K "is_form"))) := c.fact 61
  have ais_nought : PySem.W.nsIn K mainGlobals "is_nought" = some (some (.ref (He.ga K "is_nought"))) := c.fact 62
  have acheck_numbers_of : PySem.W.nsIn K mainGlobals "check_numbers_of" = some (some (.ref (He.ga K "check_numbers_of"))) := c.fact 63
  have avalue_of : PySem.W.nsIn K mainGlobals "value_of" = some (some (.ref (He.ga K "value_of"))) := c.fact 64
  have a_law_pen : PySem.W.nsIn K mainGlobals "_law_pen" = some (some (.ref (He.ga K "_law_pen"))) := c.fact 65
  have a_law_draw : PySem.W.nsIn K mainGlobals "_law_draw" = some (some (.ref (He.ga K "_law_draw"))) := c.fact 66
  have a_law_pick : PySem.W.nsIn K mainGlobals "_law_pick" = some (some (.ref (He.ga K "_law_pick"))) := c.fact 67
  have a_law_factor : PySem.W.nsIn K mainGlobals "_law_factor" = some (some (.ref (He.ga K "_law_factor"))) := c.fact 68
  have a_law_form : PySem.W.nsIn K mainGlobals "_law_form" = some (some (.ref (He.ga K "_law_form"))) := c.fact 69
  have a_law_value : PySem.W.nsIn K mainGlobals "_law_value" = some (some (.ref (He.ga K "_law_value"))) := c.fact 70
  have a_law_heard : PySem.W.nsIn K mainGlobals "_law_heard" = some (some (.ref (He.ga K "_law_heard"))) := c.fact 71
  have a_law_refused_right : PySem.W.nsIn K mainGlobals "_law_refused_right" = some (some (.ref (He.ga K "_law_refused_right"))) := c.fact 72
  have alaw : PySem.W.nsIn K mainGlobals "law" = some (some (.ref (He.ga K "law"))) := c.fact 73
  have z_abs : PySem.W.nsIn K mainGlobals "abs" = some none := c.fact 74
  have z_all : PySem.W.nsIn K mainGlobals "all" = some none := c.fact 75
  have z_bool : PySem.W.nsIn K mainGlobals "bool" = some none := c.fact 76
  have z_dict : PySem.W.nsIn K mainGlobals "dict" = some none := c.fact 77
  have z_int : PySem.W.nsIn K mainGlobals "int" = some none := c.fact 78
  have z_isinstance : PySem.W.nsIn K mainGlobals "isinstance" = some none := c.fact 79
  have z_len : PySem.W.nsIn K mainGlobals "len" = some none := c.fact 80
  have z_list : PySem.W.nsIn K mainGlobals "list" = some none := c.fact 81
  have z_range : PySem.W.nsIn K mainGlobals "range" = some none := c.fact 82
  have z_repr : PySem.W.nsIn K mainGlobals "repr" = some none := c.fact 83
  have z_sum : PySem.W.nsIn K mainGlobals "sum" = some none := c.fact 84
  have z_tuple : PySem.W.nsIn K mainGlobals "tuple" = some none := c.fact 85
  have z_zip : PySem.W.nsIn K mainGlobals "zip" = some none := c.fact 86
  have i_MOST_FACTORS : (He.Fa.int "MOST_FACTORS" 8).ok K = true := c.fact 87
  obtain ⟨tc_MOST_FACTORS, ci_MOST_FACTORS⟩ := He.int_ok X G i_MOST_FACTORS
  obtain ⟨oc0, od0, sl0, dV0, kV0, dc0, pm0, an0, cd0, ct0, l0, c0, k0, v0⟩ := c.fn_at 0 rfl
  obtain rfl := dfl_none v0
  have kis_integer : PySem.W.keepIn K (.ref (He.ga K "is_integer")) = true := k0
  obtain ⟨oc1, od1, sl1, dV1, kV1, dc1, pm1, an1, cd1, ct1, l1, c1, k1, v1⟩ := c.fn_at 1 rfl
  obtain rfl := dfl_none v1
  have kown_copy : PySem.W.keepIn K (.ref (He.ga K "own_copy")) = true := k1
  obtain ⟨oc2, od2, sl2, dV2, kV2, dc2, pm2, an2, cd2, ct2, l2, c2, k2, v2⟩ := c.fn_at 2 rfl
  obtain rfl := dfl_none v2
  have kis_form : PySem.W.keepIn K (.ref (He.ga K "is_form")) = true := k2
  obtain ⟨oc3, od3, sl3, dV3, kV3, dc3, pm3, an3, cd3, ct3, l3, c3, k3, v3⟩ := c.fn_at 3 rfl
  obtain rfl := dfl_none v3
  have kis_nought : PySem.W.keepIn K (.ref (He.ga K "is_nought")) = true := k3
  obtain ⟨oc4, od4, sl4, dV4, kV4, dc4, pm4, an4, cd4, ct4, l4, c4, k4, v4⟩ := c.fn_at 4 rfl
  obtain rfl := dfl_none v4
  have kcheck_numbers_of : PySem.W.keepIn K (.ref (He.ga K "check_numbers_of")) = true := k4
  obtain ⟨oc5, od5, sl5, dV5, kV5, dc5, pm5, an5, cd5, ct5, l5, c5, k5, v5⟩ := c.fn_at 5 rfl
  obtain rfl := dfl_none v5
  have kvalue_of : PySem.W.keepIn K (.ref (He.ga K "value_of")) = true := k5
  obtain ⟨oc6, od6, sl6, dV6, kV6, dc6, pm6, an6, cd6, ct6, l6, c6, k6, v6⟩ := c.fn_at 6 rfl
  obtain rfl := dfl_none v6
  have k_law_pen : PySem.W.keepIn K (.ref (He.ga K "_law_pen")) = true := k6
  obtain ⟨oc7, od7, sl7, dV7, kV7, dc7, pm7, an7, cd7, ct7, l7, c7, k7, v7⟩ := c.fn_at 7 rfl
  obtain rfl := dfl_none v7
  have k_law_draw : PySem.W.keepIn K (.ref (He.ga K "_law_draw")) = true := k7
  obtain ⟨oc8, od8, sl8, dV8, kV8, dc8, pm8, an8, cd8, ct8, l8, c8, k8, v8⟩ := c.fn_at 8 rfl
  obtain rfl := dfl_none v8
  have k_law_pick : PySem.W.keepIn K (.ref (He.ga K "_law_pick")) = true := k8
  obtain ⟨oc9, od9, sl9, dV9, kV9, dc9, pm9, an9, cd9, ct9, l9, c9, k9, v9⟩ := c.fn_at 9 rfl
  obtain rfl := dfl_none v9
  have k_law_factor : PySem.W.keepIn K (.ref (He.ga K "_law_factor")) = true := k9
  obtain ⟨oc10, od10, sl10, dV10, kV10, dc10, pm10, an10, cd10, ct10, l10, c10, k10, v10⟩ := c.fn_at 10 rfl
  obtain rfl := dfl_none v10
  have k_law_form : PySem.W.keepIn K (.ref (He.ga K "_law_form")) = true := k10
  obtain ⟨oc11, od11, sl11, dV11, kV11, dc11, pm11, an11, cd11, ct11, l11, c11, k11, v11⟩ := c.fn_at 11 rfl
  obtain rfl := dfl_none v11
  have k_law_value : PySem.W.keepIn K (.ref (He.ga K "_law_value")) = true := k11
  obtain ⟨oc12, od12, sl12, dV12, kV12, dc12, pm12, an12, cd12, ct12, l12, c12, k12, v12⟩ := c.fn_at 12 rfl
  obtain rfl := dfl_none v12
  have k_law_heard : PySem.W.keepIn K (.ref (He.ga K "_law_heard")) = true := k12
  obtain ⟨oc13, od13, sl13, dV13, kV13, dc13, pm13, an13, cd13, ct13, l13, c13, k13, v13⟩ := c.fn_at 13 rfl
  obtain rfl := dfl_none v13
  have k_law_refused_right : PySem.W.keepIn K (.ref (He.ga K "_law_refused_right")) = true := k13
  obtain ⟨oc14, od14, sl14, dV14, kV14, dc14, pm14, an14, cd14, ct14, l14, c14, k14, v14⟩ := c.fn_at 14 rfl
  obtain rfl := dfl_none v14
  have klaw : PySem.W.keepIn K (.ref (He.ga K "law")) = true := k14
  obtain ⟨oc15, od15, sl15, dV15, kV15, dc15, pm15, an15, cd15, ct15, l15, c15, k15, v15⟩ := c.fn_at 15 rfl
  have kBound___init__ : PySem.W.keepIn K (.ref (nsA K (He.ga K "Bound") "__init__")) = true := k15
  have FD15 : FunD K "__init__" "Bound.__init__" (defArgs sBound___init__) (defBody sBound___init__) (defScope sBound___init__) [.bl false] [] (nsA K (He.ga K "Bound") "__init__") (PySem.W.fnOf "__init__" "Bound.__init__" (defArgs sBound___init__) (defBody sBound___init__) (defScope sBound___init__) dV15 kV15 dc15 pm15 an15 cd15 ct15) := ⟨⟨oc15, od15, dV15, kV15, dc15, pm15, an15, cd15, ct15, sl15, rfl, l15, c15, v15, .inl rfl⟩, k15⟩
  have bA15 : Binds K (PySem.W.fnOf "__init__" "Bound.__init__" (defArgs sBound___init__) (defBody sBound___init__) (defScope sBound___init__) dV15 kV15 dc15 pm15 an15 cd15 ct15) ["self", "form", "is_strict"] [] := by { obtain ⟨ds, hv, hb⟩ := FunD.binds1 FD15 3 1 (by simp) rfl (ps := ["self", "form", "is_strict"]) (fun T kV doc pm an cdv ct us its h1 h2 => by { match us, its, h1, h2 with | [_, _, _], [_], _, _ => exact ⟨_, rfl, rfl⟩ }); cases hv; exact hb }
  have bD15 : Binds K (PySem.W.fnOf "__init__" "Bound.__init__" (defArgs sBound___init__) (defBody sBound___init__) (defScope sBound___init__) dV15 kV15 dc15 pm15 an15 cd15 ct15) ["self", "form", "is_strict"] [.bool false] := by { obtain ⟨ds, hv, hb⟩ := FunD.binds1 FD15 2 0 (by simp) rfl (ps := ["self", "form", "is_strict"]) (fun T kV doc pm an cdv ct us its h1 h2 => by { match us, its, h1, h2 with | [_, _], [_], _, _ => exact ⟨_, rfl, rfl⟩ }); cases hv with | cons h t => cases t; cases h; exact hb }
  obtain ⟨oc16, od16, sl16, dV16, kV16, dc16, pm16, an16, cd16, ct16, l16, c16, k16, v16⟩ := c.fn_at 16 rfl
  obtain rfl := dfl_none v16
  have kBound_is_false : PySem.W.keepIn K (.ref (fstA K "property" (nsA K (He.ga K "Bound") "is_false"))) = true := k16
  obtain ⟨oc17, od17, sl17, dV17, kV17, dc17, pm17, an17, cd17, ct17, l17, c17, k17, v17⟩ := c.fn_at 17 rfl
  obtain rfl := dfl_none v17
  have kBound___call__ : PySem.W.keepIn K (.ref (nsA K (He.ga K "Bound") "__call__")) = true := k17
  obtain ⟨oc18, od18, sl18, dV18, kV18, dc18, pm18, an18, cd18, ct18, l18, c18, k18, v18⟩ := c.fn_at 18 rfl
  obtain rfl := dfl_none v18
  have kBound___len__ : PySem.W.keepIn K (.ref (nsA K (He.ga K "Bound") "__len__")) = true := k18
  obtain ⟨oc19, od19, sl19, dV19, kV19, dc19, pm19, an19, cd19, ct19, l19, c19, k19, v19⟩ := c.fn_at 19 rfl
  obtain rfl := dfl_none v19
  have kBound___eq__ : PySem.W.keepIn K (.ref (nsA K (He.ga K "Bound") "__eq__")) = true := k19
  obtain ⟨oc20, od20, sl20, dV20, kV20, dc20, pm20, an20, cd20, ct20, l20, c20, k20, v20⟩ := c.fn_at 20 rfl
  obtain rfl := dfl_none v20
  have kBadForm___init__ : PySem.W.keepIn K (.ref (nsA K (He.ga K "BadForm") "__init__")) = true := k20
  have kn15_mb_Bound_0 : KBn K (PySem.W.fnOf "__init__" "Bound.__init__" (defArgs sBound___init__) (defBody sBound___init__) (defScope sBound___init__) dV15 kV15 dc15 pm15 an15 cd15 ct15) ["self", "form", "is_strict"] 2 ["is_strict"] (gPerm 2 1 [0, 1, 2]) (gPerm 2 1 [0, 1, 2]) := by { obtain ⟨its, hb⟩ := FunD.kbindsD FD15 2 ["is_strict"] (fun {α} us its ws => gPerm 2 1 [0, 1, 2] us ws) (by simp) (fun r1 _ r2 => gPerm_rel r1 r2) (fun T kV doc pm an cdv ct us its ws h1 h2 h3 => by { match us, its, ws, h1, h2, h3 with | [_, _], [_], [_], _, _, _ => exact ⟨_, rfl, by kernel_rfl⟩ }); exact hb }
  have kn15_mb_Bound_1 : KBn K (PySem.W.fnOf "__init__" "Bound.__init__" (defArgs sBound___init__) (defBody sBound___init__) (defScope sBound___init__) dV15 kV15 dc15 pm15 an15 cd15 ct15) ["self", "form", "is_strict"] 1 ["is_strict", "form"] (gPerm 1 2 [0, 2, 1]) (gPerm 1 2 [0, 2, 1]) := by { obtain ⟨its, hb⟩ := FunD.kbindsD FD15 1 ["is_strict", "form"] (fun {α} us its ws => gPerm 1 2 [0, 2, 1] us ws) (by simp) (fun r1 _ r2 => gPerm_rel r1 r2) (fun T kV doc pm an cdv ct us its ws h1 h2 h3 => by { match us, its, ws, h1, h2, h3 with | [_], [_], [_, _], _, _, _ => exact ⟨_, rfl, by kernel_rfl⟩ }); exact hb }
  let T : Top K mg := {
    C_Bound := (He.ga K "Bound"),
    g_Bound := PySem.W.mg_of X G gBound,
    cl_Bound := ⟨pgBound, hdBound, poBound, saBound⟩,
    kc_Bound := kcBound,
    na_Bound_form := naBound_form,
    na_Bound_is_strict := naBound_is_strict,
    ne_Bound := neBound,
    mr_Bound := mrBound,
    ca_Bound := caBound,
    om_Bound___init__ := ⟨atBound___init__, fnBound___init__⟩,
    mk_Bound := ⟨mkBound, atBound___init__, fnBound___init__, kcBound⟩,
    om_Bound___call__ := ⟨atBound___call__, fnBound___call__⟩,
    om_Bound___len__ := ⟨atBound___len__, fnBound___len__⟩,
    om_Bound___eq__ := ⟨atBound___eq__, fnBound___eq__⟩,
    ki_Bound := kit_self,
    ks_Bound := kit_no ksBound (by decide +kernel),
    sg := sg,
    tk := tk,
    C_BadForm := (He.ga K "BadForm"),
    g_BadForm := PySem.W.mg_of X G gBadForm,
    ox_BadForm := ⟨oexB_cls xoBadForm, saBadForm, eCBadForm, tCBadForm, kCBadForm⟩,
    ic_BadForm := atBadForm___init__,
    ti_BadForm := tiBadForm,
    no_BadForm_part := noBadForm_part,
    xf_BadForm := ⟨gaBadForm, ggBadForm, eCBadForm, hdBadForm⟩,
    ki_BadForm := kit_self,
    ex_BadForm := ⟨gaBadForm, ggBadForm, eCBadForm, hdBadForm, caBadForm, sg, tk, mrBadForm⟩,
    C_CountError := (He.ga K "CountError"),
    g_CountError := PySem.W.mg_of X G gCountError,
    em_BadForm_CountError := exm_of2 ebBadForm_CountError ekBadForm_CountError etBadForm_CountError emBadForm_CountError,
    gc_Bound := ⟨⟨pgBound, hdBound, poBound, saBound⟩, caBound, sg, tk, mrBound, gc_kt (kit_no ktint_Bound (by decide +kernel)) (kit_no ksBound (by decide +kernel)) (kit_no ktbool_Bound (by decide +kernel)) (kit_no ktlist_Bound (by decide +kernel)) (kit_no kttuple_Bound (by decide +kernel)) (kit_no ktdict_Bound (by decide +kernel)) (kit_no ktset_Bound (by decide +kernel)) (kit_no ktbytes_Bound (by decide +kernel)) (kit_no ktfloat_Bound (by decide +kernel))⟩,
    me_Bound___init__ := ⟨atBound___init__, fnBound___init__, kBound___init__⟩,
    pa_Bound_is_false := (nsA K (He.ga K "Bound") "is_false"),
    pr_Bound_is_false := ⟨patBound_is_false, pgeBound_is_false, ptkBound_is_false, ⟨_, prcBound_is_false⟩⟩,
    oc_Bound___call__ := ⟨atBound___call__, fnBound___call__, fiBound___call__⟩,
    me_Bound___len__ := ⟨atBound___len__, fnBound___len__, kBound___len__⟩,
    me_Bound___eq__ := ⟨atBound___eq__, fnBound___eq__, kBound___eq__⟩,
    nf_tuple_Bound := nftuple_Bound,
    kn_tuple_Bound := kntuple_Bound,
    nf_NoneType_Bound := nfNoneType_Bound,
    kn_NoneType_Bound := knNoneType_Bound,
    z_abs := PySem.W.mg_none_of X G z_abs,
    z_all := PySem.W.mg_none_of X G z_all,
    z_bool := PySem.W.mg_none_of X G z_bool,
    z_dict := PySem.W.mg_none_of X G z_dict,
    z_int := PySem.W.mg_none_of X G z_int,
    z_isinstance := PySem.W.mg_none_of X G z_isinstance,
    z_len := PySem.W.mg_none_of X G z_len,
    z_list := PySem.W.mg_none_of X G z_list,
    z_range := PySem.W.mg_none_of X G z_range,
    z_repr := PySem.W.mg_none_of X G z_repr,
    z_sum := PySem.W.mg_none_of X G z_sum,
    z_tuple := PySem.W.mg_none_of X G z_tuple,
    z_zip := PySem.W.mg_none_of X G z_zip,
    t_MOST_FACTORS := tc_MOST_FACTORS,
    c_MOST_FACTORS := ci_MOST_FACTORS,
    a_is_integer := (He.ga K "is_integer"),
    d_is_integer := (PySem.W.fnOf "is_integer" "is_integer" (defArgs sis_integer) (defBody sis_integer) (defScope sis_integer) .none kV0 dc0 pm0 an0 cd0 ct0),
    F_is_integer := fun_mk (st := sis_integer) l0 c0 k0,
    b_is_integer := (fun_mk (st := sis_integer) l0 c0 k0).binds (ps := ["value"]) fun _ _ _ _ _ _ us hl => match us, hl with | [_], _ => rfl,
    g_is_integer := PySem.W.mg_of X G ais_integer,
    a_own_copy := (He.ga K "own_copy"),
    d_own_copy := (PySem.W.fnOf "own_copy" "own_copy" (defArgs sown_copy) (defBody sown_copy) (defScope sown_copy) .none kV1 dc1 pm1 an1 cd1 ct1),
    F_own_copy := fun_mk (st := sown_copy) l1 c1 k1,
    b_own_copy := (fun_mk (st := sown_copy) l1 c1 k1).binds (ps := ["value"]) fun _ _ _ _ _ _ us hl => match us, hl with | [_], _ => rfl,
    g_own_copy := PySem.W.mg_of X G aown_copy,
    a_is_form := (He.ga K "is_form"),
    d_is_form := (PySem.W.fnOf "is_form" "is_form" (defArgs sis_form) (defBody sis_form) (defScope sis_form) .none kV2 dc2 pm2 an2 cd2 ct2),
    F_is_form := fun_mk (st := sis_form) l2 c2 k2,
    b_is_form := (fun_mk (st := sis_form) l2 c2 k2).binds (ps := ["value"]) fun _ _ _ _ _ _ us hl => match us, hl with | [_], _ => rfl,
    g_is_form := PySem.W.mg_of X G ais_form,
    a_is_nought := (He.ga K "is_nought"),
    d_is_nought := (PySem.W.fnOf "is_nought" "is_nought" (defArgs sis_nought) (defBody sis_nought) (defScope sis_nought) .none kV3 dc3 pm3 an3 cd3 ct3),
    F_is_nought := fun_mk (st := sis_nought) l3 c3 k3,
    b_is_nought := (fun_mk (st := sis_nought) l3 c3 k3).binds (ps := ["form"]) fun _ _ _ _ _ _ us hl => match us, hl with | [_], _ => rfl,
    g_is_nought := PySem.W.mg_of X G ais_nought,
    a_check_numbers_of := (He.ga K "check_numbers_of"),
    d_check_numbers_of := (PySem.W.fnOf "check_numbers_of" "check_numbers_of" (defArgs scheck_numbers_of) (defBody scheck_numbers_of) (defScope scheck_numbers_of) .none kV4 dc4 pm4 an4 cd4 ct4),
    F_check_numbers_of := fun_mk (st := scheck_numbers_of) l4 c4 k4,
    b_check_numbers_of := (fun_mk (st := scheck_numbers_of) l4 c4 k4).binds (ps := ["numbers", "many"]) fun _ _ _ _ _ _ us hl => match us, hl with | [_, _], _ => rfl,
    g_check_numbers_of := PySem.W.mg_of X G acheck_numbers_of,
    a_value_of := (He.ga K "value_of"),
    d_value_of := (PySem.W.fnOf "value_of" "value_of" (defArgs svalue_of) (defBody svalue_of) (defScope svalue_of) .none kV5 dc5 pm5 an5 cd5 ct5),
    F_value_of := fun_mk (st := svalue_of) l5 c5 k5,
    b_value_of := (fun_mk (st := svalue_of) l5 c5 k5).binds (ps := ["form", "numbers"]) fun _ _ _ _ _ _ us hl => match us, hl with | [_, _], _ => rfl,
    g_value_of := PySem.W.mg_of X G avalue_of,
    a__law_pen := (He.ga K "_law_pen"),
    d__law_pen := (PySem.W.fnOf "_law_pen" "_law_pen" (defArgs s_law_pen) (defBody s_law_pen) (defScope s_law_pen) .none kV6 dc6 pm6 an6 cd6 ct6),
    F__law_pen := fun_mk (st := s_law_pen) l6 c6 k6,
    b__law_pen := (fun_mk (st := s_law_pen) l6 c6 k6).binds (ps := ["_law_script"]) fun _ _ _ _ _ _ us hl => match us, hl with | [_], _ => rfl,
    g__law_pen := PySem.W.mg_of X G a_law_pen,
    a__law_draw := (He.ga K "_law_draw"),
    d__law_draw := (PySem.W.fnOf "_law_draw" "_law_draw" (defArgs s_law_draw) (defBody s_law_draw) (defScope s_law_draw) .none kV7 dc7 pm7 an7 cd7 ct7),
    F__law_draw := fun_mk (st := s_law_draw) l7 c7 k7,
    b__law_draw := (fun_mk (st := s_law_draw) l7 c7 k7).binds (ps := ["_law_pen_here", "_law_many"]) fun _ _ _ _ _ _ us hl => match us, hl with | [_, _], _ => rfl,
    g__law_draw := PySem.W.mg_of X G a_law_draw,
    a__law_pick := (He.ga K "_law_pick"),
    d__law_pick := (PySem.W.fnOf "_law_pick" "_law_pick" (defArgs s_law_pick) (defBody s_law_pick) (defScope s_law_pick) .none kV8 dc8 pm8 an8 cd8 ct8),
    F__law_pick := fun_mk (st := s_law_pick) l8 c8 k8,
    b__law_pick := (fun_mk (st := s_law_pick) l8 c8 k8).binds (ps := ["_law_pen_here", "_law_some"]) fun _ _ _ _ _ _ us hl => match us, hl with | [_, _], _ => rfl,
    g__law_pick := PySem.W.mg_of X G a_law_pick,
    a__law_factor := (He.ga K "_law_factor"),
    d__law_factor := (PySem.W.fnOf "_law_factor" "_law_factor" (defArgs s_law_factor) (defBody s_law_factor) (defScope s_law_factor) .none kV9 dc9 pm9 an9 cd9 ct9),
    F__law_factor := fun_mk (st := s_law_factor) l9 c9 k9,
    b__law_factor := (fun_mk (st := s_law_factor) l9 c9 k9).binds (ps := ["_law_pen_here"]) fun _ _ _ _ _ _ us hl => match us, hl with | [_], _ => rfl,
    g__law_factor := PySem.W.mg_of X G a_law_factor,
    a__law_form := (He.ga K "_law_form"),
    d__law_form := (PySem.W.fnOf "_law_form" "_law_form" (defArgs s_law_form) (defBody s_law_form) (defScope s_law_form) .none kV10 dc10 pm10 an10 cd10 ct10),
    F__law_form := fun_mk (st := s_law_form) l10 c10 k10,
    b__law_form := (fun_mk (st := s_law_form) l10 c10 k10).binds (ps := ["_law_pen_here", "_law_many"]) fun _ _ _ _ _ _ us hl => match us, hl with | [_, _], _ => rfl,
    g__law_form := PySem.W.mg_of X G a_law_form,
    a__law_value := (He.ga K "_law_value"),
    d__law_value := (PySem.W.fnOf "_law_value" "_law_value" (defArgs s_law_value) (defBody s_law_value) (defScope s_law_value) .none kV11 dc11 pm11 an11 cd11 ct11),
    F__law_value := fun_mk (st := s_law_value) l11 c11 k11,
    b__law_value := (fun_mk (st := s_law_value) l11 c11 k11).binds (ps := ["_law_form_here", "_law_spots"]) fun _ _ _ _ _ _ us hl => match us, hl with | [_, _], _ => rfl,
    g__law_value := PySem.W.mg_of X G a_law_value,
    a__law_heard := (He.ga K "_law_heard"),
    d__law_heard := (PySem.W.fnOf "_law_heard" "_law_heard" (defArgs s_law_heard) (defBody s_law_heard) (defScope s_law_heard) .none kV12 dc12 pm12 an12 cd12 ct12),
    F__law_heard := fun_mk (st := s_law_heard) l12 c12 k12,
    b__law_heard := (fun_mk (st := s_law_heard) l12 c12 k12).binds (ps := ["_law_call_so"]) fun _ _ _ _ _ _ us hl => match us, hl with | [_], _ => rfl,
    g__law_heard := PySem.W.mg_of X G a_law_heard,
    a__law_refused_right := (He.ga K "_law_refused_right"),
    d__law_refused_right := (PySem.W.fnOf "_law_refused_right" "_law_refused_right" (defArgs s_law_refused_right) (defBody s_law_refused_right) (defScope s_law_refused_right) .none kV13 dc13 pm13 an13 cd13 ct13),
    F__law_refused_right := fun_mk (st := s_law_refused_right) l13 c13 k13,
    b__law_refused_right := (fun_mk (st := s_law_refused_right) l13 c13 k13).binds (ps := ["_law_pen_here", "_law_bound", "_law_many"]) fun _ _ _ _ _ _ us hl => match us, hl with | [_, _, _], _ => rfl,
    g__law_refused_right := PySem.W.mg_of X G a_law_refused_right,
    p__law_refused_right := (tabAt K (He.ga K "_law_refused_right")).2,
    c__law_refused_right := codeAt K (He.ga K "_law_refused_right"),
    hc__law_refused_right := codeAt_is l13 c13,
    a_law := (He.ga K "law"),
    d_law := (PySem.W.fnOf "law" "law" (defArgs slaw) (defBody slaw) (defScope slaw) .none kV14 dc14 pm14 an14 cd14 ct14),
    F_law := fun_mk (st := slaw) l14 c14 k14,
    b_law := (fun_mk (st := slaw) l14 c14 k14).binds (ps := ["_law_script"]) fun _ _ _ _ _ _ us hl => match us, hl with | [_], _ => rfl,
    g_law := PySem.W.mg_of X G alaw,
    c_law := codeAt K (He.ga K "law"),
    hc_law := codeAt_is l14 c14,
    a_Bound___init__ := (nsA K (He.ga K "Bound") "__init__"),
    d_Bound___init__ := (PySem.W.fnOf "__init__" "Bound.__init__" (defArgs sBound___init__) (defBody sBound___init__) (defScope sBound___init__) dV15 kV15 dc15 pm15 an15 cd15 ct15),
    F_Bound___init__ := FD15,
    b_Bound___init__ := bA15,
    bd_Bound___init__ := bD15,
    a_Bound_is_false := (fstA K "property" (nsA K (He.ga K "Bound") "is_false")),
    d_Bound_is_false := (PySem.W.fnOf "is_false" "Bound.is_false" (defArgs sBound_is_false) (defBody sBound_is_false) (defScope sBound_is_false) .none kV16 dc16 pm16 an16 cd16 ct16),
    F_Bound_is_false := fun_mk (st := sBound_is_false) l16 c16 k16,
    b_Bound_is_false := (fun_mk (st := sBound_is_false) l16 c16 k16).binds (ps := ["self"]) fun _ _ _ _ _ _ us hl => match us, hl with | [_], _ => rfl,
    a_Bound___call__ := (nsA K (He.ga K "Bound") "__call__"),
    d_Bound___call__ := (PySem.W.fnOf "__call__" "Bound.__call__" (defArgs sBound___call__) (defBody sBound___call__) (defScope sBound___call__) .none kV17 dc17 pm17 an17 cd17 ct17),
    F_Bound___call__ := fun_mk (st := sBound___call__) l17 c17 k17,
    b_Bound___call__ := (fun_mk (st := sBound___call__) l17 c17 k17).binds (ps := ["self", "numbers"]) fun _ _ _ _ _ _ us hl => match us, hl with | [_, _], _ => rfl,
    a_Bound___len__ := (nsA K (He.ga K "Bound") "__len__"),
    d_Bound___len__ := (PySem.W.fnOf "__len__" "Bound.__len__" (defArgs sBound___len__) (defBody sBound___len__) (defScope sBound___len__) .none kV18 dc18 pm18 an18 cd18 ct18),
    F_Bound___len__ := fun_mk (st := sBound___len__) l18 c18 k18,
    b_Bound___len__ := (fun_mk (st := sBound___len__) l18 c18 k18).binds (ps := ["self"]) fun _ _ _ _ _ _ us hl => match us, hl with | [_], _ => rfl,
    a_Bound___eq__ := (nsA K (He.ga K "Bound") "__eq__"),
    d_Bound___eq__ := (PySem.W.fnOf "__eq__" "Bound.__eq__" (defArgs sBound___eq__) (defBody sBound___eq__) (defScope sBound___eq__) .none kV19 dc19 pm19 an19 cd19 ct19),
    F_Bound___eq__ := fun_mk (st := sBound___eq__) l19 c19 k19,
    b_Bound___eq__ := (fun_mk (st := sBound___eq__) l19 c19 k19).binds (ps := ["self", "other"]) fun _ _ _ _ _ _ us hl => match us, hl with | [_, _], _ => rfl,
    a_BadForm___init__ := (nsA K (He.ga K "BadForm") "__init__"),
    d_BadForm___init__ := (PySem.W.fnOf "__init__" "BadForm.__init__" (defArgs sBadForm___init__) (defBody sBadForm___init__) (defScope sBadForm___init__) .none kV20 dc20 pm20 an20 cd20 ct20),
    F_BadForm___init__ := fun_mk (st := sBadForm___init__) l20 c20 k20,
    b_BadForm___init__ := (fun_mk (st := sBadForm___init__) l20 c20 k20).binds (ps := ["self", "part"]) fun _ _ _ _ _ _ us hl => match us, hl with | [_, _], _ => rfl,
    mb_Bound_0 := kn15_mb_Bound_0,
    mb_Bound_1 := kn15_mb_Bound_1,
    kb_Bound___call___0 := { to := fun s us ws _ h1 h2 => by { match us, ws, h1, h2 with | [_], [_], _, _ => exact .of_eq rfl }, rel := fun r q => gPerm_rel r q },
    e_law := fun s v => .of_eq rfl }
  have e : Value.ref fa = .ref T.a_law := Option.some.inj (hfa.symm.trans T.g_law)
  injection e with e
  subst e
  refine ⟨T.d_law, tfY.map (fun f => tabAt K (f K)), lowSpT K (TbL T) lawD, c.mts, c.outs, c.hds, T.e_law, fun H a ns hl o hS => law_satT ?_ hl o hS, fun base _ _ tb => dok_law (P := P) (w := w) T ⟨tb (T.c__law_refused_right, T.p__law_refused_right) ?_⟩⟩
  · intro p hp
    simp only [TbL, List.mem_cons, List.not_mem_nil, or_false] at hp
    subst hp
    exact List.mem_map.mpr ⟨tabAt K (He.ga K "_law_refused_right"), List.mem_map.mpr ⟨_, List.mem_cons_self, rfl⟩, rfl⟩
  · exact List.mem_map.mpr ⟨_, List.mem_cons_self, rfl⟩
end JP
open PySem PySem.W PySem.Calls PyProof.Rows
set_option maxRecDepth 100000 in
set_option maxHeartbeats 0 in
theorem PySem.Challenge.cw_rowcounts_k25_bounds_made_and_asked_holds : PySem.Challenge.rw_rowcounts_k25_bounds_made_and_asked.Holds := by
  w_on; o_law
  refine HandSHeadRun.head_any (r := (OpenLaw.row PySem.Challenge.rw_rowcounts_k25_bounds_made_and_asked)) (q := view (OpenLaw.row PySem.Challenge.rw_rowcounts_k25_bounds_made_and_asked).prog [43]) (H := JP.hkY) (ob := JP.obY) (M := 12000) (loose := JP.looseY) (d := HandSHeadRun.topDef (OpenLaw.row PySem.Challenge.rw_rowcounts_k25_bounds_made_and_asked).prog 43) (kwd := []) JP.obY_eq
    (by kernel_rfl) (fun s => by kernel_rfl) JP.runY (by kernel_rfl) (by kernel_rfl) (by kernel_rfl) (by rfl) (by first | assumption | decide +kernel) (by decide +kernel) ⟨rfl, rfl, rfl, rfl, rfl, by decide +kernel⟩ ?hw ?hc
  case hw => w_witness2
  case hc =>
    refine JP.walk_gt (l := PySem.Challenge.rw_rowcounts_k25_bounds_made_and_asked) (n := 63) (k := 24) (x := "_law_script") rfl (by decide) (by kernel_rfl) ⟨rfl, by decide, by decide⟩ ?F
    intro w mg fa h Y G hmg0
    obtain ⟨K, c⟩ := Y
    have hmg : mg ("law" : PySem.Str) = some (.ref fa) := by
      have e : (HandSHeadRun.topDef (OpenLaw.row PySem.Challenge.rw_rowcounts_k25_bounds_made_and_asked).prog 43).name = ("law" : PySem.Str) := by kernel_rfl
      rw [← e]
      exact hmg0
    obtain ⟨fd, cs, sp, h1, h2, h3, h4, h5, h6⟩ := JP.all_y (P := (PySem.Challenge.rw_rowcounts_k25_bounds_made_and_asked).prog) (w := w) G hmg c
    exact ⟨K, fd, cs, sp, c.inK, h1, h2, h3, h4, h5, h6⟩
