import PyProof.Rows.All
import Wide.All
import OpenK.AllK
import Wide.FinOn
import HandS.ForMost
import HandS.IsInst
import PyProof.ReprRoads
import PyProof.ReprText
import HandS.Wide
import HandS.Walk
import HandS.Zip
import KE.KEqSeq
import HandS.TupMul
import KE.GoesEnum
import KE.GoesMore
import KE.KEqDeep
import OpenK.KMore
import HandS.Exc
import HandS.ExcInit
import HandS.ExcField
import HandS.ExcIs
import HandS.TryOnly
import HandS.ClsMeth
import HandS.Defaults
import HandS.MakeKw
import HandS.Text
import HandS.StrMore
import HandS.Flow
import HandS.SlotsOwn
import HandS.ExcOwn
import KE.KCallOwn
import KE.KExcIs
import KE.KFmtOwn
import PyProof.InstEq
import HandS.Star
import HandS.WordsExc
import KE.IntTextLaws
import HandS.Lambda
import KE.GoesZip
import HandS.Property
import HandS.MakeKwOnly
import KE.KOpsOwn
import KE.KNestM
import HandS.EndTab
import HandS.HeadWalk
import HandS.Head2
import HandS.Head3
import HandS.HeadHook3
import HandS.HeadHook4
import HandS.DictComp
import HandS.Gcd
import PyProof.ListStr
import PyProof.Rows.StrComp
import HandS.RaiseMore
import HandS.Style
import HandS.ExcValue
import PyProof.RowDictHeap
import PySem.Challenge.RW_rowcounts_k01_errors_and_their_fields
set_option Elab.async false
set_option linter.all false
set_option maxRecDepth 100000
set_option maxHeartbeats 4000000
namespace JP
open PySem PySem.Spec PyProof.Rows L2

/-! ## defs that are only called where no repr is going on -/
/-- a promise that is kept wherever no guard is on the stack -/
structure GOk (P : Program) (w : World) (K : PySem.W.Frag) (mg : Str → Option Value) (base : Heap) (k : Nat) (f : Addr) (fd : FuncData) (ps : List Str) (sp : Sp) : Prop where
  arity : ∀ vs H Q E, sp vs H Q E → vs.length = ps.length
  kept : ∀ (A : Around) (outer : List Env) (s : Shared) (H : Hp) (args : Args) (us : List Value) (vs : List V) (Q : VK) (E : XK), A.guards = some [] → Room k A →
    Env0 P w K mg base A outer s H → BindsTo s fd args (ps.zip us) → Vals vs us → sp vs H Q E → codeAny (model P w) A (.call (.ref f) args) (CR CX0 outer P w H s Q E) s

section
variable {P : Program} {w : World} {K : PySem.W.Frag} {mg : Str → Option Value} {base : Heap} {j k : Nat} {f : Addr} {fd : FuncData} {ps N : List Str} {sp : Sp}
theorem GOk.ofFn (F : FnOk P w K mg base CX0 k f fd ps sp) : GOk P w K mg base k f fd ps sp :=
  ⟨F.len, fun A outer s H args us vs Q E _ hr e0 hb hv hs => F.run A outer s H args us vs Q E hr e0 hb hv hs⟩
theorem GOk.mono (F : GOk P w K mg base j f fd ps sp) (h : j ≤ k) : GOk P w K mg base k f fd ps sp :=
  ⟨F.arity, fun A outer s H args us vs Q E g hr e0 hb hv hs => F.kept A outer s H args us vs Q E g (hr.mono h) e0 hb hv hs⟩

/-- a def of the text by its body; g: no guard around the body -/
theorem gok {x qual : Str} {st : Stmt} (F : Fun K x qual st f fd) (S : FnScope N ps (defScope st)) (len : ∀ vs H Q E, sp vs H Q E → vs.length = ps.length)
    (body : ∀ (cdv : Value) (A : Around) (outer : List Env) (s : Shared) (H : Hp) (vs : List V) (Q : VK) (E : XK), A.guards = some [] →
      Room k (A.deeper (envOfC qual (defScope st) s.heap.objs.size f cdv)) → sp vs H Q E →
      ∃ t, PSs (cxOf CX0 P w K mg base N qual (defScope st) f cdv A outer s H E).nox (defBody st) t ∧ t { nx := fun _ H' => Q .non H', rt := Q } (start N vs) H) :
    GOk P w K mg base (k + 1) f fd ps sp := by
  obtain ⟨oc, od, kV, doc, pm, an, cdv, ct, osl, rfl, lk, hcd⟩ := F.ex
  constructor
  · exact len
  intro A outer s H args us vs Q E g hr e0 hb r hs
  have hl := len vs H Q E hs
  have inK : K.In s.heap := e0.mod.kin.keeps fun b o q => (e0.bs b o q).1
  have nl : s.heap.NoLimit := e0.mod.nolimit.keeps fun b o q => (e0.bs b o q).1
  have kinds : ∀ y ∈ ps.zip us, (defScope st).names.lookup y.1 = some .local ∨ ((defScope st).names.lookup y.1 = some .cell ∧ ((cellsFrom (s.heap.objs.size + 1) (defScope st).names []).lookup y.1).isSome = true) := by
    intro y hy
    obtain ⟨n, v⟩ := y
    cases S.par n (List.of_mem_zip hy).1 with
    | inl q => exact Or.inl q
    | inr q => exact Or.inr (And.intro q (PySem.W.cellsFrom_some _ _ _ (Or.inl q)))
  apply codeAny_call_function hr.depth (inK _ _ lk) rfl S.co S.gen rfl (PySem.W.codeRec_of inK hcd)
  apply hb
  apply wpAny_newFunctionEnv_cells S.kind kinds
  intro env he s1 x1
  subst he
  refine And.intro (nl.keeps x1.toInCall.keep) (codeAny_func ?_)
  obtain ⟨t, ht, hq⟩ := body cdv A outer s H vs Q E g (hr.deeper _) hs
  have I : Inv (cxOf CX0 P w K mg base N qual (defScope st) f cdv A outer s H E) [] (start N vs) H s1 := inv_start S hr.hd e0 hl r x1
  apply wpAny_mono (ht.nox.run [] s1 (start N vs) H _ I hq)
  · intro fl s' q
    match fl, q with
    | .ret u, ⟨v, _, H', J, rv, z⟩ => exact ⟨v, H', J.os, J.bare, J.base, J.hok, rv, z⟩
    | .next, ⟨_, H', J, z⟩ => exact ⟨.non, H', J.os, J.bare, J.base, J.hok, rfl, z⟩
    | .brk, ⟨_, _, _, z⟩ => exact z.elim
    | .cont, ⟨_, _, _, z⟩ => exact z.elim
  · exact fun _ _ q => q
end

section
variable {X : Cx} {k : Nat} {f : Addr} {fd : FuncData} {ps : List Str} {sp : Sp} {x : Str} {p pos : Pos} {e : Expr} {es : List Expr} {t : TA} {dvs : List V} {ds : List Value} {E : XK}
theorem run_g {pins : List (Addr × Obj)} {σ : L2.St} {H : Hp} {s : Shared} {Q : VK} {us : List Value} {vs : List V} (F : GOk X.prog X.w X.K X.mg X.base k f fd ps sp) (g : X.A.guards = some []) (hr : Room k X.A)
    (hb : Binds X.K fd ps ds) (hd : Vals dvs ds) (I : Inv X pins σ H s) (r : Vals vs us) (h : sp (vs ++ dvs) H Q E) : wpAny (model X.prog X.w) X.A (call (.ref f) us) (EP X pins σ Q) X.xe s := by
  have r' := Vals.append r hd
  have n : (us ++ ds).length = ps.length := r'.length.symm.trans (F.arity _ _ _ _ h)
  apply wpAny_call
  apply codeAny_mono (F.kept X.A X.stack s H ⟨us, []⟩ (us ++ ds) (vs ++ dvs) Q E g hr I.env0 (hb s us I.kIn n) r' h)
  intro res s' q
  match res, q with
  | .ok (.ret u), q => exact I.after q
  | .ok .next, q => exact q.elim
  | .ok .brk, q => exact q.elim
  | .ok .cont, q => exact q.elim
  | .error _, q => exact False.elim q
/-- a call of such a def, by position -/
theorem pe_g (F : GOk X.prog X.w X.K X.mg X.base k f fd ps sp) (g : X.A.guards = some []) (hr : Room k X.A) (hg : Gl X x) (hm : X.mg x = some (.ref f)) (hk : PySem.W.keepIn X.K (.ref f) = true)
    (hb : Binds X.K fd ps ds) (hd : Vals dvs ds) (ha : PA X (e :: es) t) (hdb : (x == ("__debug__" : Str)) = false := by decide)
    (he : starEach (e :: es) X.env = (false, eval e X.env) :: starEach es X.env := by rfl) (hpl : (backTo pos (starEach es X.env)).any (·.1) = false := by rfl) :
    PE X (.Call (.Name x p) (e :: es) [] pos) (tCall sp dvs E t) := by
  constructor
  intro pins s σ H Q I h
  apply wpAny_Call_Name_kw
  apply ld_glob I hg hm _ hdb
  exact PySem.W.callWith_K (h₀ := X.base) I.ok.mod.kin hk (thn (ha.run pos pins s σ H _ I h) fun us s1 ⟨vs, H1, I1, r, q⟩ => ⟨I1.kIn, run_g F g hr hb hd I1 r q⟩) he hpl
end

/-! ## repr of data: none, bools, ints, texts, lists, tuples, dicts with text keys -/
mutual
inductive Dq (K : PySem.W.Frag) (H : Hp) : V → PyData → Prop
  | non : Dq K H .non .none
  | bl (b : Bool) : Dq K H (.bl b) (.bool b)
  | int (i : Int) : Dq K H (.int i) (.int i)
  | str (x : Str) : Dq K H (.str x) (.str x)
  | lst {a : Addr} {xs : List V} {ds : List PyData} : SqL K H a xs → DqAll K H xs ds → Dq K H (.ref a) (.list ds)
  | tup {a : Addr} {xs : List V} {ds : List PyData} : SqT K H a xs → DqAll K H xs ds → Dq K H (.ref a) (.tuple ds)
inductive DqAll (K : PySem.W.Frag) (H : Hp) : List V → List PyData → Prop
  | nil : DqAll K H [] []
  | cons {v : V} {vs : List V} {d : PyData} {ds : List PyData} : Dq K H v d → DqAll K H vs ds → DqAll K H (v :: vs) (d :: ds)
end
section
variable {X : Cx}
/-- repr(x) of such data -/
def rRepr (K : PySem.W.Frag) : List V → Hp → VK → Prop := fun xs H Q => ∃ x d, xs = [x] ∧ Dp K H x d ∧ d.showable = true ∧ d.hasDict = false ∧ d.depth ≤ 60 ∧ d.shown.length ≤ sizeLine ∧ Q (.str d.shown) H
theorem call_repr (g : X.A.guards = some []) (hu : X.A.units + 64 < cLine) : CallR X (.builtin "repr") (rRepr X.K) := by
  intro pins s σ H xs us Q I r h
  obtain ⟨x, d, rfl, hd, sh, nd, dp, sz, q⟩ := h
  obtain ⟨u, rfl, rv⟩ := vals1 r
  obtain ⟨as, rd⟩ := Dp.reads I d x u hd rv
  cases hd with
  | non =>
    cases rv
    refine PySem.P.repr_of_none ⟨.str _, H, I.tok _, ⟨_, rfl⟩, ?_⟩
    rw [PyData.shown_none] at q
    exact q
  | bl b =>
    cases rv
    refine PySem.P.repr_of_bool ⟨.str _, H, I.tok _, ⟨_, rfl⟩, ?_⟩
    rw [PyData.shown_bool] at q
    exact q
  | int i =>
    obtain ⟨t, rfl⟩ := rv
    refine PySem.P.repr_of_int (by simpa [PyData.showable] using sh) ⟨.str _, H, I.tok _, ⟨_, rfl⟩, ?_⟩
    rw [PyData.shown_int] at q
    exact q
  | str y =>
    obtain ⟨t, rfl⟩ := rv
    rw [PyData.shown_str] at q sz
    exact PySem.P.repr_of_str ⟨.str _, H, I.tok _, ⟨_, rfl⟩, q⟩ sz
  | lst a b =>
    cases rv
    exact repr_of_reads' rd sh (by rw [nd]; intro z; cases z) g (by omega) (fun _ _ e => e) (fun h' u tk k => ⟨.str _, H, I.kept k, ⟨_, rfl⟩, q⟩) sz
  | tup a b =>
    cases rv
    exact repr_of_reads' rd sh (by rw [nd]; intro z; cases z) g (by omega) (fun _ _ e => e) (fun h' u tk k => ⟨.str _, H, I.kept k, ⟨_, rfl⟩, q⟩) sz
end
end JP

namespace JP
open PySem PySem.Spec PySem.W PySem.Calls PyProof.Rows L2

/-! ## the end of a law's row, from a promise where no guard is on the stack -/
/-- the abstract heap at the law's call: the script at most -/
def scriptHp (K : PySem.W.Frag) (a : Addr) (o : Obj) (xs : List V) : Hp := fun b => if b = a ∧ K.lookup a = none then some (.frz o (.lst xs)) else none
section
variable {P : Program} {w : World} {K : PySem.W.Frag} {a b : Addr} {o : Obj} {xs : List V} {h : Heap}
theorem scriptHp_cases (b : Addr) : scriptHp K a o xs b = none ∨ (b = a ∧ K.lookup a = none ∧ scriptHp K a o xs b = some (.frz o (.lst xs))) := by
  unfold scriptHp
  by_cases c : b = a ∧ K.lookup a = none
  · right
    exact ⟨c.1, c.2, if_pos c⟩
  · left
    exact if_neg c
theorem scriptHp_some {u : HO} (e : scriptHp K a o xs b = some u) : b = a ∧ K.lookup a = none ∧ u = .frz o (.lst xs) := by
  rcases scriptHp_cases (K := K) (a := a) (o := o) (xs := xs) b with n | ⟨h1, h2, h3⟩
  · rw [n] at e
    cases e
  · rw [h3] at e
    exact ⟨h1, h2, (Option.some.inj e).symm⟩
theorem scriptHp_only : Only (scriptHp K a o xs) := fun b => by
  rcases scriptHp_cases (K := K) (a := a) (o := o) (xs := xs) b with n | ⟨_, _, e⟩
  · exact .inl n
  · exact .inr ⟨o, xs, e⟩
end

/-- the call of the law -/
theorem law_g {P : Program} {w : World} {K : PySem.W.Frag} {mg mb : Str → Option Value} {k : Nat} {fa a : Addr} {fd : FuncData} {x : Str} {sp : Sp} {s : Shared} {vs : List Value} {ns : List Int}
    (inK : K.In s.heap) (gl : s.heap.Ns mainGlobals mg) (bl : s.heap.Ns builtinsNs mb) (blt : ∀ x : Str, x ≠ "__name__" → mb x = bootBuiltins x) (nl : s.heap.NoLimit) (gens : s.gens = #[])
    (obj : s.heap.get? a = some { cls := .type "list", data := .seq vs.toArray }) (hnum : IntsAre vs ns) (small : ns.length ≤ sizeLine) (room : Room k callerA)
    (F : ∀ base : Heap, K.In base → base.Ns mainGlobals mg → GOk P w K mg base k fa fd [x] sp) (bind : ∀ (s : Shared) (u : Value), BindsTo s fd ⟨[u], []⟩ [(x, u)])
    (sat : ∀ H : Hp, Only H → SqL K H a (ns.map V.int) → sp [.ref a] H (fun v _ => v = .bl true) fun _ _ _ => False) :
    codeAny (model P w) callerA (.call (.ref fa) ⟨[.ref a], []⟩) (fun r s' => r = .ok (.ret (.bool true)) ∧ OldK s.heap s'.heap ∧ s'.os = s.os ∧ AllBare s'.gens) s := by
  have rel := vals_ints hnum
  have wide : (ns.map V.int).length ≤ sizeLine := by
    rw [List.length_map]
    exact small
  generalize hH : scriptHp K a { cls := .type "list", data := .seq vs.toArray } (ns.map V.int) = H
  have only : Only H := hH ▸ scriptHp_only
  have some_of : ∀ {b : Addr} {u : HO}, H b = some u → b = a ∧ K.lookup a = none ∧ u = .frz { cls := .type "list", data := .seq vs.toArray } (.lst (ns.map V.int)) := fun e => scriptHp_some (hH ▸ e)
  have held : HOk P w H s.heap := by
    intro b u e
    obtain ⟨rfl, _, rfl⟩ := some_of e
    exact ⟨obj, wide, vs, _, rel, obj⟩
  have seq : SqL K H a (ns.map V.int) := by
    cases q : K.lookup a with
    | none =>
      refine .inl (.inr ⟨{ cls := .type "list", data := .seq vs.toArray }, ?_⟩)
      rw [← hH]
      exact if_pos ⟨rfl, q⟩
    | some o =>
      have e := inK a o q
      rw [obj] at e
      cases e
      exact .inr ⟨_, vs.toArray, _, q, rfl, rfl, rfl, by
        rw [List.size_toArray, hnum.length]
        exact small, by simpa using rel⟩
  have free : ∀ {b : Addr} {ob : Obj}, s.heap.get? b = some ob → (∀ its n, ob.data ≠ .seq its n) → H b = none := fun {b ob} e d => by
    cases q : H b with
    | none => rfl
    | some u =>
      obtain ⟨rfl, _, _⟩ := some_of q
      rw [obj] at e
      cases e
      exact absurd rfl (d _ _)
  have nsOk : ∀ {b : Addr} {m : Str → Option Value}, s.heap.Ns b m → (hidT s.heap H).Ns b m := by
    intro b m z
    obtain ⟨ob, es, ep, e, d, r⟩ := z
    exact ⟨ob, es, ep, hidT_get e (free e (by intro its n z; rw [d] at z; cases z)), d, r⟩
  have inB : K.In (hidT s.heap H) := by
    intro b ob e
    refine hidT_get (inK b ob e) ?_
    cases q : H b with
    | none => rfl
    | some u =>
      obtain ⟨rfl, z, _⟩ := some_of q
      rw [z] at e
      cases e
  have mods : Mod K mg (hidT s.heap H) := by
    obtain ⟨mc, h1, h2⟩ := nl
    exact ⟨inB, nsOk gl, ⟨mb, nsOk bl, blt⟩, mc, nsOk h1, h2⟩
  have e0 : Env0 P w K mg (hidT s.heap H) callerA [] s H :=
    { frames := rfl, mod := mods, bs := fun b o e => of_hidT e, bsz := Nat.le_of_eq (hidT_size _ _), funs := trivial, frf := fun b z => (List.not_mem_nil z).elim, hok := held, bare := .of_eq gens }
  apply codeAny_mono ((F _ inB (nsOk gl)).kept callerA [] s H ⟨[.ref a], []⟩ [.ref a] [.ref a] _ _ rfl room e0 (bind s (.ref a)) (.cons rfl .nil) (sat H only seq))
  intro r s' z
  match r, z with
  | .error _, z => exact z.elim
  | .ok .next, z => exact z.elim
  | .ok .brk, z => exact z.elim
  | .ok .cont, z => exact z.elim
  | .ok (.ret u), ⟨v, H', os, bare, un, held', rv, z⟩ =>
    have ev : v = .bl true := z
    subst ev
    have eu : u = Value.bool true := rv
    subst eu
    refine ⟨rfl, OldK.of_keep ?_, os, bare⟩
    intro b ob e
    cases q : H b with
    | none => exact un.keep b ob e q List.not_mem_nil List.not_mem_nil
    | some u =>
      obtain ⟨rfl, _, rfl⟩ := some_of q
      have e1 := (held' _ _ (un.frzs _ _ _ q)).1
      rw [obj] at e
      cases e
      exact e1

theorem walk_g {l : PySem.W.OpenLaw} {n k : Nat} {q : Program} {loose : List Str} {XP : (Str → Option Value) → Heap → Prop} {YP : World → Heap → Prop} {d : DefRec} {K : PySem.Params → PySem.W.Frag} {sp : PySem.W.Frag → Sp} {x : Str}
    (hn : l.most = some n) (hn2 : n ≤ sizeLine) (hdf : d.params.defaults = []) (hr : Room k callerA) (hY : ∀ (w : World) (h : Heap), YP w h → (K w.params).In h)
    (F : ∀ (w : World) (mg : Str → Option Value) (fa : Addr) (h : Heap), (K w.params).In h → h.Ns mainGlobals mg → mg d.name = some (.ref fa) →
      ∃ fd : FuncData, (∀ (s : Shared) (u : Value), BindsTo s fd ⟨[u], []⟩ [(x, u)]) ∧ ∀ base : Heap, (K w.params).In base → base.Ns mainGlobals mg → GOk l.prog w (K w.params) mg base k fa fd [x] (sp (K w.params)))
    (sat : ∀ (K : PySem.W.Frag) (H : Hp) (a : Addr) (ns : List Int), ns.length ≤ n → Only H → SqL K H a (ns.map V.int) → sp K [.ref a] H (fun v _ => v = .bl true) fun _ _ _ => False) :
    PySem.W.WalkO q loose XP YP l.row.toRowW d [] (fun f vs => PySem.call f vs) := by
  apply Att.attach_call hn hdf
  intro w s₀ s mg mb fa o pm cd doc a vs ns G Y ho hd hcd hmg obj hnum len gens
  obtain ⟨fd, hb, hF⟩ := F w mg fa _ (hY w _ Y) G.T.g hmg
  exact law_g (hY w _ Y) G.T.g G.T.b G.T.builtins G.T.nolimit gens obj hnum (Nat.le_trans len hn2) hr hF hb fun H hO hS => sat _ H a ns len hO hS
end JP

namespace JP
open PySem PySem.Spec PyProof.Rows L2
/-! ### the pen: what a law draws from -/
def Pen (H : Hp) (p c : Addr) (m : Nat) : Prop := ∃ (ns : List Int) (n g : Int), H p = some (.lst [.ref c, .int n, .int g]) ∧ H c = some (.lst (ns.map V.int)) ∧ c ≠ p ∧ ns.length ≤ 63 ∧ 0 ≤ n ∧ n ≤ m ∧ 0 ≤ g
/-- all but the pen is as it was -/
def But (p : Addr) (H H' : Hp) : Prop := ∀ b o, b ≠ p → H b = some o → H' b = some o
theorem fmod_lo (x : Int) {y : Int} (h : 1 ≤ y) : 0 ≤ x.fmod y := by
  rw [Int.fmod_eq_emod_of_nonneg x (by omega)]
  exact Int.emod_nonneg x (by omega)
theorem fmod_lt (x : Int) {y : Int} (h : 1 ≤ y) : x.fmod y < y := by
  rw [Int.fmod_eq_emod_of_nonneg x (by omega)]
  exact Int.emod_lt_of_pos x (by omega)
theorem fmod_32 {x C : Int} (h1 : 1 ≤ C) (h2 : C ≤ 2 ^ 32) : x.fmod C < 2 ^ 32 := by
  have := fmod_lt x h1
  omega
theorem fmod_64 {x C : Int} (h1 : 1 ≤ C) (h2 : C ≤ 2 ^ 32) : -(2 ^ 64) < x.fmod C ∧ x.fmod C < 2 ^ 64 := by
  have := fmod_lt x h1
  have := fmod_lo x h1
  omega
theorem mix_bound {x C D E n : Int} {m : Nat} (h1 : 1 ≤ C) (h2 : C ≤ 2 ^ 32) (h3 : 0 ≤ D) (h4 : D ≤ 2 ^ 20) (h5 : 0 ≤ E) (h6 : E ≤ 2 ^ 20) (n0 : 0 ≤ n) (nm : n ≤ m) (hm : m ≤ 2 ^ 20) : (x.fmod C + D * n + E).natAbs < 2 ^ 64 := by
  have a := fmod_lo x h1
  have b := fmod_lt x h1
  have c : D * n ≤ 2 ^ 20 * 2 ^ 20 := Int.mul_le_mul h4 (by omega) n0 (by decide)
  have d : 0 ≤ D * n := Int.mul_nonneg h3 n0
  omega
theorem mix_bound2 {x C D E n : Int} {m : Nat} (h1 : 0 ≤ C) (h2 : C ≤ 2 ^ 20) (h3 : 0 ≤ D) (h4 : D ≤ 2 ^ 20) (h5 : 0 ≤ E) (h6 : E ≤ 2 ^ 20) (x0 : 0 ≤ x) (x1 : x < 2 ^ 32) (n0 : 0 ≤ n) (nm : n ≤ m) (hm : m ≤ 2 ^ 20) : (x * (2 * n + C) + D * n * n + E).natAbs < 2 ^ 64 := by
  have c : D * n ≤ 2 ^ 20 * 2 ^ 20 := Int.mul_le_mul h4 (by omega) n0 (by decide)
  have d : 0 ≤ D * n := Int.mul_nonneg h3 n0
  have c2 : D * n * n ≤ (2 ^ 20 * 2 ^ 20) * 2 ^ 20 := Int.mul_le_mul c (by omega) n0 (by decide)
  have d2 : 0 ≤ D * n * n := Int.mul_nonneg d n0
  have c3 : x * (2 * n + C) ≤ 2 ^ 32 * 2 ^ 22 := Int.mul_le_mul (by omega) (by omega) (by omega) (by decide)
  have d3 : 0 ≤ x * (2 * n + C) := Int.mul_nonneg x0 (by omega)
  omega
theorem but_upd {H : Hp} (p : Addr) (o : HO) : But p H (upd H p o) := fun b u n e => by
  rw [upd_ne n]
  exact e
theorem But.trans {p : Addr} {H H1 H2 : Hp} (a : But p H H1) (b : But p H1 H2) : But p H H2 := fun c o n e => b c o n (a c o n e)
theorem But.of_same {p : Addr} {H H1 : Hp} (a : Same H H1) : But p H H1 := fun c o _ e => a c o e
theorem but_new {H : Hp} {p a : Addr} {o : HO} (h : H a = none) : But p H (upd H a o) := fun b u _ e => by
  rw [upd_ne (ne_of_none e h)]
  exact e
theorem pen_set {H : Hp} {p c : Addr} {ns : List Int} {n g n' g' : Int} {m : Nat} (hp : H p = some (.lst [.ref c, .int n, .int g])) (hc : H c = some (.lst (ns.map V.int))) (ncp : c ≠ p) (hl : ns.length ≤ 63) (h0 : 0 ≤ n') (h1 : n' ≤ m) (h2 : 0 ≤ g') :
    Pen (upd H p (.lst [.ref c, .int n', .int g'])) p c m :=
  ⟨ns, n', g', upd_same, by
    rw [upd_ne ncp]
    exact hc, ncp, hl, h0, h1, h2⟩
theorem dp_ints {K : PySem.W.Frag} {H : Hp} : ∀ ns : List Int, DpAll K H (ns.map V.int) (ns.map PyData.int)
  | [] => .nil
  | n :: ns => .cons (.int n) (dp_ints ns)
theorem Pen.mono {H : Hp} {p c : Addr} {m n : Nat} (h : Pen H p c m) (k : m ≤ n) : Pen H p c n := by
  obtain ⟨ns, x, g, h1, h2, h3, h4, h5, h6, h7⟩ := h
  exact ⟨ns, x, g, h1, h2, h3, h4, h5, by omega, h7⟩
theorem Pen.same {H H' : Hp} {p c : Addr} {m : Nat} (h : Pen H p c m) (k : Same H H') : Pen H' p c m := by
  obtain ⟨ns, x, g, h1, h2, h3⟩ := h
  exact ⟨ns, x, g, k _ _ h1, k _ _ h2, h3⟩
theorem Pen.at_ {H : Hp} {p c : Addr} {m : Nat} (h : Pen H p c m) : ∃ xs, H p = some (.lst xs) := by
  obtain ⟨ns, x, g, h1, _⟩ := h
  exact ⟨_, h1⟩
theorem Pen.ne_none {H : Hp} {p c a : Addr} {m : Nat} (h : Pen H p c m) (e : H a = none) : a ≠ p := by
  obtain ⟨xs, q⟩ := h.at_
  exact (ne_of_none q e).symm
theorem Pen.ne_none2 {H : Hp} {p c a : Addr} {m : Nat} (h : Pen H p c m) (e : H a = none) : a ≠ c := by
  obtain ⟨ns, x, g, _, h2, _⟩ := h
  exact (ne_of_none h2 e).symm
/-- the pen stays where another object is written -/
theorem Pen.updN {H : Hp} {p c D : Addr} {m : Nat} {o : HO} (h : Pen H p c m) (n : D ≠ p) (n2 : D ≠ c) : Pen (upd H D o) p c m := by
  obtain ⟨ns, x, g, h1, h2, h3⟩ := h
  exact ⟨ns, x, g, (upd_ne n.symm).trans h1, (upd_ne n2.symm).trans h2, h3⟩
theorem same_new {H : Hp} {a : Addr} {o : HO} (h : H a = none) : Same H (upd H a o) := fun b u e => by
  rw [upd_ne (ne_of_none e h)]
  exact e
theorem But.seqL {K : PySem.W.Frag} {p a : Addr} {H H' : Hp} {xs : List V} (e : But p H H') (n : a ≠ p) (h : SqL K H a xs) : SqL K H' a xs := by
  rcases h with (h | ⟨o, h⟩) | h
  · exact .inl (.inl (e _ _ n h))
  · exact .inl (.inr ⟨o, e _ _ n h⟩)
  · exact .inr h
theorem But.seqT {K : PySem.W.Frag} {p a : Addr} {H H' : Hp} {xs : List V} (e : But p H H') (n : a ≠ p) (h : SqT K H a xs) : SqT K H' a xs := by
  rcases h with (h | ⟨o, h⟩) | h
  · exact .inl (.inl (e _ _ n h))
  · exact .inl (.inr ⟨o, e _ _ n h⟩)
  · exact .inr h
theorem same_seqT {K : PySem.W.Frag} {a : Addr} {H H' : Hp} {xs : List V} (e : Same H H') (h : SqT K H a xs) : SqT K H' a xs := by
  rcases h with (h | ⟨o, h⟩) | h
  · exact .inl (.inl (e _ _ h))
  · exact .inl (.inr ⟨o, e _ _ h⟩)
  · exact .inr h
theorem But.refl (p : Addr) (H : Hp) : But p H H := fun _ _ _ e => e
theorem atI_of {xs : List V} {r : Int} (h0 : 0 ≤ r) (h1 : r < xs.length) : ∃ v, atI xs r = some v ∧ v ∈ xs := by
  have hl : r.toNat < xs.length := by omega
  refine ⟨xs[r.toNat], ?_, List.getElem_mem hl⟩
  have := atI_nat (xs := xs) (j := r.toNat) (List.getElem?_eq_getElem hl)
  rw [Int.toNat_of_nonneg h0] at this
  exact this
theorem cut_all (xs : List V) {n : Nat} (h : xs.length ≤ n) : cutV xs none (some (n : Int)) = xs := by
  unfold cutV
  rw [show HT.sIx xs.length xs.length (some (n : Int)) = min n xs.length from HT.sIx_nat xs.length xs.length n, HT.sIx_none, Nat.min_eq_right h]
  simp
end JP

namespace JP
open PySem PySem.Spec PyProof.Rows L2

/-! ### values of several kinds, and isinstance of them -/
inductive Ki where
  | non | bl | int | str | lst | tup | dct
  deriving DecidableEq
def Ki.name : Ki → String
  | .non => "NoneType" | .bl => "bool" | .int => "int" | .str => "str" | .lst => "list" | .tup => "tuple" | .dct => "dict"
/-- x is of kind k in H -/
def IsKi (H : Hp) (x : V) : Ki → Prop
  | .non => x = .non
  | .bl => ∃ b, x = .bl b
  | .int => ∃ i, x = .int i
  | .str => ∃ s, x = .str s
  | .lst => ∃ a xs, x = .ref a ∧ H a = some (.lst xs)
  | .tup => ∃ a xs, x = .ref a ∧ H a = some (.tup xs)
  | .dct => ∃ a kvs, x = .ref a ∧ H a = some (.dK kvs)
theorem IsKi.ty {K : PySem.W.Frag} {H : Hp} {x : V} : ∀ {k : Ki}, IsKi H x k → TyX K H x (.type k.name)
  | .non, h => by
    cases h
    exact .base .non
  | .bl, h => by
    obtain ⟨b, rfl⟩ := h
    exact .base (.bl b)
  | .int, h => by
    obtain ⟨b, rfl⟩ := h
    exact .base (.int b)
  | .str, h => by
    obtain ⟨b, rfl⟩ := h
    exact .base (.str b)
  | .lst, h => by
    obtain ⟨a, xs, rfl, e⟩ := h
    exact .base (.lst e)
  | .tup, h => by
    obtain ⟨a, xs, rfl, e⟩ := h
    exact .base (.tup e)
  | .dct, h => by
    obtain ⟨a, xs, rfl, e⟩ := h
    exact .base (.dK e)
def Ki.below : Ki → Ki → Bool
  | .bl, .int => true
  | a, b => decide (a = b)
theorem ki_kit {K : PySem.W.Frag} : ∀ a b : Ki, PySem.W.kitOne K (.type a.name) (.type b.name) = some (a.below b) := by
  intro a b
  apply kit_ty
  cases a <;> cases b <;> decide +kernel
/-- isinstance(x, T) of such a value -/
theorem isi_ki {X : Cx} {H : Hp} {x : V} {Q : VK} {a : Ki} (b : Ki) (h : IsKi H x a) (q : Q (.bl (a.below b)) H) : rIsi X.K [x, .ty b.name] H Q :=
  ⟨x, .ty b.name, _, _, _, rfl, .ty _, h.ty, ki_kit a b, q⟩
theorem IsKi.same {H H' : Hp} (s : Same H H') {x : V} : ∀ {k : Ki}, IsKi H x k → IsKi H' x k
  | .non, h => h
  | .bl, h => h
  | .int, h => h
  | .str, h => h
  | .lst, ⟨a, xs, e, h⟩ => ⟨a, xs, e, s _ _ h⟩
  | .tup, ⟨a, xs, e, h⟩ => ⟨a, xs, e, s _ _ h⟩
  | .dct, ⟨a, xs, e, h⟩ => ⟨a, xs, e, s _ _ h⟩
/-- the kind of a value that stands for itself -/
def kiOf : V → Option Ki
  | .non => some .non
  | .bl _ => some .bl
  | .int _ => some .int
  | .str _ => some .str
  | _ => none
theorem kiOf_is {H : Hp} : ∀ {x : V} {k : Ki}, kiOf x = some k → IsKi H x k
  | .non, _, h => by
    cases h
    rfl
  | .bl b, _, h => by
    cases h
    exact ⟨b, rfl⟩
  | .int b, _, h => by
    cases h
    exact ⟨b, rfl⟩
  | .str b, _, h => by
    cases h
    exact ⟨b, rfl⟩
def isI : V → Bool
  | .int _ => true
  | _ => false
theorem isI_ki {x : V} {k : Ki} (h : kiOf x = some k) : isI x = decide (k = .int) := by
  cases x <;> cases h <;> rfl
end JP

namespace JP
open PySem PySem.Spec PyProof.Rows L2
open AutoSeq1 (wpAny_loadPart')

/-! ### tuples that stand in the heap: +, slices, times a number; the answer is a tuple, new or not -/
section
variable {X : Cx}
/-- t + u, any tuples -/
def rCat2 : R2 := fun x y H Q => ∃ a b xs ys, x = .ref a ∧ y = .ref b ∧ H a = some (.tup xs) ∧ H b = some (.tup ys) ∧ xs.length + ys.length ≤ sizeLine ∧
  ∀ p H', Same H H' → H' p = some (.tup (xs ++ ys)) → Q (.ref p) H'
theorem op_cat2 : OpR X (binaryOp .Add) rCat2 := by
  intro pins s σ H x y v u Q I rx ry h
  obtain ⟨a, b, xs, ys, rfl, rfl, ha, hb, hz, q⟩ := h
  cases rx
  cases ry
  by_cases hx : xs = []
  · subst hx
    obtain ⟨its, r1, p1, _⟩ := I.tuple (SqT.of ha)
    obtain ⟨its2, r2, p2, _⟩ := I.tuple (SqT.of hb)
    cases r1
    obtain ⟨⟨cls, dd, data, sl⟩, ho, hc, n, hd⟩ := id p1
    obtain ⟨⟨cls2, dd2, data2, sl2⟩, ho2, hc2, n2, hd2⟩ := id p2
    simp only at hc hd hc2 hd2
    subst hc hd hc2 hd2
    exact concat_meets ⟨_, ho, rfl⟩ ⟨_, ho2, rfl⟩ noFill_tuple_add seq_tuple_add PySem.F.slot_tuple_add PySem.F.entry_tuple_add (PySem.F.args_tuple_add_2 _ _)
      (tuple_addW0 a b _ _ n n2 dd dd2 sl sl2 (by rfl)) ⟨ho, ho2, ⟨.ref b, H, I.tok _, rfl, q b H (.refl H) (by rw [List.nil_append]; exact hb)⟩⟩
  · refine op_catT pins s σ H (.ref a) (.ref b) _ _ Q I rfl rfl ⟨a, b, xs, ys, rfl, rfl, .of ha, .of hb, hx, hz, fun e => ?_, fun _ p hp => ?_⟩
    · subst e
      exact q a H (.refl H) (by rw [List.append_nil]; exact ha)
    · exact q p _ (same_new hp) upd_same
/-- t[lo:hi] of any tuple: its items, in a new tuple or (the whole) in the same one -/
def rSl2 : V → Option Int → Option Int → Hp → VK → Prop := fun x lo hi H Q => ∃ a xs, x = .ref a ∧ H a = some (.tup xs) ∧ ∀ p H', Same H H' → H' p = some (.tup (cutV xs lo hi)) → Q (.ref p) H'
theorem getItem_tuple_whole {prog : Program} {w : World} {A : Around} {E : Value → Shared → Prop} {s : Shared} {t sl : Addr} {items : Array Value} {vl vu : Value} {lo hi : Option Int} {Q : Value → Shared → Prop} (ht : IsTup s.heap t items) (hs : s.heap.IsSliceOf sl vl vu .none) (pl : IsPart vl lo) (pu : IsPart vu hi)
    (hw : HT.sIx items.size 0 lo = 0 ∧ HT.sIx items.size items.size hi = items.size)
    (h : Q (.ref t) s) : wpAny (model prog w) A (getItem (.ref t) (.ref sl)) Q E s := by
  obtain ⟨⟨cls, dd, data, slo⟩, ho, hc, n, hd⟩ := id ht
  simp only at hc hd
  subst hc hd
  obtain ⟨os, hos, hcs, hds⟩ := id hs
  have hTs : s.TypeIs (.ref sl) "slice" := ⟨os, hos, hcs⟩
  unfold getItem
  try with_reducible refine wpAny_holding ?_
  first | refine wpAny_bind (wpAny_pure ?_) | skip
  refine wpAny_bind (wpAny_sequenceKey ht.typeIs (by decide) ?_)
  refine wpAny_bind (wpAny_callSpecial?_slot (name := Str.ofString "__getitem__") ht.typeIs PyProof.Rows.slot_tuple_getitem
    (wpAny_call_entry PyProof.Rows.slot_tuple_getitem ht.typeIs entry_tuple_getitem ?_ (args_tuple_getitem _ _)))
  show wpAny _ _ (Builtin.Tuple.tupleItemsOf (.ref t) >>= _) _ _ s
  refine wpAny_bind (tupleItemsOf_ ht ?_)
  refine wpAny_bind (wpAny_typeOf hTs ?_)
  rw [if_pos (by decide)]
  refine wpAny_bind (HT.sliceApplied_gen hs pl pu ?_)
  have hyes : (((HT.sIx items.size 0 lo : Nat) : Int) == 0 && (1 : Int) == 1 && (HT.sIx items.size items.size hi - HT.sIx items.size 0 lo) == items.size) = true := by
    rw [hw.1, hw.2]
    simp
  show wpAny _ _ (if (((HT.sIx items.size 0 lo : Nat) : Int) == 0 && (1 : Int) == 1 && (HT.sIx items.size items.size hi - HT.sIx items.size 0 lo) == items.size) = true then _ else _) _ _ s
  rw [if_pos hyes]
  wp_walk using wpAny_loadPart' ho
  exact ⟨_, rfl, wpAny_pure h⟩
theorem sl_tup2 : SlR X rSl2 := by
  intro pins s σ H x v vl vu lo hi sl Q I rx hs pl pu h
  obtain ⟨a, xs, rfl, hx, q⟩ := h
  by_cases hw : HT.sIx xs.length 0 lo = 0 ∧ HT.sIx xs.length xs.length hi = xs.length
  · cases rx
    obtain ⟨its, r, ht, hz⟩ := I.tuple (SqT.of hx)
    have hlen : its.toArray.size = xs.length := by rw [List.size_toArray]; exact r.length.symm
    refine ⟨"tuple", _, PyProof.Rows.slot_tuple_getitem.lookup, ht.typeIs, ?_⟩
    refine getItem_tuple_whole ht hs pl pu (by rw [hlen]; exact hw) ⟨.ref a, H, I, rfl, q a H (.refl H) ?_⟩
    have e : cutV xs lo hi = xs := by
      unfold cutV
      rw [hw.1, hw.2]
      simp
    rw [e]
    exact hx
  · exact sl_tup pins s σ H (.ref a) v vl vu lo hi sl Q I rx hs pl pu ⟨a, xs, rfl, .of hx, hw, fun p hp => q p _ (same_new hp) upd_same⟩
/-- t * k, k from 1 on -/
def rRep2 : R2 := fun x y H Q => ∃ l k xs, x = .ref l ∧ y = .int k ∧ H l = some (.tup xs) ∧ xs ≠ [] ∧ 1 ≤ k ∧ k ≤ 1000 ∧ xs.length ≤ 1000 ∧ ∀ p H', Same H H' → H' p = some (.tup (List.replicate k.toNat xs).flatten) → Q (.ref p) H'
theorem tuple_mulW1 (l : Addr) (items : Array Value) (n : Nat) (dd : Option Addr) (sl : Array (Option Value)) (u : Tok) :
    Meets (Builtin.«tuple.__mul__» ⟨[.ref l, .int 1 u], []⟩) (fun _ R s => s.heap.get? l = some { cls := .type "tuple", dict := dd, data := .seq items n, slots := sl } ∧
      R (.ok (.ret (Value.ref l))) { s with heap := s.heap, toks := s.toks }) :=
  .of_wp fun prog w A R s h => by
    obtain ⟨hp, g, d, tk, os⟩ := s
    obtain ⟨hl, h⟩ := h
    have f1 := AutoSeq1.idx_int
    have c1 : (items.isEmpty || (1 : Int) == 1) = true := by simp
    have c0 : (decide ((1 : Int) < -(2 ^ 63)) || decide ((1 : Int) ≥ 2 ^ 63)) = false := by decide
    wp_walk using wpAny_loadPart' hl
    repeat (first
      | (refine wpAny_ite_false (decide_eq_false (by rw [c0]; exact Bool.false_ne_true)) ?_; wp_walk using wpAny_loadPart' hl)
      | (refine wpAny_ite_true (decide_eq_true c1) ?_; wp_walk using wpAny_loadPart' hl))
    all_goals first | exact ⟨_, rfl, h⟩ | skip
theorem op_rep2 : OpR X (binaryOp .Mult) rRep2 := by
  intro pins s σ H x y v u Q I rx ry h
  obtain ⟨l, k, xs, rfl, rfl, hT, hne, h1, h2, hz, q⟩ := h
  by_cases hk : k = 1
  · subst hk
    cases rx
    obtain ⟨t, rfl⟩ := ry
    obtain ⟨its, r, ⟨⟨cls, dd, data, sl⟩, ho, hc, n, hd⟩, hs⟩ := I.tuple (SqT.of hT)
    simp only at hc hd
    subst hc hd
    refine wpAny_binaryOp_repeat_ref (T := "tuple") (U := "int") (by decide) ⟨_, ho, rfl⟩ (fun s' => typeIs_int s' 1 t) noFill_tuple_mul F.fills_int_mul F.slot_int_rmul repeat_tuple F.slot_int_index.lookup
      (call_meets F.slot_int_rmul (typeIs_int s 1 t) F.entry_int_rmul (F.args_int_rmul_2 _ _) (int_rmul_tuple 1 t l its.toArray n dd sl)
        ⟨ho, rfl, ⟨_, ho, rfl⟩, call_meets F.slot_tuple_mul ⟨_, ho, rfl⟩ F.entry_tuple_mul (F.args_tuple_mul_2 _ _) (tuple_mulW1 l its.toArray n dd sl t) ⟨ho, ?_⟩⟩)
    refine ⟨.ref l, H, I.tok _, rfl, q l H (.refl H) ?_⟩
    simpa using hT
  · exact op_repT pins s σ H (.ref l) (.int k) v u Q I rx ry ⟨l, k, xs, rfl, rfl, .of hT, hne, by omega, h2, hz, fun p hp => q p _ (same_new hp) upd_same⟩
end

/-! ### enumerate(tuple) -/
theorem enumT_end {prog : Program} {w : World} {A : Around} {E : Value → Shared → Prop} {s : Shared} {e it l : Addr} {i : Int} {n : Nat} {items : Array Value} {old : Value} {Q : Option Value → Shared → Prop} (hh : A.handled = none)
    (he : IsEnum s.heap e it i old) (hit : s.heap.IsTupleIter it l n) (hl : s.heap.IsTuple l items) (hx : items[n]? = none)
    (hQ : ∀ h', Heap.ExtBut it s.heap h' → Q none { s with heap := h' }) : wpAny (model prog w) A (pyNext (.ref e)) Q E s := by
  have hT : s.TypeIs (.ref e) "enumerate" := ⟨_, he, rfl⟩
  unfold pyNext
  refine wpAny_bind (wpAny_attempt (wpAny_callSpecial?_slot (name := Str.ofString "__next__") hT F.slot_enumerate_next
    (wpAny_call_entry F.slot_enumerate_next hT F.entry_enumerate_next ?_ (F.args_enumerate_next_1 _))))
  show wpAny _ _ (field (.ref e) 2 >>= _) _ _ _
  refine wpAny_bind (wpAny_field he rfl (x := .ref it) rfl ?_)
  refine wpAny_bind (wpAny_nextOf_tuple_end hh hit hl hx fun h' x he' hx' => ?_)
  obtain ⟨o, ho, hc⟩ := hx'
  refine wpAny_bind (wpAny_isInstance (T := "StopIteration") (b := true) ⟨o, ho, hc⟩ isSubtype_stop ?_)
  exact wpAny_pure (hQ _ he')
/-- the tuple at a as it stands at each turn, each item in a new pair -/
def IteT (K : PySem.W.Frag) (a : Addr) : It :=
  ⟨fun i H => ∃ (xs : List V) (x : V), SqT K H a xs ∧ xs[i]? = some x, fun i H v H' => ∃ T x, v = .ref T ∧ H T = none ∧ H' = upd H T (.tup [.int (i : Nat), x]) ∧ ∀ xs, SqT K H a xs → xs[i]? = some x, fun i H => ∃ xs : List V, SqT K H a xs ∧ xs.length ≤ i⟩
set_option maxHeartbeats 1000000 in
theorem meets_enumerate_newT {l : Addr} {items : Array Value} :
    Meets (Builtin.«enumerate.__new__» ⟨[.type "enumerate", .ref l], []⟩) (fun _ R s => s.heap.IsTuple l items ∧
      R (.ok (.ret (.ref (s.heap.push { cls := .type "tuple_iterator", data := .fields #[.ref l, .int 0 0] }).objs.size))) { s with heap := (s.heap.push { cls := .type "tuple_iterator", data := .fields #[.ref l, .int 0 0] }).push { cls := .type "enumerate", data := .fields #[.none, .bool false, .ref s.heap.objs.size, rawInt 0, .none, .none] } }) :=
  .of_wp fun prog w A R s h => by
    obtain ⟨hp, g, d, tk, os⟩ := s; obtain ⟨hL, h⟩ := h
    have hsub := sub_enumerate
    replace hL : Heap.IsTuple (Shared.heap ⟨hp, g, d, tk, os⟩) l items := hL
    wp_walk using wpAny_pyIter_tuple hL
    refine wpAny_stack_any fun st => wpAny_pure ?_
    split
    · rename_i c _ _ _ _ _
      cases (c == Value.type "enumerate")
      · wp_walk using wpAny_pyIter_tuple hL
        exact ⟨_, rfl, h⟩
      · wp_walk using wpAny_pyIter_tuple hL
        exact ⟨_, rfl, h⟩
    · wp_walk using wpAny_pyIter_tuple hL
      exact ⟨_, rfl, h⟩
theorem call_enumerate_tup {prog : Program} {w : World} {A : Around} {E : Value → Shared → Prop} {s : Shared} {l : Addr} {items : Array Value} {Q : Value → Shared → Prop} (hL : s.heap.IsTuple l items)
    (h : ∀ h', IsEnum h' (s.heap.objs.size + 1) s.heap.objs.size 0 .none → h'.IsTupleIter s.heap.objs.size l 0 → h'.objs.size = s.heap.objs.size + 2 →
      (∀ b o, s.heap.get? b = some o → h'.get? b = some o) → Q (.ref (s.heap.objs.size + 1)) { s with heap := h' }) :
    wpAny (model prog w) A (call (.type "enumerate") [.ref l]) Q E s := by
  refine callType_new F.called_enumerate (by decide) (F.typeCall_enumerate_1 _) (F.newCall_enumerate_1 _) (fun obj => F.args_object_init_2 obj _) F.entry_enumerate_new
    meets_enumerate_newT ⟨hL, ?_⟩
  have hz : (s.heap.push { cls := .type "tuple_iterator", data := .fields #[.ref l, .int 0 0] }).objs.size = s.heap.objs.size + 1 := Heap.size_push ..
  show _ ∧ _
  rw [hz]
  have he : IsEnum ((s.heap.push { cls := .type "tuple_iterator", data := .fields #[.ref l, .int 0 0] }).push
      { cls := .type "enumerate", data := .fields #[.none, .bool false, .ref s.heap.objs.size, rawInt 0, .none, .none] }) (s.heap.objs.size + 1) s.heap.objs.size 0 .none := by
    have := Heap.get?_push_size (s.heap.push { cls := .type "tuple_iterator", data := .fields #[.ref l, .int 0 0] })
      (o := { cls := .type "enumerate", data := .fields #[.none, .bool false, .ref s.heap.objs.size, rawInt 0, .none, .none] }) rfl
    rw [hz] at this; exact this
  refine ⟨⟨_, he, rfl⟩, h _ he ⟨_, Heap.get?_push_of_some _ (Heap.get?_push_size _ rfl), rfl, rfl⟩ (by rw [Heap.size_push, hz]) fun b o x => Heap.get?_push_of_some _ (Heap.get?_push_of_some _ x)⟩
theorem turn_enumT {P : Program} {w : World} {K : PySem.W.Frag} {elts : List Expr} {kk : Nat} {tpos : Pos} (a e it : Addr) (hai : a ≠ it) :
    Turn P w K (.Tuple elts kk tpos) (IteT K a) [e, it] e (fun i h => (∃ old, IsEnum h e it ((i : Nat) : Int) old) ∧ h.IsTupleIter it a i ∧ e ≠ it ∧ e ≠ a) where
  mem := by simp
  obj := fun i h st b hb => by
    obtain ⟨⟨old, he⟩, ⟨o, ho, hc, hd⟩, _⟩ := st
    have e' : b = e ∨ b = it := by simpa using hb
    rcases e' with z | z
    · rw [z]; exact ⟨_, he, fun v q => nomatch q⟩
    · rw [z]; exact ⟨o, ho, fun v q => by rw [hd] at q; cases q⟩
  keep := fun i h h' st k => let ⟨⟨old, he⟩, hi, hne⟩ := st; ⟨⟨old, k e (by simp) _ he⟩, hi.at fun o q => k it (by simp) o q, hne⟩
  item := by
    intro X hP hw hK hc i pins s σ H E I hf st hg
    subst hP hw hK
    obtain ⟨⟨old, he⟩, hit, hne, hnea⟩ := st
    obtain ⟨xs, x, hq, hx⟩ := hg
    obtain ⟨its, rv, p, hz⟩ := I.tuple hq
    obtain ⟨u, hu, ru⟩ := rv.get hx
    have hi : i < its.toArray.size := by
      rw [List.size_toArray]
      exact (List.getElem?_eq_some_iff.mp hu).1
    have hel : e < s.heap.objs.size := Heap.lt_size he
    have hil : it < s.heap.objs.size := by obtain ⟨_, q, _⟩ := hit; exact Heap.lt_size q
    refine wpAny_pyNext_enum_itemD (Draws.tuple (A := X.A.in1) (show X.A.in1.handled = none from I.ok.hd hc) it a hai its.toArray) he ⟨hit, p⟩ hi hne (by simp [hne, hnea]) fun u' h' tk hP ho hit' hT hsz hk => ?_
    have eu : u' = u := by
      have : its.toArray[i]? = some u := by simpa using hu
      rw [this] at hP
      exact (Option.some.inj hP).symm
    subst eu
    refine ⟨_, rfl, wpAny_letOwnedTupleGo_enum (s := { s with heap := h', toks := tk + 1 }) ho fun h'' he' sb => ?_⟩
    have hT2 : h''.get? s.heap.objs.size = some { cls := .type "tuple", data := .seq #[.int i tk, u'] } := (sb.2 _ (Nat.ne_of_gt hel)).trans hT
    have new : ObjOk X.prog X.w (upd H s.heap.objs.size (.tup [.int (i : Nat), x])) h'' s.heap.objs.size (.tup [.int (i : Nat), x]) :=
      ⟨by show 2 ≤ sizeLine; decide, [.int i tk, u'], .cons ⟨_, rfl⟩ (.cons ru .nil), ⟨_, hT2, rfl, _, rfl⟩⟩
    have I1 : Inv X pins σ (upd H s.heap.objs.size (.tup [.int (i : Nat), x])) { s with heap := h'', toks := tk + 1 } :=
      I.turnedNew (ch := [e, it]) (fun b ob hb q => (sb.2 b (fun z => hb (by simp [z]))).trans (hk b ob (fun z => hb (by simp [z])) (fun z => hb (by simp [z])) q)) hf (Nat.le_refl _) new
    refine ⟨.ref s.heap.objs.size, _, I1, rfl, ⟨_, x, rfl, I.hok.fresh (Nat.le_refl _), rfl, fun ys hy => by rw [I.tuple_inj hy hq]; exact hx⟩, ⟨⟨u', ?_⟩, hit'.1.at fun o q => (sb.2 it (Ne.symm hne)).trans q, hne, hnea⟩, fun b hb => ?_⟩
    · have e1 : ((i + 1 : Nat) : Int) = (i : Int) + 1 := by omega
      rw [e1]; exact he'
    · have hb' : b < s.heap.objs.size := by
        have e' : b = e ∨ b = it := by simpa using hb
        rcases e' with z | z
        · rw [z]; exact hel
        · rw [z]; exact hil
      rw [upd_ne (Nat.ne_of_lt hb')]
      exact (hf b hb).1
  done := by
    intro X hP hw hK hc i pins s σ H E I hf st hg
    subst hP hw hK
    obtain ⟨⟨old, he⟩, hit, hne, hnea⟩ := st
    obtain ⟨xs, hq, hx⟩ := hg
    obtain ⟨its, rv, p, hz⟩ := I.tuple hq
    obtain ⟨f0, f1, f2, f3, f4, f5⟩ := hf it (by simp)
    have hl := rv.length
    have hend : its.toArray[i]? = none := by simp; omega
    refine enumT_end (I.ok.hd hc) he hit p hend fun h' eb => ⟨rfl, I.turned (t' := s.toks) (fun b o hb q => eb b o hb q) f0 f1 f3 f4 f5⟩
  self := fun A i s Q E st h => let ⟨⟨_, he⟩, _⟩ := st; wpAny_pyIter_enum he h
def iEnumT (K : PySem.W.Frag) (ta : TA) : TI := fun σ H R => ta σ H fun vs H1 => ∃ a xs, vs = [.ref a] ∧ SqT K H1 a xs ∧ R (IteT K a) H1
theorem pi_enumT {X : Cx} {e : Expr} {ta : TA} {p pos tpos : Pos} {elts : List Expr} {kk : Nat} (hg : Gl X "enumerate") (hm : X.mg "enumerate" = none) (ha : PA X [e] ta) (hs : starEach [e] X.env = [(false, eval e X.env)] := by rfl) :
    PI X (.Tuple elts kk tpos) (.Call (.Name "enumerate" p) [e] [] pos) (iEnumT X.K ta) := by
  refine ⟨fun pins s σ H R I h => ?_⟩
  refine Call_ (ld_blt I hg hm boot_enumerate (PyProof.Rows.callWith_type1 (thn (ha.run pos pins s σ H _ I h) fun us s1 ⟨vs, H1, I1, r1, q1⟩ => ?_) hs rfl))
  obtain ⟨a, xs, ex, hq, q⟩ := q1
  subst ex
  cases r1 with
  | cons r rr =>
    cases rr
    cases r
    obtain ⟨its, rv, p', hz⟩ := I1.tuple hq
    have la : a < s1.heap.objs.size := p'.lt
    refine call_enumerate_tup p' fun h' he hit hsz hk => wpAny_pyIter_enum he ?_
    have I2 : Inv X pins σ H1 { s1 with heap := h' } := I1.kept (t' := s1.toks) hk
    refine ⟨s1.heap.objs.size + 1, [s1.heap.objs.size + 1, s1.heap.objs.size], _, _, H1, rfl, I2, turn_enumT a (s1.heap.objs.size + 1) s1.heap.objs.size (Nat.ne_of_lt la), ⟨⟨.none, he⟩, hit, Nat.succ_ne_self _, fun z => Nat.lt_irrefl a (Nat.lt_trans la (z ▸ Nat.lt_succ_self _))⟩, fun b hb => ?_, q⟩
    have e' : b = s1.heap.objs.size + 1 ∨ b = s1.heap.objs.size := by simpa using hb
    have hle : s1.heap.objs.size ≤ b := by
      rcases e' with z | z
      · rw [z]; exact Nat.le_add_right _ _
      · rw [z]; exact Nat.le_refl _
    exact I1.fpOk hle (I1.hok.fresh hle)
end JP

namespace JP
open PySem PySem.Spec PyProof.Rows L2

theorem same_updN {H H' : Hp} {D : Addr} {o : HO} (h : Same H H') (n : H D = none) : Same H (upd H' D o) := fun b u e => by
  rw [upd_ne (ne_of_none e n)]
  exact h b u e
theorem but_updN {p : Addr} {H H' : Hp} {D : Addr} {o : HO} (h : But p H H') (n : H D = none) : But p H (upd H' D o) := fun b u hb e => by
  rw [upd_ne (ne_of_none e n)]
  exact h b u hb e
/-- the list of a comprehension at D: what is made so far, and P of the turn, of it, of the heap -/
def AccP (D : Addr) (P : Nat → List V → Hp → Prop) (i : Nat) (H : Hp) : Prop := ∃ acc, H D = some (.lst acc) ∧ acc.length ≤ i ∧ P i acc H
theorem AccP.zero {D : Addr} {P : Nat → List V → Hp → Prop} {H : Hp} (h : P 0 [] (upd H D (.lst []))) : AccP D P 0 (upd H D (.lst [])) := ⟨[], upd_same, Nat.le_refl _, h⟩
theorem AccP.put {D : Addr} {P : Nat → List V → Hp → Prop} {H : Hp} {i : Nat} {acc : List V} {y : V} (hn : i < sizeLine) (e : H D = some (.lst acc)) (l : acc.length ≤ i) (p : P (i + 1) (acc ++ [y]) (upd H D (.lst (acc ++ [y])))) :
    ∃ acc, H D = some (.lst acc) ∧ acc.length < sizeLine ∧ AccP D P (i + 1) (upd H D (.lst (acc ++ [y]))) :=
  ⟨acc, e, by omega, acc ++ [y], upd_same, by simp; omega, p⟩
theorem AccP.skip {D : Addr} {P : Nat → List V → Hp → Prop} {H : Hp} {i : Nat} {acc : List V} (e : H D = some (.lst acc)) (l : acc.length ≤ i) (p : P (i + 1) acc H) : AccP D P (i + 1) H := ⟨acc, e, by omega, p⟩
theorem small_size {n : Nat} (h : n ≤ 1000) : n < sizeLine := by
  rw [sizeLine_eq]
  omega
theorem take_next {α : Type} {xs : List α} {i : Nat} {x : α} (h : xs[i]? = some x) : xs.take (i + 1) = xs.take i ++ [x] := by
  rw [List.take_succ, h]
  rfl
/-- the map so far -/
def MapP {α : Type} (Rl : Hp → Prop) (xs : List α) (f : α → V) : Nat → List V → Hp → Prop := fun i acc H => Rl H ∧ acc = (xs.take i).map f
theorem mapP_next {α : Type} {Rl : Hp → Prop} {xs : List α} {f : α → V} {i : Nat} {acc : List V} {H : Hp} {x : α} (h : xs[i]? = some x) (e : acc = (xs.take i).map f) (r : Rl H) : MapP Rl xs f (i + 1) (acc ++ [f x]) H := ⟨r, by rw [take_next h, e, List.map_append]; rfl⟩
theorem dec_int (a b : Int) : decide (V.int a = V.int b) = decide (a = b) := by simp
theorem walk_enumT {K : PySem.W.Frag} {a : Addr} {xs : List V} : Walk (IteT K a) xs.length (fun H => SqT K H a xs) (YPair (fun i => some (.int (i : Nat))) (fun i => xs[i]?)) := by
  refine ⟨fun i _ hi q => ⟨xs, xs[i], q, by simp [hi]⟩, fun _ q => ⟨xs, q, Nat.le_refl _⟩, fun i H v H' _ q y => ?_⟩
  obtain ⟨T, x, h1, h2, h3, h4⟩ := y
  exact ⟨T, .int (i : Nat), x, h1, h2, h3, rfl, h4 xs q⟩
theorem walk_zipT {K : PySem.W.Frag} {a b : Addr} {xs ys : List V} {n : Nat} (hn : n = min xs.length ys.length) : Walk (RZ.ItzT K a b) n (fun H => SqT K H a xs ∧ SqT K H b ys) (YPair (fun i => xs[i]?) (fun i => ys[i]?)) := by
  subst hn
  refine ⟨fun i _ hi q => ?_, fun _ q => ⟨xs, ys, q.1, q.2, by omega⟩, fun i H v H' _ q y => ?_⟩
  · have h1 : i < xs.length := by omega
    have h2 : i < ys.length := by omega
    exact ⟨xs, ys, xs[i], ys[i], q.1, q.2, by simp [h1], by simp [h2]⟩
  · obtain ⟨T, x, z, h1, h2, h3, h4, h5⟩ := y
    exact ⟨T, x, z, h1, h2, h3, h4 xs q.1, h5 ys q.2⟩
theorem get_int {ns : List Int} {i : Nat} {x : V} (h : (ns.map V.int)[i]? = some x) : ∃ n, ns[i]? = some n ∧ x = .int n := by
  rw [List.getElem?_map] at h
  obtain ⟨n, e, r⟩ := Option.map_eq_some_iff.mp h
  exact ⟨n, e, r.symm⟩
theorem atI_int {ns : List Int} {k : Nat} (h : k < ns.length) : atI (ns.map V.int) (k : Int) = some (.int (ns.getD k 0)) := atI_nat (by
  rw [List.getElem?_map, List.getD_eq_getElem?_getD, List.getElem?_eq_getElem h]
  rfl)
theorem getD_mem {ns : List Int} {k : Nat} (h : k < ns.length) : ns.getD k 0 ∈ ns := by
  rw [List.getD_eq_getElem?_getD, List.getElem?_eq_getElem h]
  exact List.getElem_mem h
theorem in64 {n : Int} (h : n.natAbs < 2 ^ 40) : -(2 ^ 64) < n ∧ n < 2 ^ 64 := by omega
theorem ixT {X : Cx} {K : PySem.W.Frag} (h : X.K = K) : IxR X (rIxT K) := h ▸ ix_tup
theorem ixL {X : Cx} {K : PySem.W.Frag} (h : X.K = K) : IxR X (rIxL K) := h ▸ ix_list
theorem eqD {X : Cx} {K : PySem.W.Frag} (hu : X.A.units + 64 < cLine) (h : X.K = K) : OpR X (compareOp .Eq) (rEqD K) := h ▸ op_eqD hu
theorem But.tup {p c a : Addr} {m : Nat} {H H' : Hp} {xs : List V} (b : But p H H') (hP : Pen H p c m) (h : H a = some (.tup xs)) : H' a = some (.tup xs) := by
  obtain ⟨ys, e⟩ := hP.at_
  exact b a _ (ne_of h e (by intro z; cases z)) h
theorem eqv_lI (a b : List Int) : PyData.eqv (.list (a.map .int)) (.list (b.map .int)) = decide (a = b) := by
  rw [← PySem.W.ked_eqvAll]
  simp [PyData.eqv]
theorem eqv_tI (a b : List Int) : PyData.eqv (.tuple (a.map .int)) (.tuple (b.map .int)) = decide (a = b) := by
  rw [← PySem.W.ked_eqvAll]
  simp [PyData.eqv]
/-- the numbers below i at which f holds -/
def pickI (f : Nat → Bool) (i : Nat) : List Int := ((List.range i).filter f).map fun (j : Nat) => (j : Int)
theorem pickI_succ (f : Nat → Bool) (i : Nat) : pickI f (i + 1) = if f i = true then pickI f i ++ [(i : Int)] else pickI f i := by
  unfold pickI
  rw [List.range_succ, List.filter_append, List.map_append, List.filter_cons, List.filter_nil]
  split
  · rfl
  · rw [List.map_nil, List.append_nil]
theorem pickI_len (f : Nat → Bool) (i : Nat) : (pickI f i).length ≤ i := by
  unfold pickI
  rw [List.length_map]
  exact Nat.le_trans (List.length_filter_le _ _) (by simp)
theorem pickI_nil (f : Nat → Bool) (i : Nat) : pickI f i = [] ↔ ∀ j, j < i → f j = false := by
  unfold pickI
  rw [List.map_eq_nil_iff, List.filter_eq_nil_iff]
  constructor
  · intro z j hj
    exact Bool.eq_false_iff.mpr (z j (List.mem_range.mpr hj))
  · intro z j hj
    exact Bool.eq_false_iff.mp (z j (List.mem_range.mp hj))
theorem pickI_first (f : Nat → Bool) {k : Nat} (hk : f k = true) (hz : ∀ j, j < k → f j = false) : ∀ i, k < i → ∃ r, pickI f i = (k : Int) :: r := by
  intro i hi
  induction i with
  | zero => omega
  | succ i ih =>
    rw [pickI_succ]
    by_cases e : i = k
    · subst e
      rw [if_pos hk, (pickI_nil f i).mpr hz]
      exact ⟨[], rfl⟩
    · obtain ⟨r, hr⟩ := ih (by omega)
      rw [hr]
      split
      · exact ⟨r ++ [(i : Int)], rfl⟩
      · exact ⟨r, rfl⟩
theorem toNat_len {α β : Type} (xs : List α) (f : α → β) : (((xs.map f).length : Nat) : Int).toNat = xs.length := by
  rw [List.length_map, Int.toNat_natCast]
theorem shapedT (ns : List Int) : SeqAt.shaped (.tuple (ns.map PyData.int)) = true := by
  simp [SeqAt.shaped, PyData.canLay0, PyData.depth, PySem.W.ke_canLayAll0, PySem.W.ke_depthAll]
end JP

namespace JP
open PySem PySem.Spec PyProof.Rows L2

/-! ### calls with keywords alone -/
section
variable {X : Cx} {CX : CXT} {k : Nat} {f : Addr} {fd : FuncData} {ps ks : List Str} {sp : Sp} {E : XK} {x : Str} {p pos : Pos} {kws : List Keyword} {tk : TA} {g : List Value → List Value → List Value} {gV : List V → List V → List V}
def tCallK0 (sp : Sp) (gV : List V → List V → List V) (E : XK) (tk : TA) : TE := fun σ H Q => tk σ H fun zs H2 => sp (gV [] zs) H2 Q E
/-- f(k = v, ..), nothing by position -/
theorem pe_callK0 (F : FnOk X.prog X.w X.K X.mg X.base CX k f fd ps sp) (hr : Room k X.A) (hg : Gl X x) (hm : X.mg x = some (.ref f)) (hk : PySem.W.keepIn X.K (.ref f) = true) (hb : KBinds X.K fd ps ks g gV) (hx : Passes CX X E)
    (hkw : PK X kws tk) (hall : (backToKw pos (keywordEach kws X.env)).all (·.1.isSome) = true := by rfl) (hks : (backToKw pos (keywordEach kws X.env)).filterMap (·.1) = ks := by rfl)
    (hdb : (x == ("__debug__" : Str)) = false := by decide)
    (hpl : ((backTo pos (starEach [] X.env)).any (·.1) || (backToKw pos (keywordEach kws X.env)).any (·.1.isNone)) = false := by rfl) :
    PE X (.Call (.Name x p) [] kws pos) (tCallK0 sp gV E tk) := by
  refine ⟨fun pins s σ H Q I h => ?_⟩
  refine wpAny_Call_Name_kw (ld_glob I hg hm ?_ hdb)
  refine PySem.W.callWith_KW0 (h₀ := X.base) I.ok.mod.kin hk hall (thn (hkw.run pos pins s σ H _ I h) fun ws s2 ⟨zs, H2, I2, rz, q2⟩ => ⟨I2.kIn, ?_⟩) hpl
  rw [hks]
  exact run_fnk (us := []) (vs := []) F hr hb hx I2 .nil rz q2
end
/-- the arguments in the parameters' order, told by their places among all arguments -/
def gPerm {α : Type} (np nk : Nat) (ix : List Nat) (us ws : List α) : List α := if us.length = np ∧ ws.length = nk then ix.filterMap (fun i => (us ++ ws)[i]?) else []
theorem gPerm_len {α : Type} {np nk n : Nat} {ix : List Nat} {us ws : List α} (h : (gPerm np nk ix us ws).length = n) (h0 : 0 < n) : us.length = np ∧ ws.length = nk := by
  unfold gPerm at h
  split at h
  · assumption
  · simp at h
    omega
theorem gPerm_rel {np nk : Nat} {ix : List Nat} {vs zs : List V} {us ws : List Value} (r : Vals vs us) (q : Vals zs ws) : Vals (gPerm np nk ix vs zs) (gPerm np nk ix us ws) := by
  unfold gPerm
  rw [r.length, q.length]
  split
  · have a := Vals.append r q
    clear r q
    generalize vs ++ zs = xs at a
    generalize us ++ ws = ys at a
    induction ix with
    | nil => exact .nil
    | cons i ix ih =>
      rw [List.filterMap_cons, List.filterMap_cons]
      cases e : xs[i]? with
      | none => rw [a.none_of e]; exact ih
      | some x =>
        obtain ⟨u, hu, ru⟩ := a.get e
        rw [hu]
        exact .cons ru ih
  · exact .nil
theorem same_seqL' {K : PySem.W.Frag} {a : Addr} {H H' : Hp} {xs : List V} (e : Same H H') (h : SqL K H a xs) : SqL K H' a xs := by
  rcases h with (h | ⟨o, h⟩) | h
  · exact .inl (.inl (e _ _ h))
  · exact .inl (.inr ⟨o, e _ _ h⟩)
  · exact .inr h
/-- for_it, the ends one by one -/
theorem for_it2 {J : It} {n : Nat} {G : Hp → Prop} {Y : Nat → Hp → V → Hp → Prop} (w : Walk J n G Y) {g : TG} {tb : TS} {B : L2.St → Hp → Prop} {R : VK} {σ : L2.St} {H : Hp} (Pv : Nat → L2.St → Hp → Prop) (h0 : Pv 0 σ H) (hG : ∀ i σ H, i ≤ n → Pv i σ H → G H)
    (hs : ∀ i x σ H H', i < n → Pv i σ H → Y i H x H' → g x σ H' fun σ2 H2 => tb { nx := Pv (i + 1), rt := R, bk := B, ct := Pv (i + 1) } σ2 H2) (hd : ∀ σ H, Pv n σ H → B σ H) :
    ∃ W : Nat → Nat → L2.St → Hp → Prop, (∃ m, W 0 m σ H) ∧ ∀ i m σ H, W i m σ H →
      (J.stop i H ∧ B σ H) ∨ (J.go i H ∧ ∃ N : L2.St → Hp → Prop, (∀ σ' H', N σ' H' → ∃ m', m' < m ∧ W (i + 1) m' σ' H') ∧ ∀ x H', J.yld i H x H' → g x σ H' fun σ2 H2 => tb { nx := N, rt := R, bk := B, ct := N } σ2 H2) :=
  for_it w (D := { nx := B, rt := R, bk := B, ct := B }) Pv h0 hG hs hd
end JP

namespace JP
open PySem PySem.Spec PyProof.Rows L2

/-! ### an exception that was caught and is kept by a name -/
/-- at a: an exception of the class cls, its dict d -/
def xo (a : Addr) (cls : Value) (d : Option Addr) : HO := .ext fun h => ∃ oe, h.get? a = some oe ∧ Zc cls d oe ∧ ∃ vs, oe.data = .fields vs
theorem xo_tup {a : Addr} {cls : Value} {d : Option Addr} {xs : List V} : xo a cls d ≠ .tup xs := fun z => by
  have q : HO.ext _ = HO.tup xs := z
  cases q
theorem xo_lst {a : Addr} {cls : Value} {d : Option Addr} {xs : List V} : xo a cls d ≠ .lst xs := fun z => by
  have q : HO.ext _ = HO.lst xs := z
  cases q
theorem xo_ok {P : Program} {w : World} {H : Hp} {h : Heap} {a : Addr} {cls : Value} {d : Option Addr} {oe : Obj} (e : h.get? a = some oe) (z : Zc cls d oe) (f : ∃ vs, oe.data = .fields vs) : ObjOk P w H h a (xo a cls d) :=
  ⟨⟨oe, e, z, f⟩, ⟨oe, e⟩, fun _ _ ⟨o, e1, r⟩ k => ⟨o, k o e1, r⟩⟩
theorem xo_at {P : Program} {w : World} {H : Hp} {h : Heap} {a : Addr} {cls : Value} {d : Option Addr} (k : HOk P w H h) (e : H a = some (xo a cls d)) : ∃ oe, h.get? a = some oe ∧ Zc cls d oe ∧ ∃ vs, oe.data = .fields vs := by
  have x : ObjOk P w H h a (.ext fun h => ∃ oe, h.get? a = some oe ∧ Zc cls d oe ∧ ∃ vs, oe.data = .fields vs) := k a _ e
  exact x.1
section
variable {X : Cx} {pins : List (Addr × Obj)} {σ : L2.St} {H : Hp} {s : Shared}
/-- an object that is known by a pin, new since the def was entered, is tracked from now on -/
theorem track {a : Addr} {oe : Obj} {cls : Value} {d : Option Addr} (I : Inv X ((a, oe) :: pins) σ H s) (z : Zc cls d oe) (f : ∃ vs, oe.data = .fields vs) (np : ∀ p ∈ X.pn ++ pins, p.1 ≠ a) (n0 : X.s_0.heap.get? a = none) :
    Inv X pins σ (upd H a (xo a cls d)) s := by
  obtain ⟨e, n, nl, nf, nc⟩ := I.pin (a, oe) (List.mem_append_right _ List.mem_cons_self)
  have old : ∀ {b : Addr} {o : Obj}, X.s_0.heap.get? b = some o → b ≠ a := fun {b o} q w => by
    rw [w, n0] at q
    cases q
  have no : ∀ {b : Addr} {o : HO}, H b = some o → b ≠ a := fun q => ne_of_none q n
  refine ⟨I.ok, I.os, I.bare, ⟨I.base.keep, I.base.slot, fun b o q m hx => ?_, I.base.there, fun b xs q => ?_, fun b o u q => ?_, fun b ps q => ?_⟩, I.loc, I.cell, ?_, fun x c q => ?_, fun p hp => ?_, fun b u q => ?_, I.len⟩
  · rw [upd_ne (old q)]
    exact I.base.free b o q m hx
  · have := I.base.tups b xs q
    rw [upd_ne (no this)]
    exact this
  · have := I.base.frzs b o u q
    rw [upd_ne (no this)]
    exact this
  · obtain ⟨more, this⟩ := I.base.tbls b ps q
    exact ⟨more, (upd_ne (no this)).trans this⟩
  · rw [upd_ne nl.symm]
    exact I.free
  · have : c ≠ a := fun w => by
      obtain ⟨v, o, ho, hd⟩ := I.cell x c q
      rw [w, show s.heap.get? a = some oe from e] at ho
      cases ho
      exact nc v hd
    rw [upd_ne this]
    exact I.freeC x c q
  · obtain ⟨p1, p2, p3⟩ := I.pin p (by
      rcases List.mem_append.mp hp with w | w
      · exact List.mem_append_left _ w
      · exact List.mem_append_right _ (List.mem_cons_of_mem _ w))
    exact ⟨p1, (upd_ne (np p hp)).trans p2, p3⟩
  · by_cases hb : b = a
    · subst hb
      rw [upd_same] at q
      cases q
      exact xo_ok e z f
    · rw [upd_ne hb] at q
      exact (I.hok b u q).stay (fun _ _ _ y => y) (fun c y => (upd_ne (no y)).trans y) fun c xs y => (upd_ne (no y)).trans y
theorem unsuiteP {a : Addr} {oe : Obj} (I : Inv (X.suite a ((a, oe) :: (X.pn ++ pins))) [] σ H s) (ok : X.Ok) : Inv X ((a, oe) :: pins) σ H s :=
  ⟨ok, I.os, I.bare, I.base, I.loc, I.cell, I.free, I.freeC, fun p hp => I.pin p (by
    rw [List.append_nil]
    rcases List.mem_append.mp hp with w | w
    · exact List.mem_cons_of_mem _ (List.mem_append_left _ w)
    · rcases List.mem_cons.mp w with w | w
      · rw [w]
        exact List.mem_cons_self
      · exact List.mem_cons_of_mem _ (List.mem_append_right _ w)), I.hok, I.len⟩
end
/-- what 'except x as n: suite' wishes of an exception of the body, where the suite runs through and the exception is kept -/
def wHeld (K : PySem.W.Frag) (c : Value) (i : Nat) (ts : Addr → Value → Option Addr → TS) (Wout : WX) (D : Ends) : WX := fun cls d σ H =>
  ∃ b, PySem.W.exmOne K cls c = some b ∧ (b = true → ∀ a, H a = none → ts a cls d { nx := fun σ' H' => D.nx (σ'.set i none) (upd H' a (xo a cls d)), rt := fun _ _ => False, bk := fun _ _ => False, ct := fun _ _ => False } (σ.set i (some (.ref a))) H) ∧
    (b = false → Wout cls d σ H)
section
variable {X : Cx} {x n : Str} {c : Value} {i : Nat} {body suite : List Stmt} {b₀ : Stmt} {np pos pos' : Pos} {tb : WX → TS} {ts : Addr → Value → Option Addr → TS} {Wout : WX}
theorem ps_try_held (hs : X.stack = X.env :: X.outer) (hf : X.env.frame = some X.env.locals) (hex : X.ex = []) (hN : X.N.Nodup) (hi : X.N[i]? = some n) (hln : X.env.kindOf n = some .local) (hc : Names X x c) (tk : Takes X Wout)
    (hb : ∀ (W : WX) (pn : List (Addr × Obj)) (xe : Value → Shared → Prop), Takes (X.tr pn xe) W → PassesOwn (model X.prog X.w) X.A X.env xe → PSs (X.tr pn xe) body (tb W))
    (hsu : ∀ (a : Addr) (oe : Obj) (cls : Value) (d : Option Addr) (pn : List (Addr × Obj)), Zc cls d oe → (∃ vs, oe.data = .fields vs) → PSs (X.suite a ((a, oe) :: pn)) (b₀ :: suite) (ts a cls d)) :
    PS X (.Try body [.ExceptHandler (some (.Name x np)) (some n) (b₀ :: suite) pos'] [] [] pos) (fun D σ H => tb (wHeld X.K c i ts Wout D) D σ H) := by
  constructor
  intro pins s σ H D I h
  have ok := I.ok
  have hfr : X.A.frames = some (X.env :: X.outer) := ok.frames.trans (congrArg some hs)
  have frsE : frs X.stack = X.env.locals :: X.fs := by
    rw [hs]
    show (X.env :: X.outer).filterMap _ = _
    rw [List.filterMap_cons, hf]
    rfl
  apply wpAny_Try_except
  refine wpAny_mono ((hb (wHeld X.K c i ts Wout D) (X.pn ++ pins)
    (fun e t => wpAny (model X.prog X.w) X.A (noteFrame e X.env) (fun _ t => wpAny (model X.prog X.w) X.A (setFlight e none) (fun _ t => wpAny (model X.prog X.w) X.A
      (handleBy e X.env [.ExceptHandler (some (.Name x np)) (some n) (b₀ :: suite) pos']) (SP X pins D) X.xe t) X.xe t) X.xe t)
    (fun u s' xx => ?ctch) PassesOwn.looking).run [] s σ H D (I.toTry _) h) (fun f s1 hsp => ?thru) (fun e s1 he => he)
  case thru =>
    cases f with
    | next => exact let ⟨_, _, J, q⟩ := hsp; wpAny_execs_nil ⟨_, _, J.ofTry ok, q⟩
    | brk => exact let ⟨_, _, J, q⟩ := hsp; ⟨_, _, J.ofTry ok, q⟩
    | cont => exact let ⟨_, _, J, q⟩ := hsp; ⟨_, _, J.ofTry ok, q⟩
    | ret u => exact let ⟨_, _, _, J, r, q⟩ := hsp; ⟨_, _, _, J.ofTry ok, r, q⟩
  case ctch =>
    obtain ⟨a, B, sI, pins', σ', H', cls, d, rfl, J', nb, up, sky, na, os, ag, b, hb1, hyes, hno⟩ := xx
    have J := J'.ofTry ok
    show wpAny (model X.prog X.w) X.A (noteFrame (.ref a) X.env) _ _ _
    refine Sky.land Zc.steady hfr hf (hs ▸ sky) fun h3 fl3 up3 => ?_
    have J3 := J.landed (s' := { s' with heap := h3 }) nb fl3.1 (up.trans up3) os ag
    obtain ⟨oe3, vs3, he3, hz3, hd3⟩ := fl3.there
    have nfr : a ∉ frs (X.env :: X.outer) := fun hm => by
      obtain ⟨_, o', e', hnf⟩ := fl3.2.2.1.mem hm
      rw [he3] at e'
      cases e'
      exact hnf _ hd3
    have nfs : a ∉ X.env.locals :: X.fs := by rwa [← frsE, hs]
    have nL : a ≠ X.env.locals := fun z => nfs (z ▸ List.mem_cons_self)
    have nF : a ∉ X.fs := fun z => nfs (List.mem_cons_of_mem _ z)
    have nB : B.get? a = none := fl3.2.1
    have inB : ∀ b o, sI.heap.get? b = some o → b ∉ X.env.locals :: X.fs → b ≠ a := fun b o e nm z => by
      have := nb b o e (by rw [frsE]; exact nm)
      rw [z, nB] at this
      cases this
    have pinsNot : ∀ p ∈ X.pn ++ pins, p.1 ≠ a := fun p hp => by
      obtain ⟨p1, _, p3, p4, _⟩ := J.pin p hp
      exact inB p.1 _ p1 fun hm => by
        rcases List.mem_cons.mp hm with w | w
        · exact p3 w
        · exact p4 w
    have new0 : X.s_0.heap.get? a = none := by
      cases e : X.s_0.heap.get? a with
      | none => rfl
      | some o =>
        obtain ⟨o', e'⟩ := J.base.there a o e (by rw [hex]; exact List.not_mem_nil)
        exact absurd rfl (inB a o' e' nfs)
    have S3 := J3.suite he3 hd3 na nL nF
    refine wpAny_handleBy_cons (codeAny_handlers_test ?_) (by intro q; cases q)
    have LT : PySem.W.Looks (model X.prog X.w) h3 (typeOf (.ref a)) cls := fun A Q E s k q => wpAny_typeOf_ref (k _ _ he3) (by rw [hz3.1]; exact q)
    have LM := PySem.W.exm_one (M := model X.prog X.w) (J3.kIn) LT hb1
    have test : ∀ {Q : Value → Shared → Prop} {E : Value → Shared → Prop}, Q c { s' with heap := h3 } → wpAny (model X.prog X.w) (X.A.mark (some (.ref a))) (eval (.Name x np) X.env) Q E { s' with heap := h3 } := fun {Q E} q => by
      rcases hc with ⟨hg, hdbg, hm | ⟨hm, hv, hnn⟩⟩
      · exact ld_glob (X := X.suite a ((a, oe3) :: (X.pn ++ pins))) S3 hg hm q hdbg
      · exact ld_blt (X := X.suite a ((a, oe3) :: (X.pn ++ pins))) S3 hg hm hv q hnn hdbg
    refine test (LM.here ?_)
    cases b with
    | true =>
      refine codeAny_handlers_suite_as ?_
      refine HandSPX.lands_againZ fl3 fun h4 fl4 up4 => ?_
      have J4 := J.landed (s' := { s' with heap := h4 }) nb fl4.1 ((up.trans up3).trans up4) os ag
      obtain ⟨oe4, vs4, he4, hz4, hd4⟩ := fl4.there
      refine store_ok (X := X.suite a ((a, oe4) :: (X.pn ++ pins))) (v := .ref a) (J4.suite he4 hd4 na nL nF) hN hi (.inl hln) rfl (fun s5 S5 => ?_) (.inr hln)
      refine wpAny_mono ((hsu a oe4 cls d (X.pn ++ pins) hz4 ⟨_, hd4⟩).run [] s5 _ H' _ S5 (hyes rfl a na)) (fun f s6 hsp => ?_) (fun _ _ z => z.elim)
      cases f with
      | next =>
        obtain ⟨σ6, H6, S6, q6⟩ := hsp
        exact gone_ok (unsuiteP S6 ok) hN hi hln fun s7 J7 => ⟨_, _, track J7 hz4 ⟨_, hd4⟩ pinsNot new0, q6⟩
      | brk => exact let ⟨_, _, _, q⟩ := hsp; q.elim
      | cont => exact let ⟨_, _, _, q⟩ := hsp; q.elim
      | ret u => exact let ⟨_, _, _, _, _, q⟩ := hsp; q.elim
    | false =>
      show wpAny _ X.A (handleBy (.ref a) X.env []) _ _ _
      refine wpAny_handleBy_nil ?_
      obtain ⟨k1, k2, k3, oe, vs, T, oT, ts', he, hz, hd, h1, hr⟩ := id fl3
      unfold PySem.passOn
      refine wpAny_bind (wpAny_field he hd h1 ?_)
      rw [if_neg (show ¬ ((Value.ref T == Value.none) = true) from by simp)]
      have fin : wpAny (model X.prog X.w) X.A (setFlight (.ref a) X.env.frame) (fun _ s4 => wpAny (model X.prog X.w) X.A (throw (.ref a) : Sem Flow) (SP X pins D) X.xe s4) X.xe { s' with heap := h3 } := by
        rw [hf]
        refine HandSPX.setFlight_upZ fl3 fun h4 hh4 up4 => wpAny_throw (tk _ _ ?_)
        exact ⟨a, B, sI, pins, σ', H', cls, d, rfl, J, nb, (up.trans up3).trans up4, .inr (.inr (by rw [hs]; exact hh4)), na, os, ag, hno rfl⟩
      first
        | exact wpAny_bind (wpAny_pure (wpAny_bind fin))
        | exact wpAny_bind fin
end
end JP

namespace JP
open PySem PySem.Spec PyProof.Rows L2

/-! ### an exception that is held: its fields, its class -/
/-- an exception of the class at C, held at a, with the fields fs -/
def Held (H : Hp) (a C : Addr) (fs : List (Str × V)) : Prop := (∃ d, H a = some (xo a (.ref C) (some d)) ∧ H d = some (.xd fs)) ∨ (fs = [] ∧ H a = some (xo a (.ref C) none))
section
variable {X : Cx} {pins : List (Addr × Obj)} {σ : L2.St} {H : Hp} {s : Shared}
theorem held_inst {a C : Addr} {fs : List (Str × V)} (I : Inv X pins σ H s) (h : ∃ d, H a = some (xo a (.ref C) (some d)) ∧ H d = some (.xd fs)) : ∃ (oe : Obj) (od : Obj) (mA : Str → Option Value), PySem.W.InstAt s.heap a oe C (some od) ∧ (∀ f, RelO (fs.lookup f) (mA f)) ∧ ∀ f : Str, PySem.W.lookIn f od = some (mA f) := by
  obtain ⟨d, ha, hd⟩ := h
  obtain ⟨oe, ho, hz, vs, hv⟩ := xo_at I.hok ha
  obtain ⟨mA, hns, hr⟩ := (show ObjOk X.prog X.w H s.heap d (.xd fs) from I.hok d _ hd)
  obtain ⟨od, ho2, hl⟩ := lookIn_ns hns
  exact ⟨oe, od, mA, ⟨ho, hz.1, by unfold PySem.W.notCls; rw [hv] <;> rfl, by rw [hz.2]; exact ho2⟩, hr, hl⟩
theorem held_inst0 {a C : Addr} {fs : List (Str × V)} (I : Inv X pins σ H s) (h : Held H a C fs) : ∃ (oe : Obj) (od : Option Obj), PySem.W.InstAt s.heap a oe C od := by
  rcases h with h | ⟨_, ha⟩
  · obtain ⟨oe, od, _, J, _⟩ := held_inst I h
    exact ⟨oe, some od, J⟩
  · obtain ⟨oe, ho, hz, vs, hv⟩ := xo_at I.hok ha
    exact ⟨oe, none, ⟨ho, hz.1, by unfold PySem.W.notCls; rw [hv] <;> rfl, by rw [hz.2]; trivial⟩⟩
/-- e.f, e such an exception -/
def tXa (K : PySem.W.Frag) (f : Str) (te : TE) : TE := fun σ H Q => te σ H fun x H1 => ∃ a C fs v, x = .ref a ∧ XfC K C ∧ PySem.W.findIn K (.ref C) f = some none ∧ Held H1 a C fs ∧ fs.lookup f = some v ∧ Q v H1
theorem pe_xa {e : Expr} {te : TE} {pos : Pos} {n : Str} (he : PE X e te) (hb : attributeBase e n X.env (eval e X.env) = eval e X.env := by rfl) : PE X (.Attribute e n pos) (tXa X.K n te) := by
  refine ⟨fun pins s σ H Q I h => ?_⟩
  refine attr_of hb (thn (he.run pins s σ H _ I h) fun u s1 hh => ?_)
  obtain ⟨x, H1, I1, rx, a, C, fs, v, rfl, T, hno, hx, l, q⟩ := hh
  cases rx
  rcases hx with hx | ⟨rfl, _⟩
  case inr => cases l
  obtain ⟨oe, od, mA, J, hr, hl⟩ := held_inst I1 hx
  obtain ⟨u, hu, ru⟩ := RelO.some_of (v := v) (o := mA n) (by rw [← l]; exact hr n)
  exact HandSPX.exc_get I1.kIn J T.ga T.gg T.exC (PySem.W.findObj_own T.hdC hno rfl (by rw [hl, hu])) (handed_of ru) ⟨v, H1, I1.tok _, ru, q⟩
/-- isinstance(e, c), e such an exception -/
def rIsX (K : PySem.W.Frag) : List V → Hp → VK → Prop := fun xs H Q => ∃ (a C : Addr) (fs : List (Str × V)) (c : V) (cv : Value) (b : Bool), xs = [.ref a, c] ∧ ClsV c cv ∧ ExcC K C ∧ Held H a C fs ∧ PySem.W.kitOne K (.ref C) cv = some b ∧ Q (.bl b) H
theorem call_isX : CallR X (.builtin "isinstance") (rIsX X.K) := by
  intro pins s σ H xs us Q I r h
  obtain ⟨a, C, fs, c, cv, b, rfl, k, T, hx, e, q⟩ := h
  obtain ⟨u1, u2, rfl, r1, r2⟩ := vals2 r
  have e2 := k.eq r2
  subst e2
  cases r1
  obtain ⟨oe, od, J⟩ := held_inst0 I hx
  obtain ⟨cd, hc, _⟩ := PySem.W.any_some T.hd
  exact PySem.W.kia_one (PySem.W.kitx_exc (by rw [hc]; rfl) T.hg T.hk T.hs T.ha T.hn T.ht T.hm) I.kIn J e (fun z => nomatch z) fun tk => ⟨.bl b, H, I.tok tk, rfl, q⟩
end

/-! ### instances of an own class: str(x), x == y, x != y -/
section
variable {X : Cx} {CX : CXT} {k : Nat} {C g : Addr} {fd : FuncData} {ps : List Str} {sp : Sp} {E : XK}
/-- C's own m stands at g -/
structure OwnM (K : PySem.W.Frag) (C : Addr) (m : Str) (g : Addr) : Prop where
  at_ : PySem.W.findIn K (.ref C) m = some (some (.ref g))
  fn : PySem.W.isFn K (.ref g) = true
theorem ins_inst {pins : List (Addr × Obj)} {σ : L2.St} {H : Hp} {s : Shared} {a dx : Addr} {fs : List (Str × V)} (I : Inv X pins σ H s) (h : H a = some (.ins C dx fs)) : ∃ ox od, PySem.W.InstAt s.heap a ox C od := by
  obtain ⟨mA, O, _⟩ := ins_get I.hok h
  obtain ⟨od, J, _⟩ := O.look
  exact ⟨_, _, J⟩
theorem call_at {A : Around} {pins : List (Addr × Obj)} {σ : L2.St} {H : Hp} {s : Shared} {us : List Value} {vs : List V} {Q : VK} (F : FnOk X.prog X.w X.K X.mg X.base CX k g fd ps sp) (hb : Binds X.K fd ps []) (hr : Room k A) (hx : Passes CX X E) (I : Inv X pins σ H s) (e0 : Env0 X.prog X.w X.K X.mg X.base A X.stack s H) (r : Vals vs us) (h : sp vs H Q E) :
    wpAny (model X.prog X.w) A (call (.ref g) us) (EP X pins σ Q) X.xe s := by
  have n : us.length = ps.length := r.length.symm.trans (F.len _ _ _ _ h)
  refine wpAny_call (codeAny_mono (F.run A X.stack s H ⟨us, []⟩ us vs Q E hr e0 (by
    have := hb s us I.kIn (by rw [List.append_nil]; exact n)
    rw [List.append_nil] at this
    exact this) r h) fun r s' hq => ?_)
  cases r with
  | error e => exact hx pins σ H s e s' I hq
  | ok fl =>
    cases fl with
    | ret u => exact I.after hq
    | next => exact False.elim hq
    | brk => exact False.elim hq
    | cont => exact False.elim hq
/-- str(x) -/
def rStrO (C : Addr) (sp : Sp) (E : XK) : List V → Hp → VK → Prop := fun xs H Q => ∃ a dx fs, xs = [.ref a] ∧ H a = some (.ins C dx fs) ∧ sp [.ref a] H (fun z H' => ∃ y, z = .str y ∧ Q z H') E
theorem call_strO (M : OwnM X.K C "__str__" g) (F : FnOk X.prog X.w X.K X.mg X.base CX k g fd ps sp) (hb : Binds X.K fd ps []) (hr : Room (k + 2) X.A) (hx : Passes CX X E) : CallR X (.type "str") (rStrO C sp E) := by
  intro pins s σ H xs us Q I r h
  obtain ⟨a, dx, fs, rfl, ha, q⟩ := h
  obtain ⟨u, rfl, ru⟩ := vals1 r
  cases ru
  obtain ⟨ox, od, J⟩ := ins_inst I ha
  have hr2 : Room k X.A.in1.in1 := (show Room (k + 1) X.A.in1 from Room.in1 hr).in1
  refine PySem.W.kso_call hr2.units0 I.kIn J M.at_ M.fn (wpAny_mono (call_at (us := [.ref a]) (vs := [.ref a]) F hb hr2 hx I I.env0.in1.in1 (.cons rfl .nil) q) (fun w s' z => ?_) fun _ _ x => x)
  obtain ⟨z', H', I', rz, y, ey, qz⟩ := z
  subst ey
  obtain ⟨t, e⟩ := (show ∃ t, w = Value.str y t from rz)
  subst e
  exact ⟨.str y, H', I', ⟨t, rfl⟩, qz⟩
/-- what stands on the right of a comparison: of a class that is not below C -/
structure RightOf (K : PySem.W.Frag) (H : Hp) (C : Addr) (y : V) : Prop where
  ty : ∃ t, TyX K H y t ∧ PySem.W.notFirst K C t = true
/-- x == y, x != y -/
def rEqO (C : Addr) (sp : Sp) (E : XK) (K : PySem.W.Frag) (neg : Bool) : R2 := fun x y H Q => ∃ a dx fs, x = .ref a ∧ H a = some (.ins C dx fs) ∧ RightOf K H C y ∧ sp [.ref a, y] H (fun z H' => ∃ b, z = .bl b ∧ Q (.bl (if neg then !b else b)) H') E
theorem op_eqO (M : OwnM X.K C "__eq__" g) (F : FnOk X.prog X.w X.K X.mg X.base CX k g fd ps sp) (hb : Binds X.K fd ps []) (hr : Room k X.A) (hx : Passes CX X E) : OpR X (compareOp .Eq) (rEqO C sp E X.K false) := by
  intro pins s σ H x y v u Q I rx ry h
  obtain ⟨a, dx, fs, rfl, ha, ⟨t, ty, hn⟩, q⟩ := h
  cases rx
  obtain ⟨ox, od, J⟩ := ins_inst I ha
  obtain ⟨P, Z, p, _⟩ := kit_of I ry ty
  obtain ⟨m, hF⟩ := I.fr
  show wpAny _ _ (richCompare .Eq _ _) _ _ _
  refine PySem.W.cmp_K (op := .Eq) hr.units0 hF I.ok.mod.kin J (Z.ty _ _ I.kIn p) hn M.at_ M.fn ?_
  refine wpAny_mono (call_at (us := [.ref a, u]) (vs := [.ref a, y]) F hb hr hx I I.env0 (.cons rfl (.cons ry .nil)) q) (fun w s' z => ?_) fun _ _ x => x
  obtain ⟨z', H', I', rz, b, eb, qz⟩ := z
  subst eb
  cases (show w = Value.bool b from rz)
  exact ⟨.bl b, H', I', rfl, qz⟩
/-- a builtin that stands as a class's special method -/
theorem ifBoundB {M : Model} {A : Around} {E : Value → Shared → Prop} {s : Shared} {K : PySem.W.Frag} {x C : Addr} {ox : Obj} {od : Option Obj} {name : Str} {id : String} {args : List Value} {Q : Option Value → Shared → Prop} (Y : K.In s.heap) (I : PySem.W.InstAt s.heap x ox C od)
    (hs : PySem.W.findIn K (.ref C) name = some (some (.builtin id))) (hb : ∀ self, bindSpecial (.builtin id) self = pure (.builtin id, [self])) (h : wpAny M A (call (.builtin id) (.ref x :: args)) (fun v => Q (some v)) E s) : wpAny M A (callSpecialIfBound? (.ref x) name args) Q E s := by
  simp only [callSpecialIfBound?, bindSpecialIfBound?]
  refine wpAny_holding (wpAny_bind (wpAny_bind (wpAny_bind (I.type.here ((PySem.W.looks_findIn Y hs).here ?_)))))
  refine wpAny_bind (wpAny_askSetting (wpAny_ite ?_))
  have fin : wpAny M A (call (.builtin id) ([.ref x] ++ args) >>= fun v => pure (some v)) Q E s := wpAny_bind (wpAny_mono h (fun v s' h' => wpAny_pure h') fun _ _ h' => h')
  split
  · exact wpAny_bind ((PySem.W.Looks.of_pure (hb _)).here (wpAny_pure (by exact fin)))
  · exact wpAny_tryCatch (wpAny_bind ((PySem.W.Looks.of_pure (hb _)).here (wpAny_pure (by exact fin))))
open Builtin in
/-- object.__ne__: what __eq__ does not say -/
theorem call_objne {prog : Program} {w : World} {A : Around} {E : Value → Shared → Prop} {s : Shared} {K : PySem.W.Frag} {x C f : Addr} {ox : Obj} {od : Option Obj} {b : Value} {Q : Value → Shared → Prop} (hu : A.in1.units < cLine) (Y : K.In s.heap) (I : PySem.W.InstAt s.heap x ox C od) (hm : PySem.W.mroIn K C (.type "object") = some true)
    (he : PySem.W.findIn K (.ref C) "__eq__" = some (some (.ref f))) (hf : PySem.W.isFn K (.ref f) = true) (h : wpAny (model prog w) A.in1 (call (.ref f) [.ref x, b]) (fun v s' => ∃ k, v = .bool k ∧ Q (.bool !k) s') E s) : wpAny (model prog w) A (call (.builtin "object.__ne__") [.ref x, b]) Q E s := by
  refine wpAny_call (codeAny_call_builtin PySem.F.cmp_object.ne.plain PySem.F.cmpEntry_ne (PySem.W.check_slot (i := "object.__ne__") (owner := "object") (n := "__ne__") PySem.F.cmpKind_ne PySem.F.cmpSplit_ne (I.type.andThen (PySem.W.looks_mroIn Y hm)) (PySem.F.cmpArgs_ne _ _) ?_))
  unfold Builtin.«object.__ne__»
  refine wpAny_bind (m := slotArgs "__ne__" 1 _) (wpAny_pure ?_)
  refine wpAny_bind (m := cRoomFor _ _) (wpAny_cRoomFor hu ?_)
  refine wpAny_bind (m := callSpecialIfBound? (.ref x) (Str.ofString "__eq__") _) (PySem.W.ifBound_K Y I he hf (wpAny_mono h (fun r s' hq => ?_) fun _ _ y => y))
  obtain ⟨k, rfl, q⟩ := hq
  cases k <;> exact wpAny_pure q
/-- x != y, where the class has no __ne__ of its own -/
theorem rich_ne {prog : Program} {w : World} {A : Around} {E : Value → Shared → Prop} {s : Shared} {K : PySem.W.Frag} {x C f : Addr} {ox : Obj} {od : Option Obj} {b tb : Value} {Q : Value → Shared → Prop} (hu0 : A.units < cLine) (hu : A.in1.units < cLine) (Y : K.In s.heap) (I : PySem.W.InstAt s.heap x ox C od)
    (hb : PySem.W.Looks (model prog w) s.heap (typeOf b) tb) (hn : PySem.W.notFirst K C tb = true) (hm : PySem.W.mroIn K C (.type "object") = some true) (hne : PySem.W.findIn K (.ref C) "__ne__" = some (some (.builtin "object.__ne__")))
    (he : PySem.W.findIn K (.ref C) "__eq__" = some (some (.ref f))) (hf : PySem.W.isFn K (.ref f) = true) (h : wpAny (model prog w) A.in1 (call (.ref f) [.ref x, b]) (fun v s' => ∃ k, v = .bool k ∧ Q (.bool !k) s') E s) : wpAny (model prog w) A (richCompare .NotEq (.ref x) b) Q E s := by
  have one : wpAny (model prog w) A (tryCompare (.ref x) "__ne__" b) (fun r s' => ∃ v, r = some v ∧ Q v s') E s := by
    unfold tryCompare
    refine wpAny_bind (ifBoundB (args := [b]) Y I hne PySem.F.cmp_object.ne.bind ?_)
    have z := call_objne (Q := fun v s' => ∃ k, v = .bool k ∧ Q v s') hu Y I hm he hf (wpAny_mono h (fun v s' hv => (let ⟨k, e, q⟩ := hv; ⟨k, e, _, rfl, q⟩ : ∃ k, v = .bool k ∧ ∃ k', Value.bool (!k) = .bool k' ∧ Q (.bool !k) s')) fun _ _ e => e)
    refine wpAny_mono z (fun v s' hv => ?_) fun _ _ e => e
    obtain ⟨k, rfl, q⟩ := hv
    exact wpAny_pure ⟨_, rfl, q⟩
  unfold richCompare
  simp only [PySem.oneThing_ref]
  refine wpAny_holding (wpAny_bind (wpAny_cRoomFor hu0 ?_))
  refine wpAny_bind (I.type.here (wpAny_bind (hb.here ?_)))
  split
  · rename_i q
    have e : PySem.W.subIn K tb (.ref C) = some false := by
      rcases Bool.or_eq_true_iff.mp hn with e | e
      · rw [beq_iff_eq.mp e] at q; simp at q
      · exact beq_iff_eq.mp e
    refine wpAny_bind ((PySem.W.looks_subIn Y e).here ?_)
    simp only [Bool.false_eq_true, if_false]
    refine wpAny_bind (wpAny_mono one (fun r s' z => ?_) fun _ _ e => e)
    obtain ⟨v, rfl, hq⟩ := z
    exact wpAny_pure hq
  · refine wpAny_bind (wpAny_pure ?_)
    simp only [Bool.false_eq_true, if_false]
    refine wpAny_bind (wpAny_mono one (fun r s' z => ?_) fun _ _ e => e)
    obtain ⟨v, rfl, hq⟩ := z
    exact wpAny_pure hq
theorem op_neO (M : OwnM X.K C "__eq__" g) (hne : PySem.W.findIn X.K (.ref C) "__ne__" = some (some (.builtin "object.__ne__"))) (hm : PySem.W.mroIn X.K C (.type "object") = some true) (F : FnOk X.prog X.w X.K X.mg X.base CX k g fd ps sp) (hb : Binds X.K fd ps []) (hr : Room (k + 1) X.A) (hx : Passes CX X E) : OpR X (compareOp .NotEq) (rEqO C sp E X.K true) := by
  intro pins s σ H x y v u Q I rx ry h
  obtain ⟨a, dx, fs, rfl, ha, ⟨t, ty, hn⟩, q⟩ := h
  cases rx
  obtain ⟨ox, od, J⟩ := ins_inst I ha
  obtain ⟨P, Z, p, _⟩ := kit_of I ry ty
  have hr2 : Room k X.A.in1 := Room.in1 hr
  show wpAny _ _ (richCompare .NotEq _ _) _ _ _
  refine rich_ne hr.units0 hr2.units0 I.kIn J (Z.ty _ _ I.kIn p) hn hm hne M.at_ M.fn ?_
  refine wpAny_mono (call_at (us := [.ref a, u]) (vs := [.ref a, y]) F hb hr2 hx I I.env0.in1 (.cons rfl (.cons ry .nil)) q) (fun w s' z => ?_) fun _ _ x => x
  obtain ⟨z', H', I', rz, b, eb, qz⟩ := z
  subst eb
  cases (show w = Value.bool b from rz)
  exact ⟨b, rfl, .bl !b, H', I', rfl, qz⟩
end

/-! ### C.m(e), m a static method -/
structure SMet (K : PySem.W.Frag) (C : Addr) (mc : Value) (m : Str) (p g : Addr) : Prop where
  rd : PySem.W.readsIn K C mc = true
  ga : PySem.W.specialIn K (.ref C) "__getattribute__" = some (some (.builtin "type.__getattribute__"))
  at_ : PySem.W.findCls K (.ref C) mc m = some (.get (.builtin "staticmethod.__get__") (.ref p) .none (.ref C))
  rc : ∃ rest, PySem.W.recIn K p "staticmethod" = some (.ref g :: rest)
  kp : PySem.W.keepIn K (.ref g) = true
section
variable {X : Cx} {CX : CXT} {k : Nat} {C p g : Addr} {mc : Value} {fd : FuncData} {ps ks : List Str} {sp : Sp} {E : XK} {o e : Expr} {es : List Expr} {kws : List Keyword} {m : Str} {pos apos : Pos} {ta : TE} {t tk : TA} {pl : Sem Bool} {gg : List Value → List Value → List Value} {gV : List V → List V → List V}
theorem getsm {pins : List (Addr × Obj)} {σ : L2.St} {H : Hp} {s : Shared} {A : Around} {E : Value → Shared → Prop} {Q : Value × List Value → Shared → Prop} (I : Inv X pins σ H s) (c : SMet X.K C mc m p g) (h : ∀ s', Inv X pins σ H s' → Q (.ref g, []) s') : wpAny (model X.prog X.w) A (getMethod (.ref C) m pl) Q E s := by
  obtain ⟨rest, hp⟩ := c.rc
  refine PySem.W.method_cls I.kIn c.ga (PySem.W.cls_bind I.kIn c.rd c.at_ (wpAny_call (PySem.W.sm_get (s := { s with toks := s.toks + 1 }) I.kIn hp (PySem.W.handed_on rfl (h _ (I.tok _))))))
def tSMeth (C : Addr) (sp : Sp) (E : L2.St → XK) (ta : TE) (t : TA) : TE := fun σ H Q => ta σ H fun x H1 => x = .ref C ∧ t σ H1 fun vs H2 => sp vs H2 Q (E σ)
theorem pe_smeth {E : L2.St → XK} (he : PE X o ta) (c : SMet X.K C mc m p g) (F : FnOk X.prog X.w X.K X.mg X.base CX k g fd ps sp) (hr : Room k X.A) (hb : Binds X.K fd ps []) (hx : ∀ σ, PassesAt CX X σ (E σ)) (ha : PA X (e :: es) t)
    (hst : starEach (e :: es) X.env = (false, eval e X.env) :: starEach es X.env := by rfl) (hpl : (backTo pos (starEach es X.env)).any (·.1) = false := by rfl)
    (ht : eval (.Call (.Attribute o m apos) (e :: es) [] pos) X.env = (do
      let ov ← eval o X.env
      standAt apos.atName
      let (f, first) ← holding [ov] (getMethod ov m pl)
      callWith pos f first (backTo pos (starEach (e :: es) X.env)) (backToKw pos (keywordEach [] X.env))) := by rfl) :
    PE X (.Call (.Attribute o m apos) (e :: es) [] pos) (tSMeth C sp E ta t) := by
  refine ⟨fun pins s σ H Q I h => ?_⟩
  refine PySem.W.methodCall_KW (pl := pl) (thn (he.run pins s σ H _ I h) fun u s1 ⟨x, H1, I1, rx, ex, q⟩ => ?_) ht
  subst ex
  cases (show u = Value.ref C from rx)
  refine getsm I1 c fun s2 I2 => ?_
  exact PySem.W.callWith_K (first := []) (h₀ := X.base) I.ok.mod.kin c.kp (thn (ha.run pos pins s2 σ H1 _ I2 q) fun us s3 ⟨vs, H2, I3, r, q2⟩ => ⟨I3.kIn, run_fnS (us := us) (vs := vs) F hr hb (hx σ) I3 r q2⟩) hst hpl
theorem passes_at {E : XK} (h : Passes CX X E) (σ : L2.St) : PassesAt CX X σ E := fun pins H s e s' I c => h pins σ H s e s' I c
/-- what is not raised passes -/
theorem takesN {X : Cx} : Takes X (fun _ _ _ _ => False) := fun _ _ x => by
  obtain ⟨_, _, _, _, _, _, _, _, _, _, _, _, _, _, _, _, z⟩ := x
  exact z.elim
def EN : XK := fun _ _ _ => False
theorem passN : Passes (L2.CX X.prog X.w) X EN := fun pins σ H s e s' I c => passes_call takesN (fun _ _ _ _ h => h) pins σ H s e s' I c
def tSMethK (C : Addr) (sp : Sp) (gV : List V → List V → List V) (E : XK) (ta : TE) (tk : TA) : TE := fun σ H Q => ta σ H fun x H1 => x = .ref C ∧ tk σ H1 fun zs H2 => sp (gV [] zs) H2 Q E
/-- C.m(k = v, ..) -/
theorem pe_smethK0 (he : PE X o ta) (c : SMet X.K C mc m p g) (F : FnOk X.prog X.w X.K X.mg X.base CX k g fd ps sp) (hr : Room k X.A) (hb : KBinds X.K fd ps ks gg gV) (hx : Passes CX X E) (hkw : PK X kws tk)
    (hall : (backToKw pos (keywordEach kws X.env)).all (·.1.isSome) = true := by rfl) (hks : (backToKw pos (keywordEach kws X.env)).filterMap (·.1) = ks := by rfl)
    (hpl : ((backTo pos (starEach [] X.env)).any (·.1) || (backToKw pos (keywordEach kws X.env)).any (·.1.isNone)) = false := by rfl)
    (ht : eval (.Call (.Attribute o m apos) [] kws pos) X.env = (do
      let ov ← eval o X.env
      standAt apos.atName
      let (f, first) ← holding [ov] (getMethod ov m pl)
      callWith pos f first (backTo pos (starEach [] X.env)) (backToKw pos (keywordEach kws X.env))) := by rfl) :
    PE X (.Call (.Attribute o m apos) [] kws pos) (tSMethK C sp gV E ta tk) := by
  refine ⟨fun pins s σ H Q I h => ?_⟩
  refine PySem.W.methodCall_KW (pl := pl) (thn (he.run pins s σ H _ I h) fun u s1 ⟨x, H1, I1, rx, ex, q⟩ => ?_) ht
  subst ex
  cases (show u = Value.ref C from rx)
  refine getsm I1 c fun s2 I2 => ?_
  refine PySem.W.callWith_KW0 (h₀ := X.base) I.ok.mod.kin c.kp hall (thn (hkw.run pos pins s2 σ H1 _ I2 q) fun ws s3 ⟨zs, H2, I3, rz, q2⟩ => ⟨I3.kIn, ?_⟩) hpl
  rw [hks]
  exact run_fnk (us := []) (vs := []) F hr hb hx I3 .nil rz q2
end

/-! ### an own exception with fields: made and raised -/
/-- its __init__ stores one field -/
def spE1 (K : PySem.W.Frag) (C : Addr) (f : Str) : Sp := fun vs H Q _ => ∃ a y, vs = [.ref a, y] ∧ H a = some (exo a C none) ∧ ∀ d, H d = none → d ≠ a → Q .non (upd (upd H d (exd d [(f, y)])) a (exo a C (some d)))
/-- two fields -/
def spE2 (K : PySem.W.Frag) (C : Addr) (f g : Str) : Sp := fun vs H Q _ => ∃ a y z, vs = [.ref a, y, z] ∧ H a = some (exo a C none) ∧ ∀ d, H d = none → d ≠ a → Q .non (upd (upd (upd H d (exd d [(f, y)])) a (exo a C (some d))) d (exd d [(g, z), (f, y)]))
theorem exd_end {H : Hp} {a d : Addr} {o : HO} {C : Addr} {fs gs : List (Str × V)} (n : H a = none) (nd : d ≠ a) : upd (del (upd (upd (upd (upd H a o) d (exd d fs)) a (exo a C (some d))) d (exd d gs)) a) d (.xd gs) = upd H d (.xd gs) := by
  funext b
  by_cases hd : b = d
  · subst hd
    rw [upd_same, upd_same]
  · rw [upd_ne hd, upd_ne hd]
    by_cases ha : b = a
    · subst ha
      rw [del_same, n]
    · rw [del_ne ha, upd_ne hd, upd_ne ha, upd_ne hd, upd_ne ha]
theorem exd_end1 {H : Hp} {a d : Addr} {o : HO} {C : Addr} {fs : List (Str × V)} (n : H a = none) (nd : d ≠ a) : upd (del (upd (upd (upd H a o) d (exd d fs)) a (exo a C (some d))) a) d (.xd fs) = upd H d (.xd fs) := by
  funext b
  by_cases hd : b = d
  · subst hd
    rw [upd_same, upd_same]
  · rw [upd_ne hd, upd_ne hd]
    by_cases ha : b = a
    · subst ha
      rw [del_same, n]
    · rw [del_ne ha, upd_ne ha, upd_ne hd, upd_ne ha]
/-- what the making of such an exception comes to -/
theorem mkE1 {K : PySem.W.Frag} {C : Addr} {f : Str} {y : V} {H1 : Hp} {Q E : XK} (q : ∀ d, H1 d = none → Q (.ref C) (some d) (upd H1 d (.xd [(f, y)]))) :
    [y].length ≤ 1000 ∧ ∀ a, H1 a = none → spE1 K C f (.ref a :: ([y] ++ [])) (upd H1 a (exo a C none))
      (fun v H2 => v = .non ∧ ∃ (d : Addr) (fs : List (Str × V)), H2 a = some (exo a C (some d)) ∧ H2 d = some (exd d fs) ∧ H1 d = none ∧ Q (.ref C) (some d) (upd (del H2 a) d (.xd fs))) E := by
  refine ⟨by simp, fun a na => ⟨a, y, rfl, upd_same, fun d nd nda => ⟨rfl, d, [(f, y)], upd_same, ?_, ?_, ?_⟩⟩⟩
  · rw [upd_ne nda, upd_same]
  · rw [upd_ne nda] at nd
    exact nd
  · rw [upd_ne nda] at nd
    rw [exd_end1 na nda]
    exact q d nd
theorem mkE2 {K : PySem.W.Frag} {C : Addr} {f g : Str} {y z : V} {H1 : Hp} {Q E : XK} (q : ∀ d, H1 d = none → Q (.ref C) (some d) (upd H1 d (.xd [(g, z), (f, y)]))) :
    [y, z].length ≤ 1000 ∧ ∀ a, H1 a = none → spE2 K C f g (.ref a :: ([y, z] ++ [])) (upd H1 a (exo a C none))
      (fun v H2 => v = .non ∧ ∃ (d : Addr) (fs : List (Str × V)), H2 a = some (exo a C (some d)) ∧ H2 d = some (exd d fs) ∧ H1 d = none ∧ Q (.ref C) (some d) (upd (del H2 a) d (.xd fs))) E := by
  refine ⟨by simp, fun a na => ⟨a, y, z, rfl, upd_same, fun d nd nda => ⟨rfl, d, [(g, z), (f, y)], ?_, upd_same, ?_, ?_⟩⟩⟩
  · rw [upd_ne nda.symm, upd_same]
  · rw [upd_ne nda] at nd
    exact nd
  · rw [upd_ne nda] at nd
    rw [exd_end na nda]
    exact q d nd
end JP

namespace JP
open PySem PySem.Spec PyProof.Rows L2 TL

/-! ### text * int -/
theorem op_mulS {X : Cx} : OpR X (binaryOp .Mult) (fun x y H Q => ∃ a n, x = .str a ∧ y = .int n ∧ MulOk a n ∧ Q (.str (Txt.mul a n)) H) := by
  intro pins s σ H x y v u Q I rx ry h
  obtain ⟨a, n, rfl, rfl, hz, q⟩ := h
  obtain ⟨t, rfl⟩ := rx
  obtain ⟨t', rfl⟩ := ry
  exact SB.mul hz (fun t' k => ⟨.str (Txt.mul a n), H, I.tok _, ⟨_, rfl⟩, q⟩)

/-! ### the texts of integers -/
abbrev numS (n : Int) : Str := Str.ofString (toString n)
theorem tl_num0 (m : Nat) : tl (numS (m : Int)) = numL m := tl_num m
theorem tl_numN (m : Nat) : tl (numS (Int.negSucc m)) = 45 :: numL (m + 1) := by
  have e : toString (Int.negSucc m) = "-" ++ toString (m + 1) := rfl
  rw [numS, e, tl_ofString, String.toList_append, List.map_append]
  have z := tl_num (m + 1)
  rw [tl_ofString] at z
  show [45] ++ _ = _
  rw [show (toString (m + 1) : String) = toString ((m + 1 : Nat) : Int) from rfl, z]
  rfl
theorem dig_uni : ∀ c, 48 ≤ c → c ≤ 57 → Unicode.isDigit c = true := fun c h1 h2 => by
  have : c = 48 ∨ c = 49 ∨ c = 50 ∨ c = 51 ∨ c = 52 ∨ c = 53 ∨ c = 54 ∨ c = 55 ∨ c = 56 ∨ c = 57 := by omega
  rcases this with rfl | rfl | rfl | rfl | rfl | rfl | rfl | rfl | rfl | rfl <;> decide +kernel
/-- whether a word is an integer as it is written, of at most 60 digits -/
def isIntW (w : Str) : Bool :=
  if (decide ((60 : Int) < (Txt.removeprefix w "-").length) || !Txt.isascii (Txt.removeprefix w "-") || !Txt.isdigit (Txt.removeprefix w "-")) = true then false
  else (decide (V.str w = V.str "0") || !Txt.startswith (Txt.removeprefix w "-") "0")
theorem allS (x : Str) (p : Nat → Bool) : x.cps.all p = (tl x).all p := by
  rw [Array.all_toList] <;> rfl
theorem head_numL {m : Nat} (h : 0 < m) : ∃ c r, numL m = c :: r ∧ c ≠ 48 := by
  induction m using Nat.strongRecOn with
  | _ m ih =>
    by_cases h10 : m < 10
    · exact ⟨48 + m, [], numL_lt h10, by omega⟩
    · obtain ⟨c, r, e, hc⟩ := ih (m / 10) (by omega) (by omega)
      exact ⟨c, r ++ [48 + m % 10], by rw [numL_step (by omega), e]; rfl, hc⟩
theorem tl_minus : tl ("-" : Str) = [45] := tl_ofString "-"
theorem tl_zero : tl ("0" : Str) = [48] := tl_ofString "0"
theorem len_minus : ("-" : Str).length = 1 := by rw [len_tl, tl_minus]; rfl
theorem len_zero : ("0" : Str).length = 1 := by rw [len_tl, tl_zero]; rfl
theorem rp_minus {x d : Str} (h : tl x = 45 :: tl d) : Txt.removeprefix x "-" = d := by
  have hs : Builtin.Str.subAt x "-" 0 = true := by
    rw [StrLaws.subAt_eq, show x.cps.toList = tl x from rfl, show ("-" : Str).cps.toList = tl "-" from rfl, tl_minus, h, len_minus]
    simp
  have hl : x.length = (tl d).length + 1 := by rw [len_tl, h]; rfl
  unfold Txt.removeprefix
  rw [if_pos hs]
  show (if (x.length - ("-" : Str).length == x.length) = true then x else Builtin.Str.strSub x ("-" : Str).length x.length) = d
  rw [if_neg (by rw [len_minus]; simp; omega), len_minus]
  refine ext_tl ?_
  rw [tl_strSub_end, h]
  rfl
theorem rp_plain {x : Str} (h : ∀ r, tl x ≠ 45 :: r) : Txt.removeprefix x "-" = x := by
  have hs : Builtin.Str.subAt x "-" 0 = false := by
    rw [StrLaws.subAt_eq, show x.cps.toList = tl x from rfl, show ("-" : Str).cps.toList = tl "-" from rfl, tl_minus, len_minus, List.drop_zero]
    cases e : tl x with
    | nil => rfl
    | cons c r =>
      have : c ≠ 45 := fun z => h r (by rw [e, z])
      simp [this]
  unfold Txt.removeprefix
  rw [if_neg (by rw [hs]; exact Bool.false_ne_true)]
  rfl
theorem sw_zero (x : Str) : Txt.startswith x "0" = match tl x with | c :: _ => c == 48 | [] => false := by
  unfold Txt.startswith
  rw [StrLaws.subAt_eq, show x.cps.toList = tl x from rfl, show ("0" : Str).cps.toList = tl "0" from rfl, tl_zero, len_zero, List.drop_zero, len_tl]
  cases tl x with
  | nil => rfl
  | cons c r => simp
/-- the digits of a number: plain signs, no other -/
theorem word_digits {w d : Str} {m : Nat} (hd : tl d = numL m) (hr : Txt.removeprefix w "-" = d) (hm : m < 10 ^ 60) (hz : 0 < m ∨ w = "0") : isIntW w = true := by
  have hl : d.length ≤ 60 := by rw [len_tl, hd]; exact numL_len (by decide) hm
  have hdig := numL_digits m
  have ha : Txt.isascii d = true := by
    unfold Txt.isascii
    rw [allS, hd, List.all_eq_true]
    intro c hc
    have := hdig c hc
    exact decide_eq_true (by omega)
  have hi : Txt.isdigit d = true := by
    unfold Txt.isdigit
    rw [allS, hd, len_tl, hd, Bool.and_eq_true, List.all_eq_true]
    refine ⟨decide_eq_true (List.length_pos_iff.mpr (numL_ne m)), fun c hc => ?_⟩
    have := hdig c hc
    exact dig_uni c this.1 this.2
  unfold isIntW
  rw [hr, ha, hi, decide_eq_false (by omega)]
  simp only [Bool.not_true, Bool.or_false, Bool.false_eq_true, if_false]
  rcases hz with hz | hz
  · obtain ⟨c, r, e, hc⟩ := head_numL hz
    rw [sw_zero, hd, e]
    simp [hc]
  · rw [hz]
    simp
theorem isIntW_num {n : Int} (h : n.natAbs < 10 ^ 60) : isIntW (numS n) = true := by
  cases n with
  | ofNat m =>
    have e := tl_num0 m
    have r : Txt.removeprefix (numS (m : Int)) "-" = numS (m : Int) := rp_plain fun r z => by
      rw [e] at z
      exact numL_free (n := m) (s := 45) (by omega) (by rw [z]; exact List.mem_cons_self)
    refine word_digits e r h ?_
    by_cases h0 : m = 0
    · subst h0
      exact .inr rfl
    · exact .inl (by omega)
  | negSucc m =>
    have e := tl_numN m
    have r : Txt.removeprefix (numS (Int.negSucc m)) "-" = numS ((m + 1 : Nat) : Int) := rp_minus (by rw [e, tl_num0])
    exact word_digits (tl_num0 _) r h (.inl (by omega))
theorem len_num {n : Int} (h : n.natAbs < 10 ^ 60) : (numS n).length ≤ 61 := by
  rw [len_tl]
  cases n with
  | ofNat m =>
    rw [show (Int.ofNat m) = (m : Int) from rfl, tl_num0]
    have := numL_len (n := m) (k := 60) (by decide) h
    omega
  | negSucc m =>
    rw [tl_numN, List.length_cons]
    have := numL_len (n := m + 1) (k := 60) (by decide) h
    omega
theorem int_back {n : Int} (h : n.natAbs < 10 ^ 60) : PySem.intText? (numS n) = some n := by
  cases n with
  | ofNat m => exact int_num (by
      have := numL_len (n := m) (k := 60) (by decide) h
      omega)
  | negSucc m =>
    have hl := numL_len (n := m + 1) (k := 60) (by decide) h
    have z := PySem.intText_neg (x := numS (Int.negSucc m)) (cs := numL (m + 1)) (tl_numN m) (numL_digits _) (numL_ne _) (by rw [len_tl, tl_numN, List.length_cons]; omega)
    rw [z, numL_val]
    rfl
theorem num_free {n : Int} {s : Nat} (h : s < 48 ∨ 57 < s) (h2 : s ≠ 45) : s ∉ tl (numS n) := by
  cases n with
  | ofNat m =>
    rw [show (Int.ofNat m) = (m : Int) from rfl, tl_num0]
    exact numL_free h
  | negSucc m =>
    rw [tl_numN]
    intro z
    rcases List.mem_cons.mp z with z | z
    · exact h2 z
    · exact numL_free h z
theorem log_num {n : Int} (h : n.natAbs < 10 ^ 60) : n.natAbs.log2 < 1920 := by
  by_cases h0 : n.natAbs = 0
  · rw [h0]
    decide
  · exact (Nat.log2_lt h0).mpr (Nat.lt_of_lt_of_le h (by decide +kernel))

/-! ### the words of a bound -/
/-- how many words from the first one on are integers, at most k -/
def lead : Nat → List Str → Nat
  | 0, _ => 0
  | _, [] => 0
  | k + 1, w :: ws => if isIntW w = true then lead k ws + 1 else 0
/-- the word at a place; behind the last one the empty word -/
abbrev wd (ws : List Str) (k : Nat) : Str := ws.getD k ""
def isSign (w : Str) : Bool := decide (V.str w = V.str ">=") || decide (V.str w = V.str ">")
/-- the first word that cannot stand -/
def rdErr (ws : List Str) : Option Nat :=
  if isSign (wd ws (lead 8 ws)) = false then some (lead 8 ws)
  else if decide (V.str (wd ws (lead 8 ws + 1)) = V.str "0") = false then some (lead 8 ws + 1)
  else if lead 8 ws + 2 < ws.length then some (lead 8 ws + 2)
  else none
theorem lead_le : ∀ (k : Nat) (ws : List Str), lead k ws ≤ k
  | 0, _ => Nat.le_refl _
  | _ + 1, [] => Nat.zero_le _
  | k + 1, w :: ws => by
    unfold lead
    split
    · have := lead_le k ws
      omega
    · omega
theorem lead_app : ∀ (k : Nat) (us r : List Str), (∀ u ∈ us, isIntW u = true) → us.length ≤ k → (us.length = k ∨ ∀ w r', r = w :: r' → isIntW w = false) → lead k (us ++ r) = us.length
  | 0, [], r, _, _, _ => rfl
  | 0, _ :: _, _, _, h, _ => absurd h (by simp)
  | k + 1, [], [], _, _, _ => rfl
  | k + 1, [], w :: r, _, _, h => by
    rcases h with h | h
    · simp at h
    · show lead (k + 1) (w :: r) = 0
      unfold lead
      rw [if_neg (by rw [h w r rfl]; exact Bool.false_ne_true)]
  | k + 1, u :: us, r, hu, hl, h => by
    show lead (k + 1) (u :: (us ++ r)) = _
    unfold lead
    rw [if_pos (hu u List.mem_cons_self), lead_app k us r (fun x hx => hu x (List.mem_cons_of_mem _ hx)) (by simpa using hl) (h.imp (fun z => by simpa using z) id)]
    rfl
theorem wd_app (us r : List Str) (k : Nat) : wd (us ++ r) (us.length + k) = wd r k := by
  show (us ++ r).getD (us.length + k) "" = r.getD k ""
  rw [List.getD_eq_getElem?_getD, List.getD_eq_getElem?_getD, List.getElem?_append_right (Nat.le_add_right _ _), Nat.add_sub_cancel_left]
/-- lead, step by step -/
theorem lead_lt {k : Nat} : ∀ {ws : List Str} {i : Nat}, i < lead k ws → isIntW (wd ws i) = true := by
  induction k with
  | zero => intro ws i h; exact absurd h (Nat.not_lt_zero i)
  | succ k ih =>
    intro ws i h
    cases ws with
    | nil => exact absurd h (Nat.not_lt_zero i)
    | cons w ws =>
      unfold lead at h
      by_cases hw : isIntW w = true
      · rw [if_pos hw] at h
        cases i with
        | zero => exact hw
        | succ i => exact ih (ws := ws) (i := i) (by omega)
      · rw [if_neg hw] at h
        exact absurd h (Nat.not_lt_zero i)
theorem isIntW_empty : isIntW "" = false := by decide +kernel
theorem lead_at {k : Nat} : ∀ {ws : List Str}, lead k ws < k → isIntW (wd ws (lead k ws)) = false := by
  induction k with
  | zero => intro ws h; exact absurd h (Nat.not_lt_zero _)
  | succ k ih =>
    intro ws h
    cases ws with
    | nil => exact isIntW_empty
    | cons w ws =>
      unfold lead at h ⊢
      by_cases hw : isIntW w = true
      · rw [if_pos hw] at h ⊢
        exact ih (ws := ws) (by omega)
      · rw [if_neg hw] at h ⊢
        exact Bool.eq_false_iff.mpr hw
end JP

namespace JP
open PySem PySem.Spec PyProof.Rows L2 TL

theorem neD {X : Cx} {K : PySem.W.Frag} (hu : X.A.units + 64 < cLine) (h : X.K = K) : OpR X (compareOp .NotEq) (rNeD K) := h ▸ op_neD hu
theorem pe_joinK {X : Cx} {K : PySem.W.Frag} (hK : X.K = K) {o e : Expr} {to te : TE} {apos pos : Pos} (ho : PE X o to) (he : PE X e te) (h1 : starEach [e] X.env = [(false, eval e X.env)] := by rfl) (h2 : attributeBase o (Str.ofString "join") X.env (eval o X.env) = eval o X.env := by rfl)
    (h3 : (apos.endLine == pos.line) = true := by rfl) : PE X ((o.Attribute (Str.ofString "join") apos).Call [e] [] pos) (tM1 (fun x xs H Q => ∃ a p ys, x = V.str a ∧ xs = [V.ref p] ∧ (SqL K H p (List.map V.str ys) ∨ SqT K H p (List.map V.str ys)) ∧
      (List.map (fun x => x.length) ys).sum + ys.length * a.length ≤ 16777216 ∧ Q (V.str (Txt.join a ys)) H) to te) := by
  subst hK
  exact pe_join ho he h1 h2 h3
/-! ### words that are joined with a space and split again -/
def Word (v : Str) : Prop := v.length ≤ 100 ∧ 32 ∉ tl v
instance (v : Str) : Decidable (Word v) := by unfold Word; infer_instance
theorem tl_space : tl (" " : Str) = [32] := tl_ofString " "
theorem len_joinL (S : List Nat) : ∀ parts : List (List Nat), (joinL S parts).length ≤ (parts.map List.length).sum + parts.length * S.length
  | [] => Nat.zero_le _
  | [p] => by
    show p.length ≤ _
    rw [List.map_cons, List.sum_cons]
    omega
  | p :: q :: r => by
    show (p ++ (S ++ joinL S (q :: r))).length ≤ _
    have ih := len_joinL S (q :: r)
    rw [List.length_append, List.length_append, List.map_cons, List.sum_cons, List.length_cons, Nat.add_mul]
    omega
theorem sum_le : ∀ {ws : List Str} {k : Nat}, (∀ v ∈ ws, v.length ≤ k) → ((ws.map tl).map List.length).sum ≤ k * ws.length
  | [], _, _ => Nat.zero_le _
  | v :: ws, k, h => by
    have h1 := h v List.mem_cons_self
    have h2 := sum_le (ws := ws) (k := k) fun x hx => h x (List.mem_cons_of_mem _ hx)
    rw [len_tl] at h1
    rw [List.map_cons, List.map_cons, List.sum_cons, List.length_cons, Nat.mul_add]
    omega
theorem join_len {ws : List Str} (h : ∀ v ∈ ws, Word v) (hl : ws.length ≤ 20) : (Txt.join " " ws).length ≤ 2020 := by
  have h1 := len_joinL [32] (ws.map tl)
  have h2 := sum_le (ws := ws) (k := 100) fun v hv => (h v hv).1
  rw [join_eq, len_tl, tl_join, tl_space]
  rw [List.length_map] at h1
  have : [32].length = 1 := rfl
  rw [this] at h1
  omega
theorem split_back {ws : List Str} (h : ∀ v ∈ ws, Word v) (hne : ws ≠ []) : Txt.split (Txt.join " " ws) " " = ws :=
  split_join (y := " ") (s := 32) (S := []) tl_space (by decide +kernel) hne fun p hp => (h p hp).2
theorem word_num {n : Int} (h : n.natAbs < 10 ^ 60) : Word (numS n) := ⟨by have := len_num h; omega, num_free (by omega) (by omega)⟩

/-! ### where reading stops -/
section
variable {us r : List Str}
def Stop (us r : List Str) : Prop := (∀ u ∈ us, isIntW u = true) ∧ us.length ≤ 8 ∧ (us.length = 8 ∨ ∀ w r', r = w :: r' → isIntW w = false)
theorem Stop.lead (h : Stop us r) : lead 8 (us ++ r) = us.length := lead_app 8 us r h.1 h.2.1 h.2.2
theorem Stop.wd0 (h : Stop us r) : wd (us ++ r) us.length = wd r 0 := wd_app us r 0
theorem Stop.a (h : Stop us r) (s : isSign (wd r 0) = false) : rdErr (us ++ r) = some us.length := by
  unfold rdErr
  rw [h.lead, h.wd0, if_pos s]
theorem Stop.b (h : Stop us r) (s : isSign (wd r 0) = true) (z : decide (V.str (wd r 1) = V.str "0") = false) : rdErr (us ++ r) = some (us.length + 1) := by
  unfold rdErr
  rw [h.lead, h.wd0, wd_app us r 1, if_neg (by rw [s]; simp), if_pos z]
theorem Stop.c (h : Stop us r) (s : isSign (wd r 0) = true) (z : decide (V.str (wd r 1) = V.str "0") = true) (l : 2 < r.length) : rdErr (us ++ r) = some (us.length + 2) := by
  unfold rdErr
  rw [h.lead, h.wd0, wd_app us r 1, if_neg (by rw [s]; simp), if_neg (by rw [z]; simp), if_pos (by rw [List.length_append]; omega)]
end

/-! ### lists of words, and parts of them -/
def LS (H : Hp) (a : Addr) (ws : List Str) : Prop := H a = some (.lst (ws.map V.str))
theorem LS.but {p a : Addr} {H H' : Hp} {ws : List Str} (h : LS H a ws) (b : But p H H') (n : a ≠ p) : LS H' a ws := b a _ n h
theorem LS.same {a : Addr} {H H' : Hp} {ws : List Str} (h : LS H a ws) (s : Same H H') : LS H' a ws := s _ _ h
theorem LS.seq {K : PySem.W.Frag} {a : Addr} {H : Hp} {ws : List Str} (h : LS H a ws) : SqL K H a (ws.map V.str) := .of h
theorem cut_lt (ws : List Str) {k : Nat} (h : k ≤ ws.length) : cutV (ws.map V.str) none (some (k : Int)) = (ws.take k).map V.str := by
  unfold cutV
  rw [HT.sIx_nat, HT.sIx_none, List.length_map, Nat.min_eq_left h, Nat.sub_zero, List.drop_zero, List.map_take]
theorem cut_ge (ws : List Str) {k : Nat} (h : k ≤ ws.length) : cutV (ws.map V.str) (some (k : Int)) none = (ws.drop k).map V.str := by
  unfold cutV
  rw [HT.sIx_nat, HT.sIx_none, List.length_map, Nat.min_eq_left h, List.take_of_length_le (by rw [List.length_drop, List.length_map]; omega), List.map_drop]
theorem sIx_neg (n d : Nat) {k : Nat} (h0 : 0 < k) (h : k ≤ n) : HT.sIx n d (some (-(k : Int))) = n - k := by
  show (if -(k : Int) < 0 then (-(k : Int) + (n : Int)).toNat else min (-(k : Int)).toNat n) = n - k
  rw [if_pos (by omega)]
  omega
theorem cut_ltN (ws : List Str) {k : Nat} (h0 : 0 < k) (h : k ≤ ws.length) : cutV (ws.map V.str) none (some (-(k : Int))) = (ws.take (ws.length - k)).map V.str := by
  unfold cutV
  rw [List.length_map, sIx_neg _ _ h0 h, HT.sIx_none, Nat.sub_zero, List.drop_zero, List.map_take]
theorem cut_geN (ws : List Str) {k : Nat} (h0 : 0 < k) (h : k ≤ ws.length) : cutV (ws.map V.str) (some (-(k : Int))) none = (ws.drop (ws.length - k)).map V.str := by
  unfold cutV
  rw [List.length_map, sIx_neg _ _ h0 h, HT.sIx_none, List.take_of_length_le (by rw [List.length_drop, List.length_map]; omega), List.map_drop]
theorem tk1 (us : List Str) (s z : Str) : (us ++ [s, z]).take ((us ++ [s, z]).length - 1) = us ++ [s] := by
  have e : us ++ [s, z] = (us ++ [s]) ++ [z] := by simp
  rw [e, List.length_append]
  exact List.take_left
theorem tk2 (us : List Str) (s z : Str) : (us ++ [s, z]).take ((us ++ [s, z]).length - 2) = us := by
  rw [List.length_append]
  exact List.take_left
theorem dr2 (us : List Str) (s z : Str) : (us ++ [s, z]).drop ((us ++ [s, z]).length - 2) = [s, z] := by
  rw [List.length_append]
  exact List.drop_left
theorem fits {a b : List Str} (h : a.length + b.length ≤ 1000) : (a.map V.str).length + (b.map V.str).length ≤ sizeLine := by
  rw [List.length_map, List.length_map, sizeLine_eq]
  omega
theorem app_str (a b : List Str) : a.map V.str ++ b.map V.str = (a ++ b).map V.str := (List.map_append ..).symm
/-- a pair of a list of words and the place where reading them stops -/
def It (H : Hp) (x : V) : Prop := ∃ (t a : Addr) (ws : List Str) (k : Nat), x = .ref t ∧ H t = some (.tup [.ref a, .int k]) ∧ LS H a ws ∧ ws ≠ [] ∧ ws.length ≤ 20 ∧ (∀ v ∈ ws, Word v) ∧ rdErr ws = some k
theorem It.same {H H' : Hp} {x : V} (s : Same H H') (h : It H x) : It H' x := by
  obtain ⟨t, a, ws, k, e, h1, h2, r⟩ := h
  exact ⟨t, a, ws, k, e, s _ _ h1, h2.same s, r⟩
/-- what is known while the pairs are made -/
structure Bd (H0 : Hp) (p c : Addr) (m : Nat) (l : Addr) (W : List Str) (xs : List V) (H : Hp) : Prop where
  pen : Pen H p c m
  but : But p H0 H
  lst : LS H l W
  its : ∀ x ∈ xs, It H x
theorem Bd.same {H0 H H' : Hp} {p c l : Addr} {m : Nat} {W : List Str} {xs : List V} (h : Bd H0 p c m l W xs H) (s : Same H H') : Bd H0 p c m l W xs H' :=
  ⟨h.pen.same s, h.but.trans (.of_same s), h.lst.same s, fun x hx => (h.its x hx).same s⟩
theorem Bd.add {H0 H H' : Hp} {p c l : Addr} {m : Nat} {W : List Str} {xs : List V} {x : V} (h : Bd H0 p c m l W xs H) (s : Same H H') (i : It H' x) : Bd H0 p c m l W (xs ++ [x]) H' :=
  ⟨h.pen.same s, h.but.trans (.of_same s), h.lst.same s, fun y hy => by
    rcases List.mem_append.mp hy with hy | hy
    · exact (h.its y hy).same s
    · rw [List.mem_singleton.mp hy]
      exact i⟩
/-- a new pair -/
theorem It.mk {H : Hp} {a t : Addr} {ws : List Str} {k : Nat} (n : H t = none) (h : LS H a ws) (h1 : ws ≠ []) (h2 : ws.length ≤ 20) (h3 : ∀ v ∈ ws, Word v) (h4 : rdErr ws = some k) : It (upd H t (.tup [.ref a, .int k])) (.ref t) :=
  ⟨t, a, ws, k, rfl, upd_same, h.same (same_new n), h1, h2, h3, h4⟩
end JP

namespace JP
open PySem PySem.Spec PyProof.Rows L2
/-- all but the one at p and the tables of code objects stay -/
def ButN (p : Addr) (H H' : Hp) : Prop := ∀ b o, b ≠ p → H b = some o → (∀ ps, o ≠ .tbl ps) → H' b = some o
theorem ButN.trans {p : Addr} {H H1 H2 : Hp} (a : ButN p H H1) (b : ButN p H1 H2) : ButN p H H2 := fun c o n e t => b c o n (a c o n e t) t
theorem ButN.of_but {p : Addr} {H H1 : Hp} (a : But p H H1) : ButN p H H1 := fun c o n e _ => a c o n e
theorem ButN.of_ext {p : Addr} {H H1 : Hp} (a : LamX.ExtN H H1) : ButN p H H1 := fun c o _ e t => a c o e t
theorem ext_same {H H' : Hp} (s : Same H H') : LamX.ExtN H H' := fun b o h _ => s b o h
theorem Pen.ext {H H' : Hp} {p c : Addr} {m : Nat} (h : Pen H p c m) (k : LamX.ExtN H H') : Pen H' p c m := by
  obtain ⟨ns, n, g, h1, h2, r⟩ := h
  exact ⟨ns, n, g, k _ _ h1 (by intro ps z; cases z), k _ _ h2 (by intro ps z; cases z), r⟩

/-! ### what a try wishes, told of stores of the right length alone -/
def wLen (n : Nat) (W : WX) : WX := fun cls d σ H => σ.length = n → W cls d σ H
theorem takesLen {X : Cx} {W : WX} (tk : Takes X W) : Takes X (wLen X.N.length W) := fun e s x => by
  obtain ⟨a, B, sI, pins', σ', H', cls, d, e1, J, nb, up, sky, na, os, ag, hw⟩ := x
  exact tk e s ⟨a, B, sI, pins', σ', H', cls, d, e1, J, nb, up, sky, na, os, ag, hw J.len⟩
section
variable {X : Cx} {x n : Str} {c : Value} {i : Nat} {body suite : List Stmt} {b₀ : Stmt} {np pos pos' : Pos} {tb : WX → TS} {ts : Addr → Value → Option Addr → TS} {Wout : WX}
theorem ps_try_heldL (hs : X.stack = X.env :: X.outer) (hf : X.env.frame = some X.env.locals) (hex : X.ex = []) (hN : X.N.Nodup) (hi : X.N[i]? = some n) (hln : X.env.kindOf n = some .local) (hc : Names X x c) (tk : Takes X Wout)
    (hb : ∀ (W : WX) (pn : List (Addr × Obj)) (xe : Value → Shared → Prop), Takes (X.tr pn xe) W → PassesOwn (model X.prog X.w) X.A X.env xe → PSs (X.tr pn xe) body (tb W))
    (hsu : ∀ (a : Addr) (oe : Obj) (cls : Value) (d : Option Addr) (pn : List (Addr × Obj)), Zc cls d oe → (∃ vs, oe.data = .fields vs) → PSs (X.suite a ((a, oe) :: pn)) (b₀ :: suite) (ts a cls d)) :
    PS X (.Try body [.ExceptHandler (some (.Name x np)) (some n) (b₀ :: suite) pos'] [] [] pos) (fun D σ H => tb (wLen X.N.length (wHeld X.K c i ts Wout D)) D σ H) :=
  ps_try_held (tb := fun W => tb (wLen X.N.length W)) hs hf hex hN hi hln hc tk (fun W pn xe tk' po => hb _ pn xe (takesLen tk') po) hsu
end

/-! ### for x in y, y a name that holds a list or a tuple -/
def iAnyV (K : PySem.W.Frag) (i : Nat) : TI := fun σ H R => ∃ a, σ[i]? = some (some (.ref a)) ∧ (((∃ xs, SqL K H a xs) ∧ R (Itl K a) H) ∨ ((∃ xs, SqT K H a xs) ∧ R (Itt K a) H))
theorem pi_anyV {X : Cx} {tg l : Expr} {i : Nat} (hl : PE X l (tVar i)) : PI X tg l (iAnyV X.K i) := ⟨fun pins s σ H R I h => by
  obtain ⟨a, e, ⟨hx, r⟩ | ⟨hx, r⟩⟩ := h
  · exact (pi_list hl).run pins s σ H R I ⟨.ref a, e, a, rfl, hx, r⟩
  · exact (pi_tup hl).run pins s σ H R I ⟨.ref a, e, a, rfl, hx, r⟩⟩

/-! ### len(x), x of an own class -/
section
variable {X : Cx} {CX : CXT} {k : Nat} {C g : Addr} {fd : FuncData} {ps : List Str} {sp : Sp} {E : XK}
def rLenO (C : Addr) (sp : Sp) (E : XK) : List V → Hp → VK → Prop := fun xs H Q => ∃ a dx fs, xs = [.ref a] ∧ H a = some (.ins C dx fs) ∧ sp [.ref a] H (fun z H' => ∃ n : Nat, z = .int n ∧ n < 2 ^ 63 ∧ Q (.int n) H') E
theorem call_lenO (M : OwnM X.K C "__len__" g) (F : FnOk X.prog X.w X.K X.mg X.base CX k g fd ps sp) (hb : Binds X.K fd ps []) (hr : Room (k + 1) X.A) (hx : Passes CX X E) : CallR X (.builtin "len") (rLenO C sp E) := by
  intro pins s σ H xs us Q I r h
  obtain ⟨a, dx, fs, rfl, ha, q⟩ := h
  obtain ⟨u, rfl, ru⟩ := vals1 r
  cases ru
  obtain ⟨ox, od, J⟩ := ins_inst I ha
  have inner := call_at (A := X.A.in1) (us := [.ref a]) (vs := [.ref a]) F hb (Room.in1 hr) hx I I.env0.in1 (.cons rfl .nil) q
  refine Calls.call_function_entry kind_len plain_len entry_len (args_len1 _) ?_
  unfold Builtin.«len»
  refine wpAny_bind (m := oneArg "len" _) (wpAny_pure (wpAny_bind (m := callSpecial? (.ref a) (Str.ofString "__len__")) (PySem.W.special_fn I.kIn J M.at_ (beq_iff_eq.mp M.fn) (wpAny_mono inner (fun v s' z => ?_) fun _ _ x => x))))
  obtain ⟨z', H', I', rz, n, ez, hn, qz⟩ := z
  subst ez
  obtain ⟨t, rfl⟩ := (show ∃ t, v = Value.int n t from rz)
  refine wpAny_bind (wpAny_holding (wpAny_pure (wpAny_bind (wpAny_letGo ?_))))
  have n1 : ¬ (n : Int) < 0 := by omega
  have n2 : ¬ (n : Int) ≥ 2 ^ 63 := by omega
  show wpAny _ _ (if (n : Int) < 0 then _ else _) _ _ _
  rw [if_neg n1]
  show wpAny _ _ (if (n : Int) ≥ 2 ^ 63 then _ else _) _ _ _
  rw [if_neg n2]
  exact wpAny_bind (wpAny_mkInt (wpAny_pure ⟨_, rfl, .int n, H', I'.tok _, ⟨_, rfl⟩, qz⟩))
end
end JP

namespace JP
open PySem PySem.Spec PyProof.Rows L2

/-! ### zip of two, each a list or a tuple (k: it is a tuple) -/
def SqK (K : PySem.W.Frag) (k : Bool) (H : Hp) (a : Addr) (xs : List V) : Prop := match k with
  | true => SqT K H a xs
  | false => SqL K H a xs
def HSq (k : Bool) (h : Heap) (a : Addr) (its : Array Value) : Prop := match k with
  | true => h.IsTuple a its
  | false => h.IsList a its
def HIt (k : Bool) (h : Heap) (it a : Addr) (i : Nat) : Prop := match k with
  | true => h.IsTupleIter it a i
  | false => h.IsListIter it a i
def itC (k : Bool) : String := match k with
  | true => "tuple_iterator"
  | false => "list_iterator"
theorem sqK_same {K : PySem.W.Frag} {k : Bool} {H H' : Hp} {a : Addr} {xs : List V} (s : Same H H') (h : SqK K k H a xs) : SqK K k H' a xs := by
  cases k
  · exact same_seqL' s h
  · exact same_seqT s h
theorem sqK_inj {X : Cx} {pins : List (Addr × Obj)} {σ : L2.St} {H : Hp} {s : Shared} {k : Bool} {a : Addr} {xs ys : List V} (I : Inv X pins σ H s) (h : SqK X.K k H a xs) (h2 : SqK X.K k H a ys) : xs = ys := by
  cases k
  · exact I.list_inj h h2
  · exact I.tuple_inj h h2
theorem sqK_at {X : Cx} {pins : List (Addr × Obj)} {σ : L2.St} {H : Hp} {s : Shared} {k : Bool} {a : Addr} {xs : List V} (I : Inv X pins σ H s) (h : SqK X.K k H a xs) : ∃ its : List Value, Vals xs its ∧ HSq k s.heap a its.toArray := by
  cases k
  · obtain ⟨its, r, p, _⟩ := I.list h
    exact ⟨its, r, p.isList⟩
  · obtain ⟨its, r, p, _⟩ := I.tuple h
    exact ⟨its, r, p⟩
theorem drawsK {P : Program} {w : World} {A : Around} (k : Bool) (hh : A.handled = none) (it l : Addr) (ne : l ≠ it) (its : Array Value) : Draws P w A it [it, l] its.size (fun i v => its[i]? = some v) (fun i h => HIt k h it l i ∧ HSq k h l its) := by
  cases k
  · exact Draws.list hh it l ne its
  · exact Draws.tuple hh it l ne its
abbrev zk1 (k : Bool) (h : Heap) (l : Addr) : Heap := h.push { cls := .type (itC k), data := .fields #[.ref l, .int 0 0] }
abbrev zk2 (k1 k2 : Bool) (h : Heap) (l m : Addr) : Heap := zk1 k2 (zk1 k1 h l) m
abbrev zk3 (k1 k2 : Bool) (h : Heap) (l m : Addr) : Heap := (zk2 k1 k2 h l m).push { cls := .type "tuple", data := .seq #[.ref h.objs.size, .ref (zk1 k1 h l).objs.size] }
abbrev zk4 (k1 k2 : Bool) (h : Heap) (l m : Addr) : Heap := (zk3 k1 k2 h l m).push { cls := .type "tuple", data := .seq #[.none, .none] }
abbrev zk5 (k1 k2 : Bool) (h : Heap) (l m : Addr) : Heap := (zk4 k1 k2 h l m).push { cls := .type "zip", data := .fields #[.none, .bool false, .bool false, .ref (zk2 k1 k2 h l m).objs.size, .ref (zk3 k1 k2 h l m).objs.size] }
theorem meets_zk (k1 k2 : Bool) (l m : Addr) (xs ys : Array Value) :
    Meets (Builtin.«zip.__new__» ⟨[.type "zip", .ref l, .ref m], []⟩) (fun _ R s => HSq k1 s.heap l xs ∧ HSq k2 s.heap m ys ∧
      R (.ok (.ret (.ref (zk4 k1 k2 s.heap l m).objs.size))) { s with heap := zk5 k1 k2 s.heap l m }) :=
  .of_wp fun prog w A R s h => by
    obtain ⟨hp, g, d, tk, os⟩ := s
    obtain ⟨a1, a2, h⟩ := h
    have hsub := sub_zip
    cases k1 <;> cases k2
    · have b1 : Heap.IsList (Shared.heap ⟨hp, g, d, tk, os⟩) l xs := a1
      have b2 : Heap.IsList (Shared.heap ⟨hp.push { cls := .type "list_iterator", data := .fields #[.ref l, .int 0 0] }, g, d, tk, os⟩) m ys := Heap.IsList.push a2 _
      wp_walk using wpAny_pyIter_list b1, wpAny_pyIter_list b2
      exact ⟨_, rfl, h⟩
    · have b1 : Heap.IsList (Shared.heap ⟨hp, g, d, tk, os⟩) l xs := a1
      have b2 : Heap.IsTuple (Shared.heap ⟨hp.push { cls := .type "list_iterator", data := .fields #[.ref l, .int 0 0] }, g, d, tk, os⟩) m ys := Heap.IsTuple.push a2 _
      wp_walk using wpAny_pyIter_list b1, wpAny_pyIter_tuple b2
      exact ⟨_, rfl, h⟩
    · have b1 : Heap.IsTuple (Shared.heap ⟨hp, g, d, tk, os⟩) l xs := a1
      have b2 : Heap.IsList (Shared.heap ⟨hp.push { cls := .type "tuple_iterator", data := .fields #[.ref l, .int 0 0] }, g, d, tk, os⟩) m ys := Heap.IsList.push a2 _
      wp_walk using wpAny_pyIter_tuple b1, wpAny_pyIter_list b2
      exact ⟨_, rfl, h⟩
    · have b1 : Heap.IsTuple (Shared.heap ⟨hp, g, d, tk, os⟩) l xs := a1
      have b2 : Heap.IsTuple (Shared.heap ⟨hp.push { cls := .type "tuple_iterator", data := .fields #[.ref l, .int 0 0] }, g, d, tk, os⟩) m ys := Heap.IsTuple.push a2 _
      wp_walk using wpAny_pyIter_tuple b1, wpAny_pyIter_tuple b2
      exact ⟨_, rfl, h⟩
theorem hit_new {k : Bool} {h : Heap} {it l : Addr} (e : h.get? it = some { cls := .type (itC k), data := .fields #[.ref l, .int 0 0] }) : HIt k h it l 0 := by
  cases k <;> exact ⟨_, e, rfl, rfl⟩
theorem call_zk {P : Program} {w : World} {A : Around} {E : Value → Shared → Prop} {s : Shared} (k1 k2 : Bool) {l m : Addr} {xs ys : Array Value} {Q : Value → Shared → Prop} (a1 : HSq k1 s.heap l xs) (a2 : HSq k2 s.heap m ys)
    (h : ∀ h', IsZip h' (s.heap.objs.size + 4) (s.heap.objs.size + 2) (s.heap.objs.size + 3) .none → IsPair h' (s.heap.objs.size + 2) (.ref s.heap.objs.size) (.ref (s.heap.objs.size + 1)) →
      IsPair h' (s.heap.objs.size + 3) .none .none → HIt k1 h' s.heap.objs.size l 0 → HIt k2 h' (s.heap.objs.size + 1) m 0 → (∀ c o, s.heap.get? c = some o → h'.get? c = some o) → Q (.ref (s.heap.objs.size + 4)) { s with heap := h' }) :
    wpAny (model P w) A (call (.type "zip") [.ref l, .ref m]) Q E s := by
  refine callType_new F.called_zip (by decide) (F.typeCall_zip_2 _ _) (F.newCall_zip_2 _ _) (fun obj => F.args_object_init_3 obj _ _) F.entry_zip_new (meets_zk k1 k2 l m xs ys) ⟨a1, a2, ?_⟩
  have n1 : (zk1 k1 s.heap l).objs.size = s.heap.objs.size + 1 := Heap.size_push ..
  have n2 : (zk2 k1 k2 s.heap l m).objs.size = s.heap.objs.size + 2 := (Heap.size_push ..).trans (by rw [n1])
  have n3 : (zk3 k1 k2 s.heap l m).objs.size = s.heap.objs.size + 3 := (Heap.size_push ..).trans (by rw [n2])
  have n4 : (zk4 k1 k2 s.heap l m).objs.size = s.heap.objs.size + 4 := (Heap.size_push ..).trans (by rw [n3])
  have p4 : ∀ {c o}, (zk4 k1 k2 s.heap l m).get? c = some o → (zk5 k1 k2 s.heap l m).get? c = some o := fun e => Heap.get?_push_of_some _ e
  have p3 : ∀ {c o}, (zk3 k1 k2 s.heap l m).get? c = some o → (zk5 k1 k2 s.heap l m).get? c = some o := fun e => p4 (Heap.get?_push_of_some _ e)
  have p2 : ∀ {c o}, (zk2 k1 k2 s.heap l m).get? c = some o → (zk5 k1 k2 s.heap l m).get? c = some o := fun e => p3 (Heap.get?_push_of_some _ e)
  have p1 : ∀ {c o}, (zk1 k1 s.heap l).get? c = some o → (zk5 k1 k2 s.heap l m).get? c = some o := fun e => p2 (Heap.get?_push_of_some _ e)
  have g5 : (zk5 k1 k2 s.heap l m).get? (zk4 k1 k2 s.heap l m).objs.size = some _ := Heap.get?_push_size _ rfl
  have g4 : (zk5 k1 k2 s.heap l m).get? (zk3 k1 k2 s.heap l m).objs.size = some _ := p4 (Heap.get?_push_size _ rfl)
  have g3 : (zk5 k1 k2 s.heap l m).get? (zk2 k1 k2 s.heap l m).objs.size = some _ := p3 (Heap.get?_push_size _ rfl)
  have g2 : (zk5 k1 k2 s.heap l m).get? (zk1 k1 s.heap l).objs.size = some _ := p2 (Heap.get?_push_size _ rfl)
  have g1 : (zk5 k1 k2 s.heap l m).get? s.heap.objs.size = some _ := p1 (Heap.get?_push_size _ rfl)
  show _ ∧ _
  rw [n2, n3, n4] at g5
  rw [n3] at g4
  rw [n1, n2] at g3
  rw [n1] at g2
  rw [n4]
  exact ⟨⟨_, g5, rfl⟩, h _ g5 g3 g4 (hit_new g1) (hit_new g2) fun c o x => p1 (Heap.get?_push_of_some _ x)⟩
/-- the two as they stand at each turn -/
def ItzK (K : PySem.W.Frag) (k1 k2 : Bool) (a b : Addr) : L2.It :=
  ⟨fun i H => ∃ (xs ys : List V) (x y : V), SqK K k1 H a xs ∧ SqK K k2 H b ys ∧ xs[i]? = some x ∧ ys[i]? = some y,
    fun i H v H' => ∃ T x y, v = .ref T ∧ H T = none ∧ H' = upd H T (.tup [x, y]) ∧ (∀ xs, SqK K k1 H a xs → xs[i]? = some x) ∧ ∀ ys, SqK K k2 H b ys → ys[i]? = some y,
    fun i H => ∃ xs ys : List V, SqK K k1 H a xs ∧ SqK K k2 H b ys ∧ i = min xs.length ys.length⟩
/-- the five new things -/
abbrev zkFp (z : Addr) : List Addr := [z + 4, z + 2, z + 3, z, z + 1]
def zkSt (k1 k2 : Bool) (a b z : Addr) (i : Nat) (h : Heap) : Prop := IsZip h (z + 4) (z + 2) (z + 3) .none ∧ IsPair h (z + 2) (.ref z) (.ref (z + 1)) ∧ (∃ x y, IsPair h (z + 3) x y) ∧ HIt k1 h z a i ∧ HIt k2 h (z + 1) b i
theorem notIn2 {c x y : Nat} (h1 : c ≠ x) (h2 : c ≠ y) : c ∉ [x, y] := fun h => by
  rcases List.mem_cons.mp h with h | h
  · exact h1 h
  · exact h2 (List.mem_singleton.mp h)
theorem zk_sep {a b z : Nat} (ha : a < z) (hb : b < z) : ZipSep2 (z + 4) (z + 2) (z + 3) z (z + 1) [z, a] [z + 1, b] where
  TIz := by show (z + 2 : Nat) ≠ z + 4; omega
  TOz := by show (z + 3 : Nat) ≠ z + 4; omega
  TITO := by show (z + 2 : Nat) ≠ z + 3; omega
  TIi1 := by show (z + 2 : Nat) ≠ z; omega
  mem1 := List.mem_cons_self
  zf1 := notIn2 (by omega) (by omega)
  Tf1 := notIn2 (by omega) (by omega)
  TIi2 := by show (z + 2 : Nat) ≠ z + 1; omega
  mem2 := List.mem_cons_self
  zf2 := notIn2 (by omega) (by omega)
  Tf2 := notIn2 (by omega) (by omega)
  sep1_2 := notIn2 (by omega) (by omega)
  sep2_1 := notIn2 (by omega) (by omega)
theorem hit_obj {k : Bool} {h : Heap} {it l : Addr} {i : Nat} (e : HIt k h it l i) : ∃ o, h.get? it = some o ∧ ∀ v, o.data ≠ .cell v := by
  cases k <;> exact let ⟨o, h1, _, d⟩ := e; ⟨o, h1, fun v q => by rw [d] at q; cases q⟩
theorem hit_keep {k : Bool} {h h' : Heap} {it l : Addr} {i : Nat} (e : HIt k h it l i) (s : ∀ o, h.get? it = some o → h'.get? it = some o) : HIt k h' it l i := by
  cases k
  · exact Heap.IsListIter.at e s
  · exact Heap.IsTupleIter.at e s
theorem hsq_keep {k : Bool} {h h' : Heap} {l : Addr} {its : Array Value} (e : HSq k h l its) (s : ∀ o, h.get? l = some o → h'.get? l = some o) : HSq k h' l its := by
  cases k
  · exact Heap.IsList.at e s
  · exact Heap.IsTuple.at e s
theorem turn_zk {P : Program} {w : World} {K : PySem.W.Frag} {elts : List Expr} {kk : Nat} {tpos : Pos} {k1 k2 : Bool} {a b z : Addr} (ha : a < z) (hb : b < z) :
    Turn P w K (.Tuple elts kk tpos) (ItzK K k1 k2 a b) (zkFp z) (z + 4) (zkSt k1 k2 a b z) where
  mem := by simp
  obj := fun i h ⟨hz, hT, ⟨x, y, hO⟩, h1, h2⟩ c hc => by
    have e : c = z + 4 ∨ c = z + 2 ∨ c = z + 3 ∨ c = z ∨ c = z + 1 := by simpa using hc
    rcases e with q | q | q | q | q
    · subst q
      exact ⟨_, hz, fun v q => by cases q⟩
    · subst q
      exact ⟨_, hT, fun v q => by cases q⟩
    · subst q
      exact ⟨_, hO, fun v q => by cases q⟩
    · subst q
      exact hit_obj h1
    · subst q
      exact hit_obj h2
  keep := fun i h h' ⟨hz, hT, ⟨x, y, hO⟩, h1, h2⟩ k =>
    ⟨k (z + 4) (by simp) _ hz, k (z + 2) (by simp) _ hT, ⟨x, y, k (z + 3) (by simp) _ hO⟩, hit_keep h1 fun o q => k z (by simp) o q, hit_keep h2 fun o q => k (z + 1) (by simp) o q⟩
  item := by
    intro X hP hw hK hc i pins s σ H E I hf st hg
    subst hP hw hK
    obtain ⟨hz, hT, ⟨x0, y0, hO⟩, h1, h2⟩ := st
    obtain ⟨xs, ys, x, y, qx, qy, hx, hy⟩ := hg
    obtain ⟨its, rv, p⟩ := sqK_at I qx
    obtain ⟨its2, rv2, p2⟩ := sqK_at I qy
    obtain ⟨u, hu, ru⟩ := rv.get hx
    obtain ⟨u2, hu2, ru2⟩ := rv2.get hy
    have hzl : z + 4 < s.heap.objs.size := Heap.lt_size hz
    have hd : X.A.in1.handled = none := I.ok.hd hc
    have S := zk_sep ha hb
    have na : a ≠ z := Nat.ne_of_lt ha
    have nb : b ≠ z + 1 := Nat.ne_of_lt (Nat.lt_succ_of_lt hb)
    refine wpAny_pyNext_zipD2_item S (drawsK k1 hd z a na its.toArray) (drawsK k2 hd (z + 1) b nb its2.toArray) hz hT hO ⟨h1, p⟩ ⟨h2, p2⟩ (by have := (List.getElem?_eq_some_iff.mp hu).1; simpa using this) (by have := (List.getElem?_eq_some_iff.mp hu2).1; simpa using this) fun v1 v2 h' tk e1 e2 z' O' s1 s2 hN hsz hk => ?_
    have ev1 : v1 = u := by
      have q : its.toArray[i]? = some u := by simpa using hu
      exact Option.some.inj (e1.symm.trans q)
    have ev2 : v2 = u2 := by
      have q : its2.toArray[i]? = some u2 := by simpa using hu2
      exact Option.some.inj (e2.symm.trans q)
    subst ev1 ev2
    refine ⟨_, rfl, wpAny_letOwnedTupleGo_zip (s := { s with heap := h', toks := tk }) z' fun h'' z'' sb => ?_⟩
    have nz : s.heap.objs.size ≠ z + 4 := Nat.ne_of_gt hzl
    have hN2 : h''.get? s.heap.objs.size = some { cls := .type "tuple", data := .seq #[v1, v2] } := (sb.2 _ nz).trans hN
    have new : ObjOk X.prog X.w (upd H s.heap.objs.size (.tup [x, y])) h'' s.heap.objs.size (.tup [x, y]) := ⟨by show 2 ≤ sizeLine; decide, [v1, v2], .cons ru (.cons ru2 .nil), ⟨_, hN2, rfl, _, rfl⟩⟩
    have I1 : Inv X pins σ (upd H s.heap.objs.size (.tup [x, y])) { s with heap := h'', toks := tk } :=
      I.turnedNew (t' := tk) (ch := zkFp z) (fun c o nc q => by
        have n1 : c ≠ z + 4 := fun e => nc (by simp [e])
        have n2 : c ≠ z + 3 := fun e => nc (by simp [e])
        have n3 : c ≠ z := fun e => nc (by simp [e])
        have n4 : c ≠ z + 1 := fun e => nc (by simp [e])
        exact (sb.2 c n1).trans (hk c o n1 n2 n3 n4 q)) hf (Nat.le_refl _) new
    refine ⟨.ref s.heap.objs.size, _, I1, rfl, ⟨_, x, y, rfl, I.hok.fresh (Nat.le_refl _), rfl, fun l hl => by rw [sqK_inj I hl qx]; exact hx, fun l hl => by rw [sqK_inj I hl qy]; exact hy⟩, ⟨z'', ?_, ⟨v1, v2, ?_⟩, ?_, ?_⟩, fun c hcm => ?_⟩
    · exact (sb.2 _ S.TIz).trans (hk _ _ S.TIz S.TITO S.TIi1 S.TIi2 hT)
    · exact (sb.2 _ S.TOz).trans O'
    · exact hit_keep s1.1 fun o q => (sb.2 _ S.zi1.symm).trans q
    · exact hit_keep s2.1 fun o q => (sb.2 _ S.zi2.symm).trans q
    · have hlt : c < s.heap.objs.size := by
        have e : c = z + 4 ∨ c = z + 2 ∨ c = z + 3 ∨ c = z ∨ c = z + 1 := by simpa using hcm
        have hz4 : z + 4 < s.heap.objs.size := hzl
        rcases e with q | q | q | q | q
        · rw [q]; exact hz4
        · rw [q]; exact Nat.lt_of_le_of_lt (Nat.add_le_add_left (by decide : (2 : Nat) ≤ 4) z) hz4
        · rw [q]; exact Nat.lt_of_le_of_lt (Nat.add_le_add_left (by decide : (3 : Nat) ≤ 4) z) hz4
        · rw [q]; exact Nat.lt_of_le_of_lt (Nat.le_add_right z 4) hz4
        · rw [q]; exact Nat.lt_of_le_of_lt (Nat.add_le_add_left (by decide : (1 : Nat) ≤ 4) z) hz4
      exact (upd_ne (Nat.ne_of_lt hlt)).trans (hf c hcm).1
  done := by
    intro X hP hw hK hc i pins s σ H E I hf st hg
    subst hP hw hK
    obtain ⟨hz, hT, ⟨x0, y0, hO⟩, h1, h2⟩ := st
    obtain ⟨xs, ys, qx, qy, he⟩ := hg
    obtain ⟨its, rv, p⟩ := sqK_at I qx
    obtain ⟨its2, rv2, p2⟩ := sqK_at I qy
    have l1 := rv.length
    have l2 := rv2.length
    have hd : X.A.in1.handled = none := I.ok.hd hc
    have S := zk_sep ha hb
    have na : a ≠ z := Nat.ne_of_lt ha
    have nb : b ≠ z + 1 := Nat.ne_of_lt (Nat.lt_succ_of_lt hb)
    exact wpAny_pyNext_zipD2_end S (drawsK k1 hd z a na its.toArray) (drawsK k2 hd (z + 1) b nb its2.toArray) hz hT hO ⟨h1, p⟩ ⟨h2, p2⟩ (by simp; omega) (by simp; omega) (by simp; omega) fun h' tk hk => ⟨rfl, I.turnedL (t' := tk) (ch := zkFp z) (fun c o nc q =>
      hk c o (fun e => nc (by simp [e])) (fun e => nc (by simp [e])) (fun e => nc (by simp [e])) (fun e => nc (by simp [e])) q) hf⟩
  self := fun A i s Q E st h => wpAny_pyIter_zip st.1 h
def iZipK (K : PySem.W.Frag) (ta : TA) : TI := fun σ H R => ta σ H fun vs H1 => ∃ k1 k2 a b xs ys, vs = [.ref a, .ref b] ∧ SqK K k1 H1 a xs ∧ SqK K k2 H1 b ys ∧ R (ItzK K k1 k2 a b) H1
theorem hsq_lt {k : Bool} {h : Heap} {a : Addr} {its : Array Value} (e : HSq k h a its) : a < h.objs.size := by
  cases k
  · obtain ⟨o, q, _⟩ := e
    exact Heap.lt_size q
  · exact IsTup.lt e
theorem pi_zipK {X : Cx} {e e2 : Expr} {ta : TA} {p pos tpos : Pos} {elts : List Expr} {kk : Nat} (hg : Gl X "zip") (hm : X.mg "zip" = none) (ha : PA X [e, e2] ta)
    (hs : starEach [e, e2] X.env = (false, eval e X.env) :: starEach [e2] X.env := by rfl) (hpl : (backTo pos (starEach [e2] X.env)).any (·.1) = false := by rfl) :
    PI X (.Tuple elts kk tpos) (.Call (.Name "zip" p) [e, e2] [] pos) (iZipK X.K ta) := by
  constructor
  intro pins s σ H R I h
  refine Call_ (ld_blt I hg hm PyProof.Rows.boot_zip (PyProof.Rows.callWith_type1 (thn (ha.run pos pins s σ H _ I h) fun us s1 ⟨vs, H1, I1, r1, k1, k2, a, b, xs, ys, ex, qx, qy, q⟩ => ?_) hs hpl))
  subst ex
  cases r1 with
  | cons r rr =>
    cases rr with
    | cons r' rr =>
      cases rr
      cases r
      cases r'
      obtain ⟨its, rv, p1⟩ := sqK_at I1 qx
      obtain ⟨its2, rv2, p2⟩ := sqK_at I1 qy
      refine call_zk k1 k2 p1 p2 fun h' hz hT hO g1 g2 hk => wpAny_pyIter_zip hz ?_
      have I2 : Inv X pins σ H1 { s1 with heap := h' } := I1.kept (t' := s1.toks) hk
      refine ⟨s1.heap.objs.size + 4, zkFp s1.heap.objs.size, _, _, H1, rfl, I2, turn_zk (hsq_lt p1) (hsq_lt p2), ⟨hz, hT, ⟨_, _, hO⟩, g1, g2⟩, fun c hcm => ?_, q⟩
      have hle : s1.heap.objs.size ≤ c := by
        have e : c = s1.heap.objs.size + 4 ∨ c = s1.heap.objs.size + 2 ∨ c = s1.heap.objs.size + 3 ∨ c = s1.heap.objs.size ∨ c = s1.heap.objs.size + 1 := by simpa using hcm
        rcases e with z | z | z | z | z <;> rw [z] <;> first | exact Nat.le_refl _ | exact Nat.le_add_right _ _
      exact I1.fpOk hle (I1.hok.fresh hle)
end JP

namespace JP
open PySem PySem.Spec PyProof.Rows L2

/-! ### errors that keep copies of their fields: flat values, by the heap -/
def spCopyF : Sp := fun vs H Q _ => ∃ y, vs = [y] ∧ flatV y = true ∧ Q y H
theorem flat_ki {y : V} (h : flatV y = true) (H : Hp) : ∃ k, IsKi H y k ∧ k.below .tup = false ∧ k.below .lst = false ∧ k.below .dct = false := by
  cases y with
  | non => exact ⟨.non, rfl, rfl, rfl, rfl⟩
  | bl b => exact ⟨.bl, ⟨b, rfl⟩, rfl, rfl, rfl⟩
  | int i => exact ⟨.int, ⟨i, rfl⟩, rfl, rfl, rfl⟩
  | str x => exact ⟨.str, ⟨x, rfl⟩, rfl, rfl, rfl⟩
  | _ => cases h
/-- its __init__ stores copies -/
def spE1F (K : PySem.W.Frag) (C : Addr) (f : Str) : Sp := fun vs H Q E => (∃ a y, vs = [.ref a, y] ∧ flatV y = true) ∧ spE1 K C f vs H Q E
def spE2F (K : PySem.W.Frag) (C : Addr) (f g : Str) : Sp := fun vs H Q E => (∃ a y z, vs = [.ref a, y, z] ∧ flatV y = true ∧ flatV z = true) ∧ spE2 K C f g vs H Q E
theorem mkE1F {K : PySem.W.Frag} {C : Addr} {f : Str} {y : V} {H1 : Hp} {Q E : XK} (q : ∀ d, H1 d = none → Q (.ref C) (some d) (upd H1 d (.xd [(f, y)]))) (fy : flatV y = true := by rfl) :
    [y].length ≤ 1000 ∧ ∀ a, H1 a = none → spE1F K C f (.ref a :: ([y] ++ [])) (upd H1 a (exo a C none))
      (fun v H2 => v = .non ∧ ∃ (d : Addr) (fs : List (Str × V)), H2 a = some (exo a C (some d)) ∧ H2 d = some (exd d fs) ∧ H1 d = none ∧ Q (.ref C) (some d) (upd (del H2 a) d (.xd fs))) E :=
  have m := mkE1 (K := K) (C := C) (f := f) (E := E) q
  ⟨m.1, fun a na => ⟨⟨a, y, rfl, fy⟩, m.2 a na⟩⟩
theorem mkE2F {K : PySem.W.Frag} {C : Addr} {f g : Str} {y z : V} {H1 : Hp} {Q E : XK} (q : ∀ d, H1 d = none → Q (.ref C) (some d) (upd H1 d (.xd [(g, z), (f, y)]))) (fy : flatV y = true := by rfl) (fz : flatV z = true := by rfl) :
    [y, z].length ≤ 1000 ∧ ∀ a, H1 a = none → spE2F K C f g (.ref a :: ([y, z] ++ [])) (upd H1 a (exo a C none))
      (fun v H2 => v = .non ∧ ∃ (d : Addr) (fs : List (Str × V)), H2 a = some (exo a C (some d)) ∧ H2 d = some (exd d fs) ∧ H1 d = none ∧ Q (.ref C) (some d) (upd (del H2 a) d (.xd fs))) E :=
  have m := mkE2 (K := K) (C := C) (f := f) (g := g) (E := E) q
  ⟨m.1, fun a na => ⟨⟨a, y, z, rfl, fy, fz⟩, m.2 a na⟩⟩
end JP

namespace JP
open PySem PySem.Spec PyProof.Rows L2

/-! ## data as trees: what a value is worth, the heap forgotten -/
inductive D where
  | non | bl (b : Bool) | int (i : Int) | str (x : Str) | ty (n : String) | adr (a : Addr)
  | tup (ds : List D) | lst (ds : List D) | scr (ns : List Int) | ins (C : Addr) (fs : List (Str × D)) | exc (C : Addr) (fs : List (Str × D)) | dic (kvs : List (D × D)) | dit (kvs : List (D × D))
instance : Inhabited D := ⟨.non⟩
def kD : Key → D
  | .inl i => .int i
  | .inr x => .str x
def tyNames : List String := ["int", "str", "bool", "list", "tuple", "dict", "set", "bytes", "float"]
/-- an own class whose instances are told apart -/
structure GoodC (K : PySem.W.Frag) (C : Addr) : Prop where
  cl : Cls K C
  ca : PySem.W.findIn K (.ref C) "__class__" = some (some (.builtin "object.__class__"))
  sg : PySem.W.specialIn K (.builtin "object.__class__") "__get__" = some (some (.builtin "getset_descriptor.__get__"))
  tk : PySem.W.takesIn K (.builtin "object.__class__") = some true
  mr : PySem.W.mroIn K C (.type "object") = some true
  kt : ∀ n ∈ tyNames, PySem.W.kitOne K (.ref C) (.type n) = some false
mutual
/-- the value v stands for d in the part F of the heap that stays -/
inductive Rep (K : PySem.W.Frag) (F : Hp) : V → D → Prop
  | non : Rep K F .non .non
  | bl (b : Bool) : Rep K F (.bl b) (.bl b)
  | int (i : Int) : Rep K F (.int i) (.int i)
  | str (x : Str) : Rep K F (.str x) (.str x)
  | ty (n : String) : Rep K F (.ty n) (.ty n)
  | adr (a : Addr) : Rep K F (.ref a) (.adr a)
  | tup {a : Addr} {xs : List V} {ds : List D} : F a = some (.tup xs) → RepAll K F xs ds → Rep K F (.ref a) (.tup ds)
  | lst {a : Addr} {xs : List V} {ds : List D} : F a = some (.lst xs) → RepAll K F xs ds → Rep K F (.ref a) (.lst ds)
  | scr {a : Addr} {ns : List Int} : SqL K F a (ns.map V.int) → Rep K F (.ref a) (.scr ns)
  | ins {a C dx : Addr} {fs : List (Str × V)} {ds : List (Str × D)} : F a = some (.ins C dx fs) → GoodC K C → (∀ p ∈ ds, NoAttr K C p.1) → RepF K F fs ds → Rep K F (.ref a) (.ins C ds)
  | exc {a C : Addr} {fs : List (Str × V)} {ds : List (Str × D)} : Held F a C fs → ExcC K C → RepF K F fs ds → Rep K F (.ref a) (.exc C ds)
  | dk {a : Addr} {kvs : List (Key × V)} {ds : List (D × D)} : Rd F a (.dK kvs) → RepK K F kvs ds → Rep K F (.ref a) (.dic ds)
  | dt {a : Addr} {kvs : List (List Key × V)} {ds : List (D × D)} : F a = some (.dT kvs) → RepT K F kvs ds → Rep K F (.ref a) (.dit ds)
inductive RepAll (K : PySem.W.Frag) (F : Hp) : List V → List D → Prop
  | nil : RepAll K F [] []
  | cons {v : V} {vs : List V} {d : D} {ds : List D} : Rep K F v d → RepAll K F vs ds → RepAll K F (v :: vs) (d :: ds)
inductive RepF (K : PySem.W.Frag) (F : Hp) : List (Str × V) → List (Str × D) → Prop
  | nil : RepF K F [] []
  | cons {f : Str} {v : V} {vs : List (Str × V)} {d : D} {ds : List (Str × D)} : Rep K F v d → RepF K F vs ds → RepF K F ((f, v) :: vs) ((f, d) :: ds)
inductive RepK (K : PySem.W.Frag) (F : Hp) : List (Key × V) → List (D × D) → Prop
  | nil : RepK K F [] []
  | cons {k : Key} {v : V} {vs : List (Key × V)} {d : D} {ds : List (D × D)} : Rep K F v d → RepK K F vs ds → RepK K F ((k, v) :: vs) ((kD k, d) :: ds)
inductive RepT (K : PySem.W.Frag) (F : Hp) : List (List Key × V) → List (D × D) → Prop
  | nil : RepT K F [] []
  | cons {k : List Key} {v : V} {vs : List (List Key × V)} {d : D} {ds : List (D × D)} : Rep K F v d → RepT K F vs ds → RepT K F ((k, v) :: vs) ((.tup (k.map kD), d) :: ds)
end
section
variable {K : PySem.W.Frag} {F F' : Hp}
theorem Held.same {F F' : Hp} {a C : Addr} {fs : List (Str × V)} (s : Same F F') (h : Held F a C fs) : Held F' a C fs := by
  rcases h with ⟨d, h1, h2⟩ | ⟨e, h1⟩
  · exact .inl ⟨d, s _ _ h1, s _ _ h2⟩
  · exact .inr ⟨e, s _ _ h1⟩
theorem Rd.same {F F' : Hp} {a : Addr} {u : HO} (s : Same F F') (h : Rd F a u) : Rd F' a u := by
  rcases h with h | ⟨o, h⟩
  · exact .inl (s _ _ h)
  · exact .inr ⟨o, s _ _ h⟩
mutual
theorem Rep.mono (s : Same F F') : ∀ {v : V} {d : D}, Rep K F v d → Rep K F' v d
  | _, _, .non => .non
  | _, _, .bl b => .bl b
  | _, _, .int i => .int i
  | _, _, .str x => .str x
  | _, _, .ty n => .ty n
  | _, _, .adr a => .adr a
  | _, _, .tup h r => .tup (s _ _ h) (RepAll.mono s r)
  | _, _, .lst h r => .lst (s _ _ h) (RepAll.mono s r)
  | _, _, .scr h => .scr (same_seqL' s h)
  | _, _, .ins h g n r => .ins (s _ _ h) g n (RepF.mono s r)
  | _, _, .exc h g r => .exc (h.same s) g (RepF.mono s r)
  | _, _, .dk h r => .dk (Rd.same s h) (RepK.mono s r)
  | _, _, .dt h r => .dt (s _ _ h) (RepT.mono s r)
theorem RepAll.mono (s : Same F F') : ∀ {vs : List V} {ds : List D}, RepAll K F vs ds → RepAll K F' vs ds
  | _, _, .nil => .nil
  | _, _, .cons h r => .cons (Rep.mono s h) (RepAll.mono s r)
theorem RepF.mono (s : Same F F') : ∀ {vs : List (Str × V)} {ds : List (Str × D)}, RepF K F vs ds → RepF K F' vs ds
  | _, _, .nil => .nil
  | _, _, .cons h r => .cons (Rep.mono s h) (RepF.mono s r)
theorem RepK.mono (s : Same F F') : ∀ {vs : List (Key × V)} {ds : List (D × D)}, RepK K F vs ds → RepK K F' vs ds
  | _, _, .nil => .nil
  | _, _, .cons h r => .cons (Rep.mono s h) (RepK.mono s r)
theorem RepT.mono (s : Same F F') : ∀ {vs : List (List Key × V)} {ds : List (D × D)}, RepT K F vs ds → RepT K F' vs ds
  | _, _, .nil => .nil
  | _, _, .cons h r => .cons (Rep.mono s h) (RepT.mono s r)
end
theorem RepAll.length : ∀ {vs : List V} {ds : List D}, RepAll K F vs ds → vs.length = ds.length
  | _, _, .nil => rfl
  | _, _, .cons _ r => congrArg (· + 1) (RepAll.length r)
theorem RepAll.append : ∀ {vs us : List V} {ds es : List D}, RepAll K F vs ds → RepAll K F us es → RepAll K F (vs ++ us) (ds ++ es)
  | _, _, _, _, .nil, q => q
  | _, _, _, _, .cons h r, q => .cons h (RepAll.append r q)
theorem RepAll.get : ∀ {vs : List V} {ds : List D} {i : Nat} {d : D}, RepAll K F vs ds → ds[i]? = some d → ∃ v, vs[i]? = some v ∧ Rep K F v d
  | _, _, _, _, .nil, e => by simp at e
  | _, _, 0, _, .cons h _, e => by
    cases e
    exact ⟨_, rfl, h⟩
  | _, _, i + 1, _, .cons _ r, e => RepAll.get (i := i) r e
theorem RepAll.get' : ∀ {vs : List V} {ds : List D} {i : Nat} {v : V}, RepAll K F vs ds → vs[i]? = some v → ∃ d, ds[i]? = some d ∧ Rep K F v d
  | _, _, _, _, .nil, e => by simp at e
  | _, _, 0, _, .cons h _, e => by
    cases e
    exact ⟨_, rfl, h⟩
  | _, _, i + 1, _, .cons _ r, e => RepAll.get' (i := i) r e
theorem RepAll.take : ∀ {vs : List V} {ds : List D} (n : Nat), RepAll K F vs ds → RepAll K F (vs.take n) (ds.take n)
  | _, _, 0, _ => .nil
  | _, _, _ + 1, .nil => .nil
  | _, _, n + 1, .cons h r => .cons h (RepAll.take n r)
theorem RepAll.drop : ∀ {vs : List V} {ds : List D} (n : Nat), RepAll K F vs ds → RepAll K F (vs.drop n) (ds.drop n)
  | _, _, 0, r => r
  | _, _, _ + 1, .nil => .nil
  | _, _, n + 1, .cons _ r => RepAll.drop n r
theorem RepF.look : ∀ {vs : List (Str × V)} {ds : List (Str × D)} {f : Str} {d : D}, RepF K F vs ds → ds.lookup f = some d → ∃ v, vs.lookup f = some v ∧ Rep K F v d
  | _, _, _, _, .nil, e => by simp at e
  | _, _, g, _, .cons (f := f) h r, e => by
    rw [List.lookup_cons] at e ⊢
    cases q : g == f with
    | true =>
      rw [q] at e
      cases e
      exact ⟨_, rfl, h⟩
    | false =>
      rw [q] at e
      exact RepF.look r e
theorem RepF.lookN : ∀ {vs : List (Str × V)} {ds : List (Str × D)} {f : Str}, RepF K F vs ds → ds.lookup f = none → vs.lookup f = none
  | _, _, _, .nil, _ => rfl
  | _, _, g, .cons (f := f) h r, e => by
    rw [List.lookup_cons] at e ⊢
    cases q : g == f with
    | true =>
      rw [q] at e
      cases e
    | false =>
      rw [q] at e
      exact RepF.lookN r e
theorem RepF.length : ∀ {vs : List (Str × V)} {ds : List (Str × D)}, RepF K F vs ds → vs.length = ds.length
  | _, _, .nil => rfl
  | _, _, .cons _ r => congrArg (· + 1) (RepF.length r)
/-- a field is stored -/
def putD (f : Str) (d : D) : List (Str × D) → List (Str × D)
  | [] => [(f, d)]
  | (g, e) :: r => if g = f then (f, d) :: r else (g, e) :: putD f d r
theorem repAll_of {xs : List V} {ds : List D} {f : V → D} (h : ∀ v ∈ xs, Rep K F v (f v)) : RepAll K F xs (xs.map f) := by
  induction xs with
  | nil => exact .nil
  | cons x xs ih => exact .cons (h x List.mem_cons_self) (ih fun v hv => h v (List.mem_cons_of_mem _ hv))
theorem repAll_ints : ∀ ns : List Int, RepAll K F (ns.map V.int) (ns.map D.int)
  | [] => .nil
  | n :: ns => .cons (.int n) (repAll_ints ns)
end

/-! ### what may change: each by its address -/
inductive MO where
  | lst (ds : List D) | ins (C : Addr) (fs : List (Str × D)) | dic (kvs : List (D × D)) | pen (m : Nat)
abbrev Gm := Addr → Option MO
def updG (G : Gm) (a : Addr) (m : MO) : Gm := fun b => if b = a then some m else G b
def delG (G : Gm) (a : Addr) : Gm := fun b => if b = a then none else G b
theorem updG_same {G : Gm} {a : Addr} {m : MO} : updG G a m a = some m := by unfold updG; rw [if_pos rfl]
theorem updG_ne {G : Gm} {a b : Addr} {m : MO} (h : b ≠ a) : updG G a m b = G b := by unfold updG; rw [if_neg h]
theorem updG_updG {G : Gm} {a : Addr} {m n : MO} : updG (updG G a m) a n = updG G a n := by
  funext b; unfold updG; split <;> rfl
theorem updG_self {G : Gm} {a : Addr} {m : MO} (h : G a = some m) : updG G a m = G := by
  funext b; unfold updG; split
  · rename_i e; rw [e, h]
  · rfl
theorem delG_same {G : Gm} {a : Addr} : delG G a a = none := by unfold delG; rw [if_pos rfl]
theorem delG_ne {G : Gm} {a b : Addr} (h : b ≠ a) : delG G a b = G b := by unfold delG; rw [if_neg h]
theorem delG_updG {G : Gm} {a : Addr} {m : MO} (h : G a = none) : delG (updG G a m) a = G := by
  funext b; unfold delG updG; split
  · rename_i e; rw [e, h]
  · rfl
def MRep (K : PySem.W.Frag) (F H : Hp) (a : Addr) : MO → Prop
  | .lst ds => ∃ xs, H a = some (.lst xs) ∧ RepAll K F xs ds
  | .ins C fs => ∃ dx fv, H a = some (.ins C dx fv) ∧ GoodC K C ∧ (∀ p ∈ fs, NoAttr K C p.1) ∧ RepF K F fv fs
  | .dic kvs => ∃ ks, H a = some (.dK ks) ∧ RepK K F ks kvs
  | .pen m => ∃ (c : Addr) (ns : List Int) (n g : Int), H a = some (.lst [.ref c, .int n, .int g]) ∧ F c = some (.lst (ns.map V.int)) ∧ ns.length ≤ 63 ∧ 0 ≤ n ∧ n ≤ m ∧ 0 ≤ g
def mutO : HO → Prop
  | .lst _ => True
  | .ins _ _ _ => True
  | .dK _ => True
  | .dT _ => True
  | _ => False
def notT : HO → Prop
  | .tbl _ => False
  | _ => True
theorem _root_.LamX.Tabs.but {T : List (Addr × Str)} {H : Hp} {o : HO} (t : LamX.Tabs T H) (a : Addr) (h : ∀ ps, H a = some (.tbl ps) → False) (h2 : ∀ φ, H a = some (.ext φ) → False) : LamX.Tabs T (upd H a o) := fun p hp => by
  obtain ⟨ps, h1, h3, h4⟩ := t p hp
  have n1 : p.1 ≠ a := fun e => h ps (by rw [← e]; exact h1)
  refine ⟨ps, (upd_ne n1).trans h1, h3, fun pos cv hc => ?_⟩
  obtain ⟨c, e1, e2⟩ := h4 pos cv hc
  have n2 : c ≠ a := fun e => h2 _ (by rw [← e]; exact e2)
  exact ⟨c, e1, (upd_ne n2).trans e2⟩
section
variable {K : PySem.W.Frag} {Tb : List (Addr × Str)} {F F' H H' Z : Hp} {G : Gm} {a : Addr} {m : MO}
theorem MRep.at_ (h : MRep K F H a m) : ∃ o, H a = some o ∧ mutO o := by
  cases m with
  | lst ds => obtain ⟨xs, e, _⟩ := h; exact ⟨_, e, trivial⟩
  | ins C fs => obtain ⟨dx, fv, e, _⟩ := h; exact ⟨_, e, trivial⟩
  | dic kvs => obtain ⟨ks, e, _⟩ := h; exact ⟨_, e, trivial⟩
  | pen m => obtain ⟨c, ns, n, g, e, _⟩ := h; exact ⟨_, e, trivial⟩
theorem MRep.mono (s : Same F F') (e : ∀ o, H a = some o → H' a = some o) (h : MRep K F H a m) : MRep K F' H' a m := by
  cases m with
  | lst ds => obtain ⟨xs, q, r⟩ := h; exact ⟨xs, e _ q, r.mono s⟩
  | ins C fs => obtain ⟨dx, fv, q, g, n, r⟩ := h; exact ⟨dx, fv, e _ q, g, n, r.mono s⟩
  | dic kvs => obtain ⟨ks, q, r⟩ := h; exact ⟨ks, e _ q, r.mono s⟩
  | pen m => obtain ⟨c, ns, n, g, q, r, t⟩ := h; exact ⟨c, ns, n, g, e _ q, s _ _ r, t⟩

/-- the heap: F stays, G may change, Z is the callers' own that may change but not here; Tb: tables of code objects that grow -/
structure DS (K : PySem.W.Frag) (Tb : List (Addr × Str)) (F H : Hp) (G : Gm) (Z : Hp) : Prop where
  sub : Same F H
  mu : ∀ a m, G a = some m → F a = none ∧ MRep K F H a m
  zub : Same Z H
  zf : ∀ a o, Z a = some o → F a = none ∧ G a = none ∧ mutO o
  ft : ∀ a o, F a = some o → notT o
  tab : LamX.Tabs Tb H
theorem DS.same (d : DS K Tb F H G Z) (s : Same H H') : DS K Tb F H' G Z :=
  ⟨d.sub.trans s, fun a m e => ⟨(d.mu a m e).1, (d.mu a m e).2.mono (.refl F) fun o q => s _ _ q⟩, d.zub.trans s, d.zf, d.ft, d.tab.ext s⟩
theorem DS.frz {o : HO} (d : DS K Tb F H G Z) (h : H a = some o) (g : G a = none) (z : Z a = none) (nt : notT o := by exact trivial) : DS K Tb (upd F a o) H G Z ∧ Same F (upd F a o) := by
  have s : Same F (upd F a o) := fun b u e => by
    by_cases c : b = a
    · subst c
      have := d.sub _ _ e
      rw [h] at this
      cases this
      exact upd_same
    · rw [upd_ne c]
      exact e
  refine ⟨⟨fun b u e => ?_, fun b m e => ?_, d.zub, fun b u e => ?_, fun b u e => ?_, d.tab⟩, s⟩
  · by_cases c : b = a
    · subst c
      rw [upd_same] at e
      cases e
      exact h
    · rw [upd_ne c] at e
      exact d.sub _ _ e
  · have c : b ≠ a := fun c => by rw [c, g] at e; cases e
    exact ⟨(upd_ne c).trans (d.mu b m e).1, (d.mu b m e).2.mono s fun o q => q⟩
  · have c : b ≠ a := fun c => by rw [c, z] at e; cases e
    exact ⟨(upd_ne c).trans (d.zf b u e).1, (d.zf b u e).2⟩
  · by_cases c : b = a
    · subst c
      rw [upd_same] at e
      cases e
      exact nt
    · rw [upd_ne c] at e
      exact d.ft b u e
theorem DS.noG (d : DS K Tb F H G Z) (h : H a = none) : G a = none := by
  cases e : G a with
  | none => rfl
  | some m =>
    obtain ⟨o, q, _⟩ := (d.mu a m e).2.at_
    rw [h] at q
    cases q
theorem DS.noZ (d : DS K Tb F H G Z) (h : H a = none) : Z a = none := by
  cases e : Z a with
  | none => rfl
  | some m =>
    have := d.zub a m e
    rw [h] at this
    cases this
theorem DS.noF (d : DS K Tb F H G Z) (h : H a = none) : F a = none := by
  cases e : F a with
  | none => rfl
  | some m =>
    have := d.sub a m e
    rw [h] at this
    cases this
theorem DS.notM (d : DS K Tb F H G Z) {o : HO} (h : H a = some o) (n : ¬ mutO o) : G a = none ∧ Z a = none := by
  constructor
  · cases e : G a with
    | none => rfl
    | some m =>
      obtain ⟨u, q, k⟩ := (d.mu a m e).2.at_
      rw [h] at q
      cases q
      exact absurd k n
  · cases e : Z a with
    | none => rfl
    | some u =>
      have := d.zub a u e
      rw [h] at this
      cases this
      exact absurd (d.zf a _ e).2.2 n
/-- a new thing that stays -/
theorem DS.new {o : HO} (d : DS K Tb F H G Z) (n : H a = none) (nt : notT o := by exact trivial) : DS K Tb (upd F a o) (upd H a o) G Z ∧ Same F (upd F a o) :=
  (d.same (same_new n)).frz upd_same (d.noG n) (d.noZ n) nt
/-- a thing that was got, new or not -/
theorem DS.got {o : HO} (d : DS K Tb F H G Z) (s : Same H H') (h : H' a = some o) (n : ¬ mutO o) (nt : notT o := by exact trivial) : DS K Tb (upd F a o) H' G Z ∧ Same F (upd F a o) :=
  have d' := d.same s
  d'.frz h (d'.notM h n).1 (d'.notM h n).2 nt
/-- a new thing that may change -/
theorem DS.open {o : HO} (d : DS K Tb F H G Z) (n : H a = none) (r : MRep K F (upd H a o) a m) : DS K Tb F (upd H a o) (updG G a m) Z := by
  have d' := d.same (same_new (o := o) n)
  refine ⟨d'.sub, fun b k e => ?_, d'.zub, fun b u e => ?_, d.ft, d'.tab⟩
  · by_cases c : b = a
    · subst c
      rw [updG_same] at e
      cases e
      exact ⟨d.noF n, r⟩
    · rw [updG_ne c] at e
      exact d'.mu b k e
  · have c : b ≠ a := fun c => by rw [c, d.noZ n] at e; cases e
    exact ⟨(d.zf b u e).1, (updG_ne c).trans (d.zf b u e).2.1, (d.zf b u e).2.2⟩
/-- it is written -/
theorem DS.write {o : HO} {m' : MO} (d : DS K Tb F H G Z) (g : G a = some m) (r : MRep K F (upd H a o) a m') : DS K Tb F (upd H a o) (updG G a m') Z := by
  have hf := (d.mu a m g).1
  have hz : Z a = none := by
    cases e : Z a with
    | none => rfl
    | some u =>
      have := (d.zf a u e).2.1
      rw [g] at this
      cases this
  have keep : ∀ b u, b ≠ a → H b = some u → upd H a o b = some u := fun b u n e => (upd_ne n).trans e
  refine ⟨fun b u e => ?_, fun b k e => ?_, fun b u e => ?_, fun b u e => ?_, d.ft, d.tab.but a (fun ps q => ?_) (fun φ q => ?_)⟩
  · exact keep b u (fun c => by rw [c, hf] at e; cases e) (d.sub b u e)
  · by_cases c : b = a
    · subst c
      rw [updG_same] at e
      cases e
      exact ⟨hf, r⟩
    · rw [updG_ne c] at e
      exact ⟨(d.mu b k e).1, (d.mu b k e).2.mono (.refl F) fun u q => keep b u c q⟩
  · exact keep b u (fun c => by rw [c, hz] at e; cases e) (d.zub b u e)
  · have c : b ≠ a := fun c => by rw [c, hz] at e; cases e
    exact ⟨(d.zf b u e).1, (updG_ne c).trans (d.zf b u e).2.1, (d.zf b u e).2.2⟩
  · obtain ⟨u, q', k⟩ := (d.mu a m g).2.at_
    rw [q] at q'
    cases q'
    exact k
  · obtain ⟨u, q', k⟩ := (d.mu a m g).2.at_
    rw [q] at q'
    cases q'
    exact k
/-- it is not changed any more -/
theorem DS.close {o : HO} (d : DS K Tb F H G Z) (g : G a = some m) (h : H a = some o) (nt : notT o := by exact trivial) : DS K Tb (upd F a o) H (delG G a) Z ∧ Same F (upd F a o) := by
  have hz : Z a = none := by
    cases e : Z a with
    | none => rfl
    | some u =>
      have := (d.zf a u e).2.1
      rw [g] at this
      cases this
  have d' : DS K Tb F H (delG G a) Z := ⟨d.sub, fun b k e => by
    by_cases c : b = a
    · rw [c, delG_same] at e
      cases e
    · rw [delG_ne c] at e
      exact d.mu b k e, d.zub, fun b u e => by
    have c : b ≠ a := fun c => by rw [c, hz] at e; cases e
    exact ⟨(d.zf b u e).1, (delG_ne c).trans (d.zf b u e).2.1, (d.zf b u e).2.2⟩, d.ft, d.tab⟩
  exact d'.frz h delG_same hz nt
/-- a further thing that is to stay as it is, for a while -/
theorem DS.zadd {o : HO} (d : DS K Tb F H G Z) (h : H a = some o) (f : F a = none) (g : G a = none) (n : mutO o) : DS K Tb F H G (upd Z a o) :=
  ⟨d.sub, d.mu, fun b u e => by
    by_cases c : b = a
    · subst c
      rw [upd_same] at e
      cases e
      exact h
    · rw [upd_ne c] at e
      exact d.zub b u e, fun b u e => by
    by_cases c : b = a
    · subst c
      rw [upd_same] at e
      cases e
      exact ⟨f, g, n⟩
    · rw [upd_ne c] at e
      exact d.zf b u e, d.ft, d.tab⟩
theorem DS.zdel {o : HO} (d : DS K Tb F H G (upd Z a o)) (n : Z a = none) : DS K Tb F H G Z ∧ H a = some o ∧ F a = none ∧ G a = none :=
  have k : ∀ b u, Z b = some u → upd Z a o b = some u := fun b u e => by
    have c : b ≠ a := fun c => by rw [c, n] at e; cases e
    rw [upd_ne c]
    exact e
  ⟨⟨d.sub, d.mu, fun b u e => d.zub b u (k b u e), fun b u e => d.zf b u (k b u e), d.ft, d.tab⟩, d.zub a o upd_same, (d.zf a o upd_same).1, (d.zf a o upd_same).2.1⟩
/-- a thing that nobody knows of is written -/
theorem DS.other {o u : HO} (d : DS K Tb F H G Z) (h : H a = some u) (f : F a = none) (g : G a = none) (z : Z a = none) (mu : mutO u := by exact trivial) : DS K Tb F (upd H a o) G Z :=
  have ne : ∀ {b : Addr} {Y : Hp} {q : HO}, Y a = none → Y b = some q → b ≠ a := fun y e c => by rw [c, y] at e; cases e
  ⟨fun b q e => (upd_ne (ne f e)).trans (d.sub b q e), fun b m e => ⟨(d.mu b m e).1, (d.mu b m e).2.mono (.refl F) fun q t => by
    have c : b ≠ a := fun c => by rw [c, g] at e; cases e
    exact (upd_ne c).trans t⟩, fun b q e => (upd_ne (ne z e)).trans (d.zub b q e), d.zf, d.ft, d.tab.but a (fun ps q => by rw [h] at q; cases q; exact mu) (fun φ q => by rw [h] at q; cases q; exact mu)⟩
end

/-! ### readings over trees -/
abbrev SD := List (Option D)
abbrev QD := D → Gm → Prop
abbrev TED := SD → Gm → QD → Prop
abbrev TTD := SD → Gm → (Bool → Gm → Prop) → Prop
abbrev TAD := SD → Gm → (List D → Gm → Prop) → Prop
/-- the slots -/
structure Sl (K : PySem.W.Frag) (F : Hp) (σ : L2.St) (δ : SD) : Prop where
  len : δ.length = σ.length
  get : ∀ (i : Nat) (d : D), δ[i]? = some (some d) → ∃ v : V, σ[i]? = some (some v) ∧ Rep K F v d
theorem Sl.mono {K : PySem.W.Frag} {F F' : Hp} {σ : L2.St} {δ : SD} (s : Same F F') (h : Sl K F σ δ) : Sl K F' σ δ :=
  ⟨h.len, fun i d e => let ⟨v, e', r⟩ := h.get i d e; ⟨v, e', r.mono s⟩⟩
theorem Sl.set {K : PySem.W.Frag} {F : Hp} {σ : L2.St} {δ : SD} {v : V} {d : D} (h : Sl K F σ δ) (i : Nat) (r : Rep K F v d) : Sl K F (σ.set i (some v)) (δ.set i (some d)) := by
  refine ⟨by simp [h.len], fun j e q => ?_⟩
  rw [List.getElem?_set] at q
  rw [List.getElem?_set]
  by_cases c : i = j
  · subst c
    rw [if_pos rfl] at q ⊢
    split at q
    · rename_i l
      cases q
      rw [if_pos (by rw [← h.len]; exact l)]
      exact ⟨v, rfl, r⟩
    · cases q
  · rw [if_neg c] at q ⊢
    exact h.get j e q
theorem Sl.drop {K : PySem.W.Frag} {F : Hp} {σ : L2.St} {δ : SD} (h : Sl K F σ δ) (i : Nat) (o : Option V) : Sl K F (σ.set i o) (δ.set i none) := by
  refine ⟨by simp [h.len], fun j e q => ?_⟩
  rw [List.getElem?_set] at q
  rw [List.getElem?_set]
  by_cases c : i = j
  · subst c
    rw [if_pos rfl] at q
    split at q <;> cases q
  · rw [if_neg c] at q ⊢
    exact h.get j e q
/-- where the code stands: what stood at the entry, and what is to stay -/
structure Bs where
  F : Hp
  Z : Hp
  T : List (Addr × Str)
/-- the state at δ, G -/
structure Sit (K : PySem.W.Frag) (B : Bs) (σ : L2.St) (H : Hp) (F : Hp) (δ : SD) (G : Gm) : Prop where
  ds : DS K B.T F H G B.Z
  gr : Same B.F F
  sl : Sl K F σ δ
theorem Sit.same {K : PySem.W.Frag} {B : Bs} {σ : L2.St} {H H' F : Hp} {δ : SD} {G : Gm} (S : Sit K B σ H F δ G) (s : Same H H') : Sit K B σ H' F δ G := ⟨S.ds.same s, S.gr, S.sl⟩
/-- behind an expression -/
def Beh (K : PySem.W.Frag) (B : Bs) (σ : L2.St) (F : Hp) (δ : SD) (Qd : QD) (v : V) (H' : Hp) : Prop :=
  ∃ F' G' d, Same F F' ∧ Sit K B σ H' F' δ G' ∧ Rep K F' v d ∧ Qd d G'
def up (K : PySem.W.Frag) (B : Bs) (T : TED) : TE := fun σ H Q => ∃ F G δ Qd, Sit K B σ H F δ G ∧ T δ G Qd ∧ ∀ v H', Beh K B σ F δ Qd v H' → Q v H'
def upT (K : PySem.W.Frag) (B : Bs) (T : TTD) : TT := fun σ H Q => ∃ F G δ Qd, Sit K B σ H F δ G ∧ T δ G Qd ∧ ∀ b H', (∃ F' G', Same F F' ∧ Sit K B σ H' F' δ G' ∧ Qd b G') → Q b H'
def upA (K : PySem.W.Frag) (B : Bs) (T : TAD) : TA := fun σ H Q => ∃ F G δ Qd, Sit K B σ H F δ G ∧ T δ G Qd ∧ ∀ vs H', (∃ F' G' ds, Same F F' ∧ Sit K B σ H' F' δ G' ∧ RepAll K F' vs ds ∧ Qd ds G') → Q vs H'
def DE (X : Cx) (B : Bs) (e : Expr) (T : TED) : Prop := PE X e (up X.K B T)
def DT (X : Cx) (B : Bs) (e : Expr) (T : TTD) : Prop := PT X e (upT X.K B T)
def DW (X : Cx) (B : Bs) (e : Expr) (T : TTD) : Prop := PW X e (upT X.K B T)
def DA (X : Cx) (B : Bs) (es : List Expr) (T : TAD) : Prop := PA X es (upA X.K B T)
section
variable {X : Cx} {B : Bs} {K : PySem.W.Frag}
theorem PE.weak {e : Expr} {t t' : TE} (h : PE X e t) (w : ∀ σ H Q, t' σ H Q → t σ H Q) : PE X e t' := ⟨fun pins s σ H Q I q => h.run pins s σ H Q I (w _ _ _ q)⟩
theorem PT.weak {e : Expr} {t t' : TT} (h : PT X e t) (w : ∀ σ H Q, t' σ H Q → t σ H Q) : PT X e t' := ⟨fun pins s σ H Q I q => h.run pins s σ H Q I (w _ _ _ q)⟩
theorem PW.weak {e : Expr} {t t' : TT} (h : PW X e t) (w : ∀ σ H Q, t' σ H Q → t σ H Q) : PW X e t' := ⟨fun wh pins s σ H Q I q => h.run wh pins s σ H Q I (w _ _ _ q)⟩
theorem PA.weak {e : List Expr} {t t' : TA} (h : PA X e t) (w : ∀ σ H Q, t' σ H Q → t σ H Q) : PA X e t' := ⟨fun pos pins s σ H Q I q => h.run pos pins s σ H Q I (w _ _ _ q)⟩
/-- two in a row -/
theorem up2 {ta tb : TED} {R : D → D → Gm → Prop} {RV : V → V → Hp → Prop} {σ : L2.St} {H F : Hp} {δ : SD} {G : Gm} (S : Sit K B σ H F δ G) (h : ta δ G fun x G1 => tb δ G1 fun y G2 => R x y G2)
    (k : ∀ x y H2 F2 G2 a b, Same F F2 → Sit K B σ H2 F2 δ G2 → Rep K F2 x a → Rep K F2 y b → R a b G2 → RV x y H2) : up K B ta σ H fun x H1 => up K B tb σ H1 fun y H2 => RV x y H2 :=
  ⟨F, G, δ, _, S, h, fun x H1 ⟨F1, G1, a, s1, S1, r1, h1⟩ => ⟨F1, G1, δ, _, S1, h1, fun y H2 ⟨F2, G2, b, s2, S2, r2, h2⟩ => k x y H2 F2 G2 a b (s1.trans s2) S2 (r1.mono s2) r2 h2⟩⟩
/-- the same thing again -/
theorem Beh.end_ {σ : L2.St} {H F F' : Hp} {δ : SD} {G' : Gm} {Qd : QD} {v : V} {d : D} (s : Same F F') (S : Sit K B σ H F' δ G') (r : Rep K F' v d) (q : Qd d G') : Beh K B σ F δ Qd v H := ⟨F', G', d, s, S, r, q⟩

/-! ### names, constants -/
def dVar (i : Nat) : TED := fun δ G Q => match δ[i]? with | some (some d) => Q d G | _ => False
def dC (d : D) : TED := fun _ G Q => Q d G
theorem de_var {i : Nat} {x : Str} {pos : Pos} (hN : X.N[i]? = some x) (hv : Vis X.env.scope x) (hd : (x == ("__debug__" : Str)) = false := by decide) (hcd : (x == ("__classdict__" : Str)) = false := by decide) : DE X B (.Name x pos) (dVar i) :=
  PE.weak (pe_var hN hv hd hcd) fun σ H Q ⟨F, G, δ, Qd, S, h, k⟩ => by
    unfold dVar at h
    split at h
    · rename_i d e
      obtain ⟨v, e', r⟩ := S.sl.get i d e
      exact ⟨v, e', k v H (.end_ (.refl F) S r h)⟩
    · exact h.elim
theorem de_c {e : Expr} {v : V} {d : D} (h : PE X e (tC v)) (r : ∀ F, Rep X.K F v d) : DE X B e (dC d) :=
  PE.weak h fun σ H Q ⟨F, G, δ, Qd, S, h, k⟩ => k v H (.end_ (.refl F) S (r F) h)
theorem de_int {i j pos} : DE X B (.Constant (.int i) j pos) (dC (.int i)) := de_c pe_int fun _ => .int i
theorem de_bl {b j pos} : DE X B (.Constant (.bool b) j pos) (dC (.bl b)) := de_c pe_bl fun _ => .bl b
theorem de_non {j pos} : DE X B (.Constant .none j pos) (dC .non) := de_c pe_non fun _ => .non
theorem de_str {x j pos} : DE X B (.Constant (.str x) j pos) (dC (.str x)) := de_c pe_str fun _ => .str x
theorem de_gint {x : Str} {i : Int} {u : Value} {pos : Pos} (hg : Gl X x) (hm : X.mg x = some u) (r : RelV (.int i) u) (hd : (x == ("__debug__" : Str)) = false := by decide) : DE X B (.Name x pos) (dC (.int i)) := de_c (pe_glob hg hm r hd) fun _ => .int i
theorem de_gadr {x : Str} {a : Addr} {pos : Pos} (hg : Gl X x) (hm : X.mg x = some (.ref a)) (hd : (x == ("__debug__" : Str)) = false := by decide) : DE X B (.Name x pos) (dC (.adr a)) := de_c (pe_glob hg hm (show RelV (.ref a) _ from rfl) hd) fun _ => .adr a
theorem de_gty {x : Str} {n : String} {pos : Pos} (hg : Gl X x) (hm : X.mg x = none) (hv : bootBuiltins x = some (.type n)) (hn : x ≠ "__name__" := by decide) (hd : (x == ("__debug__" : Str)) = false := by decide) : DE X B (.Name x pos) (dC (.ty n)) :=
  de_c (pe_bltn hg hm hv (show RelV (.ty n) _ from rfl) hn hd) fun _ => .ty n

/-! ### operators -/
abbrev R2D := D → D → Gm → QD → Prop
abbrev R1D := D → Gm → QD → Prop
def dOp (r : R2D) (ta tb : TED) : TED := fun δ G Q => ta δ G fun x G1 => tb δ G1 fun y G2 => r x y G2 Q
def dUn (r : R1D) (ta : TED) : TED := fun δ G Q => ta δ G fun x G1 => r x G1 Q
/-- an operator by the heap's own and by trees -/
def OpA (K : PySem.W.Frag) (rv : R2) (r : R2D) : Prop := ∀ (B : Bs) (σ : L2.St) (δ : SD) (H F : Hp) (G : Gm) (x y : V) (a b : D) (Qd : QD) (Q : VK), Sit K B σ H F δ G → Rep K F x a → Rep K F y b → r a b G Qd → (∀ v H', Beh K B σ F δ Qd v H' → Q v H') → rv x y H Q
theorem de_op {op : Operator} {rv : R2} {r : R2D} {a b : Expr} {ta tb : TED} {pos : Pos} (ho : OpR X (binaryOp op) rv) (hA : OpA X.K rv r) (ha : DE X B a ta) (hb : DE X B b tb) : DE X B (.BinOp a op b pos) (dOp r ta tb) :=
  PE.weak (pe_op ho ha hb) fun σ H Q ⟨F, G, δ, Qd, S, h, k⟩ => up2 S h fun x y H2 F2 G2 d e s2 S2 r1 r2 h2 => hA B σ δ H2 F2 G2 x y d e Qd Q S2 r1 r2 h2 fun v H' ⟨F', G', d', s', S', r', q'⟩ => k v H' ⟨F', G', d', s2.trans s', S', r', q'⟩
theorem de_cmp {op : CmpOp} {rv : R2} {r : R2D} {a b : Expr} {ta tb : TED} {pos : Pos} (ho : OpR X (compareOp op) rv) (hA : OpA X.K rv r) (ha : DE X B a ta) (hb : DE X B b tb) (hm : behindInMarks op b = false) : DE X B (.Compare a [op] [b] pos) (dOp r ta tb) :=
  PE.weak (pe_cmpR ho ha hb hm) fun σ H Q ⟨F, G, δ, Qd, S, h, k⟩ => up2 S h fun x y H2 F2 G2 d e s2 S2 r1 r2 h2 => hA B σ δ H2 F2 G2 x y d e Qd Q S2 r1 r2 h2 fun v H' ⟨F', G', d', s', S', r', q'⟩ => k v H' ⟨F', G', d', s2.trans s', S', r', q'⟩
theorem de_ix {rv : R2} {r : R2D} {a b : Expr} {ta tb : TED} {pos : Pos} (ho : IxR X rv) (hA : OpA X.K rv r) (ha : DE X B a ta) (hb : DE X B b tb) (hs : PlainIx b) : DE X B (.Subscript a b pos) (dOp r ta tb) :=
  PE.weak (pe_ix ho ha hb hs) fun σ H Q ⟨F, G, δ, Qd, S, h, k⟩ => up2 S h fun x y H2 F2 G2 d e s2 S2 r1 r2 h2 => hA B σ δ H2 F2 G2 x y d e Qd Q S2 r1 r2 h2 fun v H' ⟨F', G', d', s', S', r', q'⟩ => k v H' ⟨F', G', d', s2.trans s', S', r', q'⟩
/-- a test out of a value -/
def dTest (t : TED) : TTD := fun δ G Q => t δ G fun x G' => match x with | .bl b => Q b G' | _ => False
theorem rep_bl {F : Hp} {v : V} {b : Bool} (r : Rep K F v (.bl b)) : v = .bl b := by cases r; rfl
theorem rep_int {F : Hp} {v : V} {b : Int} (r : Rep K F v (.int b)) : v = .int b := by cases r; rfl
theorem rep_str {F : Hp} {v : V} {b : Str} (r : Rep K F v (.str b)) : v = .str b := by cases r; rfl
theorem rep_non {F : Hp} {v : V} (r : Rep K F v .non) : v = .non := by cases r; rfl
theorem rep_adr {F : Hp} {v : V} {a : Addr} (r : Rep K F v (.adr a)) : v = .ref a := by cases r; rfl
theorem up_test {t : TED} {σ : L2.St} {H : Hp} {Q : Bool → Hp → Prop} (h : upT K B (dTest t) σ H Q) : up K B t σ H fun x H' => ∃ k, x = .bl k ∧ Q k H' := by
  obtain ⟨F, G, δ, Qd, S, h, k⟩ := h
  refine ⟨F, G, δ, _, S, h, fun v H' ⟨F', G', d, s, S', r, q⟩ => ?_⟩
  cases d with
  | bl b =>
    cases r
    exact ⟨b, rfl, k b H' ⟨F', G', s, S', q⟩⟩
  | _ => exact q.elim
theorem dt_val {e : Expr} {t : TED} (h : DE X B e t) (he : ∀ whole, isTrue e X.env whole = (do let v ← whole; standAt e.pos; holding [v] (truthy v)) := by intro _; rfl) : DT X B e (dTest t) :=
  PT.weak (pt_val h he) fun σ H Q q => up_test q
theorem dt_cmp {op : CmpOp} {rv : R2} {r : R2D} {a b : Expr} {ta tb : TED} {pos : Pos} (ho : OpR X (compareOp op) rv) (hA : OpA X.K rv r) (ha : DE X B a ta) (hb : DE X B b tb) (hm : behindInMarks op b = false) : DT X B (.Compare a [op] [b] pos) (dTest (dOp r ta tb)) :=
  PT.weak (pt_cmpR ho ha hb hm) fun σ H Q q => by
    obtain ⟨F, G, δ, Qd, S, h, k⟩ := q
    refine up2 S h fun x y H2 F2 G2 d e s2 S2 r1 r2 h2 => hA B σ δ H2 F2 G2 x y d e _ _ S2 r1 r2 h2 fun v H' ⟨F', G', d', s', S', r', q'⟩ => ?_
    cases d' with
    | bl b =>
      cases r'
      exact ⟨b, rfl, k b H' ⟨F', G', s2.trans s', S', q'⟩⟩
    | _ => exact q'.elim
end
end JP

namespace JP
open PySem PySem.Spec PyProof.Rows L2
section
variable {X : Cx} {B : Bs} {K : PySem.W.Frag} {a b c : Expr} {rest : List Expr} {ta tb : TED} {pos : Pos}
/-! ### and, or, not, if else -/
def dAnd (ta tb : TED) : TED := fun δ G Q => ta δ G fun x G1 => match x with | .bl true => tb δ G1 Q | .bl false => Q (.bl false) G1 | _ => False
def dOr (ta tb : TED) : TED := fun δ G Q => ta δ G fun x G1 => match x with | .bl true => Q (.bl true) G1 | .bl false => tb δ G1 Q | _ => False
def dNot (ta : TED) : TED := fun δ G Q => ta δ G fun x G1 => match x with | .bl c => Q (.bl (!c)) G1 | _ => False
theorem de_one {op} {t : TED} (h : DE X B a t) : DE X B (.BoolOp op [a] pos) t := pe_one h
theorem de_and (ha : DE X B a ta) (hb : DE X B (.BoolOp .And (b :: rest) pos) tb) : DE X B (.BoolOp .And (a :: b :: rest) pos) (dAnd ta tb) :=
  PE.weak (pe_and ha hb) fun σ H Q ⟨F, G, δ, Qd, S, h, k⟩ => ⟨F, G, δ, _, S, h, fun v H1 ⟨F1, G1, d, s1, S1, r1, h1⟩ => by
    cases d with
    | bl c =>
      cases r1
      cases c with
      | true => exact ⟨true, rfl, F1, G1, δ, Qd, S1, h1, fun v H' ⟨F', G', d', s', S', r', q'⟩ => k v H' ⟨F', G', d', s1.trans s', S', r', q'⟩⟩
      | false => exact ⟨false, rfl, k _ _ ⟨F1, G1, _, s1, S1, .bl false, h1⟩⟩
    | _ => exact h1.elim⟩
theorem de_or (ha : DE X B a ta) (hb : DE X B (.BoolOp .Or (b :: rest) pos) tb) : DE X B (.BoolOp .Or (a :: b :: rest) pos) (dOr ta tb) :=
  PE.weak (pe_or ha hb) fun σ H Q ⟨F, G, δ, Qd, S, h, k⟩ => ⟨F, G, δ, _, S, h, fun v H1 ⟨F1, G1, d, s1, S1, r1, h1⟩ => by
    cases d with
    | bl c =>
      cases r1
      cases c with
      | false => exact ⟨false, rfl, F1, G1, δ, Qd, S1, h1, fun v H' ⟨F', G', d', s', S', r', q'⟩ => k v H' ⟨F', G', d', s1.trans s', S', r', q'⟩⟩
      | true => exact ⟨true, rfl, k _ _ ⟨F1, G1, _, s1, S1, .bl true, h1⟩⟩
    | _ => exact h1.elim⟩
theorem de_not (ha : DE X B a ta) : DE X B (.UnaryOp .Not a pos) (dNot ta) :=
  PE.weak (pe_not ha) fun σ H Q ⟨F, G, δ, Qd, S, h, k⟩ => ⟨F, G, δ, _, S, h, fun v H1 ⟨F1, G1, d, s1, S1, r1, h1⟩ => by
    cases d with
    | bl c =>
      cases r1
      exact ⟨c, rfl, k _ _ ⟨F1, G1, _, s1, S1, .bl _, h1⟩⟩
    | _ => exact h1.elim⟩
/-- tests -/
def dAndT (t u : TTD) : TTD := fun δ G Q => t δ G fun c G1 => match c with | true => u δ G1 Q | false => Q false G1
def dOrT (t u : TTD) : TTD := fun δ G Q => t δ G fun c G1 => match c with | true => Q true G1 | false => u δ G1 Q
def dNotT (t : TTD) : TTD := fun δ G Q => t δ G fun c G1 => Q (!c) G1
variable {tA tB' : TTD}
theorem dw_pt {e : Expr} {t : TTD} (h : DW X B e t) : DT X B e t := PW.pt h
theorem dw_and1 (ha : DT X B a tA) : DW X B (.BoolOp .And [a] pos) tA := pw_and1 ha
theorem dw_or1 (ha : DT X B a tA) : DW X B (.BoolOp .Or [a] pos) tA := pw_or1 ha
theorem dw_and (ha : DT X B a tA) (hb : DW X B (.BoolOp .And (b :: rest) pos) tB') : DW X B (.BoolOp .And (a :: b :: rest) pos) (dAndT tA tB') :=
  PW.weak (pw_and ha hb) fun σ H Q ⟨F, G, δ, Qd, S, h, k⟩ => ⟨F, G, δ, _, S, h, fun c H1 ⟨F1, G1, s1, S1, h1⟩ => by
    cases c with
    | true => exact ⟨F1, G1, δ, Qd, S1, h1, fun v H' ⟨F', G', s', S', q'⟩ => k v H' ⟨F', G', s1.trans s', S', q'⟩⟩
    | false => exact k _ _ ⟨F1, G1, s1, S1, h1⟩⟩
theorem dw_or (ha : DT X B a tA) (hb : DW X B (.BoolOp .Or (b :: rest) pos) tB') : DW X B (.BoolOp .Or (a :: b :: rest) pos) (dOrT tA tB') :=
  PW.weak (pw_or ha hb) fun σ H Q ⟨F, G, δ, Qd, S, h, k⟩ => ⟨F, G, δ, _, S, h, fun c H1 ⟨F1, G1, s1, S1, h1⟩ => by
    cases c with
    | false => exact ⟨F1, G1, δ, Qd, S1, h1, fun v H' ⟨F', G', s', S', q'⟩ => k v H' ⟨F', G', s1.trans s', S', q'⟩⟩
    | true => exact k _ _ ⟨F1, G1, s1, S1, h1⟩⟩
theorem dt_not (ha : DT X B a tA) : DT X B (.UnaryOp .Not a pos) (dNotT tA) :=
  PT.weak (pt_not ha) fun σ H Q ⟨F, G, δ, Qd, S, h, k⟩ => ⟨F, G, δ, _, S, h, fun c H1 ⟨F1, G1, s1, S1, h1⟩ => k _ _ ⟨F1, G1, s1, S1, h1⟩⟩
def dIf (t : TTD) (ta tb : TED) : TED := fun δ G Q => t δ G fun c G1 => match c with | true => ta δ G1 Q | false => tb δ G1 Q
theorem de_if (hc : DT X B c tA) (ha : DE X B a ta) (hb : DE X B b tb) : DE X B (.IfExp c a b pos) (dIf tA ta tb) :=
  PE.weak (pe_ifExp hc ha hb) fun σ H Q ⟨F, G, δ, Qd, S, h, k⟩ => ⟨F, G, δ, _, S, h, fun c H1 ⟨F1, G1, s1, S1, h1⟩ => by
    cases c with
    | true => exact ⟨F1, G1, δ, Qd, S1, h1, fun v H' ⟨F', G', d', s', S', r', q'⟩ => k v H' ⟨F', G', d', s1.trans s', S', r', q'⟩⟩
    | false => exact ⟨F1, G1, δ, Qd, S1, h1, fun v H' ⟨F', G', d', s', S', r', q'⟩ => k v H' ⟨F', G', d', s1.trans s', S', r', q'⟩⟩⟩
end

/-! ### lists of expressions, displays -/
section
variable {X : Cx} {B : Bs} {K : PySem.W.Frag} {e : Expr} {es : List Expr} {te : TED} {t : TAD} {pos : Pos}
def dNil : TAD := fun _ G Q => Q [] G
def dCons (te : TED) (tr : TAD) : TAD := fun δ G Q => te δ G fun d G1 => tr δ G1 fun ds G2 => Q (d :: ds) G2
theorem da_nil : DA X B [] dNil := PA.weak pa_nil fun σ H Q ⟨F, G, δ, Qd, S, h, k⟩ => k [] H ⟨F, G, [], .refl F, S, .nil, h⟩
theorem da_cons (ha : DE X B e te) (hr : DA X B es t) (hs : starEach (e :: es) X.env = (false, eval e X.env) :: starEach es X.env := by rfl) : DA X B (e :: es) (dCons te t) :=
  PA.weak (pa_cons ha hr hs) fun σ H Q ⟨F, G, δ, Qd, S, h, k⟩ => ⟨F, G, δ, _, S, h, fun v H1 ⟨F1, G1, d, s1, S1, r1, h1⟩ => ⟨F1, G1, δ, _, S1, h1, fun vs H2 ⟨F2, G2, ds, s2, S2, r2, h2⟩ =>
    k _ H2 ⟨F2, G2, d :: ds, s1.trans s2, S2, .cons (r1.mono s2) r2, h2⟩⟩⟩
def dTup (t : TAD) : TED := fun δ G Q => t δ G fun ds G1 => ds.length ≤ sizeLine ∧ Q (.tup ds) G1
def dLst (t : TAD) : TED := fun δ G Q => t δ G fun ds G1 => ds.length ≤ sizeLine ∧ Q (.lst ds) G1
/-- a new thing in the heap, that stays -/
theorem Beh.new {σ : L2.St} {H F F1 : Hp} {δ : SD} {G : Gm} {Qd : QD} {p : Addr} {o : HO} {d : D} (S : Sit K B σ H F1 δ G) (s : Same F F1) (n : H p = none) (r : Rep K (upd F1 p o) (.ref p) d) (q : Qd d G) (nt : notT o := by exact trivial) : Beh K B σ F δ Qd (.ref p) (upd H p o) :=
  have ⟨d1, s1⟩ := S.ds.new (o := o) n nt
  ⟨upd F1 p o, G, d, s.trans s1, ⟨d1, S.gr.trans s1, S.sl.mono s1⟩, r, q⟩
theorem rep_tup_new {F1 : Hp} {p : Addr} {vs : List V} {ds : List D} (n : F1 p = none) (r : RepAll K F1 vs ds) : Rep K (upd F1 p (.tup vs)) (.ref p) (.tup ds) := .tup upd_same (r.mono (same_new n))
theorem rep_lst_new {F1 : Hp} {p : Addr} {vs : List V} {ds : List D} (n : F1 p = none) (r : RepAll K F1 vs ds) : Rep K (upd F1 p (.lst vs)) (.ref p) (.lst ds) := .lst upd_same (r.mono (same_new n))
theorem de_tup {x1} (h : DA X B es t) : DE X B (.Tuple es x1 pos) (dTup t) :=
  PE.weak (pe_tup h) fun σ H Q ⟨F, G, δ, Qd, S, q, k⟩ => ⟨F, G, δ, _, S, q, fun vs H1 ⟨F1, G1, ds, s1, S1, r1, l, h1⟩ => ⟨by rw [r1.length]; exact l, fun p n =>
    k _ _ (.new S1 s1 n (rep_tup_new (S1.ds.noF n) r1) h1)⟩⟩
theorem de_lst (h : DA X B es t) : DE X B (.List es pos) (dLst t) :=
  PE.weak (pe_lst h) fun σ H Q ⟨F, G, δ, Qd, S, q, k⟩ => ⟨F, G, δ, _, S, q, fun vs H1 ⟨F1, G1, ds, s1, S1, r1, l, h1⟩ => ⟨by rw [r1.length]; exact l, fun p n =>
    k _ _ (.new S1 s1 n (rep_lst_new (S1.ds.noF n) r1) h1)⟩⟩
/-- a list that will be changed -/
def dLstM (t : TAD) : TED := fun δ G Q => t δ G fun ds G1 => ds.length ≤ sizeLine ∧ ∀ p, G1 p = none → Q (.adr p) (updG G1 p (.lst ds))
theorem Beh.open {σ : L2.St} {H F F1 : Hp} {δ : SD} {G : Gm} {Qd : QD} {p : Addr} {o : HO} {m : MO} (S : Sit K B σ H F1 δ G) (s : Same F F1) (n : H p = none) (r : MRep K F1 (upd H p o) p m) (q : Qd (.adr p) (updG G p m)) : Beh K B σ F δ Qd (.ref p) (upd H p o) :=
  ⟨F1, updG G p m, .adr p, s, ⟨S.ds.open n r, S.gr, S.sl⟩, .adr p, q⟩
theorem de_lstM (h : DA X B es t) : DE X B (.List es pos) (dLstM t) :=
  PE.weak (pe_lst h) fun σ H Q ⟨F, G, δ, Qd, S, q, k⟩ => ⟨F, G, δ, _, S, q, fun vs H1 ⟨F1, G1, ds, s1, S1, r1, l, h1⟩ => ⟨by rw [r1.length]; exact l, fun p n =>
    k _ _ (.open (m := .lst ds) S1 s1 n ⟨vs, upd_same, r1⟩ (h1 p (S1.ds.noG n)))⟩⟩
/-- what was changed and is so no more: it is read as what it is worth -/
def dClose (t : TED) : TED := fun δ G Q => t δ G fun d G1 => ∃ a, d = .adr a ∧ match G1 a with | some (.lst ds) => Q (.lst ds) (delG G1 a) | some (.ins C fs) => Q (.ins C fs) (delG G1 a) | some (.dic kvs) => Q (.dic kvs) (delG G1 a) | _ => False
theorem Sit.close {σ : L2.St} {H F : Hp} {δ : SD} {G : Gm} {a : Addr} {m : MO} {o : HO} (S : Sit K B σ H F δ G) (g : G a = some m) (h : H a = some o) (nt : notT o := by exact trivial) : Sit K B σ H (upd F a o) δ (delG G a) ∧ Same F (upd F a o) :=
  have ⟨d1, s1⟩ := S.ds.close g h nt
  ⟨⟨d1, S.gr.trans s1, S.sl.mono s1⟩, s1⟩
theorem de_close (h : DE X B e te) : DE X B e (dClose te) :=
  PE.weak h fun σ H Q ⟨F, G, δ, Qd, S, q, k⟩ => ⟨F, G, δ, _, S, q, fun v H1 ⟨F1, G1, d, s1, S1, r1, a, ea, h1⟩ => by
    subst ea
    cases r1
    cases g : G1 a with
    | none =>
      rw [g] at h1
      exact h1.elim
    | some m =>
      rw [g] at h1
      have r := (S1.ds.mu a m g).2
      cases m with
      | lst ds =>
        obtain ⟨xs, e, r⟩ := r
        obtain ⟨S2, s2⟩ := S1.close g e
        exact k _ _ ⟨_, _, _, s1.trans s2, S2, .lst upd_same (r.mono s2), h1⟩
      | ins C fs =>
        obtain ⟨dx, fv, e, gc, na, r⟩ := r
        obtain ⟨S2, s2⟩ := S1.close g e
        exact k _ _ ⟨_, _, _, s1.trans s2, S2, .ins upd_same gc na (r.mono s2), h1⟩
      | dic kvs =>
        obtain ⟨ks, e, r⟩ := r
        obtain ⟨S2, s2⟩ := S1.close g e
        exact k _ _ ⟨_, _, _, s1.trans s2, S2, .dk (.of upd_same) (r.mono s2), h1⟩
      | pen m => exact h1.elim⟩
end

/-! ### statements -/
structure EndsD where
  nx : SD → Gm → Prop
  rt : QD
  bk : SD → Gm → Prop := fun _ _ => False
  ct : SD → Gm → Prop := fun _ _ => False
abbrev TSD := EndsD → SD → Gm → Prop
def BehS (K : PySem.W.Frag) (B : Bs) (F : Hp) (q : SD → Gm → Prop) (σ : L2.St) (H : Hp) : Prop := ∃ F' G' δ', Same F F' ∧ Sit K B σ H F' δ' G' ∧ q δ' G'
def BehR (K : PySem.W.Frag) (B : Bs) (F : Hp) (q : QD) (v : V) (H : Hp) : Prop := ∃ F' G' d, Same F F' ∧ DS K B.T F' H G' B.Z ∧ Same B.F F' ∧ Rep K F' v d ∧ q d G'
structure Low (K : PySem.W.Frag) (B : Bs) (F : Hp) (E : EndsD) (D : Ends) : Prop where
  nx : ∀ σ H, BehS K B F E.nx σ H → D.nx σ H
  rt : ∀ v H, BehR K B F E.rt v H → D.rt v H
  bk : ∀ σ H, BehS K B F E.bk σ H → D.bk σ H
  ct : ∀ σ H, BehS K B F E.ct σ H → D.ct σ H
section
variable {X : Cx} {B : Bs} {K : PySem.W.Frag}
theorem BehS.mono {F F' : Hp} {q : SD → Gm → Prop} {σ : L2.St} {H : Hp} (s : Same F F') (h : BehS K B F' q σ H) : BehS K B F q σ H := let ⟨F1, G, δ, s1, r⟩ := h; ⟨F1, G, δ, s.trans s1, r⟩
theorem BehR.mono {F F' : Hp} {q : QD} {v : V} {H : Hp} (s : Same F F') (h : BehR K B F' q v H) : BehR K B F q v H := let ⟨F1, G, δ, s1, r⟩ := h; ⟨F1, G, δ, s.trans s1, r⟩
theorem Low.mono {F F' : Hp} {E : EndsD} {D : Ends} (s : Same F F') (h : Low K B F E D) : Low K B F' E D :=
  ⟨fun σ H q => h.nx σ H (q.mono s), fun σ H q => h.rt σ H (q.mono s), fun σ H q => h.bk σ H (q.mono s), fun σ H q => h.ct σ H (q.mono s)⟩
def upS (K : PySem.W.Frag) (B : Bs) (T : TSD) : TS := fun D σ H => ∃ F G δ E, Sit K B σ H F δ G ∧ T E δ G ∧ Low K B F E D
def DSt (X : Cx) (B : Bs) (st : Stmt) (T : TSD) : Prop := PS X st (upS X.K B T)
def DB (X : Cx) (B : Bs) (st : List Stmt) (T : TSD) : Prop := PSs X st (upS X.K B T)
theorem PS.weak {e : Stmt} {t t' : TS} (h : PS X e t) (w : ∀ D σ H, t' D σ H → t D σ H) : PS X e t' := ⟨fun pins s σ H D I q => h.run pins s σ H D I (w _ _ _ q)⟩
theorem PSs.weak {e : List Stmt} {t t' : TS} (h : PSs X e t) (w : ∀ D σ H, t' D σ H → t D σ H) : PSs X e t' := ⟨fun pins s σ H D I q => h.run pins s σ H D I (w _ _ _ q)⟩
variable {st : Stmt} {rest : List Stmt} {t u : TSD} {e : Expr} {te : TED} {pos : Pos}
def dNext : TSD := fun E δ G => E.nx δ G
def dSeq (t u : TSD) : TSD := fun E δ G => t { E with nx := u E } δ G
theorem db_nil : DB X B [] dNext := PSs.weak pss_nil fun D σ H ⟨F, G, δ, E, S, h, L⟩ => L.nx σ H ⟨F, G, δ, .refl F, S, h⟩
theorem db_cons (h1 : DSt X B st t) (h2 : DB X B rest u) : DB X B (st :: rest) (dSeq t u) :=
  PSs.weak (pss_cons h1 h2) fun D σ H ⟨F, G, δ, E, S, h, L⟩ => ⟨F, G, δ, _, S, h, ⟨fun σ' H' ⟨F', G', δ', s', S', q'⟩ => ⟨F', G', δ', E, S', q', L.mono s'⟩, L.rt, L.bk, L.ct⟩⟩
theorem db_one (h1 : DSt X B st t) : DB X B [st] t := pss_one h1
theorem ds_pass : DSt X B (.Pass pos) dNext := PS.weak ps_pass fun D σ H ⟨F, G, δ, E, S, h, L⟩ => L.nx σ H ⟨F, G, δ, .refl F, S, h⟩
def dBreak : TSD := fun E δ G => E.bk δ G
def dCont : TSD := fun E δ G => E.ct δ G
theorem ds_break : DSt X B (.Break pos) dBreak := PS.weak ps_break fun D σ H ⟨F, G, δ, E, S, h, L⟩ => L.bk σ H ⟨F, G, δ, .refl F, S, h⟩
theorem ds_cont : DSt X B (.Continue pos) dCont := PS.weak ps_continue fun D σ H ⟨F, G, δ, E, S, h, L⟩ => L.ct σ H ⟨F, G, δ, .refl F, S, h⟩
def dDrop (te : TED) : TSD := fun E δ G => te δ G fun _ G1 => E.nx δ G1
theorem ds_expr (he : DE X B e te) (hs : swapsWith e none pos.line X.env = pure false := by rfl) : DSt X B (.Expr e pos) (dDrop te) :=
  PS.weak (ps_expr he hs) fun D σ H ⟨F, G, δ, E, S, h, L⟩ => ⟨F, G, δ, _, S, h, fun v H' ⟨F', G', d, s', S', r', q'⟩ => L.nx σ H' ⟨F', G', δ, s', S', q'⟩⟩
def dRet (te : TED) : TSD := fun E δ G => te δ G E.rt
theorem ds_ret (he : DE X B e te) : DSt X B (.Return (some e) pos) (dRet te) :=
  PS.weak (ps_ret he) fun D σ H ⟨F, G, δ, E, S, h, L⟩ => ⟨F, G, δ, _, S, h, fun v H' ⟨F', G', d, s', S', r', q'⟩ => L.rt v H' ⟨F', G', d, s', S'.ds, S'.gr, r', q'⟩⟩
def dRetN : TSD := fun E _ G => E.rt .non G
theorem ds_retN : DSt X B (.Return none pos) dRetN := PS.weak ps_retN fun D σ H ⟨F, G, δ, E, S, h, L⟩ => L.rt .non H ⟨F, G, .non, .refl F, S.ds, S.gr, .non, h⟩
def dIfS (c : TTD) (t u : TSD) : TSD := fun E δ G => c δ G fun b G1 => match b with | true => t E δ G1 | false => u E δ G1
theorem ds_if {c : Expr} {a b : List Stmt} {tc : TTD} (hc : DT X B c tc) (ha : DB X B a t) (hb : DB X B b u) : DSt X B (.If c a b pos) (dIfS tc t u) :=
  PS.weak (ps_if hc ha hb) fun D σ H ⟨F, G, δ, E, S, h, L⟩ => ⟨F, G, δ, _, S, h, fun b H' ⟨F', G', s', S', q'⟩ => by
    cases b with
    | true => exact ⟨F', G', δ, E, S', q', L.mono s'⟩
    | false => exact ⟨F', G', δ, E, S', q', L.mono s'⟩⟩
/-- targets -/
abbrev TGD := D → SD → Gm → (SD → Gm → Prop) → Prop
abbrev TGsD := List D → SD → Gm → (SD → Gm → Prop) → Prop
def upG (K : PySem.W.Frag) (B : Bs) (T : TGD) : TG := fun v σ H Q => ∃ F G δ d Qd, Sit K B σ H F δ G ∧ Rep K F v d ∧ T d δ G Qd ∧ ∀ σ' H', BehS K B F Qd σ' H' → Q σ' H'
def upGs (K : PySem.W.Frag) (B : Bs) (T : TGsD) : TGs := fun vs σ H Q => ∃ F G δ ds Qd, Sit K B σ H F δ G ∧ RepAll K F vs ds ∧ T ds δ G Qd ∧ ∀ σ' H', BehS K B F Qd σ' H' → Q σ' H'
def DG (X : Cx) (B : Bs) (tg : Expr) (T : TGD) : Prop := PG X tg (upG X.K B T)
def DGs (X : Cx) (B : Bs) (ts : List Expr) (T : TGsD) : Prop := PGs X ts (upGs X.K B T)
theorem PG.weak {e : Expr} {t t' : TG} (h : PG X e t) (w : ∀ v σ H Q, t' v σ H Q → t v σ H Q) : PG X e t' := ⟨fun pins s σ H v u Q I r q => h.run pins s σ H v u Q I r (w _ _ _ _ q)⟩
theorem PGs.weak {e : List Expr} {t t' : TGs} (h : PGs X e t) (w : ∀ v σ H Q, t' v σ H Q → t v σ H Q) : PGs X e t' := ⟨fun pins s σ H v u Q I r q => h.run pins s σ H v u Q I r (w _ _ _ _ q)⟩
def gNameD (i : Nat) : TGD := fun d δ G Q => Q (δ.set i (some d)) G
theorem Sit.set {σ : L2.St} {H F : Hp} {δ : SD} {G : Gm} {v : V} {d : D} (S : Sit K B σ H F δ G) (i : Nat) (r : Rep K F v d) : Sit K B (σ.set i (some v)) H F (δ.set i (some d)) G := ⟨S.ds, S.gr, S.sl.set i r⟩
theorem dg_name {i : Nat} {x : Str} (hN : X.N.Nodup) (hi : X.N[i]? = some x) (hx : Loc X.env.scope x) (hf : X.fn x = true ∨ X.env.scope.names.lookup x = some .local := by first | exact .inl rfl | exact .inr rfl | assumption) : DG X B (.Name x pos) (gNameD i) :=
  PG.weak (pg_name hN hi hx hf) fun v σ H Q ⟨F, G, δ, d, Qd, S, r, h, k⟩ => k _ _ ⟨F, G, _, .refl F, S.set i r, h⟩
def gNilD : TGsD := fun ds δ G Q => match ds with | [] => Q δ G | _ => False
def gConsD (t : TGD) (u : TGsD) : TGsD := fun ds δ G Q => match ds with | d :: r => t d δ G fun δ1 G1 => u r δ1 G1 Q | [] => False
theorem dgs_nil : DGs X B [] gNilD := PGs.weak pgs_nil fun vs σ H Q ⟨F, G, δ, ds, Qd, S, r, h, k⟩ => by
  cases r with
  | nil => exact ⟨rfl, k _ _ ⟨F, G, _, .refl F, S, h⟩⟩
  | cons _ _ => exact h.elim
theorem dgs_cons {e : Expr} {es : List Expr} {t : TGD} {u : TGsD} (h1 : DG X B e t) (h2 : DGs X B es u)
    (hs : (assignEach (e :: es) X.env).map (·.2) = assign e X.env :: (assignEach es X.env).map (·.2) := by rfl) : DGs X B (e :: es) (gConsD t u) :=
  PGs.weak (pgs_cons h1 h2 hs) fun vs σ H Q ⟨F, G, δ, ds, Qd, S, r, h, k⟩ => by
    cases r with
    | nil => exact h.elim
    | cons r1 rr => exact ⟨_, _, rfl, F, G, δ, _, _, S, r1, h, fun σ' H' ⟨F', G', δ', s', S', q'⟩ => ⟨F', G', δ', _, Qd, S', rr.mono s', q', fun σ2 H2 q2 => k σ2 H2 (q2.mono s')⟩⟩
def gTupD (n : Nat) (t : TGsD) : TGD := fun d δ G Q => match d with | .tup ds => ds.length = n ∧ t ds δ G Q | _ => False
theorem dg_tup {es : List Expr} {k : Nat} {t : TGsD} {n : Nat} (hc : X.calm = true) (h : DGs X B es t)
    (hn : (assignEach es X.env).length = n := by rfl) (hst : (assignEach es X.env).findIdx? (·.1) = none := by rfl) : DG X B (.Tuple es k pos) (gTupD n t) :=
  PG.weak (pg_tup hc h hn hst) fun v σ H Q ⟨F, G, δ, d, Qd, S, r, h, k⟩ => by
    cases d with
    | tup ds =>
      cases r with
      | tup hq ra => exact ⟨_, _, rfl, SqT.of (S.ds.sub _ _ hq), ra.length.trans h.1, F, G, δ, ds, Qd, S, ra, h.2, k⟩
    | _ => exact h.elim
def dAsg (te : TED) (g : TGD) : TSD := fun E δ G => te δ G fun d G1 => g d δ G1 E.nx
theorem ds_asg {tg e : Expr} {te : TED} {g : TGD} (he : DE X B e te) (hg : DG X B tg g) (hs : swapsWithSole [tg] e pos.line X.env = pure false := by rfl) (hw : swappedStores [tg] e X.env = pure none := by rfl)
    (h1 : (assignEach [tg] X.env).map (·.2) = [assign tg X.env] := by rfl) : DSt X B (.Assign [tg] e pos) (dAsg te g) :=
  PS.weak (ps_asg he hg hs hw h1) fun D σ H ⟨F, G, δ, E, S, h, L⟩ => ⟨F, G, δ, _, S, h, fun v H' ⟨F', G', d, s', S', r', q'⟩ => ⟨F', G', δ, d, E.nx, S', r', q', fun σ2 H2 q2 => L.nx σ2 H2 (q2.mono s')⟩⟩
end
end JP

namespace JP
open PySem PySem.Spec PyProof.Rows L2
section
variable {X : Cx} {B : Bs} {K : PySem.W.Frag} {e : Expr} {te : TED} {pos : Pos}
/-! ### names stored, changed in place; while -/
theorem ds_set {i : Nat} {x : Str} {pos' : Pos} (hN : X.N.Nodup) (hi : X.N[i]? = some x) (hx : Loc X.env.scope x) (he : DE X B e te) (hs : swapsWith e (some (.Name x pos')) pos.line X.env = pure false := by rfl) (hf : X.fn x = true ∨ X.env.scope.names.lookup x = some .local := by first | exact .inl rfl | exact .inr rfl | assumption) :
    DSt X B (.Assign [.Name x pos'] e pos) (dAsg te (gNameD i)) :=
  PS.weak (ps_set hN hi hx he hs hf) fun D σ H ⟨F, G, δ, E, S, h, L⟩ => ⟨F, G, δ, _, S, h, fun v H' ⟨F', G', d, s', S', r', q'⟩ => L.nx _ _ ⟨F', G', _, s', S'.set i r', q'⟩⟩
def dPar (i j : Nat) (ta : TAD) : TSD := fun E δ G => ta δ G fun ds G1 => match ds with | [d, e] => E.nx ((δ.set i (some d)).set j (some e)) G1 | _ => False
theorem ds_par {i j : Nat} {x y : Str} {a b : Expr} {ta : TAD} {px py pt : Pos} {kt k2 pt2} (hc : X.calm = true) (hN : X.N.Nodup) (hi : X.N[i]? = some x) (hj : X.N[j]? = some y) (hij : i ≠ j)
    (hx : X.env.scope.names.lookup x = some .local) (hy : X.env.scope.names.lookup y = some .local) (ha : DA X B [a, b] ta)
    (hw : swappedStores [.Tuple [.Name x px, .Name y py] kt pt] (.Tuple [a, b] k2 pt2) X.env = pure (some [x, y]))
    (hs : swapsWithSole [.Tuple [.Name x px, .Name y py] kt pt] (.Tuple [a, b] k2 pt2) pos.line X.env = pure false := by rfl) :
    DSt X B (.Assign [.Tuple [.Name x px, .Name y py] kt pt] (.Tuple [a, b] k2 pt2) pos) (dPar i j ta) :=
  PS.weak (ps_par hc hN hi hj hij hx hy ha hw hs) fun D σ H ⟨F, G, δ, E, S, h, L⟩ => ⟨F, G, δ, _, S, h, fun vs H' ⟨F', G', ds, s', S', r', q'⟩ => by
    match ds, r', q' with
    | [d, e], .cons r1 (.cons r2 .nil), q' => exact ⟨_, _, rfl, L.nx _ _ ⟨F', G', _, s', (S'.set i r1).set j r2, q'⟩⟩⟩
/-- a op= b by trees -/
def IpA (K : PySem.W.Frag) (rv : TIp) (r : R2D) : Prop := ∀ (B : Bs) (σ : L2.St) (δ : SD) (H F : Hp) (G : Gm) (x y : V) (a b : D) (Qd : QD) (Q : VK), Sit K B σ H F δ G → Rep K F x a → Rep K F y b → r a b G Qd → (∀ v H', Beh K B σ F δ Qd v H' → Q v H') → rv x y H Q
def dAug (i : Nat) (te : TED) (r : R2D) : TSD := fun E δ G => match δ[i]? with | some (some a) => te δ G fun b G1 => r a b G1 fun d G2 => E.nx (δ.set i (some d)) G2 | _ => False
theorem ds_aug {i : Nat} {x : Str} {op : Operator} {ti : TIp} {r : R2D} {pos' : Pos} (hN : X.N.Nodup) (hi : X.N[i]? = some x) (hx : Loc X.env.scope x) (he : DE X B e te) (ho : PIp X op ti) (hA : IpA X.K ti r) (hf : X.fn x = true ∨ X.env.scope.names.lookup x = some .local := by first | exact .inl rfl | exact .inr rfl | assumption) :
    DSt X B (.AugAssign (.Name x pos') op e pos) (dAug i te r) :=
  PS.weak (ps_aug hN hi hx he ho hf) fun D σ H ⟨F, G, δ, E, S, h, L⟩ => by
    unfold dAug at h
    split at h
    · rename_i a e
      obtain ⟨v, e', ra⟩ := S.sl.get i a e
      exact ⟨v, e', F, G, δ, _, S, h, fun y H1 ⟨F1, G1, b, s1, S1, r1, h1⟩ => hA B σ δ H1 F1 G1 v y a b _ _ S1 (ra.mono s1) r1 h1 fun z H2 ⟨F2, G2, d, s2, S2, r2, h2⟩ => L.nx _ _ ⟨F2, G2, _, s1.trans s2, S2.set i r2, h2⟩⟩
    · exact h.elim
/-- while: turn by turn, at most so many -/
def whD (c : TTD) (tb : TSD) (E : EndsD) : Nat → SD → Gm → Prop
  | 0, _, _ => False
  | n + 1, δ, G => c δ G fun b G1 => match b with | true => tb { nx := whD c tb E n, rt := E.rt, bk := E.nx, ct := whD c tb E n } δ G1 | false => E.nx δ G1
def dWhile (c : TTD) (tb : TSD) : TSD := fun E δ G => ∃ n, whD c tb E n δ G
theorem ds_while {c : Expr} {body : List Stmt} {tc : TTD} {tb : TSD} (hp : PassesOwn (model X.prog X.w) X.A X.env X.xe) (hc : DT X B c tc) (hb : DB X B body tb) : DSt X B (.While c body [] pos) (dWhile tc tb) :=
  PS.weak (ps_while hp hc hb) fun D σ H ⟨F, G, δ, E, S, ⟨n, h⟩, L⟩ => by
    refine ⟨fun m σ' H' => ∃ F' G' δ', Same F F' ∧ Sit X.K B σ' H' F' δ' G' ∧ whD tc tb E m δ' G', ⟨n, F, G, δ, .refl F, S, h⟩, ?_⟩
    rintro m σ1 H1 ⟨F1, G1, δ1, s1, S1, h1⟩
    cases m with
    | zero => exact h1.elim
    | succ m =>
      refine ⟨F1, G1, δ1, _, S1, h1, fun b H2 ⟨F2, G2, s2, S2, h2⟩ => ?_⟩
      cases b with
      | true => exact ⟨fun σ' H' => ∃ F' G' δ', Same F F' ∧ Sit X.K B σ' H' F' δ' G' ∧ whD tc tb E m δ' G', fun σ' H' q => ⟨m, Nat.lt_succ_self m, q⟩, F2, G2, δ1, _, S2, h2,
          ⟨fun σ' H' ⟨F', G', δ', s', S', q⟩ => ⟨F', G', δ', (s1.trans s2).trans s', S', q⟩, fun v H' q => L.rt v H' (q.mono (s1.trans s2)), fun σ' H' q => L.nx σ' H' (BehS.mono (s1.trans s2) q), fun σ' H' ⟨F', G', δ', s', S', q⟩ => ⟨F', G', δ', (s1.trans s2).trans s', S', q⟩⟩⟩
      | false => exact L.nx _ _ ⟨F2, G2, δ1, s1.trans s2, S2, h2⟩

/-! ### what is walked -/
structure ItD (K : PySem.W.Frag) (F : Hp) (J : L2.It) (ds : List D) : Prop where
  go : ∀ i H, i < ds.length → Same F H → J.go i H
  stop : ∀ H, Same F H → J.stop ds.length H
  yld : ∀ i H x H', i < ds.length → Same F H → J.yld i H x H' → ∀ (B : Bs) σ δ G F1, Sit K B σ H F1 δ G → Same F F1 → ∃ F2 d, Same F1 F2 ∧ Sit K B σ H' F2 δ G ∧ ds[i]? = some d ∧ Rep K F2 x d
abbrev TID := SD → Gm → (List D → Gm → Prop) → Prop
def upI (K : PySem.W.Frag) (B : Bs) (T : TID) : TI := fun σ H R => ∃ F G δ Qd, Sit K B σ H F δ G ∧ T δ G Qd ∧ ∀ J H', (∃ F' G' ds, Same F F' ∧ Sit K B σ H' F' δ G' ∧ ItD K F' J ds ∧ Qd ds G') → R J H'
def DI (X : Cx) (B : Bs) (tg iter : Expr) (T : TID) : Prop := PI X tg iter (upI X.K B T)
theorem PI.weak {tg e : Expr} {t t' : TI} (h : PI X tg e t) (w : ∀ σ H Q, t' σ H Q → t σ H Q) : PI X tg e t' := ⟨fun pins s σ H Q I q => h.run pins s σ H Q I (w _ _ _ q)⟩
theorem itD_list {F : Hp} {a : Addr} {xs : List V} {ds : List D} (h : SqL K F a xs) (r : RepAll K F xs ds) : ItD K F (Itl K a) ds :=
  ⟨fun i H hi s => by
    have l := r.length
    exact ⟨xs, xs[i]'(by omega), same_seqL' s h, by simp [show i < xs.length by omega]⟩, fun H s => ⟨xs, same_seqL' s h, by rw [r.length]; exact Nat.le_refl _⟩, fun i H x H' hi s y B σ δ G F1 S s1 => by
    obtain ⟨rfl, y⟩ := y
    obtain ⟨d, hd, rd⟩ := r.get' (y xs (same_seqL' s h))
    exact ⟨F1, d, .refl F1, S, hd, rd.mono s1⟩⟩
theorem itD_tup {F : Hp} {a : Addr} {xs : List V} {ds : List D} (h : SqT K F a xs) (r : RepAll K F xs ds) : ItD K F (Itt K a) ds :=
  ⟨fun i H hi s => by
    have l := r.length
    exact ⟨xs, xs[i]'(by omega), same_seqT s h, by simp [show i < xs.length by omega]⟩, fun H s => ⟨xs, same_seqT s h, by rw [r.length]; exact Nat.le_refl _⟩, fun i H x H' hi s y B σ δ G F1 S s1 => by
    obtain ⟨rfl, y⟩ := y
    obtain ⟨d, hd, rd⟩ := r.get' (y xs (same_seqT s h))
    exact ⟨F1, d, .refl F1, S, hd, rd.mono s1⟩⟩
def iListD (te : TED) : TID := fun δ G R => te δ G fun d G1 => match d with | .lst ds => R ds G1 | _ => False
def iTupD (te : TED) : TID := fun δ G R => te δ G fun d G1 => match d with | .tup ds => R ds G1 | _ => False
theorem di_list {tg : Expr} (h : DE X B e te) : DI X B tg e (iListD te) :=
  PI.weak (pi_list h) fun σ H R ⟨F, G, δ, Qd, S, h, k⟩ => ⟨F, G, δ, _, S, h, fun v H1 ⟨F1, G1, d, s1, S1, r1, h1⟩ => by
    cases d with
    | lst ds =>
      cases r1 with
      | lst hq ra => exact ⟨_, rfl, ⟨_, SqL.of (S1.ds.sub _ _ hq)⟩, k _ _ ⟨F1, G1, ds, s1, S1, itD_list (.of hq) ra, h1⟩⟩
    | _ => exact h1.elim⟩
theorem di_tup {tg : Expr} (h : DE X B e te) : DI X B tg e (iTupD te) :=
  PI.weak (pi_tup h) fun σ H R ⟨F, G, δ, Qd, S, h, k⟩ => ⟨F, G, δ, _, S, h, fun v H1 ⟨F1, G1, d, s1, S1, r1, h1⟩ => by
    cases d with
    | tup ds =>
      cases r1 with
      | tup hq ra => exact ⟨_, rfl, ⟨_, SqT.of (S1.ds.sub _ _ hq)⟩, k _ _ ⟨F1, G1, ds, s1, S1, itD_tup (.of hq) ra, h1⟩⟩
    | _ => exact h1.elim⟩
/-- a name that holds a list or a tuple -/
def iAnyD (i : Nat) : TID := fun δ G R => match δ[i]? with | some (some (.lst ds)) => R ds G | some (some (.tup ds)) => R ds G | _ => False
theorem di_anyV {tg l : Expr} {i : Nat} (hl : PE X l (tVar i)) : DI X B tg l (iAnyD i) :=
  PI.weak (pi_anyV hl) fun σ H R ⟨F, G, δ, Qd, S, h, k⟩ => by
    unfold iAnyD at h
    split at h
    · rename_i ds e
      obtain ⟨v, e', r⟩ := S.sl.get i _ e
      cases r with
      | lst hq ra => exact ⟨_, e', .inl ⟨⟨_, SqL.of (S.ds.sub _ _ hq)⟩, k _ _ ⟨F, G, ds, .refl F, S, itD_list (.of hq) ra, h⟩⟩⟩
    · rename_i ds e
      obtain ⟨v, e', r⟩ := S.sl.get i _ e
      cases r with
      | tup hq ra => exact ⟨_, e', .inr ⟨⟨_, SqT.of (S.ds.sub _ _ hq)⟩, k _ _ ⟨F, G, ds, .refl F, S, itD_tup (.of hq) ra, h⟩⟩⟩
    · exact h.elim
def rangeD (lo : Int) (n : Nat) : List D := (List.range n).map fun (i : Nat) => .int (lo + i)
theorem itD_range {F : Hp} (lo : Int) (n : Nat) : ItD K F (Itr lo n) (rangeD lo n) := by
  have l : (rangeD lo n).length = n := by simp [rangeD]
  refine ⟨fun i H hi _ => by rw [l] at hi; exact hi, fun H _ => by rw [l]; exact Nat.le_refl n, fun i H x H' hi s y B σ δ G F1 S s1 => ?_⟩
  obtain ⟨rfl, rfl⟩ := y
  rw [l] at hi
  exact ⟨F1, .int (lo + i), .refl F1, S, by simp [rangeD, hi], .int _⟩
def iRange1D (ta : TAD) : TID := fun δ G R => ta δ G fun ds G1 => match ds with | [.int j] => (-(2 ^ 62) ≤ j ∧ j < 2 ^ 62) ∧ R (rangeD 0 j.toNat) G1 | _ => False
def iRange2D (ta : TAD) : TID := fun δ G R => ta δ G fun ds G1 => match ds with | [.int i, .int j] => (-(2 ^ 62) ≤ i ∧ i < 2 ^ 62 ∧ -(2 ^ 62) ≤ j ∧ j < 2 ^ 62) ∧ R (rangeD i (j - i).toNat) G1 | _ => False
theorem di_range1 {tg a : Expr} {ta : TAD} {p pos : Pos} (hg : Gl X "range") (hm : X.mg "range" = none) (ha : DA X B [a] ta) (hs : starEach [a] X.env = [(false, eval a X.env)] := by rfl) : DI X B tg (.Call (.Name "range" p) [a] [] pos) (iRange1D ta) :=
  PI.weak (pi_range1 hg hm ha hs) fun σ H R ⟨F, G, δ, Qd, S, h, k⟩ => ⟨F, G, δ, _, S, h, fun vs H1 ⟨F1, G1, ds, s1, S1, r1, h1⟩ => by
    match ds, r1, h1 with
    | [.int j], .cons r .nil, h1 =>
      cases r
      exact ⟨j, rfl, h1.1.1, h1.1.2, k _ _ ⟨F1, G1, _, s1, S1, itD_range 0 _, h1.2⟩⟩⟩
theorem di_range2 {tg a b : Expr} {ta : TAD} {p pos : Pos} (hg : Gl X "range") (hm : X.mg "range" = none) (ha : DA X B [a, b] ta) (hs : starEach [a, b] X.env = [(false, eval a X.env), (false, eval b X.env)] := by rfl) (hs2 : starEach [b] X.env = [(false, eval b X.env)] := by rfl) : DI X B tg (.Call (.Name "range" p) [a, b] [] pos) (iRange2D ta) :=
  PI.weak (pi_range2 hg hm ha hs hs2) fun σ H R ⟨F, G, δ, Qd, S, h, k⟩ => ⟨F, G, δ, _, S, h, fun vs H1 ⟨F1, G1, ds, s1, S1, r1, h1⟩ => by
    match ds, r1, h1 with
    | [.int i, .int j], .cons r (.cons r2 .nil), h1 =>
      cases r
      cases r2
      exact ⟨i, j, rfl, h1.1, k _ _ ⟨F1, G1, _, s1, S1, itD_range i _, h1.2⟩⟩⟩

/-! ### for -/
def forD (g : TGD) (tb : TSD) (E : EndsD) : List D → SD → Gm → Prop
  | [] => fun δ G => E.nx δ G
  | d :: ds => fun δ G => g d δ G fun δ1 G1 => tb { nx := forD g tb E ds, rt := E.rt, bk := E.nx, ct := forD g tb E ds } δ1 G1
def dFor (ti : TID) (g : TGD) (tb : TSD) : TSD := fun E δ G => ti δ G fun ds G1 => forD g tb E ds δ G1
theorem drop_get {α : Type} {ds : List α} {i : Nat} {d : α} (h : ds[i]? = some d) : ds.drop i = d :: ds.drop (i + 1) := by
  have hi : i < ds.length := (List.getElem?_eq_some_iff.mp h).1
  rw [List.drop_eq_getElem_cons hi]
  rw [List.getElem?_eq_getElem hi] at h
  cases h
  rfl
theorem ds_for {tg iter : Expr} {body : List Stmt} {ti : TID} {g : TGD} {tb : TSD} (hp : PassesOwn (model X.prog X.w) X.A X.env X.xe) (hc : X.calm = true) (hi : DI X B tg iter ti) (hg : DG X B tg g) (hb : DB X B body tb)
    (hs : ∀ x, foldedSetIterable iter X.env x = pure x := by intro _; rfl) : DSt X B (.For tg iter body [] pos) (dFor ti g tb) :=
  PS.weak (ps_for hp hc hi hg hb hs) fun D σ H ⟨F, G, δ, E, S, h, L⟩ => ⟨F, G, δ, _, S, h, fun J H1 ⟨F1, G1, ds, s1, S1, it, h1⟩ => by
    refine ⟨fun i m σ' H' => m = ds.length - i ∧ i ≤ ds.length ∧ ∃ F' G' δ', Same F1 F' ∧ Sit X.K B σ' H' F' δ' G' ∧ forD g tb E (ds.drop i) δ' G', ⟨ds.length, by simp, Nat.zero_le _, F1, G1, δ, .refl F1, S1, h1⟩, ?_⟩
    rintro i m σ2 H2 ⟨rfl, hi, F2, G2, δ2, s2, S2, h2⟩
    have sh : Same F1 H2 := s2.trans S2.ds.sub
    rcases Nat.lt_or_ge i ds.length with hlt | hge
    · refine .inr ⟨it.go i H2 hlt sh, fun σ' H' => ∃ F' G' δ', Same F1 F' ∧ Sit X.K B σ' H' F' δ' G' ∧ forD g tb E (ds.drop (i + 1)) δ' G', fun σ' H' q => ⟨ds.length - (i + 1), by omega, rfl, hlt, q⟩, fun x H3 y => ?_⟩
      obtain ⟨F3, d, s3, S3, hd, rd⟩ := it.yld i H2 x H3 hlt sh y B σ2 δ2 G2 F2 S2 s2
      rw [drop_get hd] at h2
      refine ⟨F3, G2, δ2, d, _, S3, rd, h2, fun σ4 H4 ⟨F4, G4, δ4, s4, S4, h4⟩ => ⟨F4, G4, δ4, _, S4, h4, ?_⟩⟩
      have st : Same F1 F4 := (s2.trans s3).trans s4
      exact ⟨fun σ' H' ⟨F', G', δ', s', S', q⟩ => ⟨F', G', δ', st.trans s', S', q⟩, fun v H' q => L.rt v H' (q.mono (s1.trans st)), fun σ' H' q => L.nx σ' H' (BehS.mono (s1.trans st) q), fun σ' H' ⟨F', G', δ', s', S', q⟩ => ⟨F', G', δ', st.trans s', S', q⟩⟩
    · have e : i = ds.length := by omega
      subst e
      rw [List.drop_length] at h2
      exact .inl ⟨it.stop H2 sh, L.nx _ _ ⟨F2, G2, δ2, s1.trans s2, S2, h2⟩⟩⟩

/-! ### list comprehensions -/
def wipeD (δ : SD) : List Nat → SD
  | [] => δ
  | v :: vs => (wipeD δ vs).set v none
theorem Sl.wipe {F : Hp} {σ : L2.St} {δ : SD} (h : Sl K F σ δ) : ∀ vs : List Nat, Sl K F (wipe σ vs) (wipeD δ vs)
  | [] => h
  | v :: vs => (Sl.wipe h vs).drop v none
/-- a target within a comprehension -/
def CG (K : PySem.W.Frag) (vs : List Nat) (g : TG) (gD : TGD) : Prop := ∀ (B : Bs) (σ : L2.St) (H F : Hp) (δ : SD) (G : Gm) (v : V) (d : D) (Qd : SD → Gm → Prop) (Q : L2.St → Hp → Prop), Sit K B σ H F δ G → Rep K F v d → gD d δ G Qd →
  (∀ σ' δ', wipe σ' vs = wipe σ vs → Sit K B σ' H F δ' G → Qd δ' G → Q σ' H) → g v σ H Q
def CGs (K : PySem.W.Frag) (vs : List Nat) (g : TGs) (gD : TGsD) : Prop := ∀ (B : Bs) (σ : L2.St) (H F : Hp) (δ : SD) (G : Gm) (us : List V) (ds : List D) (Qd : SD → Gm → Prop) (Q : L2.St → Hp → Prop), Sit K B σ H F δ G → RepAll K F us ds → gD ds δ G Qd →
  (∀ σ' δ', wipe σ' vs = wipe σ vs → Sit K B σ' H F δ' G → Qd δ' G → Q σ' H) → g us σ H Q
theorem set_swap {α : Type} (xs : List α) (i j : Nat) (a b : α) (h : i ≠ j) : (xs.set i a).set j b = (xs.set j b).set i a := List.set_comm a b h
theorem wipe_set {i : Nat} {o : Option V} : ∀ {vs : List Nat} {σ : L2.St}, i ∈ vs → wipe (σ.set i o) vs = wipe σ vs
  | [], _, h => by simp at h
  | v :: vs, σ, h => by
    by_cases c : i ∈ vs
    · show (wipe (σ.set i o) vs).set v none = (wipe σ vs).set v none
      rw [wipe_set c]
    · have e : i = v := by
        rcases List.mem_cons.mp h with h | h
        · exact h
        · exact absurd h c
      subst e
      have : ∀ {us : List Nat}, i ∉ us → wipe (σ.set i o) us = (wipe σ us).set i o := by
        intro us
        induction us with
        | nil => intro _; rfl
        | cons u us ih =>
          intro hu
          have h1 : i ≠ u := fun z => hu (z ▸ List.mem_cons_self)
          have h2 : i ∉ us := fun z => hu (List.mem_cons_of_mem _ z)
          show (wipe (σ.set i o) us).set u none = ((wipe σ us).set u none).set i o
          rw [ih h2, List.set_comm _ _ h1]
      show (wipe (σ.set i o) vs).set i none = (wipe σ vs).set i none
      rw [this c, List.set_set]
theorem cg_name {vs : List Nat} {i : Nat} (h : i ∈ vs) : CG K vs (gName i) (gNameD i) := fun B σ H F δ G v d Qd Q S r q k => k _ _ (wipe_set h) (S.set i r) q
theorem cg_nil {vs : List Nat} : CGs K vs gNil gNilD := fun B σ H F δ G us ds Qd Q S r q k => by
  cases r with
  | nil => exact ⟨rfl, k _ _ rfl S q⟩
  | cons _ _ => exact q.elim
theorem cg_cons {vs : List Nat} {g : TG} {gD : TGD} {u : TGs} {uD : TGsD} (h1 : CG K vs g gD) (h2 : CGs K vs u uD) : CGs K vs (gCons g u) (gConsD gD uD) := fun B σ H F δ G us ds Qd Q S r q k => by
  cases r with
  | nil => exact q.elim
  | cons r rr => exact ⟨_, _, rfl, h1 B σ H F δ G _ _ _ _ S r q fun σ1 δ1 e1 S1 q1 => h2 B σ1 H F δ1 G _ _ _ _ S1 rr q1 fun σ2 δ2 e2 S2 q2 => k σ2 δ2 (e2.trans e1) S2 q2⟩
theorem cg_tup {vs : List Nat} {n : Nat} {u : TGs} {uD : TGsD} (h : CGs K vs u uD) : CG K vs (gTup K n u) (gTupD n uD) := fun B σ H F δ G v d Qd Q S r q k => by
  cases d with
  | tup ds =>
    cases r with
    | tup hq ra => exact ⟨_, _, rfl, SqT.of (S.ds.sub _ _ hq), ra.length.trans q.1, h B σ H F δ G _ _ _ _ S ra q.2 k⟩
  | _ => exact q.elim
def lcD (g : TGD) (tt : TTD) (te : TED) (Fin : List D → Gm → Prop) (δ : SD) : List D → List D → Gm → Prop
  | [], acc, G => Fin acc G
  | d :: ds, acc, G => g d δ G fun δ1 G1 => tt δ1 G1 fun b G2 => match b with | true => te δ1 G2 fun y G3 => lcD g tt te Fin δ ds (acc ++ [y]) G3 | false => lcD g tt te Fin δ ds acc G2
/-- one more, all of it within what a list holds -/
def dLcF (ti : TID) (g : TGD) (tt : TTD) (te : TED) (vs : List Nat) (Fin : QD → List D → Gm → Prop) : TED := fun δ G Q => ti δ G fun ds G1 => ds.length < sizeLine ∧ lcD g tt te (Fin Q) (wipeD δ vs) ds [] G1
abbrev finL : QD → List D → Gm → Prop := fun Q acc G => Q (.lst acc) G
abbrev finM : QD → List D → Gm → Prop := fun Q acc G => ∀ p, G p = none → Q (.adr p) (updG G p (.lst acc))
def dLc (ti : TID) (g : TGD) (tt : TTD) (te : TED) (vs : List Nat) : TED := dLcF ti g tt te vs finL
def dLcM (ti : TID) (g : TGD) (tt : TTD) (te : TED) (vs : List Nat) : TED := dLcF ti g tt te vs finM
/-- what is made of the list in the end -/
def FinA (K : PySem.W.Frag) (Fin : QD → List D → Gm → Prop) : Prop := ∀ (B : Bs) (σ : L2.St) (δ : SD) (F F3 H3 : Hp) (G3 : Gm) (acc : List D) (av : List V) (D : Addr) (Qd : QD), Same F F3 → Sit K B σ H3 F3 δ G3 → H3 D = some (.lst av) → F3 D = none → G3 D = none → B.Z D = none → RepAll K F3 av acc → Fin Qd acc G3 → Beh K B σ F δ Qd (.ref D) H3
theorem finA_l : FinA K finL := fun B σ δ F F3 H3 G3 acc av D Qd s S h f g z ra q => by
  obtain ⟨d3, s3⟩ := S.ds.frz h g z
  exact ⟨_, G3, .lst acc, s.trans s3, ⟨d3, S.gr.trans s3, S.sl.mono s3⟩, .lst upd_same (ra.mono s3), q⟩
theorem finA_m : FinA K finM := fun B σ δ F F3 H3 G3 acc av D Qd s S h f g z ra q => by
  refine ⟨F3, updG G3 D (.lst acc), .adr D, s, ⟨⟨S.ds.sub, fun b m e => ?_, S.ds.zub, fun b u e => ?_, S.ds.ft, S.ds.tab⟩, S.gr, S.sl⟩, .adr D, q D g⟩
  · by_cases c : b = D
    · subst c
      rw [updG_same] at e
      cases e
      exact ⟨f, av, h, ra⟩
    · rw [updG_ne c] at e
      exact S.ds.mu b m e
  · have c : b ≠ D := fun c => by rw [c, z] at e; cases e
    exact ⟨(S.ds.zf b u e).1, (updG_ne c).trans (S.ds.zf b u e).2.1, (S.ds.zf b u e).2.2⟩
def dYes : TTD := fun _ G Q => Q true G
def DTs (X : Cx) (B : Bs) (ifs : List Expr) (T : TTD) : Prop := PTs X ifs (upT X.K B T)
theorem dts_nil : DTs X B [] dYes := ⟨fun pins s σ H Q I h => pts_nil.run pins s σ H Q I (let ⟨F, G, δ, Qd, S, h, k⟩ := h; k true H ⟨F, G, .refl F, S, h⟩)⟩
theorem dts_one {c : Expr} {t : TTD} (h : DT X B c t) : DTs X B [c] t := pts_one h
def upU (K : PySem.W.Frag) (T : TED) : TE := fun σ H Q => ∃ B, up K B T σ H Q
def upTU (K : PySem.W.Frag) (T : TTD) : TT := fun σ H Q => ∃ B, upT K B T σ H Q
/-- what a comprehension's reading comes to -/
theorem lc_adeq {ti : TID} {gV : TG} {g : TGD} {tt : TTD} {te : TED} {vs : List Nat} {Fin : QD → List D → Gm → Prop} (fin : FinA K Fin) (hg : CG K vs gV g) (σ : L2.St) (H : Hp) (Q : VK) (h : up K B (dLcF ti g tt te vs Fin) σ H Q) : tLc (upI K B ti) gV (upTU K tt) (upU K te) vs σ H Q := by
  obtain ⟨F, G, δ, Qd, S, h, k⟩ := h
  refine ⟨F, G, δ, _, S, h, fun J H1 ⟨F1, G1, ds, s1, S1, it, hz, h1⟩ D nD => ?_⟩
  have fD : F1 D = none := S1.ds.noF nD
  have zD : B.Z D = none := S1.ds.noZ nD
  refine ⟨fun i m H' => m = ds.length - i ∧ i ≤ ds.length ∧ ∃ F' G' acc av, Same F1 F' ∧ F' D = none ∧ G' D = none ∧ H' D = some (.lst av) ∧ RepAll K F' av acc ∧ acc.length ≤ i ∧ Sit K B σ H' F' δ G' ∧ lcD g tt te (Fin Qd) (wipeD δ vs) (ds.drop i) acc G',
    ⟨ds.length, by simp, Nat.zero_le _, F1, G1, [], [], .refl F1, fD, S1.ds.noG nD, upd_same, .nil, Nat.le_refl _, S1.same (same_new nD), h1⟩, ?_⟩
  rintro i m H2 ⟨rfl, hi, F2, G2, acc, av, s2, f2, g2, h2D, ra, la, S2, h2⟩
  have sh : Same F1 H2 := s2.trans S2.ds.sub
  rcases Nat.lt_or_ge i ds.length with hlt | hge
  · refine .inr ⟨it.go i H2 hlt sh, fun H' => ∃ F' G' acc av, Same F1 F' ∧ F' D = none ∧ G' D = none ∧ H' D = some (.lst av) ∧ RepAll K F' av acc ∧ acc.length ≤ i + 1 ∧ Sit K B σ H' F' δ G' ∧ lcD g tt te (Fin Qd) (wipeD δ vs) (ds.drop (i + 1)) acc G', fun H' q => ⟨ds.length - (i + 1), by omega, rfl, hlt, q⟩, fun x H3 y => ?_⟩
    -- the new list stays through the turn
    obtain ⟨F3, d, s3, S3, hd, rd⟩ := it.yld i H2 x H3 hlt sh y ⟨F1, upd B.Z D (.lst av), B.T⟩ σ δ G2 F2 ⟨S2.ds.zadd h2D f2 g2 trivial, s2, S2.sl⟩ s2
    rw [drop_get hd] at h2
    have Sw : Sit K ⟨F1, upd B.Z D (.lst av), B.T⟩ (wipe σ vs) H3 F3 (wipeD δ vs) G2 := ⟨S3.ds, S3.gr, S3.sl.wipe vs⟩
    refine hg _ _ _ _ _ _ _ _ _ _ Sw rd h2 fun σ4 δ4 e4 S4 h4 => ⟨?_, ⟨F1, upd B.Z D (.lst av), B.T⟩, F3, G2, δ4, _, S4, h4, fun b H5 ⟨F5, G5, s5, S5, h5⟩ => ?_⟩
    · have ww : ∀ (us : List Nat) (σ : L2.St), (∀ u ∈ us, u ∈ vs) → wipe (wipe σ us) vs = wipe σ vs := by
        intro us
        induction us with
        | nil => intro σ _; rfl
        | cons u us ih =>
          intro σ hu
          show wipe ((wipe σ us).set u none) vs = wipe σ vs
          rw [wipe_set (hu u List.mem_cons_self)]
          exact ih σ fun v hv => hu v (List.mem_cons_of_mem _ hv)
      exact e4.trans (ww vs σ fun u hu => hu)
    · cases b with
      | false =>
        obtain ⟨d5, h5D, f5, g5⟩ := S5.ds.zdel zD
        exact ⟨F5, G5, acc, av, (s2.trans s3).trans s5, f5, g5, h5D, ra.mono (s3.trans s5), by omega, ⟨d5, S2.gr.trans (s3.trans s5), S2.sl.mono (s3.trans s5)⟩, h5⟩
      | true =>
        refine ⟨⟨F1, upd B.Z D (.lst av), B.T⟩, F5, G5, δ4, _, S5, h5, fun y H6 ⟨F6, G6, dy, s6, S6, r6, h6⟩ => ?_⟩
        obtain ⟨d6, h6D, f6, g6⟩ := S6.ds.zdel zD
        have st := (s3.trans s5).trans s6
        refine ⟨av, h6D, by rw [ra.length]; omega, F6, G6, acc ++ [dy], av ++ [y], s2.trans st, f6, g6, upd_same, (ra.mono st).append (.cons r6 .nil), by simp; omega, ⟨d6.other h6D f6 g6 zD, S2.gr.trans st, S2.sl.mono st⟩, h6⟩
  · have e : i = ds.length := by omega
    subst e
    rw [List.drop_length] at h2
    exact .inl ⟨it.stop H2 sh, k _ _ (fin B σ δ F F2 H2 G2 acc av D Qd (s1.trans s2) S2 h2D f2 g2 zD ra h2)⟩
section
variable {elt tg iter : Expr} {ifs : List Expr} {scope : Scope} {own : List (Str × Nat)} {ti : TID} {gV : TG} {g : TGD} {tt : TTD} {te : TED}
theorem de_lcF {Fin : QD → List D → Gm → Prop} (fin : FinA X.K Fin) (hc : X.calm = true) (hN : X.N.Nodup) (hi : DI X B tg iter ti) (ok : BlkOk X.N X.env.scope scope own)
    (hcg : CG X.K (own.map (·.2)) gV g)
    (hg : ∀ (s : Shared) (H : Hp) (C : Addr) (cl : List (Str × Addr)) (fp : List Addr), PG (X.blk s H scope (compEnvC scope cl C X.env) fp) tg gV)
    (ht : ∀ (s : Shared) (H : Hp) (C : Addr) (cl : List (Str × Addr)) (fp : List Addr) (B : Bs), DTs (X.blk s H scope (compEnvC scope cl C X.env) fp) B ifs tt)
    (he : ∀ (s : Shared) (H : Hp) (C : Addr) (cl : List (Str × Addr)) (fp : List Addr) (B : Bs), DE (X.blk s H scope (compEnvC scope cl C X.env) fp) B elt te) (hs : ∀ x, foldedSetIterable iter X.env x = pure x := by intro _; rfl) :
    DE X B (.ListComp elt [⟨tg, iter, ifs, 0⟩] scope pos) (dLcF ti g tt te (own.map (·.2)) Fin) :=
  PE.weak (pe_lc hc hN hi ok hg (fun s H C cl fp => ⟨fun pins s σ H Q I ⟨B, h⟩ => (ht _ _ C cl fp B).run pins s σ H Q I h⟩) (fun s H C cl fp => ⟨fun pins s σ H Q I ⟨B, h⟩ => (he _ _ C cl fp B).run pins s σ H Q I h⟩) hs) fun σ H Q h => lc_adeq fin hcg σ H Q h
theorem ds_setLcF {Fin : QD → List D → Gm → Prop} (fin : FinA X.K Fin) {i : Nat} {y : Str} {py spos : Pos} (hc : X.calm = true) (hN : X.N.Nodup) (hy : X.N[i]? = some y) (hyl : X.env.scope.names.lookup y = some .local)
    (hsw : swapsWith (.ListComp elt [⟨tg, iter, ifs, 0⟩] scope pos) (some (.Name y py)) spos.line X.env = pure true) (hi : DI X B tg iter ti) (ok : BlkOk X.N X.env.scope scope own)
    (hcg : CG X.K (own.map (·.2)) gV g)
    (hg : ∀ (s : Shared) (H : Hp) (C : Addr) (cl : List (Str × Addr)) (fp : List Addr), PG (X.blk s H scope (compEnvC scope cl C X.env) fp) tg gV)
    (ht : ∀ (s : Shared) (H : Hp) (C : Addr) (cl : List (Str × Addr)) (fp : List Addr) (B : Bs), DTs (X.blk s H scope (compEnvC scope cl C X.env) fp) B ifs tt)
    (he : ∀ (s : Shared) (H : Hp) (C : Addr) (cl : List (Str × Addr)) (fp : List Addr) (B : Bs), DE (X.blk s H scope (compEnvC scope cl C X.env) fp) B elt te) (hs : ∀ x, foldedSetIterable iter X.env x = pure x := by intro _; rfl) :
    DSt X B (.Assign [.Name y py] (.ListComp elt [⟨tg, iter, ifs, 0⟩] scope pos) spos) (dAsg (dLcF ti g tt te (own.map (·.2)) Fin) (gNameD i)) :=
  PS.weak (ps_setLc hc hN hy hyl hsw hi ok hg (fun s H C cl fp => ⟨fun pins s σ H Q I ⟨B, h⟩ => (ht _ _ C cl fp B).run pins s σ H Q I h⟩) (fun s H C cl fp => ⟨fun pins s σ H Q I ⟨B, h⟩ => (he _ _ C cl fp B).run pins s σ H Q I h⟩) hs) fun D σ H ⟨F, G, δ, E, S, h, L⟩ =>
    lc_adeq fin hcg σ H _ ⟨F, G, δ, _, S, h, fun v H' ⟨F', G', d, s', S', r', q'⟩ => L.nx _ _ ⟨F', G', _, s', S'.set i r', q'⟩⟩
end
end
end JP

namespace JP
open PySem PySem.Spec PyProof.Rows L2

/-! ### what a def promises, of trees -/
/-- what is wished of an exception: its class, its fields -/
abbrev WD := Addr → List (Str × D) → Gm → Prop
abbrev WN : WD := fun _ _ _ => False
abbrev SpD := List D → Gm → QD → WD → Prop
def XRep (K : PySem.W.Frag) (F : Hp) (dd : Option Addr) (fs : List (Str × D)) : Prop := (dd = none ∧ fs = []) ∨ ∃ a fv, dd = some a ∧ F a = some (.xd fv) ∧ RepF K F fv fs
def XW (K : PySem.W.Frag) (B : Bs) (W : WD) : XK := fun cls dd H => ∃ F G C fs, cls = .ref C ∧ Same B.F F ∧ DS K B.T F H G B.Z ∧ XRep K F dd fs ∧ W C fs G
def lowSp (K : PySem.W.Frag) (sp : SpD) : Sp := fun vs H Q E => ∃ (B : Bs) (G : Gm) (ds : List D) (Qd : QD) (W : WD), DS K B.T B.F H G B.Z ∧ RepAll K B.F vs ds ∧ sp ds G Qd W ∧ (∀ v H', BehR K B B.F Qd v H' → Q v H') ∧ (∀ cls dd H', XW K B W cls dd H' → E cls dd H')
abbrev FnD (P : Program) (w : World) (K : PySem.W.Frag) (mg : Str → Option Value) (base : Heap) (k : Nat) (f : Addr) (fd : FuncData) (ps : List Str) (sp : SpD) : Prop := FnOk P w K mg base (L2.CX P w) k f fd ps (lowSp K sp)
abbrev GnD (P : Program) (w : World) (K : PySem.W.Frag) (mg : Str → Option Value) (base : Heap) (k : Nat) (f : Addr) (fd : FuncData) (ps : List Str) (sp : SpD) : Prop := GOk P w K mg base k f fd ps (lowSp K sp)
def startD (N : List Str) (ds : List D) : SD := ds.map some ++ List.replicate (N.length - ds.length) none
theorem sl_start {K : PySem.W.Frag} {F : Hp} {N : List Str} {vs : List V} {ds : List D} (r : RepAll K F vs ds) : Sl K F (L2.start N vs) (startD N ds) := by
  have l := r.length
  refine ⟨by simp [L2.start, startD, l], fun i d e => ?_⟩
  unfold startD at e
  unfold L2.start
  rcases Nat.lt_or_ge i ds.length with h | h
  · rw [List.getElem?_append_left (by simpa using h), List.getElem?_map] at e
    obtain ⟨d', e1, e2⟩ := Option.map_eq_some_iff.mp e
    cases e2
    obtain ⟨v, ev, rv⟩ := r.get e1
    exact ⟨v, by rw [List.getElem?_append_left (by simp; omega), List.getElem?_map, ev]; rfl, rv⟩
  · rw [List.getElem?_append_right (by simpa using h)] at e
    rw [List.getElem?_replicate] at e
    split at e <;> cases e
section
variable {P : Program} {w : World} {K : PySem.W.Frag} {mg : Str → Option Value} {base : Heap} {k : Nat} {f : Addr} {fd : FuncData} {ps N : List Str} {sp : SpD}
theorem FnD.arity (F : FnD P w K mg base k f fd ps sp) {ds : List D} {G : Gm} {Q : QD} {W : WD} {B : Bs} {H : Hp} {vs : List V} (d : DS K B.T B.F H G B.Z) (r : RepAll K B.F vs ds) (h : sp ds G Q W) : vs.length = ps.length :=
  F.len vs H (fun _ _ => True) (fun _ _ _ => True) ⟨B, G, ds, Q, W, d, r, h, fun _ _ _ => trivial, fun _ _ _ _ => trivial⟩
/-- a def of the text by its body -/
theorem dfn {x qual : Str} {st : Stmt} (F : Fun K x qual st f fd) (S : FnScope N ps (defScope st)) (len : ∀ ds G Q W, sp ds G Q W → ds.length = ps.length)
    (body : ∀ (cdv : Value) (A : Around) (outer : List Env) (s : Shared) (H : Hp) (E : XK) (B : Bs) (W : WD), Room k (A.deeper (envOfC qual (defScope st) s.heap.objs.size f cdv)) →
      Takes (cxOf (L2.CX P w) P w K mg base N qual (defScope st) f cdv A outer s H E) (fun cls d _ H => XW K B W cls d H) →
      ∃ T, DB (cxOf (L2.CX P w) P w K mg base N qual (defScope st) f cdv A outer s H E) B (defBody st) T ∧ ∀ ds G Q, sp ds G Q W → T { nx := fun _ G => Q .non G, rt := Q } (startD N ds) G) :
    FnD P w K mg base (k + 1) f fd ps sp :=
  F.okX S (fun vs H Q E ⟨B, G, ds, Qd, W, d, r, h, _, _⟩ => r.length.trans (len ds G Qd W h)) fun cdv A outer s H vs Q E hr ⟨B, G, ds, Qd, W, d, r, h, kq, ke⟩ => by
    obtain ⟨T, hT, hq⟩ := body cdv A outer s H E B W hr ((takes_of rfl rfl rfl rfl).imp fun c d _ H q => ke c d H q)
    refine ⟨upS K B T, hT, B.F, G, startD N ds, _, ⟨d, .refl B.F, sl_start r⟩, hq ds G Qd h, ⟨fun σ H' ⟨F', G', δ', s', S', q⟩ => kq _ _ ⟨F', G', .non, s', S'.ds, S'.gr, .non, q⟩, fun v H' q => kq v H' q, fun _ _ ⟨_, _, _, _, _, q⟩ => q.elim, fun _ _ ⟨_, _, _, _, _, q⟩ => q.elim⟩⟩
/-- with defaults -/
theorem dfnD {x qual : Str} {pm : Arguments} {bd : List Stmt} {sc : Scope} {dvs : List V} {kws : List (Str × V)} (F : FunD K x qual pm bd sc dvs kws f fd) (S : FnScope N ps sc) (len : ∀ ds G Q W, sp ds G Q W → ds.length = ps.length)
    (body : ∀ (cdv : Value) (A : Around) (outer : List Env) (s : Shared) (H : Hp) (E : XK) (B : Bs) (W : WD), Room k (A.deeper (envOfC qual sc s.heap.objs.size f cdv)) →
      Takes (cxOf (L2.CX P w) P w K mg base N qual sc f cdv A outer s H E) (fun cls d _ H => XW K B W cls d H) →
      ∃ T, DB (cxOf (L2.CX P w) P w K mg base N qual sc f cdv A outer s H E) B bd T ∧ ∀ ds G Q, sp ds G Q W → T { nx := fun _ G => Q .non G, rt := Q } (startD N ds) G) :
    FnD P w K mg base (k + 1) f fd ps sp :=
  F.ok (CX := L2.CX P w) S (fun vs H Q E ⟨B, G, ds, Qd, W, d, r, h, _, _⟩ => r.length.trans (len ds G Qd W h)) fun cdv A outer s H vs Q E hr ⟨B, G, ds, Qd, W, d, r, h, kq, ke⟩ => by
    obtain ⟨T, hT, hq⟩ := body cdv A outer s H E B W hr ((takes_of rfl rfl rfl rfl).imp fun c d _ H q => ke c d H q)
    refine ⟨upS K B T, hT, B.F, G, startD N ds, _, ⟨d, .refl B.F, sl_start r⟩, hq ds G Qd h, ⟨fun σ H' ⟨F', G', δ', s', S', q⟩ => kq _ _ ⟨F', G', .non, s', S'.ds, S'.gr, .non, q⟩, fun v H' q => kq v H' q, fun _ _ ⟨_, _, _, _, _, q⟩ => q.elim, fun _ _ ⟨_, _, _, _, _, q⟩ => q.elim⟩⟩
/-- a def that is called where no repr goes on, and lets nothing out -/
theorem dfg {x qual : Str} {st : Stmt} (F : Fun K x qual st f fd) (S : FnScope N ps (defScope st)) (len : ∀ ds G Q W, sp ds G Q W → ds.length = ps.length)
    (body : ∀ (cdv : Value) (A : Around) (outer : List Env) (s : Shared) (H : Hp) (E : XK) (B : Bs), A.guards = some [] → Room k (A.deeper (envOfC qual (defScope st) s.heap.objs.size f cdv)) →
      ∃ T, DB (cxOf CX0 P w K mg base N qual (defScope st) f cdv A outer s H E).nox B (defBody st) T ∧ ∀ ds G Q W, sp ds G Q W → T { nx := fun _ G => Q .non G, rt := Q } (startD N ds) G) :
    GnD P w K mg base (k + 1) f fd ps sp :=
  gok F S (fun vs H Q E ⟨B, G, ds, Qd, W, d, r, h, _, _⟩ => r.length.trans (len ds G Qd W h)) fun cdv A outer s H vs Q E g hr ⟨B, G, ds, Qd, W, d, r, h, kq, ke⟩ => by
    obtain ⟨T, hT, hq⟩ := body cdv A outer s H E B g hr
    refine ⟨upS K B T, hT, B.F, G, startD N ds, _, ⟨d, .refl B.F, sl_start r⟩, hq ds G Qd W h, ⟨fun σ H' ⟨F', G', δ', s', S', q⟩ => kq _ _ ⟨F', G', .non, s', S'.ds, S'.gr, .non, q⟩, fun v H' q => kq v H' q, fun _ _ ⟨_, _, _, _, _, q⟩ => q.elim, fun _ _ ⟨_, _, _, _, _, q⟩ => q.elim⟩⟩
end
section
variable {X : Cx} {B : Bs} {K : PySem.W.Frag} {W : WD}
/-- what a callee may let out is taken -/
theorem hx_of (tk : Takes X fun cls d _ H => XW X.K B W cls d H) : Passes (L2.CX X.prog X.w) X (XW X.K B W) := passes_call tk fun _ _ _ _ h => h
theorem hx0 : Passes (L2.CX X.prog X.w) X (XW X.K B WN) := passes_call takesN fun cls d σ H ⟨_, _, _, _, _, _, _, _, h⟩ => h.elim
def dCall (sp : SpD) (W : WD) (t : TAD) : TED := fun δ G Q => t δ G fun ds G1 => sp ds G1 Q W
variable {k : Nat} {f C : Addr} {fd : FuncData} {ps : List Str} {sp : SpD} {x m : Str} {p pos apos : Pos} {e o : Expr} {es : List Expr} {te : TED} {t : TAD} {σ : L2.St} {H F : Hp} {δ : SD} {G : Gm}
/-- into a call: what it wants of trees is had of the heap -/
theorem low_of {Q : VK} {Qd : QD} {vs : List V} {ds : List D} {F1 : Hp} {G1 : Gm} (kk : ∀ v H', Beh K B σ F δ Qd v H' → Q v H') (s1 : Same F F1) (S1 : Sit K B σ H F1 δ G1) (r : RepAll K F1 vs ds) (h : sp ds G1 Qd W) : lowSp K sp vs H Q (XW K B W) :=
  ⟨⟨F1, B.Z, B.T⟩, G1, ds, Qd, W, S1.ds, r, h, fun v H' ⟨F', G', d, s', ds', _, r', q'⟩ => kk v H' ⟨F', G', d, s1.trans s', ⟨ds', S1.gr.trans s', S1.sl.mono s'⟩, r', q'⟩,
    fun cls dd H' ⟨F', G', C, fs, e, s', ds', xr, w⟩ => ⟨F', G', C, fs, e, S1.gr.trans s', ds', xr, w⟩⟩
theorem de_call (Fn : FnD X.prog X.w X.K X.mg X.base k f fd ps sp) (hr : Room k X.A) (hg : Gl X x) (hm : X.mg x = some (.ref f)) (hk : PySem.W.keepIn X.K (.ref f) = true) (hb : Binds X.K fd ps []) (hx : Passes (L2.CX X.prog X.w) X (XW X.K B W))
    (ha : DA X B (e :: es) t) (hdb : (x == ("__debug__" : Str)) = false := by decide) (he : starEach (e :: es) X.env = (false, eval e X.env) :: starEach es X.env := by rfl) (hpl : (backTo pos (starEach es X.env)).any (·.1) = false := by rfl) :
    DE X B (.Call (.Name x p) (e :: es) [] pos) (dCall sp W t) :=
  PE.weak (pe_call Fn hr hg hm hk hb .nil hx ha hdb he hpl) fun σ H Q ⟨F, G, δ, Qd, S, h, kk⟩ => ⟨F, G, δ, _, S, h, fun vs H1 ⟨F1, G1, ds, s1, S1, r1, h1⟩ => by
    show lowSp X.K sp (vs ++ []) H1 Q _
    rw [List.append_nil]
    exact low_of kk s1 S1 r1 h1⟩
theorem de_call0 (Fn : FnD X.prog X.w X.K X.mg X.base k f fd ps sp) (hr : Room k X.A) (hg : Gl X x) (hm : X.mg x = some (.ref f)) (hk : PySem.W.keepIn X.K (.ref f) = true) (hb : Binds X.K fd ps []) (hx : Passes (L2.CX X.prog X.w) X (XW X.K B W))
    (hdb : (x == ("__debug__" : Str)) = false := by decide) : DE X B (.Call (.Name x p) [] [] pos) (dCall sp W dNil) :=
  PE.weak (pe_call0 Fn hr hg hm hk hb .nil hx hdb) fun σ H Q ⟨F, G, δ, Qd, S, h, kk⟩ => low_of (vs := []) kk (.refl F) S .nil h
theorem de_g (Fn : GnD X.prog X.w X.K X.mg X.base k f fd ps sp) (g : X.A.guards = some []) (hr : Room k X.A) (hg : Gl X x) (hm : X.mg x = some (.ref f)) (hk : PySem.W.keepIn X.K (.ref f) = true) (hb : Binds X.K fd ps [])
    (ha : DA X B (e :: es) t) (hdb : (x == ("__debug__" : Str)) = false := by decide) (he : starEach (e :: es) X.env = (false, eval e X.env) :: starEach es X.env := by rfl) (hpl : (backTo pos (starEach es X.env)).any (·.1) = false := by rfl) :
    DE X B (.Call (.Name x p) (e :: es) [] pos) (dCall sp WN t) :=
  PE.weak (pe_g (E := XW X.K B WN) Fn g hr hg hm hk hb .nil ha hdb he hpl) fun σ H Q ⟨F, G, δ, Qd, S, h, kk⟩ => ⟨F, G, δ, _, S, h, fun vs H1 ⟨F1, G1, ds, s1, S1, r1, h1⟩ => by
    show lowSp X.K sp (vs ++ []) H1 Q _
    rw [List.append_nil]
    exact low_of kk s1 S1 r1 h1⟩
/-- keywords -/
def upK := @upA
def DK (X : Cx) (B : Bs) (kws : List Keyword) (T : TAD) : Prop := PK X kws (upA X.K B T)
theorem dk_nil : DK X B [] dNil := ⟨fun pos pins s σ H Q I ⟨F, G, δ, Qd, S, h, k⟩ => pk_nil.run pos pins s σ H Q I (k [] H ⟨F, G, [], .refl F, S, .nil, h⟩)⟩
theorem dk_cons {nm : Option Str} {kpos : Pos} {kws : List Keyword} (ha : DE X B e te) (hr : DK X B kws t) : DK X B (⟨nm, e, kpos⟩ :: kws) (dCons te t) :=
  ⟨fun pos pins s σ H Q I ⟨F, G, δ, Qd, S, h, k⟩ => (pk_cons ha hr).run pos pins s σ H Q I ⟨F, G, δ, _, S, h, fun v H1 ⟨F1, G1, d, s1, S1, r1, h1⟩ => ⟨F1, G1, δ, _, S1, h1, fun vs H2 ⟨F2, G2, ds, s2, S2, r2, h2⟩ =>
    k _ H2 ⟨F2, G2, d :: ds, s1.trans s2, S2, .cons (r1.mono s2) r2, h2⟩⟩⟩⟩
def PermOk (gV : List V → List V → List V) (gD : List D → List D → List D) : Prop := ∀ (K : PySem.W.Frag) (F : Hp) (vs zs : List V) (ds es : List D), RepAll K F vs ds → RepAll K F zs es → RepAll K F (gV vs zs) (gD ds es)
theorem perm_ok {np nk : Nat} {ix : List Nat} : PermOk (gPerm np nk ix) (gPerm np nk ix) := fun K F vs zs ds es r q => by
  unfold gPerm
  rw [r.length, q.length]
  split
  · have a := r.append q
    generalize vs ++ zs = xs at a
    generalize ds ++ es = ys at a
    clear r q
    induction ix with
    | nil => exact .nil
    | cons i ix ih =>
      rw [List.filterMap_cons, List.filterMap_cons]
      cases e : ys[i]? with
      | none =>
        have : xs[i]? = none := by
          rw [List.getElem?_eq_none_iff] at e ⊢
          rw [a.length]
          exact e
        rw [this]
        exact ih
      | some d =>
        obtain ⟨v, ev, rv⟩ := a.get e
        rw [ev]
        exact .cons rv ih
  · exact .nil
variable {kws : List Keyword} {tk : TAD} {ks : List Str} {gg : List Value → List Value → List Value} {gV : List V → List V → List V} {gD : List D → List D → List D}
def dCallK (sp : SpD) (gD : List D → List D → List D) (W : WD) (t tk : TAD) : TED := fun δ G Q => t δ G fun ds G1 => tk δ G1 fun es G2 => sp (gD ds es) G2 Q W
theorem de_callK (Fn : FnD X.prog X.w X.K X.mg X.base k f fd ps sp) (hr : Room k X.A) (hg : Gl X x) (hm : X.mg x = some (.ref f)) (hk : PySem.W.keepIn X.K (.ref f) = true) (hb : KBinds X.K fd ps ks gg gV) (hx : Passes (L2.CX X.prog X.w) X (XW X.K B W)) (hp : PermOk gV gD)
    (ha : DA X B (e :: es) t) (hkw : DK X B kws tk) (hall : (backToKw pos (keywordEach kws X.env)).all (·.1.isSome) = true := by rfl) (hks : (backToKw pos (keywordEach kws X.env)).filterMap (·.1) = ks := by rfl) (hdb : (x == ("__debug__" : Str)) = false := by decide)
    (he : starEach (e :: es) X.env = (false, eval e X.env) :: starEach es X.env := by rfl) (hpl : ((backTo pos (starEach (e :: es) X.env)).any (·.1) || (backToKw pos (keywordEach kws X.env)).any (·.1.isNone)) = false := by rfl) :
    DE X B (.Call (.Name x p) (e :: es) kws pos) (dCallK sp gD W t tk) :=
  PE.weak (pe_callK Fn hr hg hm hk hb hx ha hkw hall hks hdb he hpl) fun σ H Q ⟨F, G, δ, Qd, S, h, kk⟩ => ⟨F, G, δ, _, S, h, fun vs H1 ⟨F1, G1, ds, s1, S1, r1, h1⟩ => ⟨F1, G1, δ, _, S1, h1, fun zs H2 ⟨F2, G2, es, s2, S2, r2, h2⟩ =>
    low_of kk (s1.trans s2) S2 (hp _ _ _ _ _ _ (r1.mono s2) r2) h2⟩⟩
theorem de_callK0 (Fn : FnD X.prog X.w X.K X.mg X.base k f fd ps sp) (hr : Room k X.A) (hg : Gl X x) (hm : X.mg x = some (.ref f)) (hk : PySem.W.keepIn X.K (.ref f) = true) (hb : KBinds X.K fd ps ks gg gV) (hx : Passes (L2.CX X.prog X.w) X (XW X.K B W)) (hp : PermOk gV gD)
    (hkw : DK X B kws tk) (hall : (backToKw pos (keywordEach kws X.env)).all (·.1.isSome) = true := by rfl) (hks : (backToKw pos (keywordEach kws X.env)).filterMap (·.1) = ks := by rfl) (hdb : (x == ("__debug__" : Str)) = false := by decide)
    (hpl : ((backTo pos (starEach [] X.env)).any (·.1) || (backToKw pos (keywordEach kws X.env)).any (·.1.isNone)) = false := by rfl) :
    DE X B (.Call (.Name x p) [] kws pos) (dCallK sp gD W dNil tk) :=
  PE.weak (pe_callK0 Fn hr hg hm hk hb hx hkw hall hks hdb hpl) fun σ H Q ⟨F, G, δ, Qd, S, h, kk⟩ => ⟨F, G, δ, _, S, h, fun zs H2 ⟨F2, G2, es, s2, S2, r2, h2⟩ =>
    low_of kk s2 S2 (hp _ _ _ _ _ _ .nil r2) h2⟩

/-! ### own classes -/
/-- the instance and its attributes, changeable or not -/
def insD (d : D) (G : Gm) : Option (Addr × List (Str × D)) := match d with
  | .ins C fs => some (C, fs)
  | .adr a => match G a with | some (.ins C fs) => some (C, fs) | _ => none
  | _ => none
theorem ins_rep {v : V} {d : D} {C : Addr} {fs : List (Str × D)} (S : Sit K B σ H F δ G) (r : Rep K F v d) (h : insD d G = some (C, fs)) : ∃ a dx fv, v = .ref a ∧ H a = some (.ins C dx fv) ∧ GoodC K C ∧ (∀ p ∈ fs, NoAttr K C p.1) ∧ RepF K F fv fs := by
  cases d with
  | ins C' fs' =>
    cases h
    cases r with
    | ins e g n rf => exact ⟨_, _, _, rfl, S.ds.sub _ _ e, g, n, rf⟩
  | adr a =>
    cases r
    cases g : G a with
    | none => simp [insD, g] at h
    | some mo =>
      cases mo with
      | ins C' fs' =>
        simp only [insD, g, Option.some.injEq, Prod.mk.injEq] at h
        obtain ⟨rfl, rfl⟩ := h
        obtain ⟨dx, fv, e, gc, n, rf⟩ := (S.ds.mu a _ g).2
        exact ⟨a, dx, fv, rfl, e, gc, n, rf⟩
      | _ => simp [insD, g] at h
  | _ => simp [insD] at h
theorem look_mem {f : Str} {y : D} : ∀ {fs : List (Str × D)}, fs.lookup f = some y → (f, y) ∈ fs
  | [], h => by cases h
  | (g, e) :: r, h => by
    rw [List.lookup_cons] at h
    cases q : f == g with
    | true =>
      rw [q] at h
      cases h
      rw [beq_iff_eq] at q
      subst q
      exact List.mem_cons_self
    | false =>
      rw [q] at h
      exact List.mem_cons_of_mem _ (look_mem h)
def fldD (d : D) (G : Gm) (f : Str) : Option D := (insD d G).bind fun p => p.2.lookup f
def dFld (te : TED) (f : Str) : TED := fun δ G Q => te δ G fun d G1 => match fldD d G1 f with | some y => Q y G1 | none => False
theorem de_fld {f : Str} (he : DE X B e te) (hb : attributeBase e f X.env (eval e X.env) = eval e X.env := by rfl) : DE X B (.Attribute e f pos) (dFld te f) :=
  PE.weak (pe_fld he hb) fun σ H Q ⟨F, G, δ, Qd, S, h, kk⟩ => ⟨F, G, δ, _, S, h, fun v H1 ⟨F1, G1, d, s1, S1, r1, h1⟩ => by
    cases q : insD d G1 with
    | none => simp [fldD, q] at h1
    | some cf =>
      obtain ⟨C, fs⟩ := cf
      obtain ⟨a, dx, fv, rfl, e, gc, na, rf⟩ := ins_rep S1 r1 q
      cases l : fs.lookup f with
      | none => simp [fldD, q, l] at h1
      | some y =>
        simp only [fldD, q, Option.bind_some, l] at h1
        obtain ⟨u, lu, ru⟩ := rf.look l
        exact ⟨a, C, dx, fv, u, rfl, e, gc.cl, na _ (look_mem l), lu, kk _ _ ⟨F1, G1, y, s1, S1, ru, h1⟩⟩⟩
theorem repF_put {f : Str} {v : V} {d : D} (r : Rep K F v d) : ∀ {fv : List (Str × V)} {fs : List (Str × D)}, RepF K F fv fs → RepF K F (putF f v fv) (putD f d fs)
  | _, _, .nil => .cons r .nil
  | _, _, .cons (f := g) h q => by
    by_cases c : g = f
    · subst c
      unfold putF putD
      rw [if_pos rfl, if_pos rfl]
      exact .cons r q
    · unfold putF putD
      rw [if_neg c, if_neg c]
      exact .cons h (repF_put r q)
theorem putD_mem {f : Str} {d : D} : ∀ {fs : List (Str × D)} {p : Str × D}, p ∈ putD f d fs → p = (f, d) ∨ p ∈ fs
  | [], p, h => by
    rcases List.mem_cons.mp h with h | h
    · exact .inl h
    · cases h
  | (g, e) :: r, p, h => by
    unfold putD at h
    split at h
    · rcases List.mem_cons.mp h with h | h
      · exact .inl h
      · exact .inr (List.mem_cons_of_mem _ h)
    · rcases List.mem_cons.mp h with h | h
      · exact .inr (h ▸ List.mem_cons_self)
      · rcases putD_mem h with h | h
        · exact .inl h
        · exact .inr (List.mem_cons_of_mem _ h)
/-- o.f = e, o what may change -/
def dSetF (C : Addr) (to te : TED) (f : Str) : TSD := fun E δ G => te δ G fun y G1 => to δ G1 fun d G2 => match d with
  | .adr a => (match G2 a with | some (.ins C' fs) => C' = C ∧ fs.length < 1000 ∧ E.nx δ (updG G2 a (.ins C (putD f y fs))) | _ => False)
  | _ => False
theorem ds_fld {f : Str} {to : TED} {value : Expr} {tv : TED} {pos' : Pos} (na : NoAttr X.K C f) (ho : DE X B o to) (hv : DE X B value tv) (hs : swapsWith value (some (.Attribute o f pos')) pos.line X.env = pure false := by rfl) : DSt X B (.Assign [.Attribute o f pos'] value pos) (dSetF C to tv f) :=
  PS.weak (ps_fld ho hv hs) fun D σ H ⟨F, G, δ, E, S, h, L⟩ => ⟨F, G, δ, _, S, h, fun y H1 ⟨F1, G1, dy, s1, S1, r1, h1⟩ => ⟨F1, G1, δ, _, S1, h1, fun x H2 ⟨F2, G2, d, s2, S2, r2, h2⟩ => by
    cases d with
    | adr a =>
      cases r2
      cases g : G2 a with
      | none =>
        simp only [g] at h2
      | some mo =>
        cases mo with
        | ins C' fs =>
          simp only [g] at h2
          obtain ⟨rfl, hl, q⟩ := h2
          obtain ⟨dx, fv, e, gc, n, rf⟩ := (S2.ds.mu a _ g).2
          refine ⟨a, C', dx, fv, rfl, e, gc.cl, na, by rw [rf.length]; exact hl, L.nx _ _ ⟨F2, _, δ, s1.trans s2, ⟨S2.ds.write (m' := .ins C' (putD f dy fs)) g ⟨dx, _, upd_same, gc, fun p hp => ?_, repF_put (r1.mono s2) rf⟩, S2.gr, S2.sl⟩, q⟩⟩
          rcases putD_mem hp with hp | hp
          · rw [hp]
            exact na
          · exact n p hp
        | _ => simp only [g] at h2
    | _ => exact h2.elim⟩⟩
/-- C(..): made, its __init__ called, then it changes no more -/
def dMake (C : Addr) (sp : SpD) (W : WD) (t : TAD) : TED := fun δ G Q => t δ G fun ds G1 => ∀ x, G1 x = none →
  sp (.adr x :: ds) (updG G1 x (.ins C [])) (fun d G2 => d = .non ∧ match G2 x with | some (.ins C' fs) => Q (.ins C' fs) (delG G2 x) | _ => False) (fun C' fs G2 => W C' fs (delG G2 x))
theorem DS.forget {K : PySem.W.Frag} {Tb : List (Addr × Str)} {F H Z : Hp} {G : Gm} {a : Addr} (d : DS K Tb F H G Z) : DS K Tb F H (delG G a) Z := ⟨d.sub, fun b m e => by
    by_cases c : b = a
    · rw [c, delG_same] at e
      cases e
    · rw [delG_ne c] at e
      exact d.mu b m e, d.zub, fun b u e => ⟨(d.zf b u e).1, by
      have := (d.zf b u e).2.1
      by_cases c : b = a
      · rw [c, delG_same]
      · rw [delG_ne c]
        exact this, (d.zf b u e).2.2⟩, d.ft, d.tab⟩
/-- what a making comes to -/
theorem low_make {vs : List V} {ds : List D} {F1 : Hp} {G1 : Gm} {Q : VK} {Qd : QD} (gc : GoodC K C) (kk : ∀ v H', Beh K B σ F δ Qd v H' → Q v H') (s1 : Same F F1) (S1 : Sit K B σ H F1 δ G1) (r1 : RepAll K F1 vs ds)
    (h1 : ∀ x, G1 x = none → sp (.adr x :: ds) (updG G1 x (.ins C [])) (fun d G2 => d = .non ∧ match G2 x with | some (.ins C' fs) => Qd (.ins C' fs) (delG G2 x) | _ => False) (fun C' fs G2 => W C' fs (delG G2 x))) :
    ∀ x dx, H x = none → H dx = none → dx ≠ x → lowSp K sp (.ref x :: vs) (upd (upd H dx (.own x)) x (.ins C dx [])) (fun v H2 => v = .non ∧ Q (.ref x) H2) (XW K B W) := fun x dx nx ndx ne => by
  have sa : Same H (upd H dx (.own x)) := same_new ndx
  have S2 := S1.same sa
  have nx2 : upd H dx (.own x) x = none := by rw [upd_ne ne.symm]; exact nx
  have d3 := S2.ds.open (o := .ins C dx []) (m := .ins C []) nx2 ⟨dx, [], upd_same, gc, fun p hp => (by cases hp), .nil⟩
  refine ⟨⟨F1, B.Z, B.T⟩, _, _, _, _, d3, .cons (.adr x) r1, h1 x (S1.ds.noG nx), fun v H' ⟨F', G', d, s', ds', _, r', e, q'⟩ => ?_, fun cls dd H' ⟨F', G', C', fs, e, s', ds', xr, w⟩ => ⟨F', _, C', fs, e, S1.gr.trans s', ds'.forget, xr, w⟩⟩
  subst e
  refine ⟨rep_non r', ?_⟩
  cases g : G' x with
  | none => simp only [g] at q'
  | some mo =>
    cases mo with
    | ins C' fs =>
      simp only [g] at q'
      obtain ⟨dx', fv, e, gc', na, rf⟩ := (ds'.mu x _ g).2
      obtain ⟨d4, s4⟩ := ds'.close g e
      exact kk _ _ ⟨_, _, _, (s1.trans s').trans s4, ⟨d4, S1.gr.trans (s'.trans s4), S1.sl.mono (s'.trans s4)⟩, .ins upd_same gc' na (rf.mono s4), q'⟩
    | _ => simp only [g] at q'
theorem de_make (M : Mk X.K C f) (gc : GoodC X.K C) (Fn : FnD X.prog X.w X.K X.mg X.base k f fd ps sp) (hr : Room (k + 1) X.A) (hg : Gl X x) (hm : X.mg x = some (.ref C)) (hb : Binds X.K fd ps []) (hx : Passes (L2.CX X.prog X.w) X (XW X.K B W)) (ha : DA X B (e :: es) t)
    (hdb : (x == ("__debug__" : Str)) = false := by decide) (he : starEach (e :: es) X.env = (false, eval e X.env) :: starEach es X.env := by rfl) (hpl : (backTo pos (starEach es X.env)).any (·.1) = false := by rfl) :
    DE X B (.Call (.Name x p) (e :: es) [] pos) (dMake C sp W t) :=
  PE.weak (pe_make M Fn hr hg hm hb .nil hx ha hdb he hpl) fun σ H Q ⟨F, G, δ, Qd, S, h, kk⟩ => ⟨F, G, δ, _, S, h, fun vs H1 ⟨F1, G1, ds, s1, S1, r1, h1⟩ => by
    show ∀ x dx, _ → _ → _ → lowSp X.K sp (.ref x :: (vs ++ [])) _ _ _
    rw [List.append_nil]
    exact low_make gc kk s1 S1 r1 h1⟩
theorem de_makeDf {dvs : List V} {dds : List D} {dus : List Value} (rd : ∀ F, RepAll X.K F dvs dds) (hd : Vals dvs dus) (M : Mk X.K C f) (gc : GoodC X.K C) (Fn : FnD X.prog X.w X.K X.mg X.base k f fd ps sp) (hr : Room (k + 1) X.A) (hg : Gl X x) (hm : X.mg x = some (.ref C)) (hb : Binds X.K fd ps dus) (hx : Passes (L2.CX X.prog X.w) X (XW X.K B W)) (ha : DA X B (e :: es) t)
    (hdb : (x == ("__debug__" : Str)) = false := by decide) (he : starEach (e :: es) X.env = (false, eval e X.env) :: starEach es X.env := by rfl) (hpl : (backTo pos (starEach es X.env)).any (·.1) = false := by rfl) :
    DE X B (.Call (.Name x p) (e :: es) [] pos) (dMake C sp W fun δ G Q => t δ G fun ds G1 => Q (ds ++ dds) G1) :=
  PE.weak (pe_make M Fn hr hg hm hb hd hx ha hdb he hpl) fun σ H Q ⟨F, G, δ, Qd, S, h, kk⟩ => ⟨F, G, δ, _, S, h, fun vs H1 ⟨F1, G1, ds, s1, S1, r1, h1⟩ => low_make gc kk s1 S1 (r1.append (rd F1)) h1⟩
theorem de_make0 (M : Mk X.K C f) (gc : GoodC X.K C) (Fn : FnD X.prog X.w X.K X.mg X.base k f fd ps sp) (hr : Room (k + 1) X.A) (hg : Gl X x) (hm : X.mg x = some (.ref C)) (hb : Binds X.K fd ps []) (hx : Passes (L2.CX X.prog X.w) X (XW X.K B W))
    (hdb : (x == ("__debug__" : Str)) = false := by decide) : DE X B (.Call (.Name x p) [] [] pos) (dMake C sp W dNil) :=
  PE.weak (pe_make0 M Fn hr hg hm hb .nil hx hdb) fun σ H Q ⟨F, G, δ, Qd, S, h, kk⟩ => low_make gc kk (.refl F) S .nil h
def dMakeK (C : Addr) (n m : Nat) (sp : SpD) (gD : List D → List D → List D) (W : WD) (t tk : TAD) : TED := fun δ G Q => t δ G fun ds G1 => tk δ G1 fun es G2 => ds.length = n ∧ es.length = m ∧ ∀ x, G2 x = none →
  sp (gD (.adr x :: ds) es) (updG G2 x (.ins C [])) (fun d G3 => d = .non ∧ match G3 x with | some (.ins C' fs) => Q (.ins C' fs) (delG G3 x) | _ => False) (fun C' fs G3 => W C' fs (delG G3 x))
theorem low_makeK {vs zs : List V} {ds es : List D} {F1 : Hp} {G1 : Gm} {Q : VK} {Qd : QD} (hp : PermOk gV gD) (gc : GoodC K C) (kk : ∀ v H', Beh K B σ F δ Qd v H' → Q v H') (s1 : Same F F1) (S1 : Sit K B σ H F1 δ G1) (r1 : RepAll K F1 vs ds) (r2 : RepAll K F1 zs es)
    (h1 : ∀ x, G1 x = none → sp (gD (.adr x :: ds) es) (updG G1 x (.ins C [])) (fun d G2 => d = .non ∧ match G2 x with | some (.ins C' fs) => Qd (.ins C' fs) (delG G2 x) | _ => False) (fun C' fs G2 => W C' fs (delG G2 x))) :
    ∀ x dx, H x = none → H dx = none → dx ≠ x → lowSp K sp (gV (.ref x :: vs) zs) (upd (upd H dx (.own x)) x (.ins C dx [])) (fun v H2 => v = .non ∧ Q (.ref x) H2) (XW K B W) := fun x dx nx ndx ne => by
  have sa : Same H (upd H dx (.own x)) := same_new ndx
  have S2 := S1.same sa
  have nx2 : upd H dx (.own x) x = none := by rw [upd_ne ne.symm]; exact nx
  have d3 := S2.ds.open (o := .ins C dx []) (m := .ins C []) nx2 ⟨dx, [], upd_same, gc, fun p hp => (by cases hp), .nil⟩
  refine ⟨⟨F1, B.Z, B.T⟩, _, _, _, _, d3, hp _ _ _ _ _ _ (.cons (.adr x) r1) r2, h1 x (S1.ds.noG nx), fun v H' ⟨F', G', d, s', ds', _, r', e, q'⟩ => ?_, fun cls dd H' ⟨F', G', C', fs, e, s', ds', xr, w⟩ => ⟨F', _, C', fs, e, S1.gr.trans s', ds'.forget, xr, w⟩⟩
  subst e
  refine ⟨rep_non r', ?_⟩
  cases g : G' x with
  | none => simp only [g] at q'
  | some mo =>
    cases mo with
    | ins C' fs =>
      simp only [g] at q'
      obtain ⟨dx', fv, e, gc', na, rf⟩ := (ds'.mu x _ g).2
      obtain ⟨d4, s4⟩ := ds'.close g e
      exact kk _ _ ⟨_, _, _, (s1.trans s').trans s4, ⟨d4, S1.gr.trans (s'.trans s4), S1.sl.mono (s'.trans s4)⟩, .ins upd_same gc' na (rf.mono s4), q'⟩
    | _ => simp only [g] at q'
theorem de_makeK0 (M : Mk X.K C f) (gc : GoodC X.K C) (Fn : FnD X.prog X.w X.K X.mg X.base k f fd ps sp) (hr : Room (k + 1) X.A) (hg : Gl X x) (hm : X.mg x = some (.ref C)) (hb : KBn X.K fd ps 1 ks gg gV) (hx : Passes (L2.CX X.prog X.w) X (XW X.K B W)) (hp : PermOk gV gD) (hkw : DK X B kws tk)
    (hall : (backToKw pos (keywordEach kws X.env)).all (·.1.isSome) = true := by rfl) (hks : (backToKw pos (keywordEach kws X.env)).filterMap (·.1) = ks := by rfl) (hdb : (x == ("__debug__" : Str)) = false := by decide)
    (hpl : ((backTo pos (starEach [] X.env)).any (·.1) || (backToKw pos (keywordEach kws X.env)).any (·.1.isNone)) = false := by rfl) :
    DE X B (.Call (.Name x p) [] kws pos) (dMakeK C 0 ks.length sp gD W dNil tk) :=
  PE.weak (pe_makeK0 M Fn hr hg hm hb hx hkw hall hks hdb hpl) fun σ H Q ⟨F, G, δ, Qd, S, h, kk⟩ => ⟨F, G, δ, _, S, h, fun zs H1 ⟨F1, G1, es, s1, S1, r1, h1⟩ => ⟨rfl, r1.length.trans h1.2.1, low_makeK hp gc kk s1 S1 .nil r1 h1.2.2⟩⟩
theorem de_makeK {n : Nat} (M : Mk X.K C f) (gc : GoodC X.K C) (Fn : FnD X.prog X.w X.K X.mg X.base k f fd ps sp) (hr : Room (k + 1) X.A) (hg : Gl X x) (hm : X.mg x = some (.ref C)) (hb : KBn X.K fd ps (n + 1) ks gg gV) (hx : Passes (L2.CX X.prog X.w) X (XW X.K B W)) (hp : PermOk gV gD) (ha : DA X B (e :: es) t) (hkw : DK X B kws tk)
    (hall : (backToKw pos (keywordEach kws X.env)).all (·.1.isSome) = true := by rfl) (hks : (backToKw pos (keywordEach kws X.env)).filterMap (·.1) = ks := by rfl) (hdb : (x == ("__debug__" : Str)) = false := by decide)
    (he : starEach (e :: es) X.env = (false, eval e X.env) :: starEach es X.env := by rfl) (hpl : ((backTo pos (starEach (e :: es) X.env)).any (·.1) || (backToKw pos (keywordEach kws X.env)).any (·.1.isNone)) = false := by rfl) :
    DE X B (.Call (.Name x p) (e :: es) kws pos) (dMakeK C n ks.length sp gD W t tk) :=
  PE.weak (pe_makeK M Fn hr hg hm hb hx ha hkw hall hks hdb he hpl) fun σ H Q ⟨F, G, δ, Qd, S, h, kk⟩ => ⟨F, G, δ, _, S, h, fun vs H1 ⟨F1, G1, ds, s1, S1, r1, h1⟩ => ⟨F1, G1, δ, _, S1, h1, fun zs H2 ⟨F2, G2, es, s2, S2, r2, h2⟩ => ⟨r1.length.trans h2.1, r2.length.trans h2.2.1, low_makeK hp gc kk (s1.trans s2) S2 (r1.mono s2) r2 h2.2.2⟩⟩⟩
/-- o.m(..) -/
def dMeth (C : Addr) (m : Str) (sp : SpD) (W : WD) (to : TED) (t : TAD) : TED := fun δ G Q => to δ G fun d G1 => match insD d G1 with | some (C', fs) => C' = C ∧ fs.lookup m = none ∧ t δ G1 fun ds G2 => sp (d :: ds) G2 Q W | none => False
theorem de_meth {pl : Sem Bool} {to : TED} (he : DE X B o to) (c : Cls X.K C) (hm : Meth X.K C m f) (Fn : FnD X.prog X.w X.K X.mg X.base k f fd ps sp) (hr : Room k X.A) (hb : Binds X.K fd ps []) (hx : Passes (L2.CX X.prog X.w) X (XW X.K B W)) (ha : DA X B (e :: es) t)
    (hst : starEach (e :: es) X.env = (false, eval e X.env) :: starEach es X.env := by rfl) (hpl : (backTo pos (starEach es X.env)).any (·.1) = false := by rfl)
    (ht : eval (.Call (.Attribute o m apos) (e :: es) [] pos) X.env = (do
      let ov ← eval o X.env
      standAt apos.atName
      let (f, first) ← holding [ov] (getMethod ov m pl)
      callWith pos f first (backTo pos (starEach (e :: es) X.env)) (backToKw pos (keywordEach [] X.env))) := by rfl) :
    DE X B (.Call (.Attribute o m apos) (e :: es) [] pos) (dMeth C m sp W to t) :=
  PE.weak (pe_meth he c hm Fn hr hb .nil hx ha hst hpl ht) fun σ H Q ⟨F, G, δ, Qd, S, h, kk⟩ => ⟨F, G, δ, _, S, h, fun v H1 ⟨F1, G1, d, s1, S1, r1, h1⟩ => by
    cases q : insD d G1 with
    | none =>
      simp only [q] at h1
    | some cf =>
      obtain ⟨C', fs⟩ := cf
      simp only [q] at h1
      obtain ⟨rfl, hl, h1⟩ := h1
      obtain ⟨a, dx, fv, rfl, e, gc, na, rf⟩ := ins_rep S1 r1 q
      refine ⟨a, dx, fv, rfl, e, rf.lookN hl, F1, G1, δ, _, S1, h1, fun vs H2 ⟨F2, G2, ds, s2, S2, r2, h2⟩ => ?_⟩
      show lowSp X.K sp (.ref a :: (vs ++ [])) H2 Q _
      rw [List.append_nil]
      exact low_of kk (s1.trans s2) S2 (.cons (r1.mono s2) r2) h2⟩
theorem de_meth0 {pl : Sem Bool} {to : TED} (he : DE X B o to) (c : Cls X.K C) (hm : Meth X.K C m f) (Fn : FnD X.prog X.w X.K X.mg X.base k f fd ps sp) (hr : Room k X.A) (hb : Binds X.K fd ps []) (hx : Passes (L2.CX X.prog X.w) X (XW X.K B W))
    (ht : eval (.Call (.Attribute o m apos) [] [] pos) X.env = (do
      let ov ← eval o X.env
      standAt apos.atName
      let (f, first) ← holding [ov] (getMethod ov m pl)
      callWith pos f first (backTo pos (starEach [] X.env)) (backToKw pos (keywordEach [] X.env))) := by rfl) :
    DE X B (.Call (.Attribute o m apos) [] [] pos) (dMeth C m sp W to dNil) :=
  PE.weak (pe_meth0 he c hm Fn hr hb .nil hx ht) fun σ H Q ⟨F, G, δ, Qd, S, h, kk⟩ => ⟨F, G, δ, _, S, h, fun v H1 ⟨F1, G1, d, s1, S1, r1, h1⟩ => by
    cases q : insD d G1 with
    | none =>
      simp only [q] at h1
    | some cf =>
      obtain ⟨C', fs⟩ := cf
      simp only [q] at h1
      obtain ⟨rfl, hl, h1⟩ := h1
      obtain ⟨a, dx, fv, rfl, e, gc, na, rf⟩ := ins_rep S1 r1 q
      exact ⟨a, dx, fv, rfl, e, rf.lookN hl, low_of kk s1 S1 (.cons r1 .nil) h1⟩⟩
/-- o.f, a property -/
def dProp (C : Addr) (sp : SpD) (to : TED) : TED := fun δ G Q => to δ G fun d G1 => match insD d G1 with | some (C', _) => C' = C ∧ sp [d] G1 Q WN | none => False
theorem de_prop {f' : Str} {pa : Addr} {to : TED} (he : DE X B o to) (c : Cls X.K C) (hp : PropOf X.K C f' pa f) (Fn : FnD X.prog X.w X.K X.mg X.base k f fd ps sp) (hr : Room (k + 1) X.A) (hb : Binds X.K fd ps [])
    (hab : attributeBase o f' X.env (eval o X.env) = eval o X.env := by rfl) : DE X B (.Attribute o f' pos) (dProp C sp to) :=
  PE.weak (pe_prop he c hp Fn hr hb .nil (E := XW X.K B WN) (fun pins σ H s e s' I c => (hx0 (X := X.nox) (B := B)) pins σ H s e s' I c) hab) fun σ H Q ⟨F, G, δ, Qd, S, h, kk⟩ => ⟨F, G, δ, _, S, h, fun v H1 ⟨F1, G1, d, s1, S1, r1, h1⟩ => by
    cases q : insD d G1 with
    | none =>
      simp only [q] at h1
    | some cf =>
      obtain ⟨C', fs⟩ := cf
      simp only [q] at h1
      obtain ⟨rfl, h1⟩ := h1
      obtain ⟨a, dx, fv, rfl, e, gc, na, rf⟩ := ins_rep S1 r1 q
      exact ⟨a, dx, fv, rfl, e, low_of kk s1 S1 (.cons r1 .nil) h1⟩⟩
end
end JP

namespace JP
open PySem PySem.Spec PyProof.Rows L2

/-! ## operators and built-in calls, of trees -/
theorem tuple_mulW00 (l : Addr) (its : List Value) (n : Nat) (dd : Option Addr) (sl : Array (Option Value)) (u : Tok) (hne : its ≠ []) :
    Meets (Builtin.«tuple.__mul__» ⟨[.ref l, .int 0 u], []⟩) (fun _ R s => s.heap.get? l = some { cls := .type "tuple", dict := dd, data := .seq its.toArray n, slots := sl } ∧
      R (.ok (.ret (Value.ref s.heap.objs.size))) { s with heap := s.heap.push { cls := .type "tuple", data := .seq #[] }, toks := s.toks }) :=
  .of_wp fun prog w A R s h => by
    obtain ⟨hp, g, d, tk, os⟩ := s
    obtain ⟨hl, h⟩ := h
    have f1 := AutoSeq1.idx_int
    have e0 : its.toArray.isEmpty = false := by cases its with | nil => exact absurd rfl hne | cons _ _ => rfl
    have c1 : (its.toArray.isEmpty || (0 : Int) == 1) = false := by rw [e0]; rfl
    have c2 : (decide ((0 : Int) ≤ 0) || its.toArray.isEmpty) = true := by simp
    have c0 : (decide ((0 : Int) < -(2 ^ 63)) || decide ((0 : Int) ≥ 2 ^ 63)) = false := by decide
    wp_walk using AutoSeq1.wpAny_loadPart' hl
    repeat (first
      | (refine wpAny_ite_false (decide_eq_false (by rw [c0]; exact Bool.false_ne_true)) ?_; wp_walk using AutoSeq1.wpAny_loadPart' hl)
      | (refine wpAny_ite_false (decide_eq_false (by rw [c1]; exact Bool.false_ne_true)) ?_; wp_walk using AutoSeq1.wpAny_loadPart' hl)
      | (refine wpAny_ite_true (decide_eq_true c2) ?_; wp_walk using AutoSeq1.wpAny_loadPart' hl))
    all_goals first | exact ⟨_, rfl, h⟩ | skip
/-- t * 0 -/
def rRep0 : R2 := fun x y H Q => ∃ l xs, x = .ref l ∧ y = .int 0 ∧ H l = some (.tup xs) ∧ xs ≠ [] ∧ ∀ p, H p = none → Q (.ref p) (upd H p (.tup []))
theorem op_rep0 {X : Cx} : OpR X (binaryOp .Mult) rRep0 := by
  intro pins s σ H x y v u Q I rx ry h
  obtain ⟨l, xs, rfl, rfl, hT, hne, q⟩ := h
  cases rx
  obtain ⟨t, rfl⟩ := ry
  obtain ⟨its, r, ⟨⟨cls, dd, data, sl⟩, ho, hc, n, hd⟩, hs⟩ := I.tuple (SqT.of hT)
  simp only at hc hd
  subst hc hd
  have hi : its ≠ [] := fun z => hne (by
    have := r.length
    rw [z] at this
    exact List.length_eq_zero_iff.mp this)
  refine wpAny_binaryOp_repeat_ref (T := "tuple") (U := "int") (by decide) ⟨_, ho, rfl⟩ (fun s' => typeIs_int s' 0 t) noFill_tuple_mul F.fills_int_mul F.slot_int_rmul repeat_tuple F.slot_int_index.lookup
    (call_meets F.slot_int_rmul (typeIs_int s 0 t) F.entry_int_rmul (F.args_int_rmul_2 _ _) (int_rmul_tuple 0 t l its.toArray n dd sl)
      ⟨ho, rfl, ⟨_, ho, rfl⟩, call_meets F.slot_tuple_mul ⟨_, ho, rfl⟩ F.entry_tuple_mul (F.args_tuple_mul_2 _ _) (tuple_mulW00 l its n dd sl t hi) ⟨ho, ?_⟩⟩)
  refine ⟨.ref s.heap.objs.size, _, I.laid (o := .tup []) (t' := s.toks) (fun b o e => Heap.get?_push_of_some _ e) (Nat.le_refl _) ⟨Nat.zero_le _, [], .nil, ⟨_, Heap.get?_push_size _ rfl, rfl, 0, rfl⟩⟩, rfl, q _ (I.hok.fresh (Nat.le_refl _))⟩
section
variable {X : Cx} {B : Bs} {K : PySem.W.Frag} {a b : Expr} {ta tb : TED} {pos : Pos}
variable {σ : L2.St} {H F : Hp} {δ : SD} {G : Gm}
theorem rep_tup {v : V} {ds : List D} (r : Rep K F v (.tup ds)) : ∃ p xs, v = .ref p ∧ F p = some (.tup xs) ∧ RepAll K F xs ds := by
  cases r with
  | tup h r => exact ⟨_, _, rfl, h, r⟩
theorem rep_lst {v : V} {ds : List D} (r : Rep K F v (.lst ds)) : ∃ p xs, v = .ref p ∧ F p = some (.lst xs) ∧ RepAll K F xs ds := by
  cases r with
  | lst h r => exact ⟨_, _, rfl, h, r⟩
/-- got: a tuple that stands behind -/
theorem Beh.gotT {H' : Hp} {Qd : QD} {p : Addr} {xs : List V} {ds : List D} (S : Sit K B σ H F δ G) (s : Same H H') (h : H' p = some (.tup xs)) (r : RepAll K F xs ds) (q : Qd (.tup ds) G) : Beh K B σ F δ Qd (.ref p) H' :=
  have ⟨d1, s1⟩ := S.ds.got s h (by intro z; exact z)
  ⟨_, G, _, s1, ⟨d1, S.gr.trans s1, S.sl.mono s1⟩, .tup upd_same (r.mono s1), q⟩
theorem Beh.newL {Qd : QD} {p : Addr} {xs : List V} {ds : List D} (S : Sit K B σ H F δ G) (n : H p = none) (r : RepAll K F xs ds) (q : Qd (.lst ds) G) : Beh K B σ F δ Qd (.ref p) (upd H p (.lst xs)) :=
  .new S (.refl F) n (rep_lst_new (S.ds.noF n) r) q
theorem Beh.val {Qd : QD} {v : V} {d : D} (S : Sit K B σ H F δ G) (r : Rep K F v d) (q : Qd d G) : Beh K B σ F δ Qd v H := ⟨F, G, d, .refl F, S, r, q⟩
/-- + -/
def addD : R2D := fun a b G Q => match a, b with
  | .int i, .int j => Q (.int (i + j)) G
  | .int i, .bl k => Q (.int (i + b2i k)) G
  | .str x, .str y => x.length + y.length ≤ sizeLine ∧ Q (.str (x ++ y)) G
  | .lst xs, .lst ys => xs.length + ys.length ≤ sizeLine ∧ Q (.lst (xs ++ ys)) G
  | .tup xs, .tup ys => xs.length + ys.length ≤ sizeLine ∧ Q (.tup (xs ++ ys)) G
  | _, _ => False
theorem de_add (ha : DE X B a ta) (hb : DE X B b tb) : DE X B (.BinOp a .Add b pos) (dOp addD ta tb) :=
  de_op (op_add.or (op_add_ib.or (op_add_str.or (op_cat.or op_cat2)))) (fun B σ δ H F G x y a b Qd Q S r1 r2 h k => by
    unfold addD at h
    split at h
    · rw [rep_int r1, rep_int r2]
      exact .inl ⟨_, _, rfl, rfl, k _ _ (.val S (.int _) h)⟩
    · rw [rep_int r1, rep_bl r2]
      exact .inr (.inl ⟨_, _, rfl, rfl, k _ _ (.val S (.int _) h)⟩)
    · rw [rep_str r1, rep_str r2]
      exact .inr (.inr (.inl ⟨_, _, rfl, rfl, h.1, k _ _ (.val S (.str _) h.2)⟩))
    · obtain ⟨p, us, rfl, e1, q1⟩ := rep_lst r1
      obtain ⟨p2, us2, rfl, e2, q2⟩ := rep_lst r2
      exact .inr (.inr (.inr (.inl ⟨p, p2, us, us2, rfl, rfl, S.ds.sub _ _ e1, S.ds.sub _ _ e2, by rw [q1.length, q2.length]; exact h.1, fun l nl => k _ _ (.newL S nl (q1.append q2) h.2)⟩)))
    · obtain ⟨p, us, rfl, e1, q1⟩ := rep_tup r1
      obtain ⟨p2, us2, rfl, e2, q2⟩ := rep_tup r2
      exact .inr (.inr (.inr (.inr ⟨p, p2, us, us2, rfl, rfl, S.ds.sub _ _ e1, S.ds.sub _ _ e2, by rw [q1.length, q2.length]; exact h.1, fun l H' s e => k _ _ (.gotT S s e (q1.append q2) h.2)⟩)))
    · exact h.elim) ha hb
def subD : R2D := fun a b G Q => match a, b with | .int i, .int j => Q (.int (i - j)) G | _, _ => False
theorem de_sub (ha : DE X B a ta) (hb : DE X B b tb) : DE X B (.BinOp a .Sub b pos) (dOp subD ta tb) :=
  de_op op_sub (fun B σ δ H F G x y a b Qd Q S r1 r2 h k => by
    unfold subD at h
    split at h
    · rw [rep_int r1, rep_int r2]
      exact ⟨_, _, rfl, rfl, k _ _ (.val S (.int _) h)⟩
    · exact h.elim) ha hb
/-- *: within what is reckoned -/
def mulD : R2D := fun a b G Q => match a, b with
  | .int i, .int j => CMulW i j ∧ Q (.int (i * j)) G
  | .str x, .int n => MulOk x n ∧ Q (.str (Txt.mul x n)) G
  | .lst xs, .int n => (-(2 ^ 63) ≤ n ∧ n < 2 ^ 63 ∧ xs.length * n.toNat ≤ sizeLine) ∧ Q (.lst (List.replicate n.toNat xs).flatten) G
  | .tup xs, .int n => (xs ≠ [] ∧ 0 ≤ n ∧ n ≤ 1000 ∧ xs.length ≤ 1000) ∧ Q (.tup (List.replicate n.toNat xs).flatten) G
  | _, _ => False
theorem RepAll.rep {F : Hp} {vs : List V} {ds : List D} (r : RepAll K F vs ds) : ∀ n : Nat, RepAll K F (List.replicate n vs).flatten (List.replicate n ds).flatten
  | 0 => .nil
  | n + 1 => by
    rw [List.replicate_succ, List.replicate_succ, List.flatten_cons, List.flatten_cons]
    exact r.append (RepAll.rep r n)
theorem de_mul (ha : DE X B a ta) (hb : DE X B b tb) : DE X B (.BinOp a .Mult b pos) (dOp mulD ta tb) :=
  de_op (op_mulW.or (op_mulS.or (op_rep.or (op_rep2.or op_rep0)))) (fun B σ δ H F G x y a b Qd Q S r1 r2 h k => by
    unfold mulD at h
    split at h
    · rw [rep_int r1, rep_int r2]
      exact .inl ⟨_, _, rfl, rfl, h.1, k _ _ (.val S (.int _) h.2)⟩
    · rw [rep_str r1, rep_int r2]
      exact .inr (.inl ⟨_, _, rfl, rfl, h.1, k _ _ (.val S (.str _) h.2)⟩)
    · obtain ⟨p, us, rfl, e1, q1⟩ := rep_lst r1
      rw [rep_int r2]
      exact .inr (.inr (.inl ⟨p, _, us, rfl, rfl, S.ds.sub _ _ e1, h.1.1, h.1.2.1, by rw [q1.length]; exact h.1.2.2, fun l nl => k _ _ (.newL S nl (q1.rep _) h.2)⟩))
    · rename_i ds n
      obtain ⟨p, us, rfl, e1, q1⟩ := rep_tup r1
      rw [rep_int r2]
      have l := q1.length
      obtain ⟨⟨h1, h2, h3, h4⟩, hq⟩ := h
      have hne : us ≠ [] := fun z => h1 (by rw [z] at l; exact List.length_eq_zero_iff.mp l.symm)
      by_cases c : n = 0
      · subst c
        exact .inr (.inr (.inr (.inr ⟨p, us, rfl, rfl, S.ds.sub _ _ e1, hne, fun l nl => k _ _ (.gotT S (same_new nl) upd_same .nil hq)⟩)))
      · exact .inr (.inr (.inr (.inl ⟨p, n, us, rfl, rfl, S.ds.sub _ _ e1, hne, by omega, h3, by omega, fun l H' s e => k _ _ (.gotT S s e (q1.rep _) hq)⟩)))
    · exact h.elim) ha hb
def divD : R2D := fun a b G Q => match a, b with | .int i, .int j => CDivW i j ∧ Q (.int (i / j)) G | _, _ => False
theorem de_fdiv (ha : DE X B a ta) (hb : DE X B b tb) : DE X B (.BinOp a .FloorDiv b pos) (dOp divD ta tb) :=
  de_op op_fdivW (fun B σ δ H F G x y a b Qd Q S r1 r2 h k => by
    unfold divD at h
    split at h
    · rw [rep_int r1, rep_int r2]
      exact ⟨_, _, rfl, rfl, h.1, k _ _ (.val S (.int _) h.2)⟩
    · exact h.elim) ha hb
def modD : R2D := fun a b G Q => match a, b with | .int i, .int j => 0 < j ∧ Q (.int (i % j)) G | _, _ => False
theorem de_mod (ha : DE X B a ta) (hb : DE X B b tb) : DE X B (.BinOp a .Mod b pos) (dOp modD ta tb) :=
  de_op op_mod (fun B σ δ H F G x y a b Qd Q S r1 r2 h k => by
    unfold modD at h
    split at h
    · rw [rep_int r1, rep_int r2]
      exact ⟨_, _, rfl, rfl, h.1, k _ _ (.val S (.int _) h.2)⟩
    · exact h.elim) ha hb
def powD : R2D := fun a b G Q => match a, b with | .int i, .int j => CPow i j ∧ Q (.int (i ^ j.toNat)) G | _, _ => False
theorem de_pow (ha : DE X B a ta) (hb : DE X B b tb) : DE X B (.BinOp a .Pow b pos) (dOp powD ta tb) :=
  de_op op_pow (fun B σ δ H F G x y a b Qd Q S r1 r2 h k => by
    unfold powD at h
    split at h
    · rw [rep_int r1, rep_int r2]
      exact ⟨_, _, rfl, rfl, h.1, k _ _ (.val S (.int _) h.2)⟩
    · exact h.elim) ha hb
def negD : R1D := fun a G Q => match a with | .int i => Q (.int (-i)) G | _ => False
theorem de_neg (ha : DE X B a ta) : DE X B (.UnaryOp .USub a pos) (dUn negD ta) :=
  PE.weak (pe_un un_neg ha) fun σ H Q ⟨F, G, δ, Qd, S, h, k⟩ => ⟨F, G, δ, _, S, h, fun v H1 ⟨F1, G1, d, s1, S1, r1, h1⟩ => by
    cases d with
    | int i =>
      cases r1
      exact ⟨i, rfl, k _ _ ⟨F1, G1, _, s1, S1, .int _, h1⟩⟩
    | _ => exact h1.elim⟩
/-- comparisons of ints, of texts -/
def cmpD (p : Int → Int → Bool) : R2D := fun a b G Q => match a, b with | .int i, .int j => Q (.bl (p i j)) G | _, _ => False
theorem cmp_A {p : Int → Int → Bool} : OpA K (rI0 fun i j => .bl (p i j)) (cmpD p) := fun B σ δ H F G x y a b Qd Q S r1 r2 h k => by
  unfold cmpD at h
  split at h
  · rw [rep_int r1, rep_int r2]
    exact ⟨_, _, rfl, rfl, k _ _ (.val S (.bl _) h)⟩
  · exact h.elim
abbrev ltD : R2D := cmpD fun i j => decide (i < j)
abbrev leD : R2D := cmpD fun i j => decide (i ≤ j)
abbrev gtD : R2D := cmpD fun i j => decide (j < i)
abbrev geD : R2D := cmpD fun i j => decide (j ≤ i)
theorem lt_A : OpA K (rI0 fun i j => .bl (decide (i < j))) ltD := cmp_A
theorem le_A : OpA K (rI0 fun i j => .bl (decide (i ≤ j))) leD := cmp_A
theorem gt_A : OpA K (rI0 fun i j => .bl (decide (j < i))) gtD := cmp_A
theorem ge_A : OpA K (rI0 fun i j => .bl (decide (j ≤ i))) geD := cmp_A
def isNon : D → Bool
  | .non => true
  | _ => false
def isND : R2D := fun a b G Q => match b with | .non => Q (.bl (isNon a)) G | _ => False
def notND : R2D := fun a b G Q => match b with | .non => Q (.bl (!isNon a)) G | _ => False
theorem rep_isnon {F : Hp} {v : V} {d : D} (r : Rep K F v d) : decide (v = .non) = isNon d := by
  cases r <;> rfl
theorem isN_A : OpA K (fun x y H Q => y = .non ∧ Q (.bl (decide (x = .non))) H) isND := fun B σ δ H F G x y a b Qd Q S r1 r2 h k => by
  unfold isND at h
  split at h
  · refine ⟨rep_non r2, k _ _ (.val S (.bl _) ?_)⟩
    rw [rep_isnon r1]
    exact h
  · exact h.elim
theorem notN_A : OpA K (fun x y H Q => y = .non ∧ Q (.bl (!decide (x = .non))) H) notND := fun B σ δ H F G x y a b Qd Q S r1 r2 h k => by
  unfold notND at h
  split at h
  · refine ⟨rep_non r2, k _ _ (.val S (.bl _) ?_)⟩
    rw [rep_isnon r1]
    exact h
  · exact h.elim
/-! data that is compared by == as it stands -/
mutual
inductive DP : D → PyData → Prop
  | non : DP .non .none
  | bl (b : Bool) : DP (.bl b) (.bool b)
  | int (i : Int) : DP (.int i) (.int i)
  | str (x : Str) : DP (.str x) (.str x)
  | lst {ds : List D} {ps : List PyData} : DPs ds ps → DP (.lst ds) (.list ps)
  | tup {ds : List D} {ps : List PyData} : DPs ds ps → DP (.tup ds) (.tuple ps)
inductive DPs : List D → List PyData → Prop
  | nil : DPs [] []
  | cons {d : D} {ds : List D} {p : PyData} {ps : List PyData} : DP d p → DPs ds ps → DPs (d :: ds) (p :: ps)
end
mutual
theorem DP.rep (s : Same F H) : ∀ {d : D} {p : PyData} {v : V}, DP d p → Rep K F v d → Dp K H v p
  | _, _, _, .non, r => by cases r; exact .non
  | _, _, _, .bl b, r => by cases r; exact .bl b
  | _, _, _, .int i, r => by cases r; exact .int i
  | _, _, _, .str x, r => by cases r; exact .str x
  | _, _, _, .lst h, r => by
    cases r with
    | lst e q => exact .lst (.of (s _ _ e)) (DPs.rep s h q)
  | _, _, _, .tup h, r => by
    cases r with
    | tup e q => exact .tup (.of (s _ _ e)) (DPs.rep s h q)
theorem DPs.rep (s : Same F H) : ∀ {d : List D} {p : List PyData} {v : List V}, DPs d p → RepAll K F v d → DpAll K H v p
  | _, _, _, .nil, r => by cases r; exact .nil
  | _, _, _, .cons h t, r => by
    cases r with
    | cons r q => exact .cons (DP.rep s h r) (DPs.rep s t q)
end
theorem dps_ints : ∀ ns : List Int, DPs (ns.map D.int) (ns.map PyData.int)
  | [] => .nil
  | n :: ns => .cons (.int n) (dps_ints ns)
def eqD2 : R2D := fun a b G Q => ∃ p q, DP a p ∧ DP b q ∧ SeqAt.shaped p = true ∧ SeqAt.shaped q = true ∧ Q (.bl (PyData.eqv p q)) G
def neD2 : R2D := fun a b G Q => ∃ p q, DP a p ∧ DP b q ∧ SeqAt.shaped p = true ∧ SeqAt.shaped q = true ∧ Q (.bl (!PyData.eqv p q)) G
theorem eq_A : OpA K (rEqD K) eqD2 := fun B σ δ H F G x y a b Qd Q S r1 r2 ⟨p, q, hp, hq, s1, s2, h⟩ k => ⟨p, q, hp.rep S.ds.sub r1, hq.rep S.ds.sub r2, s1, s2, k _ _ (.val S (.bl _) h)⟩
theorem ne_A : OpA K (rNeD K) neD2 := fun B σ δ H F G x y a b Qd Q S r1 r2 ⟨p, q, hp, hq, s1, s2, h⟩ k => ⟨p, q, hp.rep S.ds.sub r1, hq.rep S.ds.sub r2, s1, s2, k _ _ (.val S (.bl _) h)⟩
/-- in a list or a tuple of plain things -/
inductive Fl : V → D → Prop
  | non : Fl .non .non | bl (b : Bool) : Fl (.bl b) (.bl b) | int (i : Int) : Fl (.int i) (.int i) | str (x : Str) : Fl (.str x) (.str x)
theorem Fl.rep {F : Hp} {v u : V} {d : D} (f : Fl v d) (r : Rep K F u d) : u = v ∧ flatV v = true := by
  cases f <;> cases r <;> exact ⟨rfl, rfl⟩
theorem fl_all {F : Hp} : ∀ {vs us : List V} {ds : List D}, Paired Fl vs ds → RepAll K F us ds → us = vs ∧ vs.all flatV = true
  | _, _, _, .nil, .nil => ⟨rfl, rfl⟩
  | _, _, _, .cons f t, .cons r q => by
    obtain ⟨e1, g1⟩ := f.rep r
    obtain ⟨e2, g2⟩ := fl_all t q
    exact ⟨by rw [e1, e2], by rw [List.all_cons, g1, g2]; rfl⟩
def seqD (d : D) (G : Gm) : Option (List D) := match d with
  | .lst ds => some ds
  | .tup ds => some ds
  | .adr a => match G a with | some (.lst ds) => some ds | _ => none
  | _ => none
theorem seq_rep {v : V} {d : D} {ds : List D} (S : Sit K B σ H F δ G) (r : Rep K F v d) (h : seqD d G = some ds) : ∃ p xs, v = .ref p ∧ (SqL K H p xs ∨ SqT K H p xs) ∧ RepAll K F xs ds := by
  cases d with
  | lst es =>
    cases h
    obtain ⟨p, xs, e, h1, h2⟩ := rep_lst r
    exact ⟨p, xs, e, .inl (.of (S.ds.sub _ _ h1)), h2⟩
  | tup es =>
    cases h
    obtain ⟨p, xs, e, h1, h2⟩ := rep_tup r
    exact ⟨p, xs, e, .inr (.of (S.ds.sub _ _ h1)), h2⟩
  | adr a =>
    cases r
    cases g : G a with
    | none => simp [seqD, g] at h
    | some mo =>
      cases mo with
      | lst es =>
        simp only [seqD, g, Option.some.injEq] at h
        subst h
        obtain ⟨xs, e, q⟩ := (S.ds.mu a _ g).2
        exact ⟨a, xs, rfl, .inl (.of e), q⟩
      | _ => simp [seqD, g] at h
  | _ => simp [seqD] at h
def inD (neg : Bool) : R2D := fun a b G Q => match seqD b G with | some ds => ∃ v vs, Fl v a ∧ Paired Fl vs ds ∧ Q (.bl (if neg then !inV v vs else inV v vs)) G | none => False
theorem in_A {neg : Bool} : OpA K (rIn K neg) (inD neg) := fun B σ δ H F G x y a b Qd Q S r1 r2 h k => by
  unfold inD at h
  split at h
  · rename_i ds e
    obtain ⟨v, vs, f1, f2, q⟩ := h
    obtain ⟨p, xs, rfl, hs, ra⟩ := seq_rep S r2 e
    obtain ⟨rfl, g1⟩ := f1.rep r1
    obtain ⟨rfl, g2⟩ := fl_all f2 ra
    exact ⟨p, xs, rfl, hs, g1, g2, k _ _ (.val S (.bl _) q)⟩
  · exact h.elim
/-- d[i] -/
def ixD : R2D := fun a b G Q => match b with
  | .int i => (match a with
    | .str z => z.length ≤ sizeLine ∧ (match atI z.cps.toList i with | some c => Q (.str ⟨#[c]⟩) G | none => False)
    | _ => match seqD a G with | some ds => (match atI ds i with | some d => Q d G | none => False) | none => False)
  | _ => False
theorem atI_rep {F : Hp} {xs : List V} {ds : List D} {i : Int} {d : D} (r : RepAll K F xs ds) (h : atI ds i = some d) : ∃ v, atI xs i = some v ∧ Rep K F v d := by
  unfold atI at h ⊢
  rw [r.length]
  cases e : ixN ds.length i with
  | none => rw [e] at h; cases h
  | some j =>
    rw [e] at h
    exact r.get h
theorem ix_A : OpA K (rIx K) ixD := fun B σ δ H F G x y a b Qd Q S r1 r2 h k => by
  cases b with
  | int i =>
    cases r2
    have main : ∀ {ds : List D} {d : D}, seqD a G = some ds → atI ds i = some d → Qd d G → rIx K x (.int i) H Q := fun {ds d} e1 e2 q => by
      obtain ⟨p, xs, rfl, hs, ra⟩ := seq_rep S r1 e1
      obtain ⟨v, ev, rv⟩ := atI_rep ra e2
      rcases hs with hs | hs
      · exact .inl ⟨p, xs, i, v, rfl, rfl, hs, ev, k _ _ (.val S rv q)⟩
      · exact .inr (.inl ⟨p, xs, i, v, rfl, rfl, hs, ev, k _ _ (.val S rv q)⟩)
    have tail : (match seqD a G with | some ds => (match atI ds i with | some d => Qd d G | none => False) | none => False) → rIx K x (.int i) H Q := fun h => by
      cases e : seqD a G with
      | none => simp only [e] at h
      | some ds =>
        simp only [e] at h
        cases e2 : atI ds i with
        | none => simp only [e2] at h
        | some d =>
          simp only [e2] at h
          exact main e e2 h
    cases a with
    | str z =>
      cases r1
      obtain ⟨h1, h2⟩ := h
      cases e : atI z.cps.toList i with
      | none => simp only [e] at h2
      | some c =>
        simp only [e] at h2
        exact .inr (.inr ⟨z, i, c, rfl, rfl, h1, e, k _ _ (.val S (.str _) h2)⟩)
    | _ => exact tail h
  | _ => exact h.elim
end
end JP

namespace JP
open PySem PySem.Spec PyProof.Rows L2
section
variable {X : Cx} {B : Bs} {K : PySem.W.Frag} {a b e : Expr} {es : List Expr} {ta tb te : TED} {t : TAD} {pos p : Pos}
variable {σ : L2.St} {H F : Hp} {δ : SD} {G : Gm} {W : WD}
/-! ### types -/
def kiD : D → Option Ki
  | .non => some .non | .bl _ => some .bl | .int _ => some .int | .str _ => some .str | .lst _ => some .lst | .tup _ => some .tup | .dic _ => some .dct | .dit _ => some .dct
  | _ => none
inductive TyD (K : PySem.W.Frag) (d : D) (G : Gm) : Value → Prop
  | ki {k : Ki} : kiD d = some k → TyD K d G (.type k.name)
  | ins {C : Addr} {fs : List (Str × D)} : insD d G = some (C, fs) → TyD K d G (.ref C)
theorem ki_ty {v : V} {d : D} {k : Ki} (S : Same F H) (r : Rep K F v d) (h : kiD d = some k) : TyX K H v (.type k.name) := by
  cases r with
  | dk q r =>
    cases h
    rcases q with q | ⟨o, q⟩
    · exact .base (.dK (S _ _ q))
    · exact .fDict (S _ _ q)
  | dt q r => cases h; exact .base (.dT (S _ _ q))
  | tup q r => cases h; exact .base (.tup (S _ _ q))
  | lst q r => cases h; exact .base (.lst (S _ _ q))
  | non => cases h; exact .base .non
  | bl b => cases h; exact .base (.bl b)
  | int b => cases h; exact .base (.int b)
  | str b => cases h; exact .base (.str b)
  | _ => cases h
theorem tyD_ty {v : V} {d : D} {t : Value} (S : Sit K B σ H F δ G) (r : Rep K F v d) (h : TyD K d G t) : TyX K H v t := by
  cases h with
  | ki h => exact ki_ty S.ds.sub r h
  | ins h =>
    obtain ⟨a, dx, fv, rfl, e, gc, _, _⟩ := ins_rep S r h
    exact .base (.ins e gc.cl gc.ca gc.sg gc.tk gc.mr)
theorem kit_any {K : PySem.W.Frag} (k : Ki) : ∀ ks : List Ki, PySem.W.kitAny K (.type k.name) (ks.map fun j => .type j.name) = some (ks.any k.below)
  | [] => rfl
  | j :: js => by
    have h1 := ki_kit (K := K) k j
    have h2 := kit_any (K := K) k js
    rw [List.map_cons, List.any_cons]
    show (match PySem.W.kitOne K (.type k.name) (.type j.name) with | some true => _ | some false => _ | none => _) = _
    rw [h1]
    cases k.below j with
    | true => rfl
    | false => exact h2
theorem mem_ty : ∀ j : Ki, j = .non ∨ j.name ∈ tyNames := by intro j; cases j <;> first | exact .inl rfl | (right; simp [Ki.name, tyNames])
/-- isinstance(x, T), T built-in -/
def isK (d : D) (G : Gm) (j : Ki) : Option Bool := match kiD d with
  | some k => some (k.below j)
  | none => match insD d G with | some _ => (if j = .non then none else some false) | none => none
def dIsK (j : Ki) (te : TED) : TED := fun δ G Q => te δ G fun d G1 => match isK d G1 j with | some b => Q (.bl b) G1 | none => False
theorem isK_ty {v : V} {d : D} {j : Ki} {b : Bool} (S : Sit K B σ H F δ G) (r : Rep K F v d) (h : isK d G j = some b) : ∃ t, TyX K H v t ∧ PySem.W.kitOne K t (.type j.name) = some b := by
  cases q : kiD d with
  | some k =>
    simp only [isK, q, Option.some.injEq] at h
    subst h
    exact ⟨_, ki_ty S.ds.sub r q, ki_kit k j⟩
  | none =>
    cases i : insD d G with
    | none => simp [isK, q, i] at h
    | some cf =>
      obtain ⟨C, fs⟩ := cf
      simp only [isK, q, i] at h
      split at h
      · cases h
      · rename_i nj
        cases h
        obtain ⟨a, dx, fv, rfl, e, gc, _, _⟩ := ins_rep S r i
        exact ⟨.ref C, .base (.ins e gc.cl gc.ca gc.sg gc.tk gc.mr), gc.kt _ ((mem_ty j).resolve_left nj)⟩
theorem de_isK {c : Expr} {j : Ki} (hg : Gl X "isinstance") (hm : X.mg "isinstance" = none) (hv : bootBuiltins "isinstance" = some (.builtin "isinstance")) (ha : DE X B e te) (hc : PE X c (tC (.ty j.name)))
    (h1 : starEach [e, c] X.env = (false, eval e X.env) :: starEach [c] X.env := by rfl) (h2 : starEach [c] X.env = (false, eval c X.env) :: starEach [] X.env := by rfl) (hpl : (backTo pos (starEach [c] X.env)).any (·.1) = false := by rfl) :
    DE X B (.Call (.Name "isinstance" p) [e, c] [] pos) (dIsK j te) :=
  PE.weak (pe_callB call_isi hg hm hv (pa_cons ha (pa_cons hc pa_nil h2) h1) (he := h1) (hpl := hpl)) fun σ H Q ⟨F, G, δ, Qd, S, h, k⟩ => ⟨F, G, δ, _, S, h, fun v H1 ⟨F1, G1, d, s1, S1, r1, h1⟩ => by
    cases q : isK d G1 j with
    | none => simp only [q] at h1
    | some b =>
      simp only [q] at h1
      obtain ⟨t, ty, kt⟩ := isK_ty S1 r1 q
      exact ⟨v, .ty _, t, _, b, rfl, .ty _, ty, kt, k _ _ ⟨F1, G1, _, s1, S1, .bl b, h1⟩⟩⟩
/-- isinstance(x, (T1, T2)) -/
def isKs (d : D) (G : Gm) (js : List Ki) : Option Bool := match kiD d with
  | some k => some (js.any k.below)
  | none => match insD d G with | some _ => (if js.all (fun j => decide (j ≠ .non)) = true then some false else none) | none => none
def dIsKs (js : List Ki) (te : TED) : TED := fun δ G Q => te δ G fun d G1 => match isKs d G1 js with | some b => Q (.bl b) G1 | none => False
theorem kit_anyC {C : Addr} (g : GoodC K C) : ∀ js : List Ki, (∀ j ∈ js, j ≠ .non) → PySem.W.kitAny K (.ref C) (js.map fun j => .type j.name) = some false
  | [], _ => rfl
  | j :: js, h => by
    have h1 := g.kt j.name ((mem_ty j).resolve_left (h j List.mem_cons_self))
    have h2 := kit_anyC g js fun i hi => h i (List.mem_cons_of_mem _ hi)
    rw [List.map_cons]
    show (match PySem.W.kitOne K (.ref C) (.type j.name) with | some true => _ | some false => _ | none => _) = _
    rw [h1]
    exact h2
def tyVs (js : List Ki) : TA := fun _ H Q => Q (js.map fun j => .ty j.name) H
theorem pa_tys_nil : PA X [] (tyVs []) := pa_nil
theorem pa_tys_cons {c : Expr} {j : Ki} {js : List Ki} (hc : PE X c (tC (.ty j.name))) (hr : PA X es (tyVs js)) (h1 : starEach (c :: es) X.env = (false, eval c X.env) :: starEach es X.env := by rfl) : PA X (c :: es) (tyVs (j :: js)) := pa_cons hc hr h1
theorem de_isKs {es : List Expr} {x1} {tp : Pos} {js : List Ki} (hg : Gl X "isinstance") (hm : X.mg "isinstance" = none) (hv : bootBuiltins "isinstance" = some (.builtin "isinstance")) (ha : DE X B e te) (hc : PA X es (tyVs js)) (hl : js.length ≤ sizeLine)
    (h1 : starEach [e, .Tuple es x1 tp] X.env = (false, eval e X.env) :: starEach [.Tuple es x1 tp] X.env := by rfl) (h2 : starEach [.Tuple es x1 tp] X.env = (false, eval (.Tuple es x1 tp) X.env) :: starEach [] X.env := by rfl) (hpl : (backTo pos (starEach [.Tuple es x1 tp] X.env)).any (·.1) = false := by rfl) :
    DE X B (.Call (.Name "isinstance" p) [e, .Tuple es x1 tp] [] pos) (dIsKs js te) :=
  PE.weak (pe_callB call_isiT hg hm hv (pa_cons ha (pa_cons (pe_tup hc) pa_nil h2) h1) (he := h1) (hpl := hpl)) fun σ H Q ⟨F, G, δ, Qd, S, h, k⟩ => ⟨F, G, δ, _, S, h, fun v H1 ⟨F1, G1, d, s1, S1, r1, h1⟩ => by
    refine ⟨by rw [List.length_map]; exact hl, fun tp ntp => ?_⟩
    have s2 := same_new (o := .tup (js.map fun j => V.ty j.name)) ntp
    have S2 := S1.same s2
    have pair : ∀ js : List Ki, Paired ClsV (js.map fun j => V.ty j.name) (js.map fun j => .type j.name) := fun js => by
      induction js with
      | nil => exact .nil
      | cons j js ih => exact .cons (.ty _) ih
    cases q : kiD d with
    | some kk =>
      simp only [isKs, q] at h1
      exact ⟨v, tp, _, _, _, _, rfl, upd_same, pair js, ki_ty S2.ds.sub r1 q, kit_any kk js, k _ _ ⟨F1, G1, _, s1, S2, .bl _, h1⟩⟩
    | none =>
      cases i : insD d G1 with
      | none => simp only [isKs, q, i] at h1
      | some cf =>
        obtain ⟨C, fs⟩ := cf
        by_cases hn : js.all (fun j => decide (j ≠ .non)) = true
        · simp only [isKs, q, i, if_pos hn] at h1
          obtain ⟨a, dx, fv, rfl, e, gc, _, _⟩ := ins_rep S2 r1 i
          exact ⟨_, tp, _, _, _, _, rfl, upd_same, pair js, .base (.ins e gc.cl gc.ca gc.sg gc.tk gc.mr), kit_anyC gc js (fun j hj => of_decide_eq_true (List.all_eq_true.mp hn j hj)), k _ _ ⟨F1, G1, _, s1, S2, .bl _, h1⟩⟩
        · simp only [isKs, q, i, if_neg hn] at h1⟩
/-- isinstance(x, C), C an own class -/
def dIsC (K : PySem.W.Frag) (C : Addr) (te : TED) : TED := fun δ G Q => te δ G fun d G1 => ∃ t b, TyD K d G1 t ∧ PySem.W.kitOne K t (.ref C) = some b ∧ Q (.bl b) G1
theorem de_isC {c : Expr} {C : Addr} (hg : Gl X "isinstance") (hm : X.mg "isinstance" = none) (hv : bootBuiltins "isinstance" = some (.builtin "isinstance")) (ha : DE X B e te) (hc : PE X c (tC (.ref C)))
    (h1 : starEach [e, c] X.env = (false, eval e X.env) :: starEach [c] X.env := by rfl) (h2 : starEach [c] X.env = (false, eval c X.env) :: starEach [] X.env := by rfl) (hpl : (backTo pos (starEach [c] X.env)).any (·.1) = false := by rfl) :
    DE X B (.Call (.Name "isinstance" p) [e, c] [] pos) (dIsC X.K C te) :=
  PE.weak (pe_callB call_isi hg hm hv (pa_cons ha (pa_cons hc pa_nil h2) h1) (he := h1) (hpl := hpl)) fun σ H Q ⟨F, G, δ, Qd, S, h, k⟩ => ⟨F, G, δ, _, S, h, fun v H1 ⟨F1, G1, d, s1, S1, r1, t, b, ty, kt, h1⟩ =>
    ⟨v, .ref C, t, _, b, rfl, .own C, tyD_ty S1 r1 ty, kt, k _ _ ⟨F1, G1, _, s1, S1, .bl b, h1⟩⟩⟩
/-- isinstance(e, C), e a caught exception -/
def dIsX (K : PySem.W.Frag) (C : Addr) (te : TED) : TED := fun δ G Q => te δ G fun d G1 => match d with | .exc A _ => ∃ b, PySem.W.kitOne K (.ref A) (.ref C) = some b ∧ Q (.bl b) G1 | _ => False
theorem de_isX {c : Expr} {C : Addr} (hg : Gl X "isinstance") (hm : X.mg "isinstance" = none) (hv : bootBuiltins "isinstance" = some (.builtin "isinstance")) (ha : DE X B e te) (hc : PE X c (tC (.ref C)))
    (h1 : starEach [e, c] X.env = (false, eval e X.env) :: starEach [c] X.env := by rfl) (h2 : starEach [c] X.env = (false, eval c X.env) :: starEach [] X.env := by rfl) (hpl : (backTo pos (starEach [c] X.env)).any (·.1) = false := by rfl) :
    DE X B (.Call (.Name "isinstance" p) [e, c] [] pos) (dIsX X.K C te) :=
  PE.weak (pe_callB call_isX hg hm hv (pa_cons ha (pa_cons hc pa_nil h2) h1) (he := h1) (hpl := hpl)) fun σ H Q ⟨F, G, δ, Qd, S, h, k⟩ => ⟨F, G, δ, _, S, h, fun v H1 ⟨F1, G1, d, s1, S1, r1, h1⟩ => by
    cases d with
    | exc A fs =>
      obtain ⟨b, kt, h1⟩ := h1
      cases r1 with
      | exc hx g rf => exact ⟨_, A, _, .ref C, _, b, rfl, .own C, g, hx.same S1.ds.sub, kt, k _ _ ⟨F1, G1, _, s1, S1, .bl b, h1⟩⟩
    | _ => exact h1.elim⟩
/-- e.f, e a caught exception -/
def dXa (K : PySem.W.Frag) (f : Str) (te : TED) : TED := fun δ G Q => te δ G fun d G1 => match d with | .exc C fs => XfC K C ∧ PySem.W.findIn K (.ref C) f = some none ∧ (match fs.lookup f with | some y => Q y G1 | none => False) | _ => False
theorem de_xa {n : Str} (he : DE X B e te) (hb : attributeBase e n X.env (eval e X.env) = eval e X.env := by rfl) : DE X B (.Attribute e n pos) (dXa X.K n te) :=
  PE.weak (pe_xa he hb) fun σ H Q ⟨F, G, δ, Qd, S, h, k⟩ => ⟨F, G, δ, _, S, h, fun v H1 ⟨F1, G1, d, s1, S1, r1, h1⟩ => by
    cases d with
    | exc C fs =>
      obtain ⟨xf, no, h1⟩ := h1
      cases l : fs.lookup n with
      | none => simp only [l] at h1
      | some y =>
        simp only [l] at h1
        cases r1 with
        | exc hx g rf =>
          obtain ⟨u, lu, ru⟩ := rf.look l
          exact ⟨_, C, _, u, rfl, xf, no, hx.same S1.ds.sub, lu, k _ _ ⟨F1, G1, _, s1, S1, ru, h1⟩⟩
    | _ => exact h1.elim⟩

/-! ### built-in calls -/
def CallA (K : PySem.W.Frag) (rv : List V → Hp → VK → Prop) (r : List D → Gm → QD → Prop) : Prop := ∀ (B : Bs) (σ : L2.St) (δ : SD) (H F : Hp) (G : Gm) (xs : List V) (ds : List D) (Qd : QD) (Q : VK), Sit K B σ H F δ G → RepAll K F xs ds → r ds G Qd → (∀ v H', Beh K B σ F δ Qd v H' → Q v H') → rv xs H Q
def dCB (r : List D → Gm → QD → Prop) (t : TAD) : TED := fun δ G Q => t δ G fun ds G1 => r ds G1 Q
theorem cb_adeq {rv : List V → Hp → VK → Prop} {r : List D → Gm → QD → Prop} (hA : CallA K rv r) {Q : VK} (h : up K B (dCB r t) σ H Q) : tCB rv (upA K B t) σ H Q := by
  obtain ⟨F, G, δ, Qd, S, h, k⟩ := h
  exact ⟨F, G, δ, _, S, h, fun vs H1 ⟨F1, G1, ds, s1, S1, r1, h1⟩ => hA B σ δ H1 F1 G1 vs ds Qd Q S1 r1 h1 fun v H' ⟨F', G', d, s', S', r', q'⟩ => k v H' ⟨F', G', d, s1.trans s', S', r', q'⟩⟩
theorem de_callB {id : String} {x : Str} {rv : List V → Hp → VK → Prop} {r : List D → Gm → QD → Prop} (hc : CallR X (.builtin id) rv) (hA : CallA X.K rv r) (hg : Gl X x) (hm : X.mg x = none) (hv : bootBuiltins x = some (.builtin id)) (ha : DA X B (e :: es) t) (hn : x ≠ "__name__" := by decide) (hdb : (x == ("__debug__" : Str)) = false := by decide)
    (he : starEach (e :: es) X.env = (false, eval e X.env) :: starEach es X.env := by rfl) (hpl : (backTo pos (starEach es X.env)).any (·.1) = false := by rfl) : DE X B (.Call (.Name x p) (e :: es) [] pos) (dCB r t) :=
  PE.weak (pe_callB hc hg hm hv ha (hn := hn) (hdb := hdb) (he := he) (hpl := hpl)) fun σ H Q h => cb_adeq hA h
theorem de_callTy {T : String} {x : Str} {rv : List V → Hp → VK → Prop} {r : List D → Gm → QD → Prop} (hc : CallR X (.type T) rv) (hA : CallA X.K rv r) (hg : Gl X x) (hm : X.mg x = none) (hv : bootBuiltins x = some (.type T)) (ha : DA X B (e :: es) t) (hn : x ≠ "__name__" := by decide) (hdb : (x == ("__debug__" : Str)) = false := by decide)
    (he : starEach (e :: es) X.env = (false, eval e X.env) :: starEach es X.env := by rfl) (hpl : (backTo pos (starEach es X.env)).any (·.1) = false := by rfl) : DE X B (.Call (.Name x p) (e :: es) [] pos) (dCB r t) :=
  PE.weak (pe_callTy hc hg hm hv ha (hn := hn) (hdb := hdb) (he := he) (hpl := hpl)) fun σ H Q h => cb_adeq hA h
theorem repAll1 {vs : List V} {d : D} (r : RepAll K F vs [d]) : ∃ v, vs = [v] ∧ Rep K F v d := by
  cases r with
  | cons h t => cases t; exact ⟨_, rfl, h⟩
theorem repAll2 {vs : List V} {d d' : D} (r : RepAll K F vs [d, d']) : ∃ v u, vs = [v, u] ∧ Rep K F v d ∧ Rep K F u d' := by
  cases r with
  | cons h t =>
    obtain ⟨u, rfl, h2⟩ := repAll1 t
    exact ⟨_, u, rfl, h, h2⟩
abbrev LD := List D → Gm → QD → Prop
/-- len -/
def lenD : LD := fun ds G Q => match ds with
  | [.str z] => z.length ≤ sizeLine ∧ Q (.int z.length) G
  | [d] => (match seqD d G with | some es => Q (.int es.length) G | none => False)
  | _ => False
abbrev rLen2 (K : PySem.W.Frag) : List V → Hp → VK → Prop := fun xs H Q => (∃ p ys, xs = [.ref p] ∧ (SqL K H p ys ∨ SqT K H p ys) ∧ Q (.int ys.length) H) ∨ (∃ z, xs = [.str z] ∧ z.length ≤ sizeLine ∧ Q (.int z.length) H)
theorem call_len2 : CallR X (.builtin "len") (rLen2 X.K) := call_len_seq.or call_len_str
theorem len_A : CallA K (rLen2 K) lenD := fun B σ δ H F G xs ds Qd Q S r h k => by
  have main : ∀ {d : D}, ds = [d] → (match seqD d G with | some es => Qd (.int es.length) G | none => False) → rLen2 K xs H Q := fun {d} ed hh => by
    subst ed
    obtain ⟨v, rfl, rv⟩ := repAll1 r
    cases e : seqD d G with
    | none =>
      rw [e] at hh
      exact hh.elim
    | some es =>
      rw [e] at hh
      obtain ⟨p, xs, rfl, hs, ra⟩ := seq_rep S rv e
      exact .inl ⟨p, xs, rfl, hs, k _ _ (.val S (.int _) (by rw [ra.length]; exact hh))⟩
  unfold lenD at h
  split at h
  · obtain ⟨v, rfl, rv⟩ := repAll1 r
    rw [rep_str rv]
    exact .inr ⟨_, rfl, h.1, k _ _ (.val S (.int _) h.2)⟩
  · exact main rfl h
  · exact h.elim
/-- sum, all, any of a list that was made -/
def sumD : LD := fun ds G Q => ∃ ns : List Int, ds = [.lst (ns.map .int)] ∧ Q (.int ns.sum) G
theorem rep_ints {xs : List V} : ∀ {ns : List Int}, RepAll K F xs (ns.map .int) → xs = ns.map V.int := by
  intro ns
  induction ns generalizing xs with
  | nil => intro r; cases r; rfl
  | cons n ns ih => intro r; cases r with | cons h t => cases h; rw [ih t]; rfl
theorem rep_bls {xs : List V} : ∀ {ns : List Bool}, RepAll K F xs (ns.map .bl) → xs = ns.map V.bl := by
  intro ns
  induction ns generalizing xs with
  | nil => intro r; cases r; rfl
  | cons n ns ih => intro r; cases r with | cons h t => cases h; rw [ih t]; rfl
theorem sum_A : CallA K (rSum K) sumD := fun B σ δ H F G xs ds Qd Q S r ⟨ns, e, h⟩ k => by
  subst e
  obtain ⟨v, rfl, rv⟩ := repAll1 r
  obtain ⟨p, us, rfl, e1, q1⟩ := rep_lst rv
  exact ⟨p, ns, rfl, .of (by rw [← rep_ints q1]; exact S.ds.sub _ _ e1), k _ _ (.val S (.int _) h)⟩
def allD : LD := fun ds G Q => ∃ bs : List Bool, ds = [.lst (bs.map .bl)] ∧ Q (.bl (bs.all id)) G
def anyD : LD := fun ds G Q => ∃ bs : List Bool, ds = [.lst (bs.map .bl)] ∧ Q (.bl (bs.any id)) G
theorem all_A : CallA K (rAll K) allD := fun B σ δ H F G xs ds Qd Q S r ⟨ns, e, h⟩ k => by
  subst e
  obtain ⟨v, rfl, rv⟩ := repAll1 r
  obtain ⟨p, us, rfl, e1, q1⟩ := rep_lst rv
  exact ⟨p, ns, rfl, .of (by rw [← rep_bls q1]; exact S.ds.sub _ _ e1), k _ _ (.val S (.bl _) h)⟩
theorem any_A : CallA K (rAny K) anyD := fun B σ δ H F G xs ds Qd Q S r ⟨ns, e, h⟩ k => by
  subst e
  obtain ⟨v, rfl, rv⟩ := repAll1 r
  obtain ⟨p, us, rfl, e1, q1⟩ := rep_lst rv
  exact ⟨p, ns, rfl, .of (by rw [← rep_bls q1]; exact S.ds.sub _ _ e1), k _ _ (.val S (.bl _) h)⟩
def absD : LD := fun ds G Q => match ds with | [.int i] => Q (.int (if i < 0 then -i else i)) G | _ => False
theorem abs_A : CallA K (fun xs H Q => ∃ i, xs = [.int i] ∧ Q (.int (if i < 0 then -i else i)) H) absD := fun B σ δ H F G xs ds Qd Q S r h k => by
  unfold absD at h
  split at h
  · obtain ⟨v, rfl, rv⟩ := repAll1 r
    rw [rep_int rv]
    exact ⟨_, rfl, k _ _ (.val S (.int _) h)⟩
  · exact h.elim
def intD : LD := fun ds G Q => match ds with | [.int i] => Q (.int i) G | [.bl c] => Q (.int (if c then 1 else 0)) G | _ => False
theorem int_A : CallA K (fun xs H Q => (∃ i, xs = [.int i] ∧ Q (.int i) H) ∨ ∃ k, xs = [.bl k] ∧ Q (.int (if k then 1 else 0)) H) intD := fun B σ δ H F G xs ds Qd Q S r h k => by
  unfold intD at h
  split at h
  · obtain ⟨v, rfl, rv⟩ := repAll1 r
    rw [rep_int rv]
    exact .inl ⟨_, rfl, k _ _ (.val S (.int _) h)⟩
  · obtain ⟨v, rfl, rv⟩ := repAll1 r
    rw [rep_bl rv]
    exact .inr ⟨_, rfl, k _ _ (.val S (.int _) h)⟩
  · exact h.elim
/-- repr of data -/
def reprD : LD := fun ds G Q => ∃ d p, ds = [d] ∧ DP d p ∧ p.showable = true ∧ p.hasDict = false ∧ p.depth ≤ 60 ∧ p.shown.length ≤ sizeLine ∧ Q (.str p.shown) G
theorem repr_A : CallA K (rRepr K) reprD := fun B σ δ H F G xs ds Qd Q S r ⟨d, p, e, hp, h1, h2, h3, h4, h⟩ k => by
  subst e
  obtain ⟨v, rfl, rv⟩ := repAll1 r
  exact ⟨v, p, rfl, hp.rep S.ds.sub rv, h1, h2, h3, h4, k _ _ (.val S (.str _) h)⟩
/-- tuple(..), list(..) -/
def tupD : LD := fun ds G Q => match ds with | [.lst es] => Q (.tup es) G | [.tup es] => Q (.tup es) G | _ => False
theorem tup_A : CallA K (fun xs H Q => ∃ p ys, xs = [.ref p] ∧ ((SqL K H p ys ∧ ∀ l, H l = none → Q (.ref l) (upd H l (.tup ys))) ∨ (SqT K H p ys ∧ Q (.ref p) H))) tupD := fun B σ δ H F G xs ds Qd Q S r h k => by
  unfold tupD at h
  split at h
  · obtain ⟨v, rfl, rv⟩ := repAll1 r
    obtain ⟨p, us, rfl, e1, q1⟩ := rep_lst rv
    exact ⟨p, us, rfl, .inl ⟨.of (S.ds.sub _ _ e1), fun l nl => k _ _ (.gotT S (same_new nl) upd_same q1 h)⟩⟩
  · obtain ⟨v, rfl, rv⟩ := repAll1 r
    obtain ⟨p, us, rfl, e1, q1⟩ := rep_tup rv
    exact ⟨p, us, rfl, .inr ⟨.of (S.ds.sub _ _ e1), k _ _ (.val S (.tup e1 q1) h)⟩⟩
  · exact h.elim
def lstD : LD := fun ds G Q => match ds with | [d] => (match seqD d G with | some es => Q (.lst es) G | none => False) | _ => False
theorem lst_A : CallA K (fun xs H Q => ∃ p ys, xs = [.ref p] ∧ (SqL K H p ys ∨ SqT K H p ys) ∧ ∀ l, H l = none → Q (.ref l) (upd H l (.lst ys))) lstD := fun B σ δ H F G xs ds Qd Q S r h k => by
  unfold lstD at h
  split at h
  · rename_i d
    obtain ⟨v, rfl, rv⟩ := repAll1 r
    cases e : seqD d G with
    | none => simp only [e] at h
    | some es =>
      simp only [e] at h
      obtain ⟨p, xs, rfl, hs, ra⟩ := seq_rep S rv e
      exact ⟨p, xs, rfl, hs, fun l nl => k _ _ (.newL S nl ra h)⟩
  · exact h.elim

/-! ### slices -/
abbrev TOD := SD → Gm → (Option Int → Gm → Prop) → Prop
def upO (K : PySem.W.Frag) (B : Bs) (T : TOD) : TO := fun σ H Q => ∃ F G δ Qd, Sit K B σ H F δ G ∧ T δ G Qd ∧ ∀ o H', (∃ F' G', Same F F' ∧ Sit K B σ H' F' δ G' ∧ Qd o G') → Q o H'
def DO (X : Cx) (B : Bs) (e : Option Expr) (T : TOD) : Prop := PO X e (upO X.K B T)
def oNone : TOD := fun _ G Q => Q none G
def oSome (te : TED) : TOD := fun δ G Q => te δ G fun d G1 => match d with | .int i => Q (some i) G1 | _ => False
theorem do_none : DO X B none oNone := ⟨fun pins s σ H Q I ⟨F, G, δ, Qd, S, h, k⟩ => po_none.run pins s σ H Q I (k none H ⟨F, G, .refl F, S, h⟩)⟩
theorem do_some (h : DE X B e te) : DO X B (some e) (oSome te) := ⟨fun pins s σ H Q I ⟨F, G, δ, Qd, S, q, k⟩ => (po_some h).run pins s σ H Q I ⟨F, G, δ, _, S, q, fun v H1 ⟨F1, G1, d, s1, S1, r1, h1⟩ => by
    cases d with
    | int i =>
      cases r1
      exact ⟨i, rfl, k _ _ ⟨F1, G1, s1, S1, h1⟩⟩
    | _ => exact h1.elim⟩⟩
def cutD {α : Type} (xs : List α) (lo hi : Option Int) : List α := (xs.drop (HT.sIx xs.length 0 lo)).take (HT.sIx xs.length xs.length hi - HT.sIx xs.length 0 lo)
/-- a list, changeable or not -/
def lsD (d : D) (G : Gm) : Option (List D) := match d with
  | .lst ds => some ds
  | .adr a => match G a with | some (.lst ds) => some ds | _ => none
  | _ => none
theorem ls_rep {v : V} {d : D} {ds : List D} (S : Sit K B σ H F δ G) (r : Rep K F v d) (h : lsD d G = some ds) : ∃ p xs, v = .ref p ∧ H p = some (.lst xs) ∧ RepAll K F xs ds := by
  cases d with
  | lst es =>
    cases h
    obtain ⟨p, xs, e, h1, h2⟩ := rep_lst r
    exact ⟨p, xs, e, S.ds.sub _ _ h1, h2⟩
  | adr a =>
    cases r
    cases g : G a with
    | none => simp [lsD, g] at h
    | some mo =>
      cases mo with
      | lst es =>
        simp only [lsD, g, Option.some.injEq] at h
        subst h
        obtain ⟨xs, e, q⟩ := (S.ds.mu a _ g).2
        exact ⟨a, xs, rfl, e, q⟩
      | _ => simp [lsD, g] at h
  | _ => simp [lsD] at h
def slD (d : D) (G : Gm) (lo hi : Option Int) (Q : QD) : Prop := match d with
  | .tup ds => Q (.tup (cutD ds lo hi)) G
  | .scr ns => Q (.lst ((cutD ns lo hi).map .int)) G
  | _ => match lsD d G with | some ds => Q (.lst (cutD ds lo hi)) G | none => False
def dSl (te : TED) (tl th : TOD) : TED := fun δ G Q => te δ G fun d G1 => tl δ G1 fun lo G2 => th δ G2 fun hi G3 => slD d G3 lo hi Q
theorem cut_rep {xs : List V} {ds : List D} (r : RepAll K F xs ds) (lo hi : Option Int) : RepAll K F (cutV xs lo hi) (cutD ds lo hi) := by
  unfold cutV cutD
  rw [r.length]
  exact (r.drop _).take _
theorem cut_map {α β : Type} (f : α → β) (xs : List α) (lo hi : Option Int) : cutD (xs.map f) lo hi = (cutD xs lo hi).map f := by
  unfold cutD
  rw [List.length_map, List.map_take, List.map_drop]
theorem de_sl {lo hi : Option Expr} {tl th : TOD} {p2 : Pos} (he : DE X B e te) (hl : DO X B lo tl) (hu : DO X B hi th) : DE X B (.Subscript e (.Slice lo hi none p2) pos) (dSl te tl th) :=
  PE.weak (pe_slice (sl_list.or sl_tup2) he hl hu) fun σ H Q ⟨F, G, δ, Qd, S, h, k⟩ => ⟨F, G, δ, _, S, h, fun v H1 ⟨F1, G1, d, s1, S1, r1, h1⟩ => ⟨F1, G1, δ, _, S1, h1, fun l H2 ⟨F2, G2, s2, S2, h2⟩ => ⟨F2, G2, δ, _, S2, h2, fun u H3 ⟨F3, G3, s3, S3, h3⟩ => by
    have r3 := (r1.mono s2).mono s3
    have kk : ∀ v H', Beh X.K B σ F3 δ Qd v H' → Q v H' := fun v H' ⟨F', G', d, s', S', r', q'⟩ => k v H' ⟨F', G', d, ((s1.trans s2).trans s3).trans s', S', r', q'⟩
    have main : (match lsD d G3 with | some ds => Qd (.lst (cutD ds l u)) G3 | none => False) → (rSlL X.K v l u H3 Q ∨ rSl2 v l u H3 Q) := fun h3 => by
      cases e : lsD d G3 with
      | none =>
        rw [e] at h3
        exact h3.elim
      | some ds =>
        rw [e] at h3
        obtain ⟨p, xs, rfl, hs, ra⟩ := ls_rep S3 r3 e
        exact .inl ⟨p, xs, rfl, .of hs, fun q nq => kk _ _ (.newL S3 nq (cut_rep ra l u) h3)⟩
    cases d with
    | tup ds =>
      obtain ⟨p, us, rfl, e1, q1⟩ := rep_tup r3
      exact .inr ⟨p, us, rfl, S3.ds.sub _ _ e1, fun q H' s e => kk _ _ (.gotT S3 s e (cut_rep q1 l u) h3)⟩
    | scr ns =>
      cases r3 with
      | scr hs => exact .inl ⟨_, _, rfl, same_seqL' S3.ds.sub hs, fun q nq => kk _ _ (.newL S3 nq (by rw [show cutV (ns.map V.int) l u = (cutD ns l u).map V.int from cut_map V.int ns l u]; exact repAll_ints _) h3)⟩
    | _ => exact main h3⟩⟩⟩
end
end JP

namespace JP
open PySem PySem.Spec PyProof.Rows L2
section
variable {X : Cx} {B : Bs} {K : PySem.W.Frag} {a b e o : Expr} {es : List Expr} {ta tb te to : TED} {t : TAD} {pos p apos : Pos}
variable {σ : L2.St} {H F : Hp} {δ : SD} {G : Gm} {W : WD}
/-! ### xs.append(e) -/
def lsM (d : D) (G : Gm) : Option (Addr × List D) := match d with
  | .adr a => match G a with | some (.lst ds) => some (a, ds) | _ => none
  | _ => none
theorem lsM_rep {v : V} {d : D} {a : Addr} {ds : List D} (S : Sit K B σ H F δ G) (r : Rep K F v d) (h : lsM d G = some (a, ds)) : d = .adr a ∧ v = .ref a ∧ G a = some (.lst ds) ∧ ∃ xs, H a = some (.lst xs) ∧ RepAll K F xs ds := by
  cases d with
  | adr a' =>
    cases r
    cases g : G a' with
    | none => simp [lsM, g] at h
    | some mo =>
      cases mo with
      | lst es =>
        simp only [lsM, g, Option.some.injEq, Prod.mk.injEq] at h
        obtain ⟨rfl, rfl⟩ := h
        obtain ⟨xs, e, q⟩ := (S.ds.mu _ _ g).2
        exact ⟨rfl, rfl, g, xs, e, q⟩
      | _ => simp [lsM, g] at h
  | _ => simp [lsM] at h
def dApp (to te : TED) : TED := fun δ G Q => to δ G fun d G1 => match lsM d G1 with
  | some _ => te δ G1 fun y G2 => (match lsM d G2 with | some (a, ds) => ds.length < sizeLine ∧ Q .non (updG G2 a (.lst (ds ++ [y]))) | none => False)
  | none => False
theorem de_append (ho : DE X B o to) (he : DE X B e te)
    (hbase : attributeBase o (Str.ofString "append") X.env (eval o X.env) = eval o X.env := by rfl)
    (hfew : ((backTo pos (starEach (e :: []) X.env)).all (fun x => !x.1) && (backToKw pos (keywordEach [] X.env)).all (fun x => x.1.isSome)
      && decide ((e :: ([] : List Expr)).length + ([] : List Keyword).length + (if ([] : List Keyword).isEmpty then 0 else 1) < 30)) = true := by rfl)
    (hline : (apos.endLine == pos.line) = true := by rfl) (hs : starEach (e :: []) X.env = (false, eval e X.env) :: starEach [] X.env := by rfl) (hplain : (backTo pos (starEach [] X.env)).any (·.1) = false := by rfl) :
    DE X B (.Call (.Attribute o (Str.ofString "append") apos) [e] [] pos) (dApp to te) :=
  PE.weak (pe_bm PySem.F.plainAttrs_list PySem.F.slot_list_append PySem.F.type_list_append mt_append ho (pa_cons he pa_nil hs) (hbase := hbase) (hfew := hfew) (hline := hline) (hs := hs) (hplain := hplain)) fun σ H Q ⟨F, G, δ, Qd, S, h, k⟩ => ⟨F, G, δ, _, S, h, fun v H1 ⟨F1, G1, d, s1, S1, r1, h1⟩ => by
    cases q : lsM d G1 with
    | none => simp only [q] at h1
    | some ad =>
      obtain ⟨a, ds⟩ := ad
      simp only [q] at h1
      obtain ⟨rfl, rfl, g, xs, e1, ra⟩ := lsM_rep S1 r1 q
      refine ⟨.inl ⟨rfl, xs, .of e1⟩, F1, G1, δ, _, S1, h1, fun y H2 ⟨F2, G2, dy, s2, S2, r2, h2⟩ => ?_⟩
      cases q2 : lsM (.adr a) G2 with
      | none => simp only [q2] at h2
      | some ad2 =>
        obtain ⟨a2, ds2⟩ := ad2
        simp only [q2] at h2
        obtain ⟨e3, e4, g2, xs2, e5, ra2⟩ := lsM_rep S2 (.adr a) q2
        cases e4
        refine ⟨a, xs2, y, rfl, rfl, e5, by rw [ra2.length]; exact h2.1, k _ _ ⟨F2, _, .non, s1.trans s2, ⟨S2.ds.write (m' := .lst (ds2 ++ [dy])) g2 ⟨_, upd_same, ra2.append (.cons r2 .nil)⟩, S2.gr, S2.sl⟩, .non, h2.2⟩⟩⟩

/-! ### raise -/
def dRaise (W : WD) (C : Addr) (fs : List Str) (t : TAD) : TSD := fun E δ G => t δ G fun ds G1 => ds.length = fs.length ∧ W C (fs.zip ds).reverse G1
theorem xw_new {H1 F1 : Hp} {G1 : Gm} {C d : Addr} {fv : List (Str × V)} {fs : List (Str × D)} (S1 : Sit K B σ H1 F1 δ G1) (n : H1 d = none) (r : RepF K F1 fv fs) (w : W C fs G1) : XW K B W (.ref C) (some d) (upd H1 d (.xd fv)) := by
  obtain ⟨d2, s2⟩ := S1.ds.new (o := .xd fv) n
  exact ⟨_, G1, C, fs, rfl, S1.gr.trans s2, d2, .inr ⟨d, fv, rfl, upd_same, r.mono s2⟩, w⟩
section
variable {k : Nat} {f C : Addr} {fI : Addr} {fd : FuncData} {ps : List Str} {x f1 f2 : Str}
theorem ds_raise1 (hc : X.calm = true) (tk : Takes X fun cls d _ H => XW X.K B W cls d H) (T : OexC X.K C) (iC : PySem.W.findIn X.K (.ref C) "__init__" = some (some (.ref fI))) (tI : PySem.W.typeIn X.K (.ref fI) = some (.type "function"))
    (F1 : FnOk X.prog X.w X.K X.mg X.base CX0 k fI fd ps (spE1 X.K C f1)) (hr : Room (k + 1) X.A) (hb : Binds X.K fd ps []) (hg : Gl X x) (hm : X.mg x = some (.ref C)) (ha : DA X B (e :: es) t)
    (hdb : (x == ("__debug__" : Str)) = false := by decide) (he : starEach (e :: es) X.env = (false, eval e X.env) :: starEach es X.env := by rfl) (hpl : (backTo pos (starEach es X.env)).any (·.1) = false := by rfl) :
    DSt X B (.Raise (some (.Call (.Name x p) (e :: es) [] pos)) none apos) (dRaise W C [f1] t) :=
  PS.weak (ps_raise hc tk (pmk_oex T iC tI F1 hr hb .nil pass0 hg hm ha hdb he hpl)) fun D σ H ⟨F, G, δ, E, S, h, L⟩ => ⟨F, G, δ, _, S, h, fun vs H1 ⟨F1, G1, ds, s1, S1, r1, hl, h1⟩ => by
    match ds, r1, hl, h1 with
    | [d], .cons r .nil, hl, h1 => exact mkE1 fun dd n => xw_new S1 n (.cons r .nil) h1⟩
theorem ds_raise2 (hc : X.calm = true) (tk : Takes X fun cls d _ H => XW X.K B W cls d H) (T : OexC X.K C) (iC : PySem.W.findIn X.K (.ref C) "__init__" = some (some (.ref fI))) (tI : PySem.W.typeIn X.K (.ref fI) = some (.type "function"))
    (F1 : FnOk X.prog X.w X.K X.mg X.base CX0 k fI fd ps (spE2 X.K C f1 f2)) (hr : Room (k + 1) X.A) (hb : Binds X.K fd ps []) (hg : Gl X x) (hm : X.mg x = some (.ref C)) (ha : DA X B (e :: es) t)
    (hdb : (x == ("__debug__" : Str)) = false := by decide) (he : starEach (e :: es) X.env = (false, eval e X.env) :: starEach es X.env := by rfl) (hpl : (backTo pos (starEach es X.env)).any (·.1) = false := by rfl) :
    DSt X B (.Raise (some (.Call (.Name x p) (e :: es) [] pos)) none apos) (dRaise W C [f1, f2] t) :=
  PS.weak (ps_raise hc tk (pmk_oex T iC tI F1 hr hb .nil pass0 hg hm ha hdb he hpl)) fun D σ H ⟨F, G, δ, E, S, h, L⟩ => ⟨F, G, δ, _, S, h, fun vs H1 ⟨F1, G1, ds, s1, S1, r1, hl, h1⟩ => by
    match ds, r1, hl, h1 with
    | [d, d2], .cons r (.cons r2 .nil), hl, h1 => exact mkE2 fun dd n => xw_new S1 n (.cons r2 (.cons r .nil)) h1⟩
end

/-! ### own classes: len, str, ==, !=, C.m(..), x(..) -/
section
variable {k : Nat} {f C pa : Addr} {mc : Value} {fd : FuncData} {ps ks : List Str} {sp : SpD} {x m : Str} {kws : List Keyword} {tk : TAD} {gg : List Value → List Value → List Value} {gV : List V → List V → List V} {gD : List D → List D → List D}
/-- into a def from a state, its end to be looked at -/
theorem low_at {Qd : QD} {Q : VK} {vs : List V} {ds : List D} (S : Sit K B σ H F δ G) (r : RepAll K F vs ds) (h : sp ds G Qd W) (kk : ∀ v H', Beh K B σ F δ Qd v H' → Q v H') : lowSp K sp vs H Q (XW K B W) := low_of kk (.refl F) S r h
def lenOD (C : Addr) (sp : SpD) (W : WD) : LD := fun ds G Q => match ds with
  | [d] => (match insD d G with | some (C', _) => C' = C ∧ sp [d] G (fun z G1 => match z with | .int n => (0 ≤ n ∧ n < 2 ^ 63) ∧ Q (.int n) G1 | _ => False) W | none => False)
  | _ => False
theorem de_lenO (M : OwnM X.K C "__len__" f) (Fn : FnD X.prog X.w X.K X.mg X.base k f fd ps sp) (hb : Binds X.K fd ps []) (hr : Room (k + 1) X.A) (hx : Passes (L2.CX X.prog X.w) X (XW X.K B W)) (hg : Gl X "len") (hm : X.mg "len" = none) (hv : bootBuiltins "len" = some (.builtin "len")) (ha : DA X B [e] t)
    (he : starEach [e] X.env = (false, eval e X.env) :: starEach [] X.env := by rfl) (hpl : (backTo pos (starEach [] X.env)).any (·.1) = false := by rfl) : DE X B (.Call (.Name "len" p) [e] [] pos) (dCB (lenOD C sp W) t) :=
  PE.weak (pe_callB (call_lenO M Fn hb hr hx) hg hm hv ha (he := he) (hpl := hpl)) fun σ H Q ⟨F, G, δ, Qd, S, h, kk⟩ => ⟨F, G, δ, _, S, h, fun vs H1 ⟨F1, G1, ds, s1, S1, r1, h1⟩ => by
    unfold lenOD at h1
    split at h1
    case h_2 => exact h1.elim
    case h_1 d =>
      obtain ⟨v, rfl, r⟩ := repAll1 r1
      cases q : insD d G1 with
      | none => simp only [q] at h1
      | some cf =>
        obtain ⟨C', fs⟩ := cf
        simp only [q] at h1
        obtain ⟨rfl, h2⟩ := h1
        obtain ⟨a, dx, fv, rfl, e1, gc, na, rf⟩ := ins_rep S1 r q
        refine ⟨a, dx, fv, rfl, e1, low_at S1 (.cons r .nil) h2 fun v H' ⟨F', G', d', s', S', r', q'⟩ => ?_⟩
        cases d' with
        | int n =>
          cases r'
          obtain ⟨⟨n0, n1⟩, q'⟩ := q'
          obtain ⟨j, rfl⟩ := Int.eq_ofNat_of_zero_le n0
          exact ⟨j, rfl, by omega, kk _ _ ⟨F', G', _, s1.trans s', S', .int _, q'⟩⟩
        | _ => exact q'.elim⟩
def strOD (C : Addr) (sp : SpD) (W : WD) : LD := fun ds G Q => match ds with
  | [d] => (match insD d G with | some (C', _) => C' = C ∧ sp [d] G (fun z G1 => match z with | .str n => Q (.str n) G1 | _ => False) W | none => False)
  | _ => False
theorem de_strO (M : OwnM X.K C "__str__" f) (Fn : FnD X.prog X.w X.K X.mg X.base k f fd ps sp) (hb : Binds X.K fd ps []) (hr : Room (k + 2) X.A) (hx : Passes (L2.CX X.prog X.w) X (XW X.K B W)) (hg : Gl X "str") (hm : X.mg "str" = none) (hv : bootBuiltins "str" = some (.type "str")) (ha : DA X B [e] t)
    (he : starEach [e] X.env = (false, eval e X.env) :: starEach [] X.env := by rfl) (hpl : (backTo pos (starEach [] X.env)).any (·.1) = false := by rfl) : DE X B (.Call (.Name "str" p) [e] [] pos) (dCB (strOD C sp W) t) :=
  PE.weak (pe_callTy (call_strO M Fn hb hr hx) hg hm hv ha (he := he) (hpl := hpl)) fun σ H Q ⟨F, G, δ, Qd, S, h, kk⟩ => ⟨F, G, δ, _, S, h, fun vs H1 ⟨F1, G1, ds, s1, S1, r1, h1⟩ => by
    unfold strOD at h1
    split at h1
    case h_2 => exact h1.elim
    case h_1 d =>
      obtain ⟨v, rfl, r⟩ := repAll1 r1
      cases q : insD d G1 with
      | none => simp only [q] at h1
      | some cf =>
        obtain ⟨C', fs⟩ := cf
        simp only [q] at h1
        obtain ⟨rfl, h2⟩ := h1
        obtain ⟨a, dx, fv, rfl, e1, gc, na, rf⟩ := ins_rep S1 r q
        refine ⟨a, dx, fv, rfl, e1, low_at S1 (.cons r .nil) h2 fun v H' ⟨F', G', d', s', S', r', q'⟩ => ?_⟩
        cases d' with
        | str n =>
          cases r'
          exact ⟨n, rfl, kk _ _ ⟨F', G', _, s1.trans s', S', .str _, q'⟩⟩
        | _ => exact q'.elim⟩
/-- x == y, x != y, x of the class C -/
def eqOD (K : PySem.W.Frag) (C : Addr) (sp : SpD) (W : WD) (neg : Bool) : R2D := fun a b G Q => match insD a G with
  | some (C', _) => C' = C ∧ (∃ t, TyD K b G t ∧ PySem.W.notFirst K C t = true) ∧ sp [a, b] G (fun z G1 => match z with | .bl c => Q (.bl (if neg then !c else c)) G1 | _ => False) W
  | none => False
theorem eqO_A {B : Bs} {σ : L2.St} {δ : SD} {H F : Hp} {G : Gm} {x y : V} {a b : D} {neg : Bool} {Qd : QD} {Q : VK} (S : Sit K B σ H F δ G) (r1 : Rep K F x a) (r2 : Rep K F y b) (h : eqOD K C sp W neg a b G Qd) (kk : ∀ v H', Beh K B σ F δ Qd v H' → Q v H') : rEqO C (lowSp K sp) (XW K B W) K neg x y H Q := by
  unfold eqOD at h
  cases q : insD a G with
  | none => simp only [q] at h
  | some cf =>
    obtain ⟨C', fs⟩ := cf
    simp only [q] at h
    obtain ⟨rfl, ⟨t, ty, nf⟩, h⟩ := h
    obtain ⟨ad, dx, fv, rfl, e1, gc, na, rf⟩ := ins_rep S r1 q
    refine ⟨ad, dx, fv, rfl, e1, ⟨t, tyD_ty S r2 ty, nf⟩, low_at S (.cons r1 (.cons r2 .nil)) h fun v H' ⟨F', G', d', s', S', r', q'⟩ => ?_⟩
    cases d' with
    | bl c =>
      cases r'
      exact ⟨c, rfl, kk _ _ ⟨F', G', _, s', S', .bl _, q'⟩⟩
    | _ => exact q'.elim
theorem de_eqO (M : OwnM X.K C "__eq__" f) (Fn : FnD X.prog X.w X.K X.mg X.base k f fd ps sp) (hb : Binds X.K fd ps []) (hr : Room k X.A) (hx : Passes (L2.CX X.prog X.w) X (XW X.K B W)) (ha : DE X B a ta) (hb2 : DE X B b tb) : DE X B (.Compare a [.Eq] [b] pos) (dOp (eqOD X.K C sp W false) ta tb) :=
  PE.weak (pe_cmpR (op_eqO M Fn hb hr hx) ha hb2 (nomark _)) fun σ H Q ⟨F, G, δ, Qd, S, h, k⟩ => up2 S h fun x y H2 F2 G2 d e s2 S2 r1 r2 h2 => eqO_A S2 r1 r2 h2 fun v H' ⟨F', G', d', s', S', r', q'⟩ => k v H' ⟨F', G', d', s2.trans s', S', r', q'⟩
theorem dt_eqO (M : OwnM X.K C "__eq__" f) (Fn : FnD X.prog X.w X.K X.mg X.base k f fd ps sp) (hb : Binds X.K fd ps []) (hr : Room k X.A) (hx : Passes (L2.CX X.prog X.w) X (XW X.K B W)) (ha : DE X B a ta) (hb2 : DE X B b tb) : DT X B (.Compare a [.Eq] [b] pos) (dTest (dOp (eqOD X.K C sp W false) ta tb)) :=
  PT.weak (pt_cmpR (op_eqO M Fn hb hr hx) ha hb2 (nomark _)) fun σ H Q q => by
    obtain ⟨F, G, δ, Qd, S, h, k⟩ := q
    refine up2 S h fun x y H2 F2 G2 d e s2 S2 r1 r2 h2 => eqO_A S2 r1 r2 h2 fun v H' ⟨F', G', d', s', S', r', q'⟩ => ?_
    cases d' with
    | bl b =>
      cases r'
      exact ⟨b, rfl, k b H' ⟨F', G', s2.trans s', S', q'⟩⟩
    | _ => exact q'.elim
theorem de_neO (M : OwnM X.K C "__eq__" f) (hne : PySem.W.findIn X.K (.ref C) "__ne__" = some (some (.builtin "object.__ne__"))) (hmr : PySem.W.mroIn X.K C (.type "object") = some true) (Fn : FnD X.prog X.w X.K X.mg X.base k f fd ps sp) (hb : Binds X.K fd ps []) (hr : Room (k + 1) X.A) (hx : Passes (L2.CX X.prog X.w) X (XW X.K B W)) (ha : DE X B a ta) (hb2 : DE X B b tb) :
    DE X B (.Compare a [.NotEq] [b] pos) (dOp (eqOD X.K C sp W true) ta tb) :=
  PE.weak (pe_cmpR (op_neO M hne hmr Fn hb hr hx) ha hb2 (nomark _)) fun σ H Q ⟨F, G, δ, Qd, S, h, k⟩ => up2 S h fun x y H2 F2 G2 d e s2 S2 r1 r2 h2 => eqO_A S2 r1 r2 h2 fun v H' ⟨F', G', d', s', S', r', q'⟩ => k v H' ⟨F', G', d', s2.trans s', S', r', q'⟩
theorem dt_neO (M : OwnM X.K C "__eq__" f) (hne : PySem.W.findIn X.K (.ref C) "__ne__" = some (some (.builtin "object.__ne__"))) (hmr : PySem.W.mroIn X.K C (.type "object") = some true) (Fn : FnD X.prog X.w X.K X.mg X.base k f fd ps sp) (hb : Binds X.K fd ps []) (hr : Room (k + 1) X.A) (hx : Passes (L2.CX X.prog X.w) X (XW X.K B W)) (ha : DE X B a ta) (hb2 : DE X B b tb) :
    DT X B (.Compare a [.NotEq] [b] pos) (dTest (dOp (eqOD X.K C sp W true) ta tb)) :=
  PT.weak (pt_cmpR (op_neO M hne hmr Fn hb hr hx) ha hb2 (nomark _)) fun σ H Q q => by
    obtain ⟨F, G, δ, Qd, S, h, k⟩ := q
    refine up2 S h fun x y H2 F2 G2 d e s2 S2 r1 r2 h2 => eqO_A S2 r1 r2 h2 fun v H' ⟨F', G', d', s', S', r', q'⟩ => ?_
    cases d' with
    | bl b =>
      cases r'
      exact ⟨b, rfl, k b H' ⟨F', G', s2.trans s', S', q'⟩⟩
    | _ => exact q'.elim
/-- C.m(..), m a static method -/
theorem de_smeth {pl : Sem Bool} (hx : Passes (L2.CX X.prog X.w) X (XW X.K B W)) (he : PE X o (tC (.ref C))) (c : SMet X.K C mc m pa f) (Fn : FnD X.prog X.w X.K X.mg X.base k f fd ps sp) (hr : Room k X.A) (hb : Binds X.K fd ps []) (ha : DA X B (e :: es) t)
    (hst : starEach (e :: es) X.env = (false, eval e X.env) :: starEach es X.env := by rfl) (hpl : (backTo pos (starEach es X.env)).any (·.1) = false := by rfl)
    (ht : eval (.Call (.Attribute o m apos) (e :: es) [] pos) X.env = (do
      let ov ← eval o X.env
      standAt apos.atName
      let (f, first) ← holding [ov] (getMethod ov m pl)
      callWith pos f first (backTo pos (starEach (e :: es) X.env)) (backToKw pos (keywordEach [] X.env))) := by rfl) :
    DE X B (.Call (.Attribute o m apos) (e :: es) [] pos) (dCall sp W t) :=
  PE.weak (pe_smeth (E := fun _ => XW X.K B W) he c Fn hr hb (fun σ pins H s e s' I c => hx pins σ H s e s' I c) ha hst hpl ht) fun σ H Q ⟨F, G, δ, Qd, S, h, kk⟩ => ⟨rfl, F, G, δ, _, S, h, fun vs H1 ⟨F1, G1, ds, s1, S1, r1, h1⟩ => low_of kk s1 S1 r1 h1⟩
theorem de_smethK0 {pl : Sem Bool} (hx : Passes (L2.CX X.prog X.w) X (XW X.K B W)) (he : PE X o (tC (.ref C))) (c : SMet X.K C mc m pa f) (Fn : FnD X.prog X.w X.K X.mg X.base k f fd ps sp) (hr : Room k X.A) (hb : KBinds X.K fd ps ks gg gV) (hp : PermOk gV gD) (hkw : DK X B kws tk)
    (hall : (backToKw pos (keywordEach kws X.env)).all (·.1.isSome) = true := by rfl) (hks : (backToKw pos (keywordEach kws X.env)).filterMap (·.1) = ks := by rfl)
    (hpl : ((backTo pos (starEach [] X.env)).any (·.1) || (backToKw pos (keywordEach kws X.env)).any (·.1.isNone)) = false := by rfl)
    (ht : eval (.Call (.Attribute o m apos) [] kws pos) X.env = (do
      let ov ← eval o X.env
      standAt apos.atName
      let (f, first) ← holding [ov] (getMethod ov m pl)
      callWith pos f first (backTo pos (starEach [] X.env)) (backToKw pos (keywordEach kws X.env))) := by rfl) :
    DE X B (.Call (.Attribute o m apos) [] kws pos) (dCallK sp gD W dNil tk) :=
  PE.weak (pe_smethK0 he c Fn hr hb hx hkw hall hks hpl ht) fun σ H Q ⟨F, G, δ, Qd, S, h, kk⟩ => ⟨rfl, F, G, δ, _, S, h, fun zs H1 ⟨F1, G1, es, s1, S1, r1, h1⟩ => low_of kk s1 S1 (hp _ _ _ _ _ _ .nil r1) h1⟩
/-- x(..), x an instance of C -/
def isO : D → Bool
  | .ins _ _ => true
  | .adr _ => true
  | _ => false
theorem isO_ref {v : V} {d : D} (r : Rep K F v d) (h : isO d = true) : ∃ a, v = .ref a := by
  cases r <;> first | exact ⟨_, rfl⟩ | cases h
def dCallO (C : Addr) (sp : SpD) (W : WD) (tf : TED) (t : TAD) : TED := fun δ G Q => tf δ G fun d G1 => isO d = true ∧ t δ G1 fun ds G2 => match insD d G2 with | some (C', _) => C' = C ∧ sp (d :: ds) G2 Q W | none => False
theorem de_callO {tf : TED} {fe : Expr} (hf : DE X B fe tf) (c : StX.CallO X.K C f) (Fn : FnD X.prog X.w X.K X.mg X.base k f fd ps sp) (hr : Room k X.A) (hb : Binds X.K fd ps []) (hx : Passes (L2.CX X.prog X.w) X (XW X.K B W)) (ha : DA X B (e :: es) t)
    (ht : eval (.Call fe (e :: es) [] pos) X.env = (do callWith pos (← eval fe X.env) [] (backTo pos (starEach (e :: es) X.env)) (backToKw pos (keywordEach [] X.env))) := by rfl)
    (he : starEach (e :: es) X.env = (false, eval e X.env) :: starEach es X.env := by rfl) (hpl : (backTo pos (starEach es X.env)).any (·.1) = false := by rfl) : DE X B (.Call fe (e :: es) [] pos) (dCallO C sp W tf t) :=
  PE.weak (StX.pe_callO hf c (FnOk.raw Fn hb .nil) hr hx ha ht he hpl) fun σ H Q ⟨F, G, δ, Qd, S, h, kk⟩ => ⟨F, G, δ, _, S, h, fun v H1 ⟨F1, G1, d, s1, S1, r1, ho, h1⟩ => by
    obtain ⟨a, rfl⟩ := isO_ref r1 ho
    refine ⟨a, rfl, F1, G1, δ, _, S1, h1, fun vs H2 ⟨F2, G2, ds, s2, S2, r2, h2⟩ => ?_⟩
    cases q : insD d G2 with
    | none => simp only [q] at h2
    | some cf =>
      obtain ⟨C', fs⟩ := cf
      simp only [q] at h2
      obtain ⟨rfl, h3⟩ := h2
      have r3 := r1.mono s2
      obtain ⟨a', dx, fv, ea, e1, gc, na, rf⟩ := ins_rep S2 r3 q
      cases ea
      refine ⟨.inr ⟨dx, fv, e1⟩, ?_⟩
      show lowSp X.K sp ((V.ref a :: vs) ++ []) H2 Q _
      rw [List.append_nil]
      exact low_of kk (s1.trans s2) S2 (.cons r3 r2) h3⟩
end
end
/-! ### zip -/
section
variable {X : Cx} {B : Bs} {K : PySem.W.Frag} {e e2 : Expr} {t : TAD} {pos p tpos : Pos}
variable {σ : L2.St} {H F : Hp} {δ : SD} {G : Gm}
def seqS (d : D) : Option (List D) := match d with
  | .lst ds => some ds
  | .tup ds => some ds
  | _ => none
def zipD (xs ys : List D) : List D := (xs.zip ys).map fun p => .tup [p.1, p.2]
theorem seqS_rep {v : V} {d : D} {ds : List D} (r : Rep K F v d) (h : seqS d = some ds) : ∃ k a xs, v = .ref a ∧ SqK K k F a xs ∧ RepAll K F xs ds := by
  cases d with
  | lst es =>
    cases h
    obtain ⟨p, xs, e, h1, h2⟩ := rep_lst r
    exact ⟨false, p, xs, e, .of h1, h2⟩
  | tup es =>
    cases h
    obtain ⟨p, xs, e, h1, h2⟩ := rep_tup r
    exact ⟨true, p, xs, e, .of h1, h2⟩
  | _ => simp [seqS] at h
theorem itD_zip {k1 k2 : Bool} {a b : Addr} {xs ys : List V} {ds es : List D} (h1 : SqK K k1 F a xs) (h2 : SqK K k2 F b ys) (r1 : RepAll K F xs ds) (r2 : RepAll K F ys es) : ItD K F (ItzK K k1 k2 a b) (zipD ds es) := by
  have l1 := r1.length
  have l2 := r2.length
  have lz : (zipD ds es).length = min ds.length es.length := by simp [zipD]
  refine ⟨fun i H hi s => ?_, fun H s => ⟨xs, ys, sqK_same s h1, sqK_same s h2, by rw [lz]; omega⟩, fun i H x H' hi s y B σ δ G F1 S s1 => ?_⟩
  · rw [lz] at hi
    have i1 : i < xs.length := by omega
    have i2 : i < ys.length := by omega
    exact ⟨xs, ys, xs[i], ys[i], sqK_same s h1, sqK_same s h2, by simp [i1], by simp [i2]⟩
  · obtain ⟨T, u, w, rfl, nT, rfl, y1, y2⟩ := y
    obtain ⟨d1, e1, q1⟩ := r1.get' (y1 xs (sqK_same s h1))
    obtain ⟨d2, e2, q2⟩ := r2.get' (y2 ys (sqK_same s h2))
    obtain ⟨d3, s3⟩ := S.ds.new (o := .tup [u, w]) nT
    refine ⟨_, .tup [d1, d2], s3, ⟨d3, S.gr.trans s3, S.sl.mono s3⟩, ?_, .tup upd_same (.cons ((q1.mono s1).mono s3) (.cons ((q2.mono s1).mono s3) .nil))⟩
    have hz : (ds.zip es)[i]? = some (d1, d2) := by
      rw [List.getElem?_zip_eq_some]
      exact ⟨e1, e2⟩
    simp [zipD, hz]
def iZipD (ta : TAD) : TID := fun δ G R => ta δ G fun ds G1 => match ds with
  | [d, d2] => (match seqS d, seqS d2 with | some xs, some ys => R (zipD xs ys) G1 | _, _ => False)
  | _ => False
theorem di_zip {elts : List Expr} {kk : Nat} (hg : Gl X "zip") (hm : X.mg "zip" = none) (ha : DA X B [e, e2] t)
    (hs : starEach [e, e2] X.env = (false, eval e X.env) :: starEach [e2] X.env := by rfl) (hpl : (backTo pos (starEach [e2] X.env)).any (·.1) = false := by rfl) : DI X B (.Tuple elts kk tpos) (.Call (.Name "zip" p) [e, e2] [] pos) (iZipD t) :=
  PI.weak (pi_zipK hg hm ha hs hpl) fun σ H R ⟨F, G, δ, Qd, S, h, k⟩ => ⟨F, G, δ, _, S, h, fun vs H1 ⟨F1, G1, ds, s1, S1, r1, h1⟩ => by
    split at h1
    case h_2 => exact h1.elim
    case h_1 d d2 =>
      obtain ⟨v, u, rfl, q1, q2⟩ := repAll2 r1
      split at h1
      case h_2 => exact h1.elim
      case h_1 xs ys ex ey =>
        obtain ⟨k1, a, us, rfl, g1, ra1⟩ := seqS_rep q1 ex
        obtain ⟨k2, b, ws, rfl, g2, ra2⟩ := seqS_rep q2 ey
        exact ⟨k1, k2, a, b, us, ws, rfl, sqK_same S1.ds.sub g1, sqK_same S1.ds.sub g2, k _ _ ⟨F1, G1, _, s1, S1, itD_zip g1 g2 ra1 ra2, h1⟩⟩⟩
end
end JP

namespace JP
open PySem PySem.Spec PyProof.Rows L2
/-! ### short forms for derivations -/
section
variable {X : Cx} {B : Bs} {K : PySem.W.Frag} {e : Expr} {te : TED} {pos p : Pos}
theorem dv (i : Nat) {x : Str} {pos : Pos} (hN : X.N[i]? = some x := by rfl) (hv : Vis X.env.scope x := by first | exact Or.inl rfl | exact Or.inr (Or.inl rfl) | exact Or.inr (Or.inr rfl)) (hd : (x == ("__debug__" : Str)) = false := by decide)
    (hcd : (x == ("__classdict__" : Str)) = false := by decide) : DE X B (.Name x pos) (dVar i) := de_var hN hv hd hcd
theorem de_dict0 : DE X B (.Dict [] [] pos) (dC (.dic [])) :=
  PE.weak pe_dnewK fun σ H Q ⟨F, G, δ, Qd, S, h, k⟩ => fun p n => k _ _ (.new S (.refl F) n (.dk (.of upd_same) .nil) h)
theorem de_isCK {c : Expr} {C : Addr} (hK : X.K = K) (hg : Gl X "isinstance") (hm : X.mg "isinstance" = none) (hv : bootBuiltins "isinstance" = some (.builtin "isinstance")) (ha : DE X B e te) (hc : PE X c (tC (.ref C)))
    (h1 : starEach [e, c] X.env = (false, eval e X.env) :: starEach [c] X.env := by rfl) (h2 : starEach [c] X.env = (false, eval c X.env) :: starEach [] X.env := by rfl) (hpl : (backTo pos (starEach [c] X.env)).any (·.1) = false := by rfl) :
    DE X B (.Call (.Name "isinstance" p) [e, c] [] pos) (dIsC K C te) := hK ▸ de_isC hg hm hv ha hc h1 h2 hpl
theorem de_isXK {c : Expr} {C : Addr} (hK : X.K = K) (hg : Gl X "isinstance") (hm : X.mg "isinstance" = none) (hv : bootBuiltins "isinstance" = some (.builtin "isinstance")) (ha : DE X B e te) (hc : PE X c (tC (.ref C)))
    (h1 : starEach [e, c] X.env = (false, eval e X.env) :: starEach [c] X.env := by rfl) (h2 : starEach [c] X.env = (false, eval c X.env) :: starEach [] X.env := by rfl) (hpl : (backTo pos (starEach [c] X.env)).any (·.1) = false := by rfl) :
    DE X B (.Call (.Name "isinstance" p) [e, c] [] pos) (dIsX K C te) := hK ▸ de_isX hg hm hv ha hc h1 h2 hpl
theorem de_xaK {n : Str} (hK : X.K = K) (he : DE X B e te) (hb : attributeBase e n X.env (eval e X.env) = eval e X.env := by rfl) : DE X B (.Attribute e n pos) (dXa K n te) := hK ▸ de_xa he hb
end

/-! ### defs that are proved of the heap, told of trees -/
section
variable {P : Program} {w : World} {K : PySem.W.Frag} {mg : Str → Option Value} {base : Heap} {k : Nat} {f : Addr} {fd : FuncData} {ps : List Str}
theorem fn_any {CX : CXT} {sp : Sp} (F : FnOk P w K mg base CX0 k f fd ps sp) : FnOk P w K mg base CX k f fd ps sp :=
  ⟨F.len, fun A outer s H args us vs Q E hr e0 hb r h => codeAny_mono (F.run A outer s H args us vs Q E hr e0 hb r h) fun r s' q => by
    cases r with
    | error e => exact (show False from q).elim
    | ok fl => cases fl <;> exact q⟩
theorem DS.but {Tb : List (Addr × Str)} {F H H' Z : Hp} {G : Gm} {p : Addr} {m m' : MO} (d : DS K Tb F H G Z) (g : G p = some m) (b : But p H H') (r : MRep K F H' p m') : DS K Tb F H' (updG G p m') Z := by
  have hf := (d.mu p m g).1
  obtain ⟨u, hu, mu⟩ := (d.mu p m g).2.at_
  have hz : Z p = none := by
    cases e : Z p with
    | none => rfl
    | some u =>
      have := (d.zf p u e).2.1
      rw [g] at this
      cases this
  refine ⟨fun a o e => b a o (fun c => by rw [c, hf] at e; cases e) (d.sub a o e), fun a n e => ?_, fun a o e => b a o (fun c => by rw [c, hz] at e; cases e) (d.zub a o e), fun a o e => ?_, d.ft, fun q hq => ?_⟩
  · by_cases c : a = p
    · subst c
      rw [updG_same] at e
      cases e
      exact ⟨hf, r⟩
    · rw [updG_ne c] at e
      exact ⟨(d.mu a n e).1, (d.mu a n e).2.mono (.refl F) fun o q => b a o c q⟩
  · have c : a ≠ p := fun c => by rw [c, hz] at e; cases e
    exact ⟨(d.zf a o e).1, (updG_ne c).trans (d.zf a o e).2.1, (d.zf a o e).2.2⟩
  · obtain ⟨ps, h1, h3, h4⟩ := d.tab q hq
    refine ⟨ps, b _ _ (fun c => ?_) h1, h3, fun pos cv hc => ?_⟩
    · rw [c, hu] at h1
      cases h1
      exact mu
    · obtain ⟨c, e1, e2⟩ := h4 pos cv hc
      refine ⟨c, e1, b _ _ (fun c' => ?_) e2⟩
      rw [c', hu] at e2
      have e3 : u = HO.ext _ := Option.some.inj e2
      rw [e3] at mu
      exact mu
def spDraw : Sp := fun vs H Q _ => ∃ (p c : Addr) (many : Int) (m : Nat), vs = [.ref p, .int many] ∧ Pen H p c m ∧ 1 ≤ many ∧ many < 2 ^ 60 ∧ m ≤ 2 ^ 20 ∧
  ∀ (r : Int) (H' : Hp), 0 ≤ r → r < many → Pen H' p c (m + 1) → But p H H' → Q (.int r) H'
def spPen (K : PySem.W.Frag) : Sp := fun vs H Q _ => ∃ (a : Addr) (ns : List Int), vs = [.ref a] ∧ SqL K H a (ns.map V.int) ∧ ns.length ≤ 63 ∧
  ∀ (p c : Addr) (H' : Hp), Same H H' → H p = none → H c = none → Pen H' p c 0 → Q (.ref p) H'
/-- a draw: any number below, one step of the pen -/
def drawD : SpD := fun ds G Q _ => ∃ (p : Addr) (n : Int) (m : Nat), ds = [.adr p, .int n] ∧ G p = some (.pen m) ∧ 1 ≤ n ∧ n < 2 ^ 60 ∧ m ≤ 2 ^ 20 ∧ ∀ r, 0 ≤ r → r < n → Q (.int r) (updG G p (.pen (m + 1)))
theorem draw_of (Fn : FnOk P w K mg base CX0 k f fd ps spDraw) : FnD P w K mg base k f fd ps drawD :=
  (fn_any Fn).imp fun vs H Q E ⟨B, G, ds, Qd, W, d, r, ⟨p, n, m, ed, g, n1, n2, hm, q⟩, kq, ke⟩ => by
    subst ed
    obtain ⟨v, u, rfl, r1, r2⟩ := repAll2 r
    cases r1
    cases r2
    obtain ⟨fp, c, ns, j, gg, h1, h2, h3, h4, h5, h6⟩ := d.mu p _ g
    have ncp : c ≠ p := fun e => by rw [e, fp] at h2; cases h2
    have hP : Pen H p c m := ⟨ns, j, gg, h1, d.sub _ _ h2, ncp, h3, h4, h5, h6⟩
    refine ⟨p, c, n, m, rfl, hP, n1, n2, hm, fun r H' r0 r1 hP' hB => kq _ _ ⟨B.F, _, .int r, .refl _, d.but g hB (m' := .pen (m + 1)) ?_, .refl _, .int r, q r r0 r1⟩⟩
    obtain ⟨ns', j', g', q1, q2, q3, q4, q5, q6, q7⟩ := hP'
    have e2 := hB c _ ncp (d.sub _ _ h2)
    rw [q2] at e2
    have e3 : ns'.map V.int = ns.map V.int := by injection Option.some.inj e2
    exact ⟨c, ns', j', g', q1, by rw [e3]; exact h2, q4, q5, q6, q7⟩
/-- the pen -/
def penD : SpD := fun ds G Q _ => ∃ ns, ds = [.scr ns] ∧ ns.length ≤ 63 ∧ ∀ p, G p = none → Q (.adr p) (updG G p (.pen 0))
theorem pen_of (Fn : FnOk P w K mg base CX0 k f fd ps (spPen K)) : FnD P w K mg base k f fd ps penD :=
  (fn_any Fn).imp fun vs H Q E ⟨B, G, ds, Qd, W, d, r, ⟨ns, ed, hl, q⟩, kq, ke⟩ => by
    subst ed
    obtain ⟨v, rfl, r1⟩ := repAll1 r
    cases r1 with
    | scr hs =>
      refine ⟨_, ns, rfl, same_seqL' d.sub hs, hl, fun p c H' s np nc hP => ?_⟩
      obtain ⟨ns', j', g', q1, q2, q3, q4, q5, q6, q7⟩ := hP
      have d1 := d.same s
      obtain ⟨d2, s2⟩ := d1.frz q2 (d.noG nc) (d.noZ nc)
      refine kq _ _ ⟨upd B.F c (.lst (ns'.map V.int)), updG G p (.pen 0), .adr p, s2, ⟨d2.sub, fun a n e => ?_, d2.zub, fun a o e => ?_, d2.ft, d2.tab⟩, s2, .adr p, q p (d.noG np)⟩
      · by_cases c' : a = p
        · subst c'
          rw [updG_same] at e
          cases e
          exact ⟨(upd_ne q3.symm).trans (d.noF np), c, ns', j', g', q1, upd_same, q4, q5, q6, q7⟩
        · rw [updG_ne c'] at e
          exact d2.mu a n e
      · have c' : a ≠ p := fun c => by rw [c, d.noZ np] at e; cases e
        exact ⟨(d2.zf a o e).1, (updG_ne c').trans (d2.zf a o e).2.1, (d2.zf a o e).2.2⟩
/-- the law: from the script to True -/
def lawD : SpD := fun ds G Q _ => ∃ ns, ds = [.scr ns] ∧ ns.length ≤ 63 ∧ (∀ a, G a = none) ∧ ∀ G', Q (.bl true) G'
theorem only_notT {H : Hp} (o : Only H) : ∀ b u, H b = some u → notT u := fun b u e => by
  rcases o b with n | ⟨ob, xs, n⟩
  · rw [n] at e
    cases e
  · rw [n] at e
    cases e
    trivial
theorem law_sat {a : Addr} {ns : List Int} {H : Hp} (hl : ns.length ≤ 63) (o : Only H) (s : SqL K H a (ns.map V.int)) : lowSp K lawD [.ref a] H (fun v _ => v = .bl true) fun _ _ _ => False := by
  refine ⟨⟨H, fun _ => none, []⟩, fun _ => none, [.scr ns], fun d _ => d = .bl true, WN, ⟨.refl H, ?_, ?_, ?_, only_notT o, ?_⟩, .cons (.scr s) .nil, ⟨ns, rfl, hl, fun _ => rfl, fun _ => rfl⟩, ?_, ?_⟩
  · intro _ _ e
    cases e
  · intro _ _ e
    cases e
  · intro _ _ e
    cases e
  · intro _ hp
    cases hp
  · rintro v H' ⟨_, _, _, _, _, _, r, e⟩
    subst e
    exact rep_bl r
  · rintro _ _ _ ⟨_, _, _, _, _, _, _, _, w⟩
    exact w
end
end JP

namespace JP
open PySem PySem.Spec PyProof.Rows L2
/-! ### readings of loops and of types -/
/-- a thing whose type is told -/
def Told (d : D) (G : Gm) : Prop := (kiD d).isSome = true ∨ (insD d G).isSome = true
def isB (d : D) (j : Ki) : Bool := match kiD d with
  | some k => k.below j
  | none => false
theorem told_is {d : D} {G : Gm} (h : Told d G) {j : Ki} (hj : j ≠ .non) : isK d G j = some (isB d j) := by
  unfold isK isB
  cases q : kiD d with
  | some k => rfl
  | none =>
    rcases h with h | h
    · rw [q] at h; cases h
    · cases i : insD d G with
      | none => rw [i] at h; cases h
      | some _ => simp [hj]
theorem told_ki {d : D} {G : Gm} {k : Ki} (h : kiD d = some k) : Told d G := .inl (by rw [h]; rfl)
theorem told_ins {C : Addr} {fs : List (Str × D)} {G : Gm} : Told (.ins C fs) G := .inr rfl
theorem told_isKs {d : D} {G : Gm} {js : List Ki} (h : Told d G) (hj : js.all (fun j => decide (j ≠ .non)) = true) : isKs d G js = some (js.any (isB d)) := by
  unfold isKs
  cases q : kiD d with
  | some k =>
    have e : isB d = k.below := by funext j; unfold isB; rw [q]
    rw [e]
  | none =>
    have e0 : ∀ j, isB d j = false := fun j => by unfold isB; rw [q]
    have e1 : js.any (isB d) = false := by
      rw [List.any_eq_false]
      intro j _
      rw [e0]
      exact Bool.false_ne_true
    rw [e1]
    rcases h with h | h
    · rw [q] at h; cases h
    · cases i : insD d G with
      | none => rw [i] at h; cases h
      | some _ =>
        show (if _ then _ else _) = _
        rw [if_pos hj]
/-- a comprehension over pure things -/
theorem lc_map {i : Nat} {te : TED} {Fin : List D → Gm → Prop} {δ : SD} {G : Gm} (f : D → D) : ∀ (ds acc : List D), (∀ d ∈ ds, ∀ Q : QD, Q (f d) G → te (δ.set i (some d)) G Q) → Fin (acc ++ ds.map f) G → lcD (gNameD i) dYes te Fin δ ds acc G
  | [], acc, _, q => by rw [List.map_nil, List.append_nil] at q; exact q
  | d :: ds, acc, h, q => h d List.mem_cons_self _ (lc_map f ds (acc ++ [f d]) (fun e he => h e (List.mem_cons_of_mem _ he)) (by rw [List.append_assoc]; exact q))
theorem lc_mapG {g : TGD} {te : TED} {Fin : List D → Gm → Prop} {δ : SD} {G : Gm} (f : D → D) : ∀ (ds acc : List D), (∀ d ∈ ds, ∀ Q : QD, Q (f d) G → g d δ G fun δ1 G1 => te δ1 G1 Q) → Fin (acc ++ ds.map f) G → lcD g dYes te Fin δ ds acc G
  | [], acc, _, q => by rw [List.map_nil, List.append_nil] at q; exact q
  | d :: ds, acc, h, q => h d List.mem_cons_self _ (lc_mapG f ds (acc ++ [f d]) (fun e he => h e (List.mem_cons_of_mem _ he)) (by rw [List.append_assoc]; exact q))
theorem zip_ints (ns ms : List Int) : zipD (ns.map .int) (ms.map .int) = (ns.zip ms).map fun p => .tup [.int p.1, .int p.2] := by
  unfold zipD
  rw [List.zip_map, List.map_map]
  rfl
theorem lc_filt {i : Nat} {tt : TTD} {te : TED} {Fin : List D → Gm → Prop} {δ : SD} {G : Gm} (p : D → Bool) (f : D → D) : ∀ (ds acc : List D), (∀ d ∈ ds, ∀ Q : Bool → Gm → Prop, Q (p d) G → tt (δ.set i (some d)) G Q) →
    (∀ d ∈ ds, ∀ Q : QD, p d = true → Q (f d) G → te (δ.set i (some d)) G Q) → Fin (acc ++ (ds.filter p).map f) G → lcD (gNameD i) tt te Fin δ ds acc G
  | [], acc, _, _, q => by rw [List.filter_nil, List.map_nil, List.append_nil] at q; exact q
  | d :: ds, acc, h1, h2, q => h1 d List.mem_cons_self _ (by
      cases e : p d with
      | true =>
        rw [List.filter_cons_of_pos e] at q
        exact h2 d List.mem_cons_self _ e (lc_filt p f ds (acc ++ [f d]) (fun e he => h1 e (List.mem_cons_of_mem _ he)) (fun e he => h2 e (List.mem_cons_of_mem _ he)) (by rw [List.append_assoc]; exact q))
      | false =>
        rw [List.filter_cons_of_neg (by rw [e]; exact Bool.false_ne_true)] at q
        exact lc_filt p f ds acc (fun e he => h1 e (List.mem_cons_of_mem _ he)) (fun e he => h2 e (List.mem_cons_of_mem _ he)) q)
/-- by a word: of the turn, of what is made, of what may change -/
theorem lc_inv {g : TGD} {tt : TTD} {te : TED} {Fin : List D → Gm → Prop} {δ : SD} (I : Nat → List D → Gm → Prop) {n : Nat} : ∀ (ds acc : List D) (j : Nat) (G : Gm), j + ds.length = n →
    (∀ j acc G d, d ∈ ds → j < n → I j acc G → g d δ G fun δ1 G1 => tt δ1 G1 fun b G2 => match b with | true => te δ1 G2 fun y G3 => I (j + 1) (acc ++ [y]) G3 | false => I (j + 1) acc G2) → I j acc G → (∀ acc G, I n acc G → Fin acc G) →
    (∀ (d : D) (G : Gm) (Q Q' : SD → Gm → Prop), (∀ δ G, Q δ G → Q' δ G) → g d δ G Q → g d δ G Q') → (∀ δ G (Q Q' : Bool → Gm → Prop), (∀ b G, Q b G → Q' b G) → tt δ G Q → tt δ G Q') → (∀ δ G (Q Q' : QD), (∀ b G, Q b G → Q' b G) → te δ G Q → te δ G Q') → lcD g tt te Fin δ ds acc G
  | [], acc, j, G, hj, _, h, hF, _, _, _ => by
    have e : j = n := by simpa using hj
    subst e
    exact hF acc G h
  | d :: ds, acc, j, G, hj, hs, h, hF, mg, mt, me => by
    have hj' : j + 1 + ds.length = n := by rw [List.length_cons] at hj; omega
    refine mg d G _ _ (fun δ1 G1 q => mt δ1 G1 _ _ (fun b G2 q => ?_) q) (hs j acc G d List.mem_cons_self (by omega) h)
    cases b with
    | true => exact me δ1 G2 _ _ (fun y G3 q => lc_inv I ds (acc ++ [y]) (j + 1) G3 hj' (fun j acc G e he => hs j acc G e (List.mem_cons_of_mem _ he)) q hF mg mt me) q
    | false => exact lc_inv I ds acc (j + 1) G2 hj' (fun j acc G e he => hs j acc G e (List.mem_cons_of_mem _ he)) q hF mg mt me
/-- the same, plainer: each turn is told of any end -/
theorem lc_inv' {i : Nat} {te : TED} {Fin : List D → Gm → Prop} {δ : SD} (I : Nat → List D → Gm → Prop) {n : Nat} : ∀ (ds acc : List D) (j : Nat) (G : Gm), j + ds.length = n →
    (∀ j acc G d (Q : QD), d ∈ ds → j < n → I j acc G → (∀ y G', I (j + 1) (acc ++ [y]) G' → Q y G') → te (δ.set i (some d)) G Q) → I j acc G → (∀ acc G, I n acc G → Fin acc G) → lcD (gNameD i) dYes te Fin δ ds acc G
  | [], acc, j, G, hj, _, h, hF => by
    have e : j = n := by simpa using hj
    subst e
    exact hF acc G h
  | d :: ds, acc, j, G, hj, hs, h, hF =>
    hs j acc G d _ List.mem_cons_self (by rw [List.length_cons] at hj; omega) h fun y G' q => lc_inv' I ds (acc ++ [y]) (j + 1) G' (by rw [List.length_cons] at hj; omega) (fun j acc G e Q he => hs j acc G e Q (List.mem_cons_of_mem _ he)) q hF
/-- for, by a word; each turn is told of any end -/
theorem for_inv {g : TGD} {tb : TSD} {E : EndsD} (I : Nat → SD → Gm → Prop) {n : Nat} : ∀ (ds : List D) (j : Nat) (δ : SD) (G : Gm), j + ds.length = n →
    (∀ j δ G d (N : SD → Gm → Prop), d ∈ ds → j < n → I j δ G → (∀ δ' G', I (j + 1) δ' G' → N δ' G') → g d δ G fun δ1 G1 => tb { nx := N, rt := E.rt, bk := E.nx, ct := N } δ1 G1) → I j δ G → (∀ δ G, I n δ G → E.nx δ G) → forD g tb E ds δ G
  | [], j, δ, G, hj, _, h, hF => by
    have e : j = n := by simpa using hj
    subst e
    exact hF δ G h
  | d :: ds, j, δ, G, hj, hs, h, hF =>
    hs j δ G d _ List.mem_cons_self (by rw [List.length_cons] at hj; omega) h fun δ' G' q => for_inv I ds (j + 1) δ' G' (by rw [List.length_cons] at hj; omega) (fun j δ G e N he => hs j δ G e N (List.mem_cons_of_mem _ he)) q hF
theorem small1000 {n : Nat} (h : n ≤ 1000) : n ≤ sizeLine := by
  rw [sizeLine_eq]
  omega
/-- the class facts that GoodC wants -/
theorem gc_kt {K : PySem.W.Frag} {C : Addr} (h1 : PySem.W.kitOne K (.ref C) (.type "int") = some false) (h2 : PySem.W.kitOne K (.ref C) (.type "str") = some false) (h3 : PySem.W.kitOne K (.ref C) (.type "bool") = some false) (h4 : PySem.W.kitOne K (.ref C) (.type "list") = some false)
    (h5 : PySem.W.kitOne K (.ref C) (.type "tuple") = some false) (h6 : PySem.W.kitOne K (.ref C) (.type "dict") = some false) (h7 : PySem.W.kitOne K (.ref C) (.type "set") = some false) (h8 : PySem.W.kitOne K (.ref C) (.type "bytes") = some false) (h9 : PySem.W.kitOne K (.ref C) (.type "float") = some false) :
    ∀ n ∈ tyNames, PySem.W.kitOne K (.ref C) (.type n) = some false := by
  intro n hn
  simp only [tyNames, List.mem_cons, List.not_mem_nil, or_false] at hn
  rcases hn with rfl | rfl | rfl | rfl | rfl | rfl | rfl | rfl | rfl <;> assumption
end JP

namespace JP
open PySem PySem.Spec PyProof.Rows L2

/-! ### lambdas handed to a def that calls them -/
section
variable {K : PySem.W.Frag} {Tb : List (Addr × Str)} {F F' H H' Z : Hp} {G : Gm}
theorem DS.extN (d : DS K Tb F H G Z) (s : LamX.ExtN H H') (t : LamX.Tabs Tb H') : DS K Tb F H' G Z :=
  ⟨fun a o e => s _ _ (d.sub a o e) fun ps z => by
      subst z
      exact d.ft a _ e,
    fun a m e => ⟨(d.mu a m e).1, (d.mu a m e).2.mono (.refl F) fun o q => s _ _ q fun ps z => by
      subst z
      obtain ⟨o', q', mu⟩ := (d.mu a m e).2.at_
      rw [q] at q'
      cases q'
      exact mu⟩,
    fun a o e => s _ _ (d.zub a o e) fun ps z => by
      subst z
      exact (d.zf a _ e).2.2,
    d.zf, d.ft, t⟩
/-- a reading of the lambda's call, by trees -/
abbrev CallD := WD → Gm → QD → Prop
def tlD (K : PySem.W.Frag) (B : Bs) (F0 : Hp) (tl : XK → Hp → VK → Prop) : CallD := fun W G Qd => ∀ (F H : Hp) (E : XK) (Q : VK), Same F0 F → DS K B.T F H G B.Z →
  (∀ cls dd H', XW K ⟨F, B.Z, B.T⟩ W cls dd H' → E cls dd H') → (∀ v H', BehR K ⟨F, B.Z, B.T⟩ F Qd v H' → Q v H') → tl E H Q
abbrev HearD := CallD → Gm → QD → Prop
def TTH (K : PySem.W.Frag) (B : Bs) (hd : HearD) : (XK → Hp → VK → Prop) → Hp → VK → Prop := fun tl H Q =>
  ∃ F G Qd, Same B.F F ∧ DS K B.T F H G B.Z ∧ (∀ v H', BehR K B F Qd v H' → Q v H') ∧ hd (tlD K B F tl) G Qd
def dLam (hd : HearD) (T : WD → TED) : TED := fun δ G Qd => hd (fun W G' Q' => T W δ G' Q') G Qd
def MonoH (hd : HearD) : Prop := ∀ (c c' : CallD) (G : Gm) (Q : QD), (∀ W G Q, c W G Q → c' W G Q) → hd c G Q → hd c' G Q
end
section
variable {X : Cx} {B : Bs}
theorem de_lam {hd : HearD} {x a : Str} {g c P : Addr} {k : Nat} {pg : Arguments} {bg : List Stmt} {sg : Scope} {dV kV doc pm cdv ct oc : Value} {an od : Option Addr} {osl : Array (Option Value)} {Ng : List Str}
    {params : Arguments} {body : Expr} {scope : Scope} {T : WD → TED} {p lpos pos : Pos} (mono : MonoH hd) (hg : Gl X x) (hm : X.mg x = some (.ref g)) (hk : PySem.W.keepIn X.K (.ref g) = true)
    (lk : X.K.lookup g = some ⟨oc, od, .func (PySem.W.fnOf x x pg bg sg dV kV doc pm an cdv ct), osl⟩) (hcg : PySem.W.codeIn X.K cdv x = true) (hb : L2.Binds X.K (PySem.W.fnOf x x pg bg sg dV kV doc pm an cdv ct) [a] []) (Sg : FnScope Ng [a] sg) (hNg : Ng[0]? = some a) (hva : Vis sg a)
    (hG : LamX.GivesTo X Ng x sg g cdv bg a (X.env.qual ++ "<lambda>") (TTH X.K B hd))
    (TB : LamX.TabB X.base X.mg c P) (hcode : X.env.code = .ref c) (hmT : (P, X.env.qual ++ "<lambda>") ∈ B.T) (hu : ∀ p ∈ B.T, p.1 = P → p.2 = X.env.qual ++ "<lambda>") (hr : Room (k + 2) X.A) (L : LamX.LamS X.env.scope scope) (hdef : defaultsOf params X.env = ([], []))
    (hbind : ∀ (q : Str) (cl : List (Str × Addr)) (pm cv ctv : Value), bindArgs (PySem.W.kla_fn "<lambda>" q params body scope cl pm cv ctv) ⟨[], []⟩ = pure [])
    (hbody : ∀ (A : Around) (outer : List Env) (s : Shared) (H : Hp) (E : XK) (f c' : Addr) (B' : Bs) (W : WD), B'.T = B.T → B'.Z = B.Z → Room k (A.deeper (LamX.lamEnv X scope s.heap.objs.size f c')) →
      Takes (LamX.lamCx X A outer s H E scope f c') (fun cls d _ H => XW X.K B' W cls d H) → DE (LamX.lamCx X A outer s H E scope f c') B' body (T W))
    (hdb : (x == ("__debug__" : Str)) = false := by decide) (hd1 : (a == ("__debug__" : Str)) = false := by decide) (hcd : (a == ("__classdict__" : Str)) = false := by decide) :
    DE X B (.Call (.Name x p) [.Lambda params body scope lpos] [] pos) (dLam hd T) :=
  PE.weak (LamX.pe_lamcall (T := B.T) (t := fun E σ H Q => ∃ (B' : Bs) (W : WD), B'.T = B.T ∧ B'.Z = B.Z ∧ (∀ cls dd H', XW X.K B' W cls dd H' → E cls dd H') ∧ up X.K B' (T W) σ H Q) hg hm hk lk hcg hb Sg hNg hva hG TB hcode hmT hu hr L hdef hbind
    (fun A outer s H E f c' hr' => ⟨fun pins s' σ H' Q I ⟨B', W, e1, e2, hE, h⟩ => (hbody A outer s H E f c' B' W e1 e2 hr' ((takes_of rfl rfl rfl rfl).imp fun cls d _ H q => hE cls d H q)).run pins s' σ H' Q I h⟩) hdb hd1 hcd)
    fun σ H Q ⟨F, G, δ, Qd, S, h, kk⟩ => ⟨S.ds.tab, fun H1 e1 t1 => ⟨F, G, Qd, S.gr, S.ds.extN e1 t1, fun v H' ⟨F', G', d, s', ds', gr', r', q'⟩ => kk v H' ⟨F', G', d, s', ⟨ds', gr', S.sl.mono s'⟩, r', q'⟩,
      mono _ _ _ _ (fun W G' Q' hT F2 H2 E Q2 s2 d2 xe kq => ⟨⟨F2, B.Z, B.T⟩, W, rfl, rfl, xe, F2, G', δ, Q', ⟨d2, .refl F2, S.sl.mono s2⟩, hT, fun v H' ⟨F', G'', d, s', S', r', q'⟩ => kq v H' ⟨F', G'', d, s', S'.ds, s', r', q'⟩⟩) h⟩⟩

/-! ### the def that got the lambda -/
def dAct (f : Addr) (hc : CallD) (W : WD) : TED := fun δ G Q => (match δ[0]? with | some (some (D.adr f')) => f' = f | _ => False) ∧ hc W G Q
theorem codeO_notT {c : Addr} {q : Str} : notT (LamX.CodeO c q) := trivial
theorem codeO_notM {c : Addr} {q : Str} : ¬ mutO (LamX.CodeO c q) := fun h => h
abbrev hearCx (X : Cx) (Ng : List Str) (x : Str) (sg : Scope) (g : Addr) (cdg : Value) (s : Shared) (H : Hp) : Cx := cxOf C8.CX0 X.prog X.w X.K X.mg X.base Ng x sg g cdg X.A X.stack s H C8.E0
def MonoC (hc : CallD) : Prop := ∀ (W W' : WD) (G : Gm) (Q Q' : QD), (∀ C fs G, W C fs G → W' C fs G) → (∀ d G, Q d G → Q' d G) → hc W G Q → hc W' G Q'
theorem gives_of {hd : HearD} {x a q : Str} {g : Addr} {cdg : Value} {bg : List Stmt} {sg : Scope} {Ng : List Str}
    (h : ∀ (f : Addr) (s : Shared) (H : Hp) (B' : Bs) (hc : CallD), MonoC hc →
      (∀ (B2 : Bs) (W : WD) (pn : List (Addr × Obj)) (xe : Value → Shared → Prop) (p1 p2 : Pos), Same B'.F B2.F → B2.T = B'.T → B2.Z = B'.Z → Takes ((hearCx X Ng x sg g cdg s H).tr pn xe) (fun cls d _ H => XW X.K B2 W cls d H) →
        DE ((hearCx X Ng x sg g cdg s H).tr pn xe) B2 (.Call (.Name a p1) [] [] p2) (dAct f hc W)) →
      ∃ T, DB (hearCx X Ng x sg g cdg s H).nox B' bg T ∧ ∀ G Qd, hd hc G Qd → T { nx := fun _ G => Qd .non G, rt := Qd } (startD Ng [.adr f]) G) :
    LamX.GivesTo X Ng x sg g cdg bg a q (TTH X.K B hd) := by
  rintro f c' s H Q tl act hc ⟨F, G, Qd, sF, ds, kq, hh⟩
  obtain ⟨d1, s1⟩ := ds.frz hc (ds.notM hc codeO_notM).1 (ds.notM hc codeO_notM).2 codeO_notT
  obtain ⟨T, hT, hq⟩ := h f s H ⟨upd F c' (LamX.CodeO c' q), B.Z, B.T⟩ (tlD X.K B F tl) (fun W W' G Q Q' hW hQ q F2 H2 E2 Q2 s2 d2 xe kq => q F2 H2 E2 Q2 s2 d2 (fun cls dd H' ⟨F', G', C, fs, e, s', ds', xr, w⟩ => xe cls dd H' ⟨F', G', C, fs, e, s', ds', xr, hW _ _ _ w⟩) fun v H' ⟨F', G', d, s', ds', gr', r', q'⟩ => kq v H' ⟨F', G', d, s', ds', gr', r', hQ _ _ q'⟩) (fun B2 W pn xe p1 p2 sB eT eZ tk => by
    refine PE.weak (act (fun cls d _ H => XW X.K B2 W cls d H) pn xe (XW X.K B2 W) p1 p2 tk (fun _ _ _ _ z => z)) fun σ2 H2 Q2 ⟨F2, G2, δ2, Qd2, S2, ⟨h0, h1⟩, kk⟩ => ?_
    obtain ⟨BF, BZ, BT⟩ := B2
    obtain rfl : BT = B.T := eT
    obtain rfl : BZ = B.Z := eZ
    refine ⟨?_, S2.ds.sub _ _ (S2.gr _ _ (sB _ _ upd_same)), h1 F2 H2 _ _ (s1.trans (sB.trans S2.gr)) S2.ds (fun cls dd H' ⟨F', G', C, fs, e, s', ds', xr, w⟩ => ⟨F', G', C, fs, e, S2.gr.trans s', ds', xr, w⟩) fun v H' ⟨F', G', d, s', ds', gr', r', q'⟩ => kk v H' ⟨F', G', d, s', ⟨ds', S2.gr.trans s', S2.sl.mono s'⟩, r', q'⟩⟩
    cases e0 : δ2[0]? with
    | none => rw [e0] at h0; exact h0.elim
    | some o =>
      cases o with
      | none => rw [e0] at h0; exact h0.elim
      | some d =>
        rw [e0] at h0
        cases d with
        | adr f' =>
          obtain rfl : f' = f := h0
          obtain ⟨v, ev, rv⟩ := S2.sl.get 0 _ e0
          cases rv
          exact ev
        | _ => exact h0.elim)
  refine ⟨upS X.K _ T, hT, upd F c' (LamX.CodeO c' q), G, startD Ng [.adr f], _, ⟨d1, .refl _, sl_start (.cons (.adr f) .nil)⟩, hq G Qd hh, ?_⟩
  have kq' : ∀ v H', BehR X.K ⟨upd F c' (LamX.CodeO c' q), B.Z, B.T⟩ (upd F c' (LamX.CodeO c' q)) Qd v H' → Q v H' := fun v H' ⟨F', G', d, s', ds', gr', r', q'⟩ => kq v H' ⟨F', G', d, s1.trans s', ds', sF.trans (s1.trans s'), r', q'⟩
  exact ⟨fun σ H' ⟨F', G', δ', s', S', q'⟩ => kq' _ _ ⟨F', G', .non, s', S'.ds, S'.gr, .non, q'⟩, fun v H' q' => kq' v H' q', fun _ _ ⟨_, _, _, _, _, q'⟩ => q'.elim, fun _ _ ⟨_, _, _, _, _, q'⟩ => q'.elim⟩
theorem db_never {ss : List Stmt} : DB X B ss (fun _ _ _ => False) := PSs.weak pss_never fun D σ H ⟨F, G, δ, E, S, h, L⟩ => h

/-! ### try: .. except C as n: m = n -/
def tryHD (K : PySem.W.Frag) (C : Addr) (n j : Nat) (T : WD → TSD) : TSD := fun E δ G =>
  T (fun C' fs G' => fs ≠ [] ∧ ExcC K C' ∧ PySem.W.exmOne K (.ref C') (.ref C) = some true ∧ E.nx ((List.replicate n none).set j (some (.exc C' fs))) G') E δ G
theorem ds_tryH {x n m : Str} {C : Addr} {i j : Nat} {body : List Stmt} {np mp np' ap pos' pos : Pos} {T : WD → TSD}
    (hs : X.stack = X.env :: X.outer) (hf : X.env.frame = some X.env.locals) (hex : X.ex = []) (hN : X.N.Nodup) (hi : X.N[i]? = some n) (hj : X.N[j]? = some m) (hij : i ≠ j) (hln : X.env.kindOf n = some .local) (hc : Names X x (.ref C))
    (hsu : ∀ (a : Addr) (oe : Obj) (cls : Value) (d : Option Addr) (pn : List (Addr × Obj)), PSs (X.suite a ((a, oe) :: pn)) [.Assign [.Name m mp] (.Name n np') ap] (tAsg (tVar i) (gName j)))
    (hb : ∀ (B' : Bs) (W : WD) (pn : List (Addr × Obj)) (xe : Value → Shared → Prop), Same B.F B'.F → B'.T = B.T → B'.Z = B.Z → Takes (X.tr pn xe) (fun cls d _ H => XW X.K B' W cls d H) → DB (X.tr pn xe) B' body (T W)) :
    DSt X B (.Try body [.ExceptHandler (some (.Name x np)) (some n) [.Assign [.Name m mp] (.Name n np') ap] pos'] [] [] pos) (tryHD X.K C X.N.length j T) :=
  PS.weak (ps_try_heldL (tb := fun Wx D σ H => ∃ (B' : Bs) (W : WD), Same B.F B'.F ∧ B'.T = B.T ∧ B'.Z = B.Z ∧ (∀ cls d σ' H', XW X.K B' W cls d H' → Wx cls d σ' H') ∧ upS X.K B' (T W) D σ H) hs hf hex hN hi hln hc takesN
    (fun Wx pn xe tk po => ⟨fun pins s σ H D I ⟨B', W, e0, e1, e2, hW, h⟩ => (hb B' W pn xe e0 e1 e2 (tk.imp fun c d σ H q => hW c d σ H q)).run pins s σ H D I h⟩)
    (fun a oe cls d pn _ _ => hsu a oe cls d pn)) fun D σ H ⟨F, G, δ, E, S, h, L⟩ => by
    refine ⟨⟨F, B.Z, B.T⟩, _, S.gr, rfl, rfl, ?_, F, G, δ, E, ⟨S.ds, .refl F, S.sl⟩, h, ⟨fun σ' H' ⟨F', G', δ', s', S', q'⟩ => L.nx σ' H' ⟨F', G', δ', s', ⟨S'.ds, S.gr.trans s', S'.sl⟩, q'⟩, fun v H' ⟨F', G', d, s', ds', gr', r', q'⟩ => L.rt v H' ⟨F', G', d, s', ds', S.gr.trans s', r', q'⟩,
      fun σ' H' ⟨F', G', δ', s', S', q'⟩ => L.bk σ' H' ⟨F', G', δ', s', ⟨S'.ds, S.gr.trans s', S'.sl⟩, q'⟩, fun σ' H' ⟨F', G', δ', s', S', q'⟩ => L.ct σ' H' ⟨F', G', δ', s', ⟨S'.ds, S.gr.trans s', S'.sl⟩, q'⟩⟩⟩
    rintro cls dd σ' H' ⟨F', G', C', fs, rfl, s', ds', xr, ne, ec, em, q⟩ hlen
    refine ⟨true, em, fun _ a na => ?_, fun z => by cases z⟩
    rcases xr with ⟨_, z⟩ | ⟨a', fv, rfl, hx, rf⟩
    · exact absurd z ne
    have hil : i < σ'.length := by rw [hlen]; exact (List.getElem?_eq_some_iff.mp hi).1
    have hjl : j < σ'.length := by rw [hlen]; exact (List.getElem?_eq_some_iff.mp hj).1
    obtain ⟨d2, s2⟩ := ds'.new (o := xo a (.ref C') (some a')) na trivial
    refine ⟨.ref a, by rw [List.getElem?_set_self hil], ?_⟩
    refine L.nx _ _ ⟨_, G', _, s'.trans s2, ⟨d2, (S.gr.trans s').trans s2, ⟨by simp [hlen], fun k d e => ?_⟩⟩, q⟩
    rw [List.getElem?_set] at e
    split at e
    · rename_i ek
      subst ek
      split at e
      · cases e
        refine ⟨.ref a, ?_, .exc (.inl ⟨a', upd_same, s2 _ _ hx⟩) ec (rf.mono s2)⟩
        rw [List.getElem?_set_ne hij, List.getElem?_set_self (by simpa using hjl)]
      · cases e
    · rw [List.getElem?_replicate] at e
      split at e <;> cases e
end

/-! ### defs that make lambdas: their tables are told -/
def lowSpT (K : PySem.W.Frag) (Tb : List (Addr × Str)) (sp : SpD) : Sp := fun vs H Q E => ∃ (B : Bs) (G : Gm) (ds : List D) (Qd : QD) (W : WD), B.T = Tb ∧ DS K B.T B.F H G B.Z ∧ RepAll K B.F vs ds ∧ sp ds G Qd W ∧ (∀ v H', BehR K B B.F Qd v H' → Q v H') ∧ (∀ cls dd H', XW K B W cls dd H' → E cls dd H')
abbrev FnT (P : Program) (w : World) (K : PySem.W.Frag) (mg : Str → Option Value) (base : Heap) (Tb : List (Addr × Str)) (k : Nat) (f : Addr) (fd : FuncData) (ps : List Str) (sp : SpD) : Prop := FnOk P w K mg base (L2.CX P w) k f fd ps (lowSpT K Tb sp)
abbrev GnT (P : Program) (w : World) (K : PySem.W.Frag) (mg : Str → Option Value) (base : Heap) (Tb : List (Addr × Str)) (k : Nat) (f : Addr) (fd : FuncData) (ps : List Str) (sp : SpD) : Prop := GOk P w K mg base k f fd ps (lowSpT K Tb sp)
section
variable {P : Program} {w : World} {K : PySem.W.Frag} {mg : Str → Option Value} {base : Heap} {Tb : List (Addr × Str)} {k : Nat} {f : Addr} {fd : FuncData} {ps N : List Str} {sp : SpD}
theorem dfnT {x qual : Str} {st : Stmt} {c : Addr} (F : Fun K x qual st f fd) (hc : fd.code = .ref c) (S : FnScope N ps (defScope st)) (len : ∀ ds G Q W, sp ds G Q W → ds.length = ps.length)
    (body : ∀ (A : Around) (outer : List Env) (s : Shared) (H : Hp) (E : XK) (B : Bs) (W : WD), B.T = Tb → Room k (A.deeper (envOfC qual (defScope st) s.heap.objs.size f (.ref c))) →
      Takes (cxOf (L2.CX P w) P w K mg base N qual (defScope st) f (.ref c) A outer s H E) (fun cls d _ H => XW K B W cls d H) →
      ∃ T, DB (cxOf (L2.CX P w) P w K mg base N qual (defScope st) f (.ref c) A outer s H E) B (defBody st) T ∧ ∀ ds G Q, sp ds G Q W → T { nx := fun _ G => Q .non G, rt := Q } (startD N ds) G) :
    FnT P w K mg base Tb (k + 1) f fd ps sp := by
  obtain ⟨oc, od, kV, doc, pm, an, cdv, ct, osl, rfl, lk, hcd⟩ := F.ex
  obtain rfl : cdv = .ref c := hc
  refine ⟨fun vs H Q E ⟨B, G, ds, Qd, W, _, d, r, h, _, _⟩ => r.length.trans (len ds G Qd W h), fun A outer s H args us vs Q E hr e0 hb rv ⟨B, G, ds, Qd, W, eT, d, r, h, kq, ke⟩ => ?_⟩
  refine LamX.run_ofS lk hcd S hr e0 hb rv (r.length.trans (len ds G Qd W h)) fun hr' => ?_
  obtain ⟨T, hT, hq⟩ := body A outer s H E B W eT hr' ((takes_of rfl rfl rfl rfl).imp fun c d _ H q => ke c d H q)
  exact ⟨upS K B T, hT, B.F, G, startD N ds, _, ⟨d, .refl B.F, sl_start r⟩, hq ds G Qd h, ⟨fun σ H' ⟨F', G', δ', s', S', q⟩ => kq _ _ ⟨F', G', .non, s', S'.ds, S'.gr, .non, q⟩, fun v H' q => kq v H' q, fun _ _ ⟨_, _, _, _, _, q⟩ => q.elim, fun _ _ ⟨_, _, _, _, _, q⟩ => q.elim⟩⟩
theorem dfgT {x qual : Str} {st : Stmt} {c : Addr} (F : Fun K x qual st f fd) (hc : fd.code = .ref c) (S : FnScope N ps (defScope st)) (len : ∀ ds G Q W, sp ds G Q W → ds.length = ps.length)
    (body : ∀ (A : Around) (outer : List Env) (s : Shared) (H : Hp) (E : XK) (B : Bs), B.T = Tb → A.guards = some [] → Room k (A.deeper (envOfC qual (defScope st) s.heap.objs.size f (.ref c))) →
      ∃ T, DB (cxOf CX0 P w K mg base N qual (defScope st) f (.ref c) A outer s H E).nox B (defBody st) T ∧ ∀ ds G Q W, sp ds G Q W → T { nx := fun _ G => Q .non G, rt := Q } (startD N ds) G) :
    GnT P w K mg base Tb (k + 1) f fd ps sp := by
  obtain ⟨oc, od, kV, doc, pm, an, cdv, ct, osl, rfl, lk, hcd⟩ := F.ex
  obtain rfl : cdv = .ref c := hc
  refine ⟨fun vs H Q E ⟨B, G, ds, Qd, W, _, d, r, h, _, _⟩ => r.length.trans (len ds G Qd W h), fun A outer s H args us vs Q E g hr e0 hb rv ⟨B, G, ds, Qd, W, eT, d, r, h, kq, ke⟩ => ?_⟩
  refine LamX.run_ofS lk hcd S hr e0 hb rv (r.length.trans (len ds G Qd W h)) fun hr' => ?_
  obtain ⟨T, hT, hq⟩ := body A outer s H E B eT g hr'
  exact ⟨upS K B T, PSs.nox hT, B.F, G, startD N ds, _, ⟨d, .refl B.F, sl_start r⟩, hq ds G Qd W h, ⟨fun σ H' ⟨F', G', δ', s', S', q⟩ => kq _ _ ⟨F', G', .non, s', S'.ds, S'.gr, .non, q⟩, fun v H' q => kq v H' q, fun _ _ ⟨_, _, _, _, _, q⟩ => q.elim, fun _ _ ⟨_, _, _, _, _, q⟩ => q.elim⟩⟩
end
section
variable {X : Cx} {B : Bs} {K : PySem.W.Frag} {W : WD} {k : Nat} {f : Addr} {fd : FuncData} {ps : List Str} {sp : SpD} {x : Str} {p pos : Pos} {e : Expr} {es : List Expr} {t : TAD} {σ : L2.St} {H F : Hp} {δ : SD} {G : Gm}
theorem low_ofT {Q : VK} {Qd : QD} {vs : List V} {ds : List D} {F1 : Hp} {G1 : Gm} (kk : ∀ v H', Beh K B σ F δ Qd v H' → Q v H') (s1 : Same F F1) (S1 : Sit K B σ H F1 δ G1) (r : RepAll K F1 vs ds) (h : sp ds G1 Qd W) : lowSpT K B.T sp vs H Q (XW K B W) :=
  ⟨⟨F1, B.Z, B.T⟩, G1, ds, Qd, W, rfl, S1.ds, r, h, fun v H' ⟨F', G', d, s', ds', _, r', q'⟩ => kk v H' ⟨F', G', d, s1.trans s', ⟨ds', S1.gr.trans s', S1.sl.mono s'⟩, r', q'⟩,
    fun cls dd H' ⟨F', G', C, fs, e, s', ds', xr, w⟩ => ⟨F', G', C, fs, e, S1.gr.trans s', ds', xr, w⟩⟩
theorem de_callT {Tb : List (Addr × Str)} (eT : B.T = Tb) (Fn : FnT X.prog X.w X.K X.mg X.base Tb k f fd ps sp) (hr : Room k X.A) (hg : Gl X x) (hm : X.mg x = some (.ref f)) (hk : PySem.W.keepIn X.K (.ref f) = true) (hb : Binds X.K fd ps []) (hx : Passes (L2.CX X.prog X.w) X (XW X.K B W))
    (ha : DA X B (e :: es) t) (hdb : (x == ("__debug__" : Str)) = false := by decide) (he : starEach (e :: es) X.env = (false, eval e X.env) :: starEach es X.env := by rfl) (hpl : (backTo pos (starEach es X.env)).any (·.1) = false := by rfl) :
    DE X B (.Call (.Name x p) (e :: es) [] pos) (dCall sp W t) := by
  subst eT
  exact PE.weak (pe_call Fn hr hg hm hk hb .nil hx ha hdb he hpl) fun σ H Q ⟨F, G, δ, Qd, S, h, kk⟩ => ⟨F, G, δ, _, S, h, fun vs H1 ⟨F1, G1, ds, s1, S1, r1, h1⟩ => by
    show lowSpT X.K B.T sp (vs ++ []) H1 Q _
    rw [List.append_nil]
    exact low_ofT kk s1 S1 r1 h1⟩
theorem de_gT {Tb : List (Addr × Str)} (eT : B.T = Tb) (Fn : GnT X.prog X.w X.K X.mg X.base Tb k f fd ps sp) (g : X.A.guards = some []) (hr : Room k X.A) (hg : Gl X x) (hm : X.mg x = some (.ref f)) (hk : PySem.W.keepIn X.K (.ref f) = true) (hb : Binds X.K fd ps [])
    (ha : DA X B (e :: es) t) (hdb : (x == ("__debug__" : Str)) = false := by decide) (he : starEach (e :: es) X.env = (false, eval e X.env) :: starEach es X.env := by rfl) (hpl : (backTo pos (starEach es X.env)).any (·.1) = false := by rfl) :
    DE X B (.Call (.Name x p) (e :: es) [] pos) (dCall sp WN t) := by
  subst eT
  exact PE.weak (pe_g (E := XW X.K B WN) Fn g hr hg hm hk hb .nil ha hdb he hpl) fun σ H Q ⟨F, G, δ, Qd, S, h, kk⟩ => ⟨F, G, δ, _, S, h, fun vs H1 ⟨F1, G1, ds, s1, S1, r1, h1⟩ => by
    show lowSpT X.K B.T sp (vs ++ []) H1 Q _
    rw [List.append_nil]
    exact low_ofT kk s1 S1 r1 h1⟩
end
end JP

namespace JP
open PySem PySem.Spec PyProof.Rows L2

/-! ### x(k = v, ..), x of an own class -/
theorem callO_kw {M : Model} {A : Around} {E : Value → Shared → Prop} {s : Shared} {a : Addr} {pos : Pos} {Q : Value → Shared → Prop} {args : List (Bool × Sem Value)} {kws : List (Option Str × Sem Value)}
    (hp : (args.any (·.1) || kws.any (·.1.isNone)) = false)
    (h : wpAny M A (evalArgs (.ref a) true args kws) (fun z t => (∃ C ox od, PySem.W.InstAt t.heap a ox C od ∧ ox.data = .plain) ∧ wpAny M A (call (.ref a) ([] ++ z.pos) z.kw) Q E t) E s) :
    wpAny M A (callWith pos (.ref a) [] args kws) Q E s := by
  unfold callWith
  apply wpAny_bind
  apply wpAny_holding
  apply wpAny_mono h
  · rintro z t ⟨⟨C, ox, od, J, d0⟩, g⟩
    apply wpAny_bind
    apply wpAny_standAt
    simp only [hp]
    apply wpAny_bind
    apply (PySem.W.kco_keeper (M := M) J d0).here
    apply wpAny_bind
    refine wpAny_mono (wpAny_operateT g) (fun r u hr => ?_) fun _ _ q => q
    exact wpAny_bind (wpAny_holding (wpAny_point (wpAny_pure hr)))
  · intro _ _ q
    exact q
def tCallOK (X : Cx) (C : Addr) (n : Nat) (sp : Sp) (gV : List V → List V → List V) (E : XK) (tf : TE) (tk : TA) : TE := fun σ H Q => tf σ H fun y H1 => ∃ a, y = V.ref a ∧ tk σ H1 fun zs H2 => zs.length = n ∧ StX.InsC X H2 a C ∧ sp (gV [.ref a] zs) H2 Q E
section
variable {X : Cx} {B : Bs} {CX : CXT} {k : Nat} {f C : Addr} {fd : FuncData} {ps ks : List Str} {fe : Expr} {pos : Pos} {kws : List Keyword} {g : List Value → List Value → List Value} {gV : List V → List V → List V} {gD : List D → List D → List D}
theorem pe_callOK {sp : Sp} {E : XK} {tf : TE} {tk : TA} (hf : PE X fe tf) (c : StX.CallO X.K C f) (F : FnOk X.prog X.w X.K X.mg X.base CX k f fd ps sp) (hr : Room k X.A) (hb : KBn X.K fd ps 1 ks g gV) (hx : Passes CX X E) (hkw : PK X kws tk)
    (hall : (backToKw pos (keywordEach kws X.env)).all (·.1.isSome) = true := by rfl) (hks : (backToKw pos (keywordEach kws X.env)).filterMap (·.1) = ks := by rfl)
    (ht : eval (.Call fe [] kws pos) X.env = (do callWith pos (← eval fe X.env) [] (backTo pos (starEach [] X.env)) (backToKw pos (keywordEach kws X.env))) := by rfl)
    (hpl : ((backTo pos (starEach [] X.env)).any (·.1) || (backToKw pos (keywordEach kws X.env)).any (·.1.isNone)) = false := by rfl) : PE X (.Call fe [] kws pos) (tCallOK X C ks.length sp gV E tf tk) := by
  constructor
  intro pins s σ H Q I h
  rw [ht]
  refine wpAny_bind (thn (hf.run pins s σ H _ I h) ?_)
  rintro u s1 ⟨y, H1, I1, ry, a, rfl, q⟩
  obtain rfl : u = Value.ref a := ry
  apply callO_kw hpl
  apply evalArgs_kw2_nil hall
  refine thn (hkw.run pos pins s1 σ H1 _ I1 q) ?_
  rintro ws s2 ⟨zs, H2, I2, rz, lz, hi, q2⟩
  obtain ⟨ox, od, J, hd⟩ := StX.insC_at I2 hi
  refine ⟨⟨C, ox, od, J, hd⟩, ?_⟩
  rw [hks]
  have r1 : Vals [V.ref a] [Value.ref a] := .cons rfl .nil
  have run := F.run X.A X.stack s2 H2 ⟨[.ref a], ks.zip ws⟩ (g [.ref a] ws) (gV [.ref a] zs) Q E hr I2.env0 (hb.to s2 [.ref a] ws I2.kIn rfl (rz.length.symm.trans lz)) (hb.rel r1 rz) q2
  apply wpAny_call
  apply PySem.W.kco_code (a := ⟨[], ks.zip ws⟩) I2.kIn J hd c.at_ c.fn c.fi
  apply codeAny_mono run
  intro r s' hq
  match r, hq with
  | .error e, hq => exact hx pins σ H2 s2 e s' I2 hq
  | .ok (.ret u), hq => exact I2.after hq
  | .ok .next, hq => exact hq.elim
  | .ok .brk, hq => exact hq.elim
  | .ok .cont, hq => exact hq.elim
def dCallOK (C : Addr) (n : Nat) (sp : SpD) (gD : List D → List D → List D) (W : WD) (tf : TED) (tk : TAD) : TED := fun δ G Q => tf δ G fun d G1 => isO d = true ∧ tk δ G1 fun ds G2 => ds.length = n ∧ match insD d G2 with | some (C', _) => C' = C ∧ sp (gD [d] ds) G2 Q W | none => False
theorem de_callOK {sp : SpD} {W : WD} {tf : TED} {tk : TAD} (hf : DE X B fe tf) (c : StX.CallO X.K C f) (Fn : FnD X.prog X.w X.K X.mg X.base k f fd ps sp) (hr : Room k X.A) (hb : KBn X.K fd ps 1 ks g gV) (hx : Passes (L2.CX X.prog X.w) X (XW X.K B W)) (hp : PermOk gV gD) (hkw : DK X B kws tk)
    (hall : (backToKw pos (keywordEach kws X.env)).all (·.1.isSome) = true := by rfl) (hks : (backToKw pos (keywordEach kws X.env)).filterMap (·.1) = ks := by rfl)
    (ht : eval (.Call fe [] kws pos) X.env = (do callWith pos (← eval fe X.env) [] (backTo pos (starEach [] X.env)) (backToKw pos (keywordEach kws X.env))) := by rfl)
    (hpl : ((backTo pos (starEach [] X.env)).any (·.1) || (backToKw pos (keywordEach kws X.env)).any (·.1.isNone)) = false := by rfl) : DE X B (.Call fe [] kws pos) (dCallOK C ks.length sp gD W tf tk) :=
  PE.weak (pe_callOK hf c Fn hr hb hx hkw hall hks ht hpl) fun σ H Q ⟨F, G, δ, Qd, S, h, kk⟩ => ⟨F, G, δ, _, S, h, fun v H1 ⟨F1, G1, d, s1, S1, r1, ho, h1⟩ => by
    obtain ⟨a, rfl⟩ := isO_ref r1 ho
    refine ⟨a, rfl, F1, G1, δ, _, S1, h1, fun zs H2 ⟨F2, G2, ds, s2, S2, r2, hl, h2⟩ => ?_⟩
    cases q : insD d G2 with
    | none => simp only [q] at h2
    | some cf =>
      obtain ⟨C', fs⟩ := cf
      simp only [q] at h2
      obtain ⟨rfl, h3⟩ := h2
      have r3 := r1.mono s2
      obtain ⟨a', dx, fv, ea, e1, gc, na, rf⟩ := ins_rep S2 r3 q
      cases ea
      exact ⟨r2.length.trans hl, .inr ⟨dx, fv, e1⟩, low_of kk (s1.trans s2) S2 (hp _ _ _ _ _ _ (.cons r3 .nil) r2) h3⟩⟩
end
/-! ### ==, != by own classes, the fragment by its name -/
section
variable {X : Cx} {B : Bs} {K : PySem.W.Frag} {a b : Expr} {ta tb : TED} {pos : Pos} {W : WD} {k : Nat} {f C : Addr} {fd : FuncData} {ps : List Str} {sp : SpD}
theorem de_eqOK (hK : X.K = K) (M : OwnM X.K C "__eq__" f) (Fn : FnD X.prog X.w X.K X.mg X.base k f fd ps sp) (hb : Binds X.K fd ps []) (hr : Room k X.A) (hx : Passes (L2.CX X.prog X.w) X (XW X.K B W)) (ha : DE X B a ta) (hb2 : DE X B b tb) : DE X B (.Compare a [.Eq] [b] pos) (dOp (eqOD K C sp W false) ta tb) := hK ▸ de_eqO M Fn hb hr hx ha hb2
theorem dt_eqOK (hK : X.K = K) (M : OwnM X.K C "__eq__" f) (Fn : FnD X.prog X.w X.K X.mg X.base k f fd ps sp) (hb : Binds X.K fd ps []) (hr : Room k X.A) (hx : Passes (L2.CX X.prog X.w) X (XW X.K B W)) (ha : DE X B a ta) (hb2 : DE X B b tb) : DT X B (.Compare a [.Eq] [b] pos) (dTest (dOp (eqOD K C sp W false) ta tb)) := hK ▸ dt_eqO M Fn hb hr hx ha hb2
theorem de_neOK (hK : X.K = K) (M : OwnM X.K C "__eq__" f) (hne : PySem.W.findIn X.K (.ref C) "__ne__" = some (some (.builtin "object.__ne__"))) (hmr : PySem.W.mroIn X.K C (.type "object") = some true) (Fn : FnD X.prog X.w X.K X.mg X.base k f fd ps sp) (hb : Binds X.K fd ps []) (hr : Room (k + 1) X.A) (hx : Passes (L2.CX X.prog X.w) X (XW X.K B W)) (ha : DE X B a ta) (hb2 : DE X B b tb) :
    DE X B (.Compare a [.NotEq] [b] pos) (dOp (eqOD K C sp W true) ta tb) := hK ▸ de_neO M hne hmr Fn hb hr hx ha hb2
theorem dt_neOK (hK : X.K = K) (M : OwnM X.K C "__eq__" f) (hne : PySem.W.findIn X.K (.ref C) "__ne__" = some (some (.builtin "object.__ne__"))) (hmr : PySem.W.mroIn X.K C (.type "object") = some true) (Fn : FnD X.prog X.w X.K X.mg X.base k f fd ps sp) (hb : Binds X.K fd ps []) (hr : Room (k + 1) X.A) (hx : Passes (L2.CX X.prog X.w) X (XW X.K B W)) (ha : DE X B a ta) (hb2 : DE X B b tb) :
    DT X B (.Compare a [.NotEq] [b] pos) (dTest (dOp (eqOD K C sp W true) ta tb)) := hK ▸ dt_neO M hne hmr Fn hb hr hx ha hb2
end
end JP

namespace JP
open PySem PySem.Spec PyProof.Rows L2

/-! ### x + y, x * y, .. of one own class; ~x -/
def rBinO (C : Addr) (sp : Sp) (E : XK) : R2 := fun x y H Q => ∃ a dx fs b dy gs, x = .ref a ∧ y = .ref b ∧ H a = some (.ins C dx fs) ∧ H b = some (.ins C dy gs) ∧ sp [.ref a, .ref b] H (fun v H' => (∃ c, v = .ref c) ∧ Q v H') E
section
variable {X : Cx} {CX : CXT} {k : Nat} {C g : Addr} {fd : FuncData} {ps : List Str} {sp : Sp} {E : XK}
theorem op_binO {op : Operator} (hc : PySem.W.selfFirst X.K C = true) (M : OwnM X.K C (PySem.dunder op.info.2) g) (F : FnOk X.prog X.w X.K X.mg X.base CX k g fd ps sp) (hb : Binds X.K fd ps []) (hr : Room k X.A) (hx : Passes CX X E) : OpR X (binaryOp op) (rBinO C sp E) := by
  intro pins s σ H x y v u Q I rx ry h
  obtain ⟨a, dx, fs, b, dy, gs, rfl, rfl, ha, hb2, q⟩ := h
  cases rx
  cases ry
  obtain ⟨ox, od, J⟩ := ins_inst I ha
  obtain ⟨oy, oe, J2⟩ := ins_inst I hb2
  obtain ⟨m, hF⟩ := I.fr
  refine PySem.W.binop_K hF I.ok.mod.kin J J2.type hc M.at_ M.fn ?_
  refine wpAny_mono (call_at (us := [.ref a, .ref b]) (vs := [.ref a, .ref b]) F hb hr hx I I.env0 (.cons rfl (.cons rfl .nil)) q) (fun w s' z => ?_) fun _ _ x => x
  obtain ⟨z', H', I', rz, ⟨c, rfl⟩, qz⟩ := z
  obtain rfl : w = Value.ref c := rz
  exact ⟨.ref c, H', I', rfl, qz⟩
end
/-- by trees -/
def binOD (C : Addr) (sp : SpD) (W : WD) : R2D := fun a b G Q => match insD a G with
  | some (C1, _) => (match insD b G with
    | some (C2, _) => C1 = C ∧ C2 = C ∧ sp [a, b] G (fun z G1 => isO z = true ∧ Q z G1) W
    | none => False)
  | none => False
section
variable {X : Cx} {B : Bs} {k : Nat} {C g : Addr} {fd : FuncData} {ps : List Str} {sp : SpD} {W : WD} {op : Operator} {a b : Expr} {ta tb : TED} {pos : Pos}
theorem de_binO (hc : PySem.W.selfFirst X.K C = true) (M : OwnM X.K C (PySem.dunder op.info.2) g) (Fn : FnD X.prog X.w X.K X.mg X.base k g fd ps sp) (hb : Binds X.K fd ps []) (hr : Room k X.A) (hx : Passes (L2.CX X.prog X.w) X (XW X.K B W)) (ha : DE X B a ta) (hb2 : DE X B b tb) : DE X B (.BinOp a op b pos) (dOp (binOD C sp W) ta tb) :=
  PE.weak (pe_op (op_binO hc M Fn hb hr hx) ha hb2) fun σ H Q ⟨F, G, δ, Qd, S, h, k⟩ => up2 S h fun x y H2 F2 G2 d e s2 S2 r1 r2 h2 => by
    unfold binOD at h2
    cases q1 : insD d G2 with
    | none => simp only [q1] at h2
    | some c1 =>
      obtain ⟨C1, f1⟩ := c1
      cases q2 : insD e G2 with
      | none => simp only [q1, q2] at h2
      | some c2 =>
        obtain ⟨C2, f2⟩ := c2
        simp only [q1, q2] at h2
        obtain ⟨rfl, rfl, h3⟩ := h2
        obtain ⟨a1, dx1, fv1, rfl, e1, _⟩ := ins_rep S2 r1 q1
        obtain ⟨a2, dx2, fv2, rfl, e2, _⟩ := ins_rep S2 r2 q2
        refine ⟨a1, dx1, fv1, a2, dx2, fv2, rfl, rfl, e1, e2, low_at S2 (.cons r1 (.cons r2 .nil)) h3 fun v H' ⟨F', G', d', s', S', r', o', q'⟩ => ⟨isO_ref r' o', k v H' ⟨F', G', d', s2.trans s', S', r', q'⟩⟩⟩
end
/-! ### ~x; x op a flat value -/
def rInvO (C : Addr) (sp : Sp) (E : XK) : V → Hp → VK → Prop := fun x H Q => ∃ a dx fs, x = .ref a ∧ H a = some (.ins C dx fs) ∧ sp [.ref a] H Q E
def rBinF (C : Addr) (T : String) (sp : Sp) (E : XK) : R2 := fun x y H Q => ∃ a dx fs, x = .ref a ∧ H a = some (.ins C dx fs) ∧ (∀ u, RelV y u → typeOf u = pure (.type T)) ∧ sp [.ref a, y] H (fun v H' => (∃ c, v = .ref c) ∧ Q v H') E
section
variable {X : Cx} {CX : CXT} {k : Nat} {C g : Addr} {fd : FuncData} {ps : List Str} {sp : Sp} {E : XK}
theorem un_invO (M : OwnM X.K C "__invert__" g) (F : FnOk X.prog X.w X.K X.mg X.base CX k g fd ps sp) (hb : Binds X.K fd ps []) (hr : Room k X.A) (hx : Passes CX X E) : UnR X (unaryOp .Invert) (rInvO C sp E) := by
  intro pins s σ H x v Q I rx h
  obtain ⟨a, dx, fs, rfl, ha, q⟩ := h
  cases rx
  obtain ⟨ox, od, J⟩ := ins_inst I ha
  obtain ⟨m, hF⟩ := I.fr
  exact PySem.W.ksp_inv hF I.ok.mod.kin J M.at_ M.fn (call_at (us := [.ref a]) (vs := [.ref a]) F hb hr hx I I.env0 (.cons rfl .nil) q)
theorem op_binF {op : Operator} {T : String} {fo ro rc : Option Value} (hc : PySem.W.selfFirst X.K C = true) (M : OwnM X.K C (PySem.dunder op.info.2) g) (hrd : PySem.W.findIn X.K (.ref C) (dunderR op.info.2) = some rc) (hrc : rc = none ∨ ∃ g : Addr, rc = some (.ref g))
    (h1 : PySem.W.findIn X.K (.type T) (PySem.dunder op.info.2) = some fo) (h2 : PySem.W.findIn X.K (.type T) (dunderR op.info.2) = some ro) (hsub : PySem.W.subIn X.K (.type T) (.ref C) = some false)
    (F : FnOk X.prog X.w X.K X.mg X.base CX k g fd ps sp) (hb : Binds X.K fd ps []) (hr : Room k X.A) (hx : Passes CX X E) : OpR X (binaryOp op) (rBinF C T sp E) := by
  intro pins s σ H x y v u Q I rx ry h
  obtain ⟨a, dx, fs, rfl, ha, ht, q⟩ := h
  cases rx
  obtain ⟨ox, od, J⟩ := ins_inst I ha
  obtain ⟨m, hF⟩ := I.fr
  refine PySem.W.ksp_binT hF I.ok.mod.kin J (ht u ry) hc M.at_ M.fn hrd hrc h1 h2 hsub ?_
  refine wpAny_mono (call_at (us := [.ref a, u]) (vs := [.ref a, y]) F hb hr hx I I.env0 (.cons rfl (.cons ry .nil)) q) (fun w s' z => ?_) fun _ _ x => x
  obtain ⟨z', H', I', rz, ⟨c, rfl⟩, qz⟩ := z
  obtain rfl : w = Value.ref c := rz
  exact ⟨.ref c, H', I', rfl, qz⟩
end
/-- by trees -/
def invOD (C : Addr) (sp : SpD) (W : WD) : R1D := fun a G Q => match insD a G with
  | some (C1, _) => C1 = C ∧ sp [a] G Q W
  | none => False
def flatT : D → String → Bool
  | .int _, T => T == "int"
  | .bl _, T => T == "bool"
  | .str _, T => T == "str"
  | .non, T => T == "NoneType"
  | _, _ => false
theorem flatT_ty {K : PySem.W.Frag} {F : Hp} {v : V} {d : D} {T : String} (r : Rep K F v d) (h : flatT d T = true) : ∀ u, RelV v u → typeOf u = pure (.type T) := by
  intro u ru
  cases d with
  | non =>
    obtain rfl := beq_iff_eq.mp (show (T == "NoneType") = true from h)
    cases r
    cases (show u = Value.none from ru)
    rfl
  | bl b =>
    obtain rfl := beq_iff_eq.mp (show (T == "bool") = true from h)
    cases r
    cases (show u = Value.bool _ from ru)
    rfl
  | int i =>
    obtain rfl := beq_iff_eq.mp (show (T == "int") = true from h)
    cases r
    obtain ⟨t, rfl⟩ := (show ∃ t, u = Value.int _ t from ru)
    rfl
  | str x =>
    obtain rfl := beq_iff_eq.mp (show (T == "str") = true from h)
    cases r
    obtain ⟨t, rfl⟩ := (show ∃ t, u = Value.str _ t from ru)
    rfl
  | _ => exact absurd h Bool.false_ne_true
def binFD (C : Addr) (T : String) (sp : SpD) (W : WD) : R2D := fun a b G Q => match insD a G with
  | some (C1, _) => C1 = C ∧ flatT b T = true ∧ sp [a, b] G (fun z G1 => isO z = true ∧ Q z G1) W
  | none => False
section
variable {X : Cx} {B : Bs} {k : Nat} {C g : Addr} {fd : FuncData} {ps : List Str} {sp : SpD} {W : WD} {op : Operator} {a b : Expr} {ta tb : TED} {pos : Pos} {T : String} {fo ro rc : Option Value}
theorem de_invO (M : OwnM X.K C "__invert__" g) (Fn : FnD X.prog X.w X.K X.mg X.base k g fd ps sp) (hb : Binds X.K fd ps []) (hr : Room k X.A) (hx : Passes (L2.CX X.prog X.w) X (XW X.K B W)) (ha : DE X B a ta) : DE X B (.UnaryOp .Invert a pos) (dUn (invOD C sp W) ta) :=
  PE.weak (pe_un (un_invO M Fn hb hr hx) ha) fun σ H Q ⟨F, G, δ, Qd, S, h, k⟩ => ⟨F, G, δ, _, S, h, fun v H1 ⟨F1, G1, d, s1, S1, r1, h1⟩ => by
    unfold invOD at h1
    cases q1 : insD d G1 with
    | none => simp only [q1] at h1
    | some c1 =>
      obtain ⟨C1, f1⟩ := c1
      simp only [q1] at h1
      obtain ⟨rfl, h3⟩ := h1
      obtain ⟨a1, dx1, fv1, rfl, e1, _⟩ := ins_rep S1 r1 q1
      exact ⟨a1, dx1, fv1, rfl, e1, low_at S1 (.cons r1 .nil) h3 fun v H' ⟨F', G', d', s', S', r', q'⟩ => k v H' ⟨F', G', d', s1.trans s', S', r', q'⟩⟩⟩
theorem de_binF (hc : PySem.W.selfFirst X.K C = true) (M : OwnM X.K C (PySem.dunder op.info.2) g) (hrd : PySem.W.findIn X.K (.ref C) (dunderR op.info.2) = some rc) (hrc : rc = none ∨ ∃ g : Addr, rc = some (.ref g))
    (h1 : PySem.W.findIn X.K (.type T) (PySem.dunder op.info.2) = some fo) (h2 : PySem.W.findIn X.K (.type T) (dunderR op.info.2) = some ro) (hsub : PySem.W.subIn X.K (.type T) (.ref C) = some false)
    (Fn : FnD X.prog X.w X.K X.mg X.base k g fd ps sp) (hb : Binds X.K fd ps []) (hr : Room k X.A) (hx : Passes (L2.CX X.prog X.w) X (XW X.K B W)) (ha : DE X B a ta) (hb2 : DE X B b tb) : DE X B (.BinOp a op b pos) (dOp (binFD C T sp W) ta tb) :=
  PE.weak (pe_op (op_binF hc M hrd hrc h1 h2 hsub Fn hb hr hx) ha hb2) fun σ H Q ⟨F, G, δ, Qd, S, h, k⟩ => up2 S h fun x y H2 F2 G2 d e s2 S2 r1 r2 h2 => by
    unfold binFD at h2
    cases q1 : insD d G2 with
    | none => simp only [q1] at h2
    | some c1 =>
      obtain ⟨C1, f1⟩ := c1
      simp only [q1] at h2
      obtain ⟨rfl, hf, h3⟩ := h2
      obtain ⟨a1, dx1, fv1, rfl, e1, _⟩ := ins_rep S2 r1 q1
      exact ⟨a1, dx1, fv1, rfl, e1, flatT_ty r2 hf, low_at S2 (.cons r1 (.cons r2 .nil)) h3 fun v H' ⟨F', G', d', s', S', r', o', q'⟩ => ⟨isO_ref r' o', k v H' ⟨F', G', d', s2.trans s', S', r', q'⟩⟩⟩
end
end JP

namespace JP
open PySem PySem.Spec PyProof.Rows L2

/-! ### errors that keep copies of their fields: flat values -/
def flatD : D → Bool
  | .non => true
  | .bl _ => true
  | .int _ => true
  | .str _ => true
  | _ => false
theorem flatD_V {K : PySem.W.Frag} {F : Hp} {v : V} {d : D} (r : Rep K F v d) (h : flatD d = true) : flatV v = true := by
  cases d with
  | non => cases r; rfl
  | bl b => cases r; rfl
  | int b => cases r; rfl
  | str b => cases r; rfl
  | _ => cases h
/-- p, where all are flat -/
def andFlat : List D → Prop → Prop
  | [], p => p
  | .non :: r, p => andFlat r p
  | .bl _ :: r, p => andFlat r p
  | .int _ :: r, p => andFlat r p
  | .str _ :: r, p => andFlat r p
  | _, _ => False
theorem flat_cons {d : D} {ds : List D} (h : flatD d = true) (t : ∀ e ∈ ds, flatD e = true) : ∀ e ∈ d :: ds, flatD e = true := fun e he => by
  rcases List.mem_cons.mp he with rfl | he
  · exact h
  · exact t e he
theorem andFlat_and {p : Prop} : ∀ {ds : List D}, andFlat ds p → p ∧ ∀ d ∈ ds, flatD d = true
  | [], h => ⟨h, fun d hd => by cases hd⟩
  | .non :: r, h => have := andFlat_and (ds := r) h; ⟨this.1, flat_cons rfl this.2⟩
  | .bl _ :: r, h => have := andFlat_and (ds := r) h; ⟨this.1, flat_cons rfl this.2⟩
  | .int _ :: r, h => have := andFlat_and (ds := r) h; ⟨this.1, flat_cons rfl this.2⟩
  | .str _ :: r, h => have := andFlat_and (ds := r) h; ⟨this.1, flat_cons rfl this.2⟩
  | .ty _ :: _, h => h.elim
  | .adr _ :: _, h => h.elim
  | .tup _ :: _, h => h.elim
  | .lst _ :: _, h => h.elim
  | .scr _ :: _, h => h.elim
  | .ins _ _ :: _, h => h.elim
  | .exc _ _ :: _, h => h.elim
  | .dic _ :: _, h => h.elim
  | .dit _ :: _, h => h.elim
def dRaiseF (W : WD) (C : Addr) (fs : List Str) (t : TAD) : TSD := fun E δ G => t δ G fun ds G1 => ds.length = fs.length ∧ andFlat ds (W C (fs.zip ds).reverse G1)
section
variable {X : Cx} {B : Bs} {K : PySem.W.Frag} {e : Expr} {es : List Expr} {t : TAD} {pos p apos : Pos} {W : WD}
variable {k : Nat} {f C : Addr} {fI : Addr} {fd : FuncData} {ps : List Str} {x f1 f2 : Str}
theorem ds_raise1F (hc : X.calm = true) (tk : Takes X fun cls d _ H => XW X.K B W cls d H) (T : OexC X.K C) (iC : PySem.W.findIn X.K (.ref C) "__init__" = some (some (.ref fI))) (tI : PySem.W.typeIn X.K (.ref fI) = some (.type "function"))
    (F1 : FnOk X.prog X.w X.K X.mg X.base CX0 k fI fd ps (spE1F X.K C f1)) (hr : Room (k + 1) X.A) (hb : Binds X.K fd ps []) (hg : Gl X x) (hm : X.mg x = some (.ref C)) (ha : DA X B (e :: es) t)
    (hdb : (x == ("__debug__" : Str)) = false := by decide) (he : starEach (e :: es) X.env = (false, eval e X.env) :: starEach es X.env := by rfl) (hpl : (backTo pos (starEach es X.env)).any (·.1) = false := by rfl) :
    DSt X B (.Raise (some (.Call (.Name x p) (e :: es) [] pos)) none apos) (dRaiseF W C [f1] t) :=
  PS.weak (ps_raise hc tk (pmk_oex T iC tI F1 hr hb .nil pass0 hg hm ha hdb he hpl)) fun D σ H ⟨F, G, δ, E, S, h, L⟩ => ⟨F, G, δ, _, S, h, fun vs H1 ⟨F1, G1, ds, s1, S1, r1, hl, h1⟩ => by
    match ds, r1, hl, h1 with
    | [d], .cons r .nil, hl, h1 =>
      obtain ⟨h1, hf⟩ := andFlat_and h1
      have fl := flatD_V r (hf d List.mem_cons_self)
      exact mkE1F (fun dd n => xw_new S1 n (.cons r .nil) h1) fl⟩
theorem ds_raise2F (hc : X.calm = true) (tk : Takes X fun cls d _ H => XW X.K B W cls d H) (T : OexC X.K C) (iC : PySem.W.findIn X.K (.ref C) "__init__" = some (some (.ref fI))) (tI : PySem.W.typeIn X.K (.ref fI) = some (.type "function"))
    (F1 : FnOk X.prog X.w X.K X.mg X.base CX0 k fI fd ps (spE2F X.K C f1 f2)) (hr : Room (k + 1) X.A) (hb : Binds X.K fd ps []) (hg : Gl X x) (hm : X.mg x = some (.ref C)) (ha : DA X B (e :: es) t)
    (hdb : (x == ("__debug__" : Str)) = false := by decide) (he : starEach (e :: es) X.env = (false, eval e X.env) :: starEach es X.env := by rfl) (hpl : (backTo pos (starEach es X.env)).any (·.1) = false := by rfl) :
    DSt X B (.Raise (some (.Call (.Name x p) (e :: es) [] pos)) none apos) (dRaiseF W C [f1, f2] t) :=
  PS.weak (ps_raise hc tk (pmk_oex T iC tI F1 hr hb .nil pass0 hg hm ha hdb he hpl)) fun D σ H ⟨F, G, δ, E, S, h, L⟩ => ⟨F, G, δ, _, S, h, fun vs H1 ⟨F1, G1, ds, s1, S1, r1, hl, h1⟩ => by
    match ds, r1, hl, h1 with
    | [d, d2], .cons r (.cons r2 .nil), hl, h1 =>
      obtain ⟨h1, hf⟩ := andFlat_and h1
      have fl := flatD_V r (hf d List.mem_cons_self)
      have fl2 := flatD_V r2 (hf d2 (List.mem_cons_of_mem _ List.mem_cons_self))
      exact mkE2F (fun dd n => xw_new S1 n (.cons r2 (.cons r .nil)) h1) fl fl2⟩
end
end JP

namespace JP
open PySem PySem.Spec PySem.W PyProof.Rows L2

/-! ## the head by names: what a law leans on, looked at once -/
/-- a def: where its function object is, what the text says of it, its defaults -/
structure DefY where
  ad : Frag → Addr
  nm : Str
  qual : Str
  st : Stmt
  dfl : List V
/-- the address behind a class's name in a table -/
def nsA (K : Frag) (C : Addr) (x : Str) : Addr := match findIn K (.ref C) x with
  | some (some (.ref a)) => a
  | _ => 0
/-- what a staticmethod, a property holds first -/
def fstA (K : Frag) (c : String) (p : Addr) : Addr := match recIn K p c with
  | some (.ref a :: _) => a
  | _ => 0
def fnY (K : Frag) (d : DefY) : He.FnW := match K.lookup (d.ad K) with
  | some ⟨_, _, .func fd, _⟩ => some (fd.name, fd.qualname, fd.params, fd.body, fd.scope, fd.globals, fd.closure, fd.builtins)
  | _ => none
def valOf (d : DefY) : He.FnW := some (d.nm, d.qual, defArgs d.st, .stmts (defBody d.st), defScope d.st, mainGlobals, [], builtinsNs)
def okY (K : Frag) (d : DefY) : Bool := keepIn K (.ref (d.ad K)) && match K.lookup (d.ad K) with
  | some ⟨_, _, .func fd, _⟩ => codeIn K fd.code d.qual && He.dflB K fd.defaults d.dfl
  | _ => false
/-- the code object of the function at a -/
def codeAt (K : Frag) (a : Addr) : Addr := match K.lookup a with
  | some ⟨_, _, .func fd, _⟩ => (match fd.code with
    | .ref c => c
    | _ => 0)
  | _ => 0
def tabAt (K : Frag) (a : Addr) : Addr × Addr := (codeAt K a, He.tabOf K (codeAt K a))
def tabsOk (g : Addr → Option Obj) (K : Frag) (tf : List (Frag → Addr)) : Bool := tf.all fun f => codeHdIn K (tabAt K (f K)).1 (tabAt K (f K)).2 && match g (tabAt K (f K)).2 with
  | some o => He.emptyTab o
  | none => false
/-- a dict of the top with text keys: where, its keys in order -/
abbrev TabY : Type := (Frag → Addr) × List Str
abbrev ObY : Type := Bool × List He.FnW × List (Option (List (Option (Str × Int))))
def lookY (n : Nat) (bs : Frag → List Bool) (fn : List DefY) (tf : List (Frag → Addr)) (ts : List TabY) (g : Addr → Option Obj) : ObY :=
  ((bs (He.frT g (He.asD g n))).all id && ((fn.all (okY (He.frT g (He.asD g n)))) && tabsOk g (He.frT g (He.asD g n)) tf), fn.map (fnY (He.frT g (He.asD g n))), ts.map fun t => He.dicW (He.frT g (He.asD g n)) (t.1 (He.frT g (He.asD g n))))
structure SaysY (bs : Frag → List Bool) (fn : List DefY) (tf : List (Frag → Addr)) (ts : List TabY) (w : World) (h : Heap) (K : Frag) : Prop where
  inK : K.In h
  bools : (bs K).all id = true
  oks : fn.all (okY K) = true
  fns : fn.map (fnY K) = fn.map valOf
  tabs : ts.map (fun t => He.dicW K (t.1 K)) = ts.map fun t => some (He.keysIn w.params t.2)
  hd : ∀ f ∈ tf, codeHdIn K (tabAt K (f K)).1 (tabAt K (f K)).2 = true
  out : ∀ f ∈ tf, K.lookup (tabAt K (f K)).2 = none
  mt : ∀ f ∈ tf, h.get? (tabAt K (f K)).2 = some { cls := .none, data := .fields #[] }
theorem saysY_of {n : Nat} {bs : Frag → List Bool} {fn : List DefY} {tf : List (Frag → Addr)} {ts : List TabY} {w : World} {h : Heap} (e : lookY n bs fn tf ts h.get? = (true, fn.map valOf, ts.map fun t => some (He.keysIn w.params t.2))) : SaysY bs fn tf ts w h (He.frT h.get? (He.asD h.get? n)) := by
  generalize hK : He.frT h.get? (He.asD h.get? n) = K at *
  have e' : ((bs K).all id && (fn.all (okY K) && tabsOk h.get? K tf), fn.map (fnY K), ts.map fun t => He.dicW K (t.1 K)) = ((true, fn.map valOf, ts.map fun t => some (He.keysIn w.params t.2)) : ObY) := by rw [← hK]; exact e
  injection e' with e1 e23
  injection e23 with e2 e3
  rw [Bool.and_eq_true, Bool.and_eq_true] at e1
  obtain ⟨b1, b2, b3⟩ := e1
  have each : ∀ f ∈ tf, codeHdIn K (tabAt K (f K)).1 (tabAt K (f K)).2 = true ∧ ∃ o, h.get? (tabAt K (f K)).2 = some o ∧ He.emptyTab o = true := by
    intro f hf
    have z := List.all_eq_true.mp b3 f hf
    rw [Bool.and_eq_true] at z
    refine ⟨z.1, ?_⟩
    cases q : h.get? (tabAt K (f K)).2 with
    | none => rw [q] at z; cases z.2
    | some o => rw [q] at z; exact ⟨o, rfl, z.2⟩
  refine ⟨hK ▸ He.frT_in, b1, b2, e2, e3, fun f hf => (each f hf).1, fun f hf => ?_, fun f hf => ?_⟩
  · obtain ⟨_, o, q, z⟩ := each f hf
    have := He.frT_none (as := He.asD h.get? n) q z
    rw [hK] at this
    exact this
  · obtain ⟨_, o, q, z⟩ := each f hf
    rw [q, He.emptyTab_eq z]
def hookY (n : Nat) (bs : Frag → List Bool) (fn : List DefY) (tf : List (Frag → Addr)) (ts : List TabY) : Hook where
  α := ObY
  obs := fun s => lookY n bs fn tf ts s.heap.get?
  val := fun w => (true, fn.map valOf, ts.map fun t => some (He.keysIn w.params t.2))
  says := fun w h => ∃ K : Frag, SaysY bs fn tf ts w h K
  of := fun _ _ e => ⟨_, saysY_of e⟩
  keeps := fun _ _ _ ⟨K, c⟩ k => ⟨K, ⟨Frag.In.keeps c.inK k, c.bools, c.oks, c.fns, c.tabs, c.hd, c.out, fun f hf => k _ _ (c.mt f hf)⟩⟩
theorem lookY_eq {n : Nat} {bs : Frag → List Bool} {fn : List DefY} {tf : List (Frag → Addr)} {ts : List TabY} {g : Addr → Option Obj} {s : Shared} (h : ∀ a, g a = s.heap.get? a) : lookY n bs fn tf ts g = (hookY n bs fn tf ts).obs s := by
  obtain rfl : g = s.heap.get? := funext h
  rfl
section
variable {bs : Frag → List Bool} {fn : List DefY} {tf : List (Frag → Addr)} {ts : List TabY} {w : World} {h : Heap} {K : Frag}
theorem SaysY.bit (c : SaysY bs fn tf ts w h K) (i : Nat) {b : Bool} (e : (bs K)[i]? = some b) : b = true := List.all_eq_true.mp c.bools b (List.mem_of_getElem? e)
theorem SaysY.tab (c : SaysY bs fn tf ts w h K) (i : Nat) {t : TabY} (e : ts[i]? = some t := by rfl) : ∃ es n, L2.KDict K w (t.1 K) es n := by
  have e2 : (ts.map fun t => He.dicW K (t.1 K))[i]? = (ts.map fun t => some (He.keysIn w.params t.2))[i]? := by rw [c.tabs]
  rw [List.getElem?_map, List.getElem?_map, e] at e2
  exact He.dicW_ok (Option.some.inj e2)
theorem SaysY.fn_at (c : SaysY bs fn tf ts w h K) (i : Nat) {d : DefY} (e : fn[i]? = some d) :
    ∃ oc od osl dV kV doc pm an cdv ct, K.lookup (d.ad K) = some ⟨oc, od, .func (fnOf d.nm d.qual (defArgs d.st) (defBody d.st) (defScope d.st) dV kV doc pm an cdv ct), osl⟩ ∧ codeIn K cdv d.qual = true ∧ keepIn K (.ref (d.ad K)) = true ∧ DflV K dV d.dfl := by
  have ok := List.all_eq_true.mp c.oks d (List.mem_of_getElem? e)
  have val : fnY K d = valOf d := by
    have := congrArg (fun z : List He.FnW => z[i]?) c.fns
    simp only [List.getElem?_map, e, Option.map_some, Option.some.injEq] at this
    exact this
  unfold okY at ok
  unfold fnY at val
  rw [Bool.and_eq_true] at ok
  obtain ⟨k1, k2⟩ := ok
  cases q : K.lookup (d.ad K) with
  | none => rw [q] at k2; cases k2
  | some o =>
    obtain ⟨oc, od, dt, osl⟩ := o
    rw [q] at k2 val
    cases dt with
    | func fd =>
      obtain ⟨n1, n2, n3, n4, n5, n6, n7, n8, n9, n10, n11, n12, n13, n14, n15⟩ := fd
      rw [Bool.and_eq_true] at k2
      have v : (some (n1, n2, n3, n4, n5, n6, n7, n15) : He.FnW) = valOf d := val
      simp only [valOf, Option.some.injEq, Prod.mk.injEq] at v
      obtain ⟨rfl, rfl, rfl, rfl, rfl, rfl, rfl, rfl⟩ := v
      exact ⟨oc, od, osl, _, _, _, _, _, _, _, rfl, k2.1, k1, He.dflB_ok k2.2⟩
    | _ => cases k2
end
end JP

namespace JP
open PySem PySem.Spec PySem.W PySem.Calls PyProof.Rows L2

/-! ## the end of a law's row: no guard on the stack, tables of code objects -/
/-- the abstract heap at the law's call: the empty tables, the script at most -/
def endHp (K : Frag) (ts : List Addr) (a : Addr) (o : Obj) (xs : List V) : Hp := fun b => if b ∈ ts then some (.tbl #[]) else scriptHp K a o xs b
/-- so it looks -/
def OnlyT (ts : List Addr) (H : Hp) : Prop := ∀ b, (b ∈ ts → H b = some (.tbl #[])) ∧ (b ∉ ts → H b = none ∨ ∃ o xs, H b = some (.frz o (.lst xs)))
section
variable {K : Frag} {ts : List Addr} {a b : Addr} {o : Obj} {xs : List V}
theorem endHp_tab (h : b ∈ ts) : endHp K ts a o xs b = some (.tbl #[]) := if_pos h
theorem endHp_not (h : b ∉ ts) : endHp K ts a o xs b = scriptHp K a o xs b := if_neg h
theorem endHp_only : OnlyT ts (endHp K ts a o xs) := fun b => ⟨endHp_tab, fun h => by
  rw [endHp_not h]
  exact scriptHp_only b⟩
end
theorem law_gt {P : Program} {w : World} {K : Frag} {mg mb : Str → Option Value} {k : Nat} {fa a : Addr} {fd : FuncData} {x : Str} {sp : Sp} {s : Shared} {vs : List Value} {ns : List Int} {cs : List (Addr × Addr)}
    (inK : K.In s.heap) (gl : s.heap.Ns mainGlobals mg) (bl : s.heap.Ns builtinsNs mb) (blt : ∀ x : Str, x ≠ "__name__" → mb x = bootBuiltins x) (nl : s.heap.NoLimit) (gens : s.gens = #[])
    (mt : ∀ p ∈ cs, s.heap.get? p.2 = some { cls := .none, data := .fields #[] }) (out : ∀ p ∈ cs, K.lookup p.2 = none) (hds : ∀ p ∈ cs, CodeHd s.heap p.1 p.2)
    (main : ∃ (bm : Addr) (ob : Obj), mg "__builtins__" = some (.ref bm) ∧ bm ≠ builtinsNs ∧ s.heap.get? bm = some ob ∧ ob.cls = .type "module" ∧ ob.dict = some builtinsNs ∧ ob.data = .plain)
    (obj : s.heap.get? a = some { cls := .type "list", data := .seq vs.toArray }) (hnum : IntsAre vs ns) (small : ns.length ≤ sizeLine) (room : Room k callerA)
    (F : ∀ base : Heap, K.In base → base.Ns mainGlobals mg → (∀ p ∈ cs, LamX.TabB base mg p.1 p.2) → GOk P w K mg base k fa fd [x] sp) (bind : ∀ (s : Shared) (u : Value), BindsTo s fd ⟨[u], []⟩ [(x, u)])
    (sat : ∀ H : Hp, OnlyT (cs.map Prod.snd) H → SqL K H a (ns.map V.int) → sp [.ref a] H (fun v _ => v = .bl true) fun _ _ _ => False) :
    codeAny (model P w) callerA (.call (.ref fa) ⟨[.ref a], []⟩) (fun r s' => r = .ok (.ret (.bool true)) ∧ OldK s.heap s'.heap ∧ s'.os = s.os ∧ AllBare s'.gens) s := by
  have rel := vals_ints hnum
  have wide : (ns.map V.int).length ≤ sizeLine := by
    rw [List.length_map]
    exact small
  generalize hts : cs.map Prod.snd = ts at sat
  have tab_at : ∀ {b : Addr}, b ∈ ts → s.heap.get? b = some { cls := .none, data := .fields #[] } := by
    intro b hb
    rw [← hts] at hb
    obtain ⟨p, hp, rfl⟩ := List.mem_map.mp hb
    exact mt p hp
  have tab_K : ∀ {b : Addr}, b ∈ ts → K.lookup b = none := by
    intro b hb
    rw [← hts] at hb
    obtain ⟨p, hp, rfl⟩ := List.mem_map.mp hb
    exact out p hp
  have a_ts : a ∉ ts := by
    intro hb
    have q := tab_at hb
    rw [obj] at q
    cases q
  generalize hH : endHp K ts a { cls := .type "list", data := .seq vs.toArray } (ns.map V.int) = H
  have only : OnlyT ts H := hH ▸ endHp_only
  have kinds : ∀ {b : Addr} {u : HO}, H b = some u → (b ∈ ts ∧ u = .tbl #[]) ∨ (b ∉ ts ∧ b = a ∧ K.lookup a = none ∧ u = .frz { cls := .type "list", data := .seq vs.toArray } (.lst (ns.map V.int))) := by
    intro b u e
    by_cases hb : b ∈ ts
    · rw [(only b).1 hb] at e
      exact .inl ⟨hb, (Option.some.inj e).symm⟩
    · rw [← hH, endHp_not hb] at e
      obtain ⟨q1, q2, q3⟩ := scriptHp_some e
      exact .inr ⟨hb, q1, q2, q3⟩
  have held : HOk P w H s.heap := by
    intro b u e
    rcases kinds e with ⟨hb, rfl⟩ | ⟨_, rfl, _, rfl⟩
    · exact tab_at hb
    · exact ⟨obj, wide, vs, _, rel, obj⟩
  have seq : SqL K H a (ns.map V.int) := by
    cases q : K.lookup a with
    | none =>
      refine .inl (.inr ⟨{ cls := .type "list", data := .seq vs.toArray }, ?_⟩)
      rw [← hH, endHp_not a_ts]
      exact if_pos ⟨rfl, q⟩
    | some o =>
      have e := inK a o q
      rw [obj] at e
      cases e
      exact .inr ⟨_, vs.toArray, _, q, rfl, rfl, rfl, by
        rw [List.size_toArray, hnum.length]
        exact small, by simpa using rel⟩
  have free : ∀ {b : Addr} {ob : Obj}, s.heap.get? b = some ob → (∀ its n, ob.data ≠ .seq its n) → ob.data ≠ .fields #[] → H b = none := by
    intro b ob e d1 d2
    cases q : H b with
    | none => rfl
    | some u =>
      rcases kinds q with ⟨hb, _⟩ | ⟨_, rfl, _, _⟩
      · rw [tab_at hb] at e
        cases e
        exact absurd rfl d2
      · rw [obj] at e
        cases e
        exact absurd rfl (d1 _ _)
  have nsOk : ∀ {b : Addr} {m : Str → Option Value}, s.heap.Ns b m → (hidT s.heap H).Ns b m := by
    intro b m z
    obtain ⟨ob, es, ep, e, d, r⟩ := z
    exact ⟨ob, es, ep, hidT_get e (free e (by intro its n z; rw [d] at z; cases z) (by intro z; rw [d] at z; cases z)), d, r⟩
  have inB : K.In (hidT s.heap H) := by
    intro b ob e
    refine hidT_get (inK b ob e) ?_
    cases q : H b with
    | none => rfl
    | some u =>
      rcases kinds q with ⟨hb, _⟩ | ⟨_, rfl, z, _⟩
      · rw [tab_K hb] at e
        cases e
      · rw [z] at e
        cases e
  have mods : Mod K mg (hidT s.heap H) := by
    obtain ⟨mc, h1, h2⟩ := nl
    exact ⟨inB, nsOk gl, ⟨mb, nsOk bl, blt⟩, mc, nsOk h1, h2⟩
  have tabB : ∀ p ∈ cs, LamX.TabB (hidT s.heap H) mg p.1 p.2 := by
    intro p hp
    have here := mt p hp
    constructor
    · obtain ⟨ob, fs, y1, y2, y3, y4, y5, y6, y7, got, cl, da, p11, rest⟩ := hds p hp
      refine ⟨ob, fs, y1, y2, y3, y4, y5, y6, y7, hidT_get got (free got ?_ ?_), cl, da, p11, rest⟩
      · intro its n z
        rw [da] at z
        cases z
      · intro z
        rw [da] at z
        cases z
        cases p11
    · obtain ⟨bm, ob, b1, b2, b3, b4, b5, b6⟩ := main
      refine ⟨bm, ob, b1, b2, ?_, ?_, hidT_get b3 (free b3 ?_ ?_), b4, b5, b6⟩
      · intro q
        obtain ⟨o', es, ep, e, hd, _⟩ := gl
        rw [q, e] at b3
        cases b3
        rw [hd] at b6
        cases b6
      · intro q
        rw [q, here] at b3
        cases b3
        cases b6
      · intro its n z
        rw [b6] at z
        cases z
      · intro z
        rw [b6] at z
        cases z
    · intro z
      obtain ⟨o', es, ep, e, hd, _⟩ := gl
      rw [z, here] at e
      cases e
      cases hd
  have e0 : Env0 P w K mg (hidT s.heap H) callerA [] s H :=
    { frames := rfl, mod := mods, bs := fun b o e => of_hidT e, bsz := Nat.le_of_eq (hidT_size _ _), funs := trivial, frf := fun b z => (List.not_mem_nil z).elim, hok := held, bare := .of_eq gens }
  apply codeAny_mono ((F _ inB (nsOk gl) tabB).kept callerA [] s H ⟨[.ref a], []⟩ [.ref a] [.ref a] _ _ rfl room e0 (bind s (.ref a)) (.cons rfl .nil) (sat H only seq))
  intro r s' z
  match r, z with
  | .error _, z => exact z.elim
  | .ok .next, z => exact z.elim
  | .ok .brk, z => exact z.elim
  | .ok .cont, z => exact z.elim
  | .ok (.ret u), ⟨v, H', os, bare, un, held', rv, z⟩ =>
    have ev : v = .bl true := z
    subst ev
    have eu : u = Value.bool true := rv
    subst eu
    have stays : ∀ b ob, b ∉ ts → s.heap.get? b = some ob → s'.heap.get? b = some ob := by
      intro b ob hb e
      cases q : H b with
      | none => exact un.keep b ob e q List.not_mem_nil List.not_mem_nil
      | some u =>
        rcases kinds q with ⟨hb', _⟩ | ⟨_, rfl, _, rfl⟩
        · exact absurd hb' hb
        · have e1 := (held' _ _ (un.frzs _ _ _ q)).1
          rw [obj] at e
          cases e
          exact e1
    have grows : ∀ p ∈ cs, ∃ more : Array Value, s'.heap.get? p.2 = some { cls := .none, data := .fields more } := by
      intro p hp
      have mem : p.2 ∈ ts := hts ▸ List.mem_map.mpr ⟨p, hp, rfl⟩
      obtain ⟨more, q⟩ := un.tbls p.2 #[] ((only p.2).1 mem)
      exact ⟨_, held' p.2 _ q⟩
    have isTab : ∀ {b : Addr}, b ∈ ts → ∃ p ∈ cs, p.2 = b := by
      intro b hb
      rw [← hts] at hb
      obtain ⟨p, hp, e⟩ := List.mem_map.mp hb
      exact ⟨p, hp, e⟩
    refine ⟨rfl, ⟨?_, ?_⟩, os, bare⟩
    · intro b ob e
      by_cases hb : b ∈ ts
      · right; left
        obtain ⟨p, hp, rfl⟩ := isTab hb
        obtain ⟨more, hm⟩ := grows p hp
        rw [mt p hp] at e
        cases e
        refine ⟨((hds p hp).tab (mt p hp)).isCodeTable, rfl, #[], more, rfl, ?_⟩
        rw [hm, Array.empty_append]
      · left
        exact stays b ob hb e
    · intro b ob e
      by_cases hb : b ∈ ts
      · obtain ⟨p, hp, rfl⟩ := isTab hb
        obtain ⟨more, hm⟩ := grows p hp
        exact ⟨_, hm⟩
      · exact ⟨ob, stays b ob hb e⟩
/-- the law by what the head says of it -/
theorem walk_gt {l : OpenLaw} {n k : Nat} {q : Program} {loose : List Str} {XP : (Str → Option Value) → Heap → Prop} {YP : World → Heap → Prop} {d : DefRec} {x : Str}
    (most : l.most = some n) (small : n ≤ sizeLine) (nodef : d.params.defaults = []) (room : Room k callerA)
    (F : ∀ (w : World) (mg : Str → Option Value) (fa : Addr) (h : Heap), YP w h → h.Ns mainGlobals mg → mg d.name = some (.ref fa) →
      ∃ (K : Frag) (fd : FuncData) (cs : List (Addr × Addr)) (sp : Sp), K.In h ∧ (∀ p ∈ cs, h.get? p.2 = some { cls := .none, data := .fields #[] }) ∧ (∀ p ∈ cs, K.lookup p.2 = none) ∧ (∀ p ∈ cs, CodeHd h p.1 p.2) ∧
        (∀ (s : Shared) (u : Value), BindsTo s fd ⟨[u], []⟩ [(x, u)]) ∧ (∀ (H : Hp) (a : Addr) (ns : List Int), ns.length ≤ n → OnlyT (cs.map Prod.snd) H → SqL K H a (ns.map V.int) → sp [.ref a] H (fun v _ => v = .bl true) fun _ _ _ => False) ∧
        ∀ base : Heap, K.In base → base.Ns mainGlobals mg → (∀ p ∈ cs, LamX.TabB base mg p.1 p.2) → GOk l.prog w K mg base k fa fd [x] sp) :
    WalkO q loose XP YP l.row.toRowW d [] (fun f vs => PySem.call f vs) := by
  apply Att.attach_callB most nodef
  intro w s₀ s mg mb fa o pm cd doc a vs ns G Y ho hd hcd hmg obj hnum len bits gens
  obtain ⟨K, fd, cs, sp, inK, mt, out, hds, hb, sat, hF⟩ := F w mg fa _ Y G.T.g hmg
  exact law_gt inK G.T.g G.T.b G.T.builtins G.T.nolimit gens mt out hds G.T.bmain obj hnum (Nat.le_trans len small) room hF hb fun H hO hS => sat H a ns len hO hS
/-- what is to be shown of a law that says how it draws -/
theorem law_satT {K : Frag} {Tb : List (Addr × Str)} {a : Addr} {ns : List Int} {H : Hp} {ts : List Addr} (hT : ∀ p ∈ Tb, p.1 ∈ ts) (hl : ns.length ≤ 63) (o : OnlyT ts H) (s : SqL K H a (ns.map V.int)) : lowSpT K Tb lawD [.ref a] H (fun v _ => v = .bl true) fun _ _ _ => False := by
  refine ⟨⟨fun b => if b ∈ ts then none else H b, fun _ => none, Tb⟩, fun _ => none, [.scr ns], fun d _ => d = .bl true, WN, rfl, ⟨?_, ?_, ?_, ?_, ?_, ?_⟩, .cons (.scr ?_) .nil, ⟨ns, rfl, hl, fun _ => rfl, fun _ => rfl⟩, ?_, ?_⟩
  · intro b u e
    change (if b ∈ ts then none else H b) = some u at e
    by_cases hb : b ∈ ts
    · rw [if_pos hb] at e
      cases e
    · rw [if_neg hb] at e
      exact e
  · intro _ _ e
    cases e
  · intro _ _ e
    cases e
  · intro _ _ e
    cases e
  · intro b u e
    change (if b ∈ ts then none else H b) = some u at e
    by_cases hb : b ∈ ts
    · rw [if_pos hb] at e
      cases e
    · rw [if_neg hb] at e
      rcases (o b).2 hb with z | ⟨ob, xs, z⟩
      · rw [z] at e
        cases e
      · rw [z] at e
        cases e
        trivial
  · intro p hp
    exact .nil ((o p.1).1 (hT p hp))
  · rcases s with (s | ⟨ob, s⟩) | s
    · have ha : a ∉ ts := fun z => by rw [(o a).1 z] at s; cases s
      exact .inl (.inl ((if_neg ha).trans s))
    · have ha : a ∉ ts := fun z => by rw [(o a).1 z] at s; cases s
      exact .inl (.inr ⟨ob, (if_neg ha).trans s⟩)
    · exact .inr s
  · rintro v H' ⟨_, _, _, _, _, _, r, e⟩
    subst e
    exact rep_bl r
  · rintro _ _ _ ⟨_, _, _, _, _, _, _, _, w⟩
    exact w
end JP
namespace JP
open PySem PySem.Spec PySem.W PySem.Calls PyProof.Rows L2
/-- an own error class with an own __init__ -/
def oexB (K : Frag) (C : Addr) : Bool := match K.lookup C with
  | some ⟨.type "type", _, .cls cd, sl⟩ => (match cd.mro, sl.toList with
    | .ref D :: up, [_, _, _, _, some (.builtin made), _] => decide (D = C) && (decide (made = "ValueError.__new__") && (cd.hasDict && (!cd.hasDel && PySem.HandSPX.refsVE up)))
    | _, _ => false)
  | _ => false
theorem oexB_cls {K : Frag} {C : Addr} (e : oexB K C = true) : ∃ nm q N bs bm sn sub ab col dd k0 k1 k2 k3 k5, K.lookup C = some (excClassObj nm q C N bs bm true sn sub ab col dd k0 k1 k2 k3 k5 "ValueError.__new__") ∧ PySem.HandSPX.refsVE bm = true := by
  unfold oexB at e
  cases q : K.lookup C with
  | none =>
    rw [q] at e
    cases e
  | some o =>
    rw [q] at e
    split at e
    · rename_i dd cd sl ho
      injection ho with ho
      subst ho
      split at e
      · rename_i D up s0 s1 s2 s3 made s5 hm hs
        rw [Bool.and_eq_true, Bool.and_eq_true, Bool.and_eq_true, Bool.and_eq_true] at e
        obtain ⟨e1, e2, e3, e4, e5⟩ := e
        obtain rfl := of_decide_eq_true e1
        obtain rfl := of_decide_eq_true e2
        obtain ⟨nm, bs, mro, ns, qn, hd, sn, sub, ab, col, del⟩ := cd
        have hm' : mro = .ref D :: up := hm
        have e3' : hd = true := e3
        have e4' : del = false := by simpa using e4
        subst hm' e3' e4'
        obtain ⟨l⟩ := sl
        have hs' : l = [s0, s1, s2, s3, some (.builtin "ValueError.__new__"), s5] := hs
        subst hs'
        exact ⟨nm, qn, ns, bs, up, sn, sub, ab, col, dd, s0, s1, s2, s3, s5, rfl, e5⟩
      · cases e
    · cases e
theorem codeAt_is {K : Frag} {a : Addr} {oc : Value} {od : Option Addr} {osl : Array (Option Value)} {fd : FuncData} {q : Str} (lk : K.lookup a = some ⟨oc, od, .func fd, osl⟩) (hq : codeIn K fd.code q = true) : fd.code = .ref (codeAt K a) := by
  obtain ⟨c, e⟩ := He.codeIn_ref hq
  rw [e]
  unfold codeAt
  rw [lk]
  show Value.ref c = .ref (match fd.code with | .ref c => c | _ => 0)
  rw [e]
theorem dfl_none {K : Frag} {dV : Value} (h : DflV K dV []) : dV = .none := by
  rcases h with ⟨_, e⟩ | ⟨e, _⟩
  · exact e
  · exact absurd rfl e
/-- what stands behind the first -/
def rstA (K : Frag) (c : String) (p : Addr) : List Value := match recIn K p c with
  | some (_ :: r) => r
  | _ => []
section
variable {bs : Frag → List Bool} {fn : List DefY} {tf : List (Frag → Addr)} {ts : List TabY} {w : World} {h : Heap} {K : Frag}
theorem SaysY.fact (c : SaysY bs fn tf ts w h K) (i : Nat) {p : Prop} [Decidable p] (e : (bs K)[i]? = some (decide p) := by rfl) : p := of_decide_eq_true (c.bit i e)
theorem SaysY.mts (c : SaysY bs fn tf ts w h K) : ∀ p ∈ tf.map (fun f => tabAt K (f K)), h.get? p.2 = some { cls := .none, data := .fields #[] } := fun p hp => by
  obtain ⟨f, hf, rfl⟩ := List.mem_map.mp hp
  exact c.mt f hf
theorem SaysY.outs (c : SaysY bs fn tf ts w h K) : ∀ p ∈ tf.map (fun f => tabAt K (f K)), K.lookup p.2 = none := fun p hp => by
  obtain ⟨f, hf, rfl⟩ := List.mem_map.mp hp
  exact c.out f hf
theorem SaysY.hds (c : SaysY bs fn tf ts w h K) : ∀ p ∈ tf.map (fun f => tabAt K (f K)), CodeHd h p.1 p.2 := fun p hp => by
  obtain ⟨f, hf, rfl⟩ := List.mem_map.mp hp
  exact codeHd_of_K c.inK (c.hd f hf)
end
end JP

namespace JP
open PySem PySem.Spec PyProof.Rows L2

/-! ### dict comprehensions for any kind of dict: what a new one is, what a store by the comprehension does -/
/-- (heap, dict, key, worth, heap behind) -/
abbrev StK := Hp → Addr → V → V → Hp → Prop
structure DicK (P : Program) (w : World) (u : Nat) (o0 : HO) (st : StK) : Prop where
  new : ∀ (H : Hp) (h : Heap), sysModules < h.objs.size → ObjOk P w H (h.push { cls := .type "dict", data := .dict #[] }) h.objs.size o0
  put : ∀ (X : Cx) (pins : List (Addr × Obj)) (σ : L2.St) (H H' : Hp) (s : Shared) (E : Value → Shared → Prop) (D : Addr) (y z : V) (k r : Value) (Q : Unit → Shared → Prop), X.prog = P → X.w = w → X.A.units + u < cLine → Inv X pins σ H s → RelV y k → RelV z r → st H D y z H' →
    (∀ s', Inv X pins σ H' s' → Q () s') → wpAny (model X.prog X.w) X.A (dictSet D k r) Q E s
def tDcG (o0 : HO) (st : StK) (wi : TI) (g : TG) (tt : TT) (tk tv : TE) (vs : List Nat) : TE := fun σ H Q => wi σ H fun J H1 => ∀ D, H1 D = none → ∃ W : Nat → Nat → Hp → Prop, (∃ m, W 0 m (upd H1 D o0)) ∧ ∀ i m H, W i m H →
  (J.stop i H ∧ Q (.ref D) H) ∨ (J.go i H ∧ ∃ Nx : Hp → Prop, (∀ H', Nx H' → ∃ m', m' < m ∧ W (i + 1) m' H') ∧ ∀ x H', J.yld i H x H' → g x (wipe σ vs) H' fun σ2 H2 => wipe σ2 vs = wipe σ vs ∧ tt σ2 H2 fun b H3 =>
    if b = true then tk σ2 H3 fun y H4 => tv σ2 H4 fun z H5 => ∃ H6, st H5 D y z H6 ∧ Nx H6 else Nx H3)
section
variable {X : Cx} {o0 : HO} {st : StK} {un : Nat}
theorem pe_dcG {kx vx tg iter : Expr} {ifs : List Expr} {scope : Scope} {own : List (Str × Nat)} {pos : Pos} {wi : TI} {g : TG} {tt : TT} {tk tv : TE} (DK : DicK X.prog X.w un o0 st) (hu : X.A.units + un < cLine) (calm : X.calm = true) (nd : X.N.Nodup) (it : PI X tg iter wi) (blk : BlkOk X.N X.env.scope scope own)
    (tgt : ∀ (s : Shared) (H : Hp) (C : Addr) (cl : List (Str × Addr)) (fp : List Addr), PG (X.blk s H scope (compEnvC scope cl C X.env) fp) tg g) (tst : ∀ (s : Shared) (H : Hp) (C : Addr) (cl : List (Str × Addr)) (fp : List Addr), PTs (X.blk s H scope (compEnvC scope cl C X.env) fp) ifs tt)
    (key : ∀ (s : Shared) (H : Hp) (C : Addr) (cl : List (Str × Addr)) (fp : List Addr), PE (X.blk s H scope (compEnvC scope cl C X.env) fp) kx tk)
    (val : ∀ (s : Shared) (H : Hp) (C : Addr) (cl : List (Str × Addr)) (fp : List Addr), PE (X.blk s H scope (compEnvC scope cl C X.env) fp) vx tv) (fold : ∀ x, foldedSetIterable iter X.env x = pure x := by intro _; rfl) :
    PE X (.DictComp kx vx [⟨tg, iter, ifs, 0⟩] scope pos) (tDcG o0 st wi g tt tk tv (own.map (·.2))) := by
  constructor
  intro pins s σ H Q I rd
  rw [arm_eval_DictComp]
  have cells : ∀ y ∈ scope.names, y.2 = .free → ∃ c, X.env.cells.lookup y.1 = some c := by
    intro y hy e
    rcases blk.free y hy e with k | k
    · exact I.ok.has _ (.inl k)
    · exact I.ok.has _ (.inr k)
  refine wpAny_comprehension_free rfl fold (closure_ok cells) blk.kind (fun y hy e => by rw [blk.uniq y hy, e]) (thn (it.run pins s σ H _ I rd) fun xv sa hxa => thn hxa fun itv sb hb => ?_)
  obtain ⟨a, fp, tn, J, Hb, rfl, Ib, T, stb, fpb, q⟩ := hb
  refine wpAny_newObj_type (newEnv_comp ?_)
  have fresh : Hb sb.heap.objs.size = none := Ib.hok.fresh (Nat.le_refl _)
  obtain ⟨W, ⟨m0, w0⟩, turn⟩ := q _ fresh
  generalize eD : sb.heap.objs.size = D at *
  -- the heap with the empty dict
  obtain ⟨sc, esc⟩ : ∃ sc : Shared, sc = { sb with heap := sb.heap.push { cls := .type "dict", data := .dict #[] } } := ⟨_, rfl⟩
  have hsc : sc.heap = sb.heap.push { cls := .type "dict", data := .dict #[] } := by rw [esc]
  have Ic : Inv X pins σ (upd Hb D o0) sc := by
    rw [esc, ← eD]
    exact Ib.laid (t' := sb.toks) (fun b o e => Heap.get?_push_of_some _ e) (Nat.le_refl _) (DK.new _ sb.heap Ib.big)
  rw [← esc]
  obtain ⟨Hc, eHc⟩ : ∃ Hc : Hp, Hc = upd Hb D o0 := ⟨_, rfl⟩
  rw [← eHc] at Ic w0
  have below : ∀ b ∈ fp, b < sb.heap.objs.size := by
    intro b hb
    obtain ⟨o, e, _⟩ := T.obj _ _ stb b hb
    exact Heap.lt_size e
  have fpc : ∀ b ∈ fp, FpOk X pins Hc b ∧ b < sc.heap.objs.size := by
    intro b hb
    have lt := below b hb
    have ne : b ≠ D := by rw [← eD]; exact Nat.ne_of_lt lt
    refine ⟨⟨?_, (fpb b hb).2⟩, ?_⟩
    · rw [eHc, upd_ne ne]
      exact (fpb b hb).1
    · rw [hsc, Heap.size_push]
      exact Nat.lt_succ_of_lt lt
  have stc : tn 0 sc.heap := T.keep _ _ _ stb fun b _ o e => by rw [hsc]; exact Heap.get?_push_of_some _ e
  have Id := block_start Ic blk nd fpc
  obtain ⟨L, eL⟩ : ∃ L : Addr, L = sc.heap.objs.size := ⟨_, rfl⟩
  obtain ⟨ce, ece⟩ : ∃ ce : Env, ce = compEnvC scope (cellsFrom (L + 1) scope.names (cloFrom X.env.cells scope.names [])) L X.env := ⟨_, rfl⟩
  have tgt' := tgt sc Hc L (cellsFrom (L + 1) scope.names (cloFrom X.env.cells scope.names [])) fp
  have tst' := tst sc Hc L (cellsFrom (L + 1) scope.names (cloFrom X.env.cells scope.names [])) fp
  have key' := key sc Hc L (cellsFrom (L + 1) scope.names (cloFrom X.env.cells scope.names [])) fp
  have val' := val sc Hc L (cellsFrom (L + 1) scope.names (cloFrom X.env.cells scope.names [])) fp
  rw [← ece] at tgt' tst' key' val'
  rw [← eL, ← ece] at Id
  have ceL : ce.locals = L := by rw [ece]; rfl
  obtain ⟨sd, esd⟩ : ∃ sd : Shared, sd = { sc with heap := pushCells (sc.heap.push { cls := .type "dict", data := .dict #[] }) scope.names } := ⟨_, rfl⟩
  rw [← esd] at Id
  have std : tn 0 sd.heap := T.keep _ _ _ stc fun b _ o e => by rw [esd]; exact pushCells_keeps _ _ _ _ (Heap.get?_push_of_some _ e)
  have non : ∀ b ∈ fp, Hc b = none := fun b hb => (fpc b hb).1.1
  have pin : ∀ {σ' : L2.St} {H' : Hp} {s' : Shared}, Inv (X.blk sc Hc scope ce fp) [] σ' H' s' → (∀ b ∈ fp, H' b = none) → ∀ b ∈ fp, FpOk (X.blk sc Hc scope ce fp) [] H' b := by
    intro σ' H' s' I' n b hb
    exact ⟨n b hb, (I'.ok.exf b hb).1, I'.ok.exfs b hb, .inl hb, fun x c e => (I'.ok.exf b hb).2 x c e, fun p hp => by simp at hp⟩
  have loop : codeAny (model X.prog X.w) X.A (.compLoop (.DictComp kx vx [⟨tg, iter, ifs, 0⟩] scope pos) 0 (.ref a) (.ref D) ce) (compPost (model X.prog X.w) X.A X.xe none (fun v s' => EP X pins σ Q v s') (.ref D) L) sd := by
    refine compLoop_anyD (fun n s' => ∃ i H', Inv (X.blk sc Hc scope ce fp) [] (wipe σ (own.map (·.2))) H' s' ∧ tn i s'.heap ∧ (∀ b ∈ fp, H' b = none) ∧ W i n H') ?_ m0 ⟨0, Hc, Id, std, non, w0⟩
    rintro n se ⟨i, He, Ie, ste, ne, we⟩
    rcases turn i n He we with ⟨stop, qq⟩ | ⟨go, Nx, back, step⟩
    · refine thnF (T.done (X.blk sc Hc scope ce fp) rfl rfl rfl calm i [] se _ He (fun _ _ => False) Ie (pin Ie ne) ste stop) fun r sf ⟨er, If⟩ => ?_
      subst er
      have Ig : Inv X pins σ He sf := Ic.call' (ch := fp) If.os If.base If.hok If.bare fun b hb => let z := (fpc b hb).1.2; ⟨z.2.2.1, z.1, z.2.2.2.1, z.2.2.2.2⟩
      have nL : He L = none := by
        have z : He ce.locals = none := If.free
        rw [ceL] at z
        exact z
      obtain ⟨m, hn, _⟩ := If.loc
      have hn' : sf.heap.Ns L m := by
        have z : sf.heap.Ns ce.locals m := hn
        rw [ceL] at z
        exact z
      refine ⟨m, hn', fun h'' sb' => ?_⟩
      obtain ⟨f0, f1, _, f3, f4, f5⟩ := Ic.fpOk (Nat.le_of_eq eL.symm) nL
      exact ⟨.ref D, He, Ig.turned (t' := sf.toks) (fun b o hb e => (sb'.2 b hb).trans e) f0 f1 f3 f4 f5, rfl, qq⟩
    · refine thnF (T.item (X.blk sc Hc scope ce fp) rfl rfl rfl calm i [] se _ He (fun _ _ => False) Ie (pin Ie ne) ste go) fun r sf ⟨u, er, hf⟩ => ?_
      subst er
      refine thnF hf fun _ sg ⟨x, Hg, Ig, rg, yg, stg, ng⟩ => ?_
      have Ig' := Ig.pinned (pin Ig ng) (T.obj _ _ stg)
      refine thnF (tgt'.run _ sg _ Hg x u _ Ig' rg (step x Hg yg)) fun _ sh ⟨σh, Hh, Ih, hw, qh⟩ => ?_
      refine thnF (tst'.run _ sh σh Hh _ Ih qh) fun b si ⟨Hi, Ii, qi⟩ => ?_
      have over : ∀ {s' : Shared} {H' : Hp}, Inv (X.blk sc Hc scope ce fp) ([] ++ pinsAt fp sg.heap) σh H' s' → Nx H' → ∃ m, m < n ∧ ∃ i H', Inv (X.blk sc Hc scope ce fp) [] (wipe σ (own.map (·.2))) H' s' ∧ tn i s'.heap ∧ (∀ b ∈ fp, H' b = none) ∧ W i m H' := by
        intro s' H' I' nx
        obtain ⟨m', lt, w'⟩ := back H' nx
        have held : ∀ b ∈ fp, ∀ o, sg.heap.get? b = some o → s'.heap.get? b = some o ∧ H' b = none := by
          intro b hb o e
          have z := I'.pin (b, o) (List.mem_append_right _ (List.mem_append_right _ (mem_pinsAt hb e)))
          exact ⟨z.1, z.2.1⟩
        have len : (wipe σ (own.map (·.2))).length = σh.length := by rw [← hw, wipe_length]
        refine ⟨m', lt, i + 1, H', (I'.unpinned (pins := [])).weak len ?_, T.keep _ _ _ stg fun b hb o e => (held b hb o e).1, ?_, w'⟩
        · intro j v e
          rw [← hw] at e
          exact (wipe_some e).1
        · intro b hb
          obtain ⟨o, e, _⟩ := T.obj _ _ stg b hb
          exact (held b hb o e).2
      cases b with
      | false =>
        rw [if_neg Bool.false_ne_true] at qi ⊢
        exact over Ii qi
      | true =>
        rw [if_pos rfl] at qi ⊢
        refine thnF (key'.run _ si σh Hi _ Ii qi) fun k sj ⟨yk, Hj, Ij, rj, qj⟩ => ?_
        refine thnF (val'.run _ sj σh Hj _ Ij qj) fun z sk ⟨yv, Hk, Ik, rk, H6, hst, nx⟩ => ?_
        exact DK.put (X.blk sc Hc scope ce fp) _ σh Hk H6 sk _ D yk yv k z _ rfl rfl hu Ik rj rk hst fun s' I' => over I' nx
  rw [← eL]
  show codeAny _ _ (.compStart _ 0 (.ref a) (.ref D) (compEnvC scope (cellsFrom (L + 1) scope.names (cloFrom X.env.cells scope.names [])) L X.env)) (compPost _ _ _ _ _ (.ref D) L) { sc with heap := pushCells (sc.heap.push { cls := .type "dict", data := .dict #[] }) scope.names }
  rw [← ece, ← esd]
  exact codeAny_compStart_dict loop (T.self X.A 0 _ _ _ std loop)
end
/-! keys: tuples of ints and texts -/
def stT : StK := fun H D y z H' => ∃ (kvs : List (List Key × V)) (k : List Key) (b : Addr), y = .ref b ∧ H b = some (.tup (k.map kV)) ∧ H D = some (.dT kvs) ∧ kvs.length < sizeLine ∧ H' = upd H D (.dT (putK kvs k z))
theorem dicK_T {P : Program} {w : World} : DicK P w 1 (.dT []) stT where
  new := fun H h hb => dt_empty h hb
  put := by
    intro X pins σ H H' s E D y z k r Q eP ew hu I ry rz hst h
    subst eP ew
    obtain ⟨kvs, ks, b, ey, eb, eD, l, eH⟩ := hst
    subst ey eH
    cases (show k = Value.ref b from ry)
    obtain ⟨hz0, hd, xs, rel, dd⟩ := dt_of I.hok eD
    have hz : xs.length ≤ sizeLine := by
      rw [← Paired.length rel]
      exact hz0
    have hl : (putK kvs ks z).length ≤ sizeLine := by
      have := length_putK kvs ks z
      omega
    refine wpAny_dictSet_heap (hsz := hz) (show X.A.units < cLine by omega) (key_of I.hok eb) dd fun h' dd' hs => h _ ?_
    obtain ⟨q, es, ep, hq, d1, d2, d3, _, d5⟩ := dd'
    refine d_write I (by rw [eD]; exact True.intro) hs ⟨q, hq⟩ ⟨hl, hd, _, (rel.put ks eb rz).keeps fun c ys ec => ?_, q, es, ep, hq, d1, d2, d3, d5⟩
    rw [upd_ne (ne_of ec eD (fun z => nomatch z))]
    exact ec
end JP

namespace JP
open PySem PySem.W PySem.Spec PySem.Calls PyProof.Rows

/-! ### x op y, x op= y, x an own instance, y of any type that is looked up; y op x for y of a builtin type -/
section
variable {prog : Program} {w : World} {A : Around} {E : Value → Shared → Prop} {s : Shared} {K : Frag} {x C L f : Addr} {h₀ : Heap} {m : Str → Option Value} {ox : Obj} {od : Option Obj}
/-- what is looked up of y's type tb: it is C, or another one -/
structure RightTy (prog : Program) (w : World) (C : Addr) (nm : String) (h : Heap) (b tb : Value) : Prop where
  ty : Looks (model prog w) h (typeOf b) tb
  ne : (Value.ref C == tb) = false
  fill : ∃ right, Looks (model prog w) h (fillsNumberSlot tb nm) right
  sub : Looks (model prog w) h (isSubtype tb (.ref C)) false
  inPy : ∃ py, Looks (model prog w) h (numberSlotInPython tb nm) py
  rev : ∃ ro, Looks (model prog w) h (typeLookup tb (dunderR nm)) ro
def RightOk (prog : Program) (w : World) (C : Addr) (nm : String) (h : Heap) (b : Value) : Prop := Looks (model prog w) h (typeOf b) (.ref C) ∨ ∃ tb, RightTy prog w C nm h b tb
/-- the own class's facts for one sign -/
structure LeftOp (K : Frag) (C : Addr) (nm : String) (f : Addr) : Prop where
  first : selfFirst K C = true
  at_ : findIn K (.ref C) (PySem.dunder nm) = some (some (.ref f))
  fn : isFn K (.ref f) = true
  rev : findIn K (.ref C) (dunderR nm) = some none ∨ ∃ g : Addr, findIn K (.ref C) (dunderR nm) = some (some (.ref g))
theorem bin1_own {nm : String} {b : Value} {Q : Value → Shared → Prop} (F : Fr h₀ L s.heap m) (X₀ : K.In h₀) (I : InstAt s.heap x ox C od) (O : LeftOp K C nm f) (T : RightOk prog w C nm s.heap b)
    (h : wpAny (model prog w) A (call (.ref f) [.ref x, b]) (PySem.W.CmpBack Q) E s) : wpAny (model prog w) A (binaryOp1 nm (.ref x) b) (fun r s' => ∃ v, r = some v ∧ Q v s') E s := by
  have X := X₀.keeps F.keep
  obtain ⟨cd, rest, hcd, hm⟩ := ksp_first O.first
  have one := ksp_try X I O.at_ O.fn h
  have l3' : Looks (model prog w) s.heap (numberSlotInPython (.ref C) nm) true := by
    rcases O.rev with e | ⟨g, e⟩
    · exact ksp_inPy X O.at_ e (.inl rfl)
    · exact ksp_inPy X O.at_ e (.inr ⟨g, rfl⟩)
  obtain ⟨hh, g, d, tt, os⟩ := s
  have l1 : Looks (model prog w) hh (typeOf (.ref x)) (.ref C) := I.type
  have l2 : Looks (model prog w) hh (fillsNumberSlot (.ref C) nm) true := fills_K X hcd hm O.at_
  have l3 : Looks (model prog w) hh (numberSlotInPython (.ref C) nm) true := l3'
  rcases T with t1 | ⟨tb, t1, t2, ⟨right, t3⟩, t4, ⟨py, t5⟩, ⟨ro, t6⟩⟩
  · dsimp only at t1
    unfold binaryOp1
    refine wpAny_bind (l1.at (wpAny_bind (t1.at (wpAny_bind (l2.at ?_)))))
    simp only [beq_self_eq_true, if_true]
    ksp_lk
    refine wpAny_mono one (fun r s' q => ?_) fun _ _ e => e
    obtain ⟨v, rfl, hq⟩ := q
    ksp_lk
    exact ⟨v, rfl, hq⟩
  · dsimp only at t1 t3 t4 t5 t6
    unfold binaryOp1
    refine wpAny_bind (l1.at (wpAny_bind (t1.at (wpAny_bind (l2.at ?_)))))
    simp only [t2, Bool.false_eq_true, if_false]
    cases right <;> cases py
    all_goals
      ksp_lk
      refine wpAny_mono one (fun r s' q => ?_) fun _ _ e => e
      obtain ⟨v, rfl, hq⟩ := q
      ksp_lk
      exact ⟨v, rfl, hq⟩
theorem bin_own {op : Operator} {b : Value} {Q : Value → Shared → Prop} (F : Fr h₀ L s.heap m) (X₀ : K.In h₀) (I : InstAt s.heap x ox C od) (O : LeftOp K C op.info.2 f) (T : RightOk prog w C op.info.2 s.heap b)
    (h : wpAny (model prog w) A (call (.ref f) [.ref x, b]) (PySem.W.CmpBack Q) E s) : wpAny (model prog w) A (binaryOp op (.ref x) b) Q E s := by
  have one := bin1_own F X₀ I O T h
  unfold binaryOp
  refine wpAny_holding (wpAny_bind (wpAny_mono one (fun r s' q => ?_) fun _ _ e => e))
  obtain ⟨v, rfl, hq⟩ := q
  exact wpAny_pure hq
/-- no in-place sign of its own, and nothing above but object -/
structure NoIn (K : Frag) (C : Addr) (nm : String) : Prop where
  mro : ∃ cd, clsIn K C = some cd ∧ cd.mro = [.ref C, .type "object"]
  own : findIn K (.ref C) (dunderI nm) = some none
  obj : findIn K (.type "object") (dunderI nm) = some none
theorem noIn_looks {h : Heap} {nm : String} {add : Bool} (X : K.In h) (N : NoIn K C nm) : Looks (model prog w) h (fillsInplaceSlot (.ref C) nm add) false := by
  obtain ⟨⟨cd, hc, hm⟩, h1, h2⟩ := N
  intro A Q E s k q
  have Lm : Looks (model prog w) h (mroOf (.ref C)) cd.mro := (looks_clsIn X hc).andThen (f := fun cd => pure cd.mro) .now
  have Lm' := Lm.keeps k
  obtain ⟨hh, g, d, tt, os⟩ := s
  have X' : K.In hh := X.keeps k
  have L1 : Looks (model prog w) hh (typeLookup (.ref C) (dunderI nm)) none := looks_findIn X' h1
  have L2 : Looks (model prog w) hh (typeLookup (.type "object") (dunderI nm)) none := looks_findIn X' h2
  unfold fillsInplaceSlot
  refine wpAny_bind (Lm'.at ?_)
  rw [hm, List.anyM_cons]
  refine wpAny_bind ?_
  repeat lk
  exact q
theorem inpl_own {op : Operator} {b : Value} {Q : Value → Shared → Prop} (F : Fr h₀ L s.heap m) (X₀ : K.In h₀) (I : InstAt s.heap x ox C od) (O : LeftOp K C op.info.2 f) (N : NoIn K C op.info.2) (T : RightOk prog w C op.info.2 s.heap b)
    (h : wpAny (model prog w) A (call (.ref f) [.ref x, b]) (PySem.W.CmpBack Q) E s) : wpAny (model prog w) A (inplaceOp op (.ref x) b) Q E s := by
  have one := bin1_own F X₀ I O T h
  have X := X₀.keeps F.keep
  obtain ⟨hh, g, d, tt, os⟩ := s
  have l1 : Looks (model prog w) hh (typeOf (.ref x)) (.ref C) := I.type
  have l2 : Looks (model prog w) hh (fillsInplaceSlot (.ref C) op.info.2 (op == .Add)) false := noIn_looks X N
  unfold inplaceOp
  refine wpAny_holding (wpAny_bind (l1.at (wpAny_bind (l2.at ?_))))
  simp only [Bool.false_eq_true, if_false]
  refine wpAny_bind (wpAny_mono one (fun r s' q => ?_) fun _ _ e => e)
  obtain ⟨v, rfl, hq⟩ := q
  ksp_lk
  exact hq
/-- a value of a builtin type on the right -/
theorem right_ty {nm T : String} {h : Heap} {b : Value} {fo ro : Option Value} (X : K.In h) (hb : Looks (model prog w) h (typeOf b) (.type T)) (h1 : findIn K (.type T) (PySem.dunder nm) = some fo) (h2 : findIn K (.type T) (dunderR nm) = some ro)
    (hsub : subIn K (.type T) (.ref C) = some false) : RightOk prog w C nm h b :=
  .inr ⟨.type T, hb, Bool.eq_false_iff.mpr fun q => (by cases beq_iff_eq.mp q), ⟨_, ksp_fillsT X h1 h2⟩, looks_subIn X hsub, ⟨false, Looks.of_pure rfl⟩, ⟨ro, looks_findIn X h2⟩⟩
/-- an instance of another own class with this sign -/
theorem right_own {nm : String} {h : Heap} {b : Value} {C2 f2 : Addr} (X : K.In h) (hb : Looks (model prog w) h (typeOf b) (.ref C2)) (O : LeftOp K C2 nm f2) (hne : (Value.ref C == Value.ref C2) = false) (hsub : subIn K (.ref C2) (.ref C) = some false) : RightOk prog w C nm h b := by
  obtain ⟨cd, rest, hcd, hm⟩ := ksp_first O.first
  rcases O.rev with e | ⟨g, e⟩
  · exact .inr ⟨.ref C2, hb, hne, ⟨true, fills_K X hcd hm O.at_⟩, looks_subIn X hsub, ⟨true, ksp_inPy X O.at_ e (.inl rfl)⟩, ⟨_, looks_findIn X e⟩⟩
  · exact .inr ⟨.ref C2, hb, hne, ⟨true, fills_K X hcd hm O.at_⟩, looks_subIn X hsub, ⟨true, ksp_inPy X O.at_ e (.inr ⟨g, rfl⟩)⟩, ⟨_, looks_findIn X e⟩⟩
end
end JP

namespace JP
open PySem PySem.Spec PyProof.Rows L2

/-! ### own signs by the abstract heap -/
section
variable {X : Cx} {pins : List (Addr × Obj)} {σ : L2.St} {H : Hp} {s : Shared}
theorem looks_obj {M : Model} {h : Heap} {a : Addr} {o : Obj} {T : String} (e : h.get? a = some o) (c : o.cls = .type T) : PySem.W.Looks M h (typeOf (.ref a)) (.type T) :=
  fun A Q E s k q => wpAny_typeOf ⟨o, k _ _ e, c⟩ q
theorem looks_ty {y : V} {u : Value} {T : String} (I : Inv X pins σ H s) (r : RelV y u) (ty : TyOf X.K H y (.type T)) : PySem.W.Looks (model X.prog X.w) s.heap (typeOf u) (.type T) := by
  generalize ht : (Value.type T) = t at ty
  cases ty with
  | non =>
    cases ht
    cases (show u = Value.none from r)
    exact .of_pure rfl
  | bl b =>
    cases ht
    cases (show u = Value.bool _ from r)
    exact .of_pure rfl
  | int i =>
    cases ht
    obtain ⟨t, rfl⟩ := (show ∃ t, u = Value.int _ t from r)
    exact .of_pure rfl
  | str x =>
    cases ht
    obtain ⟨t, rfl⟩ := (show ∃ t, u = Value.str _ t from r)
    exact .of_pure rfl
  | flt x =>
    cases ht
    obtain ⟨t, rfl⟩ := (show ∃ t, u = Value.float _ t from r)
    exact .of_pure rfl
  | lst e =>
    cases ht
    cases (show u = Value.ref _ from r)
    obtain ⟨_, its, n, _, g⟩ := (show ObjOk X.prog X.w H s.heap _ (.lst _) from I.hok _ _ e)
    exact looks_obj g rfl
  | frz e =>
    cases ht
    cases (show u = Value.ref _ from r)
    obtain ⟨_, _, its, n, _, g⟩ := (show ObjOk X.prog X.w H s.heap _ (.frz _ (.lst _)) from I.hok _ _ e)
    exact looks_obj g rfl
  | tup e =>
    cases ht
    cases (show u = Value.ref _ from r)
    obtain ⟨_, its, _, o, g, c, _⟩ := (show ObjOk X.prog X.w H s.heap _ (.tup _) from I.hok _ _ e)
    exact looks_obj g c
  | dK e =>
    cases ht
    cases (show u = Value.ref _ from r)
    obtain ⟨_, _, vs, _, o, _, _, g, c, _⟩ := (show ObjOk X.prog X.w H s.heap _ (.dK _) from I.hok _ _ e)
    exact looks_obj g c.1
  | dT e =>
    cases ht
    cases (show u = Value.ref _ from r)
    obtain ⟨_, _, xs, _, o, es, ep, g, c, _⟩ := (show ObjOk X.prog X.w H s.heap _ (.dT _) from I.hok _ _ e)
    exact looks_obj g c.1
  | ins e => cases ht
theorem looks_tyX {y : V} {u : Value} {T : String} (I : Inv X pins σ H s) (r : RelV y u) (ty : TyX X.K H y (.type T)) : PySem.W.Looks (model X.prog X.w) s.heap (typeOf u) (.type T) := by
  generalize ht : (Value.type T) = t at ty
  cases ty with
  | base h =>
    subst ht
    exact looks_ty I r h
  | byt b =>
    cases ht
    obtain ⟨t, rfl⟩ := (show ∃ t, u = Value.bytes _ t from r)
    exact .of_pure rfl
  | set e =>
    cases ht
    cases (show u = Value.ref _ from r)
    obtain ⟨o, _, _, _, g, c, _⟩ := (show ObjOk X.prog X.w H s.heap _ (.set _ _) from I.hok _ _ e)
    exact looks_obj g c.1
  | kList e c =>
    cases ht
    cases (show u = Value.ref _ from r)
    exact looks_obj (I.kIn _ _ e) c
  | kTuple e c =>
    cases ht
    cases (show u = Value.ref _ from r)
    exact looks_obj (I.kIn _ _ e) c
  | kDict e c =>
    cases ht
    cases (show u = Value.ref _ from r)
    exact looks_obj (I.kIn _ _ e) c
  | fTuple e =>
    cases ht
    cases (show u = Value.ref _ from r)
    obtain ⟨_, _, its, _, o, g, c, _⟩ := (show ObjOk X.prog X.w H s.heap _ (.frz _ (.tup _)) from I.hok _ _ e)
    exact looks_obj g c
  | fDict e =>
    cases ht
    cases (show u = Value.ref _ from r)
    obtain ⟨_, _, _, vs, _, o, _, _, g, c, _⟩ := (show ObjOk X.prog X.w H s.heap _ (.frz _ (.dK _)) from I.hok _ _ e)
    exact looks_obj g c.1
/-- y may stand right of a sign of the class C: what is known of the classes alone -/
inductive RtK (K : PySem.W.Frag) (C : Addr) (nm : String) : Value → Prop
  | same : RtK K C nm (.ref C)
  | own {C2 f2 : Addr} : LeftOp K C2 nm f2 → (Value.ref C == Value.ref C2) = false → PySem.W.subIn K (.ref C2) (.ref C) = some false → RtK K C nm (.ref C2)
  | ty {T : String} {fo ro : Option Value} : PySem.W.findIn K (.type T) (PySem.dunder nm) = some fo → PySem.W.findIn K (.type T) (dunderR nm) = some ro → PySem.W.subIn K (.type T) (.ref C) = some false → RtK K C nm (.type T)
theorem right_of {C : Addr} {nm : String} {y : V} {u t : Value} (I : Inv X pins σ H s) (r : RelV y u) (ty : TyX X.K H y t) (k : RtK X.K C nm t) : RightOk X.prog X.w C nm s.heap u := by
  cases k with
  | ty h1 h2 h3 => exact right_ty I.kIn (looks_tyX I r ty) h1 h2 h3
  | same =>
    cases ty with
    | base ty =>
      cases ty with
      | ins e =>
        cases (show u = Value.ref _ from r)
        obtain ⟨oy, oe, J⟩ := ins_inst I e
        exact .inl J.type
  | own O ne sub =>
    cases ty with
    | base ty =>
      cases ty with
      | ins e =>
        cases (show u = Value.ref _ from r)
        obtain ⟨oy, oe, J⟩ := ins_inst I e
        exact right_own I.kIn J.type O ne sub
variable {CX : CXT} {k : Nat} {C g : Addr} {fd : FuncData} {ps : List Str} {sp : Sp} {E : XK} {op : Operator}
def rOwn (K : PySem.W.Frag) (C : Addr) (nm : String) (sp : Sp) (E : XK) : R2 := fun x y H Q => ∃ a dx fs t, x = .ref a ∧ H a = some (.ins C dx fs) ∧ TyX K H y t ∧ RtK K C nm t ∧ sp [.ref a, y] H (fun v H' => (∃ c, v = .ref c) ∧ Q v H') E
theorem back_ref {Q : VK} {w : Value} {s' : Shared} (z : ∃ v H', Inv X pins σ H' s' ∧ RelV v w ∧ (∃ c, v = V.ref c) ∧ Q v H') : PySem.W.CmpBack (EP X pins σ Q) w s' := by
  obtain ⟨v, H', I', rv, ⟨c, rfl⟩, q⟩ := z
  obtain rfl : w = Value.ref c := rv
  exact ⟨.ref c, H', I', rfl, q⟩
theorem op_own (O : LeftOp X.K C op.info.2 g) (F : FnOk X.prog X.w X.K X.mg X.base CX k g fd ps sp) (hb : Binds X.K fd ps []) (hr : Room k X.A) (hx : Passes CX X E) : OpR X (binaryOp op) (rOwn X.K C op.info.2 sp E) := by
  intro pins s σ H x y v u Q I rx ry h
  obtain ⟨a, dx, fs, t, rfl, ha, ty, rt, q⟩ := h
  obtain rfl : v = Value.ref a := rx
  obtain ⟨ox, od, J⟩ := ins_inst I ha
  obtain ⟨m, hF⟩ := I.fr
  refine bin_own hF I.ok.mod.kin J O (right_of I ry ty rt) ?_
  exact wpAny_mono (call_at (us := [.ref a, u]) (vs := [.ref a, y]) F hb hr hx I I.env0 (.cons rfl (.cons ry .nil)) q) (fun w s' z => back_ref z) fun _ _ z => z
theorem ip_own (O : LeftOp X.K C op.info.2 g) (N : NoIn X.K C op.info.2) (F : FnOk X.prog X.w X.K X.mg X.base CX k g fd ps sp) (hb : Binds X.K fd ps []) (hr : Room k X.A) (hx : Passes CX X E) : PIp X op (rOwn X.K C op.info.2 sp E) := by
  intro pins s σ H x y v u Q I rx ry h
  obtain ⟨a, dx, fs, t, rfl, ha, ty, rt, q⟩ := h
  obtain rfl : v = Value.ref a := rx
  obtain ⟨ox, od, J⟩ := ins_inst I ha
  obtain ⟨m, hF⟩ := I.fr
  refine inpl_own hF I.ok.mod.kin J O N (right_of I ry ty rt) ?_
  exact wpAny_mono (call_at (us := [.ref a, u]) (vs := [.ref a, y]) F hb hr hx I I.env0 (.cons rfl (.cons ry .nil)) q) (fun w s' z => back_ref z) fun _ _ z => z
end
/-! ### `is` of None, True, False -/
def isV : V → V → Option Bool
  | .non, .non => some true
  | .bl a, .bl b => some (decide (a = b))
  | .non, .bl _ => some false
  | .bl _, .non => some false
  | _, _ => none
def rIsF (neg : Bool) : R2 := fun x y H Q => ∃ b, isV x y = some b ∧ Q (.bl (if neg then !b else b)) H
theorem op_isF {X : Cx} : OpR X (compareOp .Is) (rIsF false) := by
  intro pins s σ H x y v u Q I rx ry h
  obtain ⟨b, e, q⟩ := h
  have fin : ∀ {c : Bool}, Q (.bl c) H → EP X pins σ Q (.bool c) s := fun q => ⟨.bl _, H, I, rfl, q⟩
  unfold isV at e
  split at e
  · cases e
    cases (show v = Value.none from rx)
    cases (show u = Value.none from ry)
    exact wpAny_is_self rfl (fin q)
  · rename_i a c
    cases e
    cases (show v = Value.bool a from rx)
    cases (show u = Value.bool c from ry)
    by_cases z : a = c
    · subst z
      exact wpAny_is_self rfl (fin (by simpa using q))
    · exact wpAny_is_other rfl (fun t => z (Value.bool.inj t)) (fin (by simpa [z] using q))
  · cases e
    cases (show v = Value.none from rx)
    cases (show u = Value.bool _ from ry)
    exact wpAny_is_other rfl (fun t => nomatch t) (fin q)
  · cases e
    cases (show v = Value.bool _ from rx)
    cases (show u = Value.none from ry)
    exact wpAny_is_other rfl (fun t => nomatch t) (fin q)
  · cases e
end JP

namespace JP
open PySem PySem.Spec PyProof.Rows L2 StX
/-! ### C(e, .., *y), C(*y), C() by a positional promise of __init__ -/
section
variable {X : Cx} {CX : CXT} {k : Nat} {f C : Addr} {sp : Sp} {E : XK} {x : Str} {e : Expr} {es : List Expr} {te : TE} {t : TA} {p sp_ pos : Pos}
theorem pe_makeS2 (M : Mk X.K C f) (F : FnR X.prog X.w X.K X.mg X.base CX k f sp) (hr : Room (k + 1) X.A) (hg : Gl X x) (hm : X.mg x = some (.ref C)) (hx : Passes CX X E) (ha : PA X (e :: es) t) (hdb : (x == ("__debug__" : Str)) = false := by decide)
    (he : starEach (e :: es) X.env = (false, eval e X.env) :: starEach es X.env := by rfl) (hst : (backTo pos (starEach es X.env)).any (·.1) = true := by rfl) : PE X (.Call (.Name x p) (e :: es) [] pos) (tMakeR C sp E t) := by
  constructor
  intro pins s σ H Q I h
  refine wpAny_Call_Name_kw (ld_glob I hg hm (PySem.W.callWith_S2 (h₀ := X.base) I.ok.mod.kin M.kp (thn (ha.run pos pins s σ H _ I h) fun us s1 z => ?_) he hst) hdb)
  obtain ⟨vs, H1, I1, r, q⟩ := z
  exact ⟨I1.kIn, run_makeR M F hr hx I1 r q⟩
theorem pe_makeS1 (M : Mk X.K C f) (F : FnR X.prog X.w X.K X.mg X.base CX k f sp) (hr : Room (k + 1) X.A) (hg : Gl X x) (hm : X.mg x = some (.ref C)) (hx : Passes CX X E) (he : PE X e te) (hdb : (x == ("__debug__" : Str)) = false := by decide)
    (hst : starEach [.Starred e sp_] X.env = [(true, eval e X.env)] := by rfl) : PE X (.Call (.Name x p) [.Starred e sp_] [] pos) (tMakeR C sp E (tStar X.K te tNil)) := by
  constructor
  intro pins s σ H Q I h
  refine wpAny_Call_Name_kw (ld_glob I hg hm (PySem.W.callWith_S (h₀ := X.base) I.ok.mod.kin M.kp (thn (he.run pins s σ H _ I h) fun v s1 z => ?_) hst) hdb)
  obtain ⟨y, H1, I1, ry, a, xs, rfl, hxs, q⟩ := z
  obtain rfl : v = Value.ref a := ry
  refine star_any I1 hxs fun us s2 I2 rv => ⟨I2.kIn, run_makeR M F hr hx I2 rv ?_⟩
  have q' : ∀ x dx, _ := q
  rw [List.append_nil] at q'
  exact q'
theorem pe_makeR0 (M : Mk X.K C f) (F : FnR X.prog X.w X.K X.mg X.base CX k f sp) (hr : Room (k + 1) X.A) (hg : Gl X x) (hm : X.mg x = some (.ref C)) (hx : Passes CX X E) (hdb : (x == ("__debug__" : Str)) = false := by decide) : PE X (.Call (.Name x p) [] [] pos) (tMakeR C sp E tNil) := by
  constructor
  intro pins s σ H Q I h
  exact wpAny_Call_Name_kw (ld_glob I hg hm (PySem.W.callWith_K0 I.kIn M.kp (run_makeR (us := []) M F hr hx I .nil h)) hdb)
end
end JP

namespace JP
open PySem PySem.Spec PyProof.Rows L2
/-! ### stars -/
section
variable {X : Cx} {B : Bs} {K : PySem.W.Frag} {e : Expr} {es : List Expr} {te : TED} {t : TAD} {pos p sp_ : Pos} {W : WD}
variable {σ : L2.St} {H F : Hp} {δ : SD} {G : Gm}
def dStar (te : TED) (t : TAD) : TAD := fun δ G Q => te δ G fun d G1 => match seqD d G1 with | some ds => t δ G1 fun es G2 => Q (ds ++ es) G2 | none => False
theorem da_star (he : DE X B e te) (hr : DA X B es t) (hs : starEach (.Starred e p :: es) X.env = (true, eval e X.env) :: starEach es X.env := by rfl) : DA X B (.Starred e p :: es) (dStar te t) :=
  PA.weak (StX.pa_star he hr hs) fun σ H Q ⟨F, G, δ, Qd, S, h, k⟩ => ⟨F, G, δ, _, S, h, fun v H1 ⟨F1, G1, d, s1, S1, r1, h1⟩ => by
    cases q : seqD d G1 with
    | none => simp only [q] at h1
    | some ds =>
      simp only [q] at h1
      obtain ⟨a, xs, rfl, hs, ra⟩ := seq_rep S1 r1 q
      exact ⟨a, xs, rfl, hs.symm, F1, G1, δ, _, S1, h1, fun ys H2 ⟨F2, G2, es, s2, S2, r2, h2⟩ => k _ _ ⟨F2, G2, _, s1.trans s2, S2, (ra.mono s2).append r2, h2⟩⟩⟩
/-- what a def with a star parameter is told: its first n, then the rest in a tuple -/
def starD (n : Nat) (sp : SpD) : SpD := fun ds G Q W => n ≤ ds.length ∧ ds.length ≤ 1000 ∧ sp (ds.take n ++ [.tup (ds.drop n)]) G Q W
abbrev RnD (P : Program) (w : World) (K : PySem.W.Frag) (mg : Str → Option Value) (base : Heap) (k : Nat) (f : Addr) (sp : SpD) : Prop := FnR P w K mg base (L2.CX P w) k f (lowSp K sp)
theorem dfnS {P : Program} {w : World} {mg : Str → Option Value} {base : Heap} {k : Nat} {f : Addr} {fd : FuncData} {x qual pv : Str} {st : Stmt} {ps N : List Str} {sp : SpD} (Fn : Fun K x qual st f fd) (S : FnScope N (ps ++ [pv]) (defScope st))
    (hb : ∀ (kV doc pm : Value) (an : Option Addr) (cdv ct : Value) (us rest : List Value), us.length = ps.length → bindArgs (PySem.W.fnOf x qual (defArgs st) (defBody st) (defScope st) .none kV doc pm an cdv ct) ⟨us ++ rest, []⟩ = (newTuple rest >>= fun t => pure (ps.zip us ++ [(pv, t)])))
    (body : ∀ (cdv : Value) (A : Around) (outer : List Env) (s : Shared) (H : Hp) (E : XK) (B : Bs) (W : WD), Room k (A.deeper (envOfC qual (defScope st) s.heap.objs.size f cdv)) →
      Takes (cxOf (L2.CX P w) P w K mg base N qual (defScope st) f cdv A outer s H E) (fun cls d _ H => XW K B W cls d H) →
      ∃ T, DB (cxOf (L2.CX P w) P w K mg base N qual (defScope st) f cdv A outer s H E) B (defBody st) T ∧ ∀ ds G Q, sp ds G Q W → T { nx := fun _ G => Q .non G, rt := Q } (startD N ds) G) :
    RnD P w K mg base (k + 1) f (starD ps.length sp) := by
  obtain ⟨oc, od, kV, doc, pm, an, cdv, ct, osl, rfl, lk, hcd⟩ := Fn.ex
  refine FnR.imp (StX.fn_star (sp := lowSp K sp) lk hcd S StX.cxUp (hb kV doc pm an cdv ct) fun A outer s H vs Q E hr ⟨B, G, ds, Qd, W, d, r, h, kq, ke⟩ => ?_) ?_
  · obtain ⟨T, hT, hq⟩ := body cdv A outer s H E B W hr ((takes_of rfl rfl rfl rfl).imp fun c d _ H q => ke c d H q)
    exact ⟨upS K B T, hT, B.F, G, startD N ds, _, ⟨d, .refl B.F, sl_start r⟩, hq ds G Qd h, ⟨fun σ H' ⟨F', G', δ', s', S', q⟩ => kq _ _ ⟨F', G', .non, s', S'.ds, S'.gr, .non, q⟩, fun v H' q => kq v H' q, fun _ _ ⟨_, _, _, _, _, q⟩ => q.elim, fun _ _ ⟨_, _, _, _, _, q⟩ => q.elim⟩⟩
  · rintro vs H Q E ⟨B, G, ds, Qd, W, d, r, ⟨h1, h2, h3⟩, kq, ke⟩
    have l := r.length
    refine ⟨vs.take ps.length, vs.drop ps.length, (List.take_append_drop _ _).symm, by rw [List.length_take]; omega, by rw [List.length_drop]; exact small1000 (by omega), fun p np => ?_⟩
    obtain ⟨d2, s2⟩ := d.new (o := .tup (vs.drop ps.length)) np
    refine ⟨⟨upd B.F p (.tup (vs.drop ps.length)), B.Z, B.T⟩, G, _, Qd, W, d2, ((r.take _).mono s2).append (.cons (.tup upd_same ((r.drop _).mono s2)) .nil), h3, fun v H' ⟨F', G', d', s', ds', gr', r', q'⟩ => kq v H' ⟨F', G', d', s2.trans s', ds', s2.trans gr', r', q'⟩, fun cls dd H' ⟨F', G', C', fs, e, s', ds', xr, w'⟩ => ke cls dd H' ⟨F', G', C', fs, e, s2.trans s', ds', xr, w'⟩⟩
variable {k : Nat} {f C : Addr} {sp : SpD} {x : Str}
theorem de_makeS2 (M : Mk X.K C f) (gc : GoodC X.K C) (Fn : RnD X.prog X.w X.K X.mg X.base k f sp) (hr : Room (k + 1) X.A) (hg : Gl X x) (hm : X.mg x = some (.ref C)) (hx : Passes (L2.CX X.prog X.w) X (XW X.K B W)) (ha : DA X B (e :: es) t)
    (hdb : (x == ("__debug__" : Str)) = false := by decide) (he : starEach (e :: es) X.env = (false, eval e X.env) :: starEach es X.env := by rfl) (hst : (backTo pos (starEach es X.env)).any (·.1) = true := by rfl) : DE X B (.Call (.Name x p) (e :: es) [] pos) (dMake C sp W t) :=
  PE.weak (pe_makeS2 M Fn hr hg hm hx ha hdb he hst) fun σ H Q ⟨F, G, δ, Qd, S, h, kk⟩ => ⟨F, G, δ, _, S, h, fun vs H1 ⟨F1, G1, ds, s1, S1, r1, h1⟩ => low_make gc kk s1 S1 r1 h1⟩
theorem de_makeR (M : Mk X.K C f) (gc : GoodC X.K C) (Fn : RnD X.prog X.w X.K X.mg X.base k f sp) (hr : Room (k + 1) X.A) (hg : Gl X x) (hm : X.mg x = some (.ref C)) (hx : Passes (L2.CX X.prog X.w) X (XW X.K B W)) (ha : DA X B (e :: es) t)
    (hdb : (x == ("__debug__" : Str)) = false := by decide) (he : starEach (e :: es) X.env = (false, eval e X.env) :: starEach es X.env := by rfl) (hpl : (backTo pos (starEach es X.env)).any (·.1) = false := by rfl) : DE X B (.Call (.Name x p) (e :: es) [] pos) (dMake C sp W t) :=
  PE.weak (StX.pe_makeR M Fn hr hg hm hx ha hdb he hpl) fun σ H Q ⟨F, G, δ, Qd, S, h, kk⟩ => ⟨F, G, δ, _, S, h, fun vs H1 ⟨F1, G1, ds, s1, S1, r1, h1⟩ => low_make gc kk s1 S1 r1 h1⟩
theorem de_makeS1 (M : Mk X.K C f) (gc : GoodC X.K C) (Fn : RnD X.prog X.w X.K X.mg X.base k f sp) (hr : Room (k + 1) X.A) (hg : Gl X x) (hm : X.mg x = some (.ref C)) (hx : Passes (L2.CX X.prog X.w) X (XW X.K B W)) (he : DE X B e te)
    (hdb : (x == ("__debug__" : Str)) = false := by decide) (hst : starEach [.Starred e sp_] X.env = [(true, eval e X.env)] := by rfl) : DE X B (.Call (.Name x p) [.Starred e sp_] [] pos) (dMake C sp W (dStar te dNil)) :=
  PE.weak (pe_makeS1 M Fn hr hg hm hx he hdb hst) fun σ H Q ⟨F, G, δ, Qd, S, h, kk⟩ => ⟨F, G, δ, _, S, h, fun v H1 ⟨F1, G1, d, s1, S1, r1, h1⟩ => by
    cases q : seqD d G1 with
    | none => simp only [q] at h1
    | some ds =>
      simp only [q] at h1
      obtain ⟨a, xs, rfl, hs, ra⟩ := seq_rep S1 r1 q
      refine ⟨a, xs, rfl, hs.symm, ?_⟩
      have h2 : ∀ x, G1 x = none → _ := h1
      rw [List.append_nil] at h2
      show ∀ x dx, _ → _ → _ → lowSp X.K sp (.ref x :: (xs ++ [])) _ _ _
      rw [List.append_nil]
      exact low_make gc kk s1 S1 ra h2⟩
theorem de_makeR0 (M : Mk X.K C f) (gc : GoodC X.K C) (Fn : RnD X.prog X.w X.K X.mg X.base k f sp) (hr : Room (k + 1) X.A) (hg : Gl X x) (hm : X.mg x = some (.ref C)) (hx : Passes (L2.CX X.prog X.w) X (XW X.K B W)) (hdb : (x == ("__debug__" : Str)) = false := by decide) : DE X B (.Call (.Name x p) [] [] pos) (dMake C sp W dNil) :=
  PE.weak (pe_makeR0 M Fn hr hg hm hx hdb) fun σ H Q ⟨F, G, δ, Qd, S, h, kk⟩ => low_make gc kk (.refl F) S .nil h
end
/-! ### own signs; is -/
section
variable {X : Cx} {B : Bs} {K : PySem.W.Frag} {k : Nat} {C g : Addr} {fd : FuncData} {ps : List Str} {sp : SpD} {W : WD} {op : Operator} {a b e : Expr} {ta tb te : TED} {pos : Pos}
variable {σ : L2.St} {H F : Hp} {δ : SD} {G : Gm}
/-- x op y, x of the class C -/
def ownD (K : PySem.W.Frag) (C : Addr) (nm : String) (sp : SpD) (W : WD) : R2D := fun a b G Q => match insD a G with
  | some (C1, _) => C1 = C ∧ (∃ t, TyD K b G t ∧ RtK K C nm t) ∧ sp [a, b] G (fun z G1 => isO z = true ∧ Q z G1) W
  | none => False
theorem own_A {x y : V} {a b : D} {nm : String} {Qd : QD} {Q : VK} (S : Sit K B σ H F δ G) (r1 : Rep K F x a) (r2 : Rep K F y b) (h : ownD K C nm sp W a b G Qd) (kk : ∀ v H', Beh K B σ F δ Qd v H' → Q v H') : rOwn K C nm (lowSp K sp) (XW K B W) x y H Q := by
  unfold ownD at h
  cases q : insD a G with
  | none => simp only [q] at h
  | some cf =>
    obtain ⟨C', fs⟩ := cf
    simp only [q] at h
    obtain ⟨rfl, ⟨t, ty, rk⟩, h⟩ := h
    obtain ⟨ad, dx, fv, rfl, e1, gc, na, rf⟩ := ins_rep S r1 q
    exact ⟨ad, dx, fv, t, rfl, e1, tyD_ty S r2 ty, rk, low_at S (.cons r1 (.cons r2 .nil)) h fun v H' ⟨F', G', d', s', S', r', o', q'⟩ => ⟨isO_ref r' o', kk _ _ ⟨F', G', d', s', S', r', q'⟩⟩⟩
theorem de_own (hK : X.K = K) {nm : String} (hop : op.info.2 = nm) (O : LeftOp K C nm g) (Fn : FnD X.prog X.w X.K X.mg X.base k g fd ps sp) (hb : Binds X.K fd ps []) (hr : Room k X.A) (hx : Passes (L2.CX X.prog X.w) X (XW X.K B W)) (ha : DE X B a ta) (hb2 : DE X B b tb) : DE X B (.BinOp a op b pos) (dOp (ownD K C nm sp W) ta tb) := by
  subst hK hop
  exact PE.weak (pe_op (op_own O Fn hb hr hx) ha hb2) fun σ H Q ⟨F, G, δ, Qd, S, h, k⟩ => up2 S h fun x y H2 F2 G2 d e s2 S2 r1 r2 h2 => own_A S2 r1 r2 h2 fun v H' ⟨F', G', d', s', S', r', q'⟩ => k v H' ⟨F', G', d', s2.trans s', S', r', q'⟩
theorem ds_augO (hK : X.K = K) {i : Nat} {x : Str} {pos' : Pos} {nm : String} (hop : op.info.2 = nm) (O : LeftOp K C nm g) (N : NoIn K C nm) (Fn : FnD X.prog X.w X.K X.mg X.base k g fd ps sp) (hb : Binds X.K fd ps []) (hr : Room k X.A) (hx : Passes (L2.CX X.prog X.w) X (XW X.K B W))
    (hN : X.N.Nodup) (hi : X.N[i]? = some x) (hl : Loc X.env.scope x) (he : DE X B e te) (hf : X.fn x = true ∨ X.env.scope.names.lookup x = some .local := by first | exact .inl rfl | exact .inr rfl | assumption) :
    DSt X B (.AugAssign (.Name x pos') op e pos) (dAug i te (ownD K C nm sp W)) := by
  subst hK hop
  exact PS.weak (ps_aug hN hi hl he (ip_own O N Fn hb hr hx) hf) fun D σ H ⟨F, G, δ, E, S, h, L⟩ => by
    unfold dAug at h
    split at h
    · rename_i a e
      obtain ⟨v, e', ra⟩ := S.sl.get i a e
      exact ⟨v, e', F, G, δ, _, S, h, fun y H1 ⟨F1, G1, b, s1, S1, r1, h1⟩ => own_A S1 (ra.mono s1) r1 h1 fun z H2 ⟨F2, G2, d, s2, S2, r2, h2⟩ => L.nx _ _ ⟨F2, G2, _, s1.trans s2, S2.set i r2, h2⟩⟩
    · exact h.elim
def isFD (neg : Bool) : R2D := fun a b G Q => match a, b with
  | .non, .non => Q (.bl (if neg then false else true)) G
  | .bl a, .bl b => Q (.bl (if neg then !decide (a = b) else decide (a = b))) G
  | .non, .bl _ => Q (.bl (if neg then true else false)) G
  | .bl _, .non => Q (.bl (if neg then true else false)) G
  | _, _ => False
theorem isF_A {neg : Bool} : OpA K (rIsF neg) (isFD neg) := fun B σ δ H F G x y a b Qd Q S r1 r2 h k => by
  unfold isFD at h
  split at h
  · rw [rep_non r1, rep_non r2]
    exact ⟨true, rfl, k _ _ (.val S (.bl _) h)⟩
  · rw [rep_bl r1, rep_bl r2]
    exact ⟨_, rfl, k _ _ (.val S (.bl _) h)⟩
  · rw [rep_non r1, rep_bl r2]
    exact ⟨false, rfl, k _ _ (.val S (.bl _) (by cases neg <;> exact h))⟩
  · rw [rep_bl r1, rep_non r2]
    exact ⟨false, rfl, k _ _ (.val S (.bl _) (by cases neg <;> exact h))⟩
  · exact h.elim
end
end JP

namespace JP
open PySem PySem.Spec PyProof.Rows L2
theorem vals_of_areS : ∀ {vs : List Value} {xs : List Str}, AreOf .str vs xs → Vals (xs.map V.str) vs
  | _, _, .nil => .nil
  | _, _, .cons h r => .cons h (vals_of_areS r)
/-- list(text) -/
def rListS : List V → Hp → VK → Prop := fun xs H Q => ∃ z, xs = [V.str z] ∧ z.cps.size ≤ sizeLine ∧ ∀ l, H l = none → Q (.ref l) (upd H l (.lst ((signs z).map V.str)))
theorem call_listS {X : Cx} (hc : X.calm = true) : CallR X (.type "list") rListS := by
  intro pins s σ H vs us Q I r h
  obtain ⟨z, rfl, hz, q⟩ := h
  obtain ⟨u, rfl, t, rfl⟩ := Vals.one r
  refine call_list_str (hn := hz) (I.ok.hd hc) z t fun h' tk acc' c' k e it => ?_
  have a : AreOf .str acc'.toList (signs z) := areOf_signs (by simpa using it.1) (fun j v e => it.2 j v (by simpa using e))
  have v := vals_of_areS a
  have hl : ((signs z).map V.str).length ≤ sizeLine := by
    rw [v.length]
    show acc'.toList.length ≤ _
    rw [Array.length_toList, it.1]
    exact hz
  exact ⟨.ref _, upd H s.heap.objs.size (.lst ((signs z).map V.str)), I.laid (t' := tk) (fun b o e => k b o e) (Nat.le_refl _) ⟨hl, acc'.toList, c', v, by simpa using e⟩, rfl, q _ (I.hok.fresh (Nat.le_refl _))⟩
end JP

namespace JP
open PySem PySem.Spec PyProof.Rows L2
/-! ## dicts with tuple keys as trees -/
def keyD : D → Option Key
  | .int i => some (.inl i)
  | .str x => some (.inr x)
  | _ => none
def keysL : List D → Option (List Key)
  | [] => some []
  | d :: ds => match keyD d, keysL ds with | some k, some ks => some (k :: ks) | _, _ => none
def keysD : D → Option (List Key)
  | .tup ds => keysL ds
  | _ => none
theorem keyD_kD : ∀ k : Key, keyD (kD k) = some k
  | .inl _ => rfl
  | .inr _ => rfl
theorem keysL_kD : ∀ ks : List Key, keysL (ks.map kD) = some ks
  | [] => rfl
  | k :: ks => by show (match keyD (kD k), keysL (ks.map kD) with | some k, some ks => some (k :: ks) | _, _ => none) = _; rw [keyD_kD, keysL_kD ks]
theorem keysL_ints : ∀ ns : List Int, keysL (ns.map D.int) = some (ns.map Sum.inl)
  | [] => rfl
  | n :: ns => by show (match keyD (.int n), keysL (ns.map D.int) with | some k, some ks => some (k :: ks) | _, _ => none) = _; rw [keysL_ints ns]; rfl
abbrev EntL := List (List Key × D)
def hasL (es : EntL) (ks : List Key) : Bool := es.any fun p => decide (p.1 = ks)
def putL (es : EntL) (ks : List Key) (d : D) : EntL := if hasL es ks = true then es.map (fun p => if p.1 = ks then (p.1, d) else p) else es ++ [(ks, d)]
def ditD (es : EntL) : D := .dit (es.map fun p => (.tup (p.1.map kD), p.2))
inductive RepL (K : PySem.W.Frag) (F : Hp) : List (List Key × V) → EntL → Prop
  | nil : RepL K F [] []
  | cons {k : List Key} {v : V} {vs : List (List Key × V)} {d : D} {ds : EntL} : Rep K F v d → RepL K F vs ds → RepL K F ((k, v) :: vs) ((k, d) :: ds)
section
variable {K : PySem.W.Frag} {F F' : Hp}
theorem RepL.mono (s : Same F F') : ∀ {vs : List (List Key × V)} {ds : EntL}, RepL K F vs ds → RepL K F' vs ds
  | _, _, .nil => .nil
  | _, _, .cons h r => .cons (h.mono s) (RepL.mono s r)
theorem RepL.toT : ∀ {vs : List (List Key × V)} {ds : EntL}, RepL K F vs ds → RepT K F vs (ds.map fun p => (.tup (p.1.map kD), p.2))
  | _, _, .nil => .nil
  | _, _, .cons h r => .cons h (RepL.toT r)
theorem RepL.len : ∀ {vs : List (List Key × V)} {ds : EntL}, RepL K F vs ds → vs.length = ds.length
  | _, _, .nil => rfl
  | _, _, .cons _ r => congrArg (· + 1) (RepL.len r)
theorem RepL.any {ks : List Key} : ∀ {vs : List (List Key × V)} {ds : EntL}, RepL K F vs ds → (vs.any fun kv => decide (kv.1 = ks)) = hasL ds ks
  | _, _, .nil => rfl
  | _, _, .cons _ r => by
    unfold hasL
    rw [List.any_cons, List.any_cons, RepL.any r]
    rfl
theorem RepL.map {ks : List Key} {z : V} {d : D} (rz : Rep K F z d) : ∀ {vs : List (List Key × V)} {ds : EntL}, RepL K F vs ds → RepL K F (vs.map fun kv => if kv.1 = ks then (kv.1, z) else kv) (ds.map fun p => if p.1 = ks then (p.1, d) else p)
  | _, _, .nil => .nil
  | _, _, .cons (k := k) h r => by
    rw [List.map_cons, List.map_cons]
    by_cases c : k = ks
    · subst c
      simp only [if_true]
      exact .cons rz (RepL.map rz r)
    · simp only [c, if_false]
      exact .cons h (RepL.map rz r)
theorem RepL.append : ∀ {vs us : List (List Key × V)} {ds es : EntL}, RepL K F vs ds → RepL K F us es → RepL K F (vs ++ us) (ds ++ es)
  | _, _, _, _, .nil, q => q
  | _, _, _, _, .cons h r, q => .cons h (RepL.append r q)
theorem RepL.put {ks : List Key} {z : V} {d : D} {vs : List (List Key × V)} {ds : EntL} (r : RepL K F vs ds) (rz : Rep K F z d) : RepL K F (putK vs ks z) (putL ds ks d) := by
  unfold putK putL
  rw [← r.any (ks := ks)]
  split
  · exact r.map rz
  · exact r.append (.cons rz .nil)
theorem len_putL (es : EntL) (ks : List Key) (d : D) : (putL es ks d).length ≤ es.length + 1 := by
  unfold putL
  split
  · simp
  · simp
theorem key_rep {y : V} {d : D} {k : Key} (r : Rep K F y d) (q : keyD d = some k) : y = kV k := by
  cases d with
  | int i => cases r; cases q; rfl
  | str x => cases r; cases q; rfl
  | _ => cases q
theorem keys_all : ∀ {ys : List V} {ds : List D} {ks : List Key}, RepAll K F ys ds → keysL ds = some ks → ys = ks.map kV
  | _, _, ks, .nil, q => by cases q; rfl
  | _, _, ks, .cons (v := v) (vs := vs) (d := d) (ds := ds) h r, q => by
    unfold keysL at q
    cases e1 : keyD d with
    | none => simp only [e1] at q; cases q
    | some k =>
      cases e2 : keysL ds with
      | none => simp only [e1, e2] at q; cases q
      | some ks2 =>
        simp only [e1, e2] at q
        cases q
        rw [key_rep h e1, keys_all r e2]
        rfl
theorem keys_rep {y : V} {d : D} {ks : List Key} (r : Rep K F y d) (q : keysD d = some ks) : ∃ b, y = .ref b ∧ F b = some (.tup (ks.map kV)) := by
  cases d with
  | tup ds =>
    cases r with
    | tup hq ra => exact ⟨_, rfl, by rw [← keys_all ra q]; exact hq⟩
  | _ => cases q
/-- whether a key is there, told by the tree -/
def hasT (ds : List (D × D)) (ks : List Key) : Bool := ds.any fun p => decide (keysD p.1 = some ks)
theorem hasT_ditD (es : EntL) (ks : List Key) : hasT (es.map fun p => (.tup (p.1.map kD), p.2)) ks = hasL es ks := by
  unfold hasT hasL
  rw [List.any_map]
  congr 1
  funext p
  show decide (keysL (p.1.map kD) = some ks) = decide (p.1 = ks)
  rw [keysL_kD]
  simp
theorem repT_any {ks : List Key} : ∀ {vs : List (List Key × V)} {ds : List (D × D)}, RepT K F vs ds → (vs.any fun kv => decide (kv.1 = ks)) = hasT ds ks
  | _, _, .nil => rfl
  | _, _, .cons (k := k) _ r => by
    unfold hasT
    rw [List.any_cons, List.any_cons, repT_any r]
    show (decide (k = ks) || _) = (decide (keysL (k.map kD) = some ks) || _)
    rw [keysL_kD]
    simp only [Option.some.injEq]
    rfl
theorem valV_isSome {κ : Type} [DecidableEq κ] (vs : List (κ × V)) (k : κ) : (valV vs k).isSome = vs.any fun kv => decide (kv.1 = k) := by
  unfold valV
  rw [Option.isSome_map]
  induction vs with
  | nil => rfl
  | cons v vs ih =>
    rw [List.find?_cons, List.any_cons]
    cases decide (v.1 = k) with
    | true => rfl
    | false => exact ih
end
/-! ### dict comprehensions -/
def dcD (g : TGD) (tt : TTD) (tk tv : TED) (Fin : EntL → Gm → Prop) (δ : SD) : List D → EntL → Gm → Prop
  | [], acc, G => Fin acc G
  | d :: ds, acc, G => g d δ G fun δ1 G1 => tt δ1 G1 fun b G2 => match b with
    | true => tk δ1 G2 fun y G3 => tv δ1 G3 fun z G4 => ∃ ks, keysD y = some ks ∧ dcD g tt tk tv Fin δ ds (putL acc ks z) G4
    | false => dcD g tt tk tv Fin δ ds acc G2
def dDcT (ti : TID) (g : TGD) (tt : TTD) (tk tv : TED) (vs : List Nat) : TED := fun δ G Q => ti δ G fun ds G1 => ds.length < sizeLine ∧ dcD g tt tk tv (fun acc G => Q (ditD acc) G) (wipeD δ vs) ds [] G1
section
variable {K : PySem.W.Frag} {B : Bs}
theorem dc_adeq {ti : TID} {gV : TG} {g : TGD} {tt : TTD} {tk tv : TED} {vs : List Nat} (hg : CG K vs gV g) (σ : L2.St) (H : Hp) (Q : VK) (h : up K B (dDcT ti g tt tk tv vs) σ H Q) : tDcG (.dT []) stT (upI K B ti) gV (upTU K tt) (upU K tk) (upU K tv) vs σ H Q := by
  obtain ⟨F, G, δ, Qd, S, h, k⟩ := h
  refine ⟨F, G, δ, _, S, h, fun J H1 ⟨F1, G1, ds, s1, S1, it, hz, h1⟩ D nD => ?_⟩
  have fD : F1 D = none := S1.ds.noF nD
  have zD : B.Z D = none := S1.ds.noZ nD
  refine ⟨fun i m H' => m = ds.length - i ∧ i ≤ ds.length ∧ ∃ F' G' acc av, Same F1 F' ∧ F' D = none ∧ G' D = none ∧ H' D = some (.dT av) ∧ RepL K F' av acc ∧ acc.length ≤ i ∧ Sit K B σ H' F' δ G' ∧ dcD g tt tk tv (fun acc G => Qd (ditD acc) G) (wipeD δ vs) (ds.drop i) acc G',
    ⟨ds.length, by simp, Nat.zero_le _, F1, G1, [], [], .refl F1, fD, S1.ds.noG nD, upd_same, .nil, Nat.le_refl _, S1.same (same_new nD), h1⟩, ?_⟩
  rintro i m H2 ⟨rfl, hi, F2, G2, acc, av, s2, f2, g2, h2D, ra, la, S2, h2⟩
  have sh : Same F1 H2 := s2.trans S2.ds.sub
  rcases Nat.lt_or_ge i ds.length with hlt | hge
  · refine .inr ⟨it.go i H2 hlt sh, fun H' => ∃ F' G' acc av, Same F1 F' ∧ F' D = none ∧ G' D = none ∧ H' D = some (.dT av) ∧ RepL K F' av acc ∧ acc.length ≤ i + 1 ∧ Sit K B σ H' F' δ G' ∧ dcD g tt tk tv (fun acc G => Qd (ditD acc) G) (wipeD δ vs) (ds.drop (i + 1)) acc G', fun H' q => ⟨ds.length - (i + 1), by omega, rfl, hlt, q⟩, fun x H3 y => ?_⟩
    obtain ⟨F3, d, s3, S3, hd, rd⟩ := it.yld i H2 x H3 hlt sh y ⟨F1, upd B.Z D (.dT av), B.T⟩ σ δ G2 F2 ⟨S2.ds.zadd h2D f2 g2 trivial, s2, S2.sl⟩ s2
    rw [drop_get hd] at h2
    have Sw : Sit K ⟨F1, upd B.Z D (.dT av), B.T⟩ (wipe σ vs) H3 F3 (wipeD δ vs) G2 := ⟨S3.ds, S3.gr, S3.sl.wipe vs⟩
    refine hg _ _ _ _ _ _ _ _ _ _ Sw rd h2 fun σ4 δ4 e4 S4 h4 => ⟨?_, ⟨F1, upd B.Z D (.dT av), B.T⟩, F3, G2, δ4, _, S4, h4, fun b H5 ⟨F5, G5, s5, S5, h5⟩ => ?_⟩
    · have ww : ∀ (us : List Nat) (σ : L2.St), (∀ u ∈ us, u ∈ vs) → wipe (wipe σ us) vs = wipe σ vs := by
        intro us
        induction us with
        | nil => intro σ _; rfl
        | cons u us ih =>
          intro σ hu
          show wipe ((wipe σ us).set u none) vs = wipe σ vs
          rw [wipe_set (hu u List.mem_cons_self)]
          exact ih σ fun v hv => hu v (List.mem_cons_of_mem _ hv)
      exact e4.trans (ww vs σ fun u hu => hu)
    · cases b with
      | false =>
        obtain ⟨d5, h5D, f5, g5⟩ := S5.ds.zdel zD
        exact ⟨F5, G5, acc, av, (s2.trans s3).trans s5, f5, g5, h5D, ra.mono (s3.trans s5), by omega, ⟨d5, S2.gr.trans (s3.trans s5), S2.sl.mono (s3.trans s5)⟩, h5⟩
      | true =>
        refine ⟨⟨F1, upd B.Z D (.dT av), B.T⟩, F5, G5, δ4, _, S5, h5, fun y H6 ⟨F6, G6, dy, s6, S6, r6, h6⟩ => ?_⟩
        refine ⟨⟨F1, upd B.Z D (.dT av), B.T⟩, F6, G6, δ4, _, S6, h6, fun z H7 ⟨F7, G7, dz, s7, S7, r7, ks, ek, h7⟩ => ?_⟩
        obtain ⟨d7, h7D, f7, g7⟩ := S7.ds.zdel zD
        have st := ((s3.trans s5).trans s6).trans s7
        obtain ⟨b, eb, fb⟩ := keys_rep (r6.mono s7) ek
        have rn : RepL K F7 (putK av ks z) (putL acc ks dz) := (ra.mono st).put r7
        refine ⟨_, ⟨av, ks, b, eb, S7.ds.sub _ _ fb, h7D, by rw [ra.len]; omega, rfl⟩, F7, G7, putL acc ks dz, putK av ks z, s2.trans st, f7, g7, upd_same, rn, ?_, ⟨d7.other h7D f7 g7 zD, S2.gr.trans st, S2.sl.mono st⟩, h7⟩
        have := len_putL acc ks dz
        omega
  · have e : i = ds.length := by omega
    subst e
    rw [List.drop_length] at h2
    refine .inl ⟨it.stop H2 sh, k _ _ ?_⟩
    obtain ⟨d3, s3⟩ := S2.ds.frz h2D g2 zD
    exact ⟨_, G2, ditD acc, (s1.trans s2).trans s3, ⟨d3, S2.gr.trans s3, S2.sl.mono s3⟩, .dt upd_same ((ra.mono s3).toT), h2⟩
end
section
variable {X : Cx} {B : Bs} {kx vx tg iter : Expr} {ifs : List Expr} {scope : Scope} {own : List (Str × Nat)} {pos : Pos} {ti : TID} {gV : TG} {g : TGD} {tt : TTD} {tk tv : TED}
theorem de_dcT (hu : X.A.units + 1 < cLine) (hc : X.calm = true) (hN : X.N.Nodup) (hi : DI X B tg iter ti) (ok : BlkOk X.N X.env.scope scope own)
    (hcg : CG X.K (own.map (·.2)) gV g)
    (hg : ∀ (s : Shared) (H : Hp) (C : Addr) (cl : List (Str × Addr)) (fp : List Addr), PG (X.blk s H scope (compEnvC scope cl C X.env) fp) tg gV)
    (ht : ∀ (s : Shared) (H : Hp) (C : Addr) (cl : List (Str × Addr)) (fp : List Addr) (B : Bs), DTs (X.blk s H scope (compEnvC scope cl C X.env) fp) B ifs tt)
    (hk : ∀ (s : Shared) (H : Hp) (C : Addr) (cl : List (Str × Addr)) (fp : List Addr) (B : Bs), DE (X.blk s H scope (compEnvC scope cl C X.env) fp) B kx tk)
    (he : ∀ (s : Shared) (H : Hp) (C : Addr) (cl : List (Str × Addr)) (fp : List Addr) (B : Bs), DE (X.blk s H scope (compEnvC scope cl C X.env) fp) B vx tv) (hs : ∀ x, foldedSetIterable iter X.env x = pure x := by intro _; rfl) :
    DE X B (.DictComp kx vx [⟨tg, iter, ifs, 0⟩] scope pos) (dDcT ti g tt tk tv (own.map (·.2))) :=
  PE.weak (pe_dcG dicK_T hu hc hN hi ok hg (fun s H C cl fp => ⟨fun pins s σ H Q I ⟨B, h⟩ => (ht _ _ C cl fp B).run pins s σ H Q I h⟩) (fun s H C cl fp => ⟨fun pins s σ H Q I ⟨B, h⟩ => (hk _ _ C cl fp B).run pins s σ H Q I h⟩) (fun s H C cl fp => ⟨fun pins s σ H Q I ⟨B, h⟩ => (he _ _ C cl fp B).run pins s σ H Q I h⟩) hs) fun σ H Q h => dc_adeq hcg σ H Q h
/-! ### key in dict -/
def dInT (ta tb : TED) : TED := fun δ G Q => ta δ G fun a G1 => tb δ G1 fun b G2 => match b with
  | .dit kvs => ∃ ks, keysD a = some ks ∧ Q (.bl (hasT kvs ks)) G2
  | _ => False
variable {a b : Expr} {ta tb : TED}
theorem pc_inT (hu : X.A.units + 1 < cLine) (ha : DE X B a ta) (hb : DE X B b tb) : PC X .In a b (up X.K B (dInT ta tb)) := by
  refine ⟨fun pins s σ H Q I h => ?_⟩
  obtain ⟨F, G, δ, Qd, S, h, k⟩ := h
  refine (pc_din hu ha hb).run pins s σ H Q I ⟨F, G, δ, _, S, h, fun y H1 ⟨F1, G1, d, s1, S1, r1, h1⟩ => ⟨F1, G1, δ, _, S1, h1, fun x H2 ⟨F2, G2, e, s2, S2, r2, h2⟩ => ?_⟩⟩
  match e, r2, h2 with
  | .dit kvs, r2, h2 =>
    obtain ⟨ks, ek, q⟩ := h2
    obtain ⟨b, eb, fb⟩ := keys_rep (r1.mono s2) ek
    cases r2 with
    | dt hq rt =>
      refine ⟨_, _, rfl, by rw [eb]; exact DGet.t (S2.ds.sub _ _ hq) (S2.ds.sub _ _ fb), k _ _ ⟨F2, G2, .bl (hasT kvs ks), s1.trans s2, S2, ?_, q⟩⟩
      rw [valV_isSome, repT_any rt]
      exact .bl _
theorem de_inT (hu : X.A.units + 1 < cLine) (ha : DE X B a ta) (hb : DE X B b tb) (hm : behindInMarks .In b = false := by rfl) : DE X B (.Compare a [.In] [b] pos) (dInT ta tb) := pe_cmp (pc_inT hu ha hb) hm
def dtIn (ta tb : TED) : TTD := fun δ G Q => dInT ta tb δ G fun d G1 => match d with | .bl b => Q b G1 | _ => False
theorem dt_inT (hu : X.A.units + 1 < cLine) (ha : DE X B a ta) (hb : DE X B b tb) (hm : behindInMarks .In b = false := by rfl) : DT X B (.Compare a [.In] [b] pos) (dtIn ta tb) :=
  PT.weak (pt_cmp (pc_inT hu ha hb) hm) fun σ H Q ⟨F, G, δ, Qd, S, h, k⟩ => ⟨F, G, δ, _, S, h, fun v H1 ⟨F1, G1, d, s1, S1, r1, h1⟩ => by
    cases d with
    | bl b => cases r1; exact ⟨b, rfl, k _ _ ⟨F1, G1, s1, S1, h1⟩⟩
    | _ => exact h1.elim⟩
end
end JP

namespace JP
open PySem PySem.Spec PyProof.Rows L2
section
variable {X : Cx} {B : Bs} {K : PySem.W.Frag} {o e : Expr} {es : List Expr} {te to : TED} {t : TAD} {pos apos : Pos}
variable {σ : L2.St} {H F : Hp} {δ : SD} {G : Gm}
/-! ### texts -/
/-- x.isascii() and so on -/
def dM0 (g : Str → Bool) (to : TED) : TED := fun δ G Q => to δ G fun d G1 => match d with | .str x => Q (.bl (g x)) G1 | _ => False
theorem de_m0 {id : String} {name : Str} {g : Str → Bool} (slot : Slot "str" name id) (ty : typeOf (.builtin id) = pure (.type "method_descriptor")) (rule : MtR X id (fun x xs H Q => ∃ a, x = .str a ∧ xs = [] ∧ True ∧ Q (.bl (g a)) H)) (ho : DE X B o to)
    (hbase : attributeBase o name X.env (eval o X.env) = eval o X.env := by rfl) (hline : (apos.endLine == pos.line) = true := by rfl) : DE X B (.Call (.Attribute o name apos) [] [] pos) (dM0 g to) :=
  PE.weak (pe_m0 slot ty rule ho hbase hline) fun σ H Q ⟨F, G, δ, Qd, S, h, k⟩ => ⟨F, G, δ, _, S, h, fun v H1 ⟨F1, G1, d, s1, S1, r1, h1⟩ => by
    cases d with
    | str x => cases r1; exact ⟨⟨x, rfl⟩, x, rfl, rfl, trivial, k _ _ ⟨F1, G1, _, s1, S1, .bl _, h1⟩⟩
    | _ => exact h1.elim⟩
def ltSD : R2D := fun a b G Q => match a, b with | .str i, .str j => Q (.bl (decide (i.cps.toList < j.cps.toList))) G | _, _ => False
theorem ltS_A : OpA K (fun x y H Q => ∃ i j, x = .str i ∧ y = .str j ∧ Q (.bl (decide (i.cps.toList < j.cps.toList))) H) ltSD := fun B σ δ H F G x y a b Qd Q S r1 r2 h k => by
  unfold ltSD at h
  split at h
  · cases r1
    cases r2
    exact ⟨_, _, rfl, rfl, k _ _ (.val S (.bl _) h)⟩
  · exact h.elim
/-- text not in a dict of the top -/
def ninD (K : PySem.W.Frag) (c : Addr) : R2D := fun a b G Q => match a, b with | .str x, .adr c' => c' = c ∧ ∃ r, PySem.W.nsIn K c x = some r ∧ Q (.bl (!r.isSome)) G | _, _ => False
theorem nin_A {c : Addr} : OpA K (fun x y H Q => ∃ (z : Str) (r : Option Value), x = .str z ∧ y = .ref c ∧ PySem.W.nsIn K c z = some r ∧ Q (.bl (!r.isSome)) H) (ninD K c) := fun B σ δ H F G x y a b Qd Q S r1 r2 h k => by
  unfold ninD at h
  split at h
  · obtain ⟨rfl, r, e, q⟩ := h
    cases r1
    cases r2
    exact ⟨_, r, rfl, rfl, e, k _ _ (.val S (.bl _) q)⟩
  · exact h.elim
/-! ### calls -/
variable {x : Str} {p : Pos}
theorem de_callBfun {id : String} {rv : List V → Hp → VK → Prop} {r : List D → Gm → QD → Prop} (hc : CallR X (.builtin id) rv) (hA : CallA X.K rv r) (hg : Gl X x) (hm : X.mg x = some (.builtin id)) (ha : DA X B (e :: es) t) (hdb : (x == ("__debug__" : Str)) = false := by decide)
    (he : starEach (e :: es) X.env = (false, eval e X.env) :: starEach es X.env := by rfl) (hpl : (backTo pos (starEach es X.env)).any (·.1) = false := by rfl) : DE X B (.Call (.Name x p) (e :: es) [] pos) (dCB r t) :=
  PE.weak (pe_callBfun hc hg hm ha hdb he hpl) fun σ H Q h => cb_adeq hA h
def gcdD : LD := fun ds G Q => match ds with | [.int a, .int b] => Q (.int ((Nat.gcd a.natAbs b.natAbs : Nat) : Int)) G | _ => False
theorem gcd_A : CallA K rGcd gcdD := fun B σ δ H F G xs ds Qd Q S r h k => by
  unfold gcdD at h
  split at h
  · obtain ⟨v, u, rfl, r1, r2⟩ := repAll2 r
    cases r1
    cases r2
    exact ⟨_, _, rfl, k _ _ (.val S (.int _) h)⟩
  · exact h.elim
def strSD : LD := fun ds G Q => match ds with | [.str a] => Q (.str a) G | _ => False
theorem strS_A : CallA K (fun xs H Q => ∃ a, xs = [V.str a] ∧ Q (.str a) H) strSD := fun B σ δ H F G xs ds Qd Q S r h k => by
  unfold strSD at h
  split at h
  · obtain ⟨v, rfl, r1⟩ := repAll1 r
    cases r1
    exact ⟨_, rfl, k _ _ (.val S (.str _) h)⟩
  · exact h.elim
theorem repAll_strs : ∀ {ys : List Str} {F : Hp}, RepAll K F (ys.map V.str) (ys.map D.str)
  | [], _ => .nil
  | y :: ys, _ => .cons (.str y) repAll_strs
theorem repAll_strs_eq : ∀ {vs : List V} {ys : List Str}, RepAll K F vs (ys.map D.str) → vs = ys.map V.str
  | _, [], .nil => rfl
  | _, y :: ys, .cons h r => by cases h; rw [repAll_strs_eq r]; rfl
def lstSD : LD := fun ds G Q => match ds with | [.str z] => z.cps.size ≤ sizeLine ∧ Q (.lst ((signs z).map .str)) G | _ => False
theorem lstS_A : CallA K rListS lstSD := fun B σ δ H F G xs ds Qd Q S r h k => by
  unfold lstSD at h
  split at h
  · obtain ⟨v, rfl, r1⟩ := repAll1 r
    cases r1
    exact ⟨_, rfl, h.1, fun l nl => k _ _ (.newL S nl repAll_strs h.2)⟩
  · exact h.elim
/-- list(..), to be changed -/
def lstMD : LD := fun ds G Q => match ds with | [d] => (match seqD d G with | some es => ∀ p, G p = none → Q (.adr p) (updG G p (.lst es)) | none => False) | _ => False
theorem lstM_A : CallA K (fun xs H Q => ∃ p ys, xs = [.ref p] ∧ (SqL K H p ys ∨ SqT K H p ys) ∧ ∀ l, H l = none → Q (.ref l) (upd H l (.lst ys))) lstMD := fun B σ δ H F G xs ds Qd Q S r h k => by
  unfold lstMD at h
  split at h
  · rename_i d
    obtain ⟨v, rfl, rv⟩ := repAll1 r
    cases e : seqD d G with
    | none => simp only [e] at h
    | some es =>
      simp only [e] at h
      obtain ⟨p, xs, rfl, hs, ra⟩ := seq_rep S rv e
      exact ⟨p, xs, rfl, hs, fun l nl => k _ _ (.open (m := .lst es) S (.refl F) nl ⟨xs, upd_same, ra⟩ (h l (S.ds.noG nl)))⟩
  · exact h.elim
def srtSD : LD := fun ds G Q => ∃ xs : List Str, ds = [.lst (xs.map .str)] ∧ xs.length < 64 ∧ ∀ ys : List Str, ys.Perm xs → sortedS ys = true → Q (.lst (ys.map .str)) G
theorem srtS_A : CallA K (rSortedS K) srtSD := fun B σ δ H F G vs ds Qd Q S r h k => by
  obtain ⟨xs, rfl, hl, q⟩ := h
  obtain ⟨v, rfl, rv⟩ := repAll1 r
  obtain ⟨p, us, rfl, e1, q1⟩ := rep_lst rv
  obtain rfl := repAll_strs_eq q1
  exact ⟨p, xs, rfl, .of (S.ds.sub _ _ e1), hl, fun ys l h1 h2 nl => k _ _ (.newL S nl repAll_strs (q ys h1 h2))⟩
/-! ### xs.pop(i) -/
def dPopAt (to te : TED) : TED := fun δ G Q => to δ G fun d G1 => match lsM d G1 with
  | some _ => te δ G1 fun y G2 => (match lsM d G2 with | some (a, ds) => ∃ (i : Int) (k : Nat) (z : D), y = .int i ∧ -(2 ^ 63) ≤ i ∧ i < 2 ^ 63 ∧ seqIndex? i ds.length = some k ∧ ds[k]? = some z ∧ Q z (updG G2 a (.lst (ds.eraseIdx k))) | none => False)
  | none => False
theorem repAll_erase : ∀ {vs : List V} {ds : List D} (k : Nat), RepAll K F vs ds → RepAll K F (vs.eraseIdx k) (ds.eraseIdx k)
  | _, _, _, .nil => .nil
  | _, _, 0, .cons _ r => r
  | _, _, k + 1, .cons h r => .cons h (repAll_erase k r)
theorem de_popAt (ho : DE X B o to) (he : DE X B e te)
    (hbase : attributeBase o (Str.ofString "pop") X.env (eval o X.env) = eval o X.env := by rfl)
    (hfew : ((backTo pos (starEach (e :: []) X.env)).all (fun x => !x.1) && (backToKw pos (keywordEach [] X.env)).all (fun x => x.1.isSome)
      && decide ((e :: ([] : List Expr)).length + ([] : List Keyword).length + (if ([] : List Keyword).isEmpty then 0 else 1) < 30)) = true := by rfl)
    (hline : (apos.endLine == pos.line) = true := by rfl) (hs : starEach (e :: []) X.env = (false, eval e X.env) :: starEach [] X.env := by rfl) (hplain : (backTo pos (starEach [] X.env)).any (·.1) = false := by rfl) :
    DE X B (.Call (.Attribute o (Str.ofString "pop") apos) [e] [] pos) (dPopAt to te) :=
  PE.weak (pe_bm PySem.F.plainAttrs_list PySem.F.slot_list_pop PySem.F.type_list_pop mt_popAt ho (pa_cons he pa_nil hs) (hbase := hbase) (hfew := hfew) (hline := hline) (hs := hs) (hplain := hplain)) fun σ H Q ⟨F, G, δ, Qd, S, h, k⟩ => ⟨F, G, δ, _, S, h, fun v H1 ⟨F1, G1, d, s1, S1, r1, h1⟩ => by
    cases q : lsM d G1 with
    | none => simp only [q] at h1
    | some ad =>
      obtain ⟨a, ds⟩ := ad
      simp only [q] at h1
      obtain ⟨rfl, rfl, g, xs, e1, ra⟩ := lsM_rep S1 r1 q
      refine ⟨.inl ⟨rfl, xs, .of e1⟩, F1, G1, δ, _, S1, h1, fun y H2 ⟨F2, G2, dy, s2, S2, r2, h2⟩ => ?_⟩
      cases q2 : lsM (.adr a) G2 with
      | none => simp only [q2] at h2
      | some ad2 =>
        obtain ⟨a2, ds2⟩ := ad2
        simp only [q2] at h2
        obtain ⟨i, j, z, rfl, b1, b2, hk, hz, h2⟩ := h2
        obtain ⟨e3, e4, g2, xs2, e5, ra2⟩ := lsM_rep S2 (.adr a) q2
        cases e4
        cases r2
        obtain ⟨zv, ez, rz⟩ := ra2.get hz
        exact ⟨a, xs2, i, j, zv, rfl, rfl, e5, b1, b2, by rw [ra2.length]; exact hk, ez, k _ _ ⟨F2, _, z, s1.trans s2, ⟨S2.ds.write (m' := .lst (ds2.eraseIdx j)) g2 ⟨_, upd_same, repAll_erase j ra2⟩, S2.gr, S2.sl⟩, rz, h2⟩⟩⟩
/-! ### a, b, c = x, y, z -/
def dPar3 (i j l : Nat) (ta : TAD) : TSD := fun E δ G => ta δ G fun ds G1 => match ds with | [d, e, f] => E.nx (((δ.set i (some d)).set j (some e)).set l (some f)) G1 | _ => False
theorem ds_par3 {i j l : Nat} {x y z : Str} {a b c : Expr} {ta : TAD} {px py pz pt pos : Pos} {kt k2 pt2} (hw : swappedStores [.Tuple [.Name x px, .Name y py, .Name z pz] kt pt] (.Tuple [a, b, c] k2 pt2) X.env = pure (some [x, y, z])) (hc : X.calm = true) (hN : X.N.Nodup) (hi : X.N[i]? = some x) (hj : X.N[j]? = some y) (hl : X.N[l]? = some z) (hij : i ≠ j) (hil : i ≠ l) (hjl : j ≠ l)
    (hx : X.env.scope.names.lookup x = some .local) (hy : X.env.scope.names.lookup y = some .local) (hz : X.env.scope.names.lookup z = some .local) (ha : DA X B [a, b, c] ta)
    (hs : swapsWithSole [.Tuple [.Name x px, .Name y py, .Name z pz] kt pt] (.Tuple [a, b, c] k2 pt2) pos.line X.env = pure false := by rfl) :
    DSt X B (.Assign [.Tuple [.Name x px, .Name y py, .Name z pz] kt pt] (.Tuple [a, b, c] k2 pt2) pos) (dPar3 i j l ta) :=
  PS.weak (ps_par3 hc hN hi hj hl hij hil hjl hx hy hz ha hw hs) fun D σ H ⟨F, G, δ, E, S, h, L⟩ => ⟨F, G, δ, _, S, h, fun vs H' ⟨F', G', ds, s', S', r', q'⟩ => by
    match ds, r', q' with
    | [d, e, f], .cons r1 (.cons r2 (.cons r3 .nil)), q' => exact ⟨_, _, _, rfl, L.nx _ _ ⟨F', G', _, s', ((S'.set i r1).set j r2).set l r3, q'⟩⟩⟩
/-! ### what is not needed any more is forgotten -/
def dForget (t : TED) : TED := fun δ G Q => t δ G fun d G1 => ∃ a, Q d (delG G1 a)
theorem de_forget (h : DE X B e te) : DE X B e (dForget te) :=
  PE.weak h fun σ H Q ⟨F, G, δ, Qd, S, h, k⟩ => ⟨F, G, δ, _, S, h, fun v H1 ⟨F1, G1, d, s1, S1, r1, a, h1⟩ => k v H1 ⟨F1, delG G1 a, d, s1, ⟨S1.ds.forget, S1.gr, S1.sl⟩, r1, h1⟩⟩
/-! ### enumerate of a tuple -/
def enumT (ds : List D) : List D := ds.mapIdx fun i d => .tup [.int (i : Nat), d]
theorem itD_enumT {a : Addr} {xs : List V} {ds : List D} (h : SqT K F a xs) (r : RepAll K F xs ds) : ItD K F (IteT K a) (enumT ds) := by
  have l := r.length
  have le : (enumT ds).length = ds.length := by simp [enumT]
  refine ⟨fun i H hi s => ?_, fun H s => ⟨xs, same_seqT s h, by rw [le, l]; exact Nat.le_refl _⟩, fun i H x H' hi s y B σ δ G F1 S s1 => ?_⟩
  · rw [le] at hi
    exact ⟨xs, xs[i]'(by omega), same_seqT s h, by simp [show i < xs.length by omega]⟩
  · obtain ⟨T, x0, rfl, nT, rfl, hx⟩ := y
    obtain ⟨d, hd, rd⟩ := r.get' (hx xs (same_seqT s h))
    obtain ⟨d2, s2⟩ := S.ds.new (o := .tup [.int (i : Nat), x0]) nT
    exact ⟨_, .tup [.int (i : Nat), d], s2, ⟨d2, S.gr.trans s2, S.sl.mono s2⟩, by simp [enumT, List.getElem?_mapIdx, hd], .tup upd_same (.cons (.int _) (.cons ((rd.mono s1).mono s2) .nil))⟩
def iEnumD (ta : TAD) : TID := fun δ G R => ta δ G fun ds G1 => match ds with | [.tup es] => R (enumT es) G1 | _ => False
theorem di_enumT {ta : TAD} {tpos : Pos} {elts : List Expr} {kk : Nat} (hg : Gl X "enumerate") (hm : X.mg "enumerate" = none) (ha : DA X B [e] ta) (hs : starEach [e] X.env = [(false, eval e X.env)] := by rfl) : DI X B (.Tuple elts kk tpos) (.Call (.Name "enumerate" p) [e] [] pos) (iEnumD ta) :=
  PI.weak (pi_enumT hg hm ha hs) fun σ H R ⟨F, G, δ, Qd, S, h, k⟩ => ⟨F, G, δ, _, S, h, fun vs H1 ⟨F1, G1, ds, s1, S1, r1, h1⟩ => by
    match ds, r1, h1 with
    | [.tup es], .cons r .nil, h1 =>
      cases r with
      | tup hq ra => exact ⟨_, _, rfl, .of (S1.ds.sub _ _ hq), k _ _ ⟨F1, G1, _, s1, S1, itD_enumT (.of hq) ra, h1⟩⟩⟩
end
/-! ### walks with the place -/
theorem for_at {g : TGD} {tb : TSD} {E : EndsD} (I : Nat → SD → Gm → Prop) (ds : List D) (hs : ∀ j δ G d (N : SD → Gm → Prop), ds[j]? = some d → I j δ G → (∀ δ' G', I (j + 1) δ' G' → N δ' G') → g d δ G fun δ1 G1 => tb { nx := N, rt := E.rt, bk := E.nx, ct := N } δ1 G1)
    (hF : ∀ δ G, I ds.length δ G → E.nx δ G) : ∀ (es : List D) (j : Nat) (δ : SD) (G : Gm), j ≤ ds.length → ds.drop j = es → I j δ G → forD g tb E es δ G
  | [], j, δ, G, hj, e, h => by
    have : j = ds.length := by have := List.drop_eq_nil_iff.mp e; omega
    subst this
    exact hF δ G h
  | d :: es, j, δ, G, hj, e, h => by
    have hj' : j < ds.length := by
      rcases Nat.lt_or_ge j ds.length with q | q
      · exact q
      · rw [List.drop_eq_nil_iff.mpr q] at e
        cases e
    rw [List.drop_eq_getElem_cons hj'] at e
    injection e with e1 e2
    exact hs j δ G d _ (by rw [List.getElem?_eq_getElem hj', e1]) h fun δ' G' h' => for_at I ds hs hF es (j + 1) δ' G' hj' e2 h'
theorem lc_at {g : TGD} {tt : TTD} {te : TED} {Fin : List D → Gm → Prop} {δ : SD} (I : Nat → List D → Gm → Prop) (ds : List D) (hs : ∀ j acc G d (N : List D → Gm → Prop), ds[j]? = some d → I j acc G → (∀ acc' G', I (j + 1) acc' G' → N acc' G') →
      g d δ G fun δ1 G1 => tt δ1 G1 fun b G2 => match b with | true => te δ1 G2 fun y G3 => N (acc ++ [y]) G3 | false => N acc G2)
    (hF : ∀ acc G, I ds.length acc G → Fin acc G) : ∀ (es acc : List D) (j : Nat) (G : Gm), j ≤ ds.length → ds.drop j = es → I j acc G → lcD g tt te Fin δ es acc G
  | [], acc, j, G, hj, e, h => by
    have : j = ds.length := by have := List.drop_eq_nil_iff.mp e; omega
    subst this
    exact hF acc G h
  | d :: es, acc, j, G, hj, e, h => by
    have hj' : j < ds.length := by
      rcases Nat.lt_or_ge j ds.length with q | q
      · exact q
      · rw [List.drop_eq_nil_iff.mpr q] at e
        cases e
    rw [List.drop_eq_getElem_cons hj'] at e
    injection e with e1 e2
    exact hs j acc G d (fun a G => lcD g tt te Fin δ es a G) (by rw [List.getElem?_eq_getElem hj', e1]) h fun acc' G' h' => lc_at I ds hs hF es acc' (j + 1) G' hj' e2 h'
theorem dc_at {g : TGD} {tt : TTD} {tk tv : TED} {Fin : EntL → Gm → Prop} {δ : SD} (I : Nat → EntL → Gm → Prop) (ds : List D) (hs : ∀ j acc G d (N : EntL → Gm → Prop), ds[j]? = some d → I j acc G → (∀ acc' G', I (j + 1) acc' G' → N acc' G') →
      g d δ G fun δ1 G1 => tt δ1 G1 fun b G2 => match b with | true => tk δ1 G2 fun y G3 => tv δ1 G3 fun z G4 => ∃ ks, keysD y = some ks ∧ N (putL acc ks z) G4 | false => N acc G2)
    (hF : ∀ acc G, I ds.length acc G → Fin acc G) : ∀ (es : List D) (acc : EntL) (j : Nat) (G : Gm), j ≤ ds.length → ds.drop j = es → I j acc G → dcD g tt tk tv Fin δ es acc G
  | [], acc, j, G, hj, e, h => by
    have : j = ds.length := by have := List.drop_eq_nil_iff.mp e; omega
    subst this
    exact hF acc G h
  | d :: es, acc, j, G, hj, e, h => by
    have hj' : j < ds.length := by
      rcases Nat.lt_or_ge j ds.length with q | q
      · exact q
      · rw [List.drop_eq_nil_iff.mpr q] at e
        cases e
    rw [List.drop_eq_getElem_cons hj'] at e
    injection e with e1 e2
    exact hs j acc G d (fun a G => dcD g tt tk tv Fin δ es a G) (by rw [List.getElem?_eq_getElem hj', e1]) h fun acc' G' h' => dc_at I ds hs hF es acc' (j + 1) G' hj' e2 h'
end JP

namespace JP
open PySem PySem.Spec PyProof.Rows L2
/-! ### o.m(k = v, ..), o of an own class -/
section
variable {X : Cx} {B : Bs} {CX : CXT} {k : Nat} {f C : Addr} {fd : FuncData} {ps ks : List Str} {o : Expr} {m : Str} {apos pos : Pos} {kws : List Keyword} {g : List Value → List Value → List Value} {gV : List V → List V → List V} {gD : List D → List D → List D}
def tMethKw (C : Addr) (m : Str) (n : Nat) (sp : Sp) (gV : List V → List V → List V) (E : XK) (ta : TE) (tk : TA) : TE := fun σ H Q => ta σ H fun x H1 => ∃ a dx fs, x = V.ref a ∧ H1 a = some (.ins C dx fs) ∧ fs.lookup m = none ∧ tk σ H1 fun zs H2 => zs.length = n ∧ sp (gV [.ref a] zs) H2 Q E
theorem pe_methKw {pl : Sem Bool} {sp : Sp} {E : XK} {ta : TE} {tk : TA} (he : PE X o ta) (c : Cls X.K C) (hm : Meth X.K C m f) (F : FnOk X.prog X.w X.K X.mg X.base CX k f fd ps sp) (hr : Room k X.A) (hb : KBn X.K fd ps 1 ks g gV) (hx : Passes CX X E) (hkw : PK X kws tk)
    (hall : (backToKw pos (keywordEach kws X.env)).all (·.1.isSome) = true := by rfl) (hks : (backToKw pos (keywordEach kws X.env)).filterMap (·.1) = ks := by rfl)
    (hpl : ((backTo pos (starEach [] X.env)).any (·.1) || (backToKw pos (keywordEach kws X.env)).any (·.1.isNone)) = false := by rfl)
    (ht : eval (.Call (.Attribute o m apos) [] kws pos) X.env = (do
      let ov ← eval o X.env
      standAt apos.atName
      let (f, first) ← holding [ov] (getMethod ov m pl)
      callWith pos f first (backTo pos (starEach [] X.env)) (backToKw pos (keywordEach kws X.env))) := by rfl) :
    PE X (.Call (.Attribute o m apos) [] kws pos) (tMethKw C m ks.length sp gV E ta tk) := by
  refine ⟨fun pins s σ H Q I h => ?_⟩
  refine PySem.W.methodCall_KW (pl := pl) (thn (he.run pins s σ H _ I h) fun u s1 ⟨x, H1, I1, rx, a, dx, fs, ex, ea, l, q⟩ => ?_) ht
  subst ex
  obtain rfl : u = Value.ref a := rx
  refine getmeth_ok I1 ea c hm l ?_
  refine PySem.W.callWith_KW0 (first := [.ref a]) (h₀ := X.base) I.ok.mod.kin hm.kp hall (thn (hkw.run pos pins s1 σ H1 _ I1 q) fun ws s2 ⟨zs, H2, I2, rz, lz, q2⟩ => ⟨I2.kIn, ?_⟩) hpl
  rw [hks]
  have r1 : Vals [V.ref a] [Value.ref a] := .cons rfl .nil
  refine wpAny_call (codeAny_mono (F.run X.A X.stack s2 H2 ⟨[.ref a] ++ [], ks.zip ws⟩ (g [.ref a] ws) (gV [.ref a] zs) Q E hr I2.env0 (hb.to s2 [.ref a] ws I2.kIn rfl (rz.length.symm.trans lz)) (hb.rel r1 rz) q2) fun r s' hq => ?_)
  match r, hq with
  | .error e, hq => exact hx pins σ H2 s2 e s' I2 hq
  | .ok (.ret u), hq => exact I2.after hq
  | .ok .next, hq => exact hq.elim
  | .ok .brk, hq => exact hq.elim
  | .ok .cont, hq => exact hq.elim
def dMethKw (C : Addr) (m : Str) (n : Nat) (sp : SpD) (gD : List D → List D → List D) (W : WD) (to : TED) (tk : TAD) : TED := fun δ G Q => to δ G fun d G1 => match insD d G1 with | some (C', fs) => C' = C ∧ fs.lookup m = none ∧ tk δ G1 fun ds G2 => ds.length = n ∧ sp (gD [d] ds) G2 Q W | none => False
theorem de_methKw {pl : Sem Bool} {sp : SpD} {W : WD} {to : TED} {tk : TAD} (he : DE X B o to) (c : Cls X.K C) (hm : Meth X.K C m f) (Fn : FnD X.prog X.w X.K X.mg X.base k f fd ps sp) (hr : Room k X.A) (hb : KBn X.K fd ps 1 ks g gV) (hx : Passes (L2.CX X.prog X.w) X (XW X.K B W)) (hp : PermOk gV gD) (hkw : DK X B kws tk)
    (hall : (backToKw pos (keywordEach kws X.env)).all (·.1.isSome) = true := by rfl) (hks : (backToKw pos (keywordEach kws X.env)).filterMap (·.1) = ks := by rfl)
    (hpl : ((backTo pos (starEach [] X.env)).any (·.1) || (backToKw pos (keywordEach kws X.env)).any (·.1.isNone)) = false := by rfl)
    (ht : eval (.Call (.Attribute o m apos) [] kws pos) X.env = (do
      let ov ← eval o X.env
      standAt apos.atName
      let (f, first) ← holding [ov] (getMethod ov m pl)
      callWith pos f first (backTo pos (starEach [] X.env)) (backToKw pos (keywordEach kws X.env))) := by rfl) :
    DE X B (.Call (.Attribute o m apos) [] kws pos) (dMethKw C m ks.length sp gD W to tk) :=
  PE.weak (pe_methKw he c hm Fn hr hb hx hkw hall hks hpl ht) fun σ H Q ⟨F, G, δ, Qd, S, h, kk⟩ => ⟨F, G, δ, _, S, h, fun v H1 ⟨F1, G1, d, s1, S1, r1, h1⟩ => by
    cases q : insD d G1 with
    | none =>
      simp only [q] at h1
    | some cf =>
      obtain ⟨C', fs⟩ := cf
      simp only [q] at h1
      obtain ⟨rfl, hl, h1⟩ := h1
      obtain ⟨a, dx, fv, rfl, e, gc, na, rf⟩ := ins_rep S1 r1 q
      exact ⟨a, dx, fv, rfl, e, rf.lookN hl, F1, G1, δ, _, S1, h1, fun zs H2 ⟨F2, G2, ds, s2, S2, r2, hl2, h2⟩ => ⟨r2.length.trans hl2, low_of kk (s1.trans s2) S2 (hp _ _ _ _ _ _ (.cons (r1.mono s2) .nil) r2) h2⟩⟩⟩
end
end JP

namespace JP
open PySem PySem.Spec PyProof.Rows L2

/-! ## plain data: by what it reads as -/
mutual
def toP : D → PyData
  | .bl b => .bool b
  | .int i => .int i
  | .str x => .str x
  | .tup ds => .tuple (toPs ds)
  | .lst ds => .list (toPs ds)
  | .non | .ty _ | .adr _ | .scr _ | .ins _ _ | .exc _ _ | .dic _ | .dit _ => .none
def toPs : List D → List PyData
  | [] => []
  | d :: ds => toP d :: toPs ds
end
mutual
def isP : D → Bool
  | .non | .bl _ | .int _ | .str _ => true
  | .tup ds => isPs ds
  | .lst ds => isPs ds
  | .ty _ | .adr _ | .scr _ | .ins _ _ | .exc _ _ | .dic _ | .dit _ => false
def isPs : List D → Bool
  | [] => true
  | d :: ds => isP d && isPs ds
end
mutual
theorem dp_toP : ∀ {d : D}, isP d = true → DP d (toP d)
  | .non, _ => by simp only [toP]; exact .non
  | .bl b, _ => by simp only [toP]; exact .bl b
  | .int i, _ => by simp only [toP]; exact .int i
  | .str x, _ => by simp only [toP]; exact .str x
  | .tup ds, h => by simp only [toP]; exact .tup (dps_toP (by simpa only [isP] using h))
  | .lst ds, h => by simp only [toP]; exact .lst (dps_toP (by simpa only [isP] using h))
  | .ty _, h | .adr _, h | .scr _, h | .ins _ _, h | .exc _ _, h | .dic _, h | .dit _, h => by simp only [isP] at h; cases h
theorem dps_toP : ∀ {ds : List D}, isPs ds = true → DPs ds (toPs ds)
  | [], _ => by simp only [toPs]; exact .nil
  | d :: ds, h => by
    simp only [isPs, Bool.and_eq_true] at h
    simp only [toPs]
    exact .cons (dp_toP h.1) (dps_toP h.2)
end
theorem isPs_all : ∀ {ds : List D}, isPs ds = true ↔ ∀ d ∈ ds, isP d = true
  | [] => by simp [isPs]
  | d :: ds => by simp only [isPs, Bool.and_eq_true, List.mem_cons, forall_eq_or_imp, isPs_all (ds := ds)]
/-- plain, of such a depth -/
structure Pl (k : Nat) (d : D) : Prop where
  p : isP d = true
  l : (toP d).canLay0 = true
  h : (toP d).depth ≤ k
theorem Pl.mono {k m : Nat} {d : D} (h : Pl k d) (hk : k ≤ m) : Pl m d := ⟨h.p, h.l, Nat.le_trans h.h hk⟩
theorem pl_non {k : Nat} : Pl k .non := ⟨by simp only [isP], by simp only [toP, PyData.canLay0], by simp only [toP, PyData.depth]; exact Nat.zero_le _⟩
theorem pl_bl {k : Nat} {b : Bool} : Pl k (.bl b) := ⟨by simp only [isP], by simp only [toP, PyData.canLay0], by simp only [toP, PyData.depth]; exact Nat.zero_le _⟩
theorem pl_int {k : Nat} {i : Int} : Pl k (.int i) := ⟨by simp only [isP], by simp only [toP, PyData.canLay0], by simp only [toP, PyData.depth]; exact Nat.zero_le _⟩
theorem pl_str {k : Nat} {x : Str} (h : PyData.strOk x = true) : Pl k (.str x) := ⟨by simp only [isP], by simp only [toP, PyData.canLay0]; exact h, by simp only [toP, PyData.depth]; exact Nat.zero_le _⟩
theorem pls {k : Nat} : ∀ {ds : List D}, (∀ d ∈ ds, Pl k d) → isPs ds = true ∧ PyData.canLayAll0 (toPs ds) = true ∧ PyData.depthAll (toPs ds) ≤ k
  | [], _ => by simp only [isPs, toPs, PyData.canLayAll0, PyData.depthAll]; exact ⟨trivial, trivial, Nat.zero_le _⟩
  | d :: ds, h => by
    obtain ⟨a, b, c⟩ := pls (ds := ds) fun e he => h e (List.mem_cons_of_mem _ he)
    obtain ⟨x, y, z⟩ := h d List.mem_cons_self
    simp only [isPs, toPs, PyData.canLayAll0, PyData.depthAll, Bool.and_eq_true]
    exact ⟨⟨x, a⟩, ⟨y, b⟩, Nat.max_le.mpr ⟨z, c⟩⟩
theorem pl_tup {k : Nat} {ds : List D} (h : ∀ d ∈ ds, Pl k d) : Pl (k + 1) (.tup ds) := by
  obtain ⟨a, b, c⟩ := pls h
  exact ⟨by simp only [isP]; exact a, by simp only [toP, PyData.canLay0]; exact b, by simp only [toP, PyData.depth]; omega⟩
theorem pl_lst {k : Nat} {ds : List D} (h : ∀ d ∈ ds, Pl k d) : Pl (k + 1) (.lst ds) := by
  obtain ⟨a, b, c⟩ := pls h
  exact ⟨by simp only [isP]; exact a, by simp only [toP, PyData.canLay0]; exact b, by simp only [toP, PyData.depth]; omega⟩
theorem pl_map {α : Type} {k : Nat} {f : α → D} {xs : List α} (h : ∀ x ∈ xs, Pl k (f x)) : ∀ d ∈ xs.map f, Pl k d := fun d hd => by
  obtain ⟨x, mx, rfl⟩ := List.mem_map.mp hd
  exact h x mx
theorem pl_ints {k : Nat} {ns : List Int} : ∀ d ∈ ns.map D.int, Pl k d := pl_map fun _ _ => pl_int
theorem pl_nil {k : Nat} : ∀ d ∈ ([] : List D), Pl k d := fun d h => by cases h
theorem pl_cons {k : Nat} {d : D} {ds : List D} (h : Pl k d) (t : ∀ e ∈ ds, Pl k e) : ∀ e ∈ d :: ds, Pl k e := fun e he => by
  rcases List.mem_cons.mp he with rfl | he
  · exact h
  · exact t e he
theorem pl_app {k : Nat} {ds es : List D} (h : ∀ d ∈ ds, Pl k d) (t : ∀ e ∈ es, Pl k e) : ∀ e ∈ ds ++ es, Pl k e := fun e he => by
  rcases List.mem_append.mp he with he | he
  · exact h e he
  · exact t e he
theorem Pl.sh {d : D} (h : Pl 60 d) : SeqAt.shaped (toP d) = true := by
  unfold SeqAt.shaped
  rw [h.l, Bool.true_and]
  have := h.h
  exact decide_eq_true (by omega)
/-- == of plain things -/
def eqvD (a b : D) : Bool := PyData.eqv (toP a) (toP b)
def eqvL (a b : List D) : Bool := PyData.eqvAll (toPs a) (toPs b)
theorem eq_pl {a b : D} {G : Gm} {Q : QD} (ha : Pl 60 a) (hb : Pl 60 b) (q : Q (.bl (eqvD a b)) G) : eqD2 a b G Q := ⟨toP a, toP b, dp_toP ha.p, dp_toP hb.p, ha.sh, hb.sh, q⟩
theorem ne_pl {a b : D} {G : Gm} {Q : QD} (ha : Pl 60 a) (hb : Pl 60 b) (q : Q (.bl (!eqvD a b)) G) : neD2 a b G Q := ⟨toP a, toP b, dp_toP ha.p, dp_toP hb.p, ha.sh, hb.sh, q⟩
theorem eqvD_lst {xs ys : List D} : eqvD (.lst xs) (.lst ys) = eqvL xs ys := by simp only [eqvD, eqvL, toP, PyData.eqv]
theorem eqvD_tup {xs ys : List D} : eqvD (.tup xs) (.tup ys) = eqvL xs ys := by simp only [eqvD, eqvL, toP, PyData.eqv]
theorem eqvD_int {i j : Int} : eqvD (.int i) (.int j) = decide (i = j) := by simp only [eqvD, toP, PyData.eqv]; rfl
theorem eqvD_bl {i j : Bool} : eqvD (.bl i) (.bl j) = decide (i = j) := by simp only [eqvD, toP, PyData.eqv]; cases i <;> cases j <;> rfl
theorem eqvD_str {i j : Str} : eqvD (.str i) (.str j) = decide (i = j) := by
  simp only [eqvD, toP, PyData.eqv]
  rw [Bool.eq_iff_iff]
  simp
theorem eqvL_nil : eqvL [] [] = true := by simp only [eqvL, toPs, PyData.eqvAll]
theorem eqvL_cons {x y : D} {xs ys : List D} : eqvL (x :: xs) (y :: ys) = (eqvD x y && eqvL xs ys) := by simp only [eqvL, eqvD, toPs, PyData.eqvAll]
theorem eqvL_nc {y : D} {ys : List D} : eqvL [] (y :: ys) = false := by simp only [eqvL, toPs, PyData.eqvAll]
theorem eqvL_cn {y : D} {ys : List D} : eqvL (y :: ys) [] = false := by simp only [eqvL, toPs, PyData.eqvAll]
theorem eqvL_0 : ∀ {xs : List D}, eqvL xs [] = decide (xs = [])
  | [] => by rw [eqvL_nil]; rfl
  | x :: xs => by rw [eqvL_cn]; exact (decide_eq_false (by simp)).symm
theorem eqvD_l0 {xs : List D} : eqvD (.lst xs) (.lst []) = decide (xs = []) := by rw [eqvD_lst, eqvL_0]
theorem eqvL_map {α : Type} [DecidableEq α] {f : α → D} (h : ∀ x y, eqvD (f x) (f y) = decide (x = y)) : ∀ {xs ys : List α}, eqvL (xs.map f) (ys.map f) = decide (xs = ys)
  | [], [] => by rw [List.map_nil, eqvL_nil]; rfl
  | [], y :: ys => by rw [List.map_cons, List.map_nil, eqvL_nc]; exact (decide_eq_false (by simp)).symm
  | x :: xs, [] => by rw [List.map_cons, List.map_nil, eqvL_cn]; exact (decide_eq_false (by simp)).symm
  | x :: xs, y :: ys => by
    rw [List.map_cons, List.map_cons, eqvL_cons, h, eqvL_map h]
    by_cases c : x = y
    · subst c
      simp
    · simp [c]
theorem eqvL_ints {xs ys : List Int} : eqvL (xs.map .int) (ys.map .int) = decide (xs = ys) := eqvL_map fun _ _ => eqvD_int
mutual
theorem eqv_refl : ∀ p : PyData, p.canLay0 = true → PyData.eqv p p = true
  | .none, _ => by simp only [PyData.eqv]
  | .bool b, _ => by simp [PyData.eqv]
  | .int i, _ => by simp [PyData.eqv]
  | .str x, _ => by simp [PyData.eqv]
  | .list ps, h => by simp only [PyData.eqv]; exact eqvAll_refl ps (by simpa only [PyData.canLay0] using h)
  | .tuple ps, h => by simp only [PyData.eqv]; exact eqvAll_refl ps (by simpa only [PyData.canLay0] using h)
  | .dict _, h => by simp only [PyData.canLay0] at h; cases h
theorem eqvAll_refl : ∀ ps : List PyData, PyData.canLayAll0 ps = true → PyData.eqvAll ps ps = true
  | [], _ => by simp only [PyData.eqvAll]
  | p :: ps, h => by
    simp only [PyData.canLayAll0, Bool.and_eq_true] at h
    simp only [PyData.eqvAll, eqv_refl p h.1, eqvAll_refl ps h.2, Bool.and_self]
end
theorem eqvD_self {k : Nat} {d : D} (h : Pl k d) : eqvD d d = true := eqv_refl _ h.l
theorem eq_self {d : D} {G : Gm} {Q : QD} (h : Pl 60 d) (q : Q (.bl true) G) : eqD2 d d G Q := eq_pl h h (by rw [eqvD_self h]; exact q)
theorem ne_self {d : D} {G : Gm} {Q : QD} (h : Pl 60 d) (q : Q (.bl false) G) : neD2 d d G Q := ne_pl h h (by rw [eqvD_self h]; exact q)
/-- a list is not empty -/
theorem ne_l0 {xs : List D} {G : Gm} {Q : QD} (h : ∀ d ∈ xs, Pl 58 d) (q : Q (.bl (!decide (xs = []))) G) : neD2 (.lst xs) (.lst []) G Q := ne_pl ((pl_lst h).mono (by decide)) ((pl_lst (k := 0) pl_nil).mono (by decide)) (by rw [eqvD_l0]; exact q)
theorem eq_l0 {xs : List D} {G : Gm} {Q : QD} (h : ∀ d ∈ xs, Pl 58 d) (q : Q (.bl (decide (xs = []))) G) : eqD2 (.lst xs) (.lst []) G Q := eq_pl ((pl_lst h).mono (by decide)) ((pl_lst (k := 0) pl_nil).mono (by decide)) (by rw [eqvD_l0]; exact q)
/-! ### repr -/
/-- repr tells it -/
structure Sh (d : D) : Prop where
  p : isP d = true
  s : (toP d).showable = true
  k : (toP d).hasDict = false
  h : (toP d).depth ≤ 60
  l : (toP d).shown.length ≤ sizeLine
def showD (d : D) : Str := (toP d).shown
theorem repr_sh {d : D} {G : Gm} {Q : QD} (h : Sh d) (q : Q (.str (showD d)) G) : reprD [d] G Q := ⟨d, toP d, rfl, dp_toP h.p, h.s, h.k, h.h, h.l, q⟩
theorem sh_bl (b : Bool) : Sh (.bl b) := by cases b <;> exact ⟨by decide +kernel, by decide +kernel, by decide +kernel, by decide +kernel, small1000 (by decide +kernel)⟩
theorem sh_non : Sh .non := ⟨by decide +kernel, by decide +kernel, by decide +kernel, by decide +kernel, small1000 (by decide +kernel)⟩
/-! ### comparisons of texts and the like -/
def scalD : D → D → Bool
  | .non, .non => true | .non, .int _ => true | .int _, .non => true | .non, .bl _ => true | .bl _, .non => true | .non, .str _ => true | .str _, .non => true
  | .int _, .int _ => true | .bl _, .bl _ => true | .str _, .str _ => true
  | .int _, .str _ => true | .str _, .int _ => true | .bl _, .str _ => true | .str _, .bl _ => true
  | _, _ => false
def sameD : D → D → Bool
  | .non, .non => true
  | .int i, .int j => decide (i = j)
  | .bl i, .bl j => decide (i = j)
  | .str i, .str j => decide (i = j)
  | _, _ => false
def eqSD : R2D := fun a b G Q => scalD a b = true ∧ Q (.bl (sameD a b)) G
def neSD : R2D := fun a b G Q => scalD a b = true ∧ Q (.bl (!sameD a b)) G
section
variable {K : PySem.W.Frag}
theorem scal_rep {F : Hp} {x y : V} {a b : D} (r1 : Rep K F x a) (r2 : Rep K F y b) (h : scalD a b = true) : scal x y = true ∧ decide (x = y) = sameD a b := by
  cases a <;> cases b <;> first | (cases h; done) | skip
  all_goals
    cases r1
    cases r2
    first | exact ⟨rfl, by decide⟩ | exact ⟨rfl, by simp [sameD]⟩
theorem eqS_A : OpA K rEq eqSD := fun B σ δ H F G x y a b Qd Q S r1 r2 h k => by
  obtain ⟨h1, h2⟩ := scal_rep r1 r2 h.1
  exact ⟨h1, by rw [h2]; exact k _ _ (.val S (.bl _) h.2)⟩
theorem neS_A : OpA K rNe neSD := fun B σ δ H F G x y a b Qd Q S r1 r2 h k => by
  obtain ⟨h1, h2⟩ := scal_rep r1 r2 h.1
  exact ⟨h1, by rw [h2]; exact k _ _ (.val S (.bl _) h.2)⟩
end
/-- reprs of equal things -/
theorem nes_self {x : Str} {G : Gm} {Q : QD} (q : Q (.bl false) G) : neSD (.str x) (.str x) G Q := ⟨rfl, by rw [show sameD (.str x) (.str x) = true from decide_eq_true rfl]; exact q⟩

/-! ### the same as words of their own: they are not opened by unfolding -/
inductive EqI (a b : D) (G : Gm) (Q : QD) : Prop
  | mk (ha : Pl 60 a) (hb : Pl 60 b) (q : Q (.bl (eqvD a b)) G) : EqI a b G Q
inductive NeI (a b : D) (G : Gm) (Q : QD) : Prop
  | mk (ha : Pl 60 a) (hb : Pl 60 b) (q : Q (.bl (!eqvD a b)) G) : NeI a b G Q
inductive EqSI (a b : D) (G : Gm) (Q : QD) : Prop
  | mk (h : scalD a b = true) (q : Q (.bl (sameD a b)) G) : EqSI a b G Q
inductive NeSI (a b : D) (G : Gm) (Q : QD) : Prop
  | mk (h : scalD a b = true) (q : Q (.bl (!sameD a b)) G) : NeSI a b G Q
inductive ReprI (ds : List D) (G : Gm) (Q : QD) : Prop
  | mk (d : D) (e : ds = [d]) (h : Sh d) (q : Q (.str (showD d)) G) : ReprI ds G Q
section
variable {K : PySem.W.Frag}
theorem eqI_A : OpA K (rEqD K) EqI := fun B σ δ H F G x y a b Qd Q S r1 r2 ⟨ha, hb, q⟩ k => eq_A B σ δ H F G x y a b Qd Q S r1 r2 (eq_pl ha hb q) k
theorem neI_A : OpA K (rNeD K) NeI := fun B σ δ H F G x y a b Qd Q S r1 r2 ⟨ha, hb, q⟩ k => ne_A B σ δ H F G x y a b Qd Q S r1 r2 (ne_pl ha hb q) k
theorem eqSI_A : OpA K rEq EqSI := fun B σ δ H F G x y a b Qd Q S r1 r2 ⟨h, q⟩ k => eqS_A B σ δ H F G x y a b Qd Q S r1 r2 ⟨h, q⟩ k
theorem neSI_A : OpA K rNe NeSI := fun B σ δ H F G x y a b Qd Q S r1 r2 ⟨h, q⟩ k => neS_A B σ δ H F G x y a b Qd Q S r1 r2 ⟨h, q⟩ k
theorem reprI_A : CallA K (rRepr K) ReprI := fun B σ δ H F G xs ds Qd Q S r ⟨d, e, h, q⟩ k => repr_A B σ δ H F G xs ds Qd Q S r (e ▸ repr_sh h q) k
end
theorem eqI_self {d : D} {G : Gm} {Q : QD} (h : Pl 60 d) (q : Q (.bl true) G) : EqI d d G Q := ⟨h, h, by rw [eqvD_self h]; exact q⟩
theorem neI_self {d : D} {G : Gm} {Q : QD} (h : Pl 60 d) (q : Q (.bl false) G) : NeI d d G Q := ⟨h, h, by rw [eqvD_self h]; exact q⟩
theorem neI_l0 {xs : List D} {G : Gm} {Q : QD} (h : ∀ d ∈ xs, Pl 58 d) (q : Q (.bl (!decide (xs = []))) G) : NeI (.lst xs) (.lst []) G Q := ⟨(pl_lst h).mono (by decide), (pl_lst (k := 0) pl_nil).mono (by decide), by rw [eqvD_l0]; exact q⟩
theorem eqI_l0 {xs : List D} {G : Gm} {Q : QD} (h : ∀ d ∈ xs, Pl 58 d) (q : Q (.bl (decide (xs = []))) G) : EqI (.lst xs) (.lst []) G Q := ⟨(pl_lst h).mono (by decide), (pl_lst (k := 0) pl_nil).mono (by decide), by rw [eqvD_l0]; exact q⟩
theorem neSI_self {x : Str} {G : Gm} {Q : QD} (q : Q (.bl false) G) : NeSI (.str x) (.str x) G Q := ⟨rfl, by rw [show sameD (.str x) (.str x) = true from decide_eq_true rfl]; exact q⟩
theorem reprI {d : D} {G : Gm} {Q : QD} (h : Sh d) (q : Q (.str (showD d)) G) : ReprI [d] G Q := ⟨d, rfl, h, q⟩

/-! ### what stands at an address; ranges, places -/
theorem seqD_at {G : Gm} {a : Addr} {l : List D} (h : G a = some (.lst l)) : seqD (.adr a) G = some l := by
  show (match G a with | some (.lst ds) => some ds | _ => none) = _
  rw [h]
theorem lsM_at {G : Gm} {a : Addr} {l : List D} (h : G a = some (.lst l)) : lsM (.adr a) G = some (a, l) := by
  show (match G a with | some (.lst ds) => some (a, ds) | _ => none) = _
  rw [h]
theorem updG_comm {G : Gm} {a b : Addr} {x y : MO} (h : a ≠ b) : updG (updG G a x) b y = updG (updG G b y) a x := by
  funext c
  unfold updG
  by_cases h1 : c = a
  · by_cases h2 : c = b
    · exact absurd (h1.symm.trans h2) h
    · simp [h1, h2, h]
  · by_cases h2 : c = b
    · subst h2
      simp [h1]
    · simp [h1, h2]
theorem range_at {n j : Nat} {d : D} (h : (rangeD 0 n)[j]? = some d) : j < n ∧ d = .int (j : Int) := by
  unfold rangeD at h
  rw [List.getElem?_map] at h
  cases e : (List.range n)[j]? with
  | none => rw [e] at h; cases h
  | some i =>
    rw [e] at h
    obtain ⟨hi, rfl⟩ := List.getElem?_eq_some_iff.mp e
    rw [List.length_range] at hi
    refine ⟨hi, ?_⟩
    rw [List.getElem_range] at h
    have := (Option.some.inj h).symm
    rw [this]
    show D.int (0 + (j : Int)) = _
    rw [Int.zero_add]
theorem range_len (n : Nat) : (rangeD 0 n).length = n := by simp [rangeD]
theorem map_at {α β : Type} {f : α → β} {xs : List α} {j : Nat} {d : β} (h : (xs.map f)[j]? = some d) : ∃ p, xs[j]? = some p ∧ f p = d := by
  rw [List.getElem?_map] at h
  cases e : xs[j]? with
  | none => rw [e] at h; cases h
  | some p => rw [e] at h; exact ⟨p, rfl, Option.some.inj h⟩
theorem ints_at {ns : List Int} {i : Nat} (h : i < ns.length) : atI (ns.map D.int) (i : Int) = some (.int (ns.getD i 0)) := by
  refine atI_nat ?_
  rw [List.getElem?_map, List.getD_eq_getElem?_getD, List.getElem?_eq_getElem h]
  rfl
theorem strs_inj {a b : List Str} (h : a.map D.str = b.map D.str) : a = b := (List.map_inj_right (fun x y e => by injection e)).mp h
theorem ints_inj {a b : List Int} (h : a.map D.int = b.map D.int) : a = b := (List.map_inj_right (fun x y e => by injection e)).mp h
theorem zeros_map (n : Nat) : (List.replicate n [D.int 0]).flatten = (List.replicate n (0 : Int)).map D.int := by simp
theorem rep_one (n : Nat) (d : D) : (List.replicate n [d]).flatten = List.replicate n d := by simp
/-- a comprehension over things told by α: which are taken, what is made of them; nothing is changed -/
theorem lc_fm {α : Type} {g : TGD} {tt : TTD} {te : TED} {Fin : List D → Gm → Prop} {δ : SD} {G : Gm} (e : α → D) (p : α → Bool) (f : α → D) : ∀ (xs : List α) (acc : List D),
    (∀ x ∈ xs, ∀ (acc : List D) (N : List D → Gm → Prop), (p x = true → N (acc ++ [f x]) G) → (p x = false → N acc G) →
      g (e x) δ G fun δ1 G1 => tt δ1 G1 fun b G2 => match b with | true => te δ1 G2 fun y G3 => N (acc ++ [y]) G3 | false => N acc G2) →
    Fin (acc ++ (xs.filter p).map f) G → lcD g tt te Fin δ (xs.map e) acc G
  | [], acc, _, h => by
    rw [List.filter_nil, List.map_nil, List.append_nil] at h
    exact h
  | x :: xs, acc, hs, h => by
    refine hs x List.mem_cons_self acc (fun a G' => lcD g tt te Fin δ (xs.map e) a G') (fun hp => ?_) fun hp => ?_
    · refine lc_fm e p f xs _ (fun y hy => hs y (List.mem_cons_of_mem _ hy)) ?_
      rw [List.filter_cons, if_pos hp, List.map_cons] at h
      rw [List.append_assoc]
      exact h
    · refine lc_fm e p f xs _ (fun y hy => hs y (List.mem_cons_of_mem _ hy)) ?_
      rw [List.filter_cons, if_neg (by rw [hp]; decide)] at h
      exact h
/-- the same, all being taken -/
theorem lc_f0 {α : Type} {g : TGD} {te : TED} {Fin : List D → Gm → Prop} {δ : SD} {G : Gm} (e : α → D) (f : α → D) : ∀ (xs : List α) (acc : List D),
    (∀ x ∈ xs, ∀ (N : D → Gm → Prop), N (f x) G → g (e x) δ G fun δ1 G1 => te δ1 G1 N) →
    Fin (acc ++ xs.map f) G → lcD g dYes te Fin δ (xs.map e) acc G
  | [], acc, _, h => by
    rw [List.map_nil, List.append_nil] at h
    exact h
  | x :: xs, acc, hs, h => by
    refine hs x List.mem_cons_self (fun y G' => lcD g dYes te Fin δ (xs.map e) (acc ++ [y]) G') ?_
    refine lc_f0 e f xs _ (fun y hy => hs y (List.mem_cons_of_mem _ hy)) ?_
    rw [List.map_cons] at h
    rw [List.append_assoc]
    exact h
/-- a comprehension of which each turn draws -/
theorem lc_draws {α : Type} {g : TGD} {te : TED} {Fin : List D → Gm → Prop} {δ : SD} {G : Gm} (e : α → D) (Pr : α → Prop) (p : Addr) (m c : Nat) (ds : List D)
    (hs : ∀ j d, ds[j]? = some d → ∀ m', m' ≤ m + c * j → ∀ N : D → Gm → Prop, (∀ x, Pr x → ∀ m2, m2 ≤ m' + c → N (e x) (updG G p (.pen m2))) → g d δ (updG G p (.pen m')) fun δ1 G1 => te δ1 G1 N)
    (hF : ∀ xs : List α, xs.length = ds.length → (∀ x ∈ xs, Pr x) → ∀ m', m' ≤ m + c * ds.length → Fin (xs.map e) (updG G p (.pen m'))) : lcD g dYes te Fin δ ds [] (updG G p (.pen m)) := by
  refine lc_at (fun j acc G' => ∃ (xs : List α) (m' : Nat), acc = xs.map e ∧ xs.length = j ∧ (∀ x ∈ xs, Pr x) ∧ m' ≤ m + c * j ∧ G' = updG G p (.pen m')) ds (fun j acc G' d N hd hI hN => ?_) (fun acc G' hI => ?_) _ [] 0 _ (Nat.zero_le _) rfl ⟨[], m, rfl, rfl, (fun x hx => by cases hx), by omega, rfl⟩
  · obtain ⟨xs, m', rfl, hl, hp, hm, rfl⟩ := hI
    refine hs j d hd m' hm (fun y G3 => N (xs.map e ++ [y]) G3) fun x hx m2 hm2 => ?_
    refine hN _ _ ⟨xs ++ [x], m2, by rw [List.map_append]; rfl, by rw [List.length_append, hl]; rfl, fun z hz => ?_, by rw [Nat.mul_succ]; omega, rfl⟩
    rcases List.mem_append.mp hz with hz | hz
    · exact hp z hz
    · rw [List.mem_singleton.mp hz]
      exact hx
  · obtain ⟨xs, m', rfl, hl, hp, hm, rfl⟩ := hI
    exact hF xs hl hp m' hm
end JP

namespace JP
open PySem PySem.Spec PyProof.Rows L2

/-! ### own exceptions as values -/
section
variable {X : Cx} {pins : List (Addr × Obj)} {σ : L2.St}
/-- the end of C(e, ..): the exception stands as a value -/
theorem mk_keep {H1 H2 : Hp} {ha0 ha2 hb2 : Heap} {ge1 ge2 : Array GenState} {dr1 dr2 : Drawn} {t1 t2 : Nat} {os1 os2 : OsState} {a C d : Addr} {fs : List (Str × V)} (I1 : Inv X pins σ H1 ⟨ha0, ge1, dr1, t1, os1⟩)
    (ha : ha0.objs.size ≤ a) (kp : ∀ b o, ha0.get? b = some o → ha2.get? b = some o) (uu : Un (frs X.stack) [] (upd H1 a (exo a C none)) H2 ha2 hb2) (ok2 : HOk X.prog X.w H2 hb2) (ho : os2 = os1) (hbr : AllBare ge2)
    (xa : H2 a = some (exo a C (some d))) (xd0 : H2 d = some (exd d fs)) (n1 : H1 d = none) :
    Inv X pins σ (upd (upd H2 a (xo a (.ref C) (some d))) d (.xd fs)) ⟨hb2, ge2, dr2, t2, os2⟩ := by
  obtain ⟨tt0, eo⟩ := exo_at ok2 xa
  obtain ⟨mf, ns, fr⟩ := exd_at ok2 xd0
  have n0 : H1 a = none := I1.hok.fresh ha
  have nda : d ≠ a := fun z => by
    obtain ⟨o, es, ep, e1, e2, _⟩ := ns
    rw [z, eo] at e1
    have z2 := Option.some.inj e1
    subst z2
    cases e2
  have nea : ∀ {b : Addr} {o : Obj}, ha0.get? b = some o → b ≠ a := fun {b o} z => Nat.ne_of_lt (Nat.lt_of_lt_of_le (Heap.lt_size z) ha)
  have lift : ∀ {b : Addr}, b ≠ a → H1 b = none → upd H1 a (exo a C none) b = none := fun {b} hbr n => by rw [upd_ne hbr]; exact n
  have ned : ∀ {b : Addr} {o : Obj}, ha0.get? b = some o → H1 b = none → b ≠ d := fun {b o} z n e => by
    have fy := uu.free b o (kp b o z) (lift (nea z) n) (by simp)
    rw [e, xd0] at fy
    cases fy
  have UN : Un (frs X.stack) [] H1 (upd (upd H2 a (xo a (.ref C) (some d))) d (.xd fs)) ha0 hb2 := {
    keep := fun b o z n hf hx => uu.keep b o (kp b o z) (lift (nea z) n) hf hx
    slot := fun b o z n hf hx => uu.slot b o (kp b o z) (lift (nea z) n) hf hx
    free := fun b o z n hx => by
      rw [upd_ne (ned z n), upd_ne (nea z)]
      exact uu.free b o (kp b o z) (lift (nea z) n) hx
    there := fun b o z hx => uu.there b o (kp b o z) hx
    tups := fun b xs z => by
      rw [upd_ne (ne_of_none z n1), upd_ne (ne_of_none z n0)]
      exact uu.tups b xs (by rw [upd_ne (ne_of_none z n0)]; exact z)
    frzs := fun b o v z => by
      rw [upd_ne (ne_of_none z n1), upd_ne (ne_of_none z n0)]
      exact uu.frzs b o v (by rw [upd_ne (ne_of_none z n0)]; exact z)
    tbls := fun b ps z => by
      rw [upd_ne (ne_of_none z n1), upd_ne (ne_of_none z n0)]
      exact uu.tbls b ps (by rw [upd_ne (ne_of_none z n0)]; exact z) }
  have okN : HOk X.prog X.w (upd (upd H2 a (xo a (.ref C) (some d))) d (.xd fs)) hb2 := fun b o z => by
    by_cases qd : b = d
    · subst qd
      rw [upd_same] at z
      cases z
      exact ⟨mf, ns, fr⟩
    · rw [upd_ne qd] at z
      by_cases qa : b = a
      · subst qa
        rw [upd_same] at z
        cases z
        exact xo_ok eo ⟨rfl, rfl⟩ ⟨_, rfl⟩
      · rw [upd_ne qa] at z
        exact (ok2 b o z).stay (fun c v _ fy => fy) (fun c hc => by rw [upd_ne (at_ne xd0 hc exd_own), upd_ne (at_ne xa hc exo_own)]; exact hc) (fun c xs hc => by rw [upd_ne (at_ne xd0 hc exd_tup), upd_ne (at_ne xa hc exo_tup)]; exact hc)
  exact I1.call' (ch := []) ho UN okN hbr (fun b z => absurd z (by simp))
end
end JP
namespace PySem
namespace HandSPX
open PySem.Spec PyProof.Rows
section
variable {M : Model} {A : Around} {E : Value → Shared → Prop} {h : Heap} {g : Array GenState} {d : Drawn} {t : Nat} {os : OsState}
variable {nm q : Str} {C N : Addr} {bs bm bmB : List Value} {hdct : Bool} {sn : List Str} {sub : List Value} {ab : Bool} {col : Option Bool} {dd : Option Addr} {k0 k1 k2 k3 k5 : Option Value} {B newId initId : String}
theorem check_new_kw (F : ExcBaseFacts B newId initId bmB) (tT : ∀ X : String, bm.contains (.type X) = bmB.contains (.type X)) {args : List Value} {kw : List (Str × Value)} {Q : Unit → Shared → Prop}
    (eC0 : h.get? C = some (excClassObj nm q C N bs bm hdct sn sub ab col dd k0 k1 k2 k3 k5 newId)) (go : Q () ⟨h, g, d, t, os⟩) : wpAny M A (checkBuiltinCall newId ⟨.ref C :: args, kw⟩) Q E ⟨h, g, d, t, os⟩ := by
  have cB : (Value.ref C :: bm).contains (.type B) = true := by rw [List.contains_cons, tT, F.hasB, Bool.or_true]
  have nS := F.noStar
  simp only [checkBuiltinCall, F.newKind, F.newSplit, F.newRow]
  repeat (first | refine wpAny_loadPart_at eC0 ?_ | (refine wpAny_isSubtype_exc eC0 ?_; rw [cB]) | refine wpAny_staticBase_exc eC0 ?_ | refine wpAny_madeBy_exc eC0 ?_ | simp only [bne_self_eq_false, Bool.false_eq_true, if_false] | wp_step)
  exact go
end
section
variable {prog : Program} {w : World} {A : Around} {E : Value → Shared → Prop} {R : Result → Shared → Prop} {h : Heap} {g : Array GenState} {d : Drawn} {t : Nat} {os : OsState}
variable {nm q : Str} {C N : Addr} {bs bm bmB : List Value} {hdct : Bool} {sn : List Str} {sub : List Value} {ab : Bool} {col : Option Bool} {dd : Option Addr} {k0 k1 k2 k3 k5 : Option Value} {B newId initId : String}
theorem new_kw (F : ExcBaseFacts B newId initId bmB) (tT : ∀ X : String, bm.contains (.type X) = bmB.contains (.type X)) {args : List Value} {kw : List (Str × Value)}
    (eC0 : h.get? C = some (excClassObj nm q C N bs bm hdct sn sub ab col dd k0 k1 k2 k3 k5 newId))
    (go : R (.ok (.ret (.ref (h.objs.size + 1)))) ⟨(h.push { cls := .type "tuple", data := .seq args.toArray }).push
      { cls := .ref C, data := .fields #[.ref h.objs.size, .none, .none, .none, .bool false, .none] }, g, d, t, os⟩) (rz : args.length ≤ sizeLine) :
    codeAny (model prog w) A (.builtin newId ⟨.ref C :: args, kw⟩) R ⟨h, g, d, t, os⟩ := by
  have nE := F.ends
  have cB : (Value.ref C :: bm).contains (.type B) = true := by rw [List.contains_cons, tT, F.hasB, Bool.or_true]
  have cA : (Value.ref C :: bm).contains (.type "AttributeError") = false := by rw [List.contains_cons, tT, F.noAttr]; rfl
  have cN : (Value.ref C :: bm).contains (.type "NameError") = false := by rw [List.contains_cons, tT, F.noName]; rfl
  refine codeAny_builtinAt F.entry ?_
  unfold Builtin.«BaseException.__new__»
  refine wpAt_bind ?_
  show wpAt _ _ _ (stack >>= _) _ _ _
  refine wpAt_bind (wpAt_stack fun p below => wpAt_of_wpAny ?_)
  wp_walk
  refine wpAt_of_wpAny ?_
  rw [F.owner]
  repeat (first | with_reducible refine wpAny_madeHere_exc F.canon eC0 ?_ | with_reducible refine wpAny_loadPart_at eC0 ?_ | (with_reducible refine wpAny_isSubtype_exc eC0 ?_; first | rw [cB] | rw [cA] | rw [cN]) | wp_step)
  show R _ _
  rw [Heap.size_push]
  exact go
theorem type_call_kw (F : ExcBaseFacts B newId initId bmB) (tT : ∀ X : String, bm.contains (.type X) = bmB.contains (.type X)) {args : List Value} {kw : List (Str × Value)} {fI : Addr} {Q : Fin → Shared → Prop}
    (eC0 : h.get? C = some (excClassObj nm q C N bs bm hdct sn sub ab col dd k0 k1 k2 k3 k5 newId))
    (li : W.Looks (model prog w) h (typeLookup (.ref C) "__init__") (some (.ref fI))) (lb : ∀ self, W.Looks (model prog w) h (bindSpecial (.ref fI) self) (.ref fI, [self])) (rz : args.length ≤ sizeLine)
    (go : codeAny (model prog w) A (.call (.ref fI) ⟨.ref (h.objs.size + 1) :: args, kw⟩)
      (fun r s' => match r with | .ok (.ret v) => v = .none ∧ Q (.done (.ret (.ref (h.objs.size + 1)))) s' | .ok _ => False | .error e => E e s')
      ⟨(h.push (W.kdv_tup args)).push (excO C h.objs.size), g, d, t, os⟩) :
    wpAny (model prog w) A (Builtin.«type.__call__» ⟨.ref C :: args, kw⟩) Q E ⟨h, g, d, t, os⟩ := by
  repeat (first | with_reducible refine wpAny_loadPart_at eC0 ?_ | with_reducible refine wpAny_madeBy_exc eC0 ?_ | wp_step)
  refine codeAny_call_builtin_code (Code.quiet_builtin _ F.quiet) (check_new_kw F tT eC0 ?_)
  refine new_kw F tT eC0 ?_ rz
  show wpAny _ _ _ _ _ _
  have kp : ∀ b o, h.get? b = some o → ((h.push (W.kdv_tup args)).push (excO C h.objs.size)).get? b = some o := fun b o e => Heap.get?_push_of_some _ (Heap.get?_push_of_some _ e)
  have eC1 := kp _ _ eC0
  have gE : ((h.push (W.kdv_tup args)).push (excO C h.objs.size)).get? (h.objs.size + 1) = some (excO C h.objs.size) := by heap_get
  have cC : (Value.ref C :: bm).contains (.ref C) = true := by simp
  have j1 := li.keeps kp
  have j2 := (lb (.ref (h.objs.size + 1))).keeps kp
  unfold isInstance
  repeat (first | with_reducible refine wpAny_loadPart_at gE ?_ | (with_reducible refine wpAny_isSubtype_exc eC1 ?_; rw [cC]) | wp_step)
  show wpAny _ _ (typeLookup (.ref C) _) _ _ _
  refine j1.at ?_
  refine wpAny_holding (wpAny_bind (j2.at ?_))
  refine wpAny_bind (wpAny_call (codeAny_mono go fun r s' z => ?_))
  rcases r with e | (v | _ | _ | _) <;> first | exact z | exact z.elim | skip
  obtain ⟨rfl, z⟩ := z
  first
    | exact wpAny_pure (wpAny_pure z)
    | (wp_walk; exact z)
end
end HandSPX
end PySem
namespace PySem
namespace HandSPX
open PySem.Spec PyProof.Rows
section
variable {prog : Program} {w : World} {A : Around} {E : Value → Shared → Prop} {R : Result → Shared → Prop} {h : Heap} {g : Array GenState} {d : Drawn} {t : Nat} {os : OsState}
variable {nm q : Str} {C N : Addr} {bs bm bmB : List Value} {hdct : Bool} {sn : List Str} {sub : List Value} {ab : Bool} {col : Option Bool} {dd : Option Addr} {k0 k1 k2 k3 k5 : Option Value} {B newId initId : String}
theorem call_kw (F : ExcBaseFacts B newId initId bmB) (tT : ∀ X : String, bm.contains (.type X) = bmB.contains (.type X)) {args : List Value} {kw : List (Str × Value)} {fI : Addr}
    (eC0 : h.get? C = some (excClassObj nm q C N bs bm hdct sn sub ab col dd k0 k1 k2 k3 k5 newId))
    (li : W.Looks (model prog w) h (typeLookup (.ref C) "__init__") (some (.ref fI))) (lb : ∀ self, W.Looks (model prog w) h (bindSpecial (.ref fI) self) (.ref fI, [self])) (rz : args.length ≤ sizeLine)
    (go : codeAny (model prog w) (A.under (.builtin "type.__call__" ⟨.ref C :: args, kw⟩)) (.call (.ref fI) ⟨.ref (h.objs.size + 1) :: args, kw⟩) (W.InitBack (h.objs.size + 1) R)
      ⟨(h.push (W.kdv_tup args)).push (excO C h.objs.size), g, d, t, os⟩) :
    codeAny (model prog w) A (.call (.ref C) ⟨args, kw⟩) R ⟨h, g, d, t, os⟩ := by
  have t1 := tc_lookup
  have t2 := tc_bind (.ref C)
  have tY : (⟨h, g, d, t, os⟩ : Shared).TypeIs (.ref C) "type" := ⟨_, eC0, rfl⟩
  refine codeAny_of_tree ?_
  show wpAny _ _ (callAny (.ref C) _) _ _ _
  repeat (any_goals (first | assumption | with_reducible refine wpAny_loadPart_at eC0 ?_ | wp_step))
  refine ⟨rfl, ?_⟩
  refine codeAny_call_builtin_at (Code.quiet_builtin _ (by decide +kernel)) entry_typeCall (wpAny_check_type_call_sub eC0 (type_call_kw F tT eC0 li lb rz ?_))
  refine codeAny_mono go fun r s' z => ?_
  rcases r with e | (v | _ | _ | _) <;> exact z
end
end HandSPX
end PySem
namespace JP
open PySem PySem.Spec PyProof.Rows L2
/-- C(e, .., k = v, ..), C's own __init__ keeping sp: a value -/
def tMkX (C : Addr) (n m : Nat) (sp : Sp) (gV : List V → List V → List V) (ta tk : TA) : TE := fun σ H Q => ta σ H fun vs H0 => tk σ H0 fun zs H1 => vs.length = n ∧ zs.length = m ∧ vs.length ≤ 1000 ∧ ∀ a, H1 a = none → sp (gV (.ref a :: vs) zs) (upd H1 a (exo a C none))
  (fun v H2 => v = .non ∧ ∃ (d : Addr) (fs : List (Str × V)), H2 a = some (exo a C (some d)) ∧ H2 d = some (exd d fs) ∧ H1 d = none ∧ Q (.ref a) (upd (upd H2 a (xo a (.ref C) (some d))) d (.xd fs))) (fun _ _ _ => False)
section
variable {X : Cx} {CX : CXT} {x : Str} {C fI : Addr} {k n : Nat} {fd : FuncData} {ps ks : List Str} {sp : Sp} {p pos : Pos} {e : Expr} {es : List Expr} {kws : List Keyword} {ta tk : TA} {g : List Value → List Value → List Value} {gV : List V → List V → List V}
theorem run_mkX {pins : List (Addr × Obj)} {σ : L2.St} {H1 : Hp} {s1 : Shared} {Q : VK} {us ws : List Value} {vs zs : List V} (T : OexC X.K C) (iC : PySem.W.findIn X.K (.ref C) "__init__" = some (some (.ref fI))) (tI : PySem.W.typeIn X.K (.ref fI) = some (.type "function"))
    (F1 : FnOk X.prog X.w X.K X.mg X.base CX k fI fd ps sp) (hr : Room (k + 1) X.A) (hb : KBn X.K fd ps (n + 1) ks g gV) (hx : Passes CX X (fun _ _ _ => False))
    (I1 : Inv X pins σ H1 s1) (r1 : Vals vs us) (rz : Vals zs ws) (l1 : vs.length = n) (l2 : zs.length = ks.length) (hz : vs.length ≤ 1000)
    (q1 : ∀ a, H1 a = none → sp (gV (.ref a :: vs) zs) (upd H1 a (exo a C none))
      (fun v H2 => v = .non ∧ ∃ (d : Addr) (fs : List (Str × V)), H2 a = some (exo a C (some d)) ∧ H2 d = some (exd d fs) ∧ H1 d = none ∧ Q (.ref a) (upd (upd H2 a (xo a (.ref C) (some d))) d (.xd fs))) (fun _ _ _ => False)) :
    wpAny (model X.prog X.w) X.A (call (.ref C) us (ks.zip ws)) (EP X pins σ Q) X.xe s1 := by
  obtain ⟨nm0, q0, N0, bs0, bm0, sn0, sub0, ab0, col0, dd0, j0, j1, j2, j3, j5, eC0, eb0⟩ := T.cls
  obtain ⟨hp0, gs0, dr0, tk0, os0⟩ := s1
  have le1 : hp0.objs.size ≤ hp0.objs.size + 1 := Nat.le_succ _
  have n1 : H1 (hp0.objs.size + 1) = none := I1.hok.fresh le1
  have hs1 := q1 (hp0.objs.size + 1) n1
  have kp : ∀ b o, hp0.get? b = some o → ((hp0.push (PySem.W.kdv_tup us)).push (PySem.HandSPX.excO C hp0.objs.size)).get? b = some o := fun b o e => Heap.get?_push_of_some _ (Heap.get?_push_of_some _ e)
  have ge0 : ((hp0.push (PySem.W.kdv_tup us)).push (PySem.HandSPX.excO C hp0.objs.size)).get? (hp0.objs.size + 1) = some (PySem.HandSPX.excO C hp0.objs.size) := by heap_get
  have I2 : Inv X pins σ (upd H1 (hp0.objs.size + 1) (exo (hp0.objs.size + 1) C none)) ⟨(hp0.push (PySem.W.kdv_tup us)).push (PySem.HandSPX.excO C hp0.objs.size), gs0, dr0, tk0, os0⟩ :=
    I1.laid (t' := tk0) (a := hp0.objs.size + 1) (o := exo (hp0.objs.size + 1) C none) (h' := (hp0.push (PySem.W.kdv_tup us)).push (PySem.HandSPX.excO C hp0.objs.size)) kp le1 (exo_ok ge0)
  have ra : Vals (V.ref (hp0.objs.size + 1) :: vs) (Value.ref (hp0.objs.size + 1) :: us) := .cons rfl r1
  have r3 := hb.rel ra rz
  have n1 : (Value.ref (hp0.objs.size + 1) :: us).length = n + 1 := by rw [List.length_cons, ← r1.length, l1]
  have lu : us.length ≤ sizeLine := by
    rw [← Paired.length r1, sizeLine_eq]
    omega
  refine wpAny_call (PySem.HandSPX.call_kw F.excBase_ValueError (fun Y => PySem.HandSPX.refsVE_contains Y bm0 eb0) (I1.kIn _ _ eC0) (PySem.W.looks_findIn I1.kIn iC) (fun self => PySem.W.bind_fn I1.kIn self tI) lu
    (codeAny_mono (F1.run _ X.stack _ _ ⟨Value.ref (hp0.objs.size + 1) :: us, ks.zip ws⟩ _ _ _ (fun _ _ _ => False) (hr.make C us (ks.zip ws)) (I2.env0.make C us (ks.zip ws)) (hb.to _ (Value.ref (hp0.objs.size + 1) :: us) ws I2.kIn n1 (rz.length.symm.trans l2)) r3 hs1) fun r s' hz2 => ?_))
  cases r with
  | error e0 => exact hx pins σ _ _ e0 s' I2 hz2
  | ok fl =>
    cases fl with
    | ret u =>
      obtain ⟨v, H2, osE, br2, uu2, okE, rv0, ev0, d, fs, xa, xd0, n2, qf⟩ := hz2
      subst ev0
      obtain ⟨hpE, gsE, drE, tkE, osF⟩ := s'
      exact ⟨rv0, .ref _, _, mk_keep I1 le1 kp uu2 okE osE br2 xa xd0 n2, rfl, qf⟩
    | next => exact False.elim hz2
    | brk => exact False.elim hz2
    | cont => exact False.elim hz2
theorem pe_mkX (T : OexC X.K C) (iC : PySem.W.findIn X.K (.ref C) "__init__" = some (some (.ref fI))) (tI : PySem.W.typeIn X.K (.ref fI) = some (.type "function"))
    (F1 : FnOk X.prog X.w X.K X.mg X.base CX k fI fd ps sp) (hr : Room (k + 1) X.A) (hb : Binds X.K fd ps []) (hx : Passes CX X (fun _ _ _ => False)) (hg : Gl X x) (hm : X.mg x = some (.ref C)) (ha : PA X (e :: es) ta) (hn : n + 1 = ps.length)
    (hdb : (x == ("__debug__" : Str)) = false := by decide) (he : starEach (e :: es) X.env = (false, eval e X.env) :: starEach es X.env := by rfl) (hpl : (backTo pos (starEach es X.env)).any (·.1) = false := by rfl) :
    PE X (.Call (.Name x p) (e :: es) [] pos) (tMkX C n 0 sp (fun vs _ => vs) ta tNil) := by
  refine ⟨fun pins s σ H Q I h => ?_⟩
  refine wpAny_Call_Name_kw (ld_glob I hg hm ?_ hdb)
  refine PySem.W.callWith_K (h₀ := X.base) I.ok.mod.kin T.kC (thn (ha.run pos pins s σ H _ I h) fun us s1 ⟨vs, H1, I1, r1, l1, l2, hz, q1⟩ => ⟨I1.kIn, ?_⟩) he hpl
  have K0 : KBn X.K fd ps (n + 1) [] (fun us _ => us) (fun vs _ => vs) := ⟨fun s us ws X1 l3 _ => by
    have := hb s us X1 (by rw [List.append_nil, l3, hn])
    rw [List.append_nil] at this
    exact this, fun r _ => r⟩
  exact run_mkX (ks := []) (ws := []) (zs := []) T iC tI F1 hr K0 hx I1 r1 .nil l1 rfl hz q1
theorem pe_mkXK0 (T : OexC X.K C) (iC : PySem.W.findIn X.K (.ref C) "__init__" = some (some (.ref fI))) (tI : PySem.W.typeIn X.K (.ref fI) = some (.type "function"))
    (F1 : FnOk X.prog X.w X.K X.mg X.base CX k fI fd ps sp) (hr : Room (k + 1) X.A) (hb : KBn X.K fd ps 1 ks g gV) (hx : Passes CX X (fun _ _ _ => False)) (hg : Gl X x) (hm : X.mg x = some (.ref C)) (hkw : PK X kws tk)
    (hall : (backToKw pos (keywordEach kws X.env)).all (·.1.isSome) = true := by rfl) (hks : (backToKw pos (keywordEach kws X.env)).filterMap (·.1) = ks := by rfl) (hdb : (x == ("__debug__" : Str)) = false := by decide)
    (hpl : ((backTo pos (starEach [] X.env)).any (·.1) || (backToKw pos (keywordEach kws X.env)).any (·.1.isNone)) = false := by rfl) :
    PE X (.Call (.Name x p) [] kws pos) (tMkX C 0 ks.length sp gV tNil tk) := by
  refine ⟨fun pins s σ H Q I h => ?_⟩
  refine wpAny_Call_Name_kw (ld_glob I hg hm ?_ hdb)
  refine PySem.W.callWith_KW0 (h₀ := X.base) I.ok.mod.kin T.kC hall ?_ hpl
  refine thn (hkw.run pos pins s σ H _ I h) fun ws s2 ⟨zs, H2, I2, rz, l1, l2, hz, q2⟩ => ⟨I2.kIn, ?_⟩
  rw [hks]
  exact run_mkX (us := []) (vs := []) T iC tI F1 hr hb hx I2 .nil rz rfl l2 (by decide) q2
/-- C(), C without own __init__ -/
theorem pe_mkX0 {bmB : List Value} {B newId initId : String} (F : ExcBaseFacts B newId initId bmB) (q : PySem.W.excIn X.K C bmB newId = true) (gC : X.mg x = some (.ref C)) (kC : PySem.W.keepIn X.K (.ref C) = true) (hg : Gl X x) (hdb : (x == ("__debug__" : Str)) = false := by decide) :
    PE X (.Call (.Name x p) [] [] pos) (fun _ H Q => ∀ a, H a = none → Q (.ref a) (upd H a (xo a (.ref C) none))) := by
  refine ⟨fun pins s σ H Q I h => ?_⟩
  refine wpAny_Call_Name_kw (ld_glob I hg gC ?_ hdb)
  refine PySem.W.callWith_K0 I.kIn kC ?_
  obtain ⟨bm, N, nm, qn, bs, hdct, sn, sub, ab, col, dd, k0, k1, k2, k3, k5, mN, hC, hN, hni, T⟩ := exc_obj I.kIn q
  refine wpAny_call_exc_subT F T hC hN hni (fun h' a hm => ?_) (by show 0 ≤ sizeLine; omega)
  have hn : H a = none := I.hok.gone hm.new
  obtain ⟨t, ht, _, _⟩ := hm.there
  exact ⟨.ref a, upd H a (xo a (.ref C) none), I.laidN hm.keeps hm.new hn (xo_ok ht ⟨rfl, rfl⟩ ⟨_, rfl⟩), rfl, h a hn⟩
end
/-- isinstance(e, (T1, T2)), the Ts builtin classes -/
def rIsXs (K : PySem.W.Frag) : List V → Hp → VK → Prop := fun xs H Q => ∃ (a C tp : Addr) (fs : List (Str × V)) (ns : List String) (b : Bool), xs = [.ref a, .ref tp] ∧ H tp = some (.tup (ns.map V.ty)) ∧ ExcC K C ∧ Held H a C fs ∧ PySem.W.kitAny K (.ref C) (ns.map Value.type) = some b ∧ Q (.bl b) H
theorem vals_ty : ∀ {ns : List String} {its : List Value}, Vals (ns.map V.ty) its → its = ns.map Value.type
  | [], _, .nil => rfl
  | n :: ns, _, .cons h r => by
    rw [List.map_cons, vals_ty r]
    congr 1
theorem call_isXs {X : Cx} : CallR X (.builtin "isinstance") (rIsXs X.K) := by
  intro pins s σ H xs us Q I r h
  obtain ⟨a, C, tp, fs, ns, b, rfl, ht, T, hx, e, q⟩ := h
  obtain ⟨u1, u2, rfl, r1, r2⟩ := vals2 r
  cases r1
  cases r2
  obtain ⟨oe, od, J⟩ := held_inst0 I hx
  obtain ⟨cd, hc, _⟩ := PySem.W.any_some T.hd
  obtain ⟨_, its, rv, o, ho, hcls, n, hd⟩ := (show ObjOk X.prog X.w H s.heap tp (.tup (ns.map V.ty)) from I.hok tp _ ht)
  obtain rfl := vals_ty rv
  obtain ⟨oc, od', oda, osl⟩ := o
  dsimp only at hcls hd
  subst hcls hd
  exact PySem.W.kia_tup (PySem.W.kitx_exc (by rw [hc]; rfl) T.hg T.hk T.hs T.ha T.hn T.ht T.hm) I.kIn J ho e (fun z => nomatch z) fun tk => ⟨.bl b, H, I.tok tk, rfl, q⟩
end JP
namespace JP
open PySem PySem.Spec PyProof.Rows L2
/-! ### copies of data: flat values, tuples, lists of such, dicts of one -/
def CpIn (H : Hp) (y : V) : Prop := flatV y = true ∨ (∃ a xs, y = .ref a ∧ H a = some (.tup xs) ∧ (∀ x ∈ xs, flatV x = true) ∧ xs.length ≤ 1000) ∨ (∃ a xs, y = .ref a ∧ H a = some (.lst xs) ∧ (∀ x ∈ xs, flatV x = true) ∧ xs.length ≤ 1000) ∨
  (∃ a kvs, y = .ref a ∧ Rd H a (.dK kvs) ∧ (kvs = [] ∨ ∃ k v, kvs = [(k, v)] ∧ flatV v = true))
def CpOut (H H1 : Hp) (y z : V) : Prop := (flatV y = true ∧ z = y ∧ H1 = H) ∨ (∃ a xs p, y = .ref a ∧ H a = some (.tup xs) ∧ z = .ref p ∧ Same H H1 ∧ H p = none ∧ H1 p = some (.tup xs)) ∨ (∃ a xs p, y = .ref a ∧ H a = some (.lst xs) ∧ z = .ref p ∧ Same H H1 ∧ H p = none ∧ H1 p = some (.lst xs)) ∨
  (∃ a kvs p, y = .ref a ∧ Rd H a (.dK kvs) ∧ z = .ref p ∧ Same H H1 ∧ H p = none ∧ H1 p = some (.dK kvs))
theorem CpOut.same {H H1 : Hp} {y z : V} (h : CpOut H H1 y z) : Same H H1 := by
  rcases h with ⟨_, _, rfl⟩ | ⟨_, _, _, _, _, _, s, _⟩ | ⟨_, _, _, _, _, _, s, _⟩ | ⟨_, _, _, _, _, _, s, _⟩
  · exact .refl _
  · exact s
  · exact s
  · exact s
def spCopyC : Sp := fun vs H Q _ => ∃ y, vs = [y] ∧ CpIn H y ∧ ∀ H1 z, CpOut H H1 y z → Q z H1
def spE1C (C : Addr) (f : Str) : Sp := fun vs H Q _ => ∃ a y, vs = [.ref a, y] ∧ H a = some (exo a C none) ∧ CpIn H y ∧ ∀ H1 z, CpOut H H1 y z → ∀ d, H1 d = none → d ≠ a → Q .non (upd (upd H1 d (exd d [(f, z)])) a (exo a C (some d)))
def spE2C (C : Addr) (f g : Str) : Sp := fun vs H Q _ => ∃ a y y2, vs = [.ref a, y, y2] ∧ H a = some (exo a C none) ∧ CpIn H y ∧ CpIn H y2 ∧ ∀ H1 z, CpOut H H1 y z → ∀ d, H1 d = none → d ≠ a → ∀ H2 z2, CpOut (upd (upd H1 d (exd d [(f, z)])) a (exo a C (some d))) H2 y2 z2 → Q .non (upd H2 d (exd d [(g, z2), (f, z)]))
theorem exo_dK {e C : Addr} {d : Option Addr} {kvs : List (Key × V)} : exo e C d ≠ .dK kvs := fun z => by
  have z' : HO.ext _ = HO.dK kvs := z
  cases z'
theorem exo_lst {e C : Addr} {d : Option Addr} {xs : List V} : exo e C d ≠ .lst xs := fun z => by
  have z' : HO.ext _ = HO.lst xs := z
  cases z'
/-- what may be copied may be so behind changes of the exception that is made -/
theorem CpIn.over {H H' : Hp} {y : V} (h : CpIn H y) (s : ∀ b o, H b = some o → (∀ φ, o ≠ .ext φ) → H' b = some o) : CpIn H' y := by
  rcases h with h | ⟨a, xs, e, ha, hf, hl⟩ | ⟨a, xs, e, ha, hf, hl⟩ | ⟨a, kvs, e, ha, hk⟩
  · exact .inl h
  · exact .inr (.inl ⟨a, xs, e, s _ _ ha (fun φ z => by cases z), hf, hl⟩)
  · exact .inr (.inr (.inl ⟨a, xs, e, s _ _ ha (fun φ z => by cases z), hf, hl⟩))
  · refine .inr (.inr (.inr ⟨a, kvs, e, ?_, hk⟩))
    rcases ha with ha | ⟨o, ha⟩
    · exact .inl (s _ _ ha (fun φ z => by cases z))
    · exact .inr ⟨o, s _ _ ha (fun φ z => by cases z)⟩
end JP

namespace JP
open PySem PySem.Spec PyProof.Rows L2

/-! ### repr of data, of dicts of one flat value, of lists of both -/
def kP : Key → PyData
  | .inl i => .int i
  | .inr x => .str x
/-- a flat value as data -/
def vP : V → PyData
  | .bl b => .bool b
  | .int i => .int i
  | .str x => .str x
  | _ => .none
/-- what is shown: plain data, or a dict of one at most -/
inductive Sho (K : PySem.W.Frag) (H : Hp) : V → PyData → Prop
  | plain {v : V} {d : PyData} : Dp K H v d → d.hasDict = false → Sho K H v d
  | dic {a : Addr} {kvs : List (Key × V)} : Rd H a (.dK kvs) → (∀ p ∈ kvs, flatV p.2 = true) → Sho K H (.ref a) (.dict (kvs.map fun p => (kP p.1, vP p.2)))
inductive ShoAll (K : PySem.W.Frag) (H : Hp) : List V → List PyData → Prop
  | nil : ShoAll K H [] []
  | cons {v : V} {vs : List V} {d : PyData} {ds : List PyData} : Sho K H v d → ShoAll K H vs ds → ShoAll K H (v :: vs) (d :: ds)
theorem flat_reads {h : Heap} {v : V} {u : Value} (f : flatV v = true) (r : RelV v u) : Reads h u (vP v) [] := by
  cases v with
  | non => cases r; exact .none
  | bl b => cases r; exact .bool b
  | int i => obtain ⟨t, rfl⟩ := r; exact .int i t
  | str x => obtain ⟨t, rfl⟩ := r; exact .str x t
  | _ => cases f
theorem keys_reads {h : Heap} : ∀ (k : Key) (key : Value), keyIs k key = true → Reads h key (kP k) [] := fun k key e => by
  rcases keyIs_shape e with ⟨i, t, rfl, rfl⟩ | ⟨x, t, rfl, rfl⟩
  · exact .int i t
  · exact .str x t
theorem pairs_reads {h : Heap} : ∀ {kvs : List (Key × V)} {vs : List (Key × Value)}, KV kvs vs → (∀ p ∈ kvs, flatV p.2 = true) → PyProof.V.PairsRead h kP vs (kvs.map fun p => (kP p.1, vP p.2)) [] := by
  intro kvs vs r
  unfold KV at r
  induction r with
  | nil => intro _; exact .nil
  | @cons p q ps qs e t ih =>
    intro hf
    obtain ⟨k, v⟩ := p
    obtain ⟨k', u⟩ := q
    obtain ⟨e1, e2⟩ := e
    dsimp only at e1 e2
    subst e1
    exact .cons (as := []) (bs := []) (flat_reads (hf _ List.mem_cons_self) e2) (ih fun p hp => hf p (List.mem_cons_of_mem _ hp))
section
variable {X : Cx} {pins : List (Addr × Obj)} {σ : L2.St} {H : Hp} {s : Shared}
theorem Sho.reads {v : V} {u : Value} {d : PyData} (I : Inv X pins σ H s) (h : Sho X.K H v d) (r : RelV v u) : ∃ as, Reads s.heap u d as ∧ (d.hasDict = true → sysModules ∉ as) := by
  cases h with
  | plain h n =>
    obtain ⟨as, q⟩ := Dp.reads I d v u h r
    exact ⟨as, q, fun z => by rw [n] at z; cases z⟩
  | @dic a kvs h f =>
    cases r
    obtain ⟨_, hd, vs, rel, dd⟩ := dk_rd I.hok h
    refine ⟨[a], PyProof.V.reads_dictOf (enc := kP) keys_reads dd (pairs_reads rel f), fun _ hm => ?_⟩
    rw [List.mem_singleton.mp hm] at hd
    exact absurd hd (by simp)
theorem ShoAll.shows : ∀ {vs : List V} {us : List Value} {ds : List PyData}, Inv X pins σ H s → ShoAll X.K H vs ds → Vals vs us → PyData.showableAll ds = true → (∀ t ∈ PyData.shownAll ds, t.length ≤ sizeLine) →
    ∃ as bs, ReadsAll s.heap us ds as ∧ ReadAtMost s.heap (PyData.depthAll ds) bs ∧ ReprAllK X.prog X.w bs s.heap (PyData.depthAll ds) us (PyData.shownAll ds)
  | _, _, _, I, .nil, .nil, _, _ => ⟨[], [], .nil, (fun b hb => by cases hb), by simp only [PyData.shownAll]; exact .nil⟩
  | _, _, _, I, .cons (d := d) (ds := ds) h t, .cons r rs, hs, hz => by
    simp only [PyData.showableAll, Bool.and_eq_true] at hs
    obtain ⟨as, q, hno⟩ := h.reads I r
    obtain ⟨b1, hb1, k1⟩ := ReprK.of_reads (prog := X.prog) (w := X.w) q hs.1 hno (hz _ (by simp only [PyData.shownAll]; exact List.mem_cons_self ..))
    obtain ⟨cs, b2, q2, hb2, k2⟩ := t.shows I rs hs.2 fun x hx => hz x (by simp only [PyData.shownAll]; exact List.mem_cons_of_mem _ hx)
    refine ⟨as ++ cs, b1 ++ b2, .cons q q2, ?_, ?_⟩
    · simp only [PyData.depthAll]
      exact (hb1.mono (Nat.le_max_left _ _)).append (hb2.mono (Nat.le_max_right _ _))
    · simp only [PyData.depthAll, PyData.shownAll]
      exact .cons ((k1.more fun b hb => List.mem_append_left _ hb).level_le (Nat.le_max_left _ _)) (k2.more_le (fun b hb => List.mem_append_right _ hb) (Nat.le_max_right _ _))
end
/-- repr(x) of such -/
def rReprX (K : PySem.W.Frag) : List V → Hp → VK → Prop := fun xs H Q => ∃ x d, xs = [x] ∧ (Sho K H x d ∨ ∃ (a : Addr) (ys : List V) (ds : List PyData), x = .ref a ∧ H a = some (.lst ys) ∧ ShoAll K H ys ds ∧ d = .list ds) ∧ d.showable = true ∧ d.depth ≤ 60 ∧ d.shown.length ≤ sizeLine ∧ Q (.str d.shown) H
theorem call_reprX {X : Cx} (g : X.A.guards = some []) (hu : X.A.units + 64 < cLine) : CallR X (.builtin "repr") (rReprX X.K) := by
  intro pins s σ H xs us Q I r h
  obtain ⟨x, d, rfl, hd, sh, dp, sz, q⟩ := h
  obtain ⟨u, rfl, rv⟩ := vals1 r
  rcases hd with hd | ⟨a, ys, ds, rfl, ha, hy, rfl⟩
  · cases hd with
    | plain hd nd => exact call_repr g hu pins s σ H [x] [u] Q I r ⟨x, d, rfl, hd, sh, nd, dp, sz, q⟩
    | @dic a kvs hr hf =>
      cases rv
      obtain ⟨as, rd, hno⟩ := (Sho.dic (K := X.K) hr hf).reads I (show RelV (.ref a) (.ref a) from rfl)
      exact repr_of_reads' rd sh hno g (by omega) (fun _ _ e => e) (fun h' u tk k => ⟨.str _, H, I.kept k, ⟨_, rfl⟩, q⟩) sz
  · cases rv
    obtain ⟨its, rv, ⟨o, n, ho, hc, _, hdt⟩, _⟩ := I.list (show SqL X.K H a ys from .of ha)
    have hs' : PyData.showableAll ds = true := by simpa [PyData.showable] using sh
    have hz' : (listText (PyData.shownAll ds)).length ≤ sizeLine := by simpa only [PyData.shown] using sz
    obtain ⟨as, bs, h4, hb, hk⟩ := hy.shows I rv hs' fun t ht => Nat.le_trans (listText_mem_le ht) hz'
    have hR : Reads s.heap (.ref a) (.list ds) (a :: as) := .list ho hc hdt h4
    have out : a ∉ bs := not_mem_of_deeper hR (by simp only [PyData.depth]; omega) hb
    have dp' : PyData.depthAll ds + 1 ≤ 60 := by simpa only [PyData.depth] using dp
    have fin : ∀ h' (u : Tok) tk, (∀ b o, s.heap.get? b = some o → h'.get? b = some o) → EP X pins σ Q (.str (listText (PyData.shownAll ds)) u) { s with heap := h', toks := tk } := fun h' u tk k => ⟨.str _, H, I.kept k, ⟨_, rfl⟩, by simpa only [PyData.shown] using q⟩
    refine call_repr_slot (by omega) ⟨o, ho, hc⟩ PySem.F.slot_list_repr.toG ?_
    have hu1 : X.A.in1.units + (PyData.depthAll ds + 1) < cLine := by show X.A.units + 1 + _ < cLine; omega
    cases its with
    | nil =>
      cases h4
      simp only [PyData.shownAll, listText_nil] at fin
      exact wpAny_mono (call_list_repr_empty ⟨o, ho, hc⟩ ho hdt (show ∃ x t, Value.str "[]" _ = Value.str x t ∧ EP X pins σ Q (.str "[]" _) _ from ⟨_, _, rfl, fin s.heap _ _ fun _ _ e => e⟩)) (fun v s' h => h) fun _ _ e => e
    | cons x l =>
      exact call_list_reprK ho hc hdt out (by simpa using hk.length_eq) (fun i y e => hk.item i y (by simpa using e)) g (fun b _ => Clear.nil b) hu1 (fun _ _ e => e) (fun h' u tk k => ⟨_, _, rfl, fin h' u tk k⟩) hz'
end JP
namespace JP
open PySem PySem.Spec PyProof.Rows L2
/-! ### with a dict locked, or not -/
def tLockO (t : TE) : TE := fun σ H Q => t σ H Q ∨ tLockE t σ H Q
theorem pe_lockO {X : Cx} {e : Expr} {t : TE} (h : PE X e t) : PE X e (tLockO t) := ⟨fun pins s σ H Q I q => q.elim (h.run pins s σ H Q I) ((pe_lock h).run pins s σ H Q I)⟩
theorem vals_rev : ∀ {vs : List V} {us : List Value}, Vals vs us → Vals vs.reverse us.reverse
  | _, _, .nil => .nil
  | _, _, .cons h r => by
    rw [List.reverse_cons, List.reverse_cons]
    exact (vals_rev r).append (.cons h .nil)
/-- a dict of one at most, made anew by its keys -/
theorem dc_copy {d : Addr} {o : Obj} {kvs : List (Key × V)} {g : TG} {tt : TT} {tk tv : TE} {vs : List Nat} {σ : L2.St} {H1 : Hp} {D : Addr} {Qd : Hp → Prop} (hk : kvs = [] ∨ ∃ k v, kvs = [(k, v)]) (hd : H1 d = some (.frz o (.dK kvs))) (nD : H1 D = none)
    (hs : ∀ k v, kvs = [(k, v)] → ∀ N : Hp → Prop, N (upd H1 D (.dK [(k, v)])) → g (kV k) (wipe σ vs) (upd H1 D (.dK [])) fun σ2 H2 => wipe σ2 vs = wipe σ vs ∧ tt σ2 H2 fun b H3 =>
      if b = true then tk σ2 H3 fun y H4 => tv σ2 H4 fun z H5 => ∃ kvs k, y = kV k ∧ H5 D = some (.dK kvs) ∧ kvs.length < sizeLine ∧ N (upd H5 D (.dK (putK kvs k z))) else N H3) (hq : Qd (upd H1 D (.dK kvs))) :
    ∃ W : Nat → Nat → Hp → Prop, (∃ m, W 0 m (upd H1 D (.dK []))) ∧ ∀ i m H, W i m H →
      ((Itk d o kvs).stop i H ∧ Qd H) ∨ ((Itk d o kvs).go i H ∧ ∃ Nx : Hp → Prop, (∀ H', Nx H' → ∃ m', m' < m ∧ W (i + 1) m' H') ∧ ∀ x H', (Itk d o kvs).yld i H x H' → g x (wipe σ vs) H' fun σ2 H2 => wipe σ2 vs = wipe σ vs ∧ tt σ2 H2 fun b H3 =>
        if b = true then tk σ2 H3 fun y H4 => tv σ2 H4 fun z H5 => ∃ kvs k, y = kV k ∧ H5 D = some (.dK kvs) ∧ kvs.length < sizeLine ∧ Nx (upd H5 D (.dK (putK kvs k z))) else Nx H3) := by
  have hdD : d ≠ D := ne_of_none hd nD
  refine ⟨fun i m H => m + i = kvs.length ∧ H = upd H1 D (.dK (kvs.take i)), ⟨kvs.length, rfl, by rw [List.take_zero]⟩, ?_⟩
  rintro i m H ⟨hm, rfl⟩
  have hd' : ∀ u, upd H1 D u d = some (.frz o (.dK kvs)) := fun u => (upd_ne hdD).trans hd
  rcases hk with rfl | ⟨k, v, rfl⟩
  · obtain rfl : i = 0 := by
      have : m + i = 0 := hm
      omega
    exact .inl ⟨⟨hd' _, Nat.le_refl _⟩, hq⟩
  · have hm1 : m + i = 1 := hm
    rcases Nat.lt_or_ge i 1 with hi | hi
    · obtain rfl : i = 0 := by omega
      obtain rfl : m = 1 := by omega
      refine .inr ⟨⟨hd' _, Nat.zero_lt_one⟩, fun H' => H' = upd H1 D (.dK [(k, v)]), fun H' e => ⟨0, Nat.zero_lt_one, rfl, e⟩, fun x H' y => ?_⟩
      obtain ⟨rfl, k', v', e, rfl⟩ := y
      cases (Option.some.inj e : (k, v) = (k', v'))
      exact hs k v rfl _ rfl
    · obtain rfl : i = 1 := by omega
      exact .inl ⟨⟨hd' _, Nat.le_refl _⟩, hq⟩
end JP

namespace JP
open PySem PySem.Spec PyProof.Rows L2

/-! ## own exceptions as values -/
/-- what own_copy copies: flat values, tuples and lists of such, dicts of one at most -/
def cpD : D → Bool
  | .tup ds => ds.all flatD && decide (ds.length ≤ 1000)
  | .lst ds => ds.all flatD && decide (ds.length ≤ 1000)
  | .dic [] => true
  | .dic [(_, v)] => flatD v
  | d => flatD d
section
variable {K : PySem.W.Frag} {F H : Hp}
theorem flats_V : ∀ {vs : List V} {ds : List D}, RepAll K F vs ds → ds.all flatD = true → ∀ x ∈ vs, flatV x = true
  | _, _, .nil, _ => fun x hx => by cases hx
  | _, _, .cons r rs, h => fun x hx => by
    rw [List.all_cons, Bool.and_eq_true] at h
    rcases List.mem_cons.mp hx with rfl | hx
    · exact flatD_V r h.1
    · exact flats_V rs h.2 x hx
theorem cp_in {y : V} {d : D} (s : Same F H) (r : Rep K F y d) (h : cpD d = true) : CpIn H y := by
  cases d with
  | tup ds =>
    cases r with
    | tup e ra =>
      have h' : (ds.all flatD && decide (ds.length ≤ 1000)) = true := h
      rw [Bool.and_eq_true] at h'
      exact .inr (.inl ⟨_, _, rfl, s _ _ e, flats_V ra h'.1, ra.length ▸ of_decide_eq_true h'.2⟩)
  | lst ds =>
    cases r with
    | lst e ra =>
      have h' : (ds.all flatD && decide (ds.length ≤ 1000)) = true := h
      rw [Bool.and_eq_true] at h'
      exact .inr (.inr (.inl ⟨_, _, rfl, s _ _ e, flats_V ra h'.1, ra.length ▸ of_decide_eq_true h'.2⟩))
  | dic kvs =>
    cases r with
    | dk e rk =>
      refine .inr (.inr (.inr ⟨_, _, rfl, Rd.same s e, ?_⟩))
      match kvs, rk, h with
      | [], .nil, _ => exact .inl rfl
      | [(_, v)], .cons rv .nil, h => exact .inr ⟨_, _, rfl, flatD_V rv h⟩
  | _ => first | exact .inl (flatD_V r h) | (cases h; done)
/-- the copy reads as what it is a copy of -/
theorem cp_out {H1 : Hp} {y z : V} {d : D} (s : Same F H) (r : Rep K F y d) (h : cpD d = true) (o : CpOut H H1 y z) :
    Rep K F z d ∨ ∃ p u, H p = none ∧ H1 p = some u ∧ notT u ∧ ∀ F', Same F F' → F' p = some u → Rep K F' z d := by
  rcases o with ⟨_, rfl, _⟩ | ⟨a, xs, p, rfl, ha, rfl, _, np, hp⟩ | ⟨a, xs, p, rfl, ha, rfl, _, np, hp⟩ | ⟨a, kvs, p, rfl, ha, rfl, _, np, hp⟩
  · exact .inl r
  · right
    refine ⟨p, _, np, hp, trivial, fun F' s' e => ?_⟩
    cases d with
    | tup ds =>
      cases r with
      | tup e2 ra =>
        rw [s _ _ e2] at ha
        cases ha
        exact .tup e (ra.mono s')
    | lst ds =>
      cases r with
      | lst e2 ra =>
        rw [s _ _ e2] at ha
        cases ha
    | dic ds =>
      cases r with
      | dk e2 ra =>
        rcases e2 with e2 | ⟨o, e2⟩ <;> (rw [s _ _ e2] at ha; cases ha)
    | _ => first | (cases h; done) | (cases r; done)
  · right
    refine ⟨p, _, np, hp, trivial, fun F' s' e => ?_⟩
    cases d with
    | tup ds =>
      cases r with
      | tup e2 ra =>
        rw [s _ _ e2] at ha
        cases ha
    | lst ds =>
      cases r with
      | lst e2 ra =>
        rw [s _ _ e2] at ha
        cases ha
        exact .lst e (ra.mono s')
    | dic ds =>
      cases r with
      | dk e2 ra =>
        rcases e2 with e2 | ⟨o, e2⟩ <;> (rw [s _ _ e2] at ha; cases ha)
    | _ => first | (cases h; done) | (cases r; done)
  · right
    refine ⟨p, _, np, hp, trivial, fun F' s' e => ?_⟩
    cases d with
    | tup ds =>
      cases r with
      | tup e2 ra =>
        rcases ha with ha | ⟨o, ha⟩ <;> (rw [s _ _ e2] at ha; cases ha)
    | lst ds =>
      cases r with
      | lst e2 ra =>
        rcases ha with ha | ⟨o, ha⟩ <;> (rw [s _ _ e2] at ha; cases ha)
    | dic ds =>
      cases r with
      | @dk _ kvs2 _ e2 ra =>
        have ek : kvs2 = kvs := by
          rcases e2 with e2 | ⟨o, e2⟩ <;> rcases ha with ha | ⟨o2, ha⟩ <;> (rw [s _ _ e2] at ha; cases ha) <;> rfl
        subst ek
        exact .dk (.inl e) (ra.mono s')
    | _ => first | (cases h; done) | (cases r; done)
/-- the frozen part behind a copy -/
theorem cp_ds {Tb : List (Addr × Str)} {H1 F1 : Hp} {G : Gm} {Z : Hp} {y z : V} {d : D} (D1 : DS K Tb F H G Z) (s1 : Same F F1) (D2 : DS K Tb F1 H1 G Z) (r : Rep K F y d) (h : cpD d = true) (o : CpOut H H1 y z) : ∃ F2, Same F1 F2 ∧ DS K Tb F2 H1 G Z ∧ Rep K F2 z d := by
  rcases cp_out D1.sub r h o with q | ⟨p, u, np, hp, nt, q⟩
  · exact ⟨F1, .refl _, D2, q.mono s1⟩
  · obtain ⟨D3, s3⟩ := D2.frz hp (D1.noG np) (D1.noZ np) nt
    exact ⟨_, s3, D3, q _ (s1.trans s3) upd_same⟩
/-- an exception of one field stands -/
theorem xc_end1 {Tb : List (Addr × Str)} {H2 : Hp} {G : Gm} {Z : Hp} {a C dd : Addr} {f : Str} {y z : V} {d : D} (D1 : DS K Tb F H G Z) (na : H a = none) (r : Rep K F y d) (h : cpD d = true) (o : CpOut (upd H a (exo a C none)) H2 y z) (nd : H2 dd = none) (nda : dd ≠ a) (ec : ExcC K C) :
    ∃ F', Same F F' ∧ DS K Tb F' (upd (upd (upd (upd H2 dd (exd dd [(f, z)])) a (exo a C (some dd))) a (xo a (.ref C) (some dd))) dd (.xd [(f, z)])) G Z ∧ Rep K F' (.ref a) (.exc C [(f, d)]) := by
  have s2 := o.same
  generalize hHf : upd (upd (upd (upd H2 dd (exd dd [(f, z)])) a (exo a C (some dd))) a (xo a (.ref C) (some dd))) dd (.xd [(f, z)]) = Hf
  have nd1 : H dd = none := by
    cases e : H dd with
    | none => rfl
    | some u =>
      have := s2 _ _ ((upd_ne (a := a) nda).trans e)
      rw [nd] at this
      cases this
  have ea : Hf a = some (xo a (.ref C) (some dd)) := by rw [← hHf, upd_ne nda.symm, upd_same]
  have ed : Hf dd = some (.xd [(f, z)]) := by rw [← hHf, upd_same]
  have eo : ∀ b, b ≠ a → b ≠ dd → Hf b = H2 b := fun b h1 h2 => by rw [← hHf, upd_ne h2, upd_ne h1, upd_ne h1, upd_ne h2]
  have sf : Same H Hf := fun b u e => by
    have n1 : b ≠ a := ne_of_none e na
    have n2 : b ≠ dd := ne_of_none e nd1
    rw [eo b n1 n2]
    exact s2 _ _ ((upd_ne n1).trans e)
  obtain ⟨D2, s3⟩ := (D1.same sf).frz ea (D1.noG na) (D1.noZ na)
  obtain ⟨D3, s4⟩ := D2.frz ed (D1.noG nd1) (D1.noZ nd1)
  have sH : Same F (upd H a (exo a C none)) := D1.sub.trans (same_new na)
  rcases cp_out sH r h o with q | ⟨p, u, np, hp, nt, q⟩
  · refine ⟨_, s3.trans s4, D3, .exc (.inl ⟨dd, ?_, upd_same⟩) ec (.cons (q.mono (s3.trans s4)) .nil)⟩
    rw [upd_ne nda.symm, upd_same]
  · have npa : p ≠ a := fun e => by rw [e, upd_same] at np; cases np
    have npd : p ≠ dd := fun e => by rw [e, nd] at hp; cases hp
    have np1 : H p = none := (upd_ne npa).symm.trans np
    obtain ⟨D4, s5⟩ := D3.frz ((eo p npa npd).trans hp) (D1.noG np1) (D1.noZ np1) nt
    refine ⟨_, (s3.trans s4).trans s5, D4, .exc (.inl ⟨dd, ?_, ?_⟩) ec (.cons (q _ ((s3.trans s4).trans s5) upd_same) .nil)⟩
    · rw [upd_ne npa.symm, upd_ne nda.symm, upd_same]
    · rw [upd_ne npd.symm, upd_same]
/-- of two fields -/
theorem xc_end2 {Tb : List (Addr × Str)} {H2 H3 : Hp} {G : Gm} {Z : Hp} {a C dd : Addr} {f g : Str} {y y2 z z2 : V} {d d2 : D} (D1 : DS K Tb F H G Z) (na : H a = none) (r : Rep K F y d) (h : cpD d = true) (r2 : Rep K F y2 d2) (h2 : cpD d2 = true)
    (o : CpOut (upd H a (exo a C none)) H2 y z) (nd : H2 dd = none) (nda : dd ≠ a) (o2 : CpOut (upd (upd H2 dd (exd dd [(f, z)])) a (exo a C (some dd))) H3 y2 z2) (ec : ExcC K C) :
    H3 a = some (exo a C (some dd)) ∧ H dd = none ∧ ∃ F', Same F F' ∧ DS K Tb F' (upd (upd (upd H3 dd (exd dd [(g, z2), (f, z)])) a (xo a (.ref C) (some dd))) dd (.xd [(g, z2), (f, z)])) G Z ∧ Rep K F' (.ref a) (.exc C [(g, d2), (f, d)]) := by
  have s2 := o.same
  have s3 := o2.same
  have e3a : H3 a = some (exo a C (some dd)) := s3 _ _ upd_same
  have e3d : H3 dd = some (exd dd [(f, z)]) := s3 _ _ (by rw [upd_ne nda, upd_same])
  generalize hHf : upd (upd (upd H3 dd (exd dd [(g, z2), (f, z)])) a (xo a (.ref C) (some dd))) dd (.xd [(g, z2), (f, z)]) = Hf
  have nd1 : H dd = none := by
    cases e : H dd with
    | none => rfl
    | some u =>
      have := s2 _ _ ((upd_ne (a := a) nda).trans e)
      rw [nd] at this
      cases this
  have ea : Hf a = some (xo a (.ref C) (some dd)) := by rw [← hHf, upd_ne nda.symm, upd_same]
  have ed : Hf dd = some (.xd [(g, z2), (f, z)]) := by rw [← hHf, upd_same]
  have eo : ∀ b, b ≠ a → b ≠ dd → Hf b = H3 b := fun b h1 h2 => by rw [← hHf, upd_ne h2, upd_ne h1, upd_ne h2]
  have s23 : ∀ b u, b ≠ a → b ≠ dd → H2 b = some u → H3 b = some u := fun b u h1 h2 e => s3 _ _ (by rw [upd_ne h1, upd_ne h2]; exact e)
  have sf : Same H Hf := fun b u e => by
    have n1 : b ≠ a := ne_of_none e na
    have n2 : b ≠ dd := ne_of_none e nd1
    rw [eo b n1 n2]
    exact s23 _ _ n1 n2 (s2 _ _ ((upd_ne n1).trans e))
  obtain ⟨D2, t3⟩ := (D1.same sf).frz ea (D1.noG na) (D1.noZ na)
  obtain ⟨D3, t4⟩ := D2.frz ed (D1.noG nd1) (D1.noZ nd1)
  have sH : Same F (upd H a (exo a C none)) := D1.sub.trans (same_new na)
  have sH2 : Same F (upd (upd H2 dd (exd dd [(f, z)])) a (exo a C (some dd))) := fun b u e => by
    have e1 := D1.sub _ _ e
    have n1 : b ≠ a := ne_of_none e1 na
    have n2 : b ≠ dd := ne_of_none e1 nd1
    rw [upd_ne n1, upd_ne n2]
    exact s2 _ _ ((upd_ne n1).trans e1)
  have k5 : ∃ F5, Same (upd (upd F a (xo a (.ref C) (some dd))) dd (.xd [(g, z2), (f, z)])) F5 ∧ DS K Tb F5 Hf G Z ∧ Rep K F5 z d := by
    rcases cp_out sH r h o with q | ⟨p, u, np, hp, nt, q⟩
    · exact ⟨_, .refl _, D3, q.mono (t3.trans t4)⟩
    · have npa : p ≠ a := fun e => by rw [e, upd_same] at np; cases np
      have npd : p ≠ dd := fun e => by rw [e, nd] at hp; cases hp
      have np1 : H p = none := (upd_ne npa).symm.trans np
      obtain ⟨D4, s5⟩ := D3.frz ((eo p npa npd).trans (s23 _ _ npa npd hp)) (D1.noG np1) (D1.noZ np1) nt
      exact ⟨_, s5, D4, q _ ((t3.trans t4).trans s5) upd_same⟩
  obtain ⟨F5, t5, D5, r5⟩ := k5
  have k6 : ∃ F6, Same F5 F6 ∧ DS K Tb F6 Hf G Z ∧ Rep K F6 z2 d2 := by
    rcases cp_out sH2 r2 h2 o2 with q | ⟨p, u, np, hp, nt, q⟩
    · exact ⟨_, .refl _, D5, q.mono ((t3.trans t4).trans t5)⟩
    · have npa : p ≠ a := fun e => by rw [e, upd_same] at np; cases np
      have npd : p ≠ dd := fun e => by rw [e, upd_ne nda, upd_same] at np; cases np
      have np2 : H p = none := by
        cases e : H p with
        | none => rfl
        | some u =>
          have := s2 _ _ ((upd_ne (a := a) npa).trans e)
          rw [upd_ne npa, upd_ne npd] at np
          rw [np] at this
          cases this
      obtain ⟨D4, s5⟩ := D5.frz ((eo p npa npd).trans hp) (D1.noG np2) (D1.noZ np2) nt
      exact ⟨_, s5, D4, q _ (((t3.trans t4).trans t5).trans s5) upd_same⟩
  obtain ⟨F6, t6, D6, r6⟩ := k6
  refine ⟨e3a, nd1, F6, ((t3.trans t4).trans t5).trans t6, D6, .exc (.inl ⟨dd, t6 _ _ (t5 _ _ ?_), t6 _ _ (t5 _ _ upd_same)⟩) ec (.cons r6 (.cons (r5.mono t6) .nil))⟩
  rw [upd_ne nda.symm, upd_same]
end
/-! ### the rules -/
section
variable {X : Cx} {B : Bs} {K : PySem.W.Frag} {x : Str} {C fI : Addr} {k : Nat} {fd : FuncData} {ps : List Str} {p pos : Pos} {e : Expr} {es : List Expr} {t tk : TAD} {kws : List Keyword} {f f2 : Str} {ks : List Str} {g : List Value → List Value → List Value} {gV : List V → List V → List V}
/-- X(v): fields f -/
def dMkX1 (C : Addr) (f : Str) (t : TAD) : TED := fun δ G Q => t δ G fun ds G1 => ∃ d, ds = [d] ∧ cpD d = true ∧ Q (.exc C [(f, d)]) G1
/-- X(v, v2) -/
def dMkX2 (C : Addr) (f f2 : Str) (t : TAD) : TED := fun δ G Q => t δ G fun ds G1 => ∃ d d2, ds = [d, d2] ∧ cpD d = true ∧ cpD d2 = true ∧ Q (.exc C [(f2, d2), (f, d)]) G1
/-- X(f2 = v2, f = v) -/
def dMkX2r (C : Addr) (f f2 : Str) (t : TAD) : TED := fun δ G Q => t δ G fun ds G1 => ∃ d d2, ds = [d2, d] ∧ cpD d = true ∧ cpD d2 = true ∧ Q (.exc C [(f2, d2), (f, d)]) G1
theorem mkX1_at {σ : L2.St} {H1 F F1 : Hp} {δ : SD} {G1 : Gm} {Qd : QD} {Q : VK} {y : V} {d : D} (kk : ∀ v H', Beh K B σ F δ Qd v H' → Q v H') (s1 : Same F F1) (S1 : Sit K B σ H1 F1 δ G1) (r1 : Rep K F1 y d) (hc : cpD d = true) (q : Qd (.exc C [(f, d)]) G1) (ec : ExcC K C) {E : XK} : ∀ a, H1 a = none → spE1C C f [.ref a, y] (upd H1 a (exo a C none))
      (fun v H2 => v = .non ∧ ∃ (d : Addr) (fs : List (Str × V)), H2 a = some (exo a C (some d)) ∧ H2 d = some (exd d fs) ∧ H1 d = none ∧ Q (.ref a) (upd (upd H2 a (xo a (.ref C) (some d))) d (.xd fs))) E := fun a na => by
  refine ⟨a, y, rfl, upd_same, (cp_in S1.ds.sub r1 hc).over fun b u e _ => (upd_ne (ne_of_none e na)).trans e, fun H2 z o dd nd nda => ?_⟩
  obtain ⟨F', s', D', r'⟩ := xc_end1 S1.ds na r1 hc o nd nda ec
  have nd1 : H1 dd = none := by
    cases e : H1 dd with
    | none => rfl
    | some u =>
      have := o.same _ _ ((upd_ne (a := a) nda).trans e)
      rw [nd] at this
      cases this
  exact ⟨rfl, dd, [(f, z)], upd_same, by rw [upd_ne nda, upd_same], nd1, kk _ _ ⟨F', G1, _, s1.trans s', ⟨D', S1.gr.trans s', S1.sl.mono s'⟩, r', q⟩⟩
theorem mkX2_at {σ : L2.St} {H1 F F1 : Hp} {δ : SD} {G1 : Gm} {Qd : QD} {Q : VK} {y y2 : V} {d d2 : D} (kk : ∀ v H', Beh K B σ F δ Qd v H' → Q v H') (s1 : Same F F1) (S1 : Sit K B σ H1 F1 δ G1) (r1 : Rep K F1 y d) (r2 : Rep K F1 y2 d2) (hc : cpD d = true) (hc2 : cpD d2 = true) (q : Qd (.exc C [(f2, d2), (f, d)]) G1) (ec : ExcC K C) {E : XK} :
    ∀ a, H1 a = none → spE2C C f f2 [.ref a, y, y2] (upd H1 a (exo a C none))
      (fun v H2 => v = .non ∧ ∃ (d : Addr) (fs : List (Str × V)), H2 a = some (exo a C (some d)) ∧ H2 d = some (exd d fs) ∧ H1 d = none ∧ Q (.ref a) (upd (upd H2 a (xo a (.ref C) (some d))) d (.xd fs))) E := fun a na => by
  refine ⟨a, y, y2, rfl, upd_same, (cp_in S1.ds.sub r1 hc).over fun b u e _ => (upd_ne (ne_of_none e na)).trans e, (cp_in S1.ds.sub r2 hc2).over fun b u e _ => (upd_ne (ne_of_none e na)).trans e, fun H2 z o dd nd nda H3 z2 o2 => ?_⟩
  obtain ⟨e3a, nd1, F', s', D', r'⟩ := xc_end2 S1.ds na r1 hc r2 hc2 o nd nda o2 ec
  exact ⟨rfl, dd, _, by rw [upd_ne nda.symm]; exact e3a, upd_same, nd1, kk _ _ ⟨F', G1, _, s1.trans s', ⟨D', S1.gr.trans s', S1.sl.mono s'⟩, r', q⟩⟩
theorem de_mkX1 (hK : X.K = K) (T : OexC K C) (ec : ExcC K C) (iC : PySem.W.findIn K (.ref C) "__init__" = some (some (.ref fI))) (tI : PySem.W.typeIn K (.ref fI) = some (.type "function"))
    (F1 : FnOk X.prog X.w X.K X.mg X.base CX0 k fI fd ps (spE1C C f)) (hr : Room (k + 1) X.A) (hb : Binds X.K fd ps []) (hn : ps.length = 2) (hg : Gl X x) (hm : X.mg x = some (.ref C)) (ha : DA X B (e :: es) t)
    (hdb : (x == ("__debug__" : Str)) = false := by decide) (he : starEach (e :: es) X.env = (false, eval e X.env) :: starEach es X.env := by rfl) (hpl : (backTo pos (starEach es X.env)).any (·.1) = false := by rfl) :
    DE X B (.Call (.Name x p) (e :: es) [] pos) (dMkX1 C f t) := by
  subst hK
  exact PE.weak (pe_mkX (n := 1) T iC tI F1 hr hb pass0 hg hm ha hn.symm hdb he hpl) fun σ H Q ⟨F, G, δ, Qd, S, h, kk⟩ => ⟨F, G, δ, _, S, h, fun vs H1 ⟨F1, G1, ds, s1, S1, r1, d, ed, hc, q⟩ => by
    subst ed
    obtain ⟨y, rfl, r⟩ := repAll1 r1
    exact ⟨rfl, rfl, (show 1 ≤ 1000 by decide), mkX1_at kk s1 S1 r hc q ec⟩⟩
theorem de_mkX1K (hK : X.K = K) (T : OexC K C) (ec : ExcC K C) (iC : PySem.W.findIn K (.ref C) "__init__" = some (some (.ref fI))) (tI : PySem.W.typeIn K (.ref fI) = some (.type "function"))
    (F1 : FnOk X.prog X.w X.K X.mg X.base CX0 k fI fd ps (spE1C C f)) (hr : Room (k + 1) X.A) (hb : KBn X.K fd ps 1 [f] (fun us ws => us ++ ws) (fun vs zs => vs ++ zs)) (hg : Gl X x) (hm : X.mg x = some (.ref C)) (hkw : DK X B kws tk)
    (hall : (backToKw pos (keywordEach kws X.env)).all (·.1.isSome) = true := by rfl) (hks : (backToKw pos (keywordEach kws X.env)).filterMap (·.1) = [f] := by rfl) (hdb : (x == ("__debug__" : Str)) = false := by decide)
    (hpl : ((backTo pos (starEach [] X.env)).any (·.1) || (backToKw pos (keywordEach kws X.env)).any (·.1.isNone)) = false := by rfl) :
    DE X B (.Call (.Name x p) [] kws pos) (dMkX1 C f tk) := by
  subst hK
  exact PE.weak (pe_mkXK0 T iC tI F1 hr hb pass0 hg hm hkw hall hks hdb hpl) fun σ H Q ⟨F, G, δ, Qd, S, h, kk⟩ => ⟨F, G, δ, _, S, h, fun vs H1 ⟨F1, G1, ds, s1, S1, r1, d, ed, hc, q⟩ => by
    subst ed
    obtain ⟨y, rfl, r⟩ := repAll1 r1
    exact ⟨rfl, rfl, by decide, mkX1_at kk s1 S1 r hc q ec⟩⟩
theorem rA2 {F : Hp} {vs : List V} {d d2 : D} (r : RepAll K F vs [d, d2]) : ∃ y y2, vs = [y, y2] ∧ Rep K F y d ∧ Rep K F y2 d2 := by
  cases r with
  | cons r r1 =>
    cases r1 with
    | cons r2 r3 =>
      cases r3
      exact ⟨_, _, rfl, r, r2⟩
theorem de_mkX2 (hK : X.K = K) (T : OexC K C) (ec : ExcC K C) (iC : PySem.W.findIn K (.ref C) "__init__" = some (some (.ref fI))) (tI : PySem.W.typeIn K (.ref fI) = some (.type "function"))
    (F1 : FnOk X.prog X.w X.K X.mg X.base CX0 k fI fd ps (spE2C C f f2)) (hr : Room (k + 1) X.A) (hb : Binds X.K fd ps []) (hn : ps.length = 3) (hg : Gl X x) (hm : X.mg x = some (.ref C)) (ha : DA X B (e :: es) t)
    (hdb : (x == ("__debug__" : Str)) = false := by decide) (he : starEach (e :: es) X.env = (false, eval e X.env) :: starEach es X.env := by rfl) (hpl : (backTo pos (starEach es X.env)).any (·.1) = false := by rfl) :
    DE X B (.Call (.Name x p) (e :: es) [] pos) (dMkX2 C f f2 t) := by
  subst hK
  exact PE.weak (pe_mkX (n := 2) T iC tI F1 hr hb pass0 hg hm ha hn.symm hdb he hpl) fun σ H Q ⟨F, G, δ, Qd, S, h, kk⟩ => ⟨F, G, δ, _, S, h, fun vs H1 ⟨F1, G1, ds, s1, S1, r1, d, d2, ed, hc, hc2, q⟩ => by
    subst ed
    obtain ⟨y, y2, rfl, r, r2⟩ := rA2 r1
    exact ⟨rfl, rfl, (show 2 ≤ 1000 by decide), mkX2_at kk s1 S1 r r2 hc hc2 q ec⟩⟩
/-- the keywords the other way round -/
def swapG {α : Type} (us ws : List α) : List α := us ++ ws.reverse
theorem de_mkX2r (hK : X.K = K) (T : OexC K C) (ec : ExcC K C) (iC : PySem.W.findIn K (.ref C) "__init__" = some (some (.ref fI))) (tI : PySem.W.typeIn K (.ref fI) = some (.type "function"))
    (F1 : FnOk X.prog X.w X.K X.mg X.base CX0 k fI fd ps (spE2C C f f2)) (hr : Room (k + 1) X.A) (hb : KBn X.K fd ps 1 [f2, f] swapG swapG) (hg : Gl X x) (hm : X.mg x = some (.ref C)) (hkw : DK X B kws tk)
    (hall : (backToKw pos (keywordEach kws X.env)).all (·.1.isSome) = true := by rfl) (hks : (backToKw pos (keywordEach kws X.env)).filterMap (·.1) = [f2, f] := by rfl) (hdb : (x == ("__debug__" : Str)) = false := by decide)
    (hpl : ((backTo pos (starEach [] X.env)).any (·.1) || (backToKw pos (keywordEach kws X.env)).any (·.1.isNone)) = false := by rfl) :
    DE X B (.Call (.Name x p) [] kws pos) (dMkX2r C f f2 tk) := by
  subst hK
  exact PE.weak (pe_mkXK0 T iC tI F1 hr hb pass0 hg hm hkw hall hks hdb hpl) fun σ H Q ⟨F, G, δ, Qd, S, h, kk⟩ => ⟨F, G, δ, _, S, h, fun vs H1 ⟨F1, G1, ds, s1, S1, r1, d, d2, ed, hc, hc2, q⟩ => by
    subst ed
    obtain ⟨y, y2, rfl, r, r2⟩ := rA2 r1
    exact ⟨rfl, rfl, by decide, mkX2_at kk s1 S1 r2 r hc hc2 q ec⟩⟩
/-- X() of a class without own __init__ -/
theorem de_mkX0 {bmB : List Value} {Bn newId initId : String} (hK : X.K = K) (F : ExcBaseFacts Bn newId initId bmB) (q : PySem.W.excIn K C bmB newId = true) (ec : ExcC K C) (gC : X.mg x = some (.ref C)) (kC : PySem.W.keepIn K (.ref C) = true) (hg : Gl X x) (hdb : (x == ("__debug__" : Str)) = false := by decide) :
    DE X B (.Call (.Name x p) [] [] pos) (dC (.exc C [])) := by
  subst hK
  exact PE.weak (pe_mkX0 F q gC kC hg hdb) fun σ H Q ⟨F, G, δ, Qd, S, h, kk⟩ => fun a na => kk _ _ (.new S (.refl F) na (.exc (.inr ⟨rfl, upd_same⟩) ec .nil) h)
/-- isinstance(e, T), T a builtin class -/
def dIsXT (K : PySem.W.Frag) (n : String) (te : TED) : TED := fun δ G Q => te δ G fun d G1 => match d with | .exc C fs => ∃ b, PySem.W.kitOne K (.ref C) (.type n) = some b ∧ Q (.bl b) G1 | _ => False
theorem de_isXT {c : Expr} {n : String} {te : TED} (hK : X.K = K) (hg : Gl X "isinstance") (hm : X.mg "isinstance" = none) (hv : bootBuiltins "isinstance" = some (.builtin "isinstance")) (ha : DE X B e te) (hc : PE X c (tC (.ty n)))
    (h1 : starEach [e, c] X.env = (false, eval e X.env) :: starEach [c] X.env := by rfl) (h2 : starEach [c] X.env = (false, eval c X.env) :: starEach [] X.env := by rfl) (hpl : (backTo pos (starEach [c] X.env)).any (·.1) = false := by rfl) :
    DE X B (.Call (.Name "isinstance" p) [e, c] [] pos) (dIsXT K n te) := by
  subst hK
  exact PE.weak (pe_callB call_isX hg hm hv (pa_cons ha (pa_cons hc pa_nil h2) h1) (he := h1) (hpl := hpl)) fun σ H Q ⟨F, G, δ, Qd, S, h, k⟩ => ⟨F, G, δ, _, S, h, fun v H1 ⟨F1, G1, d, s1, S1, r1, h1⟩ => by
    cases d with
    | exc A fs =>
      obtain ⟨b, kt, h1⟩ := h1
      cases r1 with
      | exc hx g rf => exact ⟨_, A, _, .ty n, _, b, rfl, .ty n, g, hx.same S1.ds.sub, kt, k _ _ ⟨F1, G1, _, s1, S1, .bl b, h1⟩⟩
    | _ => exact h1.elim⟩
def tyNs (ns : List String) : TA := fun _ H Q => Q (ns.map V.ty) H
theorem pa_tyn_nil : PA X [] (tyNs []) := pa_nil
theorem pa_tyn_cons {c : Expr} {n : String} {ns : List String} (hc : PE X c (tC (.ty n))) (hr : PA X es (tyNs ns)) (h1 : starEach (c :: es) X.env = (false, eval c X.env) :: starEach es X.env := by rfl) : PA X (c :: es) (tyNs (n :: ns)) := pa_cons hc hr h1
/-- isinstance(e, (T1, T2)) -/
def dIsXTs (K : PySem.W.Frag) (ns : List String) (te : TED) : TED := fun δ G Q => te δ G fun d G1 => match d with | .exc C fs => ∃ b, PySem.W.kitAny K (.ref C) (ns.map Value.type) = some b ∧ Q (.bl b) G1 | _ => False
theorem de_isXTs {x1} {tp : Pos} {ns : List String} {te : TED} (hK : X.K = K) (hg : Gl X "isinstance") (hm : X.mg "isinstance" = none) (hv : bootBuiltins "isinstance" = some (.builtin "isinstance")) (ha : DE X B e te) (hc : PA X es (tyNs ns)) (hl : ns.length ≤ sizeLine)
    (h1 : starEach [e, .Tuple es x1 tp] X.env = (false, eval e X.env) :: starEach [.Tuple es x1 tp] X.env := by rfl) (h2 : starEach [.Tuple es x1 tp] X.env = (false, eval (.Tuple es x1 tp) X.env) :: starEach [] X.env := by rfl) (hpl : (backTo pos (starEach [.Tuple es x1 tp] X.env)).any (·.1) = false := by rfl) :
    DE X B (.Call (.Name "isinstance" p) [e, .Tuple es x1 tp] [] pos) (dIsXTs K ns te) := by
  subst hK
  exact PE.weak (pe_callB call_isXs hg hm hv (pa_cons ha (pa_cons (pe_tup hc) pa_nil h2) h1) (he := h1) (hpl := hpl)) fun σ H Q ⟨F, G, δ, Qd, S, h, k⟩ => ⟨F, G, δ, _, S, h, fun v H1 ⟨F1, G1, d, s1, S1, r1, h1⟩ => by
    refine ⟨by rw [List.length_map]; exact hl, fun tp ntp => ?_⟩
    have s2 := same_new (o := .tup (ns.map V.ty)) ntp
    have S2 := S1.same s2
    cases d with
    | exc A fs =>
      obtain ⟨b, kt, h1⟩ := h1
      cases r1 with
      | exc hx g rf => exact ⟨_, A, tp, _, ns, b, rfl, upd_same, g, hx.same S2.ds.sub, kt, k _ _ ⟨F1, G1, _, s1, S2, .bl b, h1⟩⟩
    | _ => exact h1.elim⟩
/-- {'k': i} -/
theorem de_dict1 {y : Str} {i : Int} {j1 j2} {p1 p2 : Pos} : DE X B (.Dict [some (.Constant (.str y) j1 p1)] [.Constant (.int i) j2 p2] pos) (dC (.dic [(.str y, .int i)])) :=
  PE.weak (pe_disp (pps_cons pe_str pe_int pps_nil) rfl rfl (by simp) (show 1 ≤ 15 by decide)) fun σ H Q ⟨F, G, δ, Qd, S, h, kk⟩ => fun p n => by
    refine ⟨upd_same, [(.inr y, .int i)], rfl, (show 1 ≤ 15 by decide), ?_⟩
    rw [upd_upd]
    exact kk _ _ (.new S (.refl F) n (.dk (.of upd_same) (.cons (k := .inr y) (.int i) .nil)) h)
end
/-! ### repr -/
/-- what is shown as p -/
inductive ShD : D → PyData → Prop
  | plain {d : D} : isP d = true → (toP d).hasDict = false → ShD d (toP d)
  | dic {kvs : List (D × D)} : (∀ q ∈ kvs, flatD q.2 = true) → ShD (.dic kvs) (.dict (kvs.map fun q => (toP q.1, toP q.2)))
inductive ShDs : List D → List PyData → Prop
  | nil : ShDs [] []
  | cons {d : D} {p : PyData} {ds : List D} {ps : List PyData} : ShD d p → ShDs ds ps → ShDs (d :: ds) (p :: ps)
inductive ReprX (ds : List D) (G : Gm) (Q : QD) : Prop
  | mk (d : D) (p : PyData) (e : ds = [d]) (h : ShD d p ∨ ∃ es qs, d = .lst es ∧ p = .list qs ∧ ShDs es qs) (s : p.showable = true) (k : p.depth ≤ 60) (l : p.shown.length ≤ sizeLine) (q : Q (.str p.shown) G) : ReprX ds G Q
section
variable {K : PySem.W.Frag} {F H : Hp}
theorem flat_P {v : V} {d : D} (r : Rep K F v d) (h : flatD d = true) : vP v = toP d := by
  cases d with
  | non => cases r; simp only [vP, toP]
  | bl b => cases r; simp only [vP, toP]
  | int b => cases r; simp only [vP, toP]
  | str b => cases r; simp only [vP, toP]
  | _ => cases h
theorem kvs_P : ∀ {vs : List (Key × V)} {ds : List (D × D)}, RepK K F vs ds → (∀ q ∈ ds, flatD q.2 = true) → (∀ p ∈ vs, flatV p.2 = true) ∧ (vs.map fun p => (kP p.1, vP p.2)) = ds.map fun q => (toP q.1, toP q.2)
  | _, _, .nil, _ => ⟨fun p hp => (by cases hp), rfl⟩
  | _, _, .cons (k := k) r rs, h => by
    obtain ⟨a, b⟩ := kvs_P rs fun q hq => h q (List.mem_cons_of_mem _ hq)
    have hf := h _ List.mem_cons_self
    refine ⟨fun p hp => ?_, ?_⟩
    · rcases List.mem_cons.mp hp with rfl | hp
      · exact flatD_V r hf
      · exact a p hp
    · rw [List.map_cons, List.map_cons, b, flat_P r hf]
      cases k <;> simp only [kP, kD, toP]
theorem shD_V {v : V} {d : D} {p : PyData} (s : Same F H) (r : Rep K F v d) (h : ShD d p) : Sho K H v p := by
  cases h with
  | plain h n => exact .plain ((dp_toP h).rep s r) n
  | dic h =>
    cases r with
    | dk e rk =>
      obtain ⟨a, b⟩ := kvs_P rk h
      rw [← b]
      exact .dic (Rd.same s e) a
theorem shDs_V {vs : List V} {ds : List D} {ps : List PyData} (s : Same F H) (r : RepAll K F vs ds) (h : ShDs ds ps) : ShoAll K H vs ps := by
  induction h generalizing vs with
  | nil => cases r; exact .nil
  | cons h _ ih =>
    cases r with
    | cons r rs => exact .cons (shD_V s r h) (ih rs)
theorem reprX_A : CallA K (rReprX K) ReprX := fun B σ δ H F G xs ds Qd Q S r ⟨d, p, e, h, h1, h2, h3, q⟩ k => by
  subst e
  obtain ⟨v, rfl, rv⟩ := repAll1 r
  refine ⟨v, p, rfl, ?_, h1, h2, h3, k _ _ (.val S (.str _) q)⟩
  rcases h with h | ⟨es, qs, rfl, rfl, h⟩
  · exact .inl (shD_V S.ds.sub rv h)
  · cases rv with
    | lst e ra => exact .inr ⟨_, _, qs, rfl, S.ds.sub _ _ e, shDs_V S.ds.sub ra h, rfl⟩
end
theorem swapG_rel {vs : List V} {us : List Value} {zs : List V} {ws : List Value} (r : Vals vs us) (q : Vals zs ws) : Vals (swapG vs zs) (swapG us ws) := r.append (vals_rev q)
end JP

namespace JP
open PySem PySem.Spec PyProof.Rows L2
def topS (i : Nat) : Stmt := PySem.Challenge.pw_rowcounts_k01_errors_and_their_fields.main.body.getD i (.Pass ⟨0, 0, 0, 0⟩)
abbrev sown_copy : Stmt := topS 1
abbrev Nown_copy : List Str := ["value", "item", "key"]
theorem scown_copy : FnScope Nown_copy ["value"] (defScope sown_copy) := ⟨rfl, rfl, rfl, by decide +kernel, rfl, by decide +kernel, by decide +kernel⟩
abbrev s_law_pen : Stmt := topS 35
abbrev N_law_pen : List Str := ["_law_script"]
theorem sc_law_pen : FnScope N_law_pen ["_law_script"] (defScope s_law_pen) := ⟨rfl, rfl, rfl, by decide +kernel, rfl, by decide +kernel, by decide +kernel⟩
abbrev s_law_draw : Stmt := topS 36
abbrev N_law_draw : List Str := ["_law_pen_here", "_law_many", "_law_digit", "_law_at", "_law_cell", "_law_great", "_law_mixed"]
theorem sc_law_draw : FnScope N_law_draw ["_law_pen_here", "_law_many"] (defScope s_law_draw) := ⟨rfl, rfl, rfl, by decide +kernel, rfl, by decide +kernel, by decide +kernel⟩
abbrev s_law_pick : Stmt := topS 37
abbrev N_law_pick : List Str := ["_law_pen_here", "_law_some"]
theorem sc_law_pick : FnScope N_law_pick ["_law_pen_here", "_law_some"] (defScope s_law_pick) := ⟨rfl, rfl, rfl, by decide +kernel, rfl, by decide +kernel, by decide +kernel⟩
abbrev s_law_value : Stmt := topS 38
abbrev N_law_value : List Str := ["_law_pen_here"]
theorem sc_law_value : FnScope N_law_value ["_law_pen_here"] (defScope s_law_value) := ⟨rfl, rfl, rfl, by decide +kernel, rfl, by decide +kernel, by decide +kernel⟩
abbrev s_law_single : Stmt := topS 39
abbrev N_law_single : List Str := ["_law_pen_here", "_law_mine", "_law_found"]
theorem sc_law_single : FnScope N_law_single ["_law_pen_here", "_law_mine"] (defScope s_law_single) := ⟨rfl, rfl, rfl, by decide +kernel, rfl, by decide +kernel, by decide +kernel⟩
abbrev s_law_groups : Stmt := topS 40
abbrev N_law_groups : List Str := ["_law_error", "_law_groups_here", "_law_at"]
theorem sc_law_groups : FnScope N_law_groups ["_law_error"] (defScope s_law_groups) := ⟨rfl, rfl, rfl, by decide +kernel, rfl, by decide +kernel, by decide +kernel⟩
abbrev s_law_kinds : Stmt := topS 41
abbrev N_law_kinds : List Str := ["_law_error", "_law_found", "_law_truth"]
theorem sc_law_kinds : FnScope N_law_kinds ["_law_error"] (defScope s_law_kinds) := ⟨rfl, rfl, rfl, by decide +kernel, rfl, by decide +kernel, by decide +kernel⟩
abbrev s_law_fields_right : Stmt := topS 42
abbrev N_law_fields_right : List Str := ["_law_pen_here", "_law_mine", "_law_more", "_law_error", "_law_kept", "_law_group", "_law_two", "_law_many"]
theorem sc_law_fields_right : FnScope N_law_fields_right ["_law_pen_here"] (defScope s_law_fields_right) := ⟨rfl, rfl, rfl, by decide +kernel, rfl, by decide +kernel, by decide +kernel⟩
abbrev slaw : Stmt := topS 43
abbrev Nlaw : List Str := ["_law_script", "_law_pen_here", "_law_lap"]
theorem sclaw : FnScope Nlaw ["_law_script"] (defScope slaw) := ⟨rfl, rfl, rfl, by decide +kernel, rfl, by decide +kernel, by decide +kernel⟩
abbrev sBadBag___init__ : Stmt := inClass (topS 7) 0
abbrev NBadBag___init__ : List Str := ["self", "part"]
theorem scBadBag___init__ : FnScope NBadBag___init__ ["self", "part"] (defScope sBadBag___init__) := ⟨rfl, rfl, rfl, by decide +kernel, rfl, by decide +kernel, by decide +kernel⟩
abbrev sBadBase___init__ : Stmt := inClass (topS 8) 0
abbrev NBadBase___init__ : List Str := ["self", "part"]
theorem scBadBase___init__ : FnScope NBadBase___init__ ["self", "part"] (defScope sBadBase___init__) := ⟨rfl, rfl, rfl, by decide +kernel, rfl, by decide +kernel, by decide +kernel⟩
abbrev sBadBook___init__ : Stmt := inClass (topS 9) 0
abbrev NBadBook___init__ : List Str := ["self", "at"]
theorem scBadBook___init__ : FnScope NBadBook___init__ ["self", "at"] (defScope sBadBook___init__) := ⟨rfl, rfl, rfl, by decide +kernel, rfl, by decide +kernel, by decide +kernel⟩
abbrev sBadBounds___init__ : Stmt := inClass (topS 10) 0
abbrev NBadBounds___init__ : List Str := ["self", "at"]
theorem scBadBounds___init__ : FnScope NBadBounds___init__ ["self", "at"] (defScope sBadBounds___init__) := ⟨rfl, rfl, rfl, by decide +kernel, rfl, by decide +kernel, by decide +kernel⟩
abbrev sBadCounts___init__ : Stmt := inClass (topS 11) 0
abbrev NBadCounts___init__ : List Str := ["self", "part"]
theorem scBadCounts___init__ : FnScope NBadCounts___init__ ["self", "part"] (defScope sBadCounts___init__) := ⟨rfl, rfl, rfl, by decide +kernel, rfl, by decide +kernel, by decide +kernel⟩
abbrev sBadForm___init__ : Stmt := inClass (topS 12) 0
abbrev NBadForm___init__ : List Str := ["self", "part"]
theorem scBadForm___init__ : FnScope NBadForm___init__ ["self", "part"] (defScope sBadForm___init__) := ⟨rfl, rfl, rfl, by decide +kernel, rfl, by decide +kernel, by decide +kernel⟩
abbrev sBadLine___init__ : Stmt := inClass (topS 13) 0
abbrev NBadLine___init__ : List Str := ["self", "word"]
theorem scBadLine___init__ : FnScope NBadLine___init__ ["self", "word"] (defScope sBadLine___init__) := ⟨rfl, rfl, rfl, by decide +kernel, rfl, by decide +kernel, by decide +kernel⟩
abbrev sBadName___init__ : Stmt := inClass (topS 14) 0
abbrev NBadName___init__ : List Str := ["self", "value"]
theorem scBadName___init__ : FnScope NBadName___init__ ["self", "value"] (defScope sBadName___init__) := ⟨rfl, rfl, rfl, by decide +kernel, rfl, by decide +kernel, by decide +kernel⟩
abbrev sBadNumber___init__ : Stmt := inClass (topS 15) 0
abbrev NBadNumber___init__ : List Str := ["self", "value"]
theorem scBadNumber___init__ : FnScope NBadNumber___init__ ["self", "value"] (defScope sBadNumber___init__) := ⟨rfl, rfl, rfl, by decide +kernel, rfl, by decide +kernel, by decide +kernel⟩
abbrev sBadPlan___init__ : Stmt := inClass (topS 16) 0
abbrev NBadPlan___init__ : List Str := ["self", "part"]
theorem scBadPlan___init__ : FnScope NBadPlan___init__ ["self", "part"] (defScope sBadPlan___init__) := ⟨rfl, rfl, rfl, by decide +kernel, rfl, by decide +kernel, by decide +kernel⟩
abbrev sBadQuestion___init__ : Stmt := inClass (topS 17) 0
abbrev NBadQuestion___init__ : List Str := ["self", "part"]
theorem scBadQuestion___init__ : FnScope NBadQuestion___init__ ["self", "part"] (defScope sBadQuestion___init__) := ⟨rfl, rfl, rfl, by decide +kernel, rfl, by decide +kernel, by decide +kernel⟩
abbrev sBadRewrite___init__ : Stmt := inClass (topS 18) 0
abbrev NBadRewrite___init__ : List Str := ["self", "part"]
theorem scBadRewrite___init__ : FnScope NBadRewrite___init__ ["self", "part"] (defScope sBadRewrite___init__) := ⟨rfl, rfl, rfl, by decide +kernel, rfl, by decide +kernel, by decide +kernel⟩
abbrev sBadRow___init__ : Stmt := inClass (topS 19) 0
abbrev NBadRow___init__ : List Str := ["self", "part"]
theorem scBadRow___init__ : FnScope NBadRow___init__ ["self", "part"] (defScope sBadRow___init__) := ⟨rfl, rfl, rfl, by decide +kernel, rfl, by decide +kernel, by decide +kernel⟩
abbrev sBadRule___init__ : Stmt := inClass (topS 20) 0
abbrev NBadRule___init__ : List Str := ["self", "part"]
theorem scBadRule___init__ : FnScope NBadRule___init__ ["self", "part"] (defScope sBadRule___init__) := ⟨rfl, rfl, rfl, by decide +kernel, rfl, by decide +kernel, by decide +kernel⟩
abbrev sBadStore___init__ : Stmt := inClass (topS 21) 0
abbrev NBadStore___init__ : List Str := ["self", "part"]
theorem scBadStore___init__ : FnScope NBadStore___init__ ["self", "part"] (defScope sBadStore___init__) := ⟨rfl, rfl, rfl, by decide +kernel, rfl, by decide +kernel, by decide +kernel⟩
abbrev sBadTest___init__ : Stmt := inClass (topS 22) 0
abbrev NBadTest___init__ : List Str := ["self", "part"]
theorem scBadTest___init__ : FnScope NBadTest___init__ ["self", "part"] (defScope sBadTest___init__) := ⟨rfl, rfl, rfl, by decide +kernel, rfl, by decide +kernel, by decide +kernel⟩
abbrev sBadText___init__ : Stmt := inClass (topS 23) 0
abbrev NBadText___init__ : List Str := ["self", "line", "word"]
theorem scBadText___init__ : FnScope NBadText___init__ ["self", "line", "word"] (defScope sBadText___init__) := ⟨rfl, rfl, rfl, by decide +kernel, rfl, by decide +kernel, by decide +kernel⟩
abbrev sBreaks___init__ : Stmt := inClass (topS 24) 0
abbrev NBreaks___init__ : List Str := ["self", "rule"]
theorem scBreaks___init__ : FnScope NBreaks___init__ ["self", "rule"] (defScope sBreaks___init__) := ⟨rfl, rfl, rfl, by decide +kernel, rfl, by decide +kernel, by decide +kernel⟩
abbrev sNoColumn___init__ : Stmt := inClass (topS 25) 0
abbrev NNoColumn___init__ : List Str := ["self", "name"]
theorem scNoColumn___init__ : FnScope NNoColumn___init__ ["self", "name"] (defScope sNoColumn___init__) := ⟨rfl, rfl, rfl, by decide +kernel, rfl, by decide +kernel, by decide +kernel⟩
abbrev sNoFit___init__ : Stmt := inClass (topS 26) 0
abbrev NNoFit___init__ : List Str := ["self", "place"]
theorem scNoFit___init__ : FnScope NNoFit___init__ ["self", "place"] (defScope sNoFit___init__) := ⟨rfl, rfl, rfl, by decide +kernel, rfl, by decide +kernel, by decide +kernel⟩
abbrev sNoPlace___init__ : Stmt := inClass (topS 27) 0
abbrev NNoPlace___init__ : List Str := ["self", "place"]
theorem scNoPlace___init__ : FnScope NNoPlace___init__ ["self", "place"] (defScope sNoPlace___init__) := ⟨rfl, rfl, rfl, by decide +kernel, rfl, by decide +kernel, by decide +kernel⟩
abbrev sNoRow___init__ : Stmt := inClass (topS 28) 0
abbrev NNoRow___init__ : List Str := ["self", "row"]
theorem scNoRow___init__ : FnScope NNoRow___init__ ["self", "row"] (defScope sNoRow___init__) := ⟨rfl, rfl, rfl, by decide +kernel, rfl, by decide +kernel, by decide +kernel⟩
abbrev sNoTable___init__ : Stmt := inClass (topS 29) 0
abbrev NNoTable___init__ : List Str := ["self", "name"]
theorem scNoTable___init__ : FnScope NNoTable___init__ ["self", "name"] (defScope sNoTable___init__) := ⟨rfl, rfl, rfl, by decide +kernel, rfl, by decide +kernel, by decide +kernel⟩
abbrev sTooMany___init__ : Stmt := inClass (topS 30) 0
abbrev NTooMany___init__ : List Str := ["self", "what", "most"]
theorem scTooMany___init__ : FnScope NTooMany___init__ ["self", "what", "most"] (defScope sTooMany___init__) := ⟨rfl, rfl, rfl, by decide +kernel, rfl, by decide +kernel, by decide +kernel⟩
abbrev sUnlike___init__ : Stmt := inClass (topS 31) 0
abbrev NUnlike___init__ : List Str := ["self", "paper"]
theorem scUnlike___init__ : FnScope NUnlike___init__ ["self", "paper"] (defScope sUnlike___init__) := ⟨rfl, rfl, rfl, by decide +kernel, rfl, by decide +kernel, by decide +kernel⟩
abbrev sAtRow___init__ : Stmt := inClass (topS 33) 0
abbrev NAtRow___init__ : List Str := ["self", "row"]
theorem scAtRow___init__ : FnScope NAtRow___init__ ["self", "row"] (defScope sAtRow___init__) := ⟨rfl, rfl, rfl, by decide +kernel, rfl, by decide +kernel, by decide +kernel⟩
structure Top (K : PySem.W.Frag) (mg : Str → Option Value) where
  a_own_copy : Addr
  d_own_copy : FuncData
  F_own_copy : Fun K "own_copy" "own_copy" sown_copy a_own_copy d_own_copy
  b_own_copy : Binds K d_own_copy ["value"] []
  g_own_copy : mg "own_copy" = some (.ref a_own_copy)
  a__law_pen : Addr
  d__law_pen : FuncData
  F__law_pen : Fun K "_law_pen" "_law_pen" s_law_pen a__law_pen d__law_pen
  b__law_pen : Binds K d__law_pen ["_law_script"] []
  g__law_pen : mg "_law_pen" = some (.ref a__law_pen)
  a__law_draw : Addr
  d__law_draw : FuncData
  F__law_draw : Fun K "_law_draw" "_law_draw" s_law_draw a__law_draw d__law_draw
  b__law_draw : Binds K d__law_draw ["_law_pen_here", "_law_many"] []
  g__law_draw : mg "_law_draw" = some (.ref a__law_draw)
  a__law_pick : Addr
  d__law_pick : FuncData
  F__law_pick : Fun K "_law_pick" "_law_pick" s_law_pick a__law_pick d__law_pick
  b__law_pick : Binds K d__law_pick ["_law_pen_here", "_law_some"] []
  g__law_pick : mg "_law_pick" = some (.ref a__law_pick)
  a__law_value : Addr
  d__law_value : FuncData
  F__law_value : Fun K "_law_value" "_law_value" s_law_value a__law_value d__law_value
  b__law_value : Binds K d__law_value ["_law_pen_here"] []
  g__law_value : mg "_law_value" = some (.ref a__law_value)
  a__law_single : Addr
  d__law_single : FuncData
  F__law_single : Fun K "_law_single" "_law_single" s_law_single a__law_single d__law_single
  b__law_single : Binds K d__law_single ["_law_pen_here", "_law_mine"] []
  g__law_single : mg "_law_single" = some (.ref a__law_single)
  a__law_groups : Addr
  d__law_groups : FuncData
  F__law_groups : Fun K "_law_groups" "_law_groups" s_law_groups a__law_groups d__law_groups
  b__law_groups : Binds K d__law_groups ["_law_error"] []
  g__law_groups : mg "_law_groups" = some (.ref a__law_groups)
  a__law_kinds : Addr
  d__law_kinds : FuncData
  F__law_kinds : Fun K "_law_kinds" "_law_kinds" s_law_kinds a__law_kinds d__law_kinds
  b__law_kinds : Binds K d__law_kinds ["_law_error"] []
  g__law_kinds : mg "_law_kinds" = some (.ref a__law_kinds)
  a__law_fields_right : Addr
  d__law_fields_right : FuncData
  F__law_fields_right : Fun K "_law_fields_right" "_law_fields_right" s_law_fields_right a__law_fields_right d__law_fields_right
  b__law_fields_right : Binds K d__law_fields_right ["_law_pen_here"] []
  g__law_fields_right : mg "_law_fields_right" = some (.ref a__law_fields_right)
  a_law : Addr
  d_law : FuncData
  F_law : Fun K "law" "law" slaw a_law d_law
  b_law : Binds K d_law ["_law_script"] []
  g_law : mg "law" = some (.ref a_law)
  a_BadBag___init__ : Addr
  d_BadBag___init__ : FuncData
  F_BadBag___init__ : Fun K "__init__" "BadBag.__init__" sBadBag___init__ a_BadBag___init__ d_BadBag___init__
  b_BadBag___init__ : Binds K d_BadBag___init__ ["self", "part"] []
  a_BadBase___init__ : Addr
  d_BadBase___init__ : FuncData
  F_BadBase___init__ : Fun K "__init__" "BadBase.__init__" sBadBase___init__ a_BadBase___init__ d_BadBase___init__
  b_BadBase___init__ : Binds K d_BadBase___init__ ["self", "part"] []
  a_BadBook___init__ : Addr
  d_BadBook___init__ : FuncData
  F_BadBook___init__ : Fun K "__init__" "BadBook.__init__" sBadBook___init__ a_BadBook___init__ d_BadBook___init__
  b_BadBook___init__ : Binds K d_BadBook___init__ ["self", "at"] []
  a_BadBounds___init__ : Addr
  d_BadBounds___init__ : FuncData
  F_BadBounds___init__ : Fun K "__init__" "BadBounds.__init__" sBadBounds___init__ a_BadBounds___init__ d_BadBounds___init__
  b_BadBounds___init__ : Binds K d_BadBounds___init__ ["self", "at"] []
  a_BadCounts___init__ : Addr
  d_BadCounts___init__ : FuncData
  F_BadCounts___init__ : Fun K "__init__" "BadCounts.__init__" sBadCounts___init__ a_BadCounts___init__ d_BadCounts___init__
  b_BadCounts___init__ : Binds K d_BadCounts___init__ ["self", "part"] []
  a_BadForm___init__ : Addr
  d_BadForm___init__ : FuncData
  F_BadForm___init__ : Fun K "__init__" "BadForm.__init__" sBadForm___init__ a_BadForm___init__ d_BadForm___init__
  b_BadForm___init__ : Binds K d_BadForm___init__ ["self", "part"] []
  a_BadLine___init__ : Addr
  d_BadLine___init__ : FuncData
  F_BadLine___init__ : Fun K "__init__" "BadLine.__init__" sBadLine___init__ a_BadLine___init__ d_BadLine___init__
  b_BadLine___init__ : Binds K d_BadLine___init__ ["self", "word"] []
  a_BadName___init__ : Addr
  d_BadName___init__ : FuncData
  F_BadName___init__ : Fun K "__init__" "BadName.__init__" sBadName___init__ a_BadName___init__ d_BadName___init__
  b_BadName___init__ : Binds K d_BadName___init__ ["self", "value"] []
  a_BadNumber___init__ : Addr
  d_BadNumber___init__ : FuncData
  F_BadNumber___init__ : Fun K "__init__" "BadNumber.__init__" sBadNumber___init__ a_BadNumber___init__ d_BadNumber___init__
  b_BadNumber___init__ : Binds K d_BadNumber___init__ ["self", "value"] []
  a_BadPlan___init__ : Addr
  d_BadPlan___init__ : FuncData
  F_BadPlan___init__ : Fun K "__init__" "BadPlan.__init__" sBadPlan___init__ a_BadPlan___init__ d_BadPlan___init__
  b_BadPlan___init__ : Binds K d_BadPlan___init__ ["self", "part"] []
  a_BadQuestion___init__ : Addr
  d_BadQuestion___init__ : FuncData
  F_BadQuestion___init__ : Fun K "__init__" "BadQuestion.__init__" sBadQuestion___init__ a_BadQuestion___init__ d_BadQuestion___init__
  b_BadQuestion___init__ : Binds K d_BadQuestion___init__ ["self", "part"] []
  a_BadRewrite___init__ : Addr
  d_BadRewrite___init__ : FuncData
  F_BadRewrite___init__ : Fun K "__init__" "BadRewrite.__init__" sBadRewrite___init__ a_BadRewrite___init__ d_BadRewrite___init__
  b_BadRewrite___init__ : Binds K d_BadRewrite___init__ ["self", "part"] []
  a_BadRow___init__ : Addr
  d_BadRow___init__ : FuncData
  F_BadRow___init__ : Fun K "__init__" "BadRow.__init__" sBadRow___init__ a_BadRow___init__ d_BadRow___init__
  b_BadRow___init__ : Binds K d_BadRow___init__ ["self", "part"] []
  a_BadRule___init__ : Addr
  d_BadRule___init__ : FuncData
  F_BadRule___init__ : Fun K "__init__" "BadRule.__init__" sBadRule___init__ a_BadRule___init__ d_BadRule___init__
  b_BadRule___init__ : Binds K d_BadRule___init__ ["self", "part"] []
  a_BadStore___init__ : Addr
  d_BadStore___init__ : FuncData
  F_BadStore___init__ : Fun K "__init__" "BadStore.__init__" sBadStore___init__ a_BadStore___init__ d_BadStore___init__
  b_BadStore___init__ : Binds K d_BadStore___init__ ["self", "part"] []
  a_BadTest___init__ : Addr
  d_BadTest___init__ : FuncData
  F_BadTest___init__ : Fun K "__init__" "BadTest.__init__" sBadTest___init__ a_BadTest___init__ d_BadTest___init__
  b_BadTest___init__ : Binds K d_BadTest___init__ ["self", "part"] []
  a_BadText___init__ : Addr
  d_BadText___init__ : FuncData
  F_BadText___init__ : Fun K "__init__" "BadText.__init__" sBadText___init__ a_BadText___init__ d_BadText___init__
  b_BadText___init__ : Binds K d_BadText___init__ ["self", "line", "word"] []
  a_Breaks___init__ : Addr
  d_Breaks___init__ : FuncData
  F_Breaks___init__ : Fun K "__init__" "Breaks.__init__" sBreaks___init__ a_Breaks___init__ d_Breaks___init__
  b_Breaks___init__ : Binds K d_Breaks___init__ ["self", "rule"] []
  a_NoColumn___init__ : Addr
  d_NoColumn___init__ : FuncData
  F_NoColumn___init__ : Fun K "__init__" "NoColumn.__init__" sNoColumn___init__ a_NoColumn___init__ d_NoColumn___init__
  b_NoColumn___init__ : Binds K d_NoColumn___init__ ["self", "name"] []
  a_NoFit___init__ : Addr
  d_NoFit___init__ : FuncData
  F_NoFit___init__ : Fun K "__init__" "NoFit.__init__" sNoFit___init__ a_NoFit___init__ d_NoFit___init__
  b_NoFit___init__ : Binds K d_NoFit___init__ ["self", "place"] []
  a_NoPlace___init__ : Addr
  d_NoPlace___init__ : FuncData
  F_NoPlace___init__ : Fun K "__init__" "NoPlace.__init__" sNoPlace___init__ a_NoPlace___init__ d_NoPlace___init__
  b_NoPlace___init__ : Binds K d_NoPlace___init__ ["self", "place"] []
  a_NoRow___init__ : Addr
  d_NoRow___init__ : FuncData
  F_NoRow___init__ : Fun K "__init__" "NoRow.__init__" sNoRow___init__ a_NoRow___init__ d_NoRow___init__
  b_NoRow___init__ : Binds K d_NoRow___init__ ["self", "row"] []
  a_NoTable___init__ : Addr
  d_NoTable___init__ : FuncData
  F_NoTable___init__ : Fun K "__init__" "NoTable.__init__" sNoTable___init__ a_NoTable___init__ d_NoTable___init__
  b_NoTable___init__ : Binds K d_NoTable___init__ ["self", "name"] []
  a_TooMany___init__ : Addr
  d_TooMany___init__ : FuncData
  F_TooMany___init__ : Fun K "__init__" "TooMany.__init__" sTooMany___init__ a_TooMany___init__ d_TooMany___init__
  b_TooMany___init__ : Binds K d_TooMany___init__ ["self", "what", "most"] []
  a_Unlike___init__ : Addr
  d_Unlike___init__ : FuncData
  F_Unlike___init__ : Fun K "__init__" "Unlike.__init__" sUnlike___init__ a_Unlike___init__ d_Unlike___init__
  b_Unlike___init__ : Binds K d_Unlike___init__ ["self", "paper"] []
  a_AtRow___init__ : Addr
  d_AtRow___init__ : FuncData
  F_AtRow___init__ : Fun K "__init__" "AtRow.__init__" sAtRow___init__ a_AtRow___init__ d_AtRow___init__
  b_AtRow___init__ : Binds K d_AtRow___init__ ["self", "row"] []
  sg : PySem.W.specialIn K (.builtin "object.__class__") "__get__" = some (some (.builtin "getset_descriptor.__get__"))
  tk : PySem.W.takesIn K (.builtin "object.__class__") = some true
  C_CountError : Addr
  g_CountError : mg "CountError" = some (.ref C_CountError)
  C_BadInput : Addr
  g_BadInput : mg "BadInput" = some (.ref C_BadInput)
  C_Refused : Addr
  g_Refused : mg "Refused" = some (.ref C_Refused)
  C_NoAnswer : Addr
  g_NoAnswer : mg "NoAnswer" = some (.ref C_NoAnswer)
  C_NoDeed : Addr
  g_NoDeed : mg "NoDeed" = some (.ref C_NoDeed)
  C_BadBag : Addr
  g_BadBag : mg "BadBag" = some (.ref C_BadBag)
  ox_BadBag : OexC K C_BadBag
  ic_BadBag : PySem.W.findIn K (.ref C_BadBag) "__init__" = some (some (.ref a_BadBag___init__))
  ti_BadBag : PySem.W.typeIn K (.ref a_BadBag___init__) = some (.type "function")
  no_BadBag_part : PySem.W.findIn K (.ref C_BadBag) "part" = some none
  xf_BadBag : XfC K C_BadBag
  ki_BadBag : PySem.W.kitOne K (.ref C_BadBag) (.ref C_BadBag) = some true
  ex_BadBag : ExcC K C_BadBag
  C_BadBase : Addr
  g_BadBase : mg "BadBase" = some (.ref C_BadBase)
  ox_BadBase : OexC K C_BadBase
  ic_BadBase : PySem.W.findIn K (.ref C_BadBase) "__init__" = some (some (.ref a_BadBase___init__))
  ti_BadBase : PySem.W.typeIn K (.ref a_BadBase___init__) = some (.type "function")
  no_BadBase_part : PySem.W.findIn K (.ref C_BadBase) "part" = some none
  xf_BadBase : XfC K C_BadBase
  ki_BadBase : PySem.W.kitOne K (.ref C_BadBase) (.ref C_BadBase) = some true
  ex_BadBase : ExcC K C_BadBase
  C_BadBook : Addr
  g_BadBook : mg "BadBook" = some (.ref C_BadBook)
  ox_BadBook : OexC K C_BadBook
  ic_BadBook : PySem.W.findIn K (.ref C_BadBook) "__init__" = some (some (.ref a_BadBook___init__))
  ti_BadBook : PySem.W.typeIn K (.ref a_BadBook___init__) = some (.type "function")
  no_BadBook_at : PySem.W.findIn K (.ref C_BadBook) "at" = some none
  xf_BadBook : XfC K C_BadBook
  ki_BadBook : PySem.W.kitOne K (.ref C_BadBook) (.ref C_BadBook) = some true
  ex_BadBook : ExcC K C_BadBook
  C_BadBounds : Addr
  g_BadBounds : mg "BadBounds" = some (.ref C_BadBounds)
  ox_BadBounds : OexC K C_BadBounds
  ic_BadBounds : PySem.W.findIn K (.ref C_BadBounds) "__init__" = some (some (.ref a_BadBounds___init__))
  ti_BadBounds : PySem.W.typeIn K (.ref a_BadBounds___init__) = some (.type "function")
  no_BadBounds_at : PySem.W.findIn K (.ref C_BadBounds) "at" = some none
  xf_BadBounds : XfC K C_BadBounds
  ki_BadBounds : PySem.W.kitOne K (.ref C_BadBounds) (.ref C_BadBounds) = some true
  ex_BadBounds : ExcC K C_BadBounds
  C_BadCounts : Addr
  g_BadCounts : mg "BadCounts" = some (.ref C_BadCounts)
  ox_BadCounts : OexC K C_BadCounts
  ic_BadCounts : PySem.W.findIn K (.ref C_BadCounts) "__init__" = some (some (.ref a_BadCounts___init__))
  ti_BadCounts : PySem.W.typeIn K (.ref a_BadCounts___init__) = some (.type "function")
  no_BadCounts_part : PySem.W.findIn K (.ref C_BadCounts) "part" = some none
  xf_BadCounts : XfC K C_BadCounts
  ki_BadCounts : PySem.W.kitOne K (.ref C_BadCounts) (.ref C_BadCounts) = some true
  ex_BadCounts : ExcC K C_BadCounts
  C_BadForm : Addr
  g_BadForm : mg "BadForm" = some (.ref C_BadForm)
  ox_BadForm : OexC K C_BadForm
  ic_BadForm : PySem.W.findIn K (.ref C_BadForm) "__init__" = some (some (.ref a_BadForm___init__))
  ti_BadForm : PySem.W.typeIn K (.ref a_BadForm___init__) = some (.type "function")
  no_BadForm_part : PySem.W.findIn K (.ref C_BadForm) "part" = some none
  xf_BadForm : XfC K C_BadForm
  ki_BadForm : PySem.W.kitOne K (.ref C_BadForm) (.ref C_BadForm) = some true
  ex_BadForm : ExcC K C_BadForm
  C_BadLine : Addr
  g_BadLine : mg "BadLine" = some (.ref C_BadLine)
  ox_BadLine : OexC K C_BadLine
  ic_BadLine : PySem.W.findIn K (.ref C_BadLine) "__init__" = some (some (.ref a_BadLine___init__))
  ti_BadLine : PySem.W.typeIn K (.ref a_BadLine___init__) = some (.type "function")
  no_BadLine_word : PySem.W.findIn K (.ref C_BadLine) "word" = some none
  xf_BadLine : XfC K C_BadLine
  ki_BadLine : PySem.W.kitOne K (.ref C_BadLine) (.ref C_BadLine) = some true
  ex_BadLine : ExcC K C_BadLine
  C_BadName : Addr
  g_BadName : mg "BadName" = some (.ref C_BadName)
  ox_BadName : OexC K C_BadName
  ic_BadName : PySem.W.findIn K (.ref C_BadName) "__init__" = some (some (.ref a_BadName___init__))
  ti_BadName : PySem.W.typeIn K (.ref a_BadName___init__) = some (.type "function")
  no_BadName_value : PySem.W.findIn K (.ref C_BadName) "value" = some none
  xf_BadName : XfC K C_BadName
  ki_BadName : PySem.W.kitOne K (.ref C_BadName) (.ref C_BadName) = some true
  ex_BadName : ExcC K C_BadName
  C_BadNumber : Addr
  g_BadNumber : mg "BadNumber" = some (.ref C_BadNumber)
  ox_BadNumber : OexC K C_BadNumber
  ic_BadNumber : PySem.W.findIn K (.ref C_BadNumber) "__init__" = some (some (.ref a_BadNumber___init__))
  ti_BadNumber : PySem.W.typeIn K (.ref a_BadNumber___init__) = some (.type "function")
  no_BadNumber_value : PySem.W.findIn K (.ref C_BadNumber) "value" = some none
  xf_BadNumber : XfC K C_BadNumber
  ki_BadNumber : PySem.W.kitOne K (.ref C_BadNumber) (.ref C_BadNumber) = some true
  ex_BadNumber : ExcC K C_BadNumber
  C_BadPlan : Addr
  g_BadPlan : mg "BadPlan" = some (.ref C_BadPlan)
  ox_BadPlan : OexC K C_BadPlan
  ic_BadPlan : PySem.W.findIn K (.ref C_BadPlan) "__init__" = some (some (.ref a_BadPlan___init__))
  ti_BadPlan : PySem.W.typeIn K (.ref a_BadPlan___init__) = some (.type "function")
  no_BadPlan_part : PySem.W.findIn K (.ref C_BadPlan) "part" = some none
  xf_BadPlan : XfC K C_BadPlan
  ki_BadPlan : PySem.W.kitOne K (.ref C_BadPlan) (.ref C_BadPlan) = some true
  ex_BadPlan : ExcC K C_BadPlan
  C_BadQuestion : Addr
  g_BadQuestion : mg "BadQuestion" = some (.ref C_BadQuestion)
  ox_BadQuestion : OexC K C_BadQuestion
  ic_BadQuestion : PySem.W.findIn K (.ref C_BadQuestion) "__init__" = some (some (.ref a_BadQuestion___init__))
  ti_BadQuestion : PySem.W.typeIn K (.ref a_BadQuestion___init__) = some (.type "function")
  no_BadQuestion_part : PySem.W.findIn K (.ref C_BadQuestion) "part" = some none
  xf_BadQuestion : XfC K C_BadQuestion
  ki_BadQuestion : PySem.W.kitOne K (.ref C_BadQuestion) (.ref C_BadQuestion) = some true
  ex_BadQuestion : ExcC K C_BadQuestion
  C_BadRewrite : Addr
  g_BadRewrite : mg "BadRewrite" = some (.ref C_BadRewrite)
  ox_BadRewrite : OexC K C_BadRewrite
  ic_BadRewrite : PySem.W.findIn K (.ref C_BadRewrite) "__init__" = some (some (.ref a_BadRewrite___init__))
  ti_BadRewrite : PySem.W.typeIn K (.ref a_BadRewrite___init__) = some (.type "function")
  no_BadRewrite_part : PySem.W.findIn K (.ref C_BadRewrite) "part" = some none
  xf_BadRewrite : XfC K C_BadRewrite
  ki_BadRewrite : PySem.W.kitOne K (.ref C_BadRewrite) (.ref C_BadRewrite) = some true
  ex_BadRewrite : ExcC K C_BadRewrite
  C_BadRow : Addr
  g_BadRow : mg "BadRow" = some (.ref C_BadRow)
  ox_BadRow : OexC K C_BadRow
  ic_BadRow : PySem.W.findIn K (.ref C_BadRow) "__init__" = some (some (.ref a_BadRow___init__))
  ti_BadRow : PySem.W.typeIn K (.ref a_BadRow___init__) = some (.type "function")
  no_BadRow_part : PySem.W.findIn K (.ref C_BadRow) "part" = some none
  xf_BadRow : XfC K C_BadRow
  ki_BadRow : PySem.W.kitOne K (.ref C_BadRow) (.ref C_BadRow) = some true
  ex_BadRow : ExcC K C_BadRow
  C_BadRule : Addr
  g_BadRule : mg "BadRule" = some (.ref C_BadRule)
  ox_BadRule : OexC K C_BadRule
  ic_BadRule : PySem.W.findIn K (.ref C_BadRule) "__init__" = some (some (.ref a_BadRule___init__))
  ti_BadRule : PySem.W.typeIn K (.ref a_BadRule___init__) = some (.type "function")
  no_BadRule_part : PySem.W.findIn K (.ref C_BadRule) "part" = some none
  xf_BadRule : XfC K C_BadRule
  ki_BadRule : PySem.W.kitOne K (.ref C_BadRule) (.ref C_BadRule) = some true
  ex_BadRule : ExcC K C_BadRule
  C_BadStore : Addr
  g_BadStore : mg "BadStore" = some (.ref C_BadStore)
  ox_BadStore : OexC K C_BadStore
  ic_BadStore : PySem.W.findIn K (.ref C_BadStore) "__init__" = some (some (.ref a_BadStore___init__))
  ti_BadStore : PySem.W.typeIn K (.ref a_BadStore___init__) = some (.type "function")
  no_BadStore_part : PySem.W.findIn K (.ref C_BadStore) "part" = some none
  xf_BadStore : XfC K C_BadStore
  ki_BadStore : PySem.W.kitOne K (.ref C_BadStore) (.ref C_BadStore) = some true
  ex_BadStore : ExcC K C_BadStore
  C_BadTest : Addr
  g_BadTest : mg "BadTest" = some (.ref C_BadTest)
  ox_BadTest : OexC K C_BadTest
  ic_BadTest : PySem.W.findIn K (.ref C_BadTest) "__init__" = some (some (.ref a_BadTest___init__))
  ti_BadTest : PySem.W.typeIn K (.ref a_BadTest___init__) = some (.type "function")
  no_BadTest_part : PySem.W.findIn K (.ref C_BadTest) "part" = some none
  xf_BadTest : XfC K C_BadTest
  ki_BadTest : PySem.W.kitOne K (.ref C_BadTest) (.ref C_BadTest) = some true
  ex_BadTest : ExcC K C_BadTest
  C_BadText : Addr
  g_BadText : mg "BadText" = some (.ref C_BadText)
  ox_BadText : OexC K C_BadText
  ic_BadText : PySem.W.findIn K (.ref C_BadText) "__init__" = some (some (.ref a_BadText___init__))
  ti_BadText : PySem.W.typeIn K (.ref a_BadText___init__) = some (.type "function")
  no_BadText_line : PySem.W.findIn K (.ref C_BadText) "line" = some none
  no_BadText_word : PySem.W.findIn K (.ref C_BadText) "word" = some none
  xf_BadText : XfC K C_BadText
  ki_BadText : PySem.W.kitOne K (.ref C_BadText) (.ref C_BadText) = some true
  ex_BadText : ExcC K C_BadText
  C_Breaks : Addr
  g_Breaks : mg "Breaks" = some (.ref C_Breaks)
  ox_Breaks : OexC K C_Breaks
  ic_Breaks : PySem.W.findIn K (.ref C_Breaks) "__init__" = some (some (.ref a_Breaks___init__))
  ti_Breaks : PySem.W.typeIn K (.ref a_Breaks___init__) = some (.type "function")
  no_Breaks_rule : PySem.W.findIn K (.ref C_Breaks) "rule" = some none
  xf_Breaks : XfC K C_Breaks
  ki_Breaks : PySem.W.kitOne K (.ref C_Breaks) (.ref C_Breaks) = some true
  ex_Breaks : ExcC K C_Breaks
  C_NoColumn : Addr
  g_NoColumn : mg "NoColumn" = some (.ref C_NoColumn)
  ox_NoColumn : OexC K C_NoColumn
  ic_NoColumn : PySem.W.findIn K (.ref C_NoColumn) "__init__" = some (some (.ref a_NoColumn___init__))
  ti_NoColumn : PySem.W.typeIn K (.ref a_NoColumn___init__) = some (.type "function")
  no_NoColumn_name : PySem.W.findIn K (.ref C_NoColumn) "name" = some none
  xf_NoColumn : XfC K C_NoColumn
  ki_NoColumn : PySem.W.kitOne K (.ref C_NoColumn) (.ref C_NoColumn) = some true
  ex_NoColumn : ExcC K C_NoColumn
  C_NoFit : Addr
  g_NoFit : mg "NoFit" = some (.ref C_NoFit)
  ox_NoFit : OexC K C_NoFit
  ic_NoFit : PySem.W.findIn K (.ref C_NoFit) "__init__" = some (some (.ref a_NoFit___init__))
  ti_NoFit : PySem.W.typeIn K (.ref a_NoFit___init__) = some (.type "function")
  no_NoFit_place : PySem.W.findIn K (.ref C_NoFit) "place" = some none
  xf_NoFit : XfC K C_NoFit
  ki_NoFit : PySem.W.kitOne K (.ref C_NoFit) (.ref C_NoFit) = some true
  ex_NoFit : ExcC K C_NoFit
  C_NoPlace : Addr
  g_NoPlace : mg "NoPlace" = some (.ref C_NoPlace)
  ox_NoPlace : OexC K C_NoPlace
  ic_NoPlace : PySem.W.findIn K (.ref C_NoPlace) "__init__" = some (some (.ref a_NoPlace___init__))
  ti_NoPlace : PySem.W.typeIn K (.ref a_NoPlace___init__) = some (.type "function")
  no_NoPlace_place : PySem.W.findIn K (.ref C_NoPlace) "place" = some none
  xf_NoPlace : XfC K C_NoPlace
  ki_NoPlace : PySem.W.kitOne K (.ref C_NoPlace) (.ref C_NoPlace) = some true
  ex_NoPlace : ExcC K C_NoPlace
  C_NoRow : Addr
  g_NoRow : mg "NoRow" = some (.ref C_NoRow)
  ox_NoRow : OexC K C_NoRow
  ic_NoRow : PySem.W.findIn K (.ref C_NoRow) "__init__" = some (some (.ref a_NoRow___init__))
  ti_NoRow : PySem.W.typeIn K (.ref a_NoRow___init__) = some (.type "function")
  no_NoRow_row : PySem.W.findIn K (.ref C_NoRow) "row" = some none
  xf_NoRow : XfC K C_NoRow
  ki_NoRow : PySem.W.kitOne K (.ref C_NoRow) (.ref C_NoRow) = some true
  ex_NoRow : ExcC K C_NoRow
  C_NoTable : Addr
  g_NoTable : mg "NoTable" = some (.ref C_NoTable)
  ox_NoTable : OexC K C_NoTable
  ic_NoTable : PySem.W.findIn K (.ref C_NoTable) "__init__" = some (some (.ref a_NoTable___init__))
  ti_NoTable : PySem.W.typeIn K (.ref a_NoTable___init__) = some (.type "function")
  no_NoTable_name : PySem.W.findIn K (.ref C_NoTable) "name" = some none
  xf_NoTable : XfC K C_NoTable
  ki_NoTable : PySem.W.kitOne K (.ref C_NoTable) (.ref C_NoTable) = some true
  ex_NoTable : ExcC K C_NoTable
  C_TooMany : Addr
  g_TooMany : mg "TooMany" = some (.ref C_TooMany)
  ox_TooMany : OexC K C_TooMany
  ic_TooMany : PySem.W.findIn K (.ref C_TooMany) "__init__" = some (some (.ref a_TooMany___init__))
  ti_TooMany : PySem.W.typeIn K (.ref a_TooMany___init__) = some (.type "function")
  no_TooMany_what : PySem.W.findIn K (.ref C_TooMany) "what" = some none
  no_TooMany_most : PySem.W.findIn K (.ref C_TooMany) "most" = some none
  xf_TooMany : XfC K C_TooMany
  ki_TooMany : PySem.W.kitOne K (.ref C_TooMany) (.ref C_TooMany) = some true
  ex_TooMany : ExcC K C_TooMany
  C_Unlike : Addr
  g_Unlike : mg "Unlike" = some (.ref C_Unlike)
  ox_Unlike : OexC K C_Unlike
  ic_Unlike : PySem.W.findIn K (.ref C_Unlike) "__init__" = some (some (.ref a_Unlike___init__))
  ti_Unlike : PySem.W.typeIn K (.ref a_Unlike___init__) = some (.type "function")
  no_Unlike_paper : PySem.W.findIn K (.ref C_Unlike) "paper" = some none
  xf_Unlike : XfC K C_Unlike
  ki_Unlike : PySem.W.kitOne K (.ref C_Unlike) (.ref C_Unlike) = some true
  ex_Unlike : ExcC K C_Unlike
  C_AtRow : Addr
  g_AtRow : mg "AtRow" = some (.ref C_AtRow)
  ox_AtRow : OexC K C_AtRow
  ic_AtRow : PySem.W.findIn K (.ref C_AtRow) "__init__" = some (some (.ref a_AtRow___init__))
  ti_AtRow : PySem.W.typeIn K (.ref a_AtRow___init__) = some (.type "function")
  no_AtRow_row : PySem.W.findIn K (.ref C_AtRow) "row" = some none
  xf_AtRow : XfC K C_AtRow
  ki_AtRow : PySem.W.kitOne K (.ref C_AtRow) (.ref C_AtRow) = some true
  ex_AtRow : ExcC K C_AtRow
  xn_CountError : PySem.W.excIn K C_CountError [.type "ValueError", .type "Exception", .type "BaseException", .type "object"] "ValueError.__new__" = true
  kx_CountError : PySem.W.keepIn K (.ref C_CountError) = true
  ex_CountError : ExcC K C_CountError
  xn_BadInput : PySem.W.excIn K C_BadInput [.type "ValueError", .type "Exception", .type "BaseException", .type "object"] "ValueError.__new__" = true
  kx_BadInput : PySem.W.keepIn K (.ref C_BadInput) = true
  ex_BadInput : ExcC K C_BadInput
  xn_Refused : PySem.W.excIn K C_Refused [.type "ValueError", .type "Exception", .type "BaseException", .type "object"] "ValueError.__new__" = true
  kx_Refused : PySem.W.keepIn K (.ref C_Refused) = true
  ex_Refused : ExcC K C_Refused
  xn_NoDeed : PySem.W.excIn K C_NoDeed [.type "ValueError", .type "Exception", .type "BaseException", .type "object"] "ValueError.__new__" = true
  kx_NoDeed : PySem.W.keepIn K (.ref C_NoDeed) = true
  ex_NoDeed : ExcC K C_NoDeed
  kk : ∀ a ∈ [C_BadBag, C_BadBase, C_BadBook, C_BadBounds, C_BadCounts, C_BadForm, C_BadLine, C_BadName, C_BadNumber, C_BadPlan, C_BadQuestion, C_BadRewrite, C_BadRow, C_BadRule, C_BadStore, C_BadTest, C_BadText, C_Breaks, C_NoColumn, C_NoFit, C_NoPlace, C_NoRow, C_NoTable, C_TooMany, C_Unlike, C_NoDeed, C_AtRow] ++ [C_Refused], ∀ b ∈ [C_BadBag, C_BadBase, C_BadBook, C_BadBounds, C_BadCounts, C_BadForm, C_BadLine, C_BadName, C_BadNumber, C_BadPlan, C_BadQuestion, C_BadRewrite, C_BadRow, C_BadRule, C_BadStore, C_BadTest, C_BadText, C_Breaks, C_NoColumn, C_NoFit, C_NoPlace, C_NoRow, C_NoTable, C_TooMany, C_Unlike, C_NoDeed, C_AtRow], PySem.W.kitOne K (.ref a) (.ref b) = some (decide (a = b))
  kn : [C_BadBag, C_BadBase, C_BadBook, C_BadBounds, C_BadCounts, C_BadForm, C_BadLine, C_BadName, C_BadNumber, C_BadPlan, C_BadQuestion, C_BadRewrite, C_BadRow, C_BadRule, C_BadStore, C_BadTest, C_BadText, C_Breaks, C_NoColumn, C_NoFit, C_NoPlace, C_NoRow, C_NoTable, C_TooMany, C_Unlike, C_NoDeed, C_AtRow].Nodup
  kr : C_Refused ∉ [C_BadBag, C_BadBase, C_BadBook, C_BadBounds, C_BadCounts, C_BadForm, C_BadLine, C_BadName, C_BadNumber, C_BadPlan, C_BadQuestion, C_BadRewrite, C_BadRow, C_BadRule, C_BadStore, C_BadTest, C_BadText, C_Breaks, C_NoColumn, C_NoFit, C_NoPlace, C_NoRow, C_NoTable, C_TooMany, C_Unlike, C_NoDeed, C_AtRow]
  g0 : ∀ a ∈ [C_BadBag, C_BadBase, C_BadBook, C_BadBounds, C_BadCounts, C_BadForm, C_BadLine, C_BadName, C_BadNumber, C_BadPlan, C_BadQuestion, C_BadRewrite, C_BadRow, C_BadRule, C_BadStore, C_BadTest, C_BadText], PySem.W.kitOne K (.ref a) (.ref C_BadInput) = some true ∧ PySem.W.kitOne K (.ref a) (.ref C_Refused) = some false ∧ PySem.W.kitOne K (.ref a) (.ref C_NoAnswer) = some false
  g1 : ∀ a ∈ [C_Breaks, C_NoColumn, C_NoFit, C_NoPlace, C_NoRow, C_NoTable, C_TooMany, C_Unlike], PySem.W.kitOne K (.ref a) (.ref C_BadInput) = some false ∧ PySem.W.kitOne K (.ref a) (.ref C_Refused) = some true ∧ PySem.W.kitOne K (.ref a) (.ref C_NoAnswer) = some false
  g2 : ∀ a ∈ [C_NoDeed, C_AtRow], PySem.W.kitOne K (.ref a) (.ref C_BadInput) = some false ∧ PySem.W.kitOne K (.ref a) (.ref C_Refused) = some false ∧ PySem.W.kitOne K (.ref a) (.ref C_NoAnswer) = some true
  gc : ∀ a ∈ [C_CountError], PySem.W.kitOne K (.ref a) (.ref C_BadInput) = some false ∧ PySem.W.kitOne K (.ref a) (.ref C_Refused) = some false ∧ PySem.W.kitOne K (.ref a) (.ref C_NoAnswer) = some false
  ce : ∀ a ∈ [C_BadBag, C_BadBase, C_BadBook, C_BadBounds, C_BadCounts, C_BadForm, C_BadLine, C_BadName, C_BadNumber, C_BadPlan, C_BadQuestion, C_BadRewrite, C_BadRow, C_BadRule, C_BadStore, C_BadTest, C_BadText, C_Breaks, C_NoColumn, C_NoFit, C_NoPlace, C_NoRow, C_NoTable, C_TooMany, C_Unlike, C_NoDeed, C_AtRow] ++ [C_BadInput], PySem.W.kitOne K (.ref a) (.ref C_CountError) = some true ∧ PySem.W.kitOne K (.ref a) (.type "ValueError") = some true
  ot : ∀ a ∈ [C_BadBag, C_BadBase, C_BadBook, C_BadBounds, C_BadCounts, C_BadForm, C_BadLine, C_BadName, C_BadNumber, C_BadPlan, C_BadQuestion, C_BadRewrite, C_BadRow, C_BadRule, C_BadStore, C_BadTest, C_BadText, C_Breaks, C_NoColumn, C_NoFit, C_NoPlace, C_NoRow, C_NoTable, C_TooMany, C_Unlike, C_NoDeed, C_AtRow], PySem.W.kitAny K (.ref a) [.type "LookupError", .type "AttributeError", .type "ArithmeticError", .type "RuntimeError"] = some false
  o3 : ∀ a ∈ [C_NoDeed], PySem.W.kitAny K (.ref a) [.type "LookupError", .type "ArithmeticError", .type "RuntimeError"] = some false
  e_law : ∀ (s : Shared) (u : Value), BindsTo s d_law ⟨[u], []⟩ [("_law_script", u)]
  z_abs : mg "abs" = none
  z_dict : mg "dict" = none
  z_int : mg "int" = none
  z_isinstance : mg "isinstance" = none
  z_len : mg "len" = none
  z_list : mg "list" = none
  z_range : mg "range" = none
  z_repr : mg "repr" = none
  z_tuple : mg "tuple" = none
  z_ValueError : mg "ValueError" = none
  z_LookupError : mg "LookupError" = none
  z_AttributeError : mg "AttributeError" = none
  z_ArithmeticError : mg "ArithmeticError" = none
  z_RuntimeError : mg "RuntimeError" = none
  kx1_BadBag : KBn K d_BadBag___init__ ["self", "part"] 1 ["part"] (fun us ws => us ++ ws) (fun vs zs => vs ++ zs)
  kx1_BadBase : KBn K d_BadBase___init__ ["self", "part"] 1 ["part"] (fun us ws => us ++ ws) (fun vs zs => vs ++ zs)
  kx1_BadBook : KBn K d_BadBook___init__ ["self", "at"] 1 ["at"] (fun us ws => us ++ ws) (fun vs zs => vs ++ zs)
  kx1_BadBounds : KBn K d_BadBounds___init__ ["self", "at"] 1 ["at"] (fun us ws => us ++ ws) (fun vs zs => vs ++ zs)
  kx1_BadCounts : KBn K d_BadCounts___init__ ["self", "part"] 1 ["part"] (fun us ws => us ++ ws) (fun vs zs => vs ++ zs)
  kx1_BadForm : KBn K d_BadForm___init__ ["self", "part"] 1 ["part"] (fun us ws => us ++ ws) (fun vs zs => vs ++ zs)
  kx1_BadLine : KBn K d_BadLine___init__ ["self", "word"] 1 ["word"] (fun us ws => us ++ ws) (fun vs zs => vs ++ zs)
  kx1_BadName : KBn K d_BadName___init__ ["self", "value"] 1 ["value"] (fun us ws => us ++ ws) (fun vs zs => vs ++ zs)
  kx1_BadNumber : KBn K d_BadNumber___init__ ["self", "value"] 1 ["value"] (fun us ws => us ++ ws) (fun vs zs => vs ++ zs)
  kx1_BadPlan : KBn K d_BadPlan___init__ ["self", "part"] 1 ["part"] (fun us ws => us ++ ws) (fun vs zs => vs ++ zs)
  kx1_BadQuestion : KBn K d_BadQuestion___init__ ["self", "part"] 1 ["part"] (fun us ws => us ++ ws) (fun vs zs => vs ++ zs)
  kx1_BadRewrite : KBn K d_BadRewrite___init__ ["self", "part"] 1 ["part"] (fun us ws => us ++ ws) (fun vs zs => vs ++ zs)
  kx1_BadRow : KBn K d_BadRow___init__ ["self", "part"] 1 ["part"] (fun us ws => us ++ ws) (fun vs zs => vs ++ zs)
  kx1_BadRule : KBn K d_BadRule___init__ ["self", "part"] 1 ["part"] (fun us ws => us ++ ws) (fun vs zs => vs ++ zs)
  kx1_BadStore : KBn K d_BadStore___init__ ["self", "part"] 1 ["part"] (fun us ws => us ++ ws) (fun vs zs => vs ++ zs)
  kx1_BadTest : KBn K d_BadTest___init__ ["self", "part"] 1 ["part"] (fun us ws => us ++ ws) (fun vs zs => vs ++ zs)
  kx2_BadText : KBn K d_BadText___init__ ["self", "line", "word"] 1 ["word", "line"] swapG swapG
  kx1_Breaks : KBn K d_Breaks___init__ ["self", "rule"] 1 ["rule"] (fun us ws => us ++ ws) (fun vs zs => vs ++ zs)
  kx1_NoColumn : KBn K d_NoColumn___init__ ["self", "name"] 1 ["name"] (fun us ws => us ++ ws) (fun vs zs => vs ++ zs)
  kx1_NoFit : KBn K d_NoFit___init__ ["self", "place"] 1 ["place"] (fun us ws => us ++ ws) (fun vs zs => vs ++ zs)
  kx1_NoPlace : KBn K d_NoPlace___init__ ["self", "place"] 1 ["place"] (fun us ws => us ++ ws) (fun vs zs => vs ++ zs)
  kx1_NoRow : KBn K d_NoRow___init__ ["self", "row"] 1 ["row"] (fun us ws => us ++ ws) (fun vs zs => vs ++ zs)
  kx1_NoTable : KBn K d_NoTable___init__ ["self", "name"] 1 ["name"] (fun us ws => us ++ ws) (fun vs zs => vs ++ zs)
  kx2_TooMany : KBn K d_TooMany___init__ ["self", "what", "most"] 1 ["most", "what"] swapG swapG
  kx1_Unlike : KBn K d_Unlike___init__ ["self", "paper"] 1 ["paper"] (fun us ws => us ++ ws) (fun vs zs => vs ++ zs)
  kx1_AtRow : KBn K d_AtRow___init__ ["self", "row"] 1 ["row"] (fun us ws => us ++ ws) (fun vs zs => vs ++ zs)

section
variable {P : Program} {w : World} {K : PySem.W.Frag} {mg : Str → Option Value} {base : Heap}
theorem vok_own_copy0 (T : Top K mg) : FnOk P w K mg base CX0 (0 + 1) T.a_own_copy T.d_own_copy ["value"] spCopyF := by
  refine T.F_own_copy.ok scown_copy (fun vs H Q E h => ?_) (fun cdv A outer s H vs Q E hr h => ?_)
  · obtain ⟨y, rfl, _⟩ := h
    rfl
  · obtain ⟨y, rfl, hf, q⟩ := h
    obtain ⟨k, hk, h1, h2, h3⟩ := flat_ki hf H
    refine ⟨_, (pss_cons (ps_if (pt_val (pe_callB call_isi (by rfl) T.z_isinstance (by decide +kernel) (pa_cons (pv 0) (pa_cons (pe_bltn (by rfl) T.z_tuple (by decide +kernel) (show RelV (.ty "tuple") _ from rfl)) pa_nil))))
    (pss_one ps_never)
    pss_nil)
  (pss_cons (ps_if (pt_val (pe_callB call_isi (by rfl) T.z_isinstance (by decide +kernel) (pa_cons (pv 0) (pa_cons (pe_bltn (by rfl) T.z_list (by decide +kernel) (show RelV (.ty "list") _ from rfl)) pa_nil))))
    (pss_one ps_never)
    pss_nil)
  (pss_cons (ps_if (pt_val (pe_callB call_isi (by rfl) T.z_isinstance (by decide +kernel) (pa_cons (pv 0) (pa_cons (pe_bltn (by rfl) T.z_dict (by decide +kernel) (show RelV (.ty "dict") _ from rfl)) pa_nil))))
    (pss_one ps_never)
    pss_nil)
  (pss_one (ps_ret (pv 0)))))), ?_⟩
    refine ⟨y, rfl, _, _, _, _, _, rfl, .ty _, hk.ty, ki_kit _ .tup, _, rfl, ite2 (fun e => absurd e (by rw [h1]; decide)) fun _ => ?_⟩
    refine ⟨y, rfl, _, _, _, _, _, rfl, .ty _, hk.ty, ki_kit _ .lst, _, rfl, ite2 (fun e => absurd e (by rw [h2]; decide)) fun _ => ?_⟩
    refine ⟨y, rfl, _, _, _, _, _, rfl, .ty _, hk.ty, ki_kit _ .dct, _, rfl, ite2 (fun e => absurd e (by rw [h3]; decide)) fun _ => ?_⟩
    exact ⟨y, rfl, q⟩
theorem vok_own_copy (T : Top K mg) : FnOk P w K mg base CX0 (4 + 1) T.a_own_copy T.d_own_copy ["value"] spCopyC := by
  have G_own_copy := (vok_own_copy0 (P := P) (w := w) (base := base) T).mono (k := 4) (by decide)
  refine T.F_own_copy.ok scown_copy (fun vs H Q E h => ?_) (fun cdv A outer s H vs Q E hr h => ?_)
  · obtain ⟨y, rfl, _⟩ := h
    rfl
  · obtain ⟨y, rfl, hc, q⟩ := h
    refine ⟨_, (pss_cons (ps_if (pt_val (pe_callB call_isi (by rfl) T.z_isinstance (by decide +kernel) (pa_cons (pv 0) (pa_cons (pe_bltn (by rfl) T.z_tuple (by decide +kernel) (show RelV (.ty "tuple") _ from rfl)) pa_nil))))
    (pss_one (ps_ret (pe_callTy call_tuple_of (by rfl) T.z_tuple (by decide +kernel) (pa_cons (pe_lc (own := [("item", 1)]) (g := gName 1) rfl scown_copy.nd (pi_anyV (pv 0)) (blkOk_by (own := [("item", 1)]) (N := Nown_copy) (sc := defScope sown_copy) (by decide +kernel)) (fun _ _ _ _ _ => (pg_name (i := 1) scown_copy.nd rfl (.inl rfl))) (fun _ _ _ _ _ => pts_nil) (fun _ _ _ _ _ => (pe_call G_own_copy hr (by rfl) T.g_own_copy T.F_own_copy.kp T.b_own_copy .nil pass0 (pa_cons (pv 1) pa_nil)))) pa_nil))))
    pss_nil)
  (pss_cons (ps_if (pt_val (pe_callB call_isi (by rfl) T.z_isinstance (by decide +kernel) (pa_cons (pv 0) (pa_cons (pe_bltn (by rfl) T.z_list (by decide +kernel) (show RelV (.ty "list") _ from rfl)) pa_nil))))
    (pss_one (ps_ret (pe_lc (own := [("item", 1)]) (g := gName 1) rfl scown_copy.nd (pi_anyV (pv 0)) (blkOk_by (own := [("item", 1)]) (N := Nown_copy) (sc := defScope sown_copy) (by decide +kernel)) (fun _ _ _ _ _ => (pg_name (i := 1) scown_copy.nd rfl (.inl rfl))) (fun _ _ _ _ _ => pts_nil) (fun _ _ _ _ _ => (pe_call G_own_copy hr (by rfl) T.g_own_copy T.F_own_copy.kp T.b_own_copy .nil pass0 (pa_cons (pv 1) pa_nil))))))
    pss_nil)
  (pss_cons (ps_if (pt_val (pe_callB call_isi (by rfl) T.z_isinstance (by decide +kernel) (pa_cons (pv 0) (pa_cons (pe_bltn (by rfl) T.z_dict (by decide +kernel) (show RelV (.ty "dict") _ from rfl)) pa_nil))))
    (pss_one (ps_ret (pe_lockO (pe_dc (own := [("key", 2)]) (g := gName 2) rfl scown_copy.nd (pi_keys (pv 0)) (blkOk_by (own := [("key", 2)]) (N := Nown_copy) (sc := defScope sown_copy) (by decide +kernel)) (fun _ _ _ _ _ => (pg_name (i := 2) scown_copy.nd rfl (.inl rfl))) (fun _ _ _ _ _ => pts_nil) (fun _ _ _ _ _ => pv 2) (fun _ _ _ _ _ => (pe_call G_own_copy hr (by rfl) T.g_own_copy T.F_own_copy.kp T.b_own_copy .nil pass0 (pa_cons (pe_dget (Nat.lt_of_le_of_lt (Nat.add_le_add_left (by decide) _) (Room.units hr)) (pv 0) (pv 2) (fun _ _ => rfl)) pa_nil)))))))
    pss_nil)
  (pss_one (ps_ret (pv 0)))))), ?_⟩
    rcases hc with hf | ⟨a, xs, rfl, ha, hf, hl⟩ | ⟨a, xs, rfl, ha, hf, hl⟩ | ⟨a, kvs, rfl, ha, hkv⟩
    · obtain ⟨k, hk, h1, h2, h3⟩ := flat_ki hf H
      refine ⟨y, rfl, _, _, _, _, _, rfl, .ty _, hk.ty, ki_kit _ .tup, _, rfl, ite2 (fun e => absurd e (by rw [h1]; decide)) fun _ => ?_⟩
      refine ⟨y, rfl, _, _, _, _, _, rfl, .ty _, hk.ty, ki_kit _ .lst, _, rfl, ite2 (fun e => absurd e (by rw [h2]; decide)) fun _ => ?_⟩
      refine ⟨y, rfl, _, _, _, _, _, rfl, .ty _, hk.ty, ki_kit _ .dct, _, rfl, ite2 (fun e => absurd e (by rw [h3]; decide)) fun _ => ?_⟩
      exact ⟨y, rfl, q _ _ (.inl ⟨hf, rfl, rfl⟩)⟩
    · have hk : IsKi H (.ref a) .tup := ⟨a, xs, rfl, ha⟩
      refine ⟨.ref a, rfl, _, _, _, _, _, rfl, .ty _, hk.ty, ki_kit _ .tup, _, rfl, ite2 (fun _ => ?_) fun e => absurd (show Ki.below .tup .tup = true by decide) e⟩
      refine ⟨a, rfl, .inr ⟨⟨_, .of ha⟩, fun D nD => ?_⟩⟩
      have naD : a ≠ D := ne_of_none ha nD
      refine lc_it (walk_tup (K := K) (a := a) (xs := xs)) (AccP D fun i acc H' => H' = upd H D (.lst acc) ∧ acc = xs.take i) (.zero ⟨rfl, rfl⟩) (fun i H' _ ⟨_, _, _, z⟩ => by rw [z.1]; exact .of ((upd_ne naD).trans ha)) (fun i x H' H'' hi ⟨acc, e1, l1, z, eacc⟩ y => ?_) (fun H' ⟨acc, e1, _, z, eacc⟩ => ?_)
      · obtain ⟨rfl, hx⟩ := y
        refine ⟨rfl, ?_⟩
        refine ⟨x, rfl, x, rfl, hf x (List.mem_of_getElem? hx), ?_⟩
        exact AccP.put (small_size (by omega)) e1 l1 ⟨by rw [z, upd_upd], by rw [take_next hx, eacc]⟩
      · rw [eacc, List.take_length] at z e1
        refine ⟨D, xs, rfl, .inl ⟨.of e1, fun p np => ?_⟩⟩
        have npD : p ≠ D := fun e => by rw [e, e1] at np; cases np
        have np0 : H p = none := by rw [z, upd_ne npD] at np; exact np
        refine q _ _ (.inr (.inl ⟨a, xs, p, rfl, ha, rfl, ?_, np0, upd_same⟩))
        rw [z]
        exact (same_new nD).trans (same_new ((upd_ne npD).trans np0))
    · have hk : IsKi H (.ref a) .lst := ⟨a, xs, rfl, ha⟩
      refine ⟨.ref a, rfl, _, _, _, _, _, rfl, .ty _, hk.ty, ki_kit _ .tup, _, rfl, ite2 (fun e => absurd e (by decide)) fun _ => ?_⟩
      refine ⟨.ref a, rfl, _, _, _, _, _, rfl, .ty _, hk.ty, ki_kit _ .lst, _, rfl, ite2 (fun _ => ?_) fun e => absurd (show Ki.below .lst .lst = true by decide) e⟩
      refine ⟨a, rfl, .inl ⟨⟨_, .of ha⟩, fun D nD => ?_⟩⟩
      have naD : a ≠ D := ne_of_none ha nD
      refine lc_it (walk_list (K := K) (a := a) (xs := xs)) (AccP D fun i acc H' => H' = upd H D (.lst acc) ∧ acc = xs.take i) (.zero ⟨rfl, rfl⟩) (fun i H' _ ⟨_, _, _, z⟩ => by rw [z.1]; exact .of ((upd_ne naD).trans ha)) (fun i x H' H'' hi ⟨acc, e1, l1, z, eacc⟩ y => ?_) (fun H' ⟨acc, e1, _, z, eacc⟩ => ?_)
      · obtain ⟨rfl, hx⟩ := y
        refine ⟨rfl, ?_⟩
        refine ⟨x, rfl, x, rfl, hf x (List.mem_of_getElem? hx), ?_⟩
        exact AccP.put (small_size (by omega)) e1 l1 ⟨by rw [z, upd_upd], by rw [take_next hx, eacc]⟩
      · rw [eacc, List.take_length] at z e1
        refine q _ _ (.inr (.inr (.inl ⟨a, xs, D, rfl, ha, rfl, ?_, nD, e1⟩)))
        rw [z]
        exact same_new nD
    · have ty : TyX K H (.ref a) (.type Ki.dct.name) := by
        rcases ha with ha | ⟨o, ha⟩
        · exact IsKi.ty (k := .dct) ⟨a, kvs, rfl, ha⟩
        · exact .fDict ha
      refine ⟨.ref a, rfl, _, _, _, _, _, rfl, .ty _, ty, ki_kit .dct .tup, _, rfl, ite2 (fun e => absurd e (by decide)) fun _ => ?_⟩
      refine ⟨.ref a, rfl, _, _, _, _, _, rfl, .ty _, ty, ki_kit .dct .lst, _, rfl, ite2 (fun e => absurd e (by decide)) fun _ => ?_⟩
      refine ⟨.ref a, rfl, _, _, _, _, _, rfl, .ty _, ty, ki_kit .dct .dct, _, rfl, ite2 (fun _ => ?_) fun e => absurd (show Ki.below .dct .dct = true by decide) e⟩
      have hkv' : kvs = [] ∨ ∃ k v, kvs = [(k, v)] := hkv.imp id fun ⟨k, v, e, _⟩ => ⟨k, v, e⟩
      have hval : ∀ k v, kvs = [(k, v)] → flatV v = true := fun k v e => by
        rcases hkv with h0 | ⟨k', v', e', f⟩
        · rw [h0] at e; cases e
        · rw [e'] at e; cases e; exact f
      rcases ha with ha | ⟨o, ha⟩
      · refine .inr ⟨a, .dK kvs, ha, trivial, fun od => ?_⟩
        refine ⟨.ref a, rfl, a, od, rfl, .inl ⟨kvs, upd_same, fun D nD => ?_⟩⟩
        have nDa : D ≠ a := fun e => by rw [e, upd_same] at nD; cases nD
        have nD0 : H D = none := (upd_ne nDa).symm.trans nD
        refine dc_copy hkv' upd_same nD (fun k v e N hN => ?_) ⟨by rw [upd_ne nDa.symm, upd_same], q _ _ (.inr (.inr (.inr ⟨a, kvs, D, rfl, .inl ha, rfl, ?_, nD0, by rw [upd_ne nDa, upd_same]⟩)))⟩
        · subst e
          refine ⟨rfl, _, rfl, .ref a, rfl, kV k, rfl, a, v, rfl, .inl ⟨[(k, v)], k, .inr ⟨od, by rw [upd_ne nDa.symm, upd_same]⟩, rfl, by simp [valV]⟩, v, rfl, hval k v rfl, [], k, rfl, upd_same, by rw [sizeLine_eq]; decide, ?_⟩
          rw [upd_upd]
          exact hN
        · intro b u e
          by_cases c : b = a
          · subst c
            rw [ha] at e
            rw [upd_same]
            exact e
          · rw [upd_ne c, upd_ne (ne_of_none e nD0), upd_ne c]
            exact e
      · refine .inl ⟨.ref a, rfl, a, o, rfl, .inl ⟨kvs, ha, fun D nD => ?_⟩⟩
        have nDa : a ≠ D := ne_of_none ha nD
        refine dc_copy hkv' ha nD (fun k v e N hN => ?_) (q _ _ (.inr (.inr (.inr ⟨a, kvs, D, rfl, .inr ⟨o, ha⟩, rfl, same_new nD, nD, upd_same⟩))))
        subst e
        refine ⟨rfl, _, rfl, .ref a, rfl, kV k, rfl, a, v, rfl, .inl ⟨[(k, v)], k, .inr ⟨o, (upd_ne nDa).trans ha⟩, rfl, by simp [valV]⟩, v, rfl, hval k v rfl, [], k, rfl, upd_same, by rw [sizeLine_eq]; decide, ?_⟩
        rw [upd_upd]
        exact hN
theorem vok_BadBag___init__ (T : Top K mg) : FnOk P w K mg base CX0 (8 + 1) T.a_BadBag___init__ T.d_BadBag___init__ ["self", "part"] (spE1C T.C_BadBag "part") := by
  have G_own_copy := (vok_own_copy (P := P) (w := w) (base := base) T).mono (k := 8) (by decide)
  refine T.F_BadBag___init__.ok scBadBag___init__ (fun vs H Q E h => ?_) (fun cdv A outer s H vs Q E hr h => ?_)
  · obtain ⟨a, y, rfl, _⟩ := h
    rfl
  · obtain ⟨a, y, rfl, ha, hc, q⟩ := h
    refine ⟨_, (pss_one (ps_ost (pv 0) (pe_call G_own_copy hr (by rfl) T.g_own_copy T.F_own_copy.kp T.b_own_copy .nil pass0 (pa_cons (pv 1) pa_nil)))), ?_⟩
    exact ⟨y, rfl, y, rfl, hc, fun H1 z o => ⟨.ref a, rfl, a, T.C_BadBag, rfl, T.ox_BadBag, T.no_BadBag_part, .inl ⟨o.same _ _ ha, fun d nd nda => q _ _ o d nd nda⟩⟩⟩
theorem vok_BadBase___init__ (T : Top K mg) : FnOk P w K mg base CX0 (8 + 1) T.a_BadBase___init__ T.d_BadBase___init__ ["self", "part"] (spE1C T.C_BadBase "part") := by
  have G_own_copy := (vok_own_copy (P := P) (w := w) (base := base) T).mono (k := 8) (by decide)
  refine T.F_BadBase___init__.ok scBadBase___init__ (fun vs H Q E h => ?_) (fun cdv A outer s H vs Q E hr h => ?_)
  · obtain ⟨a, y, rfl, _⟩ := h
    rfl
  · obtain ⟨a, y, rfl, ha, hc, q⟩ := h
    refine ⟨_, (pss_one (ps_ost (pv 0) (pe_call G_own_copy hr (by rfl) T.g_own_copy T.F_own_copy.kp T.b_own_copy .nil pass0 (pa_cons (pv 1) pa_nil)))), ?_⟩
    exact ⟨y, rfl, y, rfl, hc, fun H1 z o => ⟨.ref a, rfl, a, T.C_BadBase, rfl, T.ox_BadBase, T.no_BadBase_part, .inl ⟨o.same _ _ ha, fun d nd nda => q _ _ o d nd nda⟩⟩⟩
theorem vok_BadBook___init__ (T : Top K mg) : FnOk P w K mg base CX0 (8 + 1) T.a_BadBook___init__ T.d_BadBook___init__ ["self", "at"] (spE1C T.C_BadBook "at") := by
  have G_own_copy := (vok_own_copy (P := P) (w := w) (base := base) T).mono (k := 8) (by decide)
  refine T.F_BadBook___init__.ok scBadBook___init__ (fun vs H Q E h => ?_) (fun cdv A outer s H vs Q E hr h => ?_)
  · obtain ⟨a, y, rfl, _⟩ := h
    rfl
  · obtain ⟨a, y, rfl, ha, hc, q⟩ := h
    refine ⟨_, (pss_one (ps_ost (pv 0) (pe_call G_own_copy hr (by rfl) T.g_own_copy T.F_own_copy.kp T.b_own_copy .nil pass0 (pa_cons (pv 1) pa_nil)))), ?_⟩
    exact ⟨y, rfl, y, rfl, hc, fun H1 z o => ⟨.ref a, rfl, a, T.C_BadBook, rfl, T.ox_BadBook, T.no_BadBook_at, .inl ⟨o.same _ _ ha, fun d nd nda => q _ _ o d nd nda⟩⟩⟩
theorem vok_BadBounds___init__ (T : Top K mg) : FnOk P w K mg base CX0 (8 + 1) T.a_BadBounds___init__ T.d_BadBounds___init__ ["self", "at"] (spE1C T.C_BadBounds "at") := by
  have G_own_copy := (vok_own_copy (P := P) (w := w) (base := base) T).mono (k := 8) (by decide)
  refine T.F_BadBounds___init__.ok scBadBounds___init__ (fun vs H Q E h => ?_) (fun cdv A outer s H vs Q E hr h => ?_)
  · obtain ⟨a, y, rfl, _⟩ := h
    rfl
  · obtain ⟨a, y, rfl, ha, hc, q⟩ := h
    refine ⟨_, (pss_one (ps_ost (pv 0) (pe_call G_own_copy hr (by rfl) T.g_own_copy T.F_own_copy.kp T.b_own_copy .nil pass0 (pa_cons (pv 1) pa_nil)))), ?_⟩
    exact ⟨y, rfl, y, rfl, hc, fun H1 z o => ⟨.ref a, rfl, a, T.C_BadBounds, rfl, T.ox_BadBounds, T.no_BadBounds_at, .inl ⟨o.same _ _ ha, fun d nd nda => q _ _ o d nd nda⟩⟩⟩
theorem vok_BadCounts___init__ (T : Top K mg) : FnOk P w K mg base CX0 (8 + 1) T.a_BadCounts___init__ T.d_BadCounts___init__ ["self", "part"] (spE1C T.C_BadCounts "part") := by
  have G_own_copy := (vok_own_copy (P := P) (w := w) (base := base) T).mono (k := 8) (by decide)
  refine T.F_BadCounts___init__.ok scBadCounts___init__ (fun vs H Q E h => ?_) (fun cdv A outer s H vs Q E hr h => ?_)
  · obtain ⟨a, y, rfl, _⟩ := h
    rfl
  · obtain ⟨a, y, rfl, ha, hc, q⟩ := h
    refine ⟨_, (pss_one (ps_ost (pv 0) (pe_call G_own_copy hr (by rfl) T.g_own_copy T.F_own_copy.kp T.b_own_copy .nil pass0 (pa_cons (pv 1) pa_nil)))), ?_⟩
    exact ⟨y, rfl, y, rfl, hc, fun H1 z o => ⟨.ref a, rfl, a, T.C_BadCounts, rfl, T.ox_BadCounts, T.no_BadCounts_part, .inl ⟨o.same _ _ ha, fun d nd nda => q _ _ o d nd nda⟩⟩⟩
theorem vok_BadForm___init__ (T : Top K mg) : FnOk P w K mg base CX0 (8 + 1) T.a_BadForm___init__ T.d_BadForm___init__ ["self", "part"] (spE1C T.C_BadForm "part") := by
  have G_own_copy := (vok_own_copy (P := P) (w := w) (base := base) T).mono (k := 8) (by decide)
  refine T.F_BadForm___init__.ok scBadForm___init__ (fun vs H Q E h => ?_) (fun cdv A outer s H vs Q E hr h => ?_)
  · obtain ⟨a, y, rfl, _⟩ := h
    rfl
  · obtain ⟨a, y, rfl, ha, hc, q⟩ := h
    refine ⟨_, (pss_one (ps_ost (pv 0) (pe_call G_own_copy hr (by rfl) T.g_own_copy T.F_own_copy.kp T.b_own_copy .nil pass0 (pa_cons (pv 1) pa_nil)))), ?_⟩
    exact ⟨y, rfl, y, rfl, hc, fun H1 z o => ⟨.ref a, rfl, a, T.C_BadForm, rfl, T.ox_BadForm, T.no_BadForm_part, .inl ⟨o.same _ _ ha, fun d nd nda => q _ _ o d nd nda⟩⟩⟩
theorem vok_BadLine___init__ (T : Top K mg) : FnOk P w K mg base CX0 (8 + 1) T.a_BadLine___init__ T.d_BadLine___init__ ["self", "word"] (spE1C T.C_BadLine "word") := by
  have G_own_copy := (vok_own_copy (P := P) (w := w) (base := base) T).mono (k := 8) (by decide)
  refine T.F_BadLine___init__.ok scBadLine___init__ (fun vs H Q E h => ?_) (fun cdv A outer s H vs Q E hr h => ?_)
  · obtain ⟨a, y, rfl, _⟩ := h
    rfl
  · obtain ⟨a, y, rfl, ha, hc, q⟩ := h
    refine ⟨_, (pss_one (ps_ost (pv 0) (pe_call G_own_copy hr (by rfl) T.g_own_copy T.F_own_copy.kp T.b_own_copy .nil pass0 (pa_cons (pv 1) pa_nil)))), ?_⟩
    exact ⟨y, rfl, y, rfl, hc, fun H1 z o => ⟨.ref a, rfl, a, T.C_BadLine, rfl, T.ox_BadLine, T.no_BadLine_word, .inl ⟨o.same _ _ ha, fun d nd nda => q _ _ o d nd nda⟩⟩⟩
theorem vok_BadName___init__ (T : Top K mg) : FnOk P w K mg base CX0 (8 + 1) T.a_BadName___init__ T.d_BadName___init__ ["self", "value"] (spE1C T.C_BadName "value") := by
  have G_own_copy := (vok_own_copy (P := P) (w := w) (base := base) T).mono (k := 8) (by decide)
  refine T.F_BadName___init__.ok scBadName___init__ (fun vs H Q E h => ?_) (fun cdv A outer s H vs Q E hr h => ?_)
  · obtain ⟨a, y, rfl, _⟩ := h
    rfl
  · obtain ⟨a, y, rfl, ha, hc, q⟩ := h
    refine ⟨_, (pss_one (ps_ost (pv 0) (pe_call G_own_copy hr (by rfl) T.g_own_copy T.F_own_copy.kp T.b_own_copy .nil pass0 (pa_cons (pv 1) pa_nil)))), ?_⟩
    exact ⟨y, rfl, y, rfl, hc, fun H1 z o => ⟨.ref a, rfl, a, T.C_BadName, rfl, T.ox_BadName, T.no_BadName_value, .inl ⟨o.same _ _ ha, fun d nd nda => q _ _ o d nd nda⟩⟩⟩
theorem vok_BadNumber___init__ (T : Top K mg) : FnOk P w K mg base CX0 (8 + 1) T.a_BadNumber___init__ T.d_BadNumber___init__ ["self", "value"] (spE1C T.C_BadNumber "value") := by
  have G_own_copy := (vok_own_copy (P := P) (w := w) (base := base) T).mono (k := 8) (by decide)
  refine T.F_BadNumber___init__.ok scBadNumber___init__ (fun vs H Q E h => ?_) (fun cdv A outer s H vs Q E hr h => ?_)
  · obtain ⟨a, y, rfl, _⟩ := h
    rfl
  · obtain ⟨a, y, rfl, ha, hc, q⟩ := h
    refine ⟨_, (pss_one (ps_ost (pv 0) (pe_call G_own_copy hr (by rfl) T.g_own_copy T.F_own_copy.kp T.b_own_copy .nil pass0 (pa_cons (pv 1) pa_nil)))), ?_⟩
    exact ⟨y, rfl, y, rfl, hc, fun H1 z o => ⟨.ref a, rfl, a, T.C_BadNumber, rfl, T.ox_BadNumber, T.no_BadNumber_value, .inl ⟨o.same _ _ ha, fun d nd nda => q _ _ o d nd nda⟩⟩⟩
theorem vok_BadPlan___init__ (T : Top K mg) : FnOk P w K mg base CX0 (8 + 1) T.a_BadPlan___init__ T.d_BadPlan___init__ ["self", "part"] (spE1C T.C_BadPlan "part") := by
  have G_own_copy := (vok_own_copy (P := P) (w := w) (base := base) T).mono (k := 8) (by decide)
  refine T.F_BadPlan___init__.ok scBadPlan___init__ (fun vs H Q E h => ?_) (fun cdv A outer s H vs Q E hr h => ?_)
  · obtain ⟨a, y, rfl, _⟩ := h
    rfl
  · obtain ⟨a, y, rfl, ha, hc, q⟩ := h
    refine ⟨_, (pss_one (ps_ost (pv 0) (pe_call G_own_copy hr (by rfl) T.g_own_copy T.F_own_copy.kp T.b_own_copy .nil pass0 (pa_cons (pv 1) pa_nil)))), ?_⟩
    exact ⟨y, rfl, y, rfl, hc, fun H1 z o => ⟨.ref a, rfl, a, T.C_BadPlan, rfl, T.ox_BadPlan, T.no_BadPlan_part, .inl ⟨o.same _ _ ha, fun d nd nda => q _ _ o d nd nda⟩⟩⟩
theorem vok_BadQuestion___init__ (T : Top K mg) : FnOk P w K mg base CX0 (8 + 1) T.a_BadQuestion___init__ T.d_BadQuestion___init__ ["self", "part"] (spE1C T.C_BadQuestion "part") := by
  have G_own_copy := (vok_own_copy (P := P) (w := w) (base := base) T).mono (k := 8) (by decide)
  refine T.F_BadQuestion___init__.ok scBadQuestion___init__ (fun vs H Q E h => ?_) (fun cdv A outer s H vs Q E hr h => ?_)
  · obtain ⟨a, y, rfl, _⟩ := h
    rfl
  · obtain ⟨a, y, rfl, ha, hc, q⟩ := h
    refine ⟨_, (pss_one (ps_ost (pv 0) (pe_call G_own_copy hr (by rfl) T.g_own_copy T.F_own_copy.kp T.b_own_copy .nil pass0 (pa_cons (pv 1) pa_nil)))), ?_⟩
    exact ⟨y, rfl, y, rfl, hc, fun H1 z o => ⟨.ref a, rfl, a, T.C_BadQuestion, rfl, T.ox_BadQuestion, T.no_BadQuestion_part, .inl ⟨o.same _ _ ha, fun d nd nda => q _ _ o d nd nda⟩⟩⟩
theorem vok_BadRewrite___init__ (T : Top K mg) : FnOk P w K mg base CX0 (8 + 1) T.a_BadRewrite___init__ T.d_BadRewrite___init__ ["self", "part"] (spE1C T.C_BadRewrite "part") := by
  have G_own_copy := (vok_own_copy (P := P) (w := w) (base := base) T).mono (k := 8) (by decide)
  refine T.F_BadRewrite___init__.ok scBadRewrite___init__ (fun vs H Q E h => ?_) (fun cdv A outer s H vs Q E hr h => ?_)
  · obtain ⟨a, y, rfl, _⟩ := h
    rfl
  · obtain ⟨a, y, rfl, ha, hc, q⟩ := h
    refine ⟨_, (pss_one (ps_ost (pv 0) (pe_call G_own_copy hr (by rfl) T.g_own_copy T.F_own_copy.kp T.b_own_copy .nil pass0 (pa_cons (pv 1) pa_nil)))), ?_⟩
    exact ⟨y, rfl, y, rfl, hc, fun H1 z o => ⟨.ref a, rfl, a, T.C_BadRewrite, rfl, T.ox_BadRewrite, T.no_BadRewrite_part, .inl ⟨o.same _ _ ha, fun d nd nda => q _ _ o d nd nda⟩⟩⟩
theorem vok_BadRow___init__ (T : Top K mg) : FnOk P w K mg base CX0 (8 + 1) T.a_BadRow___init__ T.d_BadRow___init__ ["self", "part"] (spE1C T.C_BadRow "part") := by
  have G_own_copy := (vok_own_copy (P := P) (w := w) (base := base) T).mono (k := 8) (by decide)
  refine T.F_BadRow___init__.ok scBadRow___init__ (fun vs H Q E h => ?_) (fun cdv A outer s H vs Q E hr h => ?_)
  · obtain ⟨a, y, rfl, _⟩ := h
    rfl
  · obtain ⟨a, y, rfl, ha, hc, q⟩ := h
    refine ⟨_, (pss_one (ps_ost (pv 0) (pe_call G_own_copy hr (by rfl) T.g_own_copy T.F_own_copy.kp T.b_own_copy .nil pass0 (pa_cons (pv 1) pa_nil)))), ?_⟩
    exact ⟨y, rfl, y, rfl, hc, fun H1 z o => ⟨.ref a, rfl, a, T.C_BadRow, rfl, T.ox_BadRow, T.no_BadRow_part, .inl ⟨o.same _ _ ha, fun d nd nda => q _ _ o d nd nda⟩⟩⟩
theorem vok_BadRule___init__ (T : Top K mg) : FnOk P w K mg base CX0 (8 + 1) T.a_BadRule___init__ T.d_BadRule___init__ ["self", "part"] (spE1C T.C_BadRule "part") := by
  have G_own_copy := (vok_own_copy (P := P) (w := w) (base := base) T).mono (k := 8) (by decide)
  refine T.F_BadRule___init__.ok scBadRule___init__ (fun vs H Q E h => ?_) (fun cdv A outer s H vs Q E hr h => ?_)
  · obtain ⟨a, y, rfl, _⟩ := h
    rfl
  · obtain ⟨a, y, rfl, ha, hc, q⟩ := h
    refine ⟨_, (pss_one (ps_ost (pv 0) (pe_call G_own_copy hr (by rfl) T.g_own_copy T.F_own_copy.kp T.b_own_copy .nil pass0 (pa_cons (pv 1) pa_nil)))), ?_⟩
    exact ⟨y, rfl, y, rfl, hc, fun H1 z o => ⟨.ref a, rfl, a, T.C_BadRule, rfl, T.ox_BadRule, T.no_BadRule_part, .inl ⟨o.same _ _ ha, fun d nd nda => q _ _ o d nd nda⟩⟩⟩
theorem vok_BadStore___init__ (T : Top K mg) : FnOk P w K mg base CX0 (8 + 1) T.a_BadStore___init__ T.d_BadStore___init__ ["self", "part"] (spE1C T.C_BadStore "part") := by
  have G_own_copy := (vok_own_copy (P := P) (w := w) (base := base) T).mono (k := 8) (by decide)
  refine T.F_BadStore___init__.ok scBadStore___init__ (fun vs H Q E h => ?_) (fun cdv A outer s H vs Q E hr h => ?_)
  · obtain ⟨a, y, rfl, _⟩ := h
    rfl
  · obtain ⟨a, y, rfl, ha, hc, q⟩ := h
    refine ⟨_, (pss_one (ps_ost (pv 0) (pe_call G_own_copy hr (by rfl) T.g_own_copy T.F_own_copy.kp T.b_own_copy .nil pass0 (pa_cons (pv 1) pa_nil)))), ?_⟩
    exact ⟨y, rfl, y, rfl, hc, fun H1 z o => ⟨.ref a, rfl, a, T.C_BadStore, rfl, T.ox_BadStore, T.no_BadStore_part, .inl ⟨o.same _ _ ha, fun d nd nda => q _ _ o d nd nda⟩⟩⟩
theorem vok_BadTest___init__ (T : Top K mg) : FnOk P w K mg base CX0 (8 + 1) T.a_BadTest___init__ T.d_BadTest___init__ ["self", "part"] (spE1C T.C_BadTest "part") := by
  have G_own_copy := (vok_own_copy (P := P) (w := w) (base := base) T).mono (k := 8) (by decide)
  refine T.F_BadTest___init__.ok scBadTest___init__ (fun vs H Q E h => ?_) (fun cdv A outer s H vs Q E hr h => ?_)
  · obtain ⟨a, y, rfl, _⟩ := h
    rfl
  · obtain ⟨a, y, rfl, ha, hc, q⟩ := h
    refine ⟨_, (pss_one (ps_ost (pv 0) (pe_call G_own_copy hr (by rfl) T.g_own_copy T.F_own_copy.kp T.b_own_copy .nil pass0 (pa_cons (pv 1) pa_nil)))), ?_⟩
    exact ⟨y, rfl, y, rfl, hc, fun H1 z o => ⟨.ref a, rfl, a, T.C_BadTest, rfl, T.ox_BadTest, T.no_BadTest_part, .inl ⟨o.same _ _ ha, fun d nd nda => q _ _ o d nd nda⟩⟩⟩
theorem vok_BadText___init__ (T : Top K mg) : FnOk P w K mg base CX0 (8 + 1) T.a_BadText___init__ T.d_BadText___init__ ["self", "line", "word"] (spE2C T.C_BadText "line" "word") := by
  have G_own_copy := (vok_own_copy (P := P) (w := w) (base := base) T).mono (k := 8) (by decide)
  refine T.F_BadText___init__.ok scBadText___init__ (fun vs H Q E h => ?_) (fun cdv A outer s H vs Q E hr h => ?_)
  · obtain ⟨a, y, z, rfl, _⟩ := h
    rfl
  · obtain ⟨a, y, y2, rfl, ha, hc, hc2, q⟩ := h
    refine ⟨_, (pss_cons (ps_ost (pv 0) (pe_call G_own_copy hr (by rfl) T.g_own_copy T.F_own_copy.kp T.b_own_copy .nil pass0 (pa_cons (pv 1) pa_nil)))
  (pss_one (ps_ost (pv 0) (pe_call G_own_copy hr (by rfl) T.g_own_copy T.F_own_copy.kp T.b_own_copy .nil pass0 (pa_cons (pv 2) pa_nil))))), ?_⟩
    refine ⟨y, rfl, y, rfl, hc, fun H1 z o => ⟨.ref a, rfl, a, T.C_BadText, rfl, T.ox_BadText, T.no_BadText_line, .inl ⟨o.same _ _ ha, fun d nd nda => ?_⟩⟩⟩
    have over : CpIn (upd (upd H1 d (exd d [("line", z)])) a (exo a T.C_BadText (some d))) y2 := hc2.over fun b u e ne => by
      have e1 := o.same _ _ e
      have n1 : b ≠ a := fun c => by
        rw [c, ha] at e
        exact ne _ (Option.some.inj e).symm
      rw [upd_ne n1, upd_ne (ne_of_none e1 nd)]
      exact e1
    refine ⟨y2, rfl, y2, rfl, over, fun H2 z2 o2 => ⟨.ref a, rfl, a, T.C_BadText, rfl, T.ox_BadText, T.no_BadText_word, .inr ⟨d, _, o2.same _ _ upd_same, o2.same _ _ ((upd_ne nda).trans upd_same), by simp, q _ _ o d nd nda _ _ o2⟩⟩⟩
theorem vok_Breaks___init__ (T : Top K mg) : FnOk P w K mg base CX0 (8 + 1) T.a_Breaks___init__ T.d_Breaks___init__ ["self", "rule"] (spE1C T.C_Breaks "rule") := by
  have G_own_copy := (vok_own_copy (P := P) (w := w) (base := base) T).mono (k := 8) (by decide)
  refine T.F_Breaks___init__.ok scBreaks___init__ (fun vs H Q E h => ?_) (fun cdv A outer s H vs Q E hr h => ?_)
  · obtain ⟨a, y, rfl, _⟩ := h
    rfl
  · obtain ⟨a, y, rfl, ha, hc, q⟩ := h
    refine ⟨_, (pss_one (ps_ost (pv 0) (pe_call G_own_copy hr (by rfl) T.g_own_copy T.F_own_copy.kp T.b_own_copy .nil pass0 (pa_cons (pv 1) pa_nil)))), ?_⟩
    exact ⟨y, rfl, y, rfl, hc, fun H1 z o => ⟨.ref a, rfl, a, T.C_Breaks, rfl, T.ox_Breaks, T.no_Breaks_rule, .inl ⟨o.same _ _ ha, fun d nd nda => q _ _ o d nd nda⟩⟩⟩
theorem vok_NoColumn___init__ (T : Top K mg) : FnOk P w K mg base CX0 (8 + 1) T.a_NoColumn___init__ T.d_NoColumn___init__ ["self", "name"] (spE1C T.C_NoColumn "name") := by
  have G_own_copy := (vok_own_copy (P := P) (w := w) (base := base) T).mono (k := 8) (by decide)
  refine T.F_NoColumn___init__.ok scNoColumn___init__ (fun vs H Q E h => ?_) (fun cdv A outer s H vs Q E hr h => ?_)
  · obtain ⟨a, y, rfl, _⟩ := h
    rfl
  · obtain ⟨a, y, rfl, ha, hc, q⟩ := h
    refine ⟨_, (pss_one (ps_ost (pv 0) (pe_call G_own_copy hr (by rfl) T.g_own_copy T.F_own_copy.kp T.b_own_copy .nil pass0 (pa_cons (pv 1) pa_nil)))), ?_⟩
    exact ⟨y, rfl, y, rfl, hc, fun H1 z o => ⟨.ref a, rfl, a, T.C_NoColumn, rfl, T.ox_NoColumn, T.no_NoColumn_name, .inl ⟨o.same _ _ ha, fun d nd nda => q _ _ o d nd nda⟩⟩⟩
theorem vok_NoFit___init__ (T : Top K mg) : FnOk P w K mg base CX0 (8 + 1) T.a_NoFit___init__ T.d_NoFit___init__ ["self", "place"] (spE1C T.C_NoFit "place") := by
  have G_own_copy := (vok_own_copy (P := P) (w := w) (base := base) T).mono (k := 8) (by decide)
  refine T.F_NoFit___init__.ok scNoFit___init__ (fun vs H Q E h => ?_) (fun cdv A outer s H vs Q E hr h => ?_)
  · obtain ⟨a, y, rfl, _⟩ := h
    rfl
  · obtain ⟨a, y, rfl, ha, hc, q⟩ := h
    refine ⟨_, (pss_one (ps_ost (pv 0) (pe_call G_own_copy hr (by rfl) T.g_own_copy T.F_own_copy.kp T.b_own_copy .nil pass0 (pa_cons (pv 1) pa_nil)))), ?_⟩
    exact ⟨y, rfl, y, rfl, hc, fun H1 z o => ⟨.ref a, rfl, a, T.C_NoFit, rfl, T.ox_NoFit, T.no_NoFit_place, .inl ⟨o.same _ _ ha, fun d nd nda => q _ _ o d nd nda⟩⟩⟩
theorem vok_NoPlace___init__ (T : Top K mg) : FnOk P w K mg base CX0 (8 + 1) T.a_NoPlace___init__ T.d_NoPlace___init__ ["self", "place"] (spE1C T.C_NoPlace "place") := by
  have G_own_copy := (vok_own_copy (P := P) (w := w) (base := base) T).mono (k := 8) (by decide)
  refine T.F_NoPlace___init__.ok scNoPlace___init__ (fun vs H Q E h => ?_) (fun cdv A outer s H vs Q E hr h => ?_)
  · obtain ⟨a, y, rfl, _⟩ := h
    rfl
  · obtain ⟨a, y, rfl, ha, hc, q⟩ := h
    refine ⟨_, (pss_one (ps_ost (pv 0) (pe_call G_own_copy hr (by rfl) T.g_own_copy T.F_own_copy.kp T.b_own_copy .nil pass0 (pa_cons (pv 1) pa_nil)))), ?_⟩
    exact ⟨y, rfl, y, rfl, hc, fun H1 z o => ⟨.ref a, rfl, a, T.C_NoPlace, rfl, T.ox_NoPlace, T.no_NoPlace_place, .inl ⟨o.same _ _ ha, fun d nd nda => q _ _ o d nd nda⟩⟩⟩
theorem vok_NoRow___init__ (T : Top K mg) : FnOk P w K mg base CX0 (8 + 1) T.a_NoRow___init__ T.d_NoRow___init__ ["self", "row"] (spE1C T.C_NoRow "row") := by
  have G_own_copy := (vok_own_copy (P := P) (w := w) (base := base) T).mono (k := 8) (by decide)
  refine T.F_NoRow___init__.ok scNoRow___init__ (fun vs H Q E h => ?_) (fun cdv A outer s H vs Q E hr h => ?_)
  · obtain ⟨a, y, rfl, _⟩ := h
    rfl
  · obtain ⟨a, y, rfl, ha, hc, q⟩ := h
    refine ⟨_, (pss_one (ps_ost (pv 0) (pe_call G_own_copy hr (by rfl) T.g_own_copy T.F_own_copy.kp T.b_own_copy .nil pass0 (pa_cons (pv 1) pa_nil)))), ?_⟩
    exact ⟨y, rfl, y, rfl, hc, fun H1 z o => ⟨.ref a, rfl, a, T.C_NoRow, rfl, T.ox_NoRow, T.no_NoRow_row, .inl ⟨o.same _ _ ha, fun d nd nda => q _ _ o d nd nda⟩⟩⟩
theorem vok_NoTable___init__ (T : Top K mg) : FnOk P w K mg base CX0 (8 + 1) T.a_NoTable___init__ T.d_NoTable___init__ ["self", "name"] (spE1C T.C_NoTable "name") := by
  have G_own_copy := (vok_own_copy (P := P) (w := w) (base := base) T).mono (k := 8) (by decide)
  refine T.F_NoTable___init__.ok scNoTable___init__ (fun vs H Q E h => ?_) (fun cdv A outer s H vs Q E hr h => ?_)
  · obtain ⟨a, y, rfl, _⟩ := h
    rfl
  · obtain ⟨a, y, rfl, ha, hc, q⟩ := h
    refine ⟨_, (pss_one (ps_ost (pv 0) (pe_call G_own_copy hr (by rfl) T.g_own_copy T.F_own_copy.kp T.b_own_copy .nil pass0 (pa_cons (pv 1) pa_nil)))), ?_⟩
    exact ⟨y, rfl, y, rfl, hc, fun H1 z o => ⟨.ref a, rfl, a, T.C_NoTable, rfl, T.ox_NoTable, T.no_NoTable_name, .inl ⟨o.same _ _ ha, fun d nd nda => q _ _ o d nd nda⟩⟩⟩
theorem vok_TooMany___init__ (T : Top K mg) : FnOk P w K mg base CX0 (8 + 1) T.a_TooMany___init__ T.d_TooMany___init__ ["self", "what", "most"] (spE2C T.C_TooMany "what" "most") := by
  have G_own_copy := (vok_own_copy (P := P) (w := w) (base := base) T).mono (k := 8) (by decide)
  refine T.F_TooMany___init__.ok scTooMany___init__ (fun vs H Q E h => ?_) (fun cdv A outer s H vs Q E hr h => ?_)
  · obtain ⟨a, y, z, rfl, _⟩ := h
    rfl
  · obtain ⟨a, y, y2, rfl, ha, hc, hc2, q⟩ := h
    refine ⟨_, (pss_cons (ps_ost (pv 0) (pe_call G_own_copy hr (by rfl) T.g_own_copy T.F_own_copy.kp T.b_own_copy .nil pass0 (pa_cons (pv 1) pa_nil)))
  (pss_one (ps_ost (pv 0) (pe_call G_own_copy hr (by rfl) T.g_own_copy T.F_own_copy.kp T.b_own_copy .nil pass0 (pa_cons (pv 2) pa_nil))))), ?_⟩
    refine ⟨y, rfl, y, rfl, hc, fun H1 z o => ⟨.ref a, rfl, a, T.C_TooMany, rfl, T.ox_TooMany, T.no_TooMany_what, .inl ⟨o.same _ _ ha, fun d nd nda => ?_⟩⟩⟩
    have over : CpIn (upd (upd H1 d (exd d [("what", z)])) a (exo a T.C_TooMany (some d))) y2 := hc2.over fun b u e ne => by
      have e1 := o.same _ _ e
      have n1 : b ≠ a := fun c => by
        rw [c, ha] at e
        exact ne _ (Option.some.inj e).symm
      rw [upd_ne n1, upd_ne (ne_of_none e1 nd)]
      exact e1
    refine ⟨y2, rfl, y2, rfl, over, fun H2 z2 o2 => ⟨.ref a, rfl, a, T.C_TooMany, rfl, T.ox_TooMany, T.no_TooMany_most, .inr ⟨d, _, o2.same _ _ upd_same, o2.same _ _ ((upd_ne nda).trans upd_same), by simp, q _ _ o d nd nda _ _ o2⟩⟩⟩
theorem vok_Unlike___init__ (T : Top K mg) : FnOk P w K mg base CX0 (8 + 1) T.a_Unlike___init__ T.d_Unlike___init__ ["self", "paper"] (spE1C T.C_Unlike "paper") := by
  have G_own_copy := (vok_own_copy (P := P) (w := w) (base := base) T).mono (k := 8) (by decide)
  refine T.F_Unlike___init__.ok scUnlike___init__ (fun vs H Q E h => ?_) (fun cdv A outer s H vs Q E hr h => ?_)
  · obtain ⟨a, y, rfl, _⟩ := h
    rfl
  · obtain ⟨a, y, rfl, ha, hc, q⟩ := h
    refine ⟨_, (pss_one (ps_ost (pv 0) (pe_call G_own_copy hr (by rfl) T.g_own_copy T.F_own_copy.kp T.b_own_copy .nil pass0 (pa_cons (pv 1) pa_nil)))), ?_⟩
    exact ⟨y, rfl, y, rfl, hc, fun H1 z o => ⟨.ref a, rfl, a, T.C_Unlike, rfl, T.ox_Unlike, T.no_Unlike_paper, .inl ⟨o.same _ _ ha, fun d nd nda => q _ _ o d nd nda⟩⟩⟩
theorem vok_AtRow___init__ (T : Top K mg) : FnOk P w K mg base CX0 (8 + 1) T.a_AtRow___init__ T.d_AtRow___init__ ["self", "row"] (spE1C T.C_AtRow "row") := by
  have G_own_copy := (vok_own_copy (P := P) (w := w) (base := base) T).mono (k := 8) (by decide)
  refine T.F_AtRow___init__.ok scAtRow___init__ (fun vs H Q E h => ?_) (fun cdv A outer s H vs Q E hr h => ?_)
  · obtain ⟨a, y, rfl, _⟩ := h
    rfl
  · obtain ⟨a, y, rfl, ha, hc, q⟩ := h
    refine ⟨_, (pss_one (ps_ost (pv 0) (pe_call G_own_copy hr (by rfl) T.g_own_copy T.F_own_copy.kp T.b_own_copy .nil pass0 (pa_cons (pv 1) pa_nil)))), ?_⟩
    exact ⟨y, rfl, y, rfl, hc, fun H1 z o => ⟨.ref a, rfl, a, T.C_AtRow, rfl, T.ox_AtRow, T.no_AtRow_row, .inl ⟨o.same _ _ ha, fun d nd nda => q _ _ o d nd nda⟩⟩⟩

end

section
variable {P : Program} {w : World} {K : PySem.W.Frag} {mg : Str → Option Value} {base : Heap}
theorem ok_draw (T : Top K mg) : FnOk P w K mg base CX0 (0 + 1) T.a__law_draw T.d__law_draw ["_law_pen_here", "_law_many"] spDraw := by
  refine T.F__law_draw.ok sc_law_draw (fun vs H Q E h => ?_) (fun cdv A outer s H vs Q E hr h => ?_)
  · obtain ⟨p, c, many, m, rfl, _⟩ := h
    rfl
  · obtain ⟨p, c, many, m, rfl, ⟨ns, n, g, hp, hc, ncp, hl, n0, nm, g0⟩, h1, h2, hm, q⟩ := h
    refine ⟨_, (pss_cons (ps_if (pt_cmpR op_gt (pe_ix (ixL (K := K) rfl) (pv 0) pe_int (fun _ _ => rfl)) pe_int (nomark _))
    (pss_cons (ps_set (i := 2) sc_law_draw.nd rfl (.inl rfl) (pe_op op_modN (pe_callTy call_int1 (by rfl) T.z_int (by decide +kernel) (pa_cons (pe_ix (ixL (K := K) rfl) (pv 0) pe_int (fun _ _ => rfl)) pa_nil)) (pv 1)))
  (pss_cons (ps_asg (pe_op op_fdivW (pe_callTy call_int1 (by rfl) T.z_int (by decide +kernel) (pa_cons (pe_ix (ixL (K := K) rfl) (pv 0) pe_int (fun _ _ => rfl)) pa_nil)) (pv 1)) (pg_sub (pv 0) pe_int set_list))
  (pss_one (ps_ret (pv 2)))))
    pss_nil)
  (pss_cons (ps_set (i := 3) sc_law_draw.nd rfl (.inl rfl) (pe_ix (ixL (K := K) rfl) (pv 0) pe_int (fun _ _ => rfl)))
  (pss_cons (ps_asg (pe_op op_add (pv 3) pe_int) (pg_sub (pv 0) pe_int set_list))
  (pss_cons (ps_set (i := 4) sc_law_draw.nd rfl (.inl rfl) (pe_op op_add (pe_op op_mul pe_int (pv 3)) pe_int))
  (pss_cons (ps_if (pt_cmpR (op_neD (Room.units hr)) (pe_ix (ixL (K := K) rfl) (pv 0) pe_int (fun _ _ => rfl)) (pe_lst pa_nil) (nomark _))
    (pss_one (ps_set (i := 4) sc_law_draw.nd rfl (.inl rfl) (pe_ix (ixL (K := K) rfl) (pe_ix (ixL (K := K) rfl) (pv 0) pe_int (fun _ _ => rfl)) (pe_op op_modN (pe_callTy call_int1 (by rfl) T.z_int (by decide +kernel) (pa_cons (pv 3) pa_nil)) (pe_callB call_len_seq (by rfl) T.z_len (by decide +kernel) (pa_cons (pe_ix (ixL (K := K) rfl) (pv 0) pe_int (fun _ _ => rfl)) pa_nil))) (fun _ _ => rfl))))
    pss_nil)
  (pss_cons (ps_if (PW.pt (pw_and (pt_cmpR op_lt (pv 3) (pe_callB call_len_seq (by rfl) T.z_len (by decide +kernel) (pa_cons (pe_ix (ixL (K := K) rfl) (pv 0) pe_int (fun _ _ => rfl)) pa_nil)) (nomark _)) (pw_and1 (pt_cmpR op_ge (pe_callB call_abs (by rfl) T.z_abs (by decide +kernel) (pa_cons (pv 4) pa_nil)) (pe_op op_pow pe_int pe_int) (nomark _)))))
    (pss_cons (ps_set (i := 5) sc_law_draw.nd rfl (.inl rfl) (pe_op op_add (pe_op op_mul pe_int (pe_op op_sub (pe_callB call_abs (by rfl) T.z_abs (by decide +kernel) (pa_cons (pv 4) pa_nil)) (pe_op op_pow pe_int pe_int))) (pe_callTy call_int1 (by rfl) T.z_int (by decide +kernel) (pa_cons (pe_cmpR op_lt (pv 4) pe_int (nomark _)) pa_nil))))
  (pss_cons (ps_asg (pe_op op_fdivW (pe_callTy call_int1 (by rfl) T.z_int (by decide +kernel) (pa_cons (pv 5) pa_nil)) (pv 1)) (pg_sub (pv 0) pe_int set_list))
  (pss_one (ps_ret (pe_op op_modN (pe_callTy call_int1 (by rfl) T.z_int (by decide +kernel) (pa_cons (pv 5) pa_nil)) (pv 1))))))
    pss_nil)
  (pss_cons (ps_set (i := 6) sc_law_draw.nd rfl (.inl rfl) (pe_op op_modN (pe_callTy call_int1 (by rfl) T.z_int (by decide +kernel) (pa_cons (pe_op op_pow (pe_op op_add (pe_op op_add (pe_op op_modN (pe_callTy call_int1 (by rfl) T.z_int (by decide +kernel) (pa_cons (pv 4) pa_nil)) pe_int) (pe_op op_mul pe_int (pv 3))) pe_int) pe_int) pa_nil)) pe_int))
  (pss_cons (ps_set (i := 6) sc_law_draw.nd rfl (.inl rfl) (pe_op op_modN (pe_callTy call_int1 (by rfl) T.z_int (by decide +kernel) (pa_cons (pe_op op_pow (pe_op op_add (pe_op op_add (pe_op op_mul (pv 6) (pe_op op_add (pe_op op_mul pe_int (pv 3)) pe_int)) (pe_op op_mul (pe_op op_mul pe_int (pv 3)) (pv 3))) pe_int) pe_int) pa_nil)) pe_int))
  (pss_one (ps_ret (pe_op op_modN (pe_callTy call_int1 (by rfl) T.z_int (by decide +kernel) (pa_cons (pe_op op_fdivW (pv 6) pe_int) pa_nil)) (pv 1)))))))))))), ?_⟩
    -- if pen[2] > 0
    refine ⟨.ref p, rfl, p, _, 2, .int g, rfl, rfl, .of hp, atI_nat (j := 2) rfl, _, _, rfl, rfl, _, rfl, ite2 (fun e => ?_) (fun e => ?_)⟩
    · have hg : (0 : Int) < g := of_decide_eq_true e
      -- digit = int(pen[2]) % many
      refine ⟨.ref p, rfl, p, _, 2, .int g, rfl, rfl, .of hp, atI_nat (j := 2) rfl, .inl ⟨g, rfl, .int many, rfl, g, many, rfl, rfl, by omega, ?_⟩⟩
      -- pen[2] = int(pen[2]) // many
      refine ⟨.ref p, rfl, p, _, 2, .int g, rfl, rfl, .of hp, atI_nat (j := 2) rfl, .inl ⟨g, rfl, .int many, rfl, g, many, rfl, rfl, wide_div (b := 60) (by omega) (by omega) (by omega) (by omega), .ref p, rfl, p, _, 2, 2, rfl, rfl, hp, rfl, ?_⟩⟩
      refine ⟨_, rfl, q _ _ (fmod_lo _ h1) (fmod_lt _ h1) (pen_set hp hc ncp hl n0 (by omega) (Int.ediv_nonneg g0 (by omega))) (but_upd _ _)⟩
    · -- at = pen[1]; pen[1] = at + 1
      refine ⟨.ref p, rfl, p, _, 1, .int n, rfl, rfl, .of hp, atI_nat (j := 1) rfl, ?_⟩
      refine ⟨.int n, rfl, n, 1, rfl, rfl, .ref p, rfl, p, _, 1, 1, rfl, rfl, hp, rfl, ?_⟩
      generalize hH1 : upd H p (.lst ([V.ref c, .int n, .int g].set 1 (.int (n + 1)))) = H1
      have hp1 : H1 p = some (.lst [.ref c, .int (n + 1), .int g]) := by
        rw [← hH1, upd_same]
        rfl
      have hc1 : H1 c = some (.lst (ns.map V.int)) := by
        rw [← hH1, upd_ne ncp]
        exact hc
      have hb1 : But p H H1 := by
        rw [← hH1]
        exact but_upd _ _
      -- cell = C * at + D
      refine ⟨.int n, rfl, _, n, rfl, rfl, .inl (by decide), _, _, rfl, rfl, ?_⟩
      -- if pen[0] != []
      refine ⟨.ref p, rfl, p, _, 0, .ref c, rfl, rfl, .of hp1, atI_nat (j := 0) rfl, Nat.zero_le _, fun o no => ?_⟩
      have hpo : p ≠ o := ne_of_none hp1 no
      have hco : c ≠ o := ne_of_none hc1 no
      refine ⟨.list (ns.map .int), .list [], .lst (.of ((upd_ne hco).trans hc1)) (dp_ints ns), .lst (.of upd_same) .nil, PySem.W.ke_shaped_ints ns, PySem.W.ke_shaped_ints [], _, rfl, ?_⟩
      generalize hH2 : upd H1 o (.lst []) = H2
      have hp2 : H2 p = some (.lst [.ref c, .int (n + 1), .int g]) := by
        rw [← hH2, upd_ne hpo]
        exact hp1
      have hc2 : H2 c = some (.lst (ns.map V.int)) := by
        rw [← hH2, upd_ne hco]
        exact hc1
      have hb2 : But p H H2 := by
        rw [← hH2]
        exact hb1.trans (but_new no)
      -- cell = pen[0][int(at) % len(pen[0])]
      refine ite2 (fun e2 => ?thn) (fun e2 => ?els)
      case' els =>
        dsimp only
        generalize ((_ : Int) * n + _ : Int) = cell
      case' thn =>
        have hn : ns ≠ [] := fun z => by
          subst z
          cases e2
        have hln : 0 < ns.length := List.length_pos_iff.mpr hn
        have hz : ((ns.map V.int).length : Int) = ns.length := by rw [List.length_map]
        have hj0 : 0 ≤ n.fmod (ns.map V.int).length := fmod_lo _ (by omega)
        have hj1 : n.fmod (ns.map V.int).length < ns.length := hz ▸ fmod_lt _ (by omega)
        have hat : atI (ns.map V.int) (n.fmod (ns.map V.int).length) = some (.int (ns.getD (n.fmod (ns.map V.int).length).toNat 0)) := by
          have := atI_nat (xs := ns.map V.int) (j := (n.fmod (ns.map V.int).length).toNat) (v := .int (ns.getD (n.fmod (ns.map V.int).length).toNat 0)) (by
            rw [List.getElem?_map, List.getD_eq_getElem?_getD, List.getElem?_eq_getElem (by omega)]
            rfl)
          rw [Int.toNat_of_nonneg hj0] at this
          exact this
        refine ⟨.ref p, rfl, p, _, 0, .ref c, rfl, rfl, .of hp2, atI_nat (j := 0) rfl, .int n, rfl, .inl ⟨n, rfl, .ref p, rfl, p, _, 0, .ref c, rfl, rfl, .of hp2, atI_nat (j := 0) rfl, c, _, rfl, .inl (.of hc2), n, _, rfl, rfl, by omega, c, _, _, _, rfl, rfl, .of hc2, hat, ?_⟩⟩
        clear hat hj1 hj0
        generalize ns.getD (n.fmod (ns.map V.int).length).toNat 0 = cell
      all_goals
        -- if at < len(pen[0]) and abs(cell) >= 10 ** 18
        refine ⟨.int n, rfl, .ref p, rfl, p, _, 0, .ref c, rfl, rfl, .of hp2, atI_nat (j := 0) rfl, c, _, rfl, .inl (.of hc2), n, _, rfl, rfl, _, rfl, ite2 (fun e3 => ?_) (fun e3 => ?_)⟩
        · refine ⟨.int cell, rfl, cell, rfl, 10, 18, rfl, rfl, ⟨by decide, by decide, by decide⟩, _, _, rfl, rfl, _, rfl, ite2 (fun e4 => ?_) (fun e4 => ?_)⟩
          · -- great = 2 * (abs(cell) - 10 ** 18) + int(cell < 0)
            have hbig : (10 : Int) ^ 18 ≤ if cell < 0 then -cell else cell := of_decide_eq_true e4
            refine ⟨.int cell, rfl, cell, rfl, 10, 18, rfl, rfl, ⟨by decide, by decide, by decide⟩, _, _, rfl, rfl, 2, _, rfl, rfl, .inl (by decide), .int cell, rfl, _, _, rfl, rfl, .inr ⟨_, rfl, _, _, rfl, rfl, ?_⟩⟩
            have hgr : ∀ k : Bool, 0 ≤ 2 * ((if cell < 0 then -cell else cell) - (10 : Int) ^ (18 : Int).toNat) + (if k = true then 1 else 0) := fun k => by
              have : (10 : Int) ^ (18 : Int).toNat = (10 : Int) ^ 18 := rfl
              rw [this]
              cases k <;> simp <;> omega
            refine ⟨_, rfl, .inl ⟨_, rfl, .int many, rfl, _, many, rfl, rfl, wide_div (b := 60) (by omega) (by omega) (by omega) (by omega), .ref p, rfl, p, _, 2, 2, rfl, rfl, hp2, rfl, ?_⟩⟩
            refine ⟨_, rfl, .inl ⟨_, rfl, .int many, rfl, _, many, rfl, rfl, by omega, ?_⟩⟩
            exact q _ _ (fmod_lo _ h1) (fmod_lt _ h1) (pen_set hp2 hc2 ncp hl (by omega) (by omega) (Int.ediv_nonneg (hgr _) (by omega))) (hb2.trans (but_upd _ _))
          · skip
            refine ⟨.int cell, rfl, .inl ⟨cell, rfl, cell, _, rfl, rfl, (by show (_ : Int) ≠ 0; decide), .int n, rfl, _, n, rfl, rfl, .inl (by decide), _, _, rfl, rfl, _, _, rfl, rfl, _, _, rfl, rfl, ⟨by decide, by decide, mix_bound (by decide) (by decide) (by decide) (by decide) (by decide) (by decide) n0 nm hm⟩, (.inl ⟨_, rfl, _, _, rfl, rfl, (by show (_ : Int) ≠ 0; decide), ?_⟩)⟩⟩
            refine ⟨_, rfl, .int n, rfl, 2, n, rfl, rfl, .inl (by decide), _, _, rfl, rfl, _, _, rfl, rfl, .inl (fmod_64 (by decide) (by decide)), .int n, rfl, _, n, rfl, rfl, .inl (by decide), .int n, rfl, _, n, rfl, rfl, .inr ⟨by omega, by omega⟩, _, _, rfl, rfl, _, _, rfl, rfl, _, _, rfl, rfl, ⟨by decide, by decide, mix_bound2 (by decide) (by decide) (by decide) (by decide) (by decide) (by decide) (fmod_lo _ (by decide)) (fmod_32 (by decide) (by decide)) n0 nm hm⟩, (.inl ⟨_, rfl, _, _, rfl, rfl, (by show (_ : Int) ≠ 0; decide), ?_⟩)⟩
            refine ⟨_, rfl, _, 32, rfl, rfl, ⟨by decide, by decide⟩, .inl ⟨_, rfl, .int many, rfl, _, many, rfl, rfl, by omega, ?_⟩⟩
            exact q _ _ (fmod_lo _ h1) (fmod_lt _ h1) ⟨ns, n + 1, g, hp2, hc2, ncp, hl, by omega, by omega, g0⟩ hb2
        · skip
          refine ⟨.int cell, rfl, .inl ⟨cell, rfl, cell, _, rfl, rfl, (by show (_ : Int) ≠ 0; decide), .int n, rfl, _, n, rfl, rfl, .inl (by decide), _, _, rfl, rfl, _, _, rfl, rfl, _, _, rfl, rfl, ⟨by decide, by decide, mix_bound (by decide) (by decide) (by decide) (by decide) (by decide) (by decide) n0 nm hm⟩, (.inl ⟨_, rfl, _, _, rfl, rfl, (by show (_ : Int) ≠ 0; decide), ?_⟩)⟩⟩
          refine ⟨_, rfl, .int n, rfl, 2, n, rfl, rfl, .inl (by decide), _, _, rfl, rfl, _, _, rfl, rfl, .inl (fmod_64 (by decide) (by decide)), .int n, rfl, _, n, rfl, rfl, .inl (by decide), .int n, rfl, _, n, rfl, rfl, .inr ⟨by omega, by omega⟩, _, _, rfl, rfl, _, _, rfl, rfl, _, _, rfl, rfl, ⟨by decide, by decide, mix_bound2 (by decide) (by decide) (by decide) (by decide) (by decide) (by decide) (fmod_lo _ (by decide)) (fmod_32 (by decide) (by decide)) n0 nm hm⟩, (.inl ⟨_, rfl, _, _, rfl, rfl, (by show (_ : Int) ≠ 0; decide), ?_⟩)⟩
          refine ⟨_, rfl, _, 32, rfl, rfl, ⟨by decide, by decide⟩, .inl ⟨_, rfl, .int many, rfl, _, many, rfl, rfl, by omega, ?_⟩⟩
          exact q _ _ (fmod_lo _ h1) (fmod_lt _ h1) ⟨ns, n + 1, g, hp2, hc2, ncp, hl, by omega, by omega, g0⟩ hb2
theorem ok_pen (T : Top K mg) : FnOk P w K mg base CX0 (0 + 1) T.a__law_pen T.d__law_pen ["_law_script"] (spPen K) := by
  refine T.F__law_pen.ok sc_law_pen (fun vs H Q E h => ?_) (fun cdv A outer s H vs Q E hr h => ?_)
  · obtain ⟨a, ns, rfl, _⟩ := h
    rfl
  · obtain ⟨a, ns, rfl, hS, hl, q⟩ := h
    refine ⟨_, (pss_one (ps_ret (pe_lst (pa_cons (pe_callTy call_list_of (by rfl) T.z_list (by decide +kernel) (pa_cons (pe_slice sl_list (pv 0) po_none (po_some pe_int)) pa_nil)) (pa_cons pe_int (pa_cons pe_int pa_nil)))))), ?_⟩
    refine ⟨.ref a, rfl, 63, rfl, a, _, rfl, hS, fun c nc => ?_⟩
    refine ⟨c, _, rfl, .inl (.of upd_same), fun l nl => ?_⟩
    refine ⟨(by show 3 ≤ sizeLine; decide), fun p np => ?_⟩
    have e : cutV (ns.map V.int) none (some 63) = ns.map V.int := cut_all _ (by
      rw [List.length_map]
      exact hl)
    refine q p l _ (((same_new nc).trans (same_new nl)).trans (same_new np)) (((same_new nc).trans (same_new nl)).free np) ((same_new nc).free nl) ⟨ns, 0, 0, upd_same, ?_, ne_of_none upd_same np, hl, by omega, by omega, by omega⟩
    rw [upd_ne (ne_of_none upd_same np), upd_same, e]
theorem dok__law_draw (T : Top K mg) : FnD P w K mg base 1 T.a__law_draw T.d__law_draw ["_law_pen_here", "_law_many"] drawD := draw_of (ok_draw T)
theorem dok__law_pen (T : Top K mg) : FnD P w K mg base 1 T.a__law_pen T.d__law_pen ["_law_script"] penD := pen_of (ok_pen T)
end

section
variable {P : Program} {w : World} {K : PySem.W.Frag} {mg : Str → Option Value} {base : Heap}
/-- one of a list -/
def pickD : SpD := fun ds G Q _ => ∃ (p : Addr) (xs : List D) (m : Nat), ds = [.adr p, .lst xs] ∧ G p = some (.pen m) ∧ xs ≠ [] ∧ xs.length ≤ 1000 ∧ m ≤ 2 ^ 20 ∧ ∀ x ∈ xs, Q x (updG G p (.pen (m + 1)))
theorem dok__law_pick (T : Top K mg) : FnD P w K mg base 5 T.a__law_pick T.d__law_pick ["_law_pen_here", "_law_some"] pickD := by
  have G__law_draw := (dok__law_draw (P := P) (w := w) (base := base) T).mono (k := 2) (by decide)
  refine dfn (k := 4) T.F__law_pick sc_law_pick (fun ds G Q W h => ?_) (fun cdv A outer s H E B W hr tk => have hx := hx_of tk; ⟨_, (db_one (ds_ret (de_ix ix_seq ix_A (dv 1) (de_call G__law_draw (hr.mono (by decide)) (by rfl) T.g__law_draw T.F__law_draw.kp T.b__law_draw hx (da_cons (dv 0) (da_cons (de_callB call_len2 len_A (by rfl) T.z_len (by decide +kernel) (da_cons (dv 1) da_nil)) da_nil))) (fun _ _ => rfl)))), fun ds G Q h => ?_⟩)
  · obtain ⟨p, xs, m, rfl, _⟩ := h
    rfl
  · obtain ⟨p, xs, m, rfl, hG, hne, hl, hm, q⟩ := h
    have pos := List.length_pos_iff.mpr hne
    refine ⟨p, xs.length, m, rfl, hG, by omega, by omega, hm, fun r r0 r1 => ?_⟩
    obtain ⟨k, rfl⟩ := Int.eq_ofNat_of_zero_le r0
    have hk : k < xs.length := by omega
    have e : atI xs (k : Int) = some xs[k] := atI_nat (List.getElem?_eq_getElem hk)
    show (match atI xs (k : Int) with | some d => _ | none => _)
    rw [e]
    exact q _ (List.getElem_mem hk)
def valsD : List D := [.non, .int 0, .bl true, .int (-7), .str (Str.ofString "a"), .str (Str.ofString ""), .tup [.int 1, .int 2], .lst [.int 1], .dic [], .int (10 ^ Int.toNat 40), .tup [.str (Str.ofString "x")], .dic [(.str (Str.ofString "a"), .int 1)]]
def valueD : SpD := fun ds G Q _ => ∃ (p : Addr) (m : Nat), ds = [.adr p] ∧ G p = some (.pen m) ∧ m ≤ 2 ^ 20 ∧ ∀ d ∈ valsD, Q d (updG G p (.pen (m + 1)))
theorem dok__law_value (T : Top K mg) : FnD P w K mg base 9 T.a__law_value T.d__law_value ["_law_pen_here"] valueD := by
  have G__law_pick := (dok__law_pick (P := P) (w := w) (base := base) T).mono (k := 6) (by decide)
  refine dfn (k := 8) T.F__law_value sc_law_value (fun ds G Q W h => ?_) (fun cdv A outer s H E B W hr tk => have hx := hx_of tk; ⟨_, (db_one (ds_ret (de_call G__law_pick (hr.mono (by decide)) (by rfl) T.g__law_pick T.F__law_pick.kp T.b__law_pick hx (da_cons (dv 0) (da_cons (de_lst (da_cons de_non (da_cons de_int (da_cons de_bl (da_cons (de_neg de_int) (da_cons de_str (da_cons de_str (da_cons (de_tup (da_cons de_int (da_cons de_int da_nil))) (da_cons (de_lst (da_cons de_int da_nil)) (da_cons de_dict0 (da_cons (de_pow de_int de_int) (da_cons (de_tup (da_cons de_str da_nil)) (da_cons de_dict1 da_nil))))))))))))) da_nil))))), fun ds G Q h => ?_⟩)
  · obtain ⟨p, m, rfl, _⟩ := h
    rfl
  · obtain ⟨p, m, rfl, hG, hm, q⟩ := h
    refine ⟨small1000 (show 2 ≤ 1000 by decide), small1000 (show 1 ≤ 1000 by decide), ⟨by decide, by decide, by decide⟩, small1000 (show 1 ≤ 1000 by decide), small1000 (show 12 ≤ 1000 by decide), ?_⟩
    exact ⟨p, _, m, rfl, hG, by simp, by decide, hm, fun x hx => q x hx⟩
/-- 0, 1, 2, as far as they are so -/
def grpD (b0 b1 b2 : Bool) : List D := (if b0 then [.int 0] else []) ++ (if b1 then [.int 1] else []) ++ (if b2 then [.int 2] else [])
def groupsD (CI CR CN : Addr) (K : PySem.W.Frag) : SpD := fun ds G Q _ => ∃ (C : Addr) (fs : List (Str × D)) (b0 b1 b2 : Bool), ds = [.exc C fs] ∧ PySem.W.kitOne K (.ref C) (.ref CI) = some b0 ∧ PySem.W.kitOne K (.ref C) (.ref CR) = some b1 ∧ PySem.W.kitOne K (.ref C) (.ref CN) = some b2 ∧ Q (.lst (grpD b0 b1 b2)) G
theorem dok__law_groups (T : Top K mg) : FnD P w K mg base 4 T.a__law_groups T.d__law_groups ["_law_error"] (groupsD T.C_BadInput T.C_Refused T.C_NoAnswer K) := by
  refine dfn (k := 3) T.F__law_groups sc_law_groups (fun ds G Q W h => ?_) (fun cdv A outer s H E B W hr tk => have hx := hx_of tk; ⟨_, (db_cons (ds_set (i := 1) sc_law_groups.nd rfl (.inr rfl) (de_lst (da_cons (de_isXK (K := K) (C := T.C_BadInput) rfl (by rfl) T.z_isinstance (by decide +kernel) (dv 0) (pe_glob rfl T.g_BadInput rfl)) (da_cons (de_isXK (K := K) (C := T.C_Refused) rfl (by rfl) T.z_isinstance (by decide +kernel) (dv 0) (pe_glob rfl T.g_Refused rfl)) (da_cons (de_isXK (K := K) (C := T.C_NoAnswer) rfl (by rfl) T.z_isinstance (by decide +kernel) (dv 0) (pe_glob rfl T.g_NoAnswer rfl)) da_nil)))))
  (db_one (ds_ret (de_lcF (own := [("_law_at", 2)]) (gV := gName 2) finA_l rfl sc_law_groups.nd (di_range1 (by rfl) T.z_range (da_cons de_int da_nil)) (blkOk_by (own := [("_law_at", 2)]) (N := N_law_groups) (sc := defScope s_law_groups) (by decide +kernel)) (cg_name (i := 2) (by decide)) (fun _ _ _ _ _ => (pg_name (i := 2) sc_law_groups.nd rfl (.inl rfl))) (fun _ _ _ _ _ _ => (dts_one (dt_val (de_ix ix_seq ix_A (dv 1) (dv 2) (fun _ _ => rfl))))) (fun _ _ _ _ _ _ => (dv 2)))))), fun ds G Q h => ?_⟩)
  · obtain ⟨C, fs, b0, b1, b2, rfl, _⟩ := h
    rfl
  · obtain ⟨C, fs, b0, b1, b2, rfl, h0, h1, h2, q⟩ := h
    refine ⟨b0, h0, b1, h1, b2, h2, small1000 (show 3 ≤ 1000 by decide), ⟨by decide, by decide⟩, small_size (show 3 ≤ 1000 by decide), ?_⟩
    refine lc_fm (G := G) (D.int ·) (fun i => match i with | 0 => b0 | 1 => b1 | _ => b2) (D.int ·) [0, 1, 2] [] (fun i mi acc N n1 n0 => ?_) ?_
    · simp only [List.mem_cons, List.not_mem_nil, or_false] at mi
      rcases mi with rfl | rfl | rfl
      · cases b0 with
        | true => exact n1 rfl
        | false => exact n0 rfl
      · cases b1 with
        | true => exact n1 rfl
        | false => exact n0 rfl
      · cases b2 with
        | true => exact n1 rfl
        | false => exact n0 rfl
    · cases b0 <;> cases b1 <;> cases b2 <;> exact q
def kndL (bs : List Bool) : List D := bs.map D.bl
def kindsD (Cs : List Addr) (K : PySem.W.Frag) : SpD := fun ds G Q _ => ∃ (C : Addr) (fs : List (Str × D)), ds = [.exc C fs] ∧ (∀ b ∈ Cs, PySem.W.kitOne K (.ref C) (.ref b) = some (decide (C = b))) ∧ Q (.int (Cs.count C)) G
def kinds {K : PySem.W.Frag} {mg : Str → Option Value} (T : Top K mg) : List Addr := [T.C_BadBag, T.C_BadBase, T.C_BadBook, T.C_BadBounds, T.C_BadCounts, T.C_BadForm, T.C_BadLine, T.C_BadName, T.C_BadNumber, T.C_BadPlan, T.C_BadQuestion, T.C_BadRewrite, T.C_BadRow, T.C_BadRule, T.C_BadStore, T.C_BadTest, T.C_BadText, T.C_Breaks, T.C_NoColumn, T.C_NoFit, T.C_NoPlace, T.C_NoRow, T.C_NoTable, T.C_TooMany, T.C_Unlike, T.C_NoDeed, T.C_AtRow]
theorem dok__law_kinds (T : Top K mg) : FnD P w K mg base 4 T.a__law_kinds T.d__law_kinds ["_law_error"] (kindsD (kinds T) K) := by
  refine dfn (k := 3) T.F__law_kinds sc_law_kinds (fun ds G Q W h => ?_) (fun cdv A outer s H E B W hr tk => have hx := hx_of tk; ⟨_, (db_cons (ds_set (i := 1) sc_law_kinds.nd rfl (.inl rfl) (de_lst (da_cons (de_isXK (K := K) (C := T.C_BadBag) rfl (by rfl) T.z_isinstance (by decide +kernel) (dv 0) (pe_glob rfl T.g_BadBag rfl)) (da_cons (de_isXK (K := K) (C := T.C_BadBase) rfl (by rfl) T.z_isinstance (by decide +kernel) (dv 0) (pe_glob rfl T.g_BadBase rfl)) (da_cons (de_isXK (K := K) (C := T.C_BadBook) rfl (by rfl) T.z_isinstance (by decide +kernel) (dv 0) (pe_glob rfl T.g_BadBook rfl)) da_nil)))))
  (db_cons (ds_set (i := 1) sc_law_kinds.nd rfl (.inl rfl) (de_add (dv 1) (de_lst (da_cons (de_isXK (K := K) (C := T.C_BadBounds) rfl (by rfl) T.z_isinstance (by decide +kernel) (dv 0) (pe_glob rfl T.g_BadBounds rfl)) (da_cons (de_isXK (K := K) (C := T.C_BadCounts) rfl (by rfl) T.z_isinstance (by decide +kernel) (dv 0) (pe_glob rfl T.g_BadCounts rfl)) (da_cons (de_isXK (K := K) (C := T.C_BadForm) rfl (by rfl) T.z_isinstance (by decide +kernel) (dv 0) (pe_glob rfl T.g_BadForm rfl)) da_nil))))))
  (db_cons (ds_set (i := 1) sc_law_kinds.nd rfl (.inl rfl) (de_add (dv 1) (de_lst (da_cons (de_isXK (K := K) (C := T.C_BadLine) rfl (by rfl) T.z_isinstance (by decide +kernel) (dv 0) (pe_glob rfl T.g_BadLine rfl)) (da_cons (de_isXK (K := K) (C := T.C_BadName) rfl (by rfl) T.z_isinstance (by decide +kernel) (dv 0) (pe_glob rfl T.g_BadName rfl)) (da_cons (de_isXK (K := K) (C := T.C_BadNumber) rfl (by rfl) T.z_isinstance (by decide +kernel) (dv 0) (pe_glob rfl T.g_BadNumber rfl)) da_nil))))))
  (db_cons (ds_set (i := 1) sc_law_kinds.nd rfl (.inl rfl) (de_add (dv 1) (de_lst (da_cons (de_isXK (K := K) (C := T.C_BadPlan) rfl (by rfl) T.z_isinstance (by decide +kernel) (dv 0) (pe_glob rfl T.g_BadPlan rfl)) (da_cons (de_isXK (K := K) (C := T.C_BadQuestion) rfl (by rfl) T.z_isinstance (by decide +kernel) (dv 0) (pe_glob rfl T.g_BadQuestion rfl)) (da_cons (de_isXK (K := K) (C := T.C_BadRewrite) rfl (by rfl) T.z_isinstance (by decide +kernel) (dv 0) (pe_glob rfl T.g_BadRewrite rfl)) da_nil))))))
  (db_cons (ds_set (i := 1) sc_law_kinds.nd rfl (.inl rfl) (de_add (dv 1) (de_lst (da_cons (de_isXK (K := K) (C := T.C_BadRow) rfl (by rfl) T.z_isinstance (by decide +kernel) (dv 0) (pe_glob rfl T.g_BadRow rfl)) (da_cons (de_isXK (K := K) (C := T.C_BadRule) rfl (by rfl) T.z_isinstance (by decide +kernel) (dv 0) (pe_glob rfl T.g_BadRule rfl)) (da_cons (de_isXK (K := K) (C := T.C_BadStore) rfl (by rfl) T.z_isinstance (by decide +kernel) (dv 0) (pe_glob rfl T.g_BadStore rfl)) da_nil))))))
  (db_cons (ds_set (i := 1) sc_law_kinds.nd rfl (.inl rfl) (de_add (dv 1) (de_lst (da_cons (de_isXK (K := K) (C := T.C_BadTest) rfl (by rfl) T.z_isinstance (by decide +kernel) (dv 0) (pe_glob rfl T.g_BadTest rfl)) (da_cons (de_isXK (K := K) (C := T.C_BadText) rfl (by rfl) T.z_isinstance (by decide +kernel) (dv 0) (pe_glob rfl T.g_BadText rfl)) (da_cons (de_isXK (K := K) (C := T.C_Breaks) rfl (by rfl) T.z_isinstance (by decide +kernel) (dv 0) (pe_glob rfl T.g_Breaks rfl)) da_nil))))))
  (db_cons (ds_set (i := 1) sc_law_kinds.nd rfl (.inl rfl) (de_add (dv 1) (de_lst (da_cons (de_isXK (K := K) (C := T.C_NoColumn) rfl (by rfl) T.z_isinstance (by decide +kernel) (dv 0) (pe_glob rfl T.g_NoColumn rfl)) (da_cons (de_isXK (K := K) (C := T.C_NoFit) rfl (by rfl) T.z_isinstance (by decide +kernel) (dv 0) (pe_glob rfl T.g_NoFit rfl)) (da_cons (de_isXK (K := K) (C := T.C_NoPlace) rfl (by rfl) T.z_isinstance (by decide +kernel) (dv 0) (pe_glob rfl T.g_NoPlace rfl)) da_nil))))))
  (db_cons (ds_set (i := 1) sc_law_kinds.nd rfl (.inl rfl) (de_add (dv 1) (de_lst (da_cons (de_isXK (K := K) (C := T.C_NoRow) rfl (by rfl) T.z_isinstance (by decide +kernel) (dv 0) (pe_glob rfl T.g_NoRow rfl)) (da_cons (de_isXK (K := K) (C := T.C_NoTable) rfl (by rfl) T.z_isinstance (by decide +kernel) (dv 0) (pe_glob rfl T.g_NoTable rfl)) (da_cons (de_isXK (K := K) (C := T.C_TooMany) rfl (by rfl) T.z_isinstance (by decide +kernel) (dv 0) (pe_glob rfl T.g_TooMany rfl)) da_nil))))))
  (db_cons (ds_set (i := 1) sc_law_kinds.nd rfl (.inl rfl) (de_add (dv 1) (de_lst (da_cons (de_isXK (K := K) (C := T.C_Unlike) rfl (by rfl) T.z_isinstance (by decide +kernel) (dv 0) (pe_glob rfl T.g_Unlike rfl)) (da_cons (de_isXK (K := K) (C := T.C_NoDeed) rfl (by rfl) T.z_isinstance (by decide +kernel) (dv 0) (pe_glob rfl T.g_NoDeed rfl)) (da_cons (de_isXK (K := K) (C := T.C_AtRow) rfl (by rfl) T.z_isinstance (by decide +kernel) (dv 0) (pe_glob rfl T.g_AtRow rfl)) da_nil))))))
  (db_one (ds_ret (de_callB call_len2 len_A (by rfl) T.z_len (by decide +kernel) (da_cons (de_lcF (own := [("_law_truth", 2)]) (gV := gName 2) finA_l rfl sc_law_kinds.nd (di_list (dv 1)) (blkOk_by (own := [("_law_truth", 2)]) (N := N_law_kinds) (sc := defScope s_law_kinds) (by decide +kernel)) (cg_name (i := 2) (by decide)) (fun _ _ _ _ _ => (pg_name (i := 2) sc_law_kinds.nd rfl (.inl rfl))) (fun _ _ _ _ _ _ => (dts_one (dt_val (dv 2)))) (fun _ _ _ _ _ _ => (dv 2))) da_nil))))))))))))), fun ds G Q h => ?_⟩)
  · obtain ⟨C, fs, rfl, _⟩ := h
    rfl
  · obtain ⟨C, fs, rfl, hk, q⟩ := h
    have at_ : ∀ (i : Nat) (b : Addr), (kinds T)[i]? = some b → PySem.W.kitOne K (.ref C) (.ref b) = some (decide (C = b)) := fun i b e => hk b (List.mem_of_getElem? e)
    refine ⟨_, at_ 0 _ rfl, _, at_ 1 _ rfl, _, at_ 2 _ rfl, small1000 (show 3 ≤ 1000 by decide), ?_⟩
    refine ⟨_, at_ 3 _ rfl, _, at_ 4 _ rfl, _, at_ 5 _ rfl, small1000 (show 3 ≤ 1000 by decide), small1000 (show 6 ≤ 1000 by decide), ?_⟩
    refine ⟨_, at_ 6 _ rfl, _, at_ 7 _ rfl, _, at_ 8 _ rfl, small1000 (show 3 ≤ 1000 by decide), small1000 (show 9 ≤ 1000 by decide), ?_⟩
    refine ⟨_, at_ 9 _ rfl, _, at_ 10 _ rfl, _, at_ 11 _ rfl, small1000 (show 3 ≤ 1000 by decide), small1000 (show 12 ≤ 1000 by decide), ?_⟩
    refine ⟨_, at_ 12 _ rfl, _, at_ 13 _ rfl, _, at_ 14 _ rfl, small1000 (show 3 ≤ 1000 by decide), small1000 (show 15 ≤ 1000 by decide), ?_⟩
    refine ⟨_, at_ 15 _ rfl, _, at_ 16 _ rfl, _, at_ 17 _ rfl, small1000 (show 3 ≤ 1000 by decide), small1000 (show 18 ≤ 1000 by decide), ?_⟩
    refine ⟨_, at_ 18 _ rfl, _, at_ 19 _ rfl, _, at_ 20 _ rfl, small1000 (show 3 ≤ 1000 by decide), small1000 (show 21 ≤ 1000 by decide), ?_⟩
    refine ⟨_, at_ 21 _ rfl, _, at_ 22 _ rfl, _, at_ 23 _ rfl, small1000 (show 3 ≤ 1000 by decide), small1000 (show 24 ≤ 1000 by decide), ?_⟩
    refine ⟨_, at_ 24 _ rfl, _, at_ 25 _ rfl, _, at_ 26 _ rfl, small1000 (show 3 ≤ 1000 by decide), small1000 (show 27 ≤ 1000 by decide), ?_⟩
    refine ⟨small_size (show 27 ≤ 1000 by decide), ?_⟩
    show lcD _ _ _ _ _ ((kinds T).map fun b => D.bl (decide (C = b))) [] G
    refine lc_fm (G := G) (fun b : Addr => D.bl (decide (C = b))) (fun b => decide (C = b)) (fun b => D.bl (decide (C = b))) (kinds T) [] (fun b mb acc N n1 n0 => ?_) ?_
    · show (match decide (C = b) with | true => N (acc ++ [D.bl (decide (C = b))]) G | false => N acc G)
      rcases Bool.eq_false_or_eq_true (decide (C = b)) with e | e
      · have := n1 e
        rw [e] at this ⊢
        exact this
      · have := n0 e
        rw [e]
        exact this
    · have e : ((([] : List D) ++ ((kinds T).filter fun b => decide (C = b)).map fun b => D.bl (decide (C = b))).length : Int) = ((kinds T).count C : Nat) := by
        rw [List.nil_append, List.length_map, List.count_eq_countP, List.countP_eq_length_filter]
        congr 2
        refine List.filter_congr fun b _ => ?_
        rw [Bool.eq_iff_iff, decide_eq_true_iff, beq_iff_eq]
        exact eq_comm
      show Q (.int _) G
      rw [e]
      exact q
end

section
variable {P : Program} {w : World} {K : PySem.W.Frag} {mg : Str → Option Value} {base : Heap}
/-- the classes of one field, their fields, their groups -/
def rowsT {K : PySem.W.Frag} {mg : Str → Option Value} (T : Top K mg) : List (Addr × Str × Int) := [(T.C_BadBag, "part", 0), (T.C_BadBase, "part", 0), (T.C_BadBook, "at", 0), (T.C_BadBounds, "at", 0), (T.C_BadCounts, "part", 0), (T.C_BadForm, "part", 0), (T.C_BadLine, "word", 0), (T.C_BadName, "value", 0), (T.C_BadNumber, "value", 0), (T.C_BadPlan, "part", 0), (T.C_BadQuestion, "part", 0), (T.C_BadRow, "part", 0), (T.C_BadRewrite, "part", 0), (T.C_BadRule, "part", 0), (T.C_BadStore, "part", 0), (T.C_BadTest, "part", 0), (T.C_Breaks, "rule", 1), (T.C_NoColumn, "name", 1), (T.C_NoFit, "place", 1), (T.C_NoPlace, "place", 1), (T.C_NoRow, "row", 1), (T.C_NoTable, "name", 1), (T.C_Unlike, "paper", 1), (T.C_AtRow, "row", 2)]
def rowD (d : D) (r : Addr × Str × Int) : D := .tup [.exc r.1 [(r.2.1, d)], d, .int r.2.2]
theorem vals_cp : ∀ d ∈ valsD, cpD d = true := by decide
def singleD (rows : List (Addr × Str × Int)) : SpD := fun ds G Q _ => ∃ (p d : D), ds = [p, d] ∧ d ∈ valsD ∧ Q (.lst (rows.map (rowD d))) G
theorem dok__law_single (T : Top K mg) : FnD P w K mg base 13 T.a__law_single T.d__law_single ["_law_pen_here", "_law_mine"] (singleD (rowsT T)) := by
  have G_BadBag___init__ := (vok_BadBag___init__ (P := P) (w := w) (base := base) T).mono (k := 10) (by decide)
  have G_BadBase___init__ := (vok_BadBase___init__ (P := P) (w := w) (base := base) T).mono (k := 10) (by decide)
  have G_BadBook___init__ := (vok_BadBook___init__ (P := P) (w := w) (base := base) T).mono (k := 10) (by decide)
  have G_BadBounds___init__ := (vok_BadBounds___init__ (P := P) (w := w) (base := base) T).mono (k := 10) (by decide)
  have G_BadCounts___init__ := (vok_BadCounts___init__ (P := P) (w := w) (base := base) T).mono (k := 10) (by decide)
  have G_BadForm___init__ := (vok_BadForm___init__ (P := P) (w := w) (base := base) T).mono (k := 10) (by decide)
  have G_BadLine___init__ := (vok_BadLine___init__ (P := P) (w := w) (base := base) T).mono (k := 10) (by decide)
  have G_BadName___init__ := (vok_BadName___init__ (P := P) (w := w) (base := base) T).mono (k := 10) (by decide)
  have G_BadNumber___init__ := (vok_BadNumber___init__ (P := P) (w := w) (base := base) T).mono (k := 10) (by decide)
  have G_BadPlan___init__ := (vok_BadPlan___init__ (P := P) (w := w) (base := base) T).mono (k := 10) (by decide)
  have G_BadQuestion___init__ := (vok_BadQuestion___init__ (P := P) (w := w) (base := base) T).mono (k := 10) (by decide)
  have G_BadRow___init__ := (vok_BadRow___init__ (P := P) (w := w) (base := base) T).mono (k := 10) (by decide)
  have G_BadRewrite___init__ := (vok_BadRewrite___init__ (P := P) (w := w) (base := base) T).mono (k := 10) (by decide)
  have G_BadRule___init__ := (vok_BadRule___init__ (P := P) (w := w) (base := base) T).mono (k := 10) (by decide)
  have G_BadStore___init__ := (vok_BadStore___init__ (P := P) (w := w) (base := base) T).mono (k := 10) (by decide)
  have G_BadTest___init__ := (vok_BadTest___init__ (P := P) (w := w) (base := base) T).mono (k := 10) (by decide)
  have G_Breaks___init__ := (vok_Breaks___init__ (P := P) (w := w) (base := base) T).mono (k := 10) (by decide)
  have G_NoColumn___init__ := (vok_NoColumn___init__ (P := P) (w := w) (base := base) T).mono (k := 10) (by decide)
  have G_NoFit___init__ := (vok_NoFit___init__ (P := P) (w := w) (base := base) T).mono (k := 10) (by decide)
  have G_NoPlace___init__ := (vok_NoPlace___init__ (P := P) (w := w) (base := base) T).mono (k := 10) (by decide)
  have G_NoRow___init__ := (vok_NoRow___init__ (P := P) (w := w) (base := base) T).mono (k := 10) (by decide)
  have G_NoTable___init__ := (vok_NoTable___init__ (P := P) (w := w) (base := base) T).mono (k := 10) (by decide)
  have G_Unlike___init__ := (vok_Unlike___init__ (P := P) (w := w) (base := base) T).mono (k := 10) (by decide)
  have G_AtRow___init__ := (vok_AtRow___init__ (P := P) (w := w) (base := base) T).mono (k := 10) (by decide)
  refine dfn (k := 12) T.F__law_single sc_law_single (fun ds G Q W h => ?_) (fun cdv A outer s H E B W hr tk => have hx := hx_of tk; ⟨_, (db_cons (ds_set (i := 2) sc_law_single.nd rfl (.inl rfl) (de_lst (da_cons (de_tup (da_cons (de_mkX1 (K := K) rfl T.ox_BadBag T.ex_BadBag T.ic_BadBag T.ti_BadBag G_BadBag___init__ (hr.mono (by decide)) T.b_BadBag___init__ rfl (by rfl) T.g_BadBag (da_cons (dv 1) da_nil)) (da_cons (de_xaK (K := K) rfl (de_mkX1K (K := K) rfl T.ox_BadBag T.ex_BadBag T.ic_BadBag T.ti_BadBag G_BadBag___init__ (hr.mono (by decide)) T.kx1_BadBag (by rfl) T.g_BadBag (dk_cons (dv 1) dk_nil))) (da_cons de_int da_nil)))) (da_cons (de_tup (da_cons (de_mkX1 (K := K) rfl T.ox_BadBase T.ex_BadBase T.ic_BadBase T.ti_BadBase G_BadBase___init__ (hr.mono (by decide)) T.b_BadBase___init__ rfl (by rfl) T.g_BadBase (da_cons (dv 1) da_nil)) (da_cons (de_xaK (K := K) rfl (de_mkX1K (K := K) rfl T.ox_BadBase T.ex_BadBase T.ic_BadBase T.ti_BadBase G_BadBase___init__ (hr.mono (by decide)) T.kx1_BadBase (by rfl) T.g_BadBase (dk_cons (dv 1) dk_nil))) (da_cons de_int da_nil)))) da_nil))))
  (db_cons (ds_set (i := 2) sc_law_single.nd rfl (.inl rfl) (de_add (dv 2) (de_lst (da_cons (de_tup (da_cons (de_mkX1 (K := K) rfl T.ox_BadBook T.ex_BadBook T.ic_BadBook T.ti_BadBook G_BadBook___init__ (hr.mono (by decide)) T.b_BadBook___init__ rfl (by rfl) T.g_BadBook (da_cons (dv 1) da_nil)) (da_cons (de_xaK (K := K) rfl (de_mkX1K (K := K) rfl T.ox_BadBook T.ex_BadBook T.ic_BadBook T.ti_BadBook G_BadBook___init__ (hr.mono (by decide)) T.kx1_BadBook (by rfl) T.g_BadBook (dk_cons (dv 1) dk_nil))) (da_cons de_int da_nil)))) (da_cons (de_tup (da_cons (de_mkX1 (K := K) rfl T.ox_BadBounds T.ex_BadBounds T.ic_BadBounds T.ti_BadBounds G_BadBounds___init__ (hr.mono (by decide)) T.b_BadBounds___init__ rfl (by rfl) T.g_BadBounds (da_cons (dv 1) da_nil)) (da_cons (de_xaK (K := K) rfl (de_mkX1K (K := K) rfl T.ox_BadBounds T.ex_BadBounds T.ic_BadBounds T.ti_BadBounds G_BadBounds___init__ (hr.mono (by decide)) T.kx1_BadBounds (by rfl) T.g_BadBounds (dk_cons (dv 1) dk_nil))) (da_cons de_int da_nil)))) da_nil)))))
  (db_cons (ds_set (i := 2) sc_law_single.nd rfl (.inl rfl) (de_add (dv 2) (de_lst (da_cons (de_tup (da_cons (de_mkX1 (K := K) rfl T.ox_BadCounts T.ex_BadCounts T.ic_BadCounts T.ti_BadCounts G_BadCounts___init__ (hr.mono (by decide)) T.b_BadCounts___init__ rfl (by rfl) T.g_BadCounts (da_cons (dv 1) da_nil)) (da_cons (de_xaK (K := K) rfl (de_mkX1K (K := K) rfl T.ox_BadCounts T.ex_BadCounts T.ic_BadCounts T.ti_BadCounts G_BadCounts___init__ (hr.mono (by decide)) T.kx1_BadCounts (by rfl) T.g_BadCounts (dk_cons (dv 1) dk_nil))) (da_cons de_int da_nil)))) (da_cons (de_tup (da_cons (de_mkX1 (K := K) rfl T.ox_BadForm T.ex_BadForm T.ic_BadForm T.ti_BadForm G_BadForm___init__ (hr.mono (by decide)) T.b_BadForm___init__ rfl (by rfl) T.g_BadForm (da_cons (dv 1) da_nil)) (da_cons (de_xaK (K := K) rfl (de_mkX1K (K := K) rfl T.ox_BadForm T.ex_BadForm T.ic_BadForm T.ti_BadForm G_BadForm___init__ (hr.mono (by decide)) T.kx1_BadForm (by rfl) T.g_BadForm (dk_cons (dv 1) dk_nil))) (da_cons de_int da_nil)))) da_nil)))))
  (db_cons (ds_set (i := 2) sc_law_single.nd rfl (.inl rfl) (de_add (dv 2) (de_lst (da_cons (de_tup (da_cons (de_mkX1 (K := K) rfl T.ox_BadLine T.ex_BadLine T.ic_BadLine T.ti_BadLine G_BadLine___init__ (hr.mono (by decide)) T.b_BadLine___init__ rfl (by rfl) T.g_BadLine (da_cons (dv 1) da_nil)) (da_cons (de_xaK (K := K) rfl (de_mkX1K (K := K) rfl T.ox_BadLine T.ex_BadLine T.ic_BadLine T.ti_BadLine G_BadLine___init__ (hr.mono (by decide)) T.kx1_BadLine (by rfl) T.g_BadLine (dk_cons (dv 1) dk_nil))) (da_cons de_int da_nil)))) (da_cons (de_tup (da_cons (de_mkX1 (K := K) rfl T.ox_BadName T.ex_BadName T.ic_BadName T.ti_BadName G_BadName___init__ (hr.mono (by decide)) T.b_BadName___init__ rfl (by rfl) T.g_BadName (da_cons (dv 1) da_nil)) (da_cons (de_xaK (K := K) rfl (de_mkX1K (K := K) rfl T.ox_BadName T.ex_BadName T.ic_BadName T.ti_BadName G_BadName___init__ (hr.mono (by decide)) T.kx1_BadName (by rfl) T.g_BadName (dk_cons (dv 1) dk_nil))) (da_cons de_int da_nil)))) da_nil)))))
  (db_cons (ds_set (i := 2) sc_law_single.nd rfl (.inl rfl) (de_add (dv 2) (de_lst (da_cons (de_tup (da_cons (de_mkX1 (K := K) rfl T.ox_BadNumber T.ex_BadNumber T.ic_BadNumber T.ti_BadNumber G_BadNumber___init__ (hr.mono (by decide)) T.b_BadNumber___init__ rfl (by rfl) T.g_BadNumber (da_cons (dv 1) da_nil)) (da_cons (de_xaK (K := K) rfl (de_mkX1K (K := K) rfl T.ox_BadNumber T.ex_BadNumber T.ic_BadNumber T.ti_BadNumber G_BadNumber___init__ (hr.mono (by decide)) T.kx1_BadNumber (by rfl) T.g_BadNumber (dk_cons (dv 1) dk_nil))) (da_cons de_int da_nil)))) (da_cons (de_tup (da_cons (de_mkX1 (K := K) rfl T.ox_BadPlan T.ex_BadPlan T.ic_BadPlan T.ti_BadPlan G_BadPlan___init__ (hr.mono (by decide)) T.b_BadPlan___init__ rfl (by rfl) T.g_BadPlan (da_cons (dv 1) da_nil)) (da_cons (de_xaK (K := K) rfl (de_mkX1K (K := K) rfl T.ox_BadPlan T.ex_BadPlan T.ic_BadPlan T.ti_BadPlan G_BadPlan___init__ (hr.mono (by decide)) T.kx1_BadPlan (by rfl) T.g_BadPlan (dk_cons (dv 1) dk_nil))) (da_cons de_int da_nil)))) da_nil)))))
  (db_cons (ds_set (i := 2) sc_law_single.nd rfl (.inl rfl) (de_add (dv 2) (de_lst (da_cons (de_tup (da_cons (de_mkX1 (K := K) rfl T.ox_BadQuestion T.ex_BadQuestion T.ic_BadQuestion T.ti_BadQuestion G_BadQuestion___init__ (hr.mono (by decide)) T.b_BadQuestion___init__ rfl (by rfl) T.g_BadQuestion (da_cons (dv 1) da_nil)) (da_cons (de_xaK (K := K) rfl (de_mkX1K (K := K) rfl T.ox_BadQuestion T.ex_BadQuestion T.ic_BadQuestion T.ti_BadQuestion G_BadQuestion___init__ (hr.mono (by decide)) T.kx1_BadQuestion (by rfl) T.g_BadQuestion (dk_cons (dv 1) dk_nil))) (da_cons de_int da_nil)))) (da_cons (de_tup (da_cons (de_mkX1 (K := K) rfl T.ox_BadRow T.ex_BadRow T.ic_BadRow T.ti_BadRow G_BadRow___init__ (hr.mono (by decide)) T.b_BadRow___init__ rfl (by rfl) T.g_BadRow (da_cons (dv 1) da_nil)) (da_cons (de_xaK (K := K) rfl (de_mkX1K (K := K) rfl T.ox_BadRow T.ex_BadRow T.ic_BadRow T.ti_BadRow G_BadRow___init__ (hr.mono (by decide)) T.kx1_BadRow (by rfl) T.g_BadRow (dk_cons (dv 1) dk_nil))) (da_cons de_int da_nil)))) da_nil)))))
  (db_cons (ds_set (i := 2) sc_law_single.nd rfl (.inl rfl) (de_add (dv 2) (de_lst (da_cons (de_tup (da_cons (de_mkX1 (K := K) rfl T.ox_BadRewrite T.ex_BadRewrite T.ic_BadRewrite T.ti_BadRewrite G_BadRewrite___init__ (hr.mono (by decide)) T.b_BadRewrite___init__ rfl (by rfl) T.g_BadRewrite (da_cons (dv 1) da_nil)) (da_cons (de_xaK (K := K) rfl (de_mkX1K (K := K) rfl T.ox_BadRewrite T.ex_BadRewrite T.ic_BadRewrite T.ti_BadRewrite G_BadRewrite___init__ (hr.mono (by decide)) T.kx1_BadRewrite (by rfl) T.g_BadRewrite (dk_cons (dv 1) dk_nil))) (da_cons de_int da_nil)))) (da_cons (de_tup (da_cons (de_mkX1 (K := K) rfl T.ox_BadRule T.ex_BadRule T.ic_BadRule T.ti_BadRule G_BadRule___init__ (hr.mono (by decide)) T.b_BadRule___init__ rfl (by rfl) T.g_BadRule (da_cons (dv 1) da_nil)) (da_cons (de_xaK (K := K) rfl (de_mkX1K (K := K) rfl T.ox_BadRule T.ex_BadRule T.ic_BadRule T.ti_BadRule G_BadRule___init__ (hr.mono (by decide)) T.kx1_BadRule (by rfl) T.g_BadRule (dk_cons (dv 1) dk_nil))) (da_cons de_int da_nil)))) da_nil)))))
  (db_cons (ds_set (i := 2) sc_law_single.nd rfl (.inl rfl) (de_add (dv 2) (de_lst (da_cons (de_tup (da_cons (de_mkX1 (K := K) rfl T.ox_BadStore T.ex_BadStore T.ic_BadStore T.ti_BadStore G_BadStore___init__ (hr.mono (by decide)) T.b_BadStore___init__ rfl (by rfl) T.g_BadStore (da_cons (dv 1) da_nil)) (da_cons (de_xaK (K := K) rfl (de_mkX1K (K := K) rfl T.ox_BadStore T.ex_BadStore T.ic_BadStore T.ti_BadStore G_BadStore___init__ (hr.mono (by decide)) T.kx1_BadStore (by rfl) T.g_BadStore (dk_cons (dv 1) dk_nil))) (da_cons de_int da_nil)))) (da_cons (de_tup (da_cons (de_mkX1 (K := K) rfl T.ox_BadTest T.ex_BadTest T.ic_BadTest T.ti_BadTest G_BadTest___init__ (hr.mono (by decide)) T.b_BadTest___init__ rfl (by rfl) T.g_BadTest (da_cons (dv 1) da_nil)) (da_cons (de_xaK (K := K) rfl (de_mkX1K (K := K) rfl T.ox_BadTest T.ex_BadTest T.ic_BadTest T.ti_BadTest G_BadTest___init__ (hr.mono (by decide)) T.kx1_BadTest (by rfl) T.g_BadTest (dk_cons (dv 1) dk_nil))) (da_cons de_int da_nil)))) da_nil)))))
  (db_cons (ds_set (i := 2) sc_law_single.nd rfl (.inl rfl) (de_add (dv 2) (de_lst (da_cons (de_tup (da_cons (de_mkX1 (K := K) rfl T.ox_Breaks T.ex_Breaks T.ic_Breaks T.ti_Breaks G_Breaks___init__ (hr.mono (by decide)) T.b_Breaks___init__ rfl (by rfl) T.g_Breaks (da_cons (dv 1) da_nil)) (da_cons (de_xaK (K := K) rfl (de_mkX1K (K := K) rfl T.ox_Breaks T.ex_Breaks T.ic_Breaks T.ti_Breaks G_Breaks___init__ (hr.mono (by decide)) T.kx1_Breaks (by rfl) T.g_Breaks (dk_cons (dv 1) dk_nil))) (da_cons de_int da_nil)))) (da_cons (de_tup (da_cons (de_mkX1 (K := K) rfl T.ox_NoColumn T.ex_NoColumn T.ic_NoColumn T.ti_NoColumn G_NoColumn___init__ (hr.mono (by decide)) T.b_NoColumn___init__ rfl (by rfl) T.g_NoColumn (da_cons (dv 1) da_nil)) (da_cons (de_xaK (K := K) rfl (de_mkX1K (K := K) rfl T.ox_NoColumn T.ex_NoColumn T.ic_NoColumn T.ti_NoColumn G_NoColumn___init__ (hr.mono (by decide)) T.kx1_NoColumn (by rfl) T.g_NoColumn (dk_cons (dv 1) dk_nil))) (da_cons de_int da_nil)))) da_nil)))))
  (db_cons (ds_set (i := 2) sc_law_single.nd rfl (.inl rfl) (de_add (dv 2) (de_lst (da_cons (de_tup (da_cons (de_mkX1 (K := K) rfl T.ox_NoFit T.ex_NoFit T.ic_NoFit T.ti_NoFit G_NoFit___init__ (hr.mono (by decide)) T.b_NoFit___init__ rfl (by rfl) T.g_NoFit (da_cons (dv 1) da_nil)) (da_cons (de_xaK (K := K) rfl (de_mkX1K (K := K) rfl T.ox_NoFit T.ex_NoFit T.ic_NoFit T.ti_NoFit G_NoFit___init__ (hr.mono (by decide)) T.kx1_NoFit (by rfl) T.g_NoFit (dk_cons (dv 1) dk_nil))) (da_cons de_int da_nil)))) (da_cons (de_tup (da_cons (de_mkX1 (K := K) rfl T.ox_NoPlace T.ex_NoPlace T.ic_NoPlace T.ti_NoPlace G_NoPlace___init__ (hr.mono (by decide)) T.b_NoPlace___init__ rfl (by rfl) T.g_NoPlace (da_cons (dv 1) da_nil)) (da_cons (de_xaK (K := K) rfl (de_mkX1K (K := K) rfl T.ox_NoPlace T.ex_NoPlace T.ic_NoPlace T.ti_NoPlace G_NoPlace___init__ (hr.mono (by decide)) T.kx1_NoPlace (by rfl) T.g_NoPlace (dk_cons (dv 1) dk_nil))) (da_cons de_int da_nil)))) da_nil)))))
  (db_cons (ds_set (i := 2) sc_law_single.nd rfl (.inl rfl) (de_add (dv 2) (de_lst (da_cons (de_tup (da_cons (de_mkX1 (K := K) rfl T.ox_NoRow T.ex_NoRow T.ic_NoRow T.ti_NoRow G_NoRow___init__ (hr.mono (by decide)) T.b_NoRow___init__ rfl (by rfl) T.g_NoRow (da_cons (dv 1) da_nil)) (da_cons (de_xaK (K := K) rfl (de_mkX1K (K := K) rfl T.ox_NoRow T.ex_NoRow T.ic_NoRow T.ti_NoRow G_NoRow___init__ (hr.mono (by decide)) T.kx1_NoRow (by rfl) T.g_NoRow (dk_cons (dv 1) dk_nil))) (da_cons de_int da_nil)))) (da_cons (de_tup (da_cons (de_mkX1 (K := K) rfl T.ox_NoTable T.ex_NoTable T.ic_NoTable T.ti_NoTable G_NoTable___init__ (hr.mono (by decide)) T.b_NoTable___init__ rfl (by rfl) T.g_NoTable (da_cons (dv 1) da_nil)) (da_cons (de_xaK (K := K) rfl (de_mkX1K (K := K) rfl T.ox_NoTable T.ex_NoTable T.ic_NoTable T.ti_NoTable G_NoTable___init__ (hr.mono (by decide)) T.kx1_NoTable (by rfl) T.g_NoTable (dk_cons (dv 1) dk_nil))) (da_cons de_int da_nil)))) da_nil)))))
  (db_one (ds_ret (de_add (dv 2) (de_lst (da_cons (de_tup (da_cons (de_mkX1 (K := K) rfl T.ox_Unlike T.ex_Unlike T.ic_Unlike T.ti_Unlike G_Unlike___init__ (hr.mono (by decide)) T.b_Unlike___init__ rfl (by rfl) T.g_Unlike (da_cons (dv 1) da_nil)) (da_cons (de_xaK (K := K) rfl (de_mkX1K (K := K) rfl T.ox_Unlike T.ex_Unlike T.ic_Unlike T.ti_Unlike G_Unlike___init__ (hr.mono (by decide)) T.kx1_Unlike (by rfl) T.g_Unlike (dk_cons (dv 1) dk_nil))) (da_cons de_int da_nil)))) (da_cons (de_tup (da_cons (de_mkX1 (K := K) rfl T.ox_AtRow T.ex_AtRow T.ic_AtRow T.ti_AtRow G_AtRow___init__ (hr.mono (by decide)) T.b_AtRow___init__ rfl (by rfl) T.g_AtRow (da_cons (dv 1) da_nil)) (da_cons (de_xaK (K := K) rfl (de_mkX1K (K := K) rfl T.ox_AtRow T.ex_AtRow T.ic_AtRow T.ti_AtRow G_AtRow___init__ (hr.mono (by decide)) T.kx1_AtRow (by rfl) T.g_AtRow (dk_cons (dv 1) dk_nil))) (da_cons de_int da_nil)))) da_nil))))))))))))))))), fun ds G Q h => ?_⟩)
  · obtain ⟨p, d, rfl, _⟩ := h
    rfl
  · obtain ⟨p, d, rfl, hd, q⟩ := h
    have hc := vals_cp d hd
    refine ⟨d, rfl, hc, d, rfl, hc, T.xf_BadBag, T.no_BadBag_part, small1000 (show 3 ≤ 1000 by decide), d, rfl, hc, d, rfl, hc, T.xf_BadBase, T.no_BadBase_part, small1000 (show 3 ≤ 1000 by decide), small1000 (show 2 ≤ 1000 by decide), ?_⟩
    refine ⟨d, rfl, hc, d, rfl, hc, T.xf_BadBook, T.no_BadBook_at, small1000 (show 3 ≤ 1000 by decide), d, rfl, hc, d, rfl, hc, T.xf_BadBounds, T.no_BadBounds_at, small1000 (show 3 ≤ 1000 by decide), small1000 (show 2 ≤ 1000 by decide), small1000 (show 4 ≤ 1000 by decide), ?_⟩
    refine ⟨d, rfl, hc, d, rfl, hc, T.xf_BadCounts, T.no_BadCounts_part, small1000 (show 3 ≤ 1000 by decide), d, rfl, hc, d, rfl, hc, T.xf_BadForm, T.no_BadForm_part, small1000 (show 3 ≤ 1000 by decide), small1000 (show 2 ≤ 1000 by decide), small1000 (show 6 ≤ 1000 by decide), ?_⟩
    refine ⟨d, rfl, hc, d, rfl, hc, T.xf_BadLine, T.no_BadLine_word, small1000 (show 3 ≤ 1000 by decide), d, rfl, hc, d, rfl, hc, T.xf_BadName, T.no_BadName_value, small1000 (show 3 ≤ 1000 by decide), small1000 (show 2 ≤ 1000 by decide), small1000 (show 8 ≤ 1000 by decide), ?_⟩
    refine ⟨d, rfl, hc, d, rfl, hc, T.xf_BadNumber, T.no_BadNumber_value, small1000 (show 3 ≤ 1000 by decide), d, rfl, hc, d, rfl, hc, T.xf_BadPlan, T.no_BadPlan_part, small1000 (show 3 ≤ 1000 by decide), small1000 (show 2 ≤ 1000 by decide), small1000 (show 10 ≤ 1000 by decide), ?_⟩
    refine ⟨d, rfl, hc, d, rfl, hc, T.xf_BadQuestion, T.no_BadQuestion_part, small1000 (show 3 ≤ 1000 by decide), d, rfl, hc, d, rfl, hc, T.xf_BadRow, T.no_BadRow_part, small1000 (show 3 ≤ 1000 by decide), small1000 (show 2 ≤ 1000 by decide), small1000 (show 12 ≤ 1000 by decide), ?_⟩
    refine ⟨d, rfl, hc, d, rfl, hc, T.xf_BadRewrite, T.no_BadRewrite_part, small1000 (show 3 ≤ 1000 by decide), d, rfl, hc, d, rfl, hc, T.xf_BadRule, T.no_BadRule_part, small1000 (show 3 ≤ 1000 by decide), small1000 (show 2 ≤ 1000 by decide), small1000 (show 14 ≤ 1000 by decide), ?_⟩
    refine ⟨d, rfl, hc, d, rfl, hc, T.xf_BadStore, T.no_BadStore_part, small1000 (show 3 ≤ 1000 by decide), d, rfl, hc, d, rfl, hc, T.xf_BadTest, T.no_BadTest_part, small1000 (show 3 ≤ 1000 by decide), small1000 (show 2 ≤ 1000 by decide), small1000 (show 16 ≤ 1000 by decide), ?_⟩
    refine ⟨d, rfl, hc, d, rfl, hc, T.xf_Breaks, T.no_Breaks_rule, small1000 (show 3 ≤ 1000 by decide), d, rfl, hc, d, rfl, hc, T.xf_NoColumn, T.no_NoColumn_name, small1000 (show 3 ≤ 1000 by decide), small1000 (show 2 ≤ 1000 by decide), small1000 (show 18 ≤ 1000 by decide), ?_⟩
    refine ⟨d, rfl, hc, d, rfl, hc, T.xf_NoFit, T.no_NoFit_place, small1000 (show 3 ≤ 1000 by decide), d, rfl, hc, d, rfl, hc, T.xf_NoPlace, T.no_NoPlace_place, small1000 (show 3 ≤ 1000 by decide), small1000 (show 2 ≤ 1000 by decide), small1000 (show 20 ≤ 1000 by decide), ?_⟩
    refine ⟨d, rfl, hc, d, rfl, hc, T.xf_NoRow, T.no_NoRow_row, small1000 (show 3 ≤ 1000 by decide), d, rfl, hc, d, rfl, hc, T.xf_NoTable, T.no_NoTable_name, small1000 (show 3 ≤ 1000 by decide), small1000 (show 2 ≤ 1000 by decide), small1000 (show 22 ≤ 1000 by decide), ?_⟩
    refine ⟨d, rfl, hc, d, rfl, hc, T.xf_Unlike, T.no_Unlike_paper, small1000 (show 3 ≤ 1000 by decide), d, rfl, hc, d, rfl, hc, T.xf_AtRow, T.no_AtRow_row, small1000 (show 3 ≤ 1000 by decide), small1000 (show 2 ≤ 1000 by decide), small1000 (show 24 ≤ 1000 by decide), ?_⟩
    exact q
end

section
variable {P : Program} {w : World} {K : PySem.W.Frag} {mg : Str → Option Value} {base : Heap}
def fieldsD : SpD := fun ds G Q _ => ∃ (p : Addr) (m : Nat), ds = [.adr p] ∧ G p = some (.pen m) ∧ m + 2 ≤ 2 ^ 20 ∧ Q (.bl true) (updG G p (.pen (m + 2)))
theorem shp {d : D} {p : PyData} {G : Gm} {Q : QD} (h : ShD d p) (s : p.showable = true) (k : p.depth ≤ 60) (l : p.shown.length ≤ 1000) (q : Q (.str p.shown) G) : ReprX [d] G Q := ⟨d, p, rfl, .inl h, s, k, small1000 l, q⟩
/-- how a value is shown -/
def valP : D → PyData
  | .dic kvs => .dict (kvs.map fun q => (toP q.1, toP q.2))
  | d => toP d
theorem vals_p : ∀ d ∈ valsD, ShD d (valP d) ∧ (valP d).showable = true ∧ (valP d).depth ≤ 2 ∧ (valP d).shown.length ≤ 60 := fun d h => by
  simp only [valsD, List.mem_cons, List.not_mem_nil, or_false] at h
  rcases h with rfl | rfl | rfl | rfl | rfl | rfl | rfl | rfl | rfl | rfl | rfl | rfl
  all_goals refine ⟨?_, by decide +kernel, by decide +kernel, by decide +kernel⟩
  all_goals first
    | exact .plain (by decide +kernel) (by decide +kernel)
    | exact .dic (by decide)
theorem vals_l : ∀ d ∈ valsD, ∀ e ∈ valsD, (PyData.list [valP d, valP e, valP d, valP e]).shown.length ≤ 400 := by decide +kernel
theorem rpl {d e : D} (h : d ∈ valsD) (h2 : e ∈ valsD) : ∃ p : PyData, ∀ (G : Gm) (Q : QD), Q (.str p.shown) G → ReprX [.lst [d, e, d, e]] G Q := by
  obtain ⟨a, b, c, _⟩ := vals_p d h
  obtain ⟨a2, b2, c2, _⟩ := vals_p e h2
  refine ⟨.list [valP d, valP e, valP d, valP e], fun G Q q => ⟨_, _, rfl, .inr ⟨_, _, rfl, rfl, .cons a (.cons a2 (.cons a (.cons a2 .nil)))⟩, ?_, ?_, small1000 (Nat.le_trans (vals_l d h e h2) (by decide)), q⟩⟩
  · simp only [PyData.showable, PyData.showableAll, b, b2, Bool.and_self]
  · simp only [PyData.depth, PyData.depthAll]
    omega
theorem rp {d : D} (h : d ∈ valsD) : ∃ p : PyData, ∀ (G : Gm) (Q : QD), Q (.str p.shown) G → ReprX [d] G Q := by
  obtain ⟨a, b, c, e⟩ := vals_p d h
  exact ⟨valP d, fun G Q q => shp a b (by omega) (by omega) q⟩
/-- what is known of a class and its group -/
structure RowOk {K : PySem.W.Frag} {mg : Str → Option Value} (T : Top K mg) (C : Addr) (g : Int) : Prop where
  kd : ∀ b ∈ kinds T, PySem.W.kitOne K (.ref C) (.ref b) = some (decide (C = b))
  ct : (kinds T).count C = 1
  g0 : PySem.W.kitOne K (.ref C) (.ref T.C_BadInput) = some (decide (g = 0))
  g1 : PySem.W.kitOne K (.ref C) (.ref T.C_Refused) = some (decide (g = 1))
  g2 : PySem.W.kitOne K (.ref C) (.ref T.C_NoAnswer) = some (decide (g = 2))
  gm : g = 0 ∨ g = 1 ∨ g = 2
  ce : PySem.W.kitOne K (.ref C) (.ref T.C_CountError) = some true
  ve : PySem.W.kitOne K (.ref C) (.type "ValueError") = some true
  ot : PySem.W.kitAny K (.ref C) [.type "LookupError", .type "AttributeError", .type "ArithmeticError", .type "RuntimeError"] = some false
theorem count1 {a : Addr} : ∀ {l : List Addr}, l.Nodup → a ∈ l → l.count a = 1
  | [], _, h => by cases h
  | x :: xs, nd, h => by
    obtain ⟨n1, n2⟩ := List.nodup_cons.mp nd
    rw [List.count_cons]
    rcases List.mem_cons.mp h with rfl | h
    · rw [List.count_eq_zero.mpr n1]
      simp
    · have : x ≠ a := fun e => n1 (e ▸ h)
      rw [count1 n2 h]
      simp [this]
theorem count_one {T : Top K mg} {C : Addr} (i : Nat) (h : (kinds T)[i]? = some C) : (kinds T).count C = 1 :=
  count1 (show (kinds T).Nodup from T.kn) (List.mem_of_getElem? h)
theorem row0 {T : Top K mg} {C : Addr} (i : Nat) (h : (kinds T)[i]? = some C) (hi : i < 17) : RowOk T C 0 := by
  have m := List.mem_of_getElem? h
  have e : (kinds T).take 17 = [T.C_BadBag, T.C_BadBase, T.C_BadBook, T.C_BadBounds, T.C_BadCounts, T.C_BadForm, T.C_BadLine, T.C_BadName, T.C_BadNumber, T.C_BadPlan, T.C_BadQuestion, T.C_BadRewrite, T.C_BadRow, T.C_BadRule, T.C_BadStore, T.C_BadTest, T.C_BadText] := rfl
  have m0 := List.mem_of_getElem? ((List.getElem?_take_of_lt hi).trans h)
  rw [e] at m0
  obtain ⟨a, b, c⟩ := T.g0 C m0
  obtain ⟨x, y⟩ := T.ce C (List.mem_append_left _ m)
  exact ⟨fun b hb => T.kk C (List.mem_append_left _ m) b hb, count_one i h, a, b, c, .inl rfl, x, y, T.ot C m⟩
theorem row1 {T : Top K mg} {C : Addr} (i : Nat) (h : (kinds T)[i]? = some C) (hj : [T.C_Breaks, T.C_NoColumn, T.C_NoFit, T.C_NoPlace, T.C_NoRow, T.C_NoTable, T.C_TooMany, T.C_Unlike][i - 17]? = some C) : RowOk T C 1 := by
  have m := List.mem_of_getElem? h
  obtain ⟨a, b, c⟩ := T.g1 C (List.mem_of_getElem? hj)
  obtain ⟨x, y⟩ := T.ce C (List.mem_append_left _ m)
  exact ⟨fun b hb => T.kk C (List.mem_append_left _ m) b hb, count_one i h, a, b, c, .inr (.inl rfl), x, y, T.ot C m⟩
theorem row2 {T : Top K mg} {C : Addr} (i : Nat) (h : (kinds T)[i]? = some C) (hj : [T.C_NoDeed, T.C_AtRow][i - 25]? = some C) : RowOk T C 2 := by
  have m := List.mem_of_getElem? h
  obtain ⟨a, b, c⟩ := T.g2 C (List.mem_of_getElem? hj)
  obtain ⟨x, y⟩ := T.ce C (List.mem_append_left _ m)
  exact ⟨fun b hb => T.kk C (List.mem_append_left _ m) b hb, count_one i h, a, b, c, .inr (.inr rfl), x, y, T.ot C m⟩
theorem rows_ok (T : Top K mg) : ∀ r ∈ rowsT T, RowOk T r.1 r.2.2 := fun r h => by
  simp only [rowsT, List.mem_cons, List.not_mem_nil, or_false] at h
  rcases h with rfl | rfl | rfl | rfl | rfl | rfl | rfl | rfl | rfl | rfl | rfl | rfl | rfl | rfl | rfl | rfl | rfl | rfl | rfl | rfl | rfl | rfl | rfl | rfl
  · exact row0 0 rfl (by decide)
  · exact row0 1 rfl (by decide)
  · exact row0 2 rfl (by decide)
  · exact row0 3 rfl (by decide)
  · exact row0 4 rfl (by decide)
  · exact row0 5 rfl (by decide)
  · exact row0 6 rfl (by decide)
  · exact row0 7 rfl (by decide)
  · exact row0 8 rfl (by decide)
  · exact row0 9 rfl (by decide)
  · exact row0 10 rfl (by decide)
  · exact row0 12 rfl (by decide)
  · exact row0 11 rfl (by decide)
  · exact row0 13 rfl (by decide)
  · exact row0 14 rfl (by decide)
  · exact row0 15 rfl (by decide)
  · exact row1 17 rfl rfl
  · exact row1 18 rfl rfl
  · exact row1 19 rfl rfl
  · exact row1 20 rfl rfl
  · exact row1 21 rfl rfl
  · exact row1 22 rfl rfl
  · exact row1 24 rfl rfl
  · exact row2 26 rfl rfl
theorem grp_of {g : Int} (h : g = 0 ∨ g = 1 ∨ g = 2) : grpD (decide (g = 0)) (decide (g = 1)) (decide (g = 2)) = [.int g] := by
  rcases h with rfl | rfl | rfl <;> rfl
theorem dok__law_fields_right (T : Top K mg) : GnD P w K mg base 17 T.a__law_fields_right T.d__law_fields_right ["_law_pen_here"] fieldsD := by
  have G__law_single := (dok__law_single (P := P) (w := w) (base := base) T).mono (k := 14) (by decide)
  have G__law_value := (dok__law_value (P := P) (w := w) (base := base) T).mono (k := 14) (by decide)
  have G_BadText___init__ := (vok_BadText___init__ (P := P) (w := w) (base := base) T).mono (k := 14) (by decide)
  have G_TooMany___init__ := (vok_TooMany___init__ (P := P) (w := w) (base := base) T).mono (k := 14) (by decide)
  have G__law_groups := (dok__law_groups (P := P) (w := w) (base := base) T).mono (k := 14) (by decide)
  have G__law_kinds := (dok__law_kinds (P := P) (w := w) (base := base) T).mono (k := 14) (by decide)
  refine dfg (k := 16) T.F__law_fields_right sc_law_fields_right (fun ds G Q W h => ?_) (fun cdv A outer s H E B hg hr => ⟨_, (db_cons (ds_par (i := 1) (j := 2) (by rfl) sc_law_fields_right.nd rfl rfl (by decide) rfl rfl (da_cons (de_call G__law_value (hr.mono (by decide)) (by rfl) T.g__law_value T.F__law_value.kp T.b__law_value hx0 (da_cons (dv 0) da_nil)) (da_cons (de_call G__law_value (hr.mono (by decide)) (by rfl) T.g__law_value T.F__law_value.kp T.b__law_value hx0 (da_cons (dv 0) da_nil)) da_nil)) (by rfl))
  (db_cons (ds_for PassesOwn.never rfl (di_list (de_call G__law_single (hr.mono (by decide)) (by rfl) T.g__law_single T.F__law_single.kp T.b__law_single hx0 (da_cons (dv 0) (da_cons (dv 1) da_nil)))) (dg_tup (by rfl) (dgs_cons (dg_name (i := 3) sc_law_fields_right.nd rfl (.inl rfl)) (dgs_cons (dg_name (i := 4) sc_law_fields_right.nd rfl (.inl rfl)) (dgs_cons (dg_name (i := 5) sc_law_fields_right.nd rfl (.inl rfl)) dgs_nil))))
    (db_cons (ds_if (dw_pt (dw_or (dt_cmp op_ne neSI_A (de_callB (call_reprX hg (Room.units hr)) reprX_A (by rfl) T.z_repr (by decide +kernel) (da_cons (dv 4) da_nil)) (de_callB (call_reprX hg (Room.units hr)) reprX_A (by rfl) T.z_repr (by decide +kernel) (da_cons (dv 1) da_nil)) (nomark _)) (dw_or (dt_cmp (op_neD (Room.units hr)) neI_A (de_call G__law_groups (hr.mono (by decide)) (by rfl) T.g__law_groups T.F__law_groups.kp T.b__law_groups hx0 (da_cons (dv 3) da_nil)) (de_lst (da_cons (dv 5) da_nil)) (nomark _)) (dw_or1 (dt_cmp (op_neD (Room.units hr)) neI_A (de_call G__law_kinds (hr.mono (by decide)) (by rfl) T.g__law_kinds T.F__law_kinds.kp T.b__law_kinds hx0 (da_cons (dv 3) da_nil)) de_int (nomark _))))))
    (db_one (ds_ret de_bl))
    db_nil)
  (db_cons (ds_if (dw_pt (dw_or (dt_not (dt_val (de_isXK (K := K) (C := T.C_CountError) rfl (by rfl) T.z_isinstance (by decide +kernel) (dv 3) (pe_glob rfl T.g_CountError rfl)))) (dw_or1 (dt_not (dt_val (de_isXT (K := K) (n := "ValueError") rfl (by rfl) T.z_isinstance (by decide +kernel) (dv 3) (pe_bltn (by rfl) T.z_ValueError (by decide +kernel) rfl)))))))
    (db_one (ds_ret de_bl))
    db_nil)
  (db_one (ds_if (dt_val (de_isXTs (K := K) (ns := ["LookupError", "AttributeError", "ArithmeticError", "RuntimeError"]) rfl (by rfl) T.z_isinstance (by decide +kernel) (dv 3) (pa_tyn_cons (pe_bltn (by rfl) T.z_LookupError (by decide +kernel) rfl) (pa_tyn_cons (pe_bltn (by rfl) T.z_AttributeError (by decide +kernel) rfl) (pa_tyn_cons (pe_bltn (by rfl) T.z_ArithmeticError (by decide +kernel) rfl) (pa_tyn_cons (pe_bltn (by rfl) T.z_RuntimeError (by decide +kernel) rfl) pa_tyn_nil)))) (by decide)))
    (db_one (ds_ret de_bl))
    db_nil)))))
  (db_cons (ds_par (i := 6) (j := 7) (by rfl) sc_law_fields_right.nd rfl rfl (by decide) rfl rfl (da_cons (de_mkX2 (K := K) rfl T.ox_BadText T.ex_BadText T.ic_BadText T.ti_BadText G_BadText___init__ (hr.mono (by decide)) T.b_BadText___init__ rfl (by rfl) T.g_BadText (da_cons (dv 1) (da_cons (dv 2) da_nil))) (da_cons (de_mkX2 (K := K) rfl T.ox_TooMany T.ex_TooMany T.ic_TooMany T.ti_TooMany G_TooMany___init__ (hr.mono (by decide)) T.b_TooMany___init__ rfl (by rfl) T.g_TooMany (da_cons (dv 1) (da_cons (dv 2) da_nil))) da_nil)) (by rfl))
  (db_cons (ds_if (dt_cmp op_ne neSI_A (de_callB (call_reprX hg (Room.units hr)) reprX_A (by rfl) T.z_repr (by decide +kernel) (da_cons (de_lst (da_cons (de_xaK (K := K) rfl (dv 6)) (da_cons (de_xaK (K := K) rfl (dv 6)) (da_cons (de_xaK (K := K) rfl (dv 7)) (da_cons (de_xaK (K := K) rfl (dv 7)) da_nil))))) da_nil)) (de_callB (call_reprX hg (Room.units hr)) reprX_A (by rfl) T.z_repr (by decide +kernel) (da_cons (de_lst (da_cons (dv 1) (da_cons (dv 2) (da_cons (dv 1) (da_cons (dv 2) da_nil))))) da_nil)) (nomark _))
    (db_one (ds_ret de_bl))
    db_nil)
  (db_cons (ds_par (i := 6) (j := 7) (by rfl) sc_law_fields_right.nd rfl rfl (by decide) rfl rfl (da_cons (de_mkX2r (K := K) rfl T.ox_BadText T.ex_BadText T.ic_BadText T.ti_BadText G_BadText___init__ (hr.mono (by decide)) T.kx2_BadText (by rfl) T.g_BadText (dk_cons (dv 2) (dk_cons (dv 1) dk_nil))) (da_cons (de_mkX2r (K := K) rfl T.ox_TooMany T.ex_TooMany T.ic_TooMany T.ti_TooMany G_TooMany___init__ (hr.mono (by decide)) T.kx2_TooMany (by rfl) T.g_TooMany (dk_cons (dv 2) (dk_cons (dv 1) dk_nil))) da_nil)) (by rfl))
  (db_cons (ds_if (dt_cmp op_ne neSI_A (de_callB (call_reprX hg (Room.units hr)) reprX_A (by rfl) T.z_repr (by decide +kernel) (da_cons (de_lst (da_cons (de_xaK (K := K) rfl (dv 6)) (da_cons (de_xaK (K := K) rfl (dv 6)) (da_cons (de_xaK (K := K) rfl (dv 7)) (da_cons (de_xaK (K := K) rfl (dv 7)) da_nil))))) da_nil)) (de_callB (call_reprX hg (Room.units hr)) reprX_A (by rfl) T.z_repr (by decide +kernel) (da_cons (de_lst (da_cons (dv 1) (da_cons (dv 2) (da_cons (dv 1) (da_cons (dv 2) da_nil))))) da_nil)) (nomark _))
    (db_one (ds_ret de_bl))
    db_nil)
  (db_one (ds_ret (de_and (de_cmp (op_eqD (Room.units hr)) eqI_A (de_call G__law_groups (hr.mono (by decide)) (by rfl) T.g__law_groups T.F__law_groups.kp T.b__law_groups hx0 (da_cons (dv 6) da_nil)) (de_lst (da_cons de_int da_nil)) (nomark _)) (de_and (de_cmp (op_eqD (Room.units hr)) eqI_A (de_call G__law_groups (hr.mono (by decide)) (by rfl) T.g__law_groups T.F__law_groups.kp T.b__law_groups hx0 (da_cons (dv 7) da_nil)) (de_lst (da_cons de_int da_nil)) (nomark _)) (de_and (de_cmp (op_eqD (Room.units hr)) eqI_A (de_call G__law_kinds (hr.mono (by decide)) (by rfl) T.g__law_kinds T.F__law_kinds.kp T.b__law_kinds hx0 (da_cons (dv 6) da_nil)) de_int (nomark _)) (de_one (de_cmp (op_eqD (Room.units hr)) eqI_A (de_call G__law_kinds (hr.mono (by decide)) (by rfl) T.g__law_kinds T.F__law_kinds.kp T.b__law_kinds hx0 (da_cons (dv 7) da_nil)) de_int (nomark _)))))))))))))), fun ds G Q W h => ?_⟩)
  · obtain ⟨p, m, rfl, _⟩ := h
    rfl
  · obtain ⟨p, m, rfl, hG, hm, q⟩ := h
    refine ⟨p, m, rfl, hG, by omega, fun mine h1 => ⟨p, m + 1, rfl, updG_same, by omega, fun more h2 => ?_⟩⟩
    rw [updG_updG]
    refine ⟨_, mine, rfl, h1, ?_⟩
    have c1 := vals_cp mine h1
    have c2 := vals_cp more h2
    obtain ⟨pm, hpm⟩ := rp h1
    refine for_at (fun j δ G' => G' = updG G p (.pen (m + 1 + 1)) ∧ ∃ x3 x4 x5 x6 x7, δ = [some (.adr p), some mine, some more, x3, x4, x5, x6, x7]) ((rowsT T).map (rowD mine)) (fun j δ G1 d N hd hI hN => ?_) (fun δ G1 hI => ?_) _ 0 _ _ (Nat.zero_le _) rfl ⟨rfl, _, _, _, _, _, rfl⟩
    · obtain ⟨rfl, x3, x4, x5, x6, x7, rfl⟩ := hI
      obtain ⟨⟨C, f, g⟩, hr, rfl⟩ := map_at hd
      have ok := rows_ok T _ (List.mem_of_getElem? hr)
      dsimp only at ok
      refine ⟨rfl, hpm _ _ (hpm _ _ (neSI_self ?_))⟩
      refine ⟨C, _, _, _, _, rfl, ok.g0, ok.g1, ok.g2, small1000 (show 1 ≤ 1000 by decide), ?_⟩
      rw [grp_of ok.gm]
      refine neI_self ((pl_lst (k := 0) (pl_cons pl_int pl_nil)).mono (by decide)) ?_
      refine ⟨C, _, rfl, ok.kd, ?_⟩
      rw [ok.ct]
      refine neI_self pl_int ?_
      refine ⟨true, ok.ce, true, ok.ve, false, ok.ot, ?_⟩
      exact hN _ _ ⟨rfl, _, _, _, _, _, rfl⟩
    · obtain ⟨rfl, x3, x4, x5, x6, x7, rfl⟩ := hI
      obtain ⟨pl, hpl⟩ := rpl h1 h2
      have okT : RowOk T T.C_BadText 0 := row0 16 rfl (by decide)
      have okM : RowOk T T.C_TooMany 1 := row1 23 rfl rfl
      refine ⟨mine, more, rfl, c1, c2, mine, more, rfl, c1, c2, ?_⟩
      refine ⟨T.xf_BadText, T.no_BadText_line, T.xf_BadText, T.no_BadText_word, T.xf_TooMany, T.no_TooMany_what, T.xf_TooMany, T.no_TooMany_most, small1000 (show 4 ≤ 1000 by decide), hpl _ _ ⟨small1000 (show 4 ≤ 1000 by decide), hpl _ _ (neSI_self ?_)⟩⟩
      refine ⟨mine, more, rfl, c1, c2, mine, more, rfl, c1, c2, ?_⟩
      refine ⟨T.xf_BadText, T.no_BadText_line, T.xf_BadText, T.no_BadText_word, T.xf_TooMany, T.no_TooMany_what, T.xf_TooMany, T.no_TooMany_most, small1000 (show 4 ≤ 1000 by decide), hpl _ _ ⟨small1000 (show 4 ≤ 1000 by decide), hpl _ _ (neSI_self ?_)⟩⟩
      refine ⟨_, _, _, _, _, rfl, okT.g0, okT.g1, okT.g2, small1000 (show 1 ≤ 1000 by decide), ?_⟩
      rw [grp_of okT.gm]
      refine eqI_self ((pl_lst (k := 0) (pl_cons pl_int pl_nil)).mono (by decide)) ?_
      refine ⟨_, _, _, _, _, rfl, okM.g0, okM.g1, okM.g2, small1000 (show 1 ≤ 1000 by decide), ?_⟩
      rw [grp_of okM.gm]
      refine eqI_self ((pl_lst (k := 0) (pl_cons pl_int pl_nil)).mono (by decide)) ?_
      refine ⟨_, _, rfl, okT.kd, ?_⟩
      rw [okT.ct]
      refine eqI_self pl_int ?_
      refine ⟨_, _, rfl, okM.kd, ?_⟩
      rw [okM.ct]
      refine eqI_self pl_int ?_
      exact q
end

section
variable {P : Program} {w : World} {K : PySem.W.Frag} {mg : Str → Option Value} {base : Heap}
theorem dok_law (T : Top K mg) : GnD P w K mg base 21 T.a_law T.d_law ["_law_script"] lawD := by
  have G__law_pen := (dok__law_pen (P := P) (w := w) (base := base) T).mono (k := 18) (by decide)
  have G__law_fields_right := (dok__law_fields_right (P := P) (w := w) (base := base) T).mono (k := 18) (by decide)
  have G__law_groups := (dok__law_groups (P := P) (w := w) (base := base) T).mono (k := 18) (by decide)
  have G__law_kinds := (dok__law_kinds (P := P) (w := w) (base := base) T).mono (k := 18) (by decide)
  refine dfg (k := 20) T.F_law sclaw (fun ds G Q W h => ?_) (fun cdv A outer s H E B hg hr => ⟨_, (db_cons (ds_set (i := 1) sclaw.nd rfl (.inl rfl) (de_call G__law_pen (hr.mono (by decide)) (by rfl) T.g__law_pen T.F__law_pen.kp T.b__law_pen hx0 (da_cons (dv 0) da_nil)))
  (db_cons (ds_for PassesOwn.never rfl (di_range1 (by rfl) T.z_range (da_cons de_int da_nil)) (dg_name (i := 2) sclaw.nd rfl (.inl rfl))
    (db_one (ds_if (dt_not (dt_val (de_g G__law_fields_right hg (hr.mono (by decide)) (by rfl) T.g__law_fields_right T.F__law_fields_right.kp T.b__law_fields_right (da_cons (dv 1) da_nil))))
    (db_one (ds_ret de_bl))
    db_nil)))
  (db_cons (ds_if (dw_pt (dw_or (dt_cmp (op_neD (Room.units hr)) neI_A (de_call G__law_groups (hr.mono (by decide)) (by rfl) T.g__law_groups T.F__law_groups.kp T.b__law_groups hx0 (da_cons (de_mkX0 (K := K) rfl PySem.F.excBase_ValueError T.xn_NoDeed T.ex_NoDeed T.g_NoDeed T.kx_NoDeed (by rfl)) da_nil)) (de_lst (da_cons de_int da_nil)) (nomark _)) (dw_or1 (dt_cmp (op_neD (Room.units hr)) neI_A (de_call G__law_kinds (hr.mono (by decide)) (by rfl) T.g__law_kinds T.F__law_kinds.kp T.b__law_kinds hx0 (da_cons (de_mkX0 (K := K) rfl PySem.F.excBase_ValueError T.xn_NoDeed T.ex_NoDeed T.g_NoDeed T.kx_NoDeed (by rfl)) da_nil)) de_int (nomark _)))))
    (db_one (ds_ret de_bl))
    db_nil)
  (db_cons (ds_if (dt_val (de_isXTs (K := K) (ns := ["LookupError", "ArithmeticError", "RuntimeError"]) rfl (by rfl) T.z_isinstance (by decide +kernel) (de_mkX0 (K := K) rfl PySem.F.excBase_ValueError T.xn_NoDeed T.ex_NoDeed T.g_NoDeed T.kx_NoDeed (by rfl)) (pa_tyn_cons (pe_bltn (by rfl) T.z_LookupError (by decide +kernel) rfl) (pa_tyn_cons (pe_bltn (by rfl) T.z_ArithmeticError (by decide +kernel) rfl) (pa_tyn_cons (pe_bltn (by rfl) T.z_RuntimeError (by decide +kernel) rfl) pa_tyn_nil))) (by decide)))
    (db_one (ds_ret de_bl))
    db_nil)
  (db_one (ds_ret (de_and (de_cmp (op_eqD (Room.units hr)) eqI_A (de_call G__law_groups (hr.mono (by decide)) (by rfl) T.g__law_groups T.F__law_groups.kp T.b__law_groups hx0 (da_cons (de_mkX0 (K := K) rfl PySem.F.excBase_ValueError T.xn_CountError T.ex_CountError T.g_CountError T.kx_CountError (by rfl)) da_nil)) (de_lst da_nil) (nomark _)) (de_and (de_isXK (K := K) (C := T.C_CountError) rfl (by rfl) T.z_isinstance (by decide +kernel) (de_mkX0 (K := K) rfl PySem.F.excBase_ValueError T.xn_BadInput T.ex_BadInput T.g_BadInput T.kx_BadInput (by rfl)) (pe_glob rfl T.g_CountError rfl)) (de_one (de_cmp (op_eqD (Room.units hr)) eqI_A (de_call G__law_kinds (hr.mono (by decide)) (by rfl) T.g__law_kinds T.F__law_kinds.kp T.b__law_kinds hx0 (da_cons (de_mkX0 (K := K) rfl PySem.F.excBase_ValueError T.xn_Refused T.ex_Refused T.g_Refused T.kx_Refused (by rfl)) da_nil)) de_int (nomark _))))))))))), fun ds G Q W h => ?_⟩)
  · obtain ⟨ns, rfl, _⟩ := h
    rfl
  · obtain ⟨script, rfl, hl, hG, q⟩ := h
    refine ⟨script, rfl, hl, fun p hp => ?_⟩
    refine ⟨⟨by decide, by decide⟩, ?_⟩
    refine for_inv (fun j δ G' => ∃ (x0 x2 : Option D) (m : Nat), δ = [x0, some (.adr p), x2] ∧ m ≤ 2 * j ∧ G' = updG G p (.pen m)) (n := 8) (rangeD 0 8) 0 _ _ rfl (fun j δ G1 d N hd hj hI hN => ?_) ⟨_, _, 0, rfl, by omega, rfl⟩ (fun δ G1 hI => ?_)
    · obtain ⟨x0, x2, m, rfl, hm, rfl⟩ := hI
      refine ⟨p, m, rfl, updG_same, by omega, ?_⟩
      rw [updG_updG]
      exact hN _ _ ⟨_, _, m + 2, rfl, by omega, rfl⟩
    · obtain ⟨x0, x2, m, rfl, hm, rfl⟩ := hI
      have okD : RowOk T T.C_NoDeed 2 := row2 25 rfl rfl
      obtain ⟨a, b, c⟩ := T.gc T.C_CountError List.mem_cons_self
      have hr0 : (kinds T).count T.C_Refused = 0 := List.count_eq_zero.mpr T.kr
      refine ⟨_, _, _, _, _, rfl, okD.g0, okD.g1, okD.g2, small1000 (show 1 ≤ 1000 by decide), ?_⟩
      rw [grp_of okD.gm]
      refine neI_self ((pl_lst (k := 0) (pl_cons pl_int pl_nil)).mono (by decide)) ?_
      refine ⟨_, _, rfl, okD.kd, ?_⟩
      rw [okD.ct]
      refine neI_self pl_int ?_
      refine ⟨false, T.o3 _ List.mem_cons_self, ?_⟩
      refine ⟨_, _, false, false, false, rfl, a, b, c, small1000 (show 0 ≤ 1000 by decide), ?_⟩
      refine eqI_self ((pl_lst (k := 0) pl_nil).mono (by decide)) ?_
      refine ⟨true, (T.ce T.C_BadInput (List.mem_append_right _ List.mem_cons_self)).1, ?_⟩
      refine ⟨_, _, rfl, fun b hb => T.kk _ (List.mem_append_right _ List.mem_cons_self) b hb |>.trans ?_, ?_⟩
      · rfl
      rw [hr0]
      exact eqI_self pl_int (q _)
end

end JP
namespace JP
open PySem PySem.Spec PyProof.Rows L2
theorem kit_self {K : PySem.W.Frag} {C : Addr} : PySem.W.kitOne K (.ref C) (.ref C) = some true := by
  unfold PySem.W.kitOne
  simp
theorem kit_no {K : PySem.W.Frag} {C : Addr} {t : String} {b : Bool} (h : PySem.W.subIn K (.ref C) (.type t) = some b) (hm : PySem.W.kitMeta t = true) : PySem.W.kitOne K (.ref C) (.type t) = some b := by
  unfold PySem.W.kitOne
  rw [if_neg (by simp)]
  show (if PySem.W.kitMeta t = true then PySem.W.subIn K (.ref C) (.type t) else none) = some b
  rw [if_pos hm, h]
theorem exm_of2 {K : PySem.W.Frag} {A C : Addr} {b : Bool} (h1 : PySem.W.subIn K (.ref C) (.type "BaseException") = some true) (h2 : PySem.W.isClsIn K C = true) (h3 : PySem.W.typeIn K (.ref C) = some (.type "type")) (h4 : PySem.W.subIn K (.ref A) (.ref C) = some b) :
    PySem.W.exmOne K (.ref A) (.ref C) = some b := by
  have e1 : (PySem.W.subIn K (.ref C) (.type "BaseException") == some true) = true := by rw [h1] <;> rfl
  have e2 : ((PySem.W.clsIn K C).isSome && PySem.W.typeIn K (.ref C) == some (.type "type")) = true := by
    have h2' : (PySem.W.clsIn K C).isSome = true := h2
    rw [h2', h3] <;> rfl
  show (if (PySem.W.subIn K (.ref C) (.type "BaseException") == some true) = true then (if ((PySem.W.clsIn K C).isSome && PySem.W.typeIn K (.ref C) == some (.type "type")) = true then PySem.W.subIn K (.ref A) (.ref C) else none) else none) = some b
  rw [if_pos e1, if_pos e2]
  exact h4
abbrev RY : PySem.W.OpenRow := PySem.W.OpenLaw.row PySem.Challenge.rw_rowcounts_k01_errors_and_their_fields
def bsY (K : PySem.W.Frag) : List Bool := [
    decide (PySem.W.specialIn K (.builtin "object.__class__") "__get__" = some (some (.builtin "getset_descriptor.__get__"))),
    decide (PySem.W.takesIn K (.builtin "object.__class__") = some true),
    decide (PySem.W.nsIn K mainGlobals "CountError" = some (some (.ref (He.ga K "CountError")))),
    decide (PySem.W.nsIn K mainGlobals "BadInput" = some (some (.ref (He.ga K "BadInput")))),
    decide (PySem.W.nsIn K mainGlobals "Refused" = some (some (.ref (He.ga K "Refused")))),
    decide (PySem.W.nsIn K mainGlobals "NoAnswer" = some (some (.ref (He.ga K "NoAnswer")))),
    decide (PySem.W.nsIn K mainGlobals "NoDeed" = some (some (.ref (He.ga K "NoDeed")))),
    decide (PySem.W.nsIn K mainGlobals "BadBag" = some (some (.ref (He.ga K "BadBag")))),
    decide (oexB K (He.ga K "BadBag") = true),
    decide (PySem.W.findIn K (.ref (He.ga K "BadBag")) "__setattr__" = some (some (.builtin "object.__setattr__"))),
    decide (PySem.W.subIn K (.ref (He.ga K "BadBag")) (.type "BaseException") = some true),
    decide (PySem.W.typeIn K (.ref (He.ga K "BadBag")) = some (.type "type")),
    decide (PySem.W.keepIn K (.ref (He.ga K "BadBag")) = true),
    decide (PySem.W.findIn K (.ref (He.ga K "BadBag")) "__init__" = some (some (.ref (nsA K (He.ga K "BadBag") "__init__")))),
    decide (PySem.W.typeIn K (.ref (nsA K (He.ga K "BadBag") "__init__")) = some (.type "function")),
    decide (PySem.W.findIn K (.ref (He.ga K "BadBag")) "part" = some none),
    decide (PySem.W.findIn K (.ref (He.ga K "BadBag")) "__getattribute__" = some (some (.builtin "BaseException.__getattribute__"))),
    decide (PySem.W.findIn K (.ref (He.ga K "BadBag")) "__getattr__" = some none),
    decide (PySem.W.hasDictIn K (He.ga K "BadBag") = true),
    decide (PySem.W.findIn K (.ref (He.ga K "BadBag")) "__class__" = some (some (.builtin "object.__class__"))),
    decide (PySem.W.mroIn K (He.ga K "BadBag") (.type "object") = some true),
    decide (PySem.W.nsIn K mainGlobals "BadBase" = some (some (.ref (He.ga K "BadBase")))),
    decide (oexB K (He.ga K "BadBase") = true),
    decide (PySem.W.findIn K (.ref (He.ga K "BadBase")) "__setattr__" = some (some (.builtin "object.__setattr__"))),
    decide (PySem.W.subIn K (.ref (He.ga K "BadBase")) (.type "BaseException") = some true),
    decide (PySem.W.typeIn K (.ref (He.ga K "BadBase")) = some (.type "type")),
    decide (PySem.W.keepIn K (.ref (He.ga K "BadBase")) = true),
    decide (PySem.W.findIn K (.ref (He.ga K "BadBase")) "__init__" = some (some (.ref (nsA K (He.ga K "BadBase") "__init__")))),
    decide (PySem.W.typeIn K (.ref (nsA K (He.ga K "BadBase") "__init__")) = some (.type "function")),
    decide (PySem.W.findIn K (.ref (He.ga K "BadBase")) "part" = some none),
    decide (PySem.W.findIn K (.ref (He.ga K "BadBase")) "__getattribute__" = some (some (.builtin "BaseException.__getattribute__"))),
    decide (PySem.W.findIn K (.ref (He.ga K "BadBase")) "__getattr__" = some none),
    decide (PySem.W.hasDictIn K (He.ga K "BadBase") = true),
    decide (PySem.W.findIn K (.ref (He.ga K "BadBase")) "__class__" = some (some (.builtin "object.__class__"))),
    decide (PySem.W.mroIn K (He.ga K "BadBase") (.type "object") = some true),
    decide (PySem.W.nsIn K mainGlobals "BadBook" = some (some (.ref (He.ga K "BadBook")))),
    decide (oexB K (He.ga K "BadBook") = true),
    decide (PySem.W.findIn K (.ref (He.ga K "BadBook")) "__setattr__" = some (some (.builtin "object.__setattr__"))),
    decide (PySem.W.subIn K (.ref (He.ga K "BadBook")) (.type "BaseException") = some true),
    decide (PySem.W.typeIn K (.ref (He.ga K "BadBook")) = some (.type "type")),
    decide (PySem.W.keepIn K (.ref (He.ga K "BadBook")) = true),
    decide (PySem.W.findIn K (.ref (He.ga K "BadBook")) "__init__" = some (some (.ref (nsA K (He.ga K "BadBook") "__init__")))),
    decide (PySem.W.typeIn K (.ref (nsA K (He.ga K "BadBook") "__init__")) = some (.type "function")),
    decide (PySem.W.findIn K (.ref (He.ga K "BadBook")) "at" = some none),
    decide (PySem.W.findIn K (.ref (He.ga K "BadBook")) "__getattribute__" = some (some (.builtin "BaseException.__getattribute__"))),
    decide (PySem.W.findIn K (.ref (He.ga K "BadBook")) "__getattr__" = some none),
    decide (PySem.W.hasDictIn K (He.ga K "BadBook") = true),
    decide (PySem.W.findIn K (.ref (He.ga K "BadBook")) "__class__" = some (some (.builtin "object.__class__"))),
    decide (PySem.W.mroIn K (He.ga K "BadBook") (.type "object") = some true),
    decide (PySem.W.nsIn K mainGlobals "BadBounds" = some (some (.ref (He.ga K "BadBounds")))),
    decide (oexB K (He.ga K "BadBounds") = true),
    decide (PySem.W.findIn K (.ref (He.ga K "BadBounds")) "__setattr__" = some (some (.builtin "object.__setattr__"))),
    decide (PySem.W.subIn K (.ref (He.ga K "BadBounds")) (.type "BaseException") = some true),
    decide (PySem.W.typeIn K (.ref (He.ga K "BadBounds")) = some (.type "type")),
    decide (PySem.W.keepIn K (.ref (He.ga K "BadBounds")) = true),
    decide (PySem.W.findIn K (.ref (He.ga K "BadBounds")) "__init__" = some (some (.ref (nsA K (He.ga K "BadBounds") "__init__")))),
    decide (PySem.W.typeIn K (.ref (nsA K (He.ga K "BadBounds") "__init__")) = some (.type "function")),
    decide (PySem.W.findIn K (.ref (He.ga K "BadBounds")) "at" = some none),
    decide (PySem.W.findIn K (.ref (He.ga K "BadBounds")) "__getattribute__" = some (some (.builtin "BaseException.__getattribute__"))),
    decide (PySem.W.findIn K (.ref (He.ga K "BadBounds")) "__getattr__" = some none),
    decide (PySem.W.hasDictIn K (He.ga K "BadBounds") = true),
    decide (PySem.W.findIn K (.ref (He.ga K "BadBounds")) "__class__" = some (some (.builtin "object.__class__"))),
    decide (PySem.W.mroIn K (He.ga K "BadBounds") (.type "object") = some true),
    decide (PySem.W.nsIn K mainGlobals "BadCounts" = some (some (.ref (He.ga K "BadCounts")))),
    decide (oexB K (He.ga K "BadCounts") = true),
    decide (PySem.W.findIn K (.ref (He.ga K "BadCounts")) "__setattr__" = some (some (.builtin "object.__setattr__"))),
    decide (PySem.W.subIn K (.ref (He.ga K "BadCounts")) (.type "BaseException") = some true),
    decide (PySem.W.typeIn K (.ref (He.ga K "BadCounts")) = some (.type "type")),
    decide (PySem.W.keepIn K (.ref (He.ga K "BadCounts")) = true),
    decide (PySem.W.findIn K (.ref (He.ga K "BadCounts")) "__init__" = some (some (.ref (nsA K (He.ga K "BadCounts") "__init__")))),
    decide (PySem.W.typeIn K (.ref (nsA K (He.ga K "BadCounts") "__init__")) = some (.type "function")),
    decide (PySem.W.findIn K (.ref (He.ga K "BadCounts")) "part" = some none),
    decide (PySem.W.findIn K (.ref (He.ga K "BadCounts")) "__getattribute__" = some (some (.builtin "BaseException.__getattribute__"))),
    decide (PySem.W.findIn K (.ref (He.ga K "BadCounts")) "__getattr__" = some none),
    decide (PySem.W.hasDictIn K (He.ga K "BadCounts") = true),
    decide (PySem.W.findIn K (.ref (He.ga K "BadCounts")) "__class__" = some (some (.builtin "object.__class__"))),
    decide (PySem.W.mroIn K (He.ga K "BadCounts") (.type "object") = some true),
    decide (PySem.W.nsIn K mainGlobals "BadForm" = some (some (.ref (He.ga K "BadForm")))),
    decide (oexB K (He.ga K "BadForm") = true),
    decide (PySem.W.findIn K (.ref (He.ga K "BadForm")) "__setattr__" = some (some (.builtin "object.__setattr__"))),
    decide (PySem.W.subIn K (.ref (He.ga K "BadForm")) (.type "BaseException") = some true),
    decide (PySem.W.typeIn K (.ref (He.ga K "BadForm")) = some (.type "type")),
    decide (PySem.W.keepIn K (.ref (He.ga K "BadForm")) = true),
    decide (PySem.W.findIn K (.ref (He.ga K "BadForm")) "__init__" = some (some (.ref (nsA K (He.ga K "BadForm") "__init__")))),
    decide (PySem.W.typeIn K (.ref (nsA K (He.ga K "BadForm") "__init__")) = some (.type "function")),
    decide (PySem.W.findIn K (.ref (He.ga K "BadForm")) "part" = some none),
    decide (PySem.W.findIn K (.ref (He.ga K "BadForm")) "__getattribute__" = some (some (.builtin "BaseException.__getattribute__"))),
    decide (PySem.W.findIn K (.ref (He.ga K "BadForm")) "__getattr__" = some none),
    decide (PySem.W.hasDictIn K (He.ga K "BadForm") = true),
    decide (PySem.W.findIn K (.ref (He.ga K "BadForm")) "__class__" = some (some (.builtin "object.__class__"))),
    decide (PySem.W.mroIn K (He.ga K "BadForm") (.type "object") = some true),
    decide (PySem.W.nsIn K mainGlobals "BadLine" = some (some (.ref (He.ga K "BadLine")))),
    decide (oexB K (He.ga K "BadLine") = true),
    decide (PySem.W.findIn K (.ref (He.ga K "BadLine")) "__setattr__" = some (some (.builtin "object.__setattr__"))),
    decide (PySem.W.subIn K (.ref (He.ga K "BadLine")) (.type "BaseException") = some true),
    decide (PySem.W.typeIn K (.ref (He.ga K "BadLine")) = some (.type "type")),
    decide (PySem.W.keepIn K (.ref (He.ga K "BadLine")) = true),
    decide (PySem.W.findIn K (.ref (He.ga K "BadLine")) "__init__" = some (some (.ref (nsA K (He.ga K "BadLine") "__init__")))),
    decide (PySem.W.typeIn K (.ref (nsA K (He.ga K "BadLine") "__init__")) = some (.type "function")),
    decide (PySem.W.findIn K (.ref (He.ga K "BadLine")) "word" = some none),
    decide (PySem.W.findIn K (.ref (He.ga K "BadLine")) "__getattribute__" = some (some (.builtin "BaseException.__getattribute__"))),
    decide (PySem.W.findIn K (.ref (He.ga K "BadLine")) "__getattr__" = some none),
    decide (PySem.W.hasDictIn K (He.ga K "BadLine") = true),
    decide (PySem.W.findIn K (.ref (He.ga K "BadLine")) "__class__" = some (some (.builtin "object.__class__"))),
    decide (PySem.W.mroIn K (He.ga K "BadLine") (.type "object") = some true),
    decide (PySem.W.nsIn K mainGlobals "BadName" = some (some (.ref (He.ga K "BadName")))),
    decide (oexB K (He.ga K "BadName") = true),
    decide (PySem.W.findIn K (.ref (He.ga K "BadName")) "__setattr__" = some (some (.builtin "object.__setattr__"))),
    decide (PySem.W.subIn K (.ref (He.ga K "BadName")) (.type "BaseException") = some true),
    decide (PySem.W.typeIn K (.ref (He.ga K "BadName")) = some (.type "type")),
    decide (PySem.W.keepIn K (.ref (He.ga K "BadName")) = true),
    decide (PySem.W.findIn K (.ref (He.ga K "BadName")) "__init__" = some (some (.ref (nsA K (He.ga K "BadName") "__init__")))),
    decide (PySem.W.typeIn K (.ref (nsA K (He.ga K "BadName") "__init__")) = some (.type "function")),
    decide (PySem.W.findIn K (.ref (He.ga K "BadName")) "value" = some none),
    decide (PySem.W.findIn K (.ref (He.ga K "BadName")) "__getattribute__" = some (some (.builtin "BaseException.__getattribute__"))),
    decide (PySem.W.findIn K (.ref (He.ga K "BadName")) "__getattr__" = some none),
    decide (PySem.W.hasDictIn K (He.ga K "BadName") = true),
    decide (PySem.W.findIn K (.ref (He.ga K "BadName")) "__class__" = some (some (.builtin "object.__class__"))),
    decide (PySem.W.mroIn K (He.ga K "BadName") (.type "object") = some true),
    decide (PySem.W.nsIn K mainGlobals "BadNumber" = some (some (.ref (He.ga K "BadNumber")))),
    decide (oexB K (He.ga K "BadNumber") = true),
    decide (PySem.W.findIn K (.ref (He.ga K "BadNumber")) "__setattr__" = some (some (.builtin "object.__setattr__"))),
    decide (PySem.W.subIn K (.ref (He.ga K "BadNumber")) (.type "BaseException") = some true),
    decide (PySem.W.typeIn K (.ref (He.ga K "BadNumber")) = some (.type "type")),
    decide (PySem.W.keepIn K (.ref (He.ga K "BadNumber")) = true),
    decide (PySem.W.findIn K (.ref (He.ga K "BadNumber")) "__init__" = some (some (.ref (nsA K (He.ga K "BadNumber") "__init__")))),
    decide (PySem.W.typeIn K (.ref (nsA K (He.ga K "BadNumber") "__init__")) = some (.type "function")),
    decide (PySem.W.findIn K (.ref (He.ga K "BadNumber")) "value" = some none),
    decide (PySem.W.findIn K (.ref (He.ga K "BadNumber")) "__getattribute__" = some (some (.builtin "BaseException.__getattribute__"))),
    decide (PySem.W.findIn K (.ref (He.ga K "BadNumber")) "__getattr__" = some none),
    decide (PySem.W.hasDictIn K (He.ga K "BadNumber") = true),
    decide (PySem.W.findIn K (.ref (He.ga K "BadNumber")) "__class__" = some (some (.builtin "object.__class__"))),
    decide (PySem.W.mroIn K (He.ga K "BadNumber") (.type "object") = some true),
    decide (PySem.W.nsIn K mainGlobals "BadPlan" = some (some (.ref (He.ga K "BadPlan")))),
    decide (oexB K (He.ga K "BadPlan") = true),
    decide (PySem.W.findIn K (.ref (He.ga K "BadPlan")) "__setattr__" = some (some (.builtin "object.__setattr__"))),
    decide (PySem.W.subIn K (.ref (He.ga K "BadPlan")) (.type "BaseException") = some true),
    decide (PySem.W.typeIn K (.ref (He.ga K "BadPlan")) = some (.type "type")),
    decide (PySem.W.keepIn K (.ref (He.ga K "BadPlan")) = true),
    decide (PySem.W.findIn K (.ref (He.ga K "BadPlan")) "__init__" = some (some (.ref (nsA K (He.ga K "BadPlan") "__init__")))),
    decide (PySem.W.typeIn K (.ref (nsA K (He.ga K "BadPlan") "__init__")) = some (.type "function")),
    decide (PySem.W.findIn K (.ref (He.ga K "BadPlan")) "part" = some none),
    decide (PySem.W.findIn K (.ref (He.ga K "BadPlan")) "__getattribute__" = some (some (.builtin "BaseException.__getattribute__"))),
    decide (PySem.W.findIn K (.ref (He.ga K "BadPlan")) "__getattr__" = some none),
    decide (PySem.W.hasDictIn K (He.ga K "BadPlan") = true),
    decide (PySem.W.findIn K (.ref (He.ga K "BadPlan")) "__class__" = some (some (.builtin "object.__class__"))),
    decide (PySem.W.mroIn K (He.ga K "BadPlan") (.type "object") = some true),
    decide (PySem.W.nsIn K mainGlobals "BadQuestion" = some (some (.ref (He.ga K "BadQuestion")))),
    decide (oexB K (He.ga K "BadQuestion") = true),
    decide (PySem.W.findIn K (.ref (He.ga K "BadQuestion")) "__setattr__" = some (some (.builtin "object.__setattr__"))),
    decide (PySem.W.subIn K (.ref (He.ga K "BadQuestion")) (.type "BaseException") = some true),
    decide (PySem.W.typeIn K (.ref (He.ga K "BadQuestion")) = some (.type "type")),
    decide (PySem.W.keepIn K (.ref (He.ga K "BadQuestion")) = true),
    decide (PySem.W.findIn K (.ref (He.ga K "BadQuestion")) "__init__" = some (some (.ref (nsA K (He.ga K "BadQuestion") "__init__")))),
    decide (PySem.W.typeIn K (.ref (nsA K (He.ga K "BadQuestion") "__init__")) = some (.type "function")),
    decide (PySem.W.findIn K (.ref (He.ga K "BadQuestion")) "part" = some none),
    decide (PySem.W.findIn K (.ref (He.ga K "BadQuestion")) "__getattribute__" = some (some (.builtin "BaseException.__getattribute__"))),
    decide (PySem.W.findIn K (.ref (He.ga K "BadQuestion")) "__getattr__" = some none),
    decide (PySem.W.hasDictIn K (He.ga K "BadQuestion") = true),
    decide (PySem.W.findIn K (.ref (He.ga K "BadQuestion")) "__class__" = some (some (.builtin "object.__class__"))),
    decide (PySem.W.mroIn K (He.ga K "BadQuestion") (.type "object") = some true),
    decide (PySem.W.nsIn K mainGlobals "BadRewrite" = some (some (.ref (He.ga K "BadRewrite")))),
    decide (oexB K (He.ga K "BadRewrite") = true),
    decide (PySem.W.findIn K (.ref (He.ga K "BadRewrite")) "__setattr__" = some (some (.builtin "object.__setattr__"))),
    decide (PySem.W.subIn K (.ref (He.ga K "BadRewrite")) (.type "BaseException") = some true),
    decide (PySem.W.typeIn K (.ref (He.ga K "BadRewrite")) = some (.type "type")),
    decide (PySem.W.keepIn K (.ref (He.ga K "BadRewrite")) = true),
    decide (PySem.W.findIn K (.ref (He.ga K "BadRewrite")) "__init__" = some (some (.ref (nsA K (He.ga K "BadRewrite") "__init__")))),
    decide (PySem.W.typeIn K (.ref (nsA K (He.ga K "BadRewrite") "__init__")) = some (.type "function")),
    decide (PySem.W.findIn K (.ref (He.ga K "BadRewrite")) "part" = some none),
    decide (PySem.W.findIn K (.ref (He.ga K "BadRewrite")) "__getattribute__" = some (some (.builtin "BaseException.__getattribute__"))),
    decide (PySem.W.findIn K (.ref (He.ga K "BadRewrite")) "__getattr__" = some none),
    decide (PySem.W.hasDictIn K (He.ga K "BadRewrite") = true),
    decide (PySem.W.findIn K (.ref (He.ga K "BadRewrite")) "__class__" = some (some (.builtin "object.__class__"))),
    decide (PySem.W.mroIn K (He.ga K "BadRewrite") (.type "object") = some true),
    decide (PySem.W.nsIn K mainGlobals "BadRow" = some (some (.ref (He.ga K "BadRow")))),
    decide (oexB K (He.ga K "BadRow") = true),
    decide (PySem.W.findIn K (.ref (He.ga K "BadRow")) "__setattr__" = some (some (.builtin "object.__setattr__"))),
    decide (PySem.W.subIn K (.ref (He.ga K "BadRow")) (.type "BaseException") = some true),
    decide (PySem.W.typeIn K (.ref (He.ga K "BadRow")) = some (.type "type")),
    decide (PySem.W.keepIn K (.ref (He.ga K "BadRow")) = true),
    decide (PySem.W.findIn K (.ref (He.ga K "BadRow")) "__init__" = some (some (.ref (nsA K (He.ga K "BadRow") "__init__")))),
    decide (PySem.W.typeIn K (.ref (nsA K (He.ga K "BadRow") "__init__")) = some (.type "function")),
    decide (PySem.W.findIn K (.ref (He.ga K "BadRow")) "part" = some none),
    decide (PySem.W.findIn K (.ref (He.ga K "BadRow")) "__getattribute__" = some (some (.builtin "BaseException.__getattribute__"))),
    decide (PySem.W.findIn K (.ref (He.ga K "BadRow")) "__getattr__" = some none),
    decide (PySem.W.hasDictIn K (He.ga K "BadRow") = true),
    decide (PySem.W.findIn K (.ref (He.ga K "BadRow")) "__class__" = some (some (.builtin "object.__class__"))),
    decide (PySem.W.mroIn K (He.ga K "BadRow") (.type "object") = some true),
    decide (PySem.W.nsIn K mainGlobals "BadRule" = some (some (.ref (He.ga K "BadRule")))),
    decide (oexB K (He.ga K "BadRule") = true),
    decide (PySem.W.findIn K (.ref (He.ga K "BadRule")) "__setattr__" = some (some (.builtin "object.__setattr__"))),
    decide (PySem.W.subIn K (.ref (He.ga K "BadRule")) (.type "BaseException") = some true),
    decide (PySem.W.typeIn K (.ref (He.ga K "BadRule")) = some (.type "type")),
    decide (PySem.W.keepIn K (.ref (He.ga K "BadRule")) = true),
    decide (PySem.W.findIn K (.ref (He.ga K "BadRule")) "__init__" = some (some (.ref (nsA K (He.ga K "BadRule") "__init__")))),
    decide (PySem.W.typeIn K (.ref (nsA K (He.ga K "BadRule") "__init__")) = some (.type "function")),
    decide (PySem.W.findIn K (.ref (He.ga K "BadRule")) "part" = some none),
    decide (PySem.W.findIn K (.ref (He.ga K "BadRule")) "__getattribute__" = some (some (.builtin "BaseException.__getattribute__"))),
    decide (PySem.W.findIn K (.ref (He.ga K "BadRule")) "__getattr__" = some none),
    decide (PySem.W.hasDictIn K (He.ga K "BadRule") = true),
    decide (PySem.W.findIn K (.ref (He.ga K "BadRule")) "__class__" = some (some (.builtin "object.__class__"))),
    decide (PySem.W.mroIn K (He.ga K "BadRule") (.type "object") = some true),
    decide (PySem.W.nsIn K mainGlobals "BadStore" = some (some (.ref (He.ga K "BadStore")))),
    decide (oexB K (He.ga K "BadStore") = true),
    decide (PySem.W.findIn K (.ref (He.ga K "BadStore")) "__setattr__" = some (some (.builtin "object.__setattr__"))),
    decide (PySem.W.subIn K (.ref (He.ga K "BadStore")) (.type "BaseException") = some true),
    decide (PySem.W.typeIn K (.ref (He.ga K "BadStore")) = some (.type "type")),
    decide (PySem.W.keepIn K (.ref (He.ga K "BadStore")) = true),
    decide (PySem.W.findIn K (.ref (He.ga K "BadStore")) "__init__" = some (some (.ref (nsA K (He.ga K "BadStore") "__init__")))),
    decide (PySem.W.typeIn K (.ref (nsA K (He.ga K "BadStore") "__init__")) = some (.type "function")),
    decide (PySem.W.findIn K (.ref (He.ga K "BadStore")) "part" = some none),
    decide (PySem.W.findIn K (.ref (He.ga K "BadStore")) "__getattribute__" = some (some (.builtin "BaseException.__getattribute__"))),
    decide (PySem.W.findIn K (.ref (He.ga K "BadStore")) "__getattr__" = some none),
    decide (PySem.W.hasDictIn K (He.ga K "BadStore") = true),
    decide (PySem.W.findIn K (.ref (He.ga K "BadStore")) "__class__" = some (some (.builtin "object.__class__"))),
    decide (PySem.W.mroIn K (He.ga K "BadStore") (.type "object") = some true),
    decide (PySem.W.nsIn K mainGlobals "BadTest" = some (some (.ref (He.ga K "BadTest")))),
    decide (oexB K (He.ga K "BadTest") = true),
    decide (PySem.W.findIn K (.ref (He.ga K "BadTest")) "__setattr__" = some (some (.builtin "object.__setattr__"))),
    decide (PySem.W.subIn K (.ref (He.ga K "BadTest")) (.type "BaseException") = some true),
    decide (PySem.W.typeIn K (.ref (He.ga K "BadTest")) = some (.type "type")),
    decide (PySem.W.keepIn K (.ref (He.ga K "BadTest")) = true),
    decide (PySem.W.findIn K (.ref (He.ga K "BadTest")) "__init__" = some (some (.ref (nsA K (He.ga K "BadTest") "__init__")))),
    decide (PySem.W.typeIn K (.ref (nsA K (He.ga K "BadTest") "__init__")) = some (.type "function")),
    decide (PySem.W.findIn K (.ref (He.ga K "BadTest")) "part" = some none),
    decide (PySem.W.findIn K (.ref (He.ga K "BadTest")) "__getattribute__" = some (some (.builtin "BaseException.__getattribute__"))),
    decide (PySem.W.findIn K (.ref (He.ga K "BadTest")) "__getattr__" = some none),
    decide (PySem.W.hasDictIn K (He.ga K "BadTest") = true),
    decide (PySem.W.findIn K (.ref (He.ga K "BadTest")) "__class__" = some (some (.builtin "object.__class__"))),
    decide (PySem.W.mroIn K (He.ga K "BadTest") (.type "object") = some true),
    decide (PySem.W.nsIn K mainGlobals "BadText" = some (some (.ref (He.ga K "BadText")))),
    decide (oexB K (He.ga K "BadText") = true),
    decide (PySem.W.findIn K (.ref (He.ga K "BadText")) "__setattr__" = some (some (.builtin "object.__setattr__"))),
    decide (PySem.W.subIn K (.ref (He.ga K "BadText")) (.type "BaseException") = some true),
    decide (PySem.W.typeIn K (.ref (He.ga K "BadText")) = some (.type "type")),
    decide (PySem.W.keepIn K (.ref (He.ga K "BadText")) = true),
    decide (PySem.W.findIn K (.ref (He.ga K "BadText")) "__init__" = some (some (.ref (nsA K (He.ga K "BadText") "__init__")))),
    decide (PySem.W.typeIn K (.ref (nsA K (He.ga K "BadText") "__init__")) = some (.type "function")),
    decide (PySem.W.findIn K (.ref (He.ga K "BadText")) "line" = some none),
    decide (PySem.W.findIn K (.ref (He.ga K "BadText")) "word" = some none),
    decide (PySem.W.findIn K (.ref (He.ga K "BadText")) "__getattribute__" = some (some (.builtin "BaseException.__getattribute__"))),
    decide (PySem.W.findIn K (.ref (He.ga K "BadText")) "__getattr__" = some none),
    decide (PySem.W.hasDictIn K (He.ga K "BadText") = true),
    decide (PySem.W.findIn K (.ref (He.ga K "BadText")) "__class__" = some (some (.builtin "object.__class__"))),
    decide (PySem.W.mroIn K (He.ga K "BadText") (.type "object") = some true),
    decide (PySem.W.nsIn K mainGlobals "Breaks" = some (some (.ref (He.ga K "Breaks")))),
    decide (oexB K (He.ga K "Breaks") = true),
    decide (PySem.W.findIn K (.ref (He.ga K "Breaks")) "__setattr__" = some (some (.builtin "object.__setattr__"))),
    decide (PySem.W.subIn K (.ref (He.ga K "Breaks")) (.type "BaseException") = some true),
    decide (PySem.W.typeIn K (.ref (He.ga K "Breaks")) = some (.type "type")),
    decide (PySem.W.keepIn K (.ref (He.ga K "Breaks")) = true),
    decide (PySem.W.findIn K (.ref (He.ga K "Breaks")) "__init__" = some (some (.ref (nsA K (He.ga K "Breaks") "__init__")))),
    decide (PySem.W.typeIn K (.ref (nsA K (He.ga K "Breaks") "__init__")) = some (.type "function")),
    decide (PySem.W.findIn K (.ref (He.ga K "Breaks")) "rule" = some none),
    decide (PySem.W.findIn K (.ref (He.ga K "Breaks")) "__getattribute__" = some (some (.builtin "BaseException.__getattribute__"))),
    decide (PySem.W.findIn K (.ref (He.ga K "Breaks")) "__getattr__" = some none),
    decide (PySem.W.hasDictIn K (He.ga K "Breaks") = true),
    decide (PySem.W.findIn K (.ref (He.ga K "Breaks")) "__class__" = some (some (.builtin "object.__class__"))),
    decide (PySem.W.mroIn K (He.ga K "Breaks") (.type "object") = some true),
    decide (PySem.W.nsIn K mainGlobals "NoColumn" = some (some (.ref (He.ga K "NoColumn")))),
    decide (oexB K (He.ga K "NoColumn") = true),
    decide (PySem.W.findIn K (.ref (He.ga K "NoColumn")) "__setattr__" = some (some (.builtin "object.__setattr__"))),
    decide (PySem.W.subIn K (.ref (He.ga K "NoColumn")) (.type "BaseException") = some true),
    decide (PySem.W.typeIn K (.ref (He.ga K "NoColumn")) = some (.type "type")),
    decide (PySem.W.keepIn K (.ref (He.ga K "NoColumn")) = true),
    decide (PySem.W.findIn K (.ref (He.ga K "NoColumn")) "__init__" = some (some (.ref (nsA K (He.ga K "NoColumn") "__init__")))),
    decide (PySem.W.typeIn K (.ref (nsA K (He.ga K "NoColumn") "__init__")) = some (.type "function")),
    decide (PySem.W.findIn K (.ref (He.ga K "NoColumn")) "name" = some none),
    decide (PySem.W.findIn K (.ref (He.ga K "NoColumn")) "__getattribute__" = some (some (.builtin "BaseException.__getattribute__"))),
    decide (PySem.W.findIn K (.ref (He.ga K "NoColumn")) "__getattr__" = some none),
    decide (PySem.W.hasDictIn K (He.ga K "NoColumn") = true),
    decide (PySem.W.findIn K (.ref (He.ga K "NoColumn")) "__class__" = some (some (.builtin "object.__class__"))),
    decide (PySem.W.mroIn K (He.ga K "NoColumn") (.type "object") = some true),
    decide (PySem.W.nsIn K mainGlobals "NoFit" = some (some (.ref (He.ga K "NoFit")))),
    decide (oexB K (He.ga K "NoFit") = true),
    decide (PySem.W.findIn K (.ref (He.ga K "NoFit")) "__setattr__" = some (some (.builtin "object.__setattr__"))),
    decide (PySem.W.subIn K (.ref (He.ga K "NoFit")) (.type "BaseException") = some true),
    decide (PySem.W.typeIn K (.ref (He.ga K "NoFit")) = some (.type "type")),
    decide (PySem.W.keepIn K (.ref (He.ga K "NoFit")) = true),
    decide (PySem.W.findIn K (.ref (He.ga K "NoFit")) "__init__" = some (some (.ref (nsA K (He.ga K "NoFit") "__init__")))),
    decide (PySem.W.typeIn K (.ref (nsA K (He.ga K "NoFit") "__init__")) = some (.type "function")),
    decide (PySem.W.findIn K (.ref (He.ga K "NoFit")) "place" = some none),
    decide (PySem.W.findIn K (.ref (He.ga K "NoFit")) "__getattribute__" = some (some (.builtin "BaseException.__getattribute__"))),
    decide (PySem.W.findIn K (.ref (He.ga K "NoFit")) "__getattr__" = some none),
    decide (PySem.W.hasDictIn K (He.ga K "NoFit") = true),
    decide (PySem.W.findIn K (.ref (He.ga K "NoFit")) "__class__" = some (some (.builtin "object.__class__"))),
    decide (PySem.W.mroIn K (He.ga K "NoFit") (.type "object") = some true),
    decide (PySem.W.nsIn K mainGlobals "NoPlace" = some (some (.ref (He.ga K "NoPlace")))),
    decide (oexB K (He.ga K "NoPlace") = true),
    decide (PySem.W.findIn K (.ref (He.ga K "NoPlace")) "__setattr__" = some (some (.builtin "object.__setattr__"))),
    decide (PySem.W.subIn K (.ref (He.ga K "NoPlace")) (.type "BaseException") = some true),
    decide (PySem.W.typeIn K (.ref (He.ga K "NoPlace")) = some (.type "type")),
    decide (PySem.W.keepIn K (.ref (He.ga K "NoPlace")) = true),
    decide (PySem.W.findIn K (.ref (He.ga K "NoPlace")) "__init__" = some (some (.ref (nsA K (He.ga K "NoPlace") "__init__")))),
    decide (PySem.W.typeIn K (.ref (nsA K (He.ga K "NoPlace") "__init__")) = some (.type "function")),
    decide (PySem.W.findIn K (.ref (He.ga K "NoPlace")) "place" = some none),
    decide (PySem.W.findIn K (.ref (He.ga K "NoPlace")) "__getattribute__" = some (some (.builtin "BaseException.__getattribute__"))),
    decide (PySem.W.findIn K (.ref (He.ga K "NoPlace")) "__getattr__" = some none),
    decide (PySem.W.hasDictIn K (He.ga K "NoPlace") = true),
    decide (PySem.W.findIn K (.ref (He.ga K "NoPlace")) "__class__" = some (some (.builtin "object.__class__"))),
    decide (PySem.W.mroIn K (He.ga K "NoPlace") (.type "object") = some true),
    decide (PySem.W.nsIn K mainGlobals "NoRow" = some (some (.ref (He.ga K "NoRow")))),
    decide (oexB K (He.ga K "NoRow") = true),
    decide (PySem.W.findIn K (.ref (He.ga K "NoRow")) "__setattr__" = some (some (.builtin "object.__setattr__"))),
    decide (PySem.W.subIn K (.ref (He.ga K "NoRow")) (.type "BaseException") = some true),
    decide (PySem.W.typeIn K (.ref (He.ga K "NoRow")) = some (.type "type")),
    decide (PySem.W.keepIn K (.ref (He.ga K "NoRow")) = true),
    decide (PySem.W.findIn K (.ref (He.ga K "NoRow")) "__init__" = some (some (.ref (nsA K (He.ga K "NoRow") "__init__")))),
    decide (PySem.W.typeIn K (.ref (nsA K (He.ga K "NoRow") "__init__")) = some (.type "function")),
    decide (PySem.W.findIn K (.ref (He.ga K "NoRow")) "row" = some none),
    decide (PySem.W.findIn K (.ref (He.ga K "NoRow")) "__getattribute__" = some (some (.builtin "BaseException.__getattribute__"))),
    decide (PySem.W.findIn K (.ref (He.ga K "NoRow")) "__getattr__" = some none),
    decide (PySem.W.hasDictIn K (He.ga K "NoRow") = true),
    decide (PySem.W.findIn K (.ref (He.ga K "NoRow")) "__class__" = some (some (.builtin "object.__class__"))),
    decide (PySem.W.mroIn K (He.ga K "NoRow") (.type "object") = some true),
    decide (PySem.W.nsIn K mainGlobals "NoTable" = some (some (.ref (He.ga K "NoTable")))),
    decide (oexB K (He.ga K "NoTable") = true),
    decide (PySem.W.findIn K (.ref (He.ga K "NoTable")) "__setattr__" = some (some (.builtin "object.__setattr__"))),
    decide (PySem.W.subIn K (.ref (He.ga K "NoTable")) (.type "BaseException") = some true),
    decide (PySem.W.typeIn K (.ref (He.ga K "NoTable")) = some (.type "type")),
    decide (PySem.W.keepIn K (.ref (He.ga K "NoTable")) = true),
    decide (PySem.W.findIn K (.ref (He.ga K "NoTable")) "__init__" = some (some (.ref (nsA K (He.ga K "NoTable") "__init__")))),
    decide (PySem.W.typeIn K (.ref (nsA K (He.ga K "NoTable") "__init__")) = some (.type "function")),
    decide (PySem.W.findIn K (.ref (He.ga K "NoTable")) "name" = some none),
    decide (PySem.W.findIn K (.ref (He.ga K "NoTable")) "__getattribute__" = some (some (.builtin "BaseException.__getattribute__"))),
    decide (PySem.W.findIn K (.ref (He.ga K "NoTable")) "__getattr__" = some none),
    decide (PySem.W.hasDictIn K (He.ga K "NoTable") = true),
    decide (PySem.W.findIn K (.ref (He.ga K "NoTable")) "__class__" = some (some (.builtin "object.__class__"))),
    decide (PySem.W.mroIn K (He.ga K "NoTable") (.type "object") = some true),
    decide (PySem.W.nsIn K mainGlobals "TooMany" = some (some (.ref (He.ga K "TooMany")))),
    decide (oexB K (He.ga K "TooMany") = true),
    decide (PySem.W.findIn K (.ref (He.ga K "TooMany")) "__setattr__" = some (some (.builtin "object.__setattr__"))),
    decide (PySem.W.subIn K (.ref (He.ga K "TooMany")) (.type "BaseException") = some true),
    decide (PySem.W.typeIn K (.ref (He.ga K "TooMany")) = some (.type "type")),
    decide (PySem.W.keepIn K (.ref (He.ga K "TooMany")) = true),
    decide (PySem.W.findIn K (.ref (He.ga K "TooMany")) "__init__" = some (some (.ref (nsA K (He.ga K "TooMany") "__init__")))),
    decide (PySem.W.typeIn K (.ref (nsA K (He.ga K "TooMany") "__init__")) = some (.type "function")),
    decide (PySem.W.findIn K (.ref (He.ga K "TooMany")) "what" = some none),
    decide (PySem.W.findIn K (.ref (He.ga K "TooMany")) "most" = some none),
    decide (PySem.W.findIn K (.ref (He.ga K "TooMany")) "__getattribute__" = some (some (.builtin "BaseException.__getattribute__"))),
    decide (PySem.W.findIn K (.ref (He.ga K "TooMany")) "__getattr__" = some none),
    decide (PySem.W.hasDictIn K (He.ga K "TooMany") = true),
    decide (PySem.W.findIn K (.ref (He.ga K "TooMany")) "__class__" = some (some (.builtin "object.__class__"))),
    decide (PySem.W.mroIn K (He.ga K "TooMany") (.type "object") = some true),
    decide (PySem.W.nsIn K mainGlobals "Unlike" = some (some (.ref (He.ga K "Unlike")))),
    decide (oexB K (He.ga K "Unlike") = true),
    decide (PySem.W.findIn K (.ref (He.ga K "Unlike")) "__setattr__" = some (some (.builtin "object.__setattr__"))),
    decide (PySem.W.subIn K (.ref (He.ga K "Unlike")) (.type "BaseException") = some true),
    decide (PySem.W.typeIn K (.ref (He.ga K "Unlike")) = some (.type "type")),
    decide (PySem.W.keepIn K (.ref (He.ga K "Unlike")) = true),
    decide (PySem.W.findIn K (.ref (He.ga K "Unlike")) "__init__" = some (some (.ref (nsA K (He.ga K "Unlike") "__init__")))),
    decide (PySem.W.typeIn K (.ref (nsA K (He.ga K "Unlike") "__init__")) = some (.type "function")),
    decide (PySem.W.findIn K (.ref (He.ga K "Unlike")) "paper" = some none),
    decide (PySem.W.findIn K (.ref (He.ga K "Unlike")) "__getattribute__" = some (some (.builtin "BaseException.__getattribute__"))),
    decide (PySem.W.findIn K (.ref (He.ga K "Unlike")) "__getattr__" = some none),
    decide (PySem.W.hasDictIn K (He.ga K "Unlike") = true),
    decide (PySem.W.findIn K (.ref (He.ga K "Unlike")) "__class__" = some (some (.builtin "object.__class__"))),
    decide (PySem.W.mroIn K (He.ga K "Unlike") (.type "object") = some true),
    decide (PySem.W.nsIn K mainGlobals "AtRow" = some (some (.ref (He.ga K "AtRow")))),
    decide (oexB K (He.ga K "AtRow") = true),
    decide (PySem.W.findIn K (.ref (He.ga K "AtRow")) "__setattr__" = some (some (.builtin "object.__setattr__"))),
    decide (PySem.W.subIn K (.ref (He.ga K "AtRow")) (.type "BaseException") = some true),
    decide (PySem.W.typeIn K (.ref (He.ga K "AtRow")) = some (.type "type")),
    decide (PySem.W.keepIn K (.ref (He.ga K "AtRow")) = true),
    decide (PySem.W.findIn K (.ref (He.ga K "AtRow")) "__init__" = some (some (.ref (nsA K (He.ga K "AtRow") "__init__")))),
    decide (PySem.W.typeIn K (.ref (nsA K (He.ga K "AtRow") "__init__")) = some (.type "function")),
    decide (PySem.W.findIn K (.ref (He.ga K "AtRow")) "row" = some none),
    decide (PySem.W.findIn K (.ref (He.ga K "AtRow")) "__getattribute__" = some (some (.builtin "BaseException.__getattribute__"))),
    decide (PySem.W.findIn K (.ref (He.ga K "AtRow")) "__getattr__" = some none),
    decide (PySem.W.hasDictIn K (He.ga K "AtRow") = true),
    decide (PySem.W.findIn K (.ref (He.ga K "AtRow")) "__class__" = some (some (.builtin "object.__class__"))),
    decide (PySem.W.mroIn K (He.ga K "AtRow") (.type "object") = some true),
    decide (PySem.W.excIn K (He.ga K "CountError") [.type "ValueError", .type "Exception", .type "BaseException", .type "object"] "ValueError.__new__" = true),
    decide (PySem.W.keepIn K (.ref (He.ga K "CountError")) = true),
    decide (PySem.W.findIn K (.ref (He.ga K "CountError")) "__getattribute__" = some (some (.builtin "BaseException.__getattribute__"))),
    decide (PySem.W.findIn K (.ref (He.ga K "CountError")) "__getattr__" = some none),
    decide (PySem.W.hasDictIn K (He.ga K "CountError") = true),
    decide (PySem.W.subIn K (.ref (He.ga K "CountError")) (.type "BaseException") = some true),
    decide (PySem.W.findIn K (.ref (He.ga K "CountError")) "__class__" = some (some (.builtin "object.__class__"))),
    decide (PySem.W.mroIn K (He.ga K "CountError") (.type "object") = some true),
    decide (PySem.W.excIn K (He.ga K "BadInput") [.type "ValueError", .type "Exception", .type "BaseException", .type "object"] "ValueError.__new__" = true),
    decide (PySem.W.keepIn K (.ref (He.ga K "BadInput")) = true),
    decide (PySem.W.findIn K (.ref (He.ga K "BadInput")) "__getattribute__" = some (some (.builtin "BaseException.__getattribute__"))),
    decide (PySem.W.findIn K (.ref (He.ga K "BadInput")) "__getattr__" = some none),
    decide (PySem.W.hasDictIn K (He.ga K "BadInput") = true),
    decide (PySem.W.subIn K (.ref (He.ga K "BadInput")) (.type "BaseException") = some true),
    decide (PySem.W.findIn K (.ref (He.ga K "BadInput")) "__class__" = some (some (.builtin "object.__class__"))),
    decide (PySem.W.mroIn K (He.ga K "BadInput") (.type "object") = some true),
    decide (PySem.W.excIn K (He.ga K "Refused") [.type "ValueError", .type "Exception", .type "BaseException", .type "object"] "ValueError.__new__" = true),
    decide (PySem.W.keepIn K (.ref (He.ga K "Refused")) = true),
    decide (PySem.W.findIn K (.ref (He.ga K "Refused")) "__getattribute__" = some (some (.builtin "BaseException.__getattribute__"))),
    decide (PySem.W.findIn K (.ref (He.ga K "Refused")) "__getattr__" = some none),
    decide (PySem.W.hasDictIn K (He.ga K "Refused") = true),
    decide (PySem.W.subIn K (.ref (He.ga K "Refused")) (.type "BaseException") = some true),
    decide (PySem.W.findIn K (.ref (He.ga K "Refused")) "__class__" = some (some (.builtin "object.__class__"))),
    decide (PySem.W.mroIn K (He.ga K "Refused") (.type "object") = some true),
    decide (PySem.W.excIn K (He.ga K "NoDeed") [.type "ValueError", .type "Exception", .type "BaseException", .type "object"] "ValueError.__new__" = true),
    decide (PySem.W.keepIn K (.ref (He.ga K "NoDeed")) = true),
    decide (PySem.W.findIn K (.ref (He.ga K "NoDeed")) "__getattribute__" = some (some (.builtin "BaseException.__getattribute__"))),
    decide (PySem.W.findIn K (.ref (He.ga K "NoDeed")) "__getattr__" = some none),
    decide (PySem.W.hasDictIn K (He.ga K "NoDeed") = true),
    decide (PySem.W.subIn K (.ref (He.ga K "NoDeed")) (.type "BaseException") = some true),
    decide (PySem.W.findIn K (.ref (He.ga K "NoDeed")) "__class__" = some (some (.builtin "object.__class__"))),
    decide (PySem.W.mroIn K (He.ga K "NoDeed") (.type "object") = some true),
    decide (∀ a ∈ [(He.ga K "BadBag"), (He.ga K "BadBase"), (He.ga K "BadBook"), (He.ga K "BadBounds"), (He.ga K "BadCounts"), (He.ga K "BadForm"), (He.ga K "BadLine"), (He.ga K "BadName"), (He.ga K "BadNumber"), (He.ga K "BadPlan"), (He.ga K "BadQuestion"), (He.ga K "BadRewrite"), (He.ga K "BadRow"), (He.ga K "BadRule"), (He.ga K "BadStore"), (He.ga K "BadTest"), (He.ga K "BadText"), (He.ga K "Breaks"), (He.ga K "NoColumn"), (He.ga K "NoFit"), (He.ga K "NoPlace"), (He.ga K "NoRow"), (He.ga K "NoTable"), (He.ga K "TooMany"), (He.ga K "Unlike"), (He.ga K "NoDeed"), (He.ga K "AtRow")] ++ [(He.ga K "Refused")], ∀ b ∈ [(He.ga K "BadBag"), (He.ga K "BadBase"), (He.ga K "BadBook"), (He.ga K "BadBounds"), (He.ga K "BadCounts"), (He.ga K "BadForm"), (He.ga K "BadLine"), (He.ga K "BadName"), (He.ga K "BadNumber"), (He.ga K "BadPlan"), (He.ga K "BadQuestion"), (He.ga K "BadRewrite"), (He.ga K "BadRow"), (He.ga K "BadRule"), (He.ga K "BadStore"), (He.ga K "BadTest"), (He.ga K "BadText"), (He.ga K "Breaks"), (He.ga K "NoColumn"), (He.ga K "NoFit"), (He.ga K "NoPlace"), (He.ga K "NoRow"), (He.ga K "NoTable"), (He.ga K "TooMany"), (He.ga K "Unlike"), (He.ga K "NoDeed"), (He.ga K "AtRow")], PySem.W.kitOne K (.ref a) (.ref b) = some (decide (a = b))),
    decide ([(He.ga K "BadBag"), (He.ga K "BadBase"), (He.ga K "BadBook"), (He.ga K "BadBounds"), (He.ga K "BadCounts"), (He.ga K "BadForm"), (He.ga K "BadLine"), (He.ga K "BadName"), (He.ga K "BadNumber"), (He.ga K "BadPlan"), (He.ga K "BadQuestion"), (He.ga K "BadRewrite"), (He.ga K "BadRow"), (He.ga K "BadRule"), (He.ga K "BadStore"), (He.ga K "BadTest"), (He.ga K "BadText"), (He.ga K "Breaks"), (He.ga K "NoColumn"), (He.ga K "NoFit"), (He.ga K "NoPlace"), (He.ga K "NoRow"), (He.ga K "NoTable"), (He.ga K "TooMany"), (He.ga K "Unlike"), (He.ga K "NoDeed"), (He.ga K "AtRow")].Nodup),
    decide ((He.ga K "Refused") ∉ [(He.ga K "BadBag"), (He.ga K "BadBase"), (He.ga K "BadBook"), (He.ga K "BadBounds"), (He.ga K "BadCounts"), (He.ga K "BadForm"), (He.ga K "BadLine"), (He.ga K "BadName"), (He.ga K "BadNumber"), (He.ga K "BadPlan"), (He.ga K "BadQuestion"), (He.ga K "BadRewrite"), (He.ga K "BadRow"), (He.ga K "BadRule"), (He.ga K "BadStore"), (He.ga K "BadTest"), (He.ga K "BadText"), (He.ga K "Breaks"), (He.ga K "NoColumn"), (He.ga K "NoFit"), (He.ga K "NoPlace"), (He.ga K "NoRow"), (He.ga K "NoTable"), (He.ga K "TooMany"), (He.ga K "Unlike"), (He.ga K "NoDeed"), (He.ga K "AtRow")]),
    decide (∀ a ∈ [(He.ga K "BadBag"), (He.ga K "BadBase"), (He.ga K "BadBook"), (He.ga K "BadBounds"), (He.ga K "BadCounts"), (He.ga K "BadForm"), (He.ga K "BadLine"), (He.ga K "BadName"), (He.ga K "BadNumber"), (He.ga K "BadPlan"), (He.ga K "BadQuestion"), (He.ga K "BadRewrite"), (He.ga K "BadRow"), (He.ga K "BadRule"), (He.ga K "BadStore"), (He.ga K "BadTest"), (He.ga K "BadText")], PySem.W.kitOne K (.ref a) (.ref (He.ga K "BadInput")) = some true ∧ PySem.W.kitOne K (.ref a) (.ref (He.ga K "Refused")) = some false ∧ PySem.W.kitOne K (.ref a) (.ref (He.ga K "NoAnswer")) = some false),
    decide (∀ a ∈ [(He.ga K "Breaks"), (He.ga K "NoColumn"), (He.ga K "NoFit"), (He.ga K "NoPlace"), (He.ga K "NoRow"), (He.ga K "NoTable"), (He.ga K "TooMany"), (He.ga K "Unlike")], PySem.W.kitOne K (.ref a) (.ref (He.ga K "BadInput")) = some false ∧ PySem.W.kitOne K (.ref a) (.ref (He.ga K "Refused")) = some true ∧ PySem.W.kitOne K (.ref a) (.ref (He.ga K "NoAnswer")) = some false),
    decide (∀ a ∈ [(He.ga K "NoDeed"), (He.ga K "AtRow")], PySem.W.kitOne K (.ref a) (.ref (He.ga K "BadInput")) = some false ∧ PySem.W.kitOne K (.ref a) (.ref (He.ga K "Refused")) = some false ∧ PySem.W.kitOne K (.ref a) (.ref (He.ga K "NoAnswer")) = some true),
    decide (∀ a ∈ [(He.ga K "CountError")], PySem.W.kitOne K (.ref a) (.ref (He.ga K "BadInput")) = some false ∧ PySem.W.kitOne K (.ref a) (.ref (He.ga K "Refused")) = some false ∧ PySem.W.kitOne K (.ref a) (.ref (He.ga K "NoAnswer")) = some false),
    decide (∀ a ∈ [(He.ga K "BadBag"), (He.ga K "BadBase"), (He.ga K "BadBook"), (He.ga K "BadBounds"), (He.ga K "BadCounts"), (He.ga K "BadForm"), (He.ga K "BadLine"), (He.ga K "BadName"), (He.ga K "BadNumber"), (He.ga K "BadPlan"), (He.ga K "BadQuestion"), (He.ga K "BadRewrite"), (He.ga K "BadRow"), (He.ga K "BadRule"), (He.ga K "BadStore"), (He.ga K "BadTest"), (He.ga K "BadText"), (He.ga K "Breaks"), (He.ga K "NoColumn"), (He.ga K "NoFit"), (He.ga K "NoPlace"), (He.ga K "NoRow"), (He.ga K "NoTable"), (He.ga K "TooMany"), (He.ga K "Unlike"), (He.ga K "NoDeed"), (He.ga K "AtRow")] ++ [(He.ga K "BadInput")], PySem.W.kitOne K (.ref a) (.ref (He.ga K "CountError")) = some true ∧ PySem.W.kitOne K (.ref a) (.type "ValueError") = some true),
    decide (∀ a ∈ [(He.ga K "BadBag"), (He.ga K "BadBase"), (He.ga K "BadBook"), (He.ga K "BadBounds"), (He.ga K "BadCounts"), (He.ga K "BadForm"), (He.ga K "BadLine"), (He.ga K "BadName"), (He.ga K "BadNumber"), (He.ga K "BadPlan"), (He.ga K "BadQuestion"), (He.ga K "BadRewrite"), (He.ga K "BadRow"), (He.ga K "BadRule"), (He.ga K "BadStore"), (He.ga K "BadTest"), (He.ga K "BadText"), (He.ga K "Breaks"), (He.ga K "NoColumn"), (He.ga K "NoFit"), (He.ga K "NoPlace"), (He.ga K "NoRow"), (He.ga K "NoTable"), (He.ga K "TooMany"), (He.ga K "Unlike"), (He.ga K "NoDeed"), (He.ga K "AtRow")], PySem.W.kitAny K (.ref a) [.type "LookupError", .type "AttributeError", .type "ArithmeticError", .type "RuntimeError"] = some false),
    decide (∀ a ∈ [(He.ga K "NoDeed")], PySem.W.kitAny K (.ref a) [.type "LookupError", .type "ArithmeticError", .type "RuntimeError"] = some false),
    decide (PySem.W.nsIn K mainGlobals "own_copy" = some (some (.ref (He.ga K "own_copy")))),
    decide (PySem.W.nsIn K mainGlobals "_law_pen" = some (some (.ref (He.ga K "_law_pen")))),
    decide (PySem.W.nsIn K mainGlobals "_law_draw" = some (some (.ref (He.ga K "_law_draw")))),
    decide (PySem.W.nsIn K mainGlobals "_law_pick" = some (some (.ref (He.ga K "_law_pick")))),
    decide (PySem.W.nsIn K mainGlobals "_law_value" = some (some (.ref (He.ga K "_law_value")))),
    decide (PySem.W.nsIn K mainGlobals "_law_single" = some (some (.ref (He.ga K "_law_single")))),
    decide (PySem.W.nsIn K mainGlobals "_law_groups" = some (some (.ref (He.ga K "_law_groups")))),
    decide (PySem.W.nsIn K mainGlobals "_law_kinds" = some (some (.ref (He.ga K "_law_kinds")))),
    decide (PySem.W.nsIn K mainGlobals "_law_fields_right" = some (some (.ref (He.ga K "_law_fields_right")))),
    decide (PySem.W.nsIn K mainGlobals "law" = some (some (.ref (He.ga K "law")))),
    decide (PySem.W.nsIn K mainGlobals "abs" = some none),
    decide (PySem.W.nsIn K mainGlobals "dict" = some none),
    decide (PySem.W.nsIn K mainGlobals "int" = some none),
    decide (PySem.W.nsIn K mainGlobals "isinstance" = some none),
    decide (PySem.W.nsIn K mainGlobals "len" = some none),
    decide (PySem.W.nsIn K mainGlobals "list" = some none),
    decide (PySem.W.nsIn K mainGlobals "range" = some none),
    decide (PySem.W.nsIn K mainGlobals "repr" = some none),
    decide (PySem.W.nsIn K mainGlobals "tuple" = some none),
    decide (PySem.W.nsIn K mainGlobals "ValueError" = some none),
    decide (PySem.W.nsIn K mainGlobals "LookupError" = some none),
    decide (PySem.W.nsIn K mainGlobals "AttributeError" = some none),
    decide (PySem.W.nsIn K mainGlobals "ArithmeticError" = some none),
    decide (PySem.W.nsIn K mainGlobals "RuntimeError" = some none)]
def fnsY : List DefY := [
    ⟨fun K => (He.ga K "own_copy"), "own_copy", "own_copy", sown_copy, []⟩,
    ⟨fun K => (He.ga K "_law_pen"), "_law_pen", "_law_pen", s_law_pen, []⟩,
    ⟨fun K => (He.ga K "_law_draw"), "_law_draw", "_law_draw", s_law_draw, []⟩,
    ⟨fun K => (He.ga K "_law_pick"), "_law_pick", "_law_pick", s_law_pick, []⟩,
    ⟨fun K => (He.ga K "_law_value"), "_law_value", "_law_value", s_law_value, []⟩,
    ⟨fun K => (He.ga K "_law_single"), "_law_single", "_law_single", s_law_single, []⟩,
    ⟨fun K => (He.ga K "_law_groups"), "_law_groups", "_law_groups", s_law_groups, []⟩,
    ⟨fun K => (He.ga K "_law_kinds"), "_law_kinds", "_law_kinds", s_law_kinds, []⟩,
    ⟨fun K => (He.ga K "_law_fields_right"), "_law_fields_right", "_law_fields_right", s_law_fields_right, []⟩,
    ⟨fun K => (He.ga K "law"), "law", "law", slaw, []⟩,
    ⟨fun K => (nsA K (He.ga K "BadBag") "__init__"), "__init__", "BadBag.__init__", sBadBag___init__, []⟩,
    ⟨fun K => (nsA K (He.ga K "BadBase") "__init__"), "__init__", "BadBase.__init__", sBadBase___init__, []⟩,
    ⟨fun K => (nsA K (He.ga K "BadBook") "__init__"), "__init__", "BadBook.__init__", sBadBook___init__, []⟩,
    ⟨fun K => (nsA K (He.ga K "BadBounds") "__init__"), "__init__", "BadBounds.__init__", sBadBounds___init__, []⟩,
    ⟨fun K => (nsA K (He.ga K "BadCounts") "__init__"), "__init__", "BadCounts.__init__", sBadCounts___init__, []⟩,
    ⟨fun K => (nsA K (He.ga K "BadForm") "__init__"), "__init__", "BadForm.__init__", sBadForm___init__, []⟩,
    ⟨fun K => (nsA K (He.ga K "BadLine") "__init__"), "__init__", "BadLine.__init__", sBadLine___init__, []⟩,
    ⟨fun K => (nsA K (He.ga K "BadName") "__init__"), "__init__", "BadName.__init__", sBadName___init__, []⟩,
    ⟨fun K => (nsA K (He.ga K "BadNumber") "__init__"), "__init__", "BadNumber.__init__", sBadNumber___init__, []⟩,
    ⟨fun K => (nsA K (He.ga K "BadPlan") "__init__"), "__init__", "BadPlan.__init__", sBadPlan___init__, []⟩,
    ⟨fun K => (nsA K (He.ga K "BadQuestion") "__init__"), "__init__", "BadQuestion.__init__", sBadQuestion___init__, []⟩,
    ⟨fun K => (nsA K (He.ga K "BadRewrite") "__init__"), "__init__", "BadRewrite.__init__", sBadRewrite___init__, []⟩,
    ⟨fun K => (nsA K (He.ga K "BadRow") "__init__"), "__init__", "BadRow.__init__", sBadRow___init__, []⟩,
    ⟨fun K => (nsA K (He.ga K "BadRule") "__init__"), "__init__", "BadRule.__init__", sBadRule___init__, []⟩,
    ⟨fun K => (nsA K (He.ga K "BadStore") "__init__"), "__init__", "BadStore.__init__", sBadStore___init__, []⟩,
    ⟨fun K => (nsA K (He.ga K "BadTest") "__init__"), "__init__", "BadTest.__init__", sBadTest___init__, []⟩,
    ⟨fun K => (nsA K (He.ga K "BadText") "__init__"), "__init__", "BadText.__init__", sBadText___init__, []⟩,
    ⟨fun K => (nsA K (He.ga K "Breaks") "__init__"), "__init__", "Breaks.__init__", sBreaks___init__, []⟩,
    ⟨fun K => (nsA K (He.ga K "NoColumn") "__init__"), "__init__", "NoColumn.__init__", sNoColumn___init__, []⟩,
    ⟨fun K => (nsA K (He.ga K "NoFit") "__init__"), "__init__", "NoFit.__init__", sNoFit___init__, []⟩,
    ⟨fun K => (nsA K (He.ga K "NoPlace") "__init__"), "__init__", "NoPlace.__init__", sNoPlace___init__, []⟩,
    ⟨fun K => (nsA K (He.ga K "NoRow") "__init__"), "__init__", "NoRow.__init__", sNoRow___init__, []⟩,
    ⟨fun K => (nsA K (He.ga K "NoTable") "__init__"), "__init__", "NoTable.__init__", sNoTable___init__, []⟩,
    ⟨fun K => (nsA K (He.ga K "TooMany") "__init__"), "__init__", "TooMany.__init__", sTooMany___init__, []⟩,
    ⟨fun K => (nsA K (He.ga K "Unlike") "__init__"), "__init__", "Unlike.__init__", sUnlike___init__, []⟩,
    ⟨fun K => (nsA K (He.ga K "AtRow") "__init__"), "__init__", "AtRow.__init__", sAtRow___init__, []⟩]
def tfY : List (PySem.W.Frag → Addr) := []
def looseY : List Str := (["own_copy", "CountError", "BadInput", "Refused", "NoAnswer", "BadBag", "BadBase", "BadBook", "BadBounds", "BadCounts", "BadForm", "BadLine"] : List Str) ++ (["BadName", "BadNumber", "BadPlan", "BadQuestion", "BadRewrite", "BadRow", "BadRule", "BadStore", "BadTest", "BadText", "Breaks", "NoColumn"] : List Str) ++ (["NoFit", "NoPlace", "NoRow", "NoTable", "TooMany", "Unlike", "NoDeed", "AtRow", "_law_pen", "_law_draw", "_law_pick", "_law_value"] : List Str) ++ (["_law_single", "_law_groups", "_law_kinds", "_law_fields_right"] : List Str)
def tsY : List TabY := []
abbrev hkY : PySem.W.Hook := hookY 4 bsY fnsY tfY tsY
def obY (s : PySem.W.SharedT) : ObY := lookY 4 bsY fnsY tfY tsY (HandSHeadRun.getT s)
theorem obY_eq (s : PySem.W.SharedT) : obY s = hkY.obs s.abs := lookY_eq (HandSHeadRun.getT_eq s)
set_option maxHeartbeats 0 in
theorem runY (w : World) : HandSHeadRun.RunEq RY (PySem.W.view RY.prog [43]) hkY obY 12000 looseY w := by
  intro os
  kernel_rfl
theorem all_y {P : Program} {w : World} {K : PySem.W.Frag} {h : Heap} {mg : Str → Option Value} {fa : Addr} (G : h.Ns mainGlobals mg) (hfa : mg "law" = some (.ref fa)) (c : SaysY bsY fnsY tfY tsY w h K) :
    ∃ (fd : FuncData) (cs : List (Addr × Addr)) (sp : Sp), (∀ p ∈ cs, h.get? p.2 = some { cls := .none, data := .fields #[] }) ∧ (∀ p ∈ cs, K.lookup p.2 = none) ∧ (∀ p ∈ cs, PySem.W.CodeHd h p.1 p.2) ∧ (∀ (s : Shared) (u : Value), BindsTo s fd ⟨[u], []⟩ [("_law_script", u)]) ∧ (∀ (H : Hp) (a : Addr) (ns : List Int), ns.length ≤ 63 → OnlyT (cs.map Prod.snd) H → SqL K H a (ns.map V.int) → sp [.ref a] H (fun v _ => v = .bl true) fun _ _ _ => False) ∧
      ∀ base : Heap, K.In base → base.Ns mainGlobals mg → (∀ p ∈ cs, LamX.TabB base mg p.1 p.2) → GOk P w K mg base 21 fa fd ["_law_script"] sp := by
  have X := c.inK
  have sg : PySem.W.specialIn K (.builtin "object.__class__") "__get__" = some (some (.builtin "getset_descriptor.__get__")) := c.fact 0
  have tk : PySem.W.takesIn K (.builtin "object.__class__") = some true := c.fact 1
  have gCountError : PySem.W.nsIn K mainGlobals "CountError" = some (some (.ref (He.ga K "CountError"))) := c.fact 2
  have gBadInput : PySem.W.nsIn K mainGlobals "BadInput" = some (some (.ref (He.ga K "BadInput"))) := c.fact 3
  have gRefused : PySem.W.nsIn K mainGlobals "Refused" = some (some (.ref (He.ga K "Refused"))) := c.fact 4
  have gNoAnswer : PySem.W.nsIn K mainGlobals "NoAnswer" = some (some (.ref (He.ga K "NoAnswer"))) := c.fact 5
  have gNoDeed : PySem.W.nsIn K mainGlobals "NoDeed" = some (some (.ref (He.ga K "NoDeed"))) := c.fact 6
  have gBadBag : PySem.W.nsIn K mainGlobals "BadBag" = some (some (.ref (He.ga K "BadBag"))) := c.fact 7
  have xoBadBag : oexB K (He.ga K "BadBag") = true := c.fact 8
  have saBadBag : PySem.W.findIn K (.ref (He.ga K "BadBag")) "__setattr__" = some (some (.builtin "object.__setattr__")) := c.fact 9
  have eCBadBag : PySem.W.subIn K (.ref (He.ga K "BadBag")) (.type "BaseException") = some true := c.fact 10
  have tCBadBag : PySem.W.typeIn K (.ref (He.ga K "BadBag")) = some (.type "type") := c.fact 11
  have kCBadBag : PySem.W.keepIn K (.ref (He.ga K "BadBag")) = true := c.fact 12
  have atBadBag___init__ : PySem.W.findIn K (.ref (He.ga K "BadBag")) "__init__" = some (some (.ref (nsA K (He.ga K "BadBag") "__init__"))) := c.fact 13
  have tiBadBag : PySem.W.typeIn K (.ref (nsA K (He.ga K "BadBag") "__init__")) = some (.type "function") := c.fact 14
  have noBadBag_part : PySem.W.findIn K (.ref (He.ga K "BadBag")) "part" = some none := c.fact 15
  have gaBadBag : PySem.W.findIn K (.ref (He.ga K "BadBag")) "__getattribute__" = some (some (.builtin "BaseException.__getattribute__")) := c.fact 16
  have ggBadBag : PySem.W.findIn K (.ref (He.ga K "BadBag")) "__getattr__" = some none := c.fact 17
  have hdBadBag : PySem.W.hasDictIn K (He.ga K "BadBag") = true := c.fact 18
  have caBadBag : PySem.W.findIn K (.ref (He.ga K "BadBag")) "__class__" = some (some (.builtin "object.__class__")) := c.fact 19
  have mrBadBag : PySem.W.mroIn K (He.ga K "BadBag") (.type "object") = some true := c.fact 20
  have gBadBase : PySem.W.nsIn K mainGlobals "BadBase" = some (some (.ref (He.ga K "BadBase"))) := c.fact 21
  have xoBadBase : oexB K (He.ga K "BadBase") = true := c.fact 22
  have saBadBase : PySem.W.findIn K (.ref (He.ga K "BadBase")) "__setattr__" = some (some (.builtin "object.__setattr__")) := c.fact 23
  have eCBadBase : PySem.W.subIn K (.ref (He.ga K "BadBase")) (.type "BaseException") = some true := c.fact 24
  have tCBadBase : PySem.W.typeIn K (.ref (He.ga K "BadBase")) = some (.type "type") := c.fact 25
  have kCBadBase : PySem.W.keepIn K (.ref (He.ga K "BadBase")) = true := c.fact 26
  have atBadBase___init__ : PySem.W.findIn K (.ref (He.ga K "BadBase")) "__init__" = some (some (.ref (nsA K (He.ga K "BadBase") "__init__"))) := c.fact 27
  have tiBadBase : PySem.W.typeIn K (.ref (nsA K (He.ga K "BadBase") "__init__")) = some (.type "function") := c.fact 28
  have noBadBase_part : PySem.W.findIn K (.ref (He.ga K "BadBase")) "part" = some none := c.fact 29
  have gaBadBase : PySem.W.findIn K (.ref (He.ga K "BadBase")) "__getattribute__" = some (some (.builtin "BaseException.__getattribute__")) := c.fact 30
  have ggBadBase : PySem.W.findIn K (.ref (He.ga K "BadBase")) "__getattr__" = some none := c.fact 31
  have hdBadBase : PySem.W.hasDictIn K (He.ga K "BadBase") = true := c.fact 32
  have caBadBase : PySem.W.findIn K (.ref (He.ga K "BadBase")) "__class__" = some (some (.builtin "object.__class__")) := c.fact 33
  have mrBadBase : PySem.W.mroIn K (He.ga K "BadBase") (.type "object") = some true := c.fact 34
  have gBadBook : PySem.W.nsIn K mainGlobals "BadBook" = some (some (.ref (He.ga K "BadBook"))) := c.fact 35
  have xoBadBook : oexB K (He.ga K "BadBook") = true := c.fact 36
  have saBadBook : PySem.W.findIn K (.ref (He.ga K "BadBook")) "__setattr__" = some (some (.builtin "object.__setattr__")) := c.fact 37
  have eCBadBook : PySem.W.subIn K (.ref (He.ga K "BadBook")) (.type "BaseException") = some true := c.fact 38
  have tCBadBook : PySem.W.typeIn K (.ref (He.ga K "BadBook")) = some (.type "type") := c.fact 39
  have kCBadBook : PySem.W.keepIn K (.ref (He.ga K "BadBook")) = true := c.fact 40
  have atBadBook___init__ : PySem.W.findIn K (.ref (He.ga K "BadBook")) "__init__" = some (some (.ref (nsA K (He.ga K "BadBook") "__init__"))) := c.fact 41
  have tiBadBook : PySem.W.typeIn K (.ref (nsA K (He.ga K "BadBook") "__init__")) = some (.type "function") := c.fact 42
  have noBadBook_at : PySem.W.findIn K (.ref (He.ga K "BadBook")) "at" = some none := c.fact 43
  have gaBadBook : PySem.W.findIn K (.ref (He.ga K "BadBook")) "__getattribute__" = some (some (.builtin "BaseException.__getattribute__")) := c.fact 44
  have ggBadBook : PySem.W.findIn K (.ref (He.ga K "BadBook")) "__getattr__" = some none := c.fact 45
  have hdBadBook : PySem.W.hasDictIn K (He.ga K "BadBook") = true := c.fact 46
  have caBadBook : PySem.W.findIn K (.ref (He.ga K "BadBook")) "__class__" = some (some (.builtin "object.__class__")) := c.fact 47
  have mrBadBook : PySem.W.mroIn K (He.ga K "BadBook") (.type "object") = some true := c.fact 48
  have gBadBounds : PySem.W.nsIn K mainGlobals "BadBounds" = some (some (.ref (He.ga K "BadBounds"))) := c.fact 49
  have xoBadBounds : oexB K (He.ga K "BadBounds") = true := c.fact 50
  have saBadBounds : PySem.W.findIn K (.ref (He.ga K "BadBounds")) "__setattr__" = some (some (.builtin "object.__setattr__")) := c.fact 51
  have eCBadBounds : PySem.W.subIn K (.ref (He.ga K "BadBounds")) (.type "BaseException") = some true := c.fact 52
  have tCBadBounds : PySem.W.typeIn K (.ref (He.ga K "BadBounds")) = some (.type "type") := c.fact 53
  have kCBadBounds : PySem.W.keepIn K (.ref (He.ga K "BadBounds")) = true := c.fact 54
  have atBadBounds___init__ : PySem.W.findIn K (.ref (He.ga K "BadBounds")) "__init__" = some (some (.ref (nsA K (He.ga K "BadBounds") "__init__"))) := c.fact 55
  have tiBadBounds : PySem.W.typeIn K (.ref (nsA K (He.ga K "BadBounds") "__init__")) = some (.type "function") := c.fact 56
  have noBadBounds_at : PySem.W.findIn K (.ref (He.ga K "BadBounds")) "at" = some none := c.fact 57
  have gaBadBounds : PySem.W.findIn K (.ref (He.ga K "BadBounds")) "__getattribute__" = some (some (.builtin "BaseException.__getattribute__")) := c.fact 58
  have ggBadBounds : PySem.W.findIn K (.ref (He.ga K "BadBounds")) "__getattr__" = some none := c.fact 59
  have hdBadBounds : PySem.W.hasDictIn K (He.ga K "BadBounds") = true := c.fact 60
  have caBadBounds : PySem.W.findIn K (.ref (He.ga K "BadBounds")) "__class__" = some (some (.builtin "object.__class__")) := c.fact 61
  have mrBadBounds : PySem.W.mroIn K (He.ga K "BadBounds") (.type "object") = some true := c.fact 62
  have gBadCounts : PySem.W.nsIn K mainGlobals "BadCounts" = some (some (.ref (He.ga K "BadCounts"))) := c.fact 63
  have xoBadCounts : oexB K (He.ga K "BadCounts") = true := c.fact 64
  have saBadCounts : PySem.W.findIn K (.ref (He.ga K "BadCounts")) "__setattr__" = some (some (.builtin "object.__setattr__")) := c.fact 65
  have eCBadCounts : PySem.W.subIn K (.ref (He.ga K "BadCounts")) (.type "BaseException") = some true := c.fact 66
  have tCBadCounts : PySem.W.typeIn K (.ref (He.ga K "BadCounts")) = some (.type "type") := c.fact 67
  have kCBadCounts : PySem.W.keepIn K (.ref (He.ga K "BadCounts")) = true := c.fact 68
  have atBadCounts___init__ : PySem.W.findIn K (.ref (He.ga K "BadCounts")) "__init__" = some (some (.ref (nsA K (He.ga K "BadCounts") "__init__"))) := c.fact 69
  have tiBadCounts : PySem.W.typeIn K (.ref (nsA K (He.ga K "BadCounts") "__init__")) = some (.type "function") := c.fact 70
  have noBadCounts_part : PySem.W.findIn K (.ref (He.ga K "BadCounts")) "part" = some none := c.fact 71
  have gaBadCounts : PySem.W.findIn K (.ref (He.ga K "BadCounts")) "__getattribute__" = some (some (.builtin "BaseException.__getattribute__")) := c.fact 72
  have ggBadCounts : PySem.W.findIn K (.ref (He.ga K "BadCounts")) "__getattr__" = some none := c.fact 73
  have hdBadCounts : PySem.W.hasDictIn K (He.ga K "BadCounts") = true := c.fact 74
  have caBadCounts : PySem.W.findIn K (.ref (He.ga K "BadCounts")) "__class__" = some (some (.builtin "object.__class__")) := c.fact 75
  have mrBadCounts : PySem.W.mroIn K (He.ga K "BadCounts") (.type "object") = some true := c.fact 76
  have gBadForm : PySem.W.nsIn K mainGlobals "BadForm" = some (some (.ref (He.ga K "BadForm"))) := c.fact 77
  have xoBadForm : oexB K (He.ga K "BadForm") = true := c.fact 78
  have saBadForm : PySem.W.findIn K (.ref (He.ga K "BadForm")) "__setattr__" = some (some (.builtin "object.__setattr__")) := c.fact 79
  have eCBadForm : PySem.W.subIn K (.ref (He.ga K "BadForm")) (.type "BaseException") = some true := c.fact 80
  have tCBadForm : PySem.W.typeIn K (.ref (He.ga K "BadForm")) = some (.type "type") := c.fact 81
  have kCBadForm : PySem.W.keepIn K (.ref (He.ga K "BadForm")) = true := c.fact 82
  have atBadForm___init__ : PySem.W.findIn K (.ref (He.ga K "BadForm")) "__init__" = some (some (.ref (nsA K (He.ga K "BadForm") "__init__"))) := c.fact 83
  have tiBadForm : PySem.W.typeIn K (.ref (nsA K (He.ga K "BadForm") "__init__")) = some (.type "function") := c.fact 84
  have noBadForm_part : PySem.W.findIn K (.ref (He.ga K "BadForm")) "part" = some none := c.fact 85
  have gaBadForm : PySem.W.findIn K (.ref (He.ga K "BadForm")) "__getattribute__" = some (some (.builtin "BaseException.__getattribute__")) := c.fact 86
  have ggBadForm : PySem.W.findIn K (.ref (He.ga K "BadForm")) "__getattr__" = some none := c.fact 87
  have hdBadForm : PySem.W.hasDictIn K (He.ga K "BadForm") = true := c.fact 88
  have caBadForm : PySem.W.findIn K (.ref (He.ga K "BadForm")) "__class__" = some (some (.builtin "object.__class__")) := c.fact 89
  have mrBadForm : PySem.W.mroIn K (He.ga K "BadForm") (.type "object") = some true := c.fact 90
  have gBadLine : PySem.W.nsIn K mainGlobals "BadLine" = some (some (.ref (He.ga K "BadLine"))) := c.fact 91
  have xoBadLine : oexB K (He.ga K "BadLine") = true := c.fact 92
  have saBadLine : PySem.W.findIn K (.ref (He.ga K "BadLine")) "__setattr__" = some (some (.builtin "object.__setattr__")) := c.fact 93
  have eCBadLine : PySem.W.subIn K (.ref (He.ga K "BadLine")) (.type "BaseException") = some true := c.fact 94
  have tCBadLine : PySem.W.typeIn K (.ref (He.ga K "BadLine")) = some (.type "type") := c.fact 95
  have kCBadLine : PySem.W.keepIn K (.ref (He.ga K "BadLine")) = true := c.fact 96
  have atBadLine___init__ : PySem.W.findIn K (.ref (He.ga K "BadLine")) "__init__" = some (some (.ref (nsA K (He.ga K "BadLine") "__init__"))) := c.fact 97
  have tiBadLine : PySem.W.typeIn K (.ref (nsA K (He.ga K "BadLine") "__init__")) = some (.type "function") := c.fact 98
  have noBadLine_word : PySem.W.findIn K (.ref (He.ga K "BadLine")) "word" = some none := c.fact 99
  have gaBadLine : PySem.W.findIn K (.ref (He.ga K "BadLine")) "__getattribute__" = some (some (.builtin "BaseException.__getattribute__")) := c.fact 100
  have ggBadLine : PySem.W.findIn K (.ref (He.ga K "BadLine")) "__getattr__" = some none := c.fact 101
  have hdBadLine : PySem.W.hasDictIn K (He.ga K "BadLine") = true := c.fact 102
  have caBadLine : PySem.W.findIn K (.ref (He.ga K "BadLine")) "__class__" = some (some (.builtin "object.__class__")) := c.fact 103
  have mrBadLine : PySem.W.mroIn K (He.ga K "BadLine") (.type "object") = some true := c.fact 104
  have gBadName : PySem.W.nsIn K mainGlobals "BadName" = some (some (.ref (He.ga K "BadName"))) := c.fact 105
  have xoBadName : oexB K (He.ga K "BadName") = true := c.fact 106
  have saBadName : PySem.W.findIn K (.ref (He.ga K "BadName")) "__setattr__" = some (some (.builtin "object.__setattr__")) := c.fact 107
  have eCBadName : PySem.W.subIn K (.ref (He.ga K "BadName")) (.type "BaseException") = some true := c.fact 108
  have tCBadName : PySem.W.typeIn K (.ref (He.ga K "BadName")) = some (.type "type") := c.fact 109
  have kCBadName : PySem.W.keepIn K (.ref (He.ga K "BadName")) = true := c.fact 110
  have atBadName___init__ : PySem.W.findIn K (.ref (He.ga K "BadName")) "__init__" = some (some (.ref (nsA K (He.ga K "BadName") "__init__"))) := c.fact 111
  have tiBadName : PySem.W.typeIn K (.ref (nsA K (He.ga K "BadName") "__init__")) = some (.type "function") := c.fact 112
  have noBadName_value : PySem.W.findIn K (.ref (He.ga K "BadName")) "value" = some none := c.fact 113
  have gaBadName : PySem.W.findIn K (.ref (He.ga K "BadName")) "__getattribute__" = some (some (.builtin "BaseException.__getattribute__")) := c.fact 114
  have ggBadName : PySem.W.findIn K (.ref (He.ga K "BadName")) "__getattr__" = some none := c.fact 115
  have hdBadName : PySem.W.hasDictIn K (He.ga K "BadName") = true := c.fact 116
  have caBadName : PySem.W.findIn K (.ref (He.ga K "BadName")) "__class__" = some (some (.builtin "object.__class__")) := c.fact 117
  have mrBadName : PySem.W.mroIn K (He.ga K "BadName") (.type "object") = some true := c.fact 118
  have gBadNumber : PySem.W.nsIn K mainGlobals "BadNumber" = some (some (.ref (He.ga K "BadNumber"))) := c.fact 119
  have xoBadNumber : oexB K (He.ga K "BadNumber") = true := c.fact 120
  have saBadNumber : PySem.W.findIn K (.ref (He.ga K "BadNumber")) "__setattr__" = some (some (.builtin "object.__setattr__")) := c.fact 121
  have eCBadNumber : PySem.W.subIn K (.ref (He.ga K "BadNumber")) (.type "BaseException") = some true := c.fact 122
  have tCBadNumber : PySem.W.typeIn K (.ref (He.ga K "BadNumber")) = some (.type "type") := c.fact 123
  have kCBadNumber : PySem.W.keepIn K (.ref (He.ga K "BadNumber")) = true := c.fact 124
  have atBadNumber___init__ : PySem.W.findIn K (.ref (He.ga K "BadNumber")) "__init__" = some (some (.ref (nsA K (He.ga K "BadNumber") "__init__"))) := c.fact 125
  have tiBadNumber : PySem.W.typeIn K (.ref (nsA K (He.ga K "BadNumber") "__init__")) = some (.type "function") := c.fact 126
  have noBadNumber_value : PySem.W.findIn K (.ref (He.ga K "BadNumber")) "value" = some none := c.fact 127
  have gaBadNumber : PySem.W.findIn K (.ref (He.ga K "BadNumber")) "__getattribute__" = some (some (.builtin "BaseException.__getattribute__")) := c.fact 128
  have ggBadNumber : PySem.W.findIn K (.ref (He.ga K "BadNumber")) "__getattr__" = some none := c.fact 129
  have hdBadNumber : PySem.W.hasDictIn K (He.ga K "BadNumber") = true := c.fact 130
  have caBadNumber : PySem.W.findIn K (.ref (He.ga K "BadNumber")) "__class__" = some (some (.builtin "object.__class__")) := c.fact 131
  have mrBadNumber : PySem.W.mroIn K (He.ga K "BadNumber") (.type "object") = some true := c.fact 132
  have gBadPlan : PySem.W.nsIn K mainGlobals "BadPlan" = some (some (.ref (He.ga K "BadPlan"))) := c.fact 133
  have xoBadPlan : oexB K (He.ga K "BadPlan") = true := c.fact 134
  have saBadPlan : PySem.W.findIn K (.ref (He.ga K "BadPlan")) "__setattr__" = some (some (.builtin "object.__setattr__")) := c.fact 135
  have eCBadPlan : PySem.W.subIn K (.ref (He.ga K "BadPlan")) (.type "BaseException") = some true := c.fact 136
  have tCBadPlan : PySem.W.typeIn K (.ref (He.ga K "BadPlan")) = some (.type "type") := c.fact 137
  have kCBadPlan : PySem.W.keepIn K (.ref (He.ga K "BadPlan")) = true := c.fact 138
  have atBadPlan___init__ : PySem.W.findIn K (.ref (He.ga K "BadPlan")) "__init__" = some (some (.ref (nsA K (He.ga K "BadPlan") "__init__"))) := c.fact 139
  have tiBadPlan : PySem.W.typeIn K (.ref (nsA K (He.ga K "BadPlan") "__init__")) = some (.type "function") := c.fact 140
  have noBadPlan_part : PySem.W.findIn K (.ref (He.ga K "BadPlan")) "part" = some none := c.fact 141
  have gaBadPlan : PySem.W.findIn K (.ref (He.ga K "BadPlan")) "__getattribute__" = some (some (.builtin "BaseException.__getattribute__")) := c.fact 142
  have ggBadPlan : PySem.W.findIn K (.ref (He.ga K "BadPlan")) "__getattr__" = some none := c.fact 143
  have hdBadPlan : PySem.W.hasDictIn K (He.ga K "BadPlan") = true := c.fact 144
  have caBadPlan : PySem.W.findIn K (.ref (He.ga K "BadPlan")) "__class__" = some (some (.builtin "object.__class__")) := c.fact 145
  have mrBadPlan : PySem.W.mroIn K (He.ga K "BadPlan") (.type "object") = some true := c.fact 146
  have gBadQuestion : PySem.W.nsIn K mainGlobals "BadQuestion" = some (some (.ref (He.ga K "BadQuestion"))) := c.fact 147
  have xoBadQuestion : oexB K (He.ga K "BadQuestion") = true := c.fact 148
  have saBadQuestion : PySem.W.findIn K (.ref (He.ga K "BadQuestion")) "__setattr__" = some (some (.builtin "object.__setattr__")) := c.fact 149
  have eCBadQuestion : PySem.W.subIn K (.ref (He.ga K "BadQuestion")) (.type "BaseException") = some true := c.fact 150
  have tCBadQuestion : PySem.W.typeIn K (.ref (He.ga K "BadQuestion")) = some (.type "type") := c.fact 151
  have kCBadQuestion : PySem.W.keepIn K (.ref (He.ga K "BadQuestion")) = true := c.fact 152
  have atBadQuestion___init__ : PySem.W.findIn K (.ref (He.ga K "BadQuestion")) "__init__" = some (some (.ref (nsA K (He.ga K "BadQuestion") "__init__"))) := c.fact 153
  have tiBadQuestion : PySem.W.typeIn K (.ref (nsA K (He.ga K "BadQuestion") "__init__")) = some (.type "function") := c.fact 154
  have noBadQuestion_part : PySem.W.findIn K (.ref (He.ga K "BadQuestion")) "part" = some none := c.fact 155
  have gaBadQuestion : PySem.W.findIn K (.ref (He.ga K "BadQuestion")) "__getattribute__" = some (some (.builtin "BaseException.__getattribute__")) := c.fact 156
  have ggBadQuestion : PySem.W.findIn K (.ref (He.ga K "BadQuestion")) "__getattr__" = some none := c.fact 157
  have hdBadQuestion : PySem.W.hasDictIn K (He.ga K "BadQuestion") = true := c.fact 158
  have caBadQuestion : PySem.W.findIn K (.ref (He.ga K "BadQuestion")) "__class__" = some (some (.builtin "object.__class__")) := c.fact 159
  have mrBadQuestion : PySem.W.mroIn K (He.ga K "BadQuestion") (.type "object") = some true := c.fact 160
  have gBadRewrite : PySem.W.nsIn K mainGlobals "BadRewrite" = some (some (.ref (He.ga K "BadRewrite"))) := c.fact 161
  have xoBadRewrite : oexB K (He.ga K "BadRewrite") = true := c.fact 162
  have saBadRewrite : PySem.W.findIn K (.ref (He.ga K "BadRewrite")) "__setattr__" = some (some (.builtin "object.__setattr__")) := c.fact 163
  have eCBadRewrite : PySem.W.subIn K (.ref (He.ga K "BadRewrite")) (.type "BaseException") = some true := c.fact 164
  have tCBadRewrite : PySem.W.typeIn K (.ref (He.ga K "BadRewrite")) = some (.type "type") := c.fact 165
  have kCBadRewrite : PySem.W.keepIn K (.ref (He.ga K "BadRewrite")) = true := c.fact 166
  have atBadRewrite___init__ : PySem.W.findIn K (.ref (He.ga K "BadRewrite")) "__init__" = some (some (.ref (nsA K (He.ga K "BadRewrite") "__init__"))) := c.fact 167
  have tiBadRewrite : PySem.W.typeIn K (.ref (nsA K (He.ga K "BadRewrite") "__init__")) = some (.type "function") := c.fact 168
  have noBadRewrite_part : PySem.W.findIn K (.ref (He.ga K "BadRewrite")) "part" = some none := c.fact 169
  have gaBadRewrite : PySem.W.findIn K (.ref (He.ga K "BadRewrite")) "__getattribute__" = some (some (.builtin "BaseException.__getattribute__")) := c.fact 170
  have ggBadRewrite : PySem.W.findIn K (.ref (He.ga K "BadRewrite")) "__getattr__" = some none := c.fact 171
  have hdBadRewrite : PySem.W.hasDictIn K (He.ga K "BadRewrite") = true := c.fact 172
  have caBadRewrite : PySem.W.findIn K (.ref (He.ga K "BadRewrite")) "__class__" = some (some (.builtin "object.__class__")) := c.fact 173
  have mrBadRewrite : PySem.W.mroIn K (He.ga K "BadRewrite") (.type "object") = some true := c.fact 174
  have gBadRow : PySem.W.nsIn K mainGlobals "BadRow" = some (some (.ref (He.ga K "BadRow"))) := c.fact 175
  have xoBadRow : oexB K (He.ga K "BadRow") = true := c.fact 176
  have saBadRow : PySem.W.findIn K (.ref (He.ga K "BadRow")) "__setattr__" = some (some (.builtin "object.__setattr__")) := c.fact 177
  have eCBadRow : PySem.W.subIn K (.ref (He.ga K "BadRow")) (.type "BaseException") = some true := c.fact 178
  have tCBadRow : PySem.W.typeIn K (.ref (He.ga K "BadRow")) = some (.type "type") := c.fact 179
  have kCBadRow : PySem.W.keepIn K (.ref (He.ga K "BadRow")) = true := c.fact 180
  have atBadRow___init__ : PySem.W.findIn K (.ref (He.ga K "BadRow")) "__init__" = some (some (.ref (nsA K (He.ga K "BadRow") "__init__"))) := c.fact 181
  have tiBadRow : PySem.W.typeIn K (.ref (nsA K (He.ga K "BadRow") "__init__")) = some (.type "function") := c.fact 182
  have noBadRow_part : PySem.W.findIn K (.ref (He.ga K "BadRow")) "part" = some none := c.fact 183
  have gaBadRow : PySem.W.findIn K (.ref (He.ga K "BadRow")) "__getattribute__" = some (some (.builtin "BaseException.__getattribute__")) := c.fact 184
  have ggBadRow : PySem.W.findIn K (.ref (He.ga K "BadRow")) "__getattr__" = some none := c.fact 185
  have hdBadRow : PySem.W.hasDictIn K (He.ga K "BadRow") = true := c.fact 186
  have caBadRow : PySem.W.findIn K (.ref (He.ga K "BadRow")) "__class__" = some (some (.builtin "object.__class__")) := c.fact 187
  have mrBadRow : PySem.W.mroIn K (He.ga K "BadRow") (.type "object") = some true := c.fact 188
  have gBadRule : PySem.W.nsIn K mainGlobals "BadRule" = some (some (.ref (He.ga K "BadRule"))) := c.fact 189
  have xoBadRule : oexB K (He.ga K "BadRule") = true := c.fact 190
  have saBadRule : PySem.W.findIn K (.ref (He.ga K "BadRule")) "__setattr__" = some (some (.builtin "object.__setattr__")) := c.fact 191
  have eCBadRule : PySem.W.subIn K (.ref (He.ga K "BadRule")) (.type "BaseException") = some true := c.fact 192
  have tCBadRule : PySem.W.typeIn K (.ref (He.ga K "BadRule")) = some (.type "type") := c.fact 193
  have kCBadRule : PySem.W.keepIn K (.ref (He.ga K "BadRule")) = true := c.fact 194
  have atBadRule___init__ : PySem.W.findIn K (.ref (He.ga K "BadRule")) "__init__" = some (some (.ref (nsA K (He.ga K "BadRule") "__init__"))) := c.fact 195
  have tiBadRule : PySem.W.typeIn K (.ref (nsA K (He.ga K "BadRule") "__init__")) = some (.type "function") := c.fact 196
  have noBadRule_part : PySem.W.findIn K (.ref (He.ga K "BadRule")) "part" = some none := c.fact 197
  have gaBadRule : PySem.W.findIn K (.ref (He.ga K "BadRule")) "__getattribute__" = some (some (.builtin "BaseException.__getattribute__")) := c.fact 198
  have ggBadRule : PySem.W.findIn K (.ref (He.ga K "BadRule")) "__getattr__" = some none := c.fact 199
  have hdBadRule : PySem.W.hasDictIn K (He.ga K "BadRule") = true := c.fact 200
  have caBadRule : PySem.W.findIn K (.ref (He.ga K "BadRule")) "__class__" = some (some (.builtin "object.__class__")) := c.fact 201
  have mrBadRule : PySem.W.mroIn K (He.ga K "BadRule") (.type "object") = some true := c.fact 202
  have gBadStore : PySem.W.nsIn K mainGlobals "BadStore" = some (some (.ref (He.ga K "BadStore"))) := c.fact 203
  have xoBadStore : oexB K (He.ga K "BadStore") = true := c.fact 204
  have saBadStore : PySem.W.findIn K (.ref (He.ga K "BadStore")) "__setattr__" = some (some (.builtin "object.__setattr__")) := c.fact 205
  have eCBadStore : PySem.W.subIn K (.ref (He.ga K "BadStore")) (.type "BaseException") = some true := c.fact 206
  have tCBadStore : PySem.W.typeIn K (.ref (He.ga K "BadStore")) = some (.type "type") := c.fact 207
  have kCBadStore : PySem.W.keepIn K (.ref (He.ga K "BadStore")) = true := c.fact 208
  have atBadStore___init__ : PySem.W.findIn K (.ref (He.ga K "BadStore")) "__init__" = some (some (.ref (nsA K (He.ga K "BadStore") "__init__"))) := c.fact 209
  have tiBadStore : PySem.W.typeIn K (.ref (nsA K (He.ga K "BadStore") "__init__")) = some (.type "function") := c.fact 210
  have noBadStore_part : PySem.W.findIn K (.ref (He.ga K "BadStore")) "part" = some none := c.fact 211
  have gaBadStore : PySem.W.findIn K (.ref (He.ga K "BadStore")) "__getattribute__" = some (some (.builtin "BaseException.__getattribute__")) := c.fact 212
  have ggBadStore : PySem.W.findIn K (.ref (He.ga K "BadStore")) "__getattr__" = some none := c.fact 213
  have hdBadStore : PySem.W.hasDictIn K (He.ga K "BadStore") = true := c.fact 214
  have caBadStore : PySem.W.findIn K (.ref (He.ga K "BadStore")) "__class__" = some (some (.builtin "object.__class__")) := c.fact 215
  have mrBadStore : PySem.W.mroIn K (He.ga K "BadStore") (.type "object") = some true := c.fact 216
  have gBadTest : PySem.W.nsIn K mainGlobals "BadTest" = some (some (.ref (He.ga K "BadTest"))) := c.fact 217
  have xoBadTest : oexB K (He.ga K "BadTest") = true := c.fact 218
  have saBadTest : PySem.W.findIn K (.ref (He.ga K "BadTest")) "__setattr__" = some (some (.builtin "object.__setattr__")) := c.fact 219
  have eCBadTest : PySem.W.subIn K (.ref (He.ga K "BadTest")) (.type "BaseException") = some true := c.fact 220
  have tCBadTest : PySem.W.typeIn K (.ref (He.ga K "BadTest")) = some (.type "type") := c.fact 221
  have kCBadTest : PySem.W.keepIn K (.ref (He.ga K "BadTest")) = true := c.fact 222
  have atBadTest___init__ : PySem.W.findIn K (.ref (He.ga K "BadTest")) "__init__" = some (some (.ref (nsA K (He.ga K "BadTest") "__init__"))) := c.fact 223
  have tiBadTest : PySem.W.typeIn K (.ref (nsA K (He.ga K "BadTest") "__init__")) = some (.type "function") := c.fact 224
  have noBadTest_part : PySem.W.findIn K (.ref (He.ga K "BadTest")) "part" = some none := c.fact 225
  have gaBadTest : PySem.W.findIn K (.ref (He.ga K "BadTest")) "__getattribute__" = some (some (.builtin "BaseException.__getattribute__")) := c.fact 226
  have ggBadTest : PySem.W.findIn K (.ref (He.ga K "BadTest")) "__getattr__" = some none := c.fact 227
  have hdBadTest : PySem.W.hasDictIn K (He.ga K "BadTest") = true := c.fact 228
  have caBadTest : PySem.W.findIn K (.ref (He.ga K "BadTest")) "__class__" = some (some (.builtin "object.__class__")) := c.fact 229
  have mrBadTest : PySem.W.mroIn K (He.ga K "BadTest") (.type "object") = some true := c.fact 230
  have gBadText : PySem.W.nsIn K mainGlobals "BadText" = some (some (.ref (He.ga K "BadText"))) := c.fact 231
  have xoBadText : oexB K (He.ga K "BadText") = true := c.fact 232
  have saBadText : PySem.W.findIn K (.ref (He.ga K "BadText")) "__setattr__" = some (some (.builtin "object.__setattr__")) := c.fact 233
  have eCBadText : PySem.W.subIn K (.ref (He.ga K "BadText")) (.type "BaseException") = some true := c.fact 234
  have tCBadText : PySem.W.typeIn K (.ref (He.ga K "BadText")) = some (.type "type") := c.fact 235
  have kCBadText : PySem.W.keepIn K (.ref (He.ga K "BadText")) = true := c.fact 236
  have atBadText___init__ : PySem.W.findIn K (.ref (He.ga K "BadText")) "__init__" = some (some (.ref (nsA K (He.ga K "BadText") "__init__"))) := c.fact 237
  have tiBadText : PySem.W.typeIn K (.ref (nsA K (He.ga K "BadText") "__init__")) = some (.type "function") := c.fact 238
  have noBadText_line : PySem.W.findIn K (.ref (He.ga K "BadText")) "line" = some none := c.fact 239
  have noBadText_word : PySem.W.findIn K (.ref (He.ga K "BadText")) "word" = some none := c.fact 240
  have gaBadText : PySem.W.findIn K (.ref (He.ga K "BadText")) "__getattribute__" = some (some (.builtin "BaseException.__getattribute__")) := c.fact 241
  have ggBadText : PySem.W.findIn K (.ref (He.ga K "BadText")) "__getattr__" = some none := c.fact 242
  have hdBadText : PySem.W.hasDictIn K (He.ga K "BadText") = true := c.fact 243
  have caBadText : PySem.W.findIn K (.ref (He.ga K "BadText")) "__class__" = some (some (.builtin "object.__class__")) := c.fact 244
  have mrBadText : PySem.W.mroIn K (He.ga K "BadText") (.type "object") = some true := c.fact 245
  have gBreaks : PySem.W.nsIn K mainGlobals "Breaks" = some (some (.ref (He.ga K "Breaks"))) := c.fact 246
  have xoBreaks : oexB K (He.ga K "Breaks") = true := c.fact 247
  have saBreaks : PySem.W.findIn K (.ref (He.ga K "Breaks")) "__setattr__" = some (some (.builtin "object.__setattr__")) := c.fact 248
  have eCBreaks : PySem.W.subIn K (.ref (He.ga K "Breaks")) (.type "BaseException") = some true := c.fact 249
  have tCBreaks : PySem.W.typeIn K (.ref (He.ga K "Breaks")) = some (.type "type") := c.fact 250
  have kCBreaks : PySem.W.keepIn K (.ref (He.ga K "Breaks")) = true := c.fact 251
  have atBreaks___init__ : PySem.W.findIn K (.ref (He.ga K "Breaks")) "__init__" = some (some (.ref (nsA K (He.ga K "Breaks") "__init__"))) := c.fact 252
  have tiBreaks : PySem.W.typeIn K (.ref (nsA K (He.ga K "Breaks") "__init__")) = some (.type "function") := c.fact 253
  have noBreaks_rule : PySem.W.findIn K (.ref (He.ga K "Breaks")) "rule" = some none := c.fact 254
  have gaBreaks : PySem.W.findIn K (.ref (He.ga K "Breaks")) "__getattribute__" = some (some (.builtin "BaseException.__getattribute__")) := c.fact 255
  have ggBreaks : PySem.W.findIn K (.ref (He.ga K "Breaks")) "__getattr__" = some none := c.fact 256
  have hdBreaks : PySem.W.hasDictIn K (He.ga K "Breaks") = true := c.fact 257
  have caBreaks : PySem.W.findIn K (.ref (He.ga K "Breaks")) "__class__" = some (some (.builtin "object.__class__")) := c.fact 258
  have mrBreaks : PySem.W.mroIn K (He.ga K "Breaks") (.type "object") = some true := c.fact 259
  have gNoColumn : PySem.W.nsIn K mainGlobals "NoColumn" = some (some (.ref (He.ga K "NoColumn"))) := c.fact 260
  have xoNoColumn : oexB K (He.ga K "NoColumn") = true := c.fact 261
  have saNoColumn : PySem.W.findIn K (.ref (He.ga K "NoColumn")) "__setattr__" = some (some (.builtin "object.__setattr__")) := c.fact 262
  have eCNoColumn : PySem.W.subIn K (.ref (He.ga K "NoColumn")) (.type "BaseException") = some true := c.fact 263
  have tCNoColumn : PySem.W.typeIn K (.ref (He.ga K "NoColumn")) = some (.type "type") := c.fact 264
  have kCNoColumn : PySem.W.keepIn K (.ref (He.ga K "NoColumn")) = true := c.fact 265
  have atNoColumn___init__ : PySem.W.findIn K (.ref (He.ga K "NoColumn")) "__init__" = some (some (.ref (nsA K (He.ga K "NoColumn") "__init__"))) := c.fact 266
  have tiNoColumn : PySem.W.typeIn K (.ref (nsA K (He.ga K "NoColumn") "__init__")) = some (.type "function") := c.fact 267
  have noNoColumn_name : PySem.W.findIn K (.ref (He.ga K "NoColumn")) "name" = some none := c.fact 268
  have gaNoColumn : PySem.W.findIn K (.ref (He.ga K "NoColumn")) "__getattribute__" = some (some (.builtin "BaseException.__getattribute__")) := c.fact 269
  have ggNoColumn : PySem.W.findIn K (.ref (He.ga K "NoColumn")) "__getattr__" = some none := c.fact 270
  have hdNoColumn : PySem.W.hasDictIn K (He.ga K "NoColumn") = true := c.fact 271
  have caNoColumn : PySem.W.findIn K (.ref (He.ga K "NoColumn")) "__class__" = some (some (.builtin "object.__class__")) := c.fact 272
  have mrNoColumn : PySem.W.mroIn K (He.ga K "NoColumn") (.type "object") = some true := c.fact 273
  have gNoFit : PySem.W.nsIn K mainGlobals "NoFit" = some (some (.ref (He.ga K "NoFit"))) := c.fact 274
  have xoNoFit : oexB K (He.ga K "NoFit") = true := c.fact 275
  have saNoFit : PySem.W.findIn K (.ref (He.ga K "NoFit")) "__setattr__" = some (some (.builtin "object.__setattr__")) := c.fact 276
  have eCNoFit : PySem.W.subIn K (.ref (He.ga K "NoFit")) (.type "BaseException") = some true := c.fact 277
  have tCNoFit : PySem.W.typeIn K (.ref (He.ga K "NoFit")) = some (.type "type") := c.fact 278
  have kCNoFit : PySem.W.keepIn K (.ref (He.ga K "NoFit")) = true := c.fact 279
  have atNoFit___init__ : PySem.W.findIn K (.ref (He.ga K "NoFit")) "__init__" = some (some (.ref (nsA K (He.ga K "NoFit") "__init__"))) := c.fact 280
  have tiNoFit : PySem.W.typeIn K (.ref (nsA K (He.ga K "NoFit") "__init__")) = some (.type "function") := c.fact 281
  have noNoFit_place : PySem.W.findIn K (.ref (He.ga K "NoFit")) "place" = some none := c.fact 282
  have gaNoFit : PySem.W.findIn K (.ref (He.ga K "NoFit")) "__getattribute__" = some (some (.builtin "BaseException.__getattribute__")) := c.fact 283
  have ggNoFit : PySem.W.findIn K (.ref (He.ga K "NoFit")) "__getattr__" = some none := c.fact 284
  have hdNoFit : PySem.W.hasDictIn K (He.ga K "NoFit") = true := c.fact 285
  have caNoFit : PySem.W.findIn K (.ref (He.ga K "NoFit")) "__class__" = some (some (.builtin "object.__class__")) := c.fact 286
  have mrNoFit : PySem.W.mroIn K (He.ga K "NoFit") (.type "object") = some true := c.fact 287
  have gNoPlace : PySem.W.nsIn K mainGlobals "NoPlace" = some (some (.ref (He.ga K "NoPlace"))) := c.fact 288
  have xoNoPlace : oexB K (He.ga K "NoPlace") = true := c.fact 289
  have saNoPlace : PySem.W.findIn K (.ref (He.ga K "NoPlace")) "__setattr__" = some (some (.builtin "object.__setattr__")) := c.fact 290
  have eCNoPlace : PySem.W.subIn K (.ref (He.ga K "NoPlace")) (.type "BaseException") = some true := c.fact 291
  have tCNoPlace : PySem.W.typeIn K (.ref (He.ga K "NoPlace")) = some (.type "type") := c.fact 292
  have kCNoPlace : PySem.W.keepIn K (.ref (He.ga K "NoPlace")) = true := c.fact 293
  have atNoPlace___init__ : PySem.W.findIn K (.ref (He.ga K "NoPlace")) "__init__" = some (some (.ref (nsA K (He.ga K "NoPlace") "__init__"))) := c.fact 294
  have tiNoPlace : PySem.W.typeIn K (.ref (nsA K (He.ga K "NoPlace") "__init__")) = some (.type "function") := c.fact 295
  have noNoPlace_place : PySem.W.findIn K (.ref (He.ga K "NoPlace")) "place" = some none := c.fact 296
  have gaNoPlace : PySem.W.findIn K (.ref (He.ga K "NoPlace")) "__getattribute__" = some (some (.builtin "BaseException.__getattribute__")) := c.fact 297
  have ggNoPlace : PySem.W.findIn K (.ref (He.ga K "NoPlace")) "__getattr__" = some none := c.fact 298
  have hdNoPlace : PySem.W.hasDictIn K (He.ga K "NoPlace") = true := c.fact 299
  have caNoPlace : PySem.W.findIn K (.ref (He.ga K "NoPlace")) "__class__" = some (some (.builtin "object.__class__")) := c.fact 300
  have mrNoPlace : PySem.W.mroIn K (He.ga K "NoPlace") (.type "object") = some true := c.fact 301
  have gNoRow : PySem.W.nsIn K mainGlobals "NoRow" = some (some (.ref (He.ga K "NoRow"))) := c.fact 302
  have xoNoRow : oexB K (He.ga K "NoRow") = true := c.fact 303
  have saNoRow : PySem.W.findIn K (.ref (He.ga K "NoRow")) "__setattr__" = some (some (.builtin "object.__setattr__")) := c.fact 304
  have eCNoRow : PySem.W.subIn K (.ref (He.ga K "NoRow")) (.type "BaseException") = some true := c.fact 305
  have tCNoRow : PySem.W.typeIn K (.ref (He.ga K "NoRow")) = some (.type "type") := c.fact 306
  have kCNoRow : PySem.W.keepIn K (.ref (He.ga K "NoRow")) = true := c.fact 307
  have atNoRow___init__ : PySem.W.findIn K (.ref (He.ga K "NoRow")) "__init__" = some (some (.ref (nsA K (He.ga K "NoRow") "__init__"))) := c.fact 308
  have tiNoRow : PySem.W.typeIn K (.ref (nsA K (He.ga K "NoRow") "__init__")) = some (.type "function") := c.fact 309
  have noNoRow_row : PySem.W.findIn K (.ref (He.ga K "NoRow")) "row" = some none := c.fact 310
  have gaNoRow : PySem.W.findIn K (.ref (He.ga K "NoRow")) "__getattribute__" = some (some (.builtin "BaseException.__getattribute__")) := c.fact 311
  have ggNoRow : PySem.W.findIn K (.ref (He.ga K "NoRow")) "__getattr__" = some none := c.fact 312
  have hdNoRow : PySem.W.hasDictIn K (He.ga K "NoRow") = true := c.fact 313
  have caNoRow : PySem.W.findIn K (.ref (He.ga K "NoRow")) "__class__" = some (some (.builtin "object.__class__")) := c.fact 314
  have mrNoRow : PySem.W.mroIn K (He.ga K "NoRow") (.type "object") = some true := c.fact 315
  have gNoTable : PySem.W.nsIn K mainGlobals "NoTable" = some (some (.ref (He.ga K "NoTable"))) := c.fact 316
  have xoNoTable : oexB K (He.ga K "NoTable") = true := c.fact 317
  have saNoTable : PySem.W.findIn K (.ref (He.ga K "NoTable")) "__setattr__" = some (some (.builtin "object.__setattr__")) := c.fact 318
  have eCNoTable : PySem.W.subIn K (.ref (He.ga K "NoTable")) (.type "BaseException") = some true := c.fact 319
  have tCNoTable : PySem.W.typeIn K (.ref (He.ga K "NoTable")) = some (.type "type") := c.fact 320
  have kCNoTable : PySem.W.keepIn K (.ref (He.ga K "NoTable")) = true := c.fact 321
  have atNoTable___init__ : PySem.W.findIn K (.ref (He.ga K "NoTable")) "__init__" = some (some (.ref (nsA K (He.ga K "NoTable") "__init__"))) := c.fact 322
  have tiNoTable : PySem.W.typeIn K (.ref (nsA K (He.ga K "NoTable") "__init__")) = some (.type "function") := c.fact 323
  have noNoTable_name : PySem.W.findIn K (.ref (He.ga K "NoTable")) "name" = some none := c.fact 324
  have gaNoTable : PySem.W.findIn K (.ref (He.ga K "NoTable")) "__getattribute__" = some (some (.builtin "BaseException.__getattribute__")) := c.fact 325
  have ggNoTable : PySem.W.findIn K (.ref (He.ga K "NoTable")) "__getattr__" = some none := c.fact 326
  have hdNoTable : PySem.W.hasDictIn K (He.ga K "NoTable") = true := c.fact 327
  have caNoTable : PySem.W.findIn K (.ref (He.ga K "NoTable")) "__class__" = some (some (.builtin "object.__class__")) := c.fact 328
  have mrNoTable : PySem.W.mroIn K (He.ga K "NoTable") (.type "object") = some true := c.fact 329
  have gTooMany : PySem.W.nsIn K mainGlobals "TooMany" = some (some (.ref (He.ga K "TooMany"))) := c.fact 330
  have xoTooMany : oexB K (He.ga K "TooMany") = true := c.fact 331
  have saTooMany : PySem.W.findIn K (.ref (He.ga K "TooMany")) "__setattr__" = some (some (.builtin "object.__setattr__")) := c.fact 332
  have eCTooMany : PySem.W.subIn K (.ref (He.ga K "TooMany")) (.type "BaseException") = some true := c.fact 333
  have tCTooMany : PySem.W.typeIn K (.ref (He.ga K "TooMany")) = some (.type "type") := c.fact 334
  have kCTooMany : PySem.W.keepIn K (.ref (He.ga K "TooMany")) = true := c.fact 335
  have atTooMany___init__ : PySem.W.findIn K (.ref (He.ga K "TooMany")) "__init__" = some (some (.ref (nsA K (He.ga K "TooMany") "__init__"))) := c.fact 336
  have tiTooMany : PySem.W.typeIn K (.ref (nsA K (He.ga K "TooMany") "__init__")) = some (.type "function") := c.fact 337
  have noTooMany_what : PySem.W.findIn K (.ref (He.ga K "TooMany")) "what" = some none := c.fact 338
  have noTooMany_most : PySem.W.findIn K (.ref (He.ga K "TooMany")) "most" = some none := c.fact 339
  have gaTooMany : PySem.W.findIn K (.ref (He.ga K "TooMany")) "__getattribute__" = some (some (.builtin "BaseException.__getattribute__")) := c.fact 340
  have ggTooMany : PySem.W.findIn K (.ref (He.ga K "TooMany")) "__getattr__" = some none := c.fact 341
  have hdTooMany : PySem.W.hasDictIn K (He.ga K "TooMany") = true := c.fact 342
  have caTooMany : PySem.W.findIn K (.ref (He.ga K "TooMany")) "__class__" = some (some (.builtin "object.__class__")) := c.fact 343
  have mrTooMany : PySem.W.mroIn K (He.ga K "TooMany") (.type "object") = some true := c.fact 344
  have gUnlike : PySem.W.nsIn K mainGlobals "Unlike" = some (some (.ref (He.ga K "Unlike"))) := c.fact 345
  have xoUnlike : oexB K (He.ga K "Unlike") = true := c.fact 346
  have saUnlike : PySem.W.findIn K (.ref (He.ga K "Unlike")) "__setattr__" = some (some (.builtin "object.__setattr__")) := c.fact 347
  have eCUnlike : PySem.W.subIn K (.ref (He.ga K "Unlike")) (.type "BaseException") = some true := c.fact 348
  have tCUnlike : PySem.W.typeIn K (.ref (He.ga K "Unlike")) = some (.type "type") := c.fact 349
  have kCUnlike : PySem.W.keepIn K (.ref (He.ga K "Unlike")) = true := c.fact 350
  have atUnlike___init__ : PySem.W.findIn K (.ref (He.ga K "Unlike")) "__init__" = some (some (.ref (nsA K (He.ga K "Unlike") "__init__"))) := c.fact 351
  have tiUnlike : PySem.W.typeIn K (.ref (nsA K (He.ga K "Unlike") "__init__")) = some (.type "function") := c.fact 352
  have noUnlike_paper : PySem.W.findIn K (.ref (He.ga K "Unlike")) "paper" = some none := c.fact 353
  have gaUnlike : PySem.W.findIn K (.ref (He.ga K "Unlike")) "__getattribute__" = some (some (.builtin "BaseException.__getattribute__")) := c.fact 354
  have ggUnlike : PySem.W.findIn K (.ref (He.ga K "Unlike")) "__getattr__" = some none := c.fact 355
  have hdUnlike : PySem.W.hasDictIn K (He.ga K "Unlike") = true := c.fact 356
  have caUnlike : PySem.W.findIn K (.ref (He.ga K "Unlike")) "__class__" = some (some (.builtin "object.__class__")) := c.fact 357
  have mrUnlike : PySem.W.mroIn K (He.ga K "Unlike") (.type "object") = some true := c.fact 358
  have gAtRow : PySem.W.nsIn K mainGlobals "AtRow" = some (some (.ref (He.ga K "AtRow"))) := c.fact 359
  have xoAtRow : oexB K (He.ga K "AtRow") = true := c.fact 360
  have saAtRow : PySem.W.findIn K (.ref (He.ga K "AtRow")) "__setattr__" = some (some (.builtin "object.__setattr__")) := c.fact 361
  have eCAtRow : PySem.W.subIn K (.ref (He.ga K "AtRow")) (.type "BaseException") = some true := c.fact 362
  have tCAtRow : PySem.W.typeIn K (.ref (He.ga K "AtRow")) = some (.type "type") := c.fact 363
  have kCAtRow : PySem.W.keepIn K (.ref (He.ga K "AtRow")) = true := c.fact 364
  have atAtRow___init__ : PySem.W.findIn K (.ref (He.ga K "AtRow")) "__init__" = some (some (.ref (nsA K (He.ga K "AtRow") "__init__"))) := c.fact 365
  have tiAtRow : PySem.W.typeIn K (.ref (nsA K (He.ga K "AtRow") "__init__")) = some (.type "function") := c.fact 366
  have noAtRow_row : PySem.W.findIn K (.ref (He.ga K "AtRow")) "row" = some none := c.fact 367
  have gaAtRow : PySem.W.findIn K (.ref (He.ga K "AtRow")) "__getattribute__" = some (some (.builtin "BaseException.__getattribute__")) := c.fact 368
  have ggAtRow : PySem.W.findIn K (.ref (He.ga K "AtRow")) "__getattr__" = some none := c.fact 369
  have hdAtRow : PySem.W.hasDictIn K (He.ga K "AtRow") = true := c.fact 370
  have caAtRow : PySem.W.findIn K (.ref (He.ga K "AtRow")) "__class__" = some (some (.builtin "object.__class__")) := c.fact 371
  have mrAtRow : PySem.W.mroIn K (He.ga K "AtRow") (.type "object") = some true := c.fact 372
  have xnCountError : PySem.W.excIn K (He.ga K "CountError") [.type "ValueError", .type "Exception", .type "BaseException", .type "object"] "ValueError.__new__" = true := c.fact 373
  have kxCountError : PySem.W.keepIn K (.ref (He.ga K "CountError")) = true := c.fact 374
  have gaCountError : PySem.W.findIn K (.ref (He.ga K "CountError")) "__getattribute__" = some (some (.builtin "BaseException.__getattribute__")) := c.fact 375
  have ggCountError : PySem.W.findIn K (.ref (He.ga K "CountError")) "__getattr__" = some none := c.fact 376
  have hdCountError : PySem.W.hasDictIn K (He.ga K "CountError") = true := c.fact 377
  have eCCountError : PySem.W.subIn K (.ref (He.ga K "CountError")) (.type "BaseException") = some true := c.fact 378
  have caCountError : PySem.W.findIn K (.ref (He.ga K "CountError")) "__class__" = some (some (.builtin "object.__class__")) := c.fact 379
  have mrCountError : PySem.W.mroIn K (He.ga K "CountError") (.type "object") = some true := c.fact 380
  have xnBadInput : PySem.W.excIn K (He.ga K "BadInput") [.type "ValueError", .type "Exception", .type "BaseException", .type "object"] "ValueError.__new__" = true := c.fact 381
  have kxBadInput : PySem.W.keepIn K (.ref (He.ga K "BadInput")) = true := c.fact 382
  have gaBadInput : PySem.W.findIn K (.ref (He.ga K "BadInput")) "__getattribute__" = some (some (.builtin "BaseException.__getattribute__")) := c.fact 383
  have ggBadInput : PySem.W.findIn K (.ref (He.ga K "BadInput")) "__getattr__" = some none := c.fact 384
  have hdBadInput : PySem.W.hasDictIn K (He.ga K "BadInput") = true := c.fact 385
  have eCBadInput : PySem.W.subIn K (.ref (He.ga K "BadInput")) (.type "BaseException") = some true := c.fact 386
  have caBadInput : PySem.W.findIn K (.ref (He.ga K "BadInput")) "__class__" = some (some (.builtin "object.__class__")) := c.fact 387
  have mrBadInput : PySem.W.mroIn K (He.ga K "BadInput") (.type "object") = some true := c.fact 388
  have xnRefused : PySem.W.excIn K (He.ga K "Refused") [.type "ValueError", .type "Exception", .type "BaseException", .type "object"] "ValueError.__new__" = true := c.fact 389
  have kxRefused : PySem.W.keepIn K (.ref (He.ga K "Refused")) = true := c.fact 390
  have gaRefused : PySem.W.findIn K (.ref (He.ga K "Refused")) "__getattribute__" = some (some (.builtin "BaseException.__getattribute__")) := c.fact 391
  have ggRefused : PySem.W.findIn K (.ref (He.ga K "Refused")) "__getattr__" = some none := c.fact 392
  have hdRefused : PySem.W.hasDictIn K (He.ga K "Refused") = true := c.fact 393
  have eCRefused : PySem.W.subIn K (.ref (He.ga K "Refused")) (.type "BaseException") = some true := c.fact 394
  have caRefused : PySem.W.findIn K (.ref (He.ga K "Refused")) "__class__" = some (some (.builtin "object.__class__")) := c.fact 395
  have mrRefused : PySem.W.mroIn K (He.ga K "Refused") (.type "object") = some true := c.fact 396
  have xnNoDeed : PySem.W.excIn K (He.ga K "NoDeed") [.type "ValueError", .type "Exception", .type "BaseException", .type "object"] "ValueError.__new__" = true := c.fact 397
  have kxNoDeed : PySem.W.keepIn K (.ref (He.ga K "NoDeed")) = true := c.fact 398
  have gaNoDeed : PySem.W.findIn K (.ref (He.ga K "NoDeed")) "__getattribute__" = some (some (.builtin "BaseException.__getattribute__")) := c.fact 399
  have ggNoDeed : PySem.W.findIn K (.ref (He.ga K "NoDeed")) "__getattr__" = some none := c.fact 400
  have hdNoDeed : PySem.W.hasDictIn K (He.ga K "NoDeed") = true := c.fact 401
  have eCNoDeed : PySem.W.subIn K (.ref (He.ga K "NoDeed")) (.type "BaseException") = some true := c.fact 402
  have caNoDeed : PySem.W.findIn K (.ref (He.ga K "NoDeed")) "__class__" = some (some (.builtin "object.__class__")) := c.fact 403
  have mrNoDeed : PySem.W.mroIn K (He.ga K "NoDeed") (.type "object") = some true := c.fact 404
  have fx_kk : ∀ a ∈ [(He.ga K "BadBag"), (He.ga K "BadBase"), (He.ga K "BadBook"), (He.ga K "BadBounds"), (He.ga K "BadCounts"), (He.ga K "BadForm"), (He.ga K "BadLine"), (He.ga K "BadName"), (He.ga K "BadNumber"), (He.ga K "BadPlan"), (He.ga K "BadQuestion"), (He.ga K "BadRewrite"), (He.ga K "BadRow"), (He.ga K "BadRule"), (He.ga K "BadStore"), (He.ga K "BadTest"), (He.ga K "BadText"), (He.ga K "Breaks"), (He.ga K "NoColumn"), (He.ga K "NoFit"), (He.ga K "NoPlace"), (He.ga K "NoRow"), (He.ga K "NoTable"), (He.ga K "TooMany"), (He.ga K "Unlike"), (He.ga K "NoDeed"), (He.ga K "AtRow")] ++ [(He.ga K "Refused")], ∀ b ∈ [(He.ga K "BadBag"), (He.ga K "BadBase"), (He.ga K "BadBook"), (He.ga K "BadBounds"), (He.ga K "BadCounts"), (He.ga K "BadForm"), (He.ga K "BadLine"), (He.ga K "BadName"), (He.ga K "BadNumber"), (He.ga K "BadPlan"), (He.ga K "BadQuestion"), (He.ga K "BadRewrite"), (He.ga K "BadRow"), (He.ga K "BadRule"), (He.ga K "BadStore"), (He.ga K "BadTest"), (He.ga K "BadText"), (He.ga K "Breaks"), (He.ga K "NoColumn"), (He.ga K "NoFit"), (He.ga K "NoPlace"), (He.ga K "NoRow"), (He.ga K "NoTable"), (He.ga K "TooMany"), (He.ga K "Unlike"), (He.ga K "NoDeed"), (He.ga K "AtRow")], PySem.W.kitOne K (.ref a) (.ref b) = some (decide (a = b)) := c.fact 405
  have fx_kn : [(He.ga K "BadBag"), (He.ga K "BadBase"), (He.ga K "BadBook"), (He.ga K "BadBounds"), (He.ga K "BadCounts"), (He.ga K "BadForm"), (He.ga K "BadLine"), (He.ga K "BadName"), (He.ga K "BadNumber"), (He.ga K "BadPlan"), (He.ga K "BadQuestion"), (He.ga K "BadRewrite"), (He.ga K "BadRow"), (He.ga K "BadRule"), (He.ga K "BadStore"), (He.ga K "BadTest"), (He.ga K "BadText"), (He.ga K "Breaks"), (He.ga K "NoColumn"), (He.ga K "NoFit"), (He.ga K "NoPlace"), (He.ga K "NoRow"), (He.ga K "NoTable"), (He.ga K "TooMany"), (He.ga K "Unlike"), (He.ga K "NoDeed"), (He.ga K "AtRow")].Nodup := c.fact 406
  have fx_kr : (He.ga K "Refused") ∉ [(He.ga K "BadBag"), (He.ga K "BadBase"), (He.ga K "BadBook"), (He.ga K "BadBounds"), (He.ga K "BadCounts"), (He.ga K "BadForm"), (He.ga K "BadLine"), (He.ga K "BadName"), (He.ga K "BadNumber"), (He.ga K "BadPlan"), (He.ga K "BadQuestion"), (He.ga K "BadRewrite"), (He.ga K "BadRow"), (He.ga K "BadRule"), (He.ga K "BadStore"), (He.ga K "BadTest"), (He.ga K "BadText"), (He.ga K "Breaks"), (He.ga K "NoColumn"), (He.ga K "NoFit"), (He.ga K "NoPlace"), (He.ga K "NoRow"), (He.ga K "NoTable"), (He.ga K "TooMany"), (He.ga K "Unlike"), (He.ga K "NoDeed"), (He.ga K "AtRow")] := c.fact 407
  have fx_g0 : ∀ a ∈ [(He.ga K "BadBag"), (He.ga K "BadBase"), (He.ga K "BadBook"), (He.ga K "BadBounds"), (He.ga K "BadCounts"), (He.ga K "BadForm"), (He.ga K "BadLine"), (He.ga K "BadName"), (He.ga K "BadNumber"), (He.ga K "BadPlan"), (He.ga K "BadQuestion"), (He.ga K "BadRewrite"), (He.ga K "BadRow"), (He.ga K "BadRule"), (He.ga K "BadStore"), (He.ga K "BadTest"), (He.ga K "BadText")], PySem.W.kitOne K (.ref a) (.ref (He.ga K "BadInput")) = some true ∧ PySem.W.kitOne K (.ref a) (.ref (He.ga K "Refused")) = some false ∧ PySem.W.kitOne K (.ref a) (.ref (He.ga K "NoAnswer")) = some false := c.fact 408
  have fx_g1 : ∀ a ∈ [(He.ga K "Breaks"), (He.ga K "NoColumn"), (He.ga K "NoFit"), (He.ga K "NoPlace"), (He.ga K "NoRow"), (He.ga K "NoTable"), (He.ga K "TooMany"), (He.ga K "Unlike")], PySem.W.kitOne K (.ref a) (.ref (He.ga K "BadInput")) = some false ∧ PySem.W.kitOne K (.ref a) (.ref (He.ga K "Refused")) = some true ∧ PySem.W.kitOne K (.ref a) (.ref (He.ga K "NoAnswer")) = some false := c.fact 409
  have fx_g2 : ∀ a ∈ [(He.ga K "NoDeed"), (He.ga K "AtRow")], PySem.W.kitOne K (.ref a) (.ref (He.ga K "BadInput")) = some false ∧ PySem.W.kitOne K (.ref a) (.ref (He.ga K "Refused")) = some false ∧ PySem.W.kitOne K (.ref a) (.ref (He.ga K "NoAnswer")) = some true := c.fact 410
  have fx_gc : ∀ a ∈ [(He.ga K "CountError")], PySem.W.kitOne K (.ref a) (.ref (He.ga K "BadInput")) = some false ∧ PySem.W.kitOne K (.ref a) (.ref (He.ga K "Refused")) = some false ∧ PySem.W.kitOne K (.ref a) (.ref (He.ga K "NoAnswer")) = some false := c.fact 411
  have fx_ce : ∀ a ∈ [(He.ga K "BadBag"), (He.ga K "BadBase"), (He.ga K "BadBook"), (He.ga K "BadBounds"), (He.ga K "BadCounts"), (He.ga K "BadForm"), (He.ga K "BadLine"), (He.ga K "BadName"), (He.ga K "BadNumber"), (He.ga K "BadPlan"), (He.ga K "BadQuestion"), (He.ga K "BadRewrite"), (He.ga K "BadRow"), (He.ga K "BadRule"), (He.ga K "BadStore"), (He.ga K "BadTest"), (He.ga K "BadText"), (He.ga K "Breaks"), (He.ga K "NoColumn"), (He.ga K "NoFit"), (He.ga K "NoPlace"), (He.ga K "NoRow"), (He.ga K "NoTable"), (He.ga K "TooMany"), (He.ga K "Unlike"), (He.ga K "NoDeed"), (He.ga K "AtRow")] ++ [(He.ga K "BadInput")], PySem.W.kitOne K (.ref a) (.ref (He.ga K "CountError")) = some true ∧ PySem.W.kitOne K (.ref a) (.type "ValueError") = some true := c.fact 412
  have fx_ot : ∀ a ∈ [(He.ga K "BadBag"), (He.ga K "BadBase"), (He.ga K "BadBook"), (He.ga K "BadBounds"), (He.ga K "BadCounts"), (He.ga K "BadForm"), (He.ga K "BadLine"), (He.ga K "BadName"), (He.ga K "BadNumber"), (He.ga K "BadPlan"), (He.ga K "BadQuestion"), (He.ga K "BadRewrite"), (He.ga K "BadRow"), (He.ga K "BadRule"), (He.ga K "BadStore"), (He.ga K "BadTest"), (He.ga K "BadText"), (He.ga K "Breaks"), (He.ga K "NoColumn"), (He.ga K "NoFit"), (He.ga K "NoPlace"), (He.ga K "NoRow"), (He.ga K "NoTable"), (He.ga K "TooMany"), (He.ga K "Unlike"), (He.ga K "NoDeed"), (He.ga K "AtRow")], PySem.W.kitAny K (.ref a) [.type "LookupError", .type "AttributeError", .type "ArithmeticError", .type "RuntimeError"] = some false := c.fact 413
  have fx_o3 : ∀ a ∈ [(He.ga K "NoDeed")], PySem.W.kitAny K (.ref a) [.type "LookupError", .type "ArithmeticError", .type "RuntimeError"] = some false := c.fact 414
  have aown_copy : PySem.W.nsIn K mainGlobals "own_copy" = some (some (.ref (He.ga K "own_copy"))) := c.fact 415
  have a_law_pen : PySem.W.nsIn K mainGlobals "_law_pen" = some (some (.ref (He.ga K "_law_pen"))) := c.fact 416
  have a_law_draw : PySem.W.nsIn K mainGlobals "_law_draw" = some (some (.ref (He.ga K "_law_draw"))) := c.fact 417
  have a_law_pick : PySem.W.nsIn K mainGlobals "_law_pick" = some (some (.ref (He.ga K "_law_pick"))) := c.fact 418
  have a_law_value : PySem.W.nsIn K mainGlobals "_law_value" = some (some (.ref (He.ga K "_law_value"))) := c.fact 419
  have a_law_single : PySem.W.nsIn K mainGlobals "_law_single" = some (some (.ref (He.ga K "_law_single"))) := c.fact 420
  have a_law_groups : PySem.W.nsIn K mainGlobals "_law_groups" = some (some (.ref (He.ga K "_law_groups"))) := c.fact 421
  have a_law_kinds : PySem.W.nsIn K mainGlobals "_law_kinds" = some (some (.ref (He.ga K "_law_kinds"))) := c.fact 422
  have a_law_fields_right : PySem.W.nsIn K mainGlobals "_law_fields_right" = some (some (.ref (He.ga K "_law_fields_right"))) := c.fact 423
  have alaw : PySem.W.nsIn K mainGlobals "law" = some (some (.ref (He.ga K "law"))) := c.fact 424
  have z_abs : PySem.W.nsIn K mainGlobals "abs" = some none := c.fact 425
  have z_dict : PySem.W.nsIn K mainGlobals "dict" = some none := c.fact 426
  have z_int : PySem.W.nsIn K mainGlobals "int" = some none := c.fact 427
  have z_isinstance : PySem.W.nsIn K mainGlobals "isinstance" = some none := c.fact 428
  have z_len : PySem.W.nsIn K mainGlobals "len" = some none := c.fact 429
  have z_list : PySem.W.nsIn K mainGlobals "list" = some none := c.fact 430
  have z_range : PySem.W.nsIn K mainGlobals "range" = some none := c.fact 431
  have z_repr : PySem.W.nsIn K mainGlobals "repr" = some none := c.fact 432
  have z_tuple : PySem.W.nsIn K mainGlobals "tuple" = some none := c.fact 433
  have z_ValueError : PySem.W.nsIn K mainGlobals "ValueError" = some none := c.fact 434
  have z_LookupError : PySem.W.nsIn K mainGlobals "LookupError" = some none := c.fact 435
  have z_AttributeError : PySem.W.nsIn K mainGlobals "AttributeError" = some none := c.fact 436
  have z_ArithmeticError : PySem.W.nsIn K mainGlobals "ArithmeticError" = some none := c.fact 437
  have z_RuntimeError : PySem.W.nsIn K mainGlobals "RuntimeError" = some none := c.fact 438
  obtain ⟨oc0, od0, sl0, dV0, kV0, dc0, pm0, an0, cd0, ct0, l0, c0, k0, v0⟩ := c.fn_at 0 rfl
  obtain rfl := dfl_none v0
  have kown_copy : PySem.W.keepIn K (.ref (He.ga K "own_copy")) = true := k0
  obtain ⟨oc1, od1, sl1, dV1, kV1, dc1, pm1, an1, cd1, ct1, l1, c1, k1, v1⟩ := c.fn_at 1 rfl
  obtain rfl := dfl_none v1
  have k_law_pen : PySem.W.keepIn K (.ref (He.ga K "_law_pen")) = true := k1
  obtain ⟨oc2, od2, sl2, dV2, kV2, dc2, pm2, an2, cd2, ct2, l2, c2, k2, v2⟩ := c.fn_at 2 rfl
  obtain rfl := dfl_none v2
  have k_law_draw : PySem.W.keepIn K (.ref (He.ga K "_law_draw")) = true := k2
  obtain ⟨oc3, od3, sl3, dV3, kV3, dc3, pm3, an3, cd3, ct3, l3, c3, k3, v3⟩ := c.fn_at 3 rfl
  obtain rfl := dfl_none v3
  have k_law_pick : PySem.W.keepIn K (.ref (He.ga K "_law_pick")) = true := k3
  obtain ⟨oc4, od4, sl4, dV4, kV4, dc4, pm4, an4, cd4, ct4, l4, c4, k4, v4⟩ := c.fn_at 4 rfl
  obtain rfl := dfl_none v4
  have k_law_value : PySem.W.keepIn K (.ref (He.ga K "_law_value")) = true := k4
  obtain ⟨oc5, od5, sl5, dV5, kV5, dc5, pm5, an5, cd5, ct5, l5, c5, k5, v5⟩ := c.fn_at 5 rfl
  obtain rfl := dfl_none v5
  have k_law_single : PySem.W.keepIn K (.ref (He.ga K "_law_single")) = true := k5
  obtain ⟨oc6, od6, sl6, dV6, kV6, dc6, pm6, an6, cd6, ct6, l6, c6, k6, v6⟩ := c.fn_at 6 rfl
  obtain rfl := dfl_none v6
  have k_law_groups : PySem.W.keepIn K (.ref (He.ga K "_law_groups")) = true := k6
  obtain ⟨oc7, od7, sl7, dV7, kV7, dc7, pm7, an7, cd7, ct7, l7, c7, k7, v7⟩ := c.fn_at 7 rfl
  obtain rfl := dfl_none v7
  have k_law_kinds : PySem.W.keepIn K (.ref (He.ga K "_law_kinds")) = true := k7
  obtain ⟨oc8, od8, sl8, dV8, kV8, dc8, pm8, an8, cd8, ct8, l8, c8, k8, v8⟩ := c.fn_at 8 rfl
  obtain rfl := dfl_none v8
  have k_law_fields_right : PySem.W.keepIn K (.ref (He.ga K "_law_fields_right")) = true := k8
  obtain ⟨oc9, od9, sl9, dV9, kV9, dc9, pm9, an9, cd9, ct9, l9, c9, k9, v9⟩ := c.fn_at 9 rfl
  obtain rfl := dfl_none v9
  have klaw : PySem.W.keepIn K (.ref (He.ga K "law")) = true := k9
  obtain ⟨oc10, od10, sl10, dV10, kV10, dc10, pm10, an10, cd10, ct10, l10, c10, k10, v10⟩ := c.fn_at 10 rfl
  obtain rfl := dfl_none v10
  have kBadBag___init__ : PySem.W.keepIn K (.ref (nsA K (He.ga K "BadBag") "__init__")) = true := k10
  obtain ⟨oc11, od11, sl11, dV11, kV11, dc11, pm11, an11, cd11, ct11, l11, c11, k11, v11⟩ := c.fn_at 11 rfl
  obtain rfl := dfl_none v11
  have kBadBase___init__ : PySem.W.keepIn K (.ref (nsA K (He.ga K "BadBase") "__init__")) = true := k11
  obtain ⟨oc12, od12, sl12, dV12, kV12, dc12, pm12, an12, cd12, ct12, l12, c12, k12, v12⟩ := c.fn_at 12 rfl
  obtain rfl := dfl_none v12
  have kBadBook___init__ : PySem.W.keepIn K (.ref (nsA K (He.ga K "BadBook") "__init__")) = true := k12
  obtain ⟨oc13, od13, sl13, dV13, kV13, dc13, pm13, an13, cd13, ct13, l13, c13, k13, v13⟩ := c.fn_at 13 rfl
  obtain rfl := dfl_none v13
  have kBadBounds___init__ : PySem.W.keepIn K (.ref (nsA K (He.ga K "BadBounds") "__init__")) = true := k13
  obtain ⟨oc14, od14, sl14, dV14, kV14, dc14, pm14, an14, cd14, ct14, l14, c14, k14, v14⟩ := c.fn_at 14 rfl
  obtain rfl := dfl_none v14
  have kBadCounts___init__ : PySem.W.keepIn K (.ref (nsA K (He.ga K "BadCounts") "__init__")) = true := k14
  obtain ⟨oc15, od15, sl15, dV15, kV15, dc15, pm15, an15, cd15, ct15, l15, c15, k15, v15⟩ := c.fn_at 15 rfl
  obtain rfl := dfl_none v15
  have kBadForm___init__ : PySem.W.keepIn K (.ref (nsA K (He.ga K "BadForm") "__init__")) = true := k15
  obtain ⟨oc16, od16, sl16, dV16, kV16, dc16, pm16, an16, cd16, ct16, l16, c16, k16, v16⟩ := c.fn_at 16 rfl
  obtain rfl := dfl_none v16
  have kBadLine___init__ : PySem.W.keepIn K (.ref (nsA K (He.ga K "BadLine") "__init__")) = true := k16
  obtain ⟨oc17, od17, sl17, dV17, kV17, dc17, pm17, an17, cd17, ct17, l17, c17, k17, v17⟩ := c.fn_at 17 rfl
  obtain rfl := dfl_none v17
  have kBadName___init__ : PySem.W.keepIn K (.ref (nsA K (He.ga K "BadName") "__init__")) = true := k17
  obtain ⟨oc18, od18, sl18, dV18, kV18, dc18, pm18, an18, cd18, ct18, l18, c18, k18, v18⟩ := c.fn_at 18 rfl
  obtain rfl := dfl_none v18
  have kBadNumber___init__ : PySem.W.keepIn K (.ref (nsA K (He.ga K "BadNumber") "__init__")) = true := k18
  obtain ⟨oc19, od19, sl19, dV19, kV19, dc19, pm19, an19, cd19, ct19, l19, c19, k19, v19⟩ := c.fn_at 19 rfl
  obtain rfl := dfl_none v19
  have kBadPlan___init__ : PySem.W.keepIn K (.ref (nsA K (He.ga K "BadPlan") "__init__")) = true := k19
  obtain ⟨oc20, od20, sl20, dV20, kV20, dc20, pm20, an20, cd20, ct20, l20, c20, k20, v20⟩ := c.fn_at 20 rfl
  obtain rfl := dfl_none v20
  have kBadQuestion___init__ : PySem.W.keepIn K (.ref (nsA K (He.ga K "BadQuestion") "__init__")) = true := k20
  obtain ⟨oc21, od21, sl21, dV21, kV21, dc21, pm21, an21, cd21, ct21, l21, c21, k21, v21⟩ := c.fn_at 21 rfl
  obtain rfl := dfl_none v21
  have kBadRewrite___init__ : PySem.W.keepIn K (.ref (nsA K (He.ga K "BadRewrite") "__init__")) = true := k21
  obtain ⟨oc22, od22, sl22, dV22, kV22, dc22, pm22, an22, cd22, ct22, l22, c22, k22, v22⟩ := c.fn_at 22 rfl
  obtain rfl := dfl_none v22
  have kBadRow___init__ : PySem.W.keepIn K (.ref (nsA K (He.ga K "BadRow") "__init__")) = true := k22
  obtain ⟨oc23, od23, sl23, dV23, kV23, dc23, pm23, an23, cd23, ct23, l23, c23, k23, v23⟩ := c.fn_at 23 rfl
  obtain rfl := dfl_none v23
  have kBadRule___init__ : PySem.W.keepIn K (.ref (nsA K (He.ga K "BadRule") "__init__")) = true := k23
  obtain ⟨oc24, od24, sl24, dV24, kV24, dc24, pm24, an24, cd24, ct24, l24, c24, k24, v24⟩ := c.fn_at 24 rfl
  obtain rfl := dfl_none v24
  have kBadStore___init__ : PySem.W.keepIn K (.ref (nsA K (He.ga K "BadStore") "__init__")) = true := k24
  obtain ⟨oc25, od25, sl25, dV25, kV25, dc25, pm25, an25, cd25, ct25, l25, c25, k25, v25⟩ := c.fn_at 25 rfl
  obtain rfl := dfl_none v25
  have kBadTest___init__ : PySem.W.keepIn K (.ref (nsA K (He.ga K "BadTest") "__init__")) = true := k25
  obtain ⟨oc26, od26, sl26, dV26, kV26, dc26, pm26, an26, cd26, ct26, l26, c26, k26, v26⟩ := c.fn_at 26 rfl
  obtain rfl := dfl_none v26
  have kBadText___init__ : PySem.W.keepIn K (.ref (nsA K (He.ga K "BadText") "__init__")) = true := k26
  obtain ⟨oc27, od27, sl27, dV27, kV27, dc27, pm27, an27, cd27, ct27, l27, c27, k27, v27⟩ := c.fn_at 27 rfl
  obtain rfl := dfl_none v27
  have kBreaks___init__ : PySem.W.keepIn K (.ref (nsA K (He.ga K "Breaks") "__init__")) = true := k27
  obtain ⟨oc28, od28, sl28, dV28, kV28, dc28, pm28, an28, cd28, ct28, l28, c28, k28, v28⟩ := c.fn_at 28 rfl
  obtain rfl := dfl_none v28
  have kNoColumn___init__ : PySem.W.keepIn K (.ref (nsA K (He.ga K "NoColumn") "__init__")) = true := k28
  obtain ⟨oc29, od29, sl29, dV29, kV29, dc29, pm29, an29, cd29, ct29, l29, c29, k29, v29⟩ := c.fn_at 29 rfl
  obtain rfl := dfl_none v29
  have kNoFit___init__ : PySem.W.keepIn K (.ref (nsA K (He.ga K "NoFit") "__init__")) = true := k29
  obtain ⟨oc30, od30, sl30, dV30, kV30, dc30, pm30, an30, cd30, ct30, l30, c30, k30, v30⟩ := c.fn_at 30 rfl
  obtain rfl := dfl_none v30
  have kNoPlace___init__ : PySem.W.keepIn K (.ref (nsA K (He.ga K "NoPlace") "__init__")) = true := k30
  obtain ⟨oc31, od31, sl31, dV31, kV31, dc31, pm31, an31, cd31, ct31, l31, c31, k31, v31⟩ := c.fn_at 31 rfl
  obtain rfl := dfl_none v31
  have kNoRow___init__ : PySem.W.keepIn K (.ref (nsA K (He.ga K "NoRow") "__init__")) = true := k31
  obtain ⟨oc32, od32, sl32, dV32, kV32, dc32, pm32, an32, cd32, ct32, l32, c32, k32, v32⟩ := c.fn_at 32 rfl
  obtain rfl := dfl_none v32
  have kNoTable___init__ : PySem.W.keepIn K (.ref (nsA K (He.ga K "NoTable") "__init__")) = true := k32
  obtain ⟨oc33, od33, sl33, dV33, kV33, dc33, pm33, an33, cd33, ct33, l33, c33, k33, v33⟩ := c.fn_at 33 rfl
  obtain rfl := dfl_none v33
  have kTooMany___init__ : PySem.W.keepIn K (.ref (nsA K (He.ga K "TooMany") "__init__")) = true := k33
  obtain ⟨oc34, od34, sl34, dV34, kV34, dc34, pm34, an34, cd34, ct34, l34, c34, k34, v34⟩ := c.fn_at 34 rfl
  obtain rfl := dfl_none v34
  have kUnlike___init__ : PySem.W.keepIn K (.ref (nsA K (He.ga K "Unlike") "__init__")) = true := k34
  obtain ⟨oc35, od35, sl35, dV35, kV35, dc35, pm35, an35, cd35, ct35, l35, c35, k35, v35⟩ := c.fn_at 35 rfl
  obtain rfl := dfl_none v35
  have kAtRow___init__ : PySem.W.keepIn K (.ref (nsA K (He.ga K "AtRow") "__init__")) = true := k35
  let T : Top K mg := {
    sg := sg,
    tk := tk,
    C_CountError := (He.ga K "CountError"),
    g_CountError := PySem.W.mg_of X G gCountError,
    C_BadInput := (He.ga K "BadInput"),
    g_BadInput := PySem.W.mg_of X G gBadInput,
    C_Refused := (He.ga K "Refused"),
    g_Refused := PySem.W.mg_of X G gRefused,
    C_NoAnswer := (He.ga K "NoAnswer"),
    g_NoAnswer := PySem.W.mg_of X G gNoAnswer,
    C_NoDeed := (He.ga K "NoDeed"),
    g_NoDeed := PySem.W.mg_of X G gNoDeed,
    C_BadBag := (He.ga K "BadBag"),
    g_BadBag := PySem.W.mg_of X G gBadBag,
    ox_BadBag := ⟨oexB_cls xoBadBag, saBadBag, eCBadBag, tCBadBag, kCBadBag⟩,
    ic_BadBag := atBadBag___init__,
    ti_BadBag := tiBadBag,
    no_BadBag_part := noBadBag_part,
    xf_BadBag := ⟨gaBadBag, ggBadBag, eCBadBag, hdBadBag⟩,
    ki_BadBag := kit_self,
    ex_BadBag := ⟨gaBadBag, ggBadBag, eCBadBag, hdBadBag, caBadBag, sg, tk, mrBadBag⟩,
    C_BadBase := (He.ga K "BadBase"),
    g_BadBase := PySem.W.mg_of X G gBadBase,
    ox_BadBase := ⟨oexB_cls xoBadBase, saBadBase, eCBadBase, tCBadBase, kCBadBase⟩,
    ic_BadBase := atBadBase___init__,
    ti_BadBase := tiBadBase,
    no_BadBase_part := noBadBase_part,
    xf_BadBase := ⟨gaBadBase, ggBadBase, eCBadBase, hdBadBase⟩,
    ki_BadBase := kit_self,
    ex_BadBase := ⟨gaBadBase, ggBadBase, eCBadBase, hdBadBase, caBadBase, sg, tk, mrBadBase⟩,
    C_BadBook := (He.ga K "BadBook"),
    g_BadBook := PySem.W.mg_of X G gBadBook,
    ox_BadBook := ⟨oexB_cls xoBadBook, saBadBook, eCBadBook, tCBadBook, kCBadBook⟩,
    ic_BadBook := atBadBook___init__,
    ti_BadBook := tiBadBook,
    no_BadBook_at := noBadBook_at,
    xf_BadBook := ⟨gaBadBook, ggBadBook, eCBadBook, hdBadBook⟩,
    ki_BadBook := kit_self,
    ex_BadBook := ⟨gaBadBook, ggBadBook, eCBadBook, hdBadBook, caBadBook, sg, tk, mrBadBook⟩,
    C_BadBounds := (He.ga K "BadBounds"),
    g_BadBounds := PySem.W.mg_of X G gBadBounds,
    ox_BadBounds := ⟨oexB_cls xoBadBounds, saBadBounds, eCBadBounds, tCBadBounds, kCBadBounds⟩,
    ic_BadBounds := atBadBounds___init__,
    ti_BadBounds := tiBadBounds,
    no_BadBounds_at := noBadBounds_at,
    xf_BadBounds := ⟨gaBadBounds, ggBadBounds, eCBadBounds, hdBadBounds⟩,
    ki_BadBounds := kit_self,
    ex_BadBounds := ⟨gaBadBounds, ggBadBounds, eCBadBounds, hdBadBounds, caBadBounds, sg, tk, mrBadBounds⟩,
    C_BadCounts := (He.ga K "BadCounts"),
    g_BadCounts := PySem.W.mg_of X G gBadCounts,
    ox_BadCounts := ⟨oexB_cls xoBadCounts, saBadCounts, eCBadCounts, tCBadCounts, kCBadCounts⟩,
    ic_BadCounts := atBadCounts___init__,
    ti_BadCounts := tiBadCounts,
    no_BadCounts_part := noBadCounts_part,
    xf_BadCounts := ⟨gaBadCounts, ggBadCounts, eCBadCounts, hdBadCounts⟩,
    ki_BadCounts := kit_self,
    ex_BadCounts := ⟨gaBadCounts, ggBadCounts, eCBadCounts, hdBadCounts, caBadCounts, sg, tk, mrBadCounts⟩,
    C_BadForm := (He.ga K "BadForm"),
    g_BadForm := PySem.W.mg_of X G gBadForm,
    ox_BadForm := ⟨oexB_cls xoBadForm, saBadForm, eCBadForm, tCBadForm, kCBadForm⟩,
    ic_BadForm := atBadForm___init__,
    ti_BadForm := tiBadForm,
    no_BadForm_part := noBadForm_part,
    xf_BadForm := ⟨gaBadForm, ggBadForm, eCBadForm, hdBadForm⟩,
    ki_BadForm := kit_self,
    ex_BadForm := ⟨gaBadForm, ggBadForm, eCBadForm, hdBadForm, caBadForm, sg, tk, mrBadForm⟩,
    C_BadLine := (He.ga K "BadLine"),
    g_BadLine := PySem.W.mg_of X G gBadLine,
    ox_BadLine := ⟨oexB_cls xoBadLine, saBadLine, eCBadLine, tCBadLine, kCBadLine⟩,
    ic_BadLine := atBadLine___init__,
    ti_BadLine := tiBadLine,
    no_BadLine_word := noBadLine_word,
    xf_BadLine := ⟨gaBadLine, ggBadLine, eCBadLine, hdBadLine⟩,
    ki_BadLine := kit_self,
    ex_BadLine := ⟨gaBadLine, ggBadLine, eCBadLine, hdBadLine, caBadLine, sg, tk, mrBadLine⟩,
    C_BadName := (He.ga K "BadName"),
    g_BadName := PySem.W.mg_of X G gBadName,
    ox_BadName := ⟨oexB_cls xoBadName, saBadName, eCBadName, tCBadName, kCBadName⟩,
    ic_BadName := atBadName___init__,
    ti_BadName := tiBadName,
    no_BadName_value := noBadName_value,
    xf_BadName := ⟨gaBadName, ggBadName, eCBadName, hdBadName⟩,
    ki_BadName := kit_self,
    ex_BadName := ⟨gaBadName, ggBadName, eCBadName, hdBadName, caBadName, sg, tk, mrBadName⟩,
    C_BadNumber := (He.ga K "BadNumber"),
    g_BadNumber := PySem.W.mg_of X G gBadNumber,
    ox_BadNumber := ⟨oexB_cls xoBadNumber, saBadNumber, eCBadNumber, tCBadNumber, kCBadNumber⟩,
    ic_BadNumber := atBadNumber___init__,
    ti_BadNumber := tiBadNumber,
    no_BadNumber_value := noBadNumber_value,
    xf_BadNumber := ⟨gaBadNumber, ggBadNumber, eCBadNumber, hdBadNumber⟩,
    ki_BadNumber := kit_self,
    ex_BadNumber := ⟨gaBadNumber, ggBadNumber, eCBadNumber, hdBadNumber, caBadNumber, sg, tk, mrBadNumber⟩,
    C_BadPlan := (He.ga K "BadPlan"),
    g_BadPlan := PySem.W.mg_of X G gBadPlan,
    ox_BadPlan := ⟨oexB_cls xoBadPlan, saBadPlan, eCBadPlan, tCBadPlan, kCBadPlan⟩,
    ic_BadPlan := atBadPlan___init__,
    ti_BadPlan := tiBadPlan,
    no_BadPlan_part := noBadPlan_part,
    xf_BadPlan := ⟨gaBadPlan, ggBadPlan, eCBadPlan, hdBadPlan⟩,
    ki_BadPlan := kit_self,
    ex_BadPlan := ⟨gaBadPlan, ggBadPlan, eCBadPlan, hdBadPlan, caBadPlan, sg, tk, mrBadPlan⟩,
    C_BadQuestion := (He.ga K "BadQuestion"),
    g_BadQuestion := PySem.W.mg_of X G gBadQuestion,
    ox_BadQuestion := ⟨oexB_cls xoBadQuestion, saBadQuestion, eCBadQuestion, tCBadQuestion, kCBadQuestion⟩,
    ic_BadQuestion := atBadQuestion___init__,
    ti_BadQuestion := tiBadQuestion,
    no_BadQuestion_part := noBadQuestion_part,
    xf_BadQuestion := ⟨gaBadQuestion, ggBadQuestion, eCBadQuestion, hdBadQuestion⟩,
    ki_BadQuestion := kit_self,
    ex_BadQuestion := ⟨gaBadQuestion, ggBadQuestion, eCBadQuestion, hdBadQuestion, caBadQuestion, sg, tk, mrBadQuestion⟩,
    C_BadRewrite := (He.ga K "BadRewrite"),
    g_BadRewrite := PySem.W.mg_of X G gBadRewrite,
    ox_BadRewrite := ⟨oexB_cls xoBadRewrite, saBadRewrite, eCBadRewrite, tCBadRewrite, kCBadRewrite⟩,
    ic_BadRewrite := atBadRewrite___init__,
    ti_BadRewrite := tiBadRewrite,
    no_BadRewrite_part := noBadRewrite_part,
    xf_BadRewrite := ⟨gaBadRewrite, ggBadRewrite, eCBadRewrite, hdBadRewrite⟩,
    ki_BadRewrite := kit_self,
    ex_BadRewrite := ⟨gaBadRewrite, ggBadRewrite, eCBadRewrite, hdBadRewrite, caBadRewrite, sg, tk, mrBadRewrite⟩,
    C_BadRow := (He.ga K "BadRow"),
    g_BadRow := PySem.W.mg_of X G gBadRow,
    ox_BadRow := ⟨oexB_cls xoBadRow, saBadRow, eCBadRow, tCBadRow, kCBadRow⟩,
    ic_BadRow := atBadRow___init__,
    ti_BadRow := tiBadRow,
    no_BadRow_part := noBadRow_part,
    xf_BadRow := ⟨gaBadRow, ggBadRow, eCBadRow, hdBadRow⟩,
    ki_BadRow := kit_self,
    ex_BadRow := ⟨gaBadRow, ggBadRow, eCBadRow, hdBadRow, caBadRow, sg, tk, mrBadRow⟩,
    C_BadRule := (He.ga K "BadRule"),
    g_BadRule := PySem.W.mg_of X G gBadRule,
    ox_BadRule := ⟨oexB_cls xoBadRule, saBadRule, eCBadRule, tCBadRule, kCBadRule⟩,
    ic_BadRule := atBadRule___init__,
    ti_BadRule := tiBadRule,
    no_BadRule_part := noBadRule_part,
    xf_BadRule := ⟨gaBadRule, ggBadRule, eCBadRule, hdBadRule⟩,
    ki_BadRule := kit_self,
    ex_BadRule := ⟨gaBadRule, ggBadRule, eCBadRule, hdBadRule, caBadRule, sg, tk, mrBadRule⟩,
    C_BadStore := (He.ga K "BadStore"),
    g_BadStore := PySem.W.mg_of X G gBadStore,
    ox_BadStore := ⟨oexB_cls xoBadStore, saBadStore, eCBadStore, tCBadStore, kCBadStore⟩,
    ic_BadStore := atBadStore___init__,
    ti_BadStore := tiBadStore,
    no_BadStore_part := noBadStore_part,
    xf_BadStore := ⟨gaBadStore, ggBadStore, eCBadStore, hdBadStore⟩,
    ki_BadStore := kit_self,
    ex_BadStore := ⟨gaBadStore, ggBadStore, eCBadStore, hdBadStore, caBadStore, sg, tk, mrBadStore⟩,
    C_BadTest := (He.ga K "BadTest"),
    g_BadTest := PySem.W.mg_of X G gBadTest,
    ox_BadTest := ⟨oexB_cls xoBadTest, saBadTest, eCBadTest, tCBadTest, kCBadTest⟩,
    ic_BadTest := atBadTest___init__,
    ti_BadTest := tiBadTest,
    no_BadTest_part := noBadTest_part,
    xf_BadTest := ⟨gaBadTest, ggBadTest, eCBadTest, hdBadTest⟩,
    ki_BadTest := kit_self,
    ex_BadTest := ⟨gaBadTest, ggBadTest, eCBadTest, hdBadTest, caBadTest, sg, tk, mrBadTest⟩,
    C_BadText := (He.ga K "BadText"),
    g_BadText := PySem.W.mg_of X G gBadText,
    ox_BadText := ⟨oexB_cls xoBadText, saBadText, eCBadText, tCBadText, kCBadText⟩,
    ic_BadText := atBadText___init__,
    ti_BadText := tiBadText,
    no_BadText_line := noBadText_line,
    no_BadText_word := noBadText_word,
    xf_BadText := ⟨gaBadText, ggBadText, eCBadText, hdBadText⟩,
    ki_BadText := kit_self,
    ex_BadText := ⟨gaBadText, ggBadText, eCBadText, hdBadText, caBadText, sg, tk, mrBadText⟩,
    C_Breaks := (He.ga K "Breaks"),
    g_Breaks := PySem.W.mg_of X G gBreaks,
    ox_Breaks := ⟨oexB_cls xoBreaks, saBreaks, eCBreaks, tCBreaks, kCBreaks⟩,
    ic_Breaks := atBreaks___init__,
    ti_Breaks := tiBreaks,
    no_Breaks_rule := noBreaks_rule,
    xf_Breaks := ⟨gaBreaks, ggBreaks, eCBreaks, hdBreaks⟩,
    ki_Breaks := kit_self,
    ex_Breaks := ⟨gaBreaks, ggBreaks, eCBreaks, hdBreaks, caBreaks, sg, tk, mrBreaks⟩,
    C_NoColumn := (He.ga K "NoColumn"),
    g_NoColumn := PySem.W.mg_of X G gNoColumn,
    ox_NoColumn := ⟨oexB_cls xoNoColumn, saNoColumn, eCNoColumn, tCNoColumn, kCNoColumn⟩,
    ic_NoColumn := atNoColumn___init__,
    ti_NoColumn := tiNoColumn,
    no_NoColumn_name := noNoColumn_name,
    xf_NoColumn := ⟨gaNoColumn, ggNoColumn, eCNoColumn, hdNoColumn⟩,
    ki_NoColumn := kit_self,
    ex_NoColumn := ⟨gaNoColumn, ggNoColumn, eCNoColumn, hdNoColumn, caNoColumn, sg, tk, mrNoColumn⟩,
    C_NoFit := (He.ga K "NoFit"),
    g_NoFit := PySem.W.mg_of X G gNoFit,
    ox_NoFit := ⟨oexB_cls xoNoFit, saNoFit, eCNoFit, tCNoFit, kCNoFit⟩,
    ic_NoFit := atNoFit___init__,
    ti_NoFit := tiNoFit,
    no_NoFit_place := noNoFit_place,
    xf_NoFit := ⟨gaNoFit, ggNoFit, eCNoFit, hdNoFit⟩,
    ki_NoFit := kit_self,
    ex_NoFit := ⟨gaNoFit, ggNoFit, eCNoFit, hdNoFit, caNoFit, sg, tk, mrNoFit⟩,
    C_NoPlace := (He.ga K "NoPlace"),
    g_NoPlace := PySem.W.mg_of X G gNoPlace,
    ox_NoPlace := ⟨oexB_cls xoNoPlace, saNoPlace, eCNoPlace, tCNoPlace, kCNoPlace⟩,
    ic_NoPlace := atNoPlace___init__,
    ti_NoPlace := tiNoPlace,
    no_NoPlace_place := noNoPlace_place,
    xf_NoPlace := ⟨gaNoPlace, ggNoPlace, eCNoPlace, hdNoPlace⟩,
    ki_NoPlace := kit_self,
    ex_NoPlace := ⟨gaNoPlace, ggNoPlace, eCNoPlace, hdNoPlace, caNoPlace, sg, tk, mrNoPlace⟩,
    C_NoRow := (He.ga K "NoRow"),
    g_NoRow := PySem.W.mg_of X G gNoRow,
    ox_NoRow := ⟨oexB_cls xoNoRow, saNoRow, eCNoRow, tCNoRow, kCNoRow⟩,
    ic_NoRow := atNoRow___init__,
    ti_NoRow := tiNoRow,
    no_NoRow_row := noNoRow_row,
    xf_NoRow := ⟨gaNoRow, ggNoRow, eCNoRow, hdNoRow⟩,
    ki_NoRow := kit_self,
    ex_NoRow := ⟨gaNoRow, ggNoRow, eCNoRow, hdNoRow, caNoRow, sg, tk, mrNoRow⟩,
    C_NoTable := (He.ga K "NoTable"),
    g_NoTable := PySem.W.mg_of X G gNoTable,
    ox_NoTable := ⟨oexB_cls xoNoTable, saNoTable, eCNoTable, tCNoTable, kCNoTable⟩,
    ic_NoTable := atNoTable___init__,
    ti_NoTable := tiNoTable,
    no_NoTable_name := noNoTable_name,
    xf_NoTable := ⟨gaNoTable, ggNoTable, eCNoTable, hdNoTable⟩,
    ki_NoTable := kit_self,
    ex_NoTable := ⟨gaNoTable, ggNoTable, eCNoTable, hdNoTable, caNoTable, sg, tk, mrNoTable⟩,
    C_TooMany := (He.ga K "TooMany"),
    g_TooMany := PySem.W.mg_of X G gTooMany,
    ox_TooMany := ⟨oexB_cls xoTooMany, saTooMany, eCTooMany, tCTooMany, kCTooMany⟩,
    ic_TooMany := atTooMany___init__,
    ti_TooMany := tiTooMany,
    no_TooMany_what := noTooMany_what,
    no_TooMany_most := noTooMany_most,
    xf_TooMany := ⟨gaTooMany, ggTooMany, eCTooMany, hdTooMany⟩,
    ki_TooMany := kit_self,
    ex_TooMany := ⟨gaTooMany, ggTooMany, eCTooMany, hdTooMany, caTooMany, sg, tk, mrTooMany⟩,
    C_Unlike := (He.ga K "Unlike"),
    g_Unlike := PySem.W.mg_of X G gUnlike,
    ox_Unlike := ⟨oexB_cls xoUnlike, saUnlike, eCUnlike, tCUnlike, kCUnlike⟩,
    ic_Unlike := atUnlike___init__,
    ti_Unlike := tiUnlike,
    no_Unlike_paper := noUnlike_paper,
    xf_Unlike := ⟨gaUnlike, ggUnlike, eCUnlike, hdUnlike⟩,
    ki_Unlike := kit_self,
    ex_Unlike := ⟨gaUnlike, ggUnlike, eCUnlike, hdUnlike, caUnlike, sg, tk, mrUnlike⟩,
    C_AtRow := (He.ga K "AtRow"),
    g_AtRow := PySem.W.mg_of X G gAtRow,
    ox_AtRow := ⟨oexB_cls xoAtRow, saAtRow, eCAtRow, tCAtRow, kCAtRow⟩,
    ic_AtRow := atAtRow___init__,
    ti_AtRow := tiAtRow,
    no_AtRow_row := noAtRow_row,
    xf_AtRow := ⟨gaAtRow, ggAtRow, eCAtRow, hdAtRow⟩,
    ki_AtRow := kit_self,
    ex_AtRow := ⟨gaAtRow, ggAtRow, eCAtRow, hdAtRow, caAtRow, sg, tk, mrAtRow⟩,
    xn_CountError := xnCountError,
    kx_CountError := kxCountError,
    ex_CountError := ⟨gaCountError, ggCountError, eCCountError, hdCountError, caCountError, sg, tk, mrCountError⟩,
    xn_BadInput := xnBadInput,
    kx_BadInput := kxBadInput,
    ex_BadInput := ⟨gaBadInput, ggBadInput, eCBadInput, hdBadInput, caBadInput, sg, tk, mrBadInput⟩,
    xn_Refused := xnRefused,
    kx_Refused := kxRefused,
    ex_Refused := ⟨gaRefused, ggRefused, eCRefused, hdRefused, caRefused, sg, tk, mrRefused⟩,
    xn_NoDeed := xnNoDeed,
    kx_NoDeed := kxNoDeed,
    ex_NoDeed := ⟨gaNoDeed, ggNoDeed, eCNoDeed, hdNoDeed, caNoDeed, sg, tk, mrNoDeed⟩,
    kk := fx_kk,
    kn := fx_kn,
    kr := fx_kr,
    g0 := fx_g0,
    g1 := fx_g1,
    g2 := fx_g2,
    gc := fx_gc,
    ce := fx_ce,
    ot := fx_ot,
    o3 := fx_o3,
    z_abs := PySem.W.mg_none_of X G z_abs,
    z_dict := PySem.W.mg_none_of X G z_dict,
    z_int := PySem.W.mg_none_of X G z_int,
    z_isinstance := PySem.W.mg_none_of X G z_isinstance,
    z_len := PySem.W.mg_none_of X G z_len,
    z_list := PySem.W.mg_none_of X G z_list,
    z_range := PySem.W.mg_none_of X G z_range,
    z_repr := PySem.W.mg_none_of X G z_repr,
    z_tuple := PySem.W.mg_none_of X G z_tuple,
    z_ValueError := PySem.W.mg_none_of X G z_ValueError,
    z_LookupError := PySem.W.mg_none_of X G z_LookupError,
    z_AttributeError := PySem.W.mg_none_of X G z_AttributeError,
    z_ArithmeticError := PySem.W.mg_none_of X G z_ArithmeticError,
    z_RuntimeError := PySem.W.mg_none_of X G z_RuntimeError,
    a_own_copy := (He.ga K "own_copy"),
    d_own_copy := (PySem.W.fnOf "own_copy" "own_copy" (defArgs sown_copy) (defBody sown_copy) (defScope sown_copy) .none kV0 dc0 pm0 an0 cd0 ct0),
    F_own_copy := fun_mk (st := sown_copy) l0 c0 k0,
    b_own_copy := (fun_mk (st := sown_copy) l0 c0 k0).binds (ps := ["value"]) fun _ _ _ _ _ _ us hl => match us, hl with | [_], _ => rfl,
    g_own_copy := PySem.W.mg_of X G aown_copy,
    a__law_pen := (He.ga K "_law_pen"),
    d__law_pen := (PySem.W.fnOf "_law_pen" "_law_pen" (defArgs s_law_pen) (defBody s_law_pen) (defScope s_law_pen) .none kV1 dc1 pm1 an1 cd1 ct1),
    F__law_pen := fun_mk (st := s_law_pen) l1 c1 k1,
    b__law_pen := (fun_mk (st := s_law_pen) l1 c1 k1).binds (ps := ["_law_script"]) fun _ _ _ _ _ _ us hl => match us, hl with | [_], _ => rfl,
    g__law_pen := PySem.W.mg_of X G a_law_pen,
    a__law_draw := (He.ga K "_law_draw"),
    d__law_draw := (PySem.W.fnOf "_law_draw" "_law_draw" (defArgs s_law_draw) (defBody s_law_draw) (defScope s_law_draw) .none kV2 dc2 pm2 an2 cd2 ct2),
    F__law_draw := fun_mk (st := s_law_draw) l2 c2 k2,
    b__law_draw := (fun_mk (st := s_law_draw) l2 c2 k2).binds (ps := ["_law_pen_here", "_law_many"]) fun _ _ _ _ _ _ us hl => match us, hl with | [_, _], _ => rfl,
    g__law_draw := PySem.W.mg_of X G a_law_draw,
    a__law_pick := (He.ga K "_law_pick"),
    d__law_pick := (PySem.W.fnOf "_law_pick" "_law_pick" (defArgs s_law_pick) (defBody s_law_pick) (defScope s_law_pick) .none kV3 dc3 pm3 an3 cd3 ct3),
    F__law_pick := fun_mk (st := s_law_pick) l3 c3 k3,
    b__law_pick := (fun_mk (st := s_law_pick) l3 c3 k3).binds (ps := ["_law_pen_here", "_law_some"]) fun _ _ _ _ _ _ us hl => match us, hl with | [_, _], _ => rfl,
    g__law_pick := PySem.W.mg_of X G a_law_pick,
    a__law_value := (He.ga K "_law_value"),
    d__law_value := (PySem.W.fnOf "_law_value" "_law_value" (defArgs s_law_value) (defBody s_law_value) (defScope s_law_value) .none kV4 dc4 pm4 an4 cd4 ct4),
    F__law_value := fun_mk (st := s_law_value) l4 c4 k4,
    b__law_value := (fun_mk (st := s_law_value) l4 c4 k4).binds (ps := ["_law_pen_here"]) fun _ _ _ _ _ _ us hl => match us, hl with | [_], _ => rfl,
    g__law_value := PySem.W.mg_of X G a_law_value,
    a__law_single := (He.ga K "_law_single"),
    d__law_single := (PySem.W.fnOf "_law_single" "_law_single" (defArgs s_law_single) (defBody s_law_single) (defScope s_law_single) .none kV5 dc5 pm5 an5 cd5 ct5),
    F__law_single := fun_mk (st := s_law_single) l5 c5 k5,
    b__law_single := (fun_mk (st := s_law_single) l5 c5 k5).binds (ps := ["_law_pen_here", "_law_mine"]) fun _ _ _ _ _ _ us hl => match us, hl with | [_, _], _ => rfl,
    g__law_single := PySem.W.mg_of X G a_law_single,
    a__law_groups := (He.ga K "_law_groups"),
    d__law_groups := (PySem.W.fnOf "_law_groups" "_law_groups" (defArgs s_law_groups) (defBody s_law_groups) (defScope s_law_groups) .none kV6 dc6 pm6 an6 cd6 ct6),
    F__law_groups := fun_mk (st := s_law_groups) l6 c6 k6,
    b__law_groups := (fun_mk (st := s_law_groups) l6 c6 k6).binds (ps := ["_law_error"]) fun _ _ _ _ _ _ us hl => match us, hl with | [_], _ => rfl,
    g__law_groups := PySem.W.mg_of X G a_law_groups,
    a__law_kinds := (He.ga K "_law_kinds"),
    d__law_kinds := (PySem.W.fnOf "_law_kinds" "_law_kinds" (defArgs s_law_kinds) (defBody s_law_kinds) (defScope s_law_kinds) .none kV7 dc7 pm7 an7 cd7 ct7),
    F__law_kinds := fun_mk (st := s_law_kinds) l7 c7 k7,
    b__law_kinds := (fun_mk (st := s_law_kinds) l7 c7 k7).binds (ps := ["_law_error"]) fun _ _ _ _ _ _ us hl => match us, hl with | [_], _ => rfl,
    g__law_kinds := PySem.W.mg_of X G a_law_kinds,
    a__law_fields_right := (He.ga K "_law_fields_right"),
    d__law_fields_right := (PySem.W.fnOf "_law_fields_right" "_law_fields_right" (defArgs s_law_fields_right) (defBody s_law_fields_right) (defScope s_law_fields_right) .none kV8 dc8 pm8 an8 cd8 ct8),
    F__law_fields_right := fun_mk (st := s_law_fields_right) l8 c8 k8,
    b__law_fields_right := (fun_mk (st := s_law_fields_right) l8 c8 k8).binds (ps := ["_law_pen_here"]) fun _ _ _ _ _ _ us hl => match us, hl with | [_], _ => rfl,
    g__law_fields_right := PySem.W.mg_of X G a_law_fields_right,
    a_law := (He.ga K "law"),
    d_law := (PySem.W.fnOf "law" "law" (defArgs slaw) (defBody slaw) (defScope slaw) .none kV9 dc9 pm9 an9 cd9 ct9),
    F_law := fun_mk (st := slaw) l9 c9 k9,
    b_law := (fun_mk (st := slaw) l9 c9 k9).binds (ps := ["_law_script"]) fun _ _ _ _ _ _ us hl => match us, hl with | [_], _ => rfl,
    g_law := PySem.W.mg_of X G alaw,
    a_BadBag___init__ := (nsA K (He.ga K "BadBag") "__init__"),
    d_BadBag___init__ := (PySem.W.fnOf "__init__" "BadBag.__init__" (defArgs sBadBag___init__) (defBody sBadBag___init__) (defScope sBadBag___init__) .none kV10 dc10 pm10 an10 cd10 ct10),
    F_BadBag___init__ := fun_mk (st := sBadBag___init__) l10 c10 k10,
    b_BadBag___init__ := (fun_mk (st := sBadBag___init__) l10 c10 k10).binds (ps := ["self", "part"]) fun _ _ _ _ _ _ us hl => match us, hl with | [_, _], _ => rfl,
    a_BadBase___init__ := (nsA K (He.ga K "BadBase") "__init__"),
    d_BadBase___init__ := (PySem.W.fnOf "__init__" "BadBase.__init__" (defArgs sBadBase___init__) (defBody sBadBase___init__) (defScope sBadBase___init__) .none kV11 dc11 pm11 an11 cd11 ct11),
    F_BadBase___init__ := fun_mk (st := sBadBase___init__) l11 c11 k11,
    b_BadBase___init__ := (fun_mk (st := sBadBase___init__) l11 c11 k11).binds (ps := ["self", "part"]) fun _ _ _ _ _ _ us hl => match us, hl with | [_, _], _ => rfl,
    a_BadBook___init__ := (nsA K (He.ga K "BadBook") "__init__"),
    d_BadBook___init__ := (PySem.W.fnOf "__init__" "BadBook.__init__" (defArgs sBadBook___init__) (defBody sBadBook___init__) (defScope sBadBook___init__) .none kV12 dc12 pm12 an12 cd12 ct12),
    F_BadBook___init__ := fun_mk (st := sBadBook___init__) l12 c12 k12,
    b_BadBook___init__ := (fun_mk (st := sBadBook___init__) l12 c12 k12).binds (ps := ["self", "at"]) fun _ _ _ _ _ _ us hl => match us, hl with | [_, _], _ => rfl,
    a_BadBounds___init__ := (nsA K (He.ga K "BadBounds") "__init__"),
    d_BadBounds___init__ := (PySem.W.fnOf "__init__" "BadBounds.__init__" (defArgs sBadBounds___init__) (defBody sBadBounds___init__) (defScope sBadBounds___init__) .none kV13 dc13 pm13 an13 cd13 ct13),
    F_BadBounds___init__ := fun_mk (st := sBadBounds___init__) l13 c13 k13,
    b_BadBounds___init__ := (fun_mk (st := sBadBounds___init__) l13 c13 k13).binds (ps := ["self", "at"]) fun _ _ _ _ _ _ us hl => match us, hl with | [_, _], _ => rfl,
    a_BadCounts___init__ := (nsA K (He.ga K "BadCounts") "__init__"),
    d_BadCounts___init__ := (PySem.W.fnOf "__init__" "BadCounts.__init__" (defArgs sBadCounts___init__) (defBody sBadCounts___init__) (defScope sBadCounts___init__) .none kV14 dc14 pm14 an14 cd14 ct14),
    F_BadCounts___init__ := fun_mk (st := sBadCounts___init__) l14 c14 k14,
    b_BadCounts___init__ := (fun_mk (st := sBadCounts___init__) l14 c14 k14).binds (ps := ["self", "part"]) fun _ _ _ _ _ _ us hl => match us, hl with | [_, _], _ => rfl,
    a_BadForm___init__ := (nsA K (He.ga K "BadForm") "__init__"),
    d_BadForm___init__ := (PySem.W.fnOf "__init__" "BadForm.__init__" (defArgs sBadForm___init__) (defBody sBadForm___init__) (defScope sBadForm___init__) .none kV15 dc15 pm15 an15 cd15 ct15),
    F_BadForm___init__ := fun_mk (st := sBadForm___init__) l15 c15 k15,
    b_BadForm___init__ := (fun_mk (st := sBadForm___init__) l15 c15 k15).binds (ps := ["self", "part"]) fun _ _ _ _ _ _ us hl => match us, hl with | [_, _], _ => rfl,
    a_BadLine___init__ := (nsA K (He.ga K "BadLine") "__init__"),
    d_BadLine___init__ := (PySem.W.fnOf "__init__" "BadLine.__init__" (defArgs sBadLine___init__) (defBody sBadLine___init__) (defScope sBadLine___init__) .none kV16 dc16 pm16 an16 cd16 ct16),
    F_BadLine___init__ := fun_mk (st := sBadLine___init__) l16 c16 k16,
    b_BadLine___init__ := (fun_mk (st := sBadLine___init__) l16 c16 k16).binds (ps := ["self", "word"]) fun _ _ _ _ _ _ us hl => match us, hl with | [_, _], _ => rfl,
    a_BadName___init__ := (nsA K (He.ga K "BadName") "__init__"),
    d_BadName___init__ := (PySem.W.fnOf "__init__" "BadName.__init__" (defArgs sBadName___init__) (defBody sBadName___init__) (defScope sBadName___init__) .none kV17 dc17 pm17 an17 cd17 ct17),
    F_BadName___init__ := fun_mk (st := sBadName___init__) l17 c17 k17,
    b_BadName___init__ := (fun_mk (st := sBadName___init__) l17 c17 k17).binds (ps := ["self", "value"]) fun _ _ _ _ _ _ us hl => match us, hl with | [_, _], _ => rfl,
    a_BadNumber___init__ := (nsA K (He.ga K "BadNumber") "__init__"),
    d_BadNumber___init__ := (PySem.W.fnOf "__init__" "BadNumber.__init__" (defArgs sBadNumber___init__) (defBody sBadNumber___init__) (defScope sBadNumber___init__) .none kV18 dc18 pm18 an18 cd18 ct18),
    F_BadNumber___init__ := fun_mk (st := sBadNumber___init__) l18 c18 k18,
    b_BadNumber___init__ := (fun_mk (st := sBadNumber___init__) l18 c18 k18).binds (ps := ["self", "value"]) fun _ _ _ _ _ _ us hl => match us, hl with | [_, _], _ => rfl,
    a_BadPlan___init__ := (nsA K (He.ga K "BadPlan") "__init__"),
    d_BadPlan___init__ := (PySem.W.fnOf "__init__" "BadPlan.__init__" (defArgs sBadPlan___init__) (defBody sBadPlan___init__) (defScope sBadPlan___init__) .none kV19 dc19 pm19 an19 cd19 ct19),
    F_BadPlan___init__ := fun_mk (st := sBadPlan___init__) l19 c19 k19,
    b_BadPlan___init__ := (fun_mk (st := sBadPlan___init__) l19 c19 k19).binds (ps := ["self", "part"]) fun _ _ _ _ _ _ us hl => match us, hl with | [_, _], _ => rfl,
    a_BadQuestion___init__ := (nsA K (He.ga K "BadQuestion") "__init__"),
    d_BadQuestion___init__ := (PySem.W.fnOf "__init__" "BadQuestion.__init__" (defArgs sBadQuestion___init__) (defBody sBadQuestion___init__) (defScope sBadQuestion___init__) .none kV20 dc20 pm20 an20 cd20 ct20),
    F_BadQuestion___init__ := fun_mk (st := sBadQuestion___init__) l20 c20 k20,
    b_BadQuestion___init__ := (fun_mk (st := sBadQuestion___init__) l20 c20 k20).binds (ps := ["self", "part"]) fun _ _ _ _ _ _ us hl => match us, hl with | [_, _], _ => rfl,
    a_BadRewrite___init__ := (nsA K (He.ga K "BadRewrite") "__init__"),
    d_BadRewrite___init__ := (PySem.W.fnOf "__init__" "BadRewrite.__init__" (defArgs sBadRewrite___init__) (defBody sBadRewrite___init__) (defScope sBadRewrite___init__) .none kV21 dc21 pm21 an21 cd21 ct21),
    F_BadRewrite___init__ := fun_mk (st := sBadRewrite___init__) l21 c21 k21,
    b_BadRewrite___init__ := (fun_mk (st := sBadRewrite___init__) l21 c21 k21).binds (ps := ["self", "part"]) fun _ _ _ _ _ _ us hl => match us, hl with | [_, _], _ => rfl,
    a_BadRow___init__ := (nsA K (He.ga K "BadRow") "__init__"),
    d_BadRow___init__ := (PySem.W.fnOf "__init__" "BadRow.__init__" (defArgs sBadRow___init__) (defBody sBadRow___init__) (defScope sBadRow___init__) .none kV22 dc22 pm22 an22 cd22 ct22),
    F_BadRow___init__ := fun_mk (st := sBadRow___init__) l22 c22 k22,
    b_BadRow___init__ := (fun_mk (st := sBadRow___init__) l22 c22 k22).binds (ps := ["self", "part"]) fun _ _ _ _ _ _ us hl => match us, hl with | [_, _], _ => rfl,
    a_BadRule___init__ := (nsA K (He.ga K "BadRule") "__init__"),
    d_BadRule___init__ := (PySem.W.fnOf "__init__" "BadRule.__init__" (defArgs sBadRule___init__) (defBody sBadRule___init__) (defScope sBadRule___init__) .none kV23 dc23 pm23 an23 cd23 ct23),
    F_BadRule___init__ := fun_mk (st := sBadRule___init__) l23 c23 k23,
    b_BadRule___init__ := (fun_mk (st := sBadRule___init__) l23 c23 k23).binds (ps := ["self", "part"]) fun _ _ _ _ _ _ us hl => match us, hl with | [_, _], _ => rfl,
    a_BadStore___init__ := (nsA K (He.ga K "BadStore") "__init__"),
    d_BadStore___init__ := (PySem.W.fnOf "__init__" "BadStore.__init__" (defArgs sBadStore___init__) (defBody sBadStore___init__) (defScope sBadStore___init__) .none kV24 dc24 pm24 an24 cd24 ct24),
    F_BadStore___init__ := fun_mk (st := sBadStore___init__) l24 c24 k24,
    b_BadStore___init__ := (fun_mk (st := sBadStore___init__) l24 c24 k24).binds (ps := ["self", "part"]) fun _ _ _ _ _ _ us hl => match us, hl with | [_, _], _ => rfl,
    a_BadTest___init__ := (nsA K (He.ga K "BadTest") "__init__"),
    d_BadTest___init__ := (PySem.W.fnOf "__init__" "BadTest.__init__" (defArgs sBadTest___init__) (defBody sBadTest___init__) (defScope sBadTest___init__) .none kV25 dc25 pm25 an25 cd25 ct25),
    F_BadTest___init__ := fun_mk (st := sBadTest___init__) l25 c25 k25,
    b_BadTest___init__ := (fun_mk (st := sBadTest___init__) l25 c25 k25).binds (ps := ["self", "part"]) fun _ _ _ _ _ _ us hl => match us, hl with | [_, _], _ => rfl,
    a_BadText___init__ := (nsA K (He.ga K "BadText") "__init__"),
    d_BadText___init__ := (PySem.W.fnOf "__init__" "BadText.__init__" (defArgs sBadText___init__) (defBody sBadText___init__) (defScope sBadText___init__) .none kV26 dc26 pm26 an26 cd26 ct26),
    F_BadText___init__ := fun_mk (st := sBadText___init__) l26 c26 k26,
    b_BadText___init__ := (fun_mk (st := sBadText___init__) l26 c26 k26).binds (ps := ["self", "line", "word"]) fun _ _ _ _ _ _ us hl => match us, hl with | [_, _, _], _ => rfl,
    a_Breaks___init__ := (nsA K (He.ga K "Breaks") "__init__"),
    d_Breaks___init__ := (PySem.W.fnOf "__init__" "Breaks.__init__" (defArgs sBreaks___init__) (defBody sBreaks___init__) (defScope sBreaks___init__) .none kV27 dc27 pm27 an27 cd27 ct27),
    F_Breaks___init__ := fun_mk (st := sBreaks___init__) l27 c27 k27,
    b_Breaks___init__ := (fun_mk (st := sBreaks___init__) l27 c27 k27).binds (ps := ["self", "rule"]) fun _ _ _ _ _ _ us hl => match us, hl with | [_, _], _ => rfl,
    a_NoColumn___init__ := (nsA K (He.ga K "NoColumn") "__init__"),
    d_NoColumn___init__ := (PySem.W.fnOf "__init__" "NoColumn.__init__" (defArgs sNoColumn___init__) (defBody sNoColumn___init__) (defScope sNoColumn___init__) .none kV28 dc28 pm28 an28 cd28 ct28),
    F_NoColumn___init__ := fun_mk (st := sNoColumn___init__) l28 c28 k28,
    b_NoColumn___init__ := (fun_mk (st := sNoColumn___init__) l28 c28 k28).binds (ps := ["self", "name"]) fun _ _ _ _ _ _ us hl => match us, hl with | [_, _], _ => rfl,
    a_NoFit___init__ := (nsA K (He.ga K "NoFit") "__init__"),
    d_NoFit___init__ := (PySem.W.fnOf "__init__" "NoFit.__init__" (defArgs sNoFit___init__) (defBody sNoFit___init__) (defScope sNoFit___init__) .none kV29 dc29 pm29 an29 cd29 ct29),
    F_NoFit___init__ := fun_mk (st := sNoFit___init__) l29 c29 k29,
    b_NoFit___init__ := (fun_mk (st := sNoFit___init__) l29 c29 k29).binds (ps := ["self", "place"]) fun _ _ _ _ _ _ us hl => match us, hl with | [_, _], _ => rfl,
    a_NoPlace___init__ := (nsA K (He.ga K "NoPlace") "__init__"),
    d_NoPlace___init__ := (PySem.W.fnOf "__init__" "NoPlace.__init__" (defArgs sNoPlace___init__) (defBody sNoPlace___init__) (defScope sNoPlace___init__) .none kV30 dc30 pm30 an30 cd30 ct30),
    F_NoPlace___init__ := fun_mk (st := sNoPlace___init__) l30 c30 k30,
    b_NoPlace___init__ := (fun_mk (st := sNoPlace___init__) l30 c30 k30).binds (ps := ["self", "place"]) fun _ _ _ _ _ _ us hl => match us, hl with | [_, _], _ => rfl,
    a_NoRow___init__ := (nsA K (He.ga K "NoRow") "__init__"),
    d_NoRow___init__ := (PySem.W.fnOf "__init__" "NoRow.__init__" (defArgs sNoRow___init__) (defBody sNoRow___init__) (defScope sNoRow___init__) .none kV31 dc31 pm31 an31 cd31 ct31),
    F_NoRow___init__ := fun_mk (st := sNoRow___init__) l31 c31 k31,
    b_NoRow___init__ := (fun_mk (st := sNoRow___init__) l31 c31 k31).binds (ps := ["self", "row"]) fun _ _ _ _ _ _ us hl => match us, hl with | [_, _], _ => rfl,
    a_NoTable___init__ := (nsA K (He.ga K "NoTable") "__init__"),
    d_NoTable___init__ := (PySem.W.fnOf "__init__" "NoTable.__init__" (defArgs sNoTable___init__) (defBody sNoTable___init__) (defScope sNoTable___init__) .none kV32 dc32 pm32 an32 cd32 ct32),
    F_NoTable___init__ := fun_mk (st := sNoTable___init__) l32 c32 k32,
    b_NoTable___init__ := (fun_mk (st := sNoTable___init__) l32 c32 k32).binds (ps := ["self", "name"]) fun _ _ _ _ _ _ us hl => match us, hl with | [_, _], _ => rfl,
    a_TooMany___init__ := (nsA K (He.ga K "TooMany") "__init__"),
    d_TooMany___init__ := (PySem.W.fnOf "__init__" "TooMany.__init__" (defArgs sTooMany___init__) (defBody sTooMany___init__) (defScope sTooMany___init__) .none kV33 dc33 pm33 an33 cd33 ct33),
    F_TooMany___init__ := fun_mk (st := sTooMany___init__) l33 c33 k33,
    b_TooMany___init__ := (fun_mk (st := sTooMany___init__) l33 c33 k33).binds (ps := ["self", "what", "most"]) fun _ _ _ _ _ _ us hl => match us, hl with | [_, _, _], _ => rfl,
    a_Unlike___init__ := (nsA K (He.ga K "Unlike") "__init__"),
    d_Unlike___init__ := (PySem.W.fnOf "__init__" "Unlike.__init__" (defArgs sUnlike___init__) (defBody sUnlike___init__) (defScope sUnlike___init__) .none kV34 dc34 pm34 an34 cd34 ct34),
    F_Unlike___init__ := fun_mk (st := sUnlike___init__) l34 c34 k34,
    b_Unlike___init__ := (fun_mk (st := sUnlike___init__) l34 c34 k34).binds (ps := ["self", "paper"]) fun _ _ _ _ _ _ us hl => match us, hl with | [_, _], _ => rfl,
    a_AtRow___init__ := (nsA K (He.ga K "AtRow") "__init__"),
    d_AtRow___init__ := (PySem.W.fnOf "__init__" "AtRow.__init__" (defArgs sAtRow___init__) (defBody sAtRow___init__) (defScope sAtRow___init__) .none kV35 dc35 pm35 an35 cd35 ct35),
    F_AtRow___init__ := fun_mk (st := sAtRow___init__) l35 c35 k35,
    b_AtRow___init__ := (fun_mk (st := sAtRow___init__) l35 c35 k35).binds (ps := ["self", "row"]) fun _ _ _ _ _ _ us hl => match us, hl with | [_, _], _ => rfl,
    kx1_BadBag := { to := fun s us ws _ h1 h2 => by { match us, ws, h1, h2 with | [_], [_], _, _ => exact .of_eq rfl }, rel := fun r q => r.append q },
    kx1_BadBase := { to := fun s us ws _ h1 h2 => by { match us, ws, h1, h2 with | [_], [_], _, _ => exact .of_eq rfl }, rel := fun r q => r.append q },
    kx1_BadBook := { to := fun s us ws _ h1 h2 => by { match us, ws, h1, h2 with | [_], [_], _, _ => exact .of_eq rfl }, rel := fun r q => r.append q },
    kx1_BadBounds := { to := fun s us ws _ h1 h2 => by { match us, ws, h1, h2 with | [_], [_], _, _ => exact .of_eq rfl }, rel := fun r q => r.append q },
    kx1_BadCounts := { to := fun s us ws _ h1 h2 => by { match us, ws, h1, h2 with | [_], [_], _, _ => exact .of_eq rfl }, rel := fun r q => r.append q },
    kx1_BadForm := { to := fun s us ws _ h1 h2 => by { match us, ws, h1, h2 with | [_], [_], _, _ => exact .of_eq rfl }, rel := fun r q => r.append q },
    kx1_BadLine := { to := fun s us ws _ h1 h2 => by { match us, ws, h1, h2 with | [_], [_], _, _ => exact .of_eq rfl }, rel := fun r q => r.append q },
    kx1_BadName := { to := fun s us ws _ h1 h2 => by { match us, ws, h1, h2 with | [_], [_], _, _ => exact .of_eq rfl }, rel := fun r q => r.append q },
    kx1_BadNumber := { to := fun s us ws _ h1 h2 => by { match us, ws, h1, h2 with | [_], [_], _, _ => exact .of_eq rfl }, rel := fun r q => r.append q },
    kx1_BadPlan := { to := fun s us ws _ h1 h2 => by { match us, ws, h1, h2 with | [_], [_], _, _ => exact .of_eq rfl }, rel := fun r q => r.append q },
    kx1_BadQuestion := { to := fun s us ws _ h1 h2 => by { match us, ws, h1, h2 with | [_], [_], _, _ => exact .of_eq rfl }, rel := fun r q => r.append q },
    kx1_BadRewrite := { to := fun s us ws _ h1 h2 => by { match us, ws, h1, h2 with | [_], [_], _, _ => exact .of_eq rfl }, rel := fun r q => r.append q },
    kx1_BadRow := { to := fun s us ws _ h1 h2 => by { match us, ws, h1, h2 with | [_], [_], _, _ => exact .of_eq rfl }, rel := fun r q => r.append q },
    kx1_BadRule := { to := fun s us ws _ h1 h2 => by { match us, ws, h1, h2 with | [_], [_], _, _ => exact .of_eq rfl }, rel := fun r q => r.append q },
    kx1_BadStore := { to := fun s us ws _ h1 h2 => by { match us, ws, h1, h2 with | [_], [_], _, _ => exact .of_eq rfl }, rel := fun r q => r.append q },
    kx1_BadTest := { to := fun s us ws _ h1 h2 => by { match us, ws, h1, h2 with | [_], [_], _, _ => exact .of_eq rfl }, rel := fun r q => r.append q },
    kx2_BadText := { to := fun s us ws _ h1 h2 => by { match us, ws, h1, h2 with | [_], [_, _], _, _ => exact .of_eq rfl }, rel := fun r q => swapG_rel r q },
    kx1_Breaks := { to := fun s us ws _ h1 h2 => by { match us, ws, h1, h2 with | [_], [_], _, _ => exact .of_eq rfl }, rel := fun r q => r.append q },
    kx1_NoColumn := { to := fun s us ws _ h1 h2 => by { match us, ws, h1, h2 with | [_], [_], _, _ => exact .of_eq rfl }, rel := fun r q => r.append q },
    kx1_NoFit := { to := fun s us ws _ h1 h2 => by { match us, ws, h1, h2 with | [_], [_], _, _ => exact .of_eq rfl }, rel := fun r q => r.append q },
    kx1_NoPlace := { to := fun s us ws _ h1 h2 => by { match us, ws, h1, h2 with | [_], [_], _, _ => exact .of_eq rfl }, rel := fun r q => r.append q },
    kx1_NoRow := { to := fun s us ws _ h1 h2 => by { match us, ws, h1, h2 with | [_], [_], _, _ => exact .of_eq rfl }, rel := fun r q => r.append q },
    kx1_NoTable := { to := fun s us ws _ h1 h2 => by { match us, ws, h1, h2 with | [_], [_], _, _ => exact .of_eq rfl }, rel := fun r q => r.append q },
    kx2_TooMany := { to := fun s us ws _ h1 h2 => by { match us, ws, h1, h2 with | [_], [_, _], _, _ => exact .of_eq rfl }, rel := fun r q => swapG_rel r q },
    kx1_Unlike := { to := fun s us ws _ h1 h2 => by { match us, ws, h1, h2 with | [_], [_], _, _ => exact .of_eq rfl }, rel := fun r q => r.append q },
    kx1_AtRow := { to := fun s us ws _ h1 h2 => by { match us, ws, h1, h2 with | [_], [_], _, _ => exact .of_eq rfl }, rel := fun r q => r.append q },
    e_law := fun s v => .of_eq rfl }
  have e : Value.ref fa = .ref T.a_law := Option.some.inj (hfa.symm.trans T.g_law)
  injection e with e
  subst e
  exact ⟨T.d_law, [], lowSp K lawD, fun p hp => (by cases hp), fun p hp => (by cases hp), fun p hp => (by cases hp), T.e_law, fun H a ns hl o hS => law_sat hl (fun b => (o b).2 (by simp)) hS, fun base _ _ _ => dok_law (P := P) (w := w) T⟩
end JP
open PySem PySem.W PySem.Calls PyProof.Rows
set_option maxRecDepth 100000 in
set_option maxHeartbeats 0 in
theorem PySem.Challenge.cw_rowcounts_k01_errors_and_their_fields_holds : PySem.Challenge.rw_rowcounts_k01_errors_and_their_fields.Holds := by
  w_on; o_law
  refine HandSHeadRun.head_any (r := (OpenLaw.row PySem.Challenge.rw_rowcounts_k01_errors_and_their_fields)) (q := view (OpenLaw.row PySem.Challenge.rw_rowcounts_k01_errors_and_their_fields).prog [43]) (H := JP.hkY) (ob := JP.obY) (M := 12000) (loose := JP.looseY) (d := HandSHeadRun.topDef (OpenLaw.row PySem.Challenge.rw_rowcounts_k01_errors_and_their_fields).prog 43) (kwd := []) JP.obY_eq
    (by kernel_rfl) (fun s => by kernel_rfl) JP.runY (by kernel_rfl) (by kernel_rfl) (by kernel_rfl) (by rfl) (by first | assumption | decide +kernel) (by decide +kernel) ⟨rfl, rfl, rfl, rfl, rfl, by decide +kernel⟩ ?hw ?hc
  case hw => w_witness2
  case hc =>
    refine JP.walk_gt (l := PySem.Challenge.rw_rowcounts_k01_errors_and_their_fields) (n := 63) (k := 21) (x := "_law_script") rfl (by decide) (by kernel_rfl) ⟨rfl, by decide, by decide⟩ ?F
    intro w mg fa h Y G hmg0
    obtain ⟨K, c⟩ := Y
    have hmg : mg ("law" : PySem.Str) = some (.ref fa) := by
      have e : (HandSHeadRun.topDef (OpenLaw.row PySem.Challenge.rw_rowcounts_k01_errors_and_their_fields).prog 43).name = ("law" : PySem.Str) := by kernel_rfl
      rw [← e]
      exact hmg0
    obtain ⟨fd, cs, sp, h1, h2, h3, h4, h5, h6⟩ := JP.all_y (P := (PySem.Challenge.rw_rowcounts_k01_errors_and_their_fields).prog) (w := w) G hmg c
    exact ⟨K, fd, cs, sp, c.inK, h1, h2, h3, h4, h5, h6⟩
