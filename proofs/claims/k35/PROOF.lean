import PyProof.Rows.All
import Wide.All
import OpenK.AllK
import Wide.FinOn
import HandS.ForMost
import HandS.IsInst
import PyProof.ReprRoads
import PyProof.ReprText
import HandS.Wide
import HandS.Walk
import HandS.Zip
import KE.KEqSeq
import HandS.TupMul
import KE.GoesEnum
import KE.GoesMore
import KE.KEqDeep
import OpenK.KMore
import HandS.Exc
import HandS.ExcInit
import HandS.ExcField
import HandS.ExcIs
import HandS.TryOnly
import HandS.ClsMeth
import HandS.Defaults
import HandS.MakeKw
import HandS.Text
import HandS.StrMore
import HandS.Flow
import HandS.SlotsOwn
import HandS.ExcOwn
import KE.KCallOwn
import KE.KExcIs
import KE.KFmtOwn
import PyProof.InstEq
import HandS.Star
import HandS.WordsExc
import KE.IntTextLaws
import HandS.Lambda
import KE.GoesZip
import HandS.DictComp
import KE.KOpsOwn
import PyProof.ListStr
import PyProof.Rows.StrComp
import HandS.RaiseMore
import HandS.ExcValue
import HandS.MakeKwOnly
import PyProof.RowDictHeap
import KE.KDictCopyH
import HandS.DictTup
import HandS.Conv
import HandS.TupLen
import HandS.Property
import HandS.Gcd
import HandS.Style
import HandS.OwnIter
import HandS.IterVal
import PyProof.WalksMore
import HandS.NoneIn
import KE.KDictKeyed
import KE.KEqDict
import KE.KDictPairs
import KE.KDictDisplayH
import PyProof.StrOps2
import PyProof.ListMulRoad
import HandS.OwnEq
import PyProof.NeKinds
import OpenK.KMeth
import KE.KRevSl
import KE.LtSeq
import KE.LtData
import HandS.FStr
import HandS.TupSets
import KE.KEqNest
import PyProof.Rows.TupTab
import HandS.SetFor
import KE.KIsAll
import PyProof.DictUpdate
import PyProof.TupleOfSeq
import HandS.Records
import PyProof.Rows.Range3
import PyProof.Conv_bool
import KE.KNestM
import HandS.EndTab
import HandS.HeadWalk
import HandS.Head2
import HandS.Head3
import HandS.HeadHook3
import HandS.HeadHook4
import PySem.Challenge.RW_rowcounts_k35_whole_points_or_clashes
set_option Elab.async false
set_option linter.all false
set_option maxRecDepth 100000
set_option maxHeartbeats 4000000
namespace JP
open PySem PySem.Spec PyProof.Rows L2
/-- a promise that is kept wherever no guard is on the stack -/
structure GOk (P : Program) (w : World) (K : PySem.W.Frag) (mg : Str → Option Value) (base : Heap) (k : Nat) (f : Addr) (fd : FuncData) (ps : List Str) (sp : Sp) : Prop where
  arity : ∀ vs H Q E, sp vs H Q E → vs.length = ps.length
  kept : ∀ (A : Around) (outer : List Env) (s : Shared) (H : Hp) (args : Args) (us : List Value) (vs : List V) (Q : VK) (E : XK), A.guards = some [] → Room k A →
    Env0 P w K mg base A outer s H → BindsTo s fd args (ps.zip us) → Vals vs us → sp vs H Q E → codeAny (model P w) A (.call (.ref f) args) (CR CX0 outer P w H s Q E) s
section
variable {P : Program} {w : World} {K : PySem.W.Frag} {mg : Str → Option Value} {base : Heap} {j k : Nat} {f : Addr} {fd : FuncData} {ps N : List Str} {sp : Sp}
theorem GOk.mono (F : GOk P w K mg base j f fd ps sp) (h : j ≤ k) : GOk P w K mg base k f fd ps sp :=
  ⟨F.arity, fun A outer s H args us vs Q E g hr e0 hb hv hs => F.kept A outer s H args us vs Q E g (hr.mono h) e0 hb hv hs⟩
/-- a def of the text by its body; g: no guard around the body -/
theorem gok {x qual : Str} {st : Stmt} (F : Fun K x qual st f fd) (S : FnScope N ps (defScope st)) (len : ∀ vs H Q E, sp vs H Q E → vs.length = ps.length)
    (body : ∀ (cdv : Value) (A : Around) (outer : List Env) (s : Shared) (H : Hp) (vs : List V) (Q : VK) (E : XK), A.guards = some [] →
      Room k (A.deeper (envOfC qual (defScope st) s.heap.objs.size f cdv)) → sp vs H Q E →
      ∃ t, PSs (cxOf CX0 P w K mg base N qual (defScope st) f cdv A outer s H E).nox (defBody st) t ∧ t { nx := fun _ H' => Q .non H', rt := Q } (start N vs) H) :
    GOk P w K mg base (k + 1) f fd ps sp := by
  obtain ⟨oc, od, kV, doc, pm, an, cdv, ct, osl, rfl, lk, hcd⟩ := F.ex
  constructor
  · exact len
  intro A outer s H args us vs Q E g hr e0 hb r hs
  have hl := len vs H Q E hs
  have inK : K.In s.heap := e0.mod.kin.keeps fun b o q => (e0.bs b o q).1
  have nl : s.heap.NoLimit := e0.mod.nolimit.keeps fun b o q => (e0.bs b o q).1
  have kinds : ∀ y ∈ ps.zip us, (defScope st).names.lookup y.1 = some .local ∨ ((defScope st).names.lookup y.1 = some .cell ∧ ((cellsFrom (s.heap.objs.size + 1) (defScope st).names []).lookup y.1).isSome = true) := by
    intro y hy
    obtain ⟨n, v⟩ := y
    cases S.par n (List.of_mem_zip hy).1 with
    | inl q => exact Or.inl q
    | inr q => exact Or.inr (And.intro q (PySem.W.cellsFrom_some _ _ _ (Or.inl q)))
  apply codeAny_call_function hr.depth (inK _ _ lk) rfl S.co S.gen rfl (PySem.W.codeRec_of inK hcd)
  apply hb
  apply wpAny_newFunctionEnv_cells S.kind kinds
  intro env he s1 x1
  subst he
  refine And.intro (nl.keeps x1.toInCall.keep) (codeAny_func ?_)
  obtain ⟨t, ht, hq⟩ := body cdv A outer s H vs Q E g (hr.deeper _) hs
  have I : Inv (cxOf CX0 P w K mg base N qual (defScope st) f cdv A outer s H E) [] (start N vs) H s1 := inv_start S hr.hd e0 hl r x1
  apply wpAny_mono (ht.nox.run [] s1 (start N vs) H _ I hq)
  · intro fl s' q
    match fl, q with
    | .ret u, ⟨v, _, H', J, rv, z⟩ => exact ⟨v, H', J.os, J.bare, J.base, J.hok, rv, z⟩
    | .next, ⟨_, H', J, z⟩ => exact ⟨.non, H', J.os, J.bare, J.base, J.hok, rfl, z⟩
    | .brk, ⟨_, _, _, z⟩ => exact z.elim
    | .cont, ⟨_, _, _, z⟩ => exact z.elim
  · exact fun _ _ q => q
end
section
variable {X : Cx} {k : Nat} {f : Addr} {fd : FuncData} {ps : List Str} {sp : Sp} {x : Str} {p pos : Pos} {e : Expr} {es : List Expr} {t : TA} {dvs : List V} {ds : List Value} {E : XK}
theorem run_g {pins : List (Addr × Obj)} {σ : L2.St} {H : Hp} {s : Shared} {Q : VK} {us : List Value} {vs : List V} (F : GOk X.prog X.w X.K X.mg X.base k f fd ps sp) (g : X.A.guards = some []) (hr : Room k X.A)
    (hb : Binds X.K fd ps ds) (hd : Vals dvs ds) (I : Inv X pins σ H s) (r : Vals vs us) (h : sp (vs ++ dvs) H Q E) : wpAny (model X.prog X.w) X.A (call (.ref f) us) (EP X pins σ Q) X.xe s := by
  have r' := Vals.append r hd
  have n : (us ++ ds).length = ps.length := r'.length.symm.trans (F.arity _ _ _ _ h)
  apply wpAny_call
  apply codeAny_mono (F.kept X.A X.stack s H ⟨us, []⟩ (us ++ ds) (vs ++ dvs) Q E g hr I.env0 (hb s us I.kIn n) r' h)
  intro res s' q
  match res, q with
  | .ok (.ret u), q => exact I.after q
  | .ok .next, q => exact q.elim
  | .ok .brk, q => exact q.elim
  | .ok .cont, q => exact q.elim
  | .error _, q => exact False.elim q
/-- a call of such a def, by position -/
theorem pe_g (F : GOk X.prog X.w X.K X.mg X.base k f fd ps sp) (g : X.A.guards = some []) (hr : Room k X.A) (hg : Gl X x) (hm : X.mg x = some (.ref f)) (hk : PySem.W.keepIn X.K (.ref f) = true)
    (hb : Binds X.K fd ps ds) (hd : Vals dvs ds) (ha : PA X (e :: es) t) (hdb : (x == ("__debug__" : Str)) = false := by decide)
    (he : starEach (e :: es) X.env = (false, eval e X.env) :: starEach es X.env := by rfl) (hpl : (backTo pos (starEach es X.env)).any (·.1) = false := by rfl) :
    PE X (.Call (.Name x p) (e :: es) [] pos) (tCall sp dvs E t) := by
  constructor
  intro pins s σ H Q I h
  apply wpAny_Call_Name_kw
  apply ld_glob I hg hm _ hdb
  exact PySem.W.callWith_K (h₀ := X.base) I.ok.mod.kin hk (thn (ha.run pos pins s σ H _ I h) fun us s1 ⟨vs, H1, I1, r, q⟩ => ⟨I1.kIn, run_g F g hr hb hd I1 r q⟩) he hpl
end
section
variable {X : Cx}
/-- repr(x) of such data -/
def rRepr (K : PySem.W.Frag) : List V → Hp → VK → Prop := fun xs H Q => ∃ x d, xs = [x] ∧ Dp K H x d ∧ d.showable = true ∧ d.hasDict = false ∧ d.depth ≤ 60 ∧ d.shown.length ≤ sizeLine ∧ Q (.str d.shown) H
theorem call_repr (g : X.A.guards = some []) (hu : X.A.units + 64 < cLine) : CallR X (.builtin "repr") (rRepr X.K) := by
  intro pins s σ H xs us Q I r h
  obtain ⟨x, d, rfl, hd, sh, nd, dp, sz, q⟩ := h
  obtain ⟨u, rfl, rv⟩ := vals1 r
  obtain ⟨as, rd⟩ := Dp.reads I d x u hd rv
  cases hd with
  | non =>
    cases rv
    refine PySem.P.repr_of_none ⟨.str _, H, I.tok _, ⟨_, rfl⟩, ?_⟩
    rw [PyData.shown_none] at q
    exact q
  | bl b =>
    cases rv
    refine PySem.P.repr_of_bool ⟨.str _, H, I.tok _, ⟨_, rfl⟩, ?_⟩
    rw [PyData.shown_bool] at q
    exact q
  | int i =>
    obtain ⟨t, rfl⟩ := rv
    refine PySem.P.repr_of_int (by simpa [PyData.showable] using sh) ⟨.str _, H, I.tok _, ⟨_, rfl⟩, ?_⟩
    rw [PyData.shown_int] at q
    exact q
  | str y =>
    obtain ⟨t, rfl⟩ := rv
    rw [PyData.shown_str] at q sz
    exact PySem.P.repr_of_str ⟨.str _, H, I.tok _, ⟨_, rfl⟩, q⟩ sz
  | lst a b =>
    cases rv
    exact repr_of_reads' rd sh (by rw [nd]; intro z; cases z) g (by omega) (fun _ _ e => e) (fun h' u tk k => ⟨.str _, H, I.kept k, ⟨_, rfl⟩, q⟩) sz
  | tup a b =>
    cases rv
    exact repr_of_reads' rd sh (by rw [nd]; intro z; cases z) g (by omega) (fun _ _ e => e) (fun h' u tk k => ⟨.str _, H, I.kept k, ⟨_, rfl⟩, q⟩) sz
end
end JP
namespace JP
open PySem PySem.Spec PySem.W PySem.Calls PyProof.Rows L2
/-- the abstract heap at the law's call: the script at most -/
def scriptHp (K : PySem.W.Frag) (a : Addr) (o : Obj) (xs : List V) : Hp := fun b => if b = a ∧ K.lookup a = none then some (.frz o (.lst xs)) else none
section
variable {P : Program} {w : World} {K : PySem.W.Frag} {a b : Addr} {o : Obj} {xs : List V} {h : Heap}
theorem scriptHp_cases (b : Addr) : scriptHp K a o xs b = none ∨ (b = a ∧ K.lookup a = none ∧ scriptHp K a o xs b = some (.frz o (.lst xs))) := by
  unfold scriptHp
  by_cases c : b = a ∧ K.lookup a = none
  · right
    exact ⟨c.1, c.2, if_pos c⟩
  · left
    exact if_neg c
theorem scriptHp_some {u : HO} (e : scriptHp K a o xs b = some u) : b = a ∧ K.lookup a = none ∧ u = .frz o (.lst xs) := by
  rcases scriptHp_cases (K := K) (a := a) (o := o) (xs := xs) b with n | ⟨h1, h2, h3⟩
  · rw [n] at e
    cases e
  · rw [h3] at e
    exact ⟨h1, h2, (Option.some.inj e).symm⟩
theorem scriptHp_only : Only (scriptHp K a o xs) := fun b => by
  rcases scriptHp_cases (K := K) (a := a) (o := o) (xs := xs) b with n | ⟨_, _, e⟩
  · exact .inl n
  · exact .inr ⟨o, xs, e⟩
end
end JP
namespace JP
open PySem PySem.Spec PyProof.Rows L2
def Pen (H : Hp) (p c : Addr) (m : Nat) : Prop := ∃ (ns : List Int) (n g : Int), H p = some (.lst [.ref c, .int n, .int g]) ∧ H c = some (.lst (ns.map V.int)) ∧ c ≠ p ∧ ns.length ≤ 63 ∧ 0 ≤ n ∧ n ≤ m ∧ 0 ≤ g
/-- all but the pen is as it was -/
def But (p : Addr) (H H' : Hp) : Prop := ∀ b o, b ≠ p → H b = some o → H' b = some o
theorem fmod_lo (x : Int) {y : Int} (h : 1 ≤ y) : 0 ≤ x.fmod y := by
  rw [Int.fmod_eq_emod_of_nonneg x (by omega)]
  exact Int.emod_nonneg x (by omega)
theorem fmod_lt (x : Int) {y : Int} (h : 1 ≤ y) : x.fmod y < y := by
  rw [Int.fmod_eq_emod_of_nonneg x (by omega)]
  exact Int.emod_lt_of_pos x (by omega)
theorem fmod_32 {x C : Int} (h1 : 1 ≤ C) (h2 : C ≤ 2 ^ 32) : x.fmod C < 2 ^ 32 := by
  have := fmod_lt x h1
  omega
theorem fmod_64 {x C : Int} (h1 : 1 ≤ C) (h2 : C ≤ 2 ^ 32) : -(2 ^ 64) < x.fmod C ∧ x.fmod C < 2 ^ 64 := by
  have := fmod_lt x h1
  have := fmod_lo x h1
  omega
theorem mix_bound {x C D E n : Int} {m : Nat} (h1 : 1 ≤ C) (h2 : C ≤ 2 ^ 32) (h3 : 0 ≤ D) (h4 : D ≤ 2 ^ 20) (h5 : 0 ≤ E) (h6 : E ≤ 2 ^ 20) (n0 : 0 ≤ n) (nm : n ≤ m) (hm : m ≤ 2 ^ 20) : (x.fmod C + D * n + E).natAbs < 2 ^ 64 := by
  have a := fmod_lo x h1
  have b := fmod_lt x h1
  have c : D * n ≤ 2 ^ 20 * 2 ^ 20 := Int.mul_le_mul h4 (by omega) n0 (by decide)
  have d : 0 ≤ D * n := Int.mul_nonneg h3 n0
  omega
theorem mix_bound2 {x C D E n : Int} {m : Nat} (h1 : 0 ≤ C) (h2 : C ≤ 2 ^ 20) (h3 : 0 ≤ D) (h4 : D ≤ 2 ^ 20) (h5 : 0 ≤ E) (h6 : E ≤ 2 ^ 20) (x0 : 0 ≤ x) (x1 : x < 2 ^ 32) (n0 : 0 ≤ n) (nm : n ≤ m) (hm : m ≤ 2 ^ 20) : (x * (2 * n + C) + D * n * n + E).natAbs < 2 ^ 64 := by
  have c : D * n ≤ 2 ^ 20 * 2 ^ 20 := Int.mul_le_mul h4 (by omega) n0 (by decide)
  have d : 0 ≤ D * n := Int.mul_nonneg h3 n0
  have c2 : D * n * n ≤ (2 ^ 20 * 2 ^ 20) * 2 ^ 20 := Int.mul_le_mul c (by omega) n0 (by decide)
  have d2 : 0 ≤ D * n * n := Int.mul_nonneg d n0
  have c3 : x * (2 * n + C) ≤ 2 ^ 32 * 2 ^ 22 := Int.mul_le_mul (by omega) (by omega) (by omega) (by decide)
  have d3 : 0 ≤ x * (2 * n + C) := Int.mul_nonneg x0 (by omega)
  omega
theorem but_upd {H : Hp} (p : Addr) (o : HO) : But p H (upd H p o) := fun b u n e => by
  rw [upd_ne n]
  exact e
theorem But.trans {p : Addr} {H H1 H2 : Hp} (a : But p H H1) (b : But p H1 H2) : But p H H2 := fun c o n e => b c o n (a c o n e)
theorem But.of_same {p : Addr} {H H1 : Hp} (a : Same H H1) : But p H H1 := fun c o _ e => a c o e
theorem but_new {H : Hp} {p a : Addr} {o : HO} (h : H a = none) : But p H (upd H a o) := fun b u _ e => by
  rw [upd_ne (ne_of_none e h)]
  exact e
theorem pen_set {H : Hp} {p c : Addr} {ns : List Int} {n g n' g' : Int} {m : Nat} (hp : H p = some (.lst [.ref c, .int n, .int g])) (hc : H c = some (.lst (ns.map V.int))) (ncp : c ≠ p) (hl : ns.length ≤ 63) (h0 : 0 ≤ n') (h1 : n' ≤ m) (h2 : 0 ≤ g') :
    Pen (upd H p (.lst [.ref c, .int n', .int g'])) p c m :=
  ⟨ns, n', g', upd_same, by
    rw [upd_ne ncp]
    exact hc, ncp, hl, h0, h1, h2⟩
theorem dp_ints {K : PySem.W.Frag} {H : Hp} : ∀ ns : List Int, DpAll K H (ns.map V.int) (ns.map PyData.int)
  | [] => .nil
  | n :: ns => .cons (.int n) (dp_ints ns)
theorem Pen.mono {H : Hp} {p c : Addr} {m n : Nat} (h : Pen H p c m) (k : m ≤ n) : Pen H p c n := by
  obtain ⟨ns, x, g, h1, h2, h3, h4, h5, h6, h7⟩ := h
  exact ⟨ns, x, g, h1, h2, h3, h4, h5, by omega, h7⟩
theorem Pen.same {H H' : Hp} {p c : Addr} {m : Nat} (h : Pen H p c m) (k : Same H H') : Pen H' p c m := by
  obtain ⟨ns, x, g, h1, h2, h3⟩ := h
  exact ⟨ns, x, g, k _ _ h1, k _ _ h2, h3⟩
theorem Pen.at_ {H : Hp} {p c : Addr} {m : Nat} (h : Pen H p c m) : ∃ xs, H p = some (.lst xs) := by
  obtain ⟨ns, x, g, h1, _⟩ := h
  exact ⟨_, h1⟩
theorem same_new {H : Hp} {a : Addr} {o : HO} (h : H a = none) : Same H (upd H a o) := fun b u e => by
  rw [upd_ne (ne_of_none e h)]
  exact e
theorem same_seqT {K : PySem.W.Frag} {a : Addr} {H H' : Hp} {xs : List V} (e : Same H H') (h : SqT K H a xs) : SqT K H' a xs := by
  rcases h with (h | ⟨o, h⟩) | h
  · exact .inl (.inl (e _ _ h))
  · exact .inl (.inr ⟨o, e _ _ h⟩)
  · exact .inr h
theorem But.refl (p : Addr) (H : Hp) : But p H H := fun _ _ _ e => e
theorem cut_all (xs : List V) {n : Nat} (h : xs.length ≤ n) : cutV xs none (some (n : Int)) = xs := by
  unfold cutV
  rw [show HT.sIx xs.length xs.length (some (n : Int)) = min n xs.length from HT.sIx_nat xs.length xs.length n, HT.sIx_none, Nat.min_eq_right h]
  simp
end JP
namespace JP
open PySem PySem.Spec PyProof.Rows L2
inductive Ki where
  | non | bl | int | str | lst | tup | dct
  deriving DecidableEq
def Ki.name : Ki → String
  | .non => "NoneType" | .bl => "bool" | .int => "int" | .str => "str" | .lst => "list" | .tup => "tuple" | .dct => "dict"
/-- x is of kind k in H -/
def IsKi (H : Hp) (x : V) : Ki → Prop
  | .non => x = .non
  | .bl => ∃ b, x = .bl b
  | .int => ∃ i, x = .int i
  | .str => ∃ s, x = .str s
  | .lst => ∃ a xs, x = .ref a ∧ H a = some (.lst xs)
  | .tup => ∃ a xs, x = .ref a ∧ H a = some (.tup xs)
  | .dct => ∃ a kvs, x = .ref a ∧ H a = some (.dK kvs)
theorem IsKi.ty {K : PySem.W.Frag} {H : Hp} {x : V} : ∀ {k : Ki}, IsKi H x k → TyX K H x (.type k.name)
  | .non, h => by
    cases h
    exact .base .non
  | .bl, h => by
    obtain ⟨b, rfl⟩ := h
    exact .base (.bl b)
  | .int, h => by
    obtain ⟨b, rfl⟩ := h
    exact .base (.int b)
  | .str, h => by
    obtain ⟨b, rfl⟩ := h
    exact .base (.str b)
  | .lst, h => by
    obtain ⟨a, xs, rfl, e⟩ := h
    exact .base (.lst e)
  | .tup, h => by
    obtain ⟨a, xs, rfl, e⟩ := h
    exact .base (.tup e)
  | .dct, h => by
    obtain ⟨a, xs, rfl, e⟩ := h
    exact .base (.dK e)
def Ki.below : Ki → Ki → Bool
  | .bl, .int => true
  | a, b => decide (a = b)
theorem ki_kit {K : PySem.W.Frag} : ∀ a b : Ki, PySem.W.kitOne K (.type a.name) (.type b.name) = some (a.below b) := by
  intro a b
  apply kit_ty
  cases a <;> cases b <;> decide +kernel
theorem IsKi.same {H H' : Hp} (s : Same H H') {x : V} : ∀ {k : Ki}, IsKi H x k → IsKi H' x k
  | .non, h => h
  | .bl, h => h
  | .int, h => h
  | .str, h => h
  | .lst, ⟨a, xs, e, h⟩ => ⟨a, xs, e, s _ _ h⟩
  | .tup, ⟨a, xs, e, h⟩ => ⟨a, xs, e, s _ _ h⟩
  | .dct, ⟨a, xs, e, h⟩ => ⟨a, xs, e, s _ _ h⟩
end JP
namespace JP
open PySem PySem.Spec PyProof.Rows L2
open AutoSeq1 (wpAny_loadPart')
section
variable {X : Cx}
/-- t + u, any tuples -/
def rCat2 : R2 := fun x y H Q => ∃ a b xs ys, x = .ref a ∧ y = .ref b ∧ H a = some (.tup xs) ∧ H b = some (.tup ys) ∧ xs.length + ys.length ≤ sizeLine ∧
  ∀ p H', Same H H' → H' p = some (.tup (xs ++ ys)) → Q (.ref p) H'
theorem op_cat2 : OpR X (binaryOp .Add) rCat2 := by
  intro pins s σ H x y v u Q I rx ry h
  obtain ⟨a, b, xs, ys, rfl, rfl, ha, hb, hz, q⟩ := h
  cases rx
  cases ry
  by_cases hx : xs = []
  · subst hx
    obtain ⟨its, r1, p1, _⟩ := I.tuple (SqT.of ha)
    obtain ⟨its2, r2, p2, _⟩ := I.tuple (SqT.of hb)
    cases r1
    obtain ⟨⟨cls, dd, data, sl⟩, ho, hc, n, hd⟩ := id p1
    obtain ⟨⟨cls2, dd2, data2, sl2⟩, ho2, hc2, n2, hd2⟩ := id p2
    simp only at hc hd hc2 hd2
    subst hc hd hc2 hd2
    exact concat_meets ⟨_, ho, rfl⟩ ⟨_, ho2, rfl⟩ noFill_tuple_add seq_tuple_add PySem.F.slot_tuple_add PySem.F.entry_tuple_add (PySem.F.args_tuple_add_2 _ _)
      (tuple_addW0 a b _ _ n n2 dd dd2 sl sl2 (by rfl)) ⟨ho, ho2, ⟨.ref b, H, I.tok _, rfl, q b H (.refl H) (by rw [List.nil_append]; exact hb)⟩⟩
  · refine op_catT pins s σ H (.ref a) (.ref b) _ _ Q I rfl rfl ⟨a, b, xs, ys, rfl, rfl, .of ha, .of hb, hx, hz, fun e => ?_, fun _ p hp => ?_⟩
    · subst e
      exact q a H (.refl H) (by rw [List.append_nil]; exact ha)
    · exact q p _ (same_new hp) upd_same
/-- t[lo:hi] of any tuple: its items, in a new tuple or (the whole) in the same one -/
def rSl2 : V → Option Int → Option Int → Hp → VK → Prop := fun x lo hi H Q => ∃ a xs, x = .ref a ∧ H a = some (.tup xs) ∧ ∀ p H', Same H H' → H' p = some (.tup (cutV xs lo hi)) → Q (.ref p) H'
theorem getItem_tuple_whole {prog : Program} {w : World} {A : Around} {E : Value → Shared → Prop} {s : Shared} {t sl : Addr} {items : Array Value} {vl vu : Value} {lo hi : Option Int} {Q : Value → Shared → Prop} (ht : IsTup s.heap t items) (hs : s.heap.IsSliceOf sl vl vu .none) (pl : IsPart vl lo) (pu : IsPart vu hi)
    (hw : HT.sIx items.size 0 lo = 0 ∧ HT.sIx items.size items.size hi = items.size)
    (h : Q (.ref t) s) : wpAny (model prog w) A (getItem (.ref t) (.ref sl)) Q E s := by
  obtain ⟨⟨cls, dd, data, slo⟩, ho, hc, n, hd⟩ := id ht
  simp only at hc hd
  subst hc hd
  obtain ⟨os, hos, hcs, hds⟩ := id hs
  have hTs : s.TypeIs (.ref sl) "slice" := ⟨os, hos, hcs⟩
  unfold getItem
  try with_reducible refine wpAny_holding ?_
  first | refine wpAny_bind (wpAny_pure ?_) | skip
  refine wpAny_bind (wpAny_sequenceKey ht.typeIs (by decide) ?_)
  refine wpAny_bind (wpAny_callSpecial?_slot (name := Str.ofString "__getitem__") ht.typeIs PyProof.Rows.slot_tuple_getitem
    (wpAny_call_entry PyProof.Rows.slot_tuple_getitem ht.typeIs entry_tuple_getitem ?_ (args_tuple_getitem _ _)))
  show wpAny _ _ (Builtin.Tuple.tupleItemsOf (.ref t) >>= _) _ _ s
  refine wpAny_bind (tupleItemsOf_ ht ?_)
  refine wpAny_bind (wpAny_typeOf hTs ?_)
  rw [if_pos (by decide)]
  refine wpAny_bind (HT.sliceApplied_gen hs pl pu ?_)
  have hyes : (((HT.sIx items.size 0 lo : Nat) : Int) == 0 && (1 : Int) == 1 && (HT.sIx items.size items.size hi - HT.sIx items.size 0 lo) == items.size) = true := by
    rw [hw.1, hw.2]
    simp
  show wpAny _ _ (if (((HT.sIx items.size 0 lo : Nat) : Int) == 0 && (1 : Int) == 1 && (HT.sIx items.size items.size hi - HT.sIx items.size 0 lo) == items.size) = true then _ else _) _ _ s
  rw [if_pos hyes]
  wp_walk using wpAny_loadPart' ho
  exact ⟨_, rfl, wpAny_pure h⟩
theorem sl_tup2 : SlR X rSl2 := by
  intro pins s σ H x v vl vu lo hi sl Q I rx hs pl pu h
  obtain ⟨a, xs, rfl, hx, q⟩ := h
  by_cases hw : HT.sIx xs.length 0 lo = 0 ∧ HT.sIx xs.length xs.length hi = xs.length
  · cases rx
    obtain ⟨its, r, ht, hz⟩ := I.tuple (SqT.of hx)
    have hlen : its.toArray.size = xs.length := by rw [List.size_toArray]; exact r.length.symm
    refine ⟨"tuple", _, PyProof.Rows.slot_tuple_getitem.lookup, ht.typeIs, ?_⟩
    refine getItem_tuple_whole ht hs pl pu (by rw [hlen]; exact hw) ⟨.ref a, H, I, rfl, q a H (.refl H) ?_⟩
    have e : cutV xs lo hi = xs := by
      unfold cutV
      rw [hw.1, hw.2]
      simp
    rw [e]
    exact hx
  · exact sl_tup pins s σ H (.ref a) v vl vu lo hi sl Q I rx hs pl pu ⟨a, xs, rfl, .of hx, hw, fun p hp => q p _ (same_new hp) upd_same⟩
/-- t * k, k from 1 on -/
def rRep2 : R2 := fun x y H Q => ∃ l k xs, x = .ref l ∧ y = .int k ∧ H l = some (.tup xs) ∧ xs ≠ [] ∧ 1 ≤ k ∧ k ≤ 1000 ∧ xs.length ≤ 1000 ∧ ∀ p H', Same H H' → H' p = some (.tup (List.replicate k.toNat xs).flatten) → Q (.ref p) H'
theorem tuple_mulW1 (l : Addr) (items : Array Value) (n : Nat) (dd : Option Addr) (sl : Array (Option Value)) (u : Tok) :
    Meets (Builtin.«tuple.__mul__» ⟨[.ref l, .int 1 u], []⟩) (fun _ R s => s.heap.get? l = some { cls := .type "tuple", dict := dd, data := .seq items n, slots := sl } ∧
      R (.ok (.ret (Value.ref l))) { s with heap := s.heap, toks := s.toks }) :=
  .of_wp fun prog w A R s h => by
    obtain ⟨hp, g, d, tk, os⟩ := s
    obtain ⟨hl, h⟩ := h
    have f1 := AutoSeq1.idx_int
    have c1 : (items.isEmpty || (1 : Int) == 1) = true := by simp
    have c0 : (decide ((1 : Int) < -(2 ^ 63)) || decide ((1 : Int) ≥ 2 ^ 63)) = false := by decide
    wp_walk using wpAny_loadPart' hl
    repeat (first
      | (refine wpAny_ite_false (decide_eq_false (by rw [c0]; exact Bool.false_ne_true)) ?_; wp_walk using wpAny_loadPart' hl)
      | (refine wpAny_ite_true (decide_eq_true c1) ?_; wp_walk using wpAny_loadPart' hl))
    all_goals first | exact ⟨_, rfl, h⟩ | skip
theorem op_rep2 : OpR X (binaryOp .Mult) rRep2 := by
  intro pins s σ H x y v u Q I rx ry h
  obtain ⟨l, k, xs, rfl, rfl, hT, hne, h1, h2, hz, q⟩ := h
  by_cases hk : k = 1
  · subst hk
    cases rx
    obtain ⟨t, rfl⟩ := ry
    obtain ⟨its, r, ⟨⟨cls, dd, data, sl⟩, ho, hc, n, hd⟩, hs⟩ := I.tuple (SqT.of hT)
    simp only at hc hd
    subst hc hd
    refine wpAny_binaryOp_repeat_ref (T := "tuple") (U := "int") (by decide) ⟨_, ho, rfl⟩ (fun s' => typeIs_int s' 1 t) noFill_tuple_mul F.fills_int_mul F.slot_int_rmul repeat_tuple F.slot_int_index.lookup
      (call_meets F.slot_int_rmul (typeIs_int s 1 t) F.entry_int_rmul (F.args_int_rmul_2 _ _) (int_rmul_tuple 1 t l its.toArray n dd sl)
        ⟨ho, rfl, ⟨_, ho, rfl⟩, call_meets F.slot_tuple_mul ⟨_, ho, rfl⟩ F.entry_tuple_mul (F.args_tuple_mul_2 _ _) (tuple_mulW1 l its.toArray n dd sl t) ⟨ho, ?_⟩⟩)
    refine ⟨.ref l, H, I.tok _, rfl, q l H (.refl H) ?_⟩
    simpa using hT
  · exact op_repT pins s σ H (.ref l) (.int k) v u Q I rx ry ⟨l, k, xs, rfl, rfl, .of hT, hne, by omega, h2, hz, fun p hp => q p _ (same_new hp) upd_same⟩
end
theorem enumT_end {prog : Program} {w : World} {A : Around} {E : Value → Shared → Prop} {s : Shared} {e it l : Addr} {i : Int} {n : Nat} {items : Array Value} {old : Value} {Q : Option Value → Shared → Prop} (hh : A.handled = none)
    (he : IsEnum s.heap e it i old) (hit : s.heap.IsTupleIter it l n) (hl : s.heap.IsTuple l items) (hx : items[n]? = none)
    (hQ : ∀ h', Heap.ExtBut it s.heap h' → Q none { s with heap := h' }) : wpAny (model prog w) A (pyNext (.ref e)) Q E s := by
  have hT : s.TypeIs (.ref e) "enumerate" := ⟨_, he, rfl⟩
  unfold pyNext
  refine wpAny_bind (wpAny_attempt (wpAny_callSpecial?_slot (name := Str.ofString "__next__") hT F.slot_enumerate_next
    (wpAny_call_entry F.slot_enumerate_next hT F.entry_enumerate_next ?_ (F.args_enumerate_next_1 _))))
  show wpAny _ _ (field (.ref e) 2 >>= _) _ _ _
  refine wpAny_bind (wpAny_field he rfl (x := .ref it) rfl ?_)
  refine wpAny_bind (wpAny_nextOf_tuple_end hh hit hl hx fun h' x he' hx' => ?_)
  obtain ⟨o, ho, hc⟩ := hx'
  refine wpAny_bind (wpAny_isInstance (T := "StopIteration") (b := true) ⟨o, ho, hc⟩ isSubtype_stop ?_)
  exact wpAny_pure (hQ _ he')
/-- the tuple at a as it stands at each turn, each item in a new pair -/
def IteT (K : PySem.W.Frag) (a : Addr) : It :=
  ⟨fun i H => ∃ (xs : List V) (x : V), SqT K H a xs ∧ xs[i]? = some x, fun i H v H' => ∃ T x, v = .ref T ∧ H T = none ∧ H' = upd H T (.tup [.int (i : Nat), x]) ∧ ∀ xs, SqT K H a xs → xs[i]? = some x, fun i H => ∃ xs : List V, SqT K H a xs ∧ xs.length ≤ i⟩
set_option maxHeartbeats 1000000 in
theorem meets_enumerate_newT {l : Addr} {items : Array Value} :
    Meets (Builtin.«enumerate.__new__» ⟨[.type "enumerate", .ref l], []⟩) (fun _ R s => s.heap.IsTuple l items ∧
      R (.ok (.ret (.ref (s.heap.push { cls := .type "tuple_iterator", data := .fields #[.ref l, .int 0 0] }).objs.size))) { s with heap := (s.heap.push { cls := .type "tuple_iterator", data := .fields #[.ref l, .int 0 0] }).push { cls := .type "enumerate", data := .fields #[.none, .bool false, .ref s.heap.objs.size, rawInt 0, .none, .none] } }) :=
  .of_wp fun prog w A R s h => by
    obtain ⟨hp, g, d, tk, os⟩ := s; obtain ⟨hL, h⟩ := h
    have hsub := sub_enumerate
    replace hL : Heap.IsTuple (Shared.heap ⟨hp, g, d, tk, os⟩) l items := hL
    wp_walk using wpAny_pyIter_tuple hL
    refine wpAny_stack_any fun st => wpAny_pure ?_
    split
    · rename_i c _ _ _ _ _
      cases (c == Value.type "enumerate")
      · wp_walk using wpAny_pyIter_tuple hL
        exact ⟨_, rfl, h⟩
      · wp_walk using wpAny_pyIter_tuple hL
        exact ⟨_, rfl, h⟩
    · wp_walk using wpAny_pyIter_tuple hL
      exact ⟨_, rfl, h⟩
theorem call_enumerate_tup {prog : Program} {w : World} {A : Around} {E : Value → Shared → Prop} {s : Shared} {l : Addr} {items : Array Value} {Q : Value → Shared → Prop} (hL : s.heap.IsTuple l items)
    (h : ∀ h', IsEnum h' (s.heap.objs.size + 1) s.heap.objs.size 0 .none → h'.IsTupleIter s.heap.objs.size l 0 → h'.objs.size = s.heap.objs.size + 2 →
      (∀ b o, s.heap.get? b = some o → h'.get? b = some o) → Q (.ref (s.heap.objs.size + 1)) { s with heap := h' }) :
    wpAny (model prog w) A (call (.type "enumerate") [.ref l]) Q E s := by
  refine callType_new F.called_enumerate (by decide) (F.typeCall_enumerate_1 _) (F.newCall_enumerate_1 _) (fun obj => F.args_object_init_2 obj _) F.entry_enumerate_new
    meets_enumerate_newT ⟨hL, ?_⟩
  have hz : (s.heap.push { cls := .type "tuple_iterator", data := .fields #[.ref l, .int 0 0] }).objs.size = s.heap.objs.size + 1 := Heap.size_push ..
  show _ ∧ _
  rw [hz]
  have he : IsEnum ((s.heap.push { cls := .type "tuple_iterator", data := .fields #[.ref l, .int 0 0] }).push
      { cls := .type "enumerate", data := .fields #[.none, .bool false, .ref s.heap.objs.size, rawInt 0, .none, .none] }) (s.heap.objs.size + 1) s.heap.objs.size 0 .none := by
    have := Heap.get?_push_size (s.heap.push { cls := .type "tuple_iterator", data := .fields #[.ref l, .int 0 0] })
      (o := { cls := .type "enumerate", data := .fields #[.none, .bool false, .ref s.heap.objs.size, rawInt 0, .none, .none] }) rfl
    rw [hz] at this; exact this
  refine ⟨⟨_, he, rfl⟩, h _ he ⟨_, Heap.get?_push_of_some _ (Heap.get?_push_size _ rfl), rfl, rfl⟩ (by rw [Heap.size_push, hz]) fun b o x => Heap.get?_push_of_some _ (Heap.get?_push_of_some _ x)⟩
theorem turn_enumT {P : Program} {w : World} {K : PySem.W.Frag} {elts : List Expr} {kk : Nat} {tpos : Pos} (a e it : Addr) (hai : a ≠ it) :
    Turn P w K (.Tuple elts kk tpos) (IteT K a) [e, it] e (fun i h => (∃ old, IsEnum h e it ((i : Nat) : Int) old) ∧ h.IsTupleIter it a i ∧ e ≠ it ∧ e ≠ a) where
  mem := by simp
  obj := fun i h st b hb => by
    obtain ⟨⟨old, he⟩, ⟨o, ho, hc, hd⟩, _⟩ := st
    have e' : b = e ∨ b = it := by simpa using hb
    rcases e' with z | z
    · rw [z]; exact ⟨_, he, fun v q => nomatch q⟩
    · rw [z]; exact ⟨o, ho, fun v q => by rw [hd] at q; cases q⟩
  keep := fun i h h' st k => let ⟨⟨old, he⟩, hi, hne⟩ := st; ⟨⟨old, k e (by simp) _ he⟩, hi.at fun o q => k it (by simp) o q, hne⟩
  item := by
    intro X hP hw hK hc i pins s σ H E I hf st hg
    subst hP hw hK
    obtain ⟨⟨old, he⟩, hit, hne, hnea⟩ := st
    obtain ⟨xs, x, hq, hx⟩ := hg
    obtain ⟨its, rv, p, hz⟩ := I.tuple hq
    obtain ⟨u, hu, ru⟩ := rv.get hx
    have hi : i < its.toArray.size := by
      rw [List.size_toArray]
      exact (List.getElem?_eq_some_iff.mp hu).1
    have hel : e < s.heap.objs.size := Heap.lt_size he
    have hil : it < s.heap.objs.size := by obtain ⟨_, q, _⟩ := hit; exact Heap.lt_size q
    refine wpAny_pyNext_enum_itemD (Draws.tuple (A := X.A.in1) (show X.A.in1.handled = none from I.ok.hd hc) it a hai its.toArray) he ⟨hit, p⟩ hi hne (by simp [hne, hnea]) fun u' h' tk hP ho hit' hT hsz hk => ?_
    have eu : u' = u := by
      have : its.toArray[i]? = some u := by simpa using hu
      rw [this] at hP
      exact (Option.some.inj hP).symm
    subst eu
    refine ⟨_, rfl, wpAny_letOwnedTupleGo_enum (s := { s with heap := h', toks := tk + 1 }) ho fun h'' he' sb => ?_⟩
    have hT2 : h''.get? s.heap.objs.size = some { cls := .type "tuple", data := .seq #[.int i tk, u'] } := (sb.2 _ (Nat.ne_of_gt hel)).trans hT
    have new : ObjOk X.prog X.w (upd H s.heap.objs.size (.tup [.int (i : Nat), x])) h'' s.heap.objs.size (.tup [.int (i : Nat), x]) :=
      ⟨by show 2 ≤ sizeLine; decide, [.int i tk, u'], .cons ⟨_, rfl⟩ (.cons ru .nil), ⟨_, hT2, rfl, _, rfl⟩⟩
    have I1 : Inv X pins σ (upd H s.heap.objs.size (.tup [.int (i : Nat), x])) { s with heap := h'', toks := tk + 1 } :=
      I.turnedNew (ch := [e, it]) (fun b ob hb q => (sb.2 b (fun z => hb (by simp [z]))).trans (hk b ob (fun z => hb (by simp [z])) (fun z => hb (by simp [z])) q)) hf (Nat.le_refl _) new
    refine ⟨.ref s.heap.objs.size, _, I1, rfl, ⟨_, x, rfl, I.hok.fresh (Nat.le_refl _), rfl, fun ys hy => by rw [I.tuple_inj hy hq]; exact hx⟩, ⟨⟨u', ?_⟩, hit'.1.at fun o q => (sb.2 it (Ne.symm hne)).trans q, hne, hnea⟩, fun b hb => ?_⟩
    · have e1 : ((i + 1 : Nat) : Int) = (i : Int) + 1 := by omega
      rw [e1]; exact he'
    · have hb' : b < s.heap.objs.size := by
        have e' : b = e ∨ b = it := by simpa using hb
        rcases e' with z | z
        · rw [z]; exact hel
        · rw [z]; exact hil
      rw [upd_ne (Nat.ne_of_lt hb')]
      exact (hf b hb).1
  done := by
    intro X hP hw hK hc i pins s σ H E I hf st hg
    subst hP hw hK
    obtain ⟨⟨old, he⟩, hit, hne, hnea⟩ := st
    obtain ⟨xs, hq, hx⟩ := hg
    obtain ⟨its, rv, p, hz⟩ := I.tuple hq
    obtain ⟨f0, f1, f2, f3, f4, f5⟩ := hf it (by simp)
    have hl := rv.length
    have hend : its.toArray[i]? = none := by simp; omega
    refine enumT_end (I.ok.hd hc) he hit p hend fun h' eb => ⟨rfl, I.turned (t' := s.toks) (fun b o hb q => eb b o hb q) f0 f1 f3 f4 f5⟩
  self := fun A i s Q E st h => let ⟨⟨_, he⟩, _⟩ := st; wpAny_pyIter_enum he h
def iEnumT (K : PySem.W.Frag) (ta : TA) : TI := fun σ H R => ta σ H fun vs H1 => ∃ a xs, vs = [.ref a] ∧ SqT K H1 a xs ∧ R (IteT K a) H1
theorem pi_enumT {X : Cx} {e : Expr} {ta : TA} {p pos tpos : Pos} {elts : List Expr} {kk : Nat} (hg : Gl X "enumerate") (hm : X.mg "enumerate" = none) (ha : PA X [e] ta) (hs : starEach [e] X.env = [(false, eval e X.env)] := by rfl) :
    PI X (.Tuple elts kk tpos) (.Call (.Name "enumerate" p) [e] [] pos) (iEnumT X.K ta) := by
  refine ⟨fun pins s σ H R I h => ?_⟩
  refine Call_ (ld_blt I hg hm boot_enumerate (PyProof.Rows.callWith_type1 (thn (ha.run pos pins s σ H _ I h) fun us s1 ⟨vs, H1, I1, r1, q1⟩ => ?_) hs rfl))
  obtain ⟨a, xs, ex, hq, q⟩ := q1
  subst ex
  cases r1 with
  | cons r rr =>
    cases rr
    cases r
    obtain ⟨its, rv, p', hz⟩ := I1.tuple hq
    have la : a < s1.heap.objs.size := p'.lt
    refine call_enumerate_tup p' fun h' he hit hsz hk => wpAny_pyIter_enum he ?_
    have I2 : Inv X pins σ H1 { s1 with heap := h' } := I1.kept (t' := s1.toks) hk
    refine ⟨s1.heap.objs.size + 1, [s1.heap.objs.size + 1, s1.heap.objs.size], _, _, H1, rfl, I2, turn_enumT a (s1.heap.objs.size + 1) s1.heap.objs.size (Nat.ne_of_lt la), ⟨⟨.none, he⟩, hit, Nat.succ_ne_self _, fun z => Nat.lt_irrefl a (Nat.lt_trans la (z ▸ Nat.lt_succ_self _))⟩, fun b hb => ?_, q⟩
    have e' : b = s1.heap.objs.size + 1 ∨ b = s1.heap.objs.size := by simpa using hb
    have hle : s1.heap.objs.size ≤ b := by
      rcases e' with z | z
      · rw [z]; exact Nat.le_add_right _ _
      · rw [z]; exact Nat.le_refl _
    exact I1.fpOk hle (I1.hok.fresh hle)
end JP
namespace JP
open PySem PySem.Spec PyProof.Rows L2
/-- the list of a comprehension at D: what is made so far, and P of the turn, of it, of the heap -/
def AccP (D : Addr) (P : Nat → List V → Hp → Prop) (i : Nat) (H : Hp) : Prop := ∃ acc, H D = some (.lst acc) ∧ acc.length ≤ i ∧ P i acc H
theorem AccP.zero {D : Addr} {P : Nat → List V → Hp → Prop} {H : Hp} (h : P 0 [] (upd H D (.lst []))) : AccP D P 0 (upd H D (.lst [])) := ⟨[], upd_same, Nat.le_refl _, h⟩
theorem AccP.put {D : Addr} {P : Nat → List V → Hp → Prop} {H : Hp} {i : Nat} {acc : List V} {y : V} (hn : i < sizeLine) (e : H D = some (.lst acc)) (l : acc.length ≤ i) (p : P (i + 1) (acc ++ [y]) (upd H D (.lst (acc ++ [y])))) :
    ∃ acc, H D = some (.lst acc) ∧ acc.length < sizeLine ∧ AccP D P (i + 1) (upd H D (.lst (acc ++ [y]))) :=
  ⟨acc, e, by omega, acc ++ [y], upd_same, by simp; omega, p⟩
theorem small_size {n : Nat} (h : n ≤ 1000) : n < sizeLine := by
  rw [sizeLine_eq]
  omega
theorem ixL {X : Cx} {K : PySem.W.Frag} (h : X.K = K) : IxR X (rIxL K) := h ▸ ix_list
theorem But.tup {p c a : Addr} {m : Nat} {H H' : Hp} {xs : List V} (b : But p H H') (hP : Pen H p c m) (h : H a = some (.tup xs)) : H' a = some (.tup xs) := by
  obtain ⟨ys, e⟩ := hP.at_
  exact b a _ (ne_of h e (by intro z; cases z)) h
end JP
namespace JP
open PySem PySem.Spec PyProof.Rows L2
section
variable {X : Cx} {CX : CXT} {k : Nat} {f : Addr} {fd : FuncData} {ps ks : List Str} {sp : Sp} {E : XK} {x : Str} {p pos : Pos} {kws : List Keyword} {tk : TA} {g : List Value → List Value → List Value} {gV : List V → List V → List V}
def tCallK0 (sp : Sp) (gV : List V → List V → List V) (E : XK) (tk : TA) : TE := fun σ H Q => tk σ H fun zs H2 => sp (gV [] zs) H2 Q E
/-- f(k = v, ..), nothing by position -/
theorem pe_callK0 (F : FnOk X.prog X.w X.K X.mg X.base CX k f fd ps sp) (hr : Room k X.A) (hg : Gl X x) (hm : X.mg x = some (.ref f)) (hk : PySem.W.keepIn X.K (.ref f) = true) (hb : KBinds X.K fd ps ks g gV) (hx : Passes CX X E)
    (hkw : PK X kws tk) (hall : (backToKw pos (keywordEach kws X.env)).all (·.1.isSome) = true := by rfl) (hks : (backToKw pos (keywordEach kws X.env)).filterMap (·.1) = ks := by rfl)
    (hdb : (x == ("__debug__" : Str)) = false := by decide)
    (hpl : ((backTo pos (starEach [] X.env)).any (·.1) || (backToKw pos (keywordEach kws X.env)).any (·.1.isNone)) = false := by rfl) :
    PE X (.Call (.Name x p) [] kws pos) (tCallK0 sp gV E tk) := by
  refine ⟨fun pins s σ H Q I h => ?_⟩
  refine wpAny_Call_Name_kw (ld_glob I hg hm ?_ hdb)
  refine PySem.W.callWith_KW0 (h₀ := X.base) I.ok.mod.kin hk hall (thn (hkw.run pos pins s σ H _ I h) fun ws s2 ⟨zs, H2, I2, rz, q2⟩ => ⟨I2.kIn, ?_⟩) hpl
  rw [hks]
  exact run_fnk (us := []) (vs := []) F hr hb hx I2 .nil rz q2
end
/-- the arguments in the parameters' order, told by their places among all arguments -/
def gPerm {α : Type} (np nk : Nat) (ix : List Nat) (us ws : List α) : List α := if us.length = np ∧ ws.length = nk then ix.filterMap (fun i => (us ++ ws)[i]?) else []
theorem gPerm_len {α : Type} {np nk n : Nat} {ix : List Nat} {us ws : List α} (h : (gPerm np nk ix us ws).length = n) (h0 : 0 < n) : us.length = np ∧ ws.length = nk := by
  unfold gPerm at h
  split at h
  · assumption
  · simp at h
    omega
theorem gPerm_rel {np nk : Nat} {ix : List Nat} {vs zs : List V} {us ws : List Value} (r : Vals vs us) (q : Vals zs ws) : Vals (gPerm np nk ix vs zs) (gPerm np nk ix us ws) := by
  unfold gPerm
  rw [r.length, q.length]
  split
  · have a := Vals.append r q
    clear r q
    generalize vs ++ zs = xs at a
    generalize us ++ ws = ys at a
    induction ix with
    | nil => exact .nil
    | cons i ix ih =>
      rw [List.filterMap_cons, List.filterMap_cons]
      cases e : xs[i]? with
      | none => rw [a.none_of e]; exact ih
      | some x =>
        obtain ⟨u, hu, ru⟩ := a.get e
        rw [hu]
        exact .cons ru ih
  · exact .nil
theorem same_seqL' {K : PySem.W.Frag} {a : Addr} {H H' : Hp} {xs : List V} (e : Same H H') (h : SqL K H a xs) : SqL K H' a xs := by
  rcases h with (h | ⟨o, h⟩) | h
  · exact .inl (.inl (e _ _ h))
  · exact .inl (.inr ⟨o, e _ _ h⟩)
  · exact .inr h
end JP
namespace JP
open PySem PySem.Spec PyProof.Rows L2
/-- at a: an exception of the class cls, its dict d -/
def xo (a : Addr) (cls : Value) (d : Option Addr) : HO := .ext fun h => ∃ oe, h.get? a = some oe ∧ Zc cls d oe ∧ ∃ vs, oe.data = .fields vs
end JP
namespace JP
open PySem PySem.Spec PyProof.Rows L2
/-- an exception of the class at C, held at a, with the fields fs -/
def Held (H : Hp) (a C : Addr) (fs : List (Str × V)) : Prop := (∃ d, H a = some (xo a (.ref C) (some d)) ∧ H d = some (.xd fs)) ∨ (fs = [] ∧ H a = some (xo a (.ref C) none))
section
variable {X : Cx} {CX : CXT} {k : Nat} {C g : Addr} {fd : FuncData} {ps : List Str} {sp : Sp} {E : XK}
/-- C's own m stands at g -/
structure OwnM (K : PySem.W.Frag) (C : Addr) (m : Str) (g : Addr) : Prop where
  at_ : PySem.W.findIn K (.ref C) m = some (some (.ref g))
  fn : PySem.W.isFn K (.ref g) = true
theorem ins_inst {pins : List (Addr × Obj)} {σ : L2.St} {H : Hp} {s : Shared} {a dx : Addr} {fs : List (Str × V)} (I : Inv X pins σ H s) (h : H a = some (.ins C dx fs)) : ∃ ox od, PySem.W.InstAt s.heap a ox C od := by
  obtain ⟨mA, O, _⟩ := ins_get I.hok h
  obtain ⟨od, J, _⟩ := O.look
  exact ⟨_, _, J⟩
theorem call_at {A : Around} {pins : List (Addr × Obj)} {σ : L2.St} {H : Hp} {s : Shared} {us : List Value} {vs : List V} {Q : VK} (F : FnOk X.prog X.w X.K X.mg X.base CX k g fd ps sp) (hb : Binds X.K fd ps []) (hr : Room k A) (hx : Passes CX X E) (I : Inv X pins σ H s) (e0 : Env0 X.prog X.w X.K X.mg X.base A X.stack s H) (r : Vals vs us) (h : sp vs H Q E) :
    wpAny (model X.prog X.w) A (call (.ref g) us) (EP X pins σ Q) X.xe s := by
  have n : us.length = ps.length := r.length.symm.trans (F.len _ _ _ _ h)
  refine wpAny_call (codeAny_mono (F.run A X.stack s H ⟨us, []⟩ us vs Q E hr e0 (by
    have := hb s us I.kIn (by rw [List.append_nil]; exact n)
    rw [List.append_nil] at this
    exact this) r h) fun r s' hq => ?_)
  cases r with
  | error e => exact hx pins σ H s e s' I hq
  | ok fl =>
    cases fl with
    | ret u => exact I.after hq
    | next => exact False.elim hq
    | brk => exact False.elim hq
    | cont => exact False.elim hq
/-- what stands on the right of a comparison: of a class that is not below C -/
structure RightOf (K : PySem.W.Frag) (H : Hp) (C : Addr) (y : V) : Prop where
  ty : ∃ t, TyX K H y t ∧ PySem.W.notFirst K C t = true
/-- x == y, x != y -/
def rEqO (C : Addr) (sp : Sp) (E : XK) (K : PySem.W.Frag) (neg : Bool) : R2 := fun x y H Q => ∃ a dx fs, x = .ref a ∧ H a = some (.ins C dx fs) ∧ RightOf K H C y ∧ sp [.ref a, y] H (fun z H' => ∃ b, z = .bl b ∧ Q (.bl (if neg then !b else b)) H') E
/-- a builtin that stands as a class's special method -/
theorem ifBoundB {M : Model} {A : Around} {E : Value → Shared → Prop} {s : Shared} {K : PySem.W.Frag} {x C : Addr} {ox : Obj} {od : Option Obj} {name : Str} {id : String} {args : List Value} {Q : Option Value → Shared → Prop} (Y : K.In s.heap) (I : PySem.W.InstAt s.heap x ox C od)
    (hs : PySem.W.findIn K (.ref C) name = some (some (.builtin id))) (hb : ∀ self, bindSpecial (.builtin id) self = pure (.builtin id, [self])) (h : wpAny M A (call (.builtin id) (.ref x :: args)) (fun v => Q (some v)) E s) : wpAny M A (callSpecialIfBound? (.ref x) name args) Q E s := by
  simp only [callSpecialIfBound?, bindSpecialIfBound?]
  refine wpAny_holding (wpAny_bind (wpAny_bind (wpAny_bind (I.type.here ((PySem.W.looks_findIn Y hs).here ?_)))))
  refine wpAny_bind (wpAny_askSetting (wpAny_ite ?_))
  have fin : wpAny M A (call (.builtin id) ([.ref x] ++ args) >>= fun v => pure (some v)) Q E s := wpAny_bind (wpAny_mono h (fun v s' h' => wpAny_pure h') fun _ _ h' => h')
  split
  · exact wpAny_bind ((PySem.W.Looks.of_pure (hb _)).here (wpAny_pure (by exact fin)))
  · exact wpAny_tryCatch (wpAny_bind ((PySem.W.Looks.of_pure (hb _)).here (wpAny_pure (by exact fin))))
open Builtin in
/-- object.__ne__: what __eq__ does not say -/
theorem call_objne {prog : Program} {w : World} {A : Around} {E : Value → Shared → Prop} {s : Shared} {K : PySem.W.Frag} {x C f : Addr} {ox : Obj} {od : Option Obj} {b : Value} {Q : Value → Shared → Prop} (hu : A.in1.units < cLine) (Y : K.In s.heap) (I : PySem.W.InstAt s.heap x ox C od) (hm : PySem.W.mroIn K C (.type "object") = some true)
    (he : PySem.W.findIn K (.ref C) "__eq__" = some (some (.ref f))) (hf : PySem.W.isFn K (.ref f) = true) (h : wpAny (model prog w) A.in1 (call (.ref f) [.ref x, b]) (fun v s' => ∃ k, v = .bool k ∧ Q (.bool !k) s') E s) : wpAny (model prog w) A (call (.builtin "object.__ne__") [.ref x, b]) Q E s := by
  refine wpAny_call (codeAny_call_builtin PySem.F.cmp_object.ne.plain PySem.F.cmpEntry_ne (PySem.W.check_slot (i := "object.__ne__") (owner := "object") (n := "__ne__") PySem.F.cmpKind_ne PySem.F.cmpSplit_ne (I.type.andThen (PySem.W.looks_mroIn Y hm)) (PySem.F.cmpArgs_ne _ _) ?_))
  unfold Builtin.«object.__ne__»
  refine wpAny_bind (m := slotArgs "__ne__" 1 _) (wpAny_pure ?_)
  refine wpAny_bind (m := cRoomFor _ _) (wpAny_cRoomFor hu ?_)
  refine wpAny_bind (m := callSpecialIfBound? (.ref x) (Str.ofString "__eq__") _) (PySem.W.ifBound_K Y I he hf (wpAny_mono h (fun r s' hq => ?_) fun _ _ y => y))
  obtain ⟨k, rfl, q⟩ := hq
  cases k <;> exact wpAny_pure q
/-- x != y, where the class has no __ne__ of its own -/
theorem rich_ne {prog : Program} {w : World} {A : Around} {E : Value → Shared → Prop} {s : Shared} {K : PySem.W.Frag} {x C f : Addr} {ox : Obj} {od : Option Obj} {b tb : Value} {Q : Value → Shared → Prop} (hu0 : A.units < cLine) (hu : A.in1.units < cLine) (Y : K.In s.heap) (I : PySem.W.InstAt s.heap x ox C od)
    (hb : PySem.W.Looks (model prog w) s.heap (typeOf b) tb) (hn : PySem.W.notFirst K C tb = true) (hm : PySem.W.mroIn K C (.type "object") = some true) (hne : PySem.W.findIn K (.ref C) "__ne__" = some (some (.builtin "object.__ne__")))
    (he : PySem.W.findIn K (.ref C) "__eq__" = some (some (.ref f))) (hf : PySem.W.isFn K (.ref f) = true) (h : wpAny (model prog w) A.in1 (call (.ref f) [.ref x, b]) (fun v s' => ∃ k, v = .bool k ∧ Q (.bool !k) s') E s) : wpAny (model prog w) A (richCompare .NotEq (.ref x) b) Q E s := by
  have one : wpAny (model prog w) A (tryCompare (.ref x) "__ne__" b) (fun r s' => ∃ v, r = some v ∧ Q v s') E s := by
    unfold tryCompare
    refine wpAny_bind (ifBoundB (args := [b]) Y I hne PySem.F.cmp_object.ne.bind ?_)
    have z := call_objne (Q := fun v s' => ∃ k, v = .bool k ∧ Q v s') hu Y I hm he hf (wpAny_mono h (fun v s' hv => (let ⟨k, e, q⟩ := hv; ⟨k, e, _, rfl, q⟩ : ∃ k, v = .bool k ∧ ∃ k', Value.bool (!k) = .bool k' ∧ Q (.bool !k) s')) fun _ _ e => e)
    refine wpAny_mono z (fun v s' hv => ?_) fun _ _ e => e
    obtain ⟨k, rfl, q⟩ := hv
    exact wpAny_pure ⟨_, rfl, q⟩
  unfold richCompare
  simp only [PySem.oneThing_ref]
  refine wpAny_holding (wpAny_bind (wpAny_cRoomFor hu0 ?_))
  refine wpAny_bind (I.type.here (wpAny_bind (hb.here ?_)))
  split
  · rename_i q
    have e : PySem.W.subIn K tb (.ref C) = some false := by
      rcases Bool.or_eq_true_iff.mp hn with e | e
      · rw [beq_iff_eq.mp e] at q; simp at q
      · exact beq_iff_eq.mp e
    refine wpAny_bind ((PySem.W.looks_subIn Y e).here ?_)
    simp only [Bool.false_eq_true, if_false]
    refine wpAny_bind (wpAny_mono one (fun r s' z => ?_) fun _ _ e => e)
    obtain ⟨v, rfl, hq⟩ := z
    exact wpAny_pure hq
  · refine wpAny_bind (wpAny_pure ?_)
    simp only [Bool.false_eq_true, if_false]
    refine wpAny_bind (wpAny_mono one (fun r s' z => ?_) fun _ _ e => e)
    obtain ⟨v, rfl, hq⟩ := z
    exact wpAny_pure hq
theorem op_neO (M : OwnM X.K C "__eq__" g) (hne : PySem.W.findIn X.K (.ref C) "__ne__" = some (some (.builtin "object.__ne__"))) (hm : PySem.W.mroIn X.K C (.type "object") = some true) (F : FnOk X.prog X.w X.K X.mg X.base CX k g fd ps sp) (hb : Binds X.K fd ps []) (hr : Room (k + 1) X.A) (hx : Passes CX X E) : OpR X (compareOp .NotEq) (rEqO C sp E X.K true) := by
  intro pins s σ H x y v u Q I rx ry h
  obtain ⟨a, dx, fs, rfl, ha, ⟨t, ty, hn⟩, q⟩ := h
  cases rx
  obtain ⟨ox, od, J⟩ := ins_inst I ha
  obtain ⟨P, Z, p, _⟩ := kit_of I ry ty
  have hr2 : Room k X.A.in1 := Room.in1 hr
  show wpAny _ _ (richCompare .NotEq _ _) _ _ _
  refine rich_ne hr.units0 hr2.units0 I.kIn J (Z.ty _ _ I.kIn p) hn hm hne M.at_ M.fn ?_
  refine wpAny_mono (call_at (us := [.ref a, u]) (vs := [.ref a, y]) F hb hr2 hx I I.env0.in1 (.cons rfl (.cons ry .nil)) q) (fun w s' z => ?_) fun _ _ x => x
  obtain ⟨z', H', I', rz, b, eb, qz⟩ := z
  subst eb
  cases (show w = Value.bool b from rz)
  exact ⟨b, rfl, .bl !b, H', I', rfl, qz⟩
end
section
variable {X : Cx} {CX : CXT} {k : Nat} {C p g : Addr} {mc : Value} {fd : FuncData} {ps ks : List Str} {sp : Sp} {E : XK} {o e : Expr} {es : List Expr} {kws : List Keyword} {m : Str} {pos apos : Pos} {ta : TE} {t tk : TA} {pl : Sem Bool} {gg : List Value → List Value → List Value} {gV : List V → List V → List V}
/-- what is not raised passes -/
theorem takesN {X : Cx} : Takes X (fun _ _ _ _ => False) := fun _ _ x => by
  obtain ⟨_, _, _, _, _, _, _, _, _, _, _, _, _, _, _, _, z⟩ := x
  exact z.elim
end
end JP
namespace JP
open PySem PySem.Spec PyProof.Rows L2 TL
theorem op_mulS {X : Cx} : OpR X (binaryOp .Mult) (fun x y H Q => ∃ a n, x = .str a ∧ y = .int n ∧ MulOk a n ∧ Q (.str (Txt.mul a n)) H) := by
  intro pins s σ H x y v u Q I rx ry h
  obtain ⟨a, n, rfl, rfl, hz, q⟩ := h
  obtain ⟨t, rfl⟩ := rx
  obtain ⟨t', rfl⟩ := ry
  exact SB.mul hz (fun t' k => ⟨.str (Txt.mul a n), H, I.tok _, ⟨_, rfl⟩, q⟩)
/-- whether a word is an integer as it is written, of at most 60 digits -/
def isIntW (w : Str) : Bool :=
  if (decide ((60 : Int) < (Txt.removeprefix w "-").length) || !Txt.isascii (Txt.removeprefix w "-") || !Txt.isdigit (Txt.removeprefix w "-")) = true then false
  else (decide (V.str w = V.str "0") || !Txt.startswith (Txt.removeprefix w "-") "0")
/-- how many words from the first one on are integers, at most k -/
def lead : Nat → List Str → Nat
  | 0, _ => 0
  | _, [] => 0
  | k + 1, w :: ws => if isIntW w = true then lead k ws + 1 else 0
/-- the word at a place; behind the last one the empty word -/
abbrev wd (ws : List Str) (k : Nat) : Str := ws.getD k ""
def isSign (w : Str) : Bool := decide (V.str w = V.str ">=") || decide (V.str w = V.str ">")
/-- the first word that cannot stand -/
def rdErr (ws : List Str) : Option Nat :=
  if isSign (wd ws (lead 8 ws)) = false then some (lead 8 ws)
  else if decide (V.str (wd ws (lead 8 ws + 1)) = V.str "0") = false then some (lead 8 ws + 1)
  else if lead 8 ws + 2 < ws.length then some (lead 8 ws + 2)
  else none
theorem lead_app : ∀ (k : Nat) (us r : List Str), (∀ u ∈ us, isIntW u = true) → us.length ≤ k → (us.length = k ∨ ∀ w r', r = w :: r' → isIntW w = false) → lead k (us ++ r) = us.length
  | 0, [], r, _, _, _ => rfl
  | 0, _ :: _, _, _, h, _ => absurd h (by simp)
  | k + 1, [], [], _, _, _ => rfl
  | k + 1, [], w :: r, _, _, h => by
    rcases h with h | h
    · simp at h
    · show lead (k + 1) (w :: r) = 0
      unfold lead
      rw [if_neg (by rw [h w r rfl]; exact Bool.false_ne_true)]
  | k + 1, u :: us, r, hu, hl, h => by
    show lead (k + 1) (u :: (us ++ r)) = _
    unfold lead
    rw [if_pos (hu u List.mem_cons_self), lead_app k us r (fun x hx => hu x (List.mem_cons_of_mem _ hx)) (by simpa using hl) (h.imp (fun z => by simpa using z) id)]
    rfl
theorem wd_app (us r : List Str) (k : Nat) : wd (us ++ r) (us.length + k) = wd r k := by
  show (us ++ r).getD (us.length + k) "" = r.getD k ""
  rw [List.getD_eq_getElem?_getD, List.getD_eq_getElem?_getD, List.getElem?_append_right (Nat.le_add_right _ _), Nat.add_sub_cancel_left]
end JP
namespace JP
open PySem PySem.Spec PyProof.Rows L2 TL
def Word (v : Str) : Prop := v.length ≤ 100 ∧ 32 ∉ tl v
instance (v : Str) : Decidable (Word v) := by unfold Word; infer_instance
section
variable {us r : List Str}
def Stop (us r : List Str) : Prop := (∀ u ∈ us, isIntW u = true) ∧ us.length ≤ 8 ∧ (us.length = 8 ∨ ∀ w r', r = w :: r' → isIntW w = false)
theorem Stop.lead (h : Stop us r) : lead 8 (us ++ r) = us.length := lead_app 8 us r h.1 h.2.1 h.2.2
theorem Stop.wd0 (h : Stop us r) : wd (us ++ r) us.length = wd r 0 := wd_app us r 0
theorem Stop.b (h : Stop us r) (s : isSign (wd r 0) = true) (z : decide (V.str (wd r 1) = V.str "0") = false) : rdErr (us ++ r) = some (us.length + 1) := by
  unfold rdErr
  rw [h.lead, h.wd0, wd_app us r 1, if_neg (by rw [s]; simp), if_pos z]
end
def LS (H : Hp) (a : Addr) (ws : List Str) : Prop := H a = some (.lst (ws.map V.str))
theorem LS.but {p a : Addr} {H H' : Hp} {ws : List Str} (h : LS H a ws) (b : But p H H') (n : a ≠ p) : LS H' a ws := b a _ n h
theorem LS.same {a : Addr} {H H' : Hp} {ws : List Str} (h : LS H a ws) (s : Same H H') : LS H' a ws := s _ _ h
theorem LS.seq {K : PySem.W.Frag} {a : Addr} {H : Hp} {ws : List Str} (h : LS H a ws) : SqL K H a (ws.map V.str) := .of h
theorem tk2 (us : List Str) (s z : Str) : (us ++ [s, z]).take ((us ++ [s, z]).length - 2) = us := by
  rw [List.length_append]
  exact List.take_left
theorem fits {a b : List Str} (h : a.length + b.length ≤ 1000) : (a.map V.str).length + (b.map V.str).length ≤ sizeLine := by
  rw [List.length_map, List.length_map, sizeLine_eq]
  omega
/-- a pair of a list of words and the place where reading them stops -/
def It (H : Hp) (x : V) : Prop := ∃ (t a : Addr) (ws : List Str) (k : Nat), x = .ref t ∧ H t = some (.tup [.ref a, .int k]) ∧ LS H a ws ∧ ws ≠ [] ∧ ws.length ≤ 20 ∧ (∀ v ∈ ws, Word v) ∧ rdErr ws = some k
theorem It.same {H H' : Hp} {x : V} (s : Same H H') (h : It H x) : It H' x := by
  obtain ⟨t, a, ws, k, e, h1, h2, r⟩ := h
  exact ⟨t, a, ws, k, e, s _ _ h1, h2.same s, r⟩
/-- what is known while the pairs are made -/
structure Bd (H0 : Hp) (p c : Addr) (m : Nat) (l : Addr) (W : List Str) (xs : List V) (H : Hp) : Prop where
  pen : Pen H p c m
  but : But p H0 H
  lst : LS H l W
  its : ∀ x ∈ xs, It H x
theorem Bd.same {H0 H H' : Hp} {p c l : Addr} {m : Nat} {W : List Str} {xs : List V} (h : Bd H0 p c m l W xs H) (s : Same H H') : Bd H0 p c m l W xs H' :=
  ⟨h.pen.same s, h.but.trans (.of_same s), h.lst.same s, fun x hx => (h.its x hx).same s⟩
/-- a new pair -/
theorem It.mk {H : Hp} {a t : Addr} {ws : List Str} {k : Nat} (n : H t = none) (h : LS H a ws) (h1 : ws ≠ []) (h2 : ws.length ≤ 20) (h3 : ∀ v ∈ ws, Word v) (h4 : rdErr ws = some k) : It (upd H t (.tup [.ref a, .int k])) (.ref t) :=
  ⟨t, a, ws, k, rfl, upd_same, h.same (same_new n), h1, h2, h3, h4⟩
end JP
namespace JP
open PySem PySem.Spec PyProof.Rows L2
/-- all but the one at p and the tables of code objects stay -/
def ButN (p : Addr) (H H' : Hp) : Prop := ∀ b o, b ≠ p → H b = some o → (∀ ps, o ≠ .tbl ps) → H' b = some o
theorem ButN.trans {p : Addr} {H H1 H2 : Hp} (a : ButN p H H1) (b : ButN p H1 H2) : ButN p H H2 := fun c o n e t => b c o n (a c o n e t) t
theorem Pen.ext {H H' : Hp} {p c : Addr} {m : Nat} (h : Pen H p c m) (k : LamX.ExtN H H') : Pen H' p c m := by
  obtain ⟨ns, n, g, h1, h2, r⟩ := h
  exact ⟨ns, n, g, k _ _ h1 (by intro ps z; cases z), k _ _ h2 (by intro ps z; cases z), r⟩
def iAnyV (K : PySem.W.Frag) (i : Nat) : TI := fun σ H R => ∃ a, σ[i]? = some (some (.ref a)) ∧ (((∃ xs, SqL K H a xs) ∧ R (Itl K a) H) ∨ ((∃ xs, SqT K H a xs) ∧ R (Itt K a) H))
theorem pi_anyV {X : Cx} {tg l : Expr} {i : Nat} (hl : PE X l (tVar i)) : PI X tg l (iAnyV X.K i) := ⟨fun pins s σ H R I h => by
  obtain ⟨a, e, ⟨hx, r⟩ | ⟨hx, r⟩⟩ := h
  · exact (pi_list hl).run pins s σ H R I ⟨.ref a, e, a, rfl, hx, r⟩
  · exact (pi_tup hl).run pins s σ H R I ⟨.ref a, e, a, rfl, hx, r⟩⟩
end JP
namespace JP
open PySem PySem.Spec PyProof.Rows L2
def SqK (K : PySem.W.Frag) (k : Bool) (H : Hp) (a : Addr) (xs : List V) : Prop := match k with
  | true => SqT K H a xs
  | false => SqL K H a xs
def HSq (k : Bool) (h : Heap) (a : Addr) (its : Array Value) : Prop := match k with
  | true => h.IsTuple a its
  | false => h.IsList a its
def HIt (k : Bool) (h : Heap) (it a : Addr) (i : Nat) : Prop := match k with
  | true => h.IsTupleIter it a i
  | false => h.IsListIter it a i
def itC (k : Bool) : String := match k with
  | true => "tuple_iterator"
  | false => "list_iterator"
theorem sqK_same {K : PySem.W.Frag} {k : Bool} {H H' : Hp} {a : Addr} {xs : List V} (s : Same H H') (h : SqK K k H a xs) : SqK K k H' a xs := by
  cases k
  · exact same_seqL' s h
  · exact same_seqT s h
theorem sqK_inj {X : Cx} {pins : List (Addr × Obj)} {σ : L2.St} {H : Hp} {s : Shared} {k : Bool} {a : Addr} {xs ys : List V} (I : Inv X pins σ H s) (h : SqK X.K k H a xs) (h2 : SqK X.K k H a ys) : xs = ys := by
  cases k
  · exact I.list_inj h h2
  · exact I.tuple_inj h h2
theorem sqK_at {X : Cx} {pins : List (Addr × Obj)} {σ : L2.St} {H : Hp} {s : Shared} {k : Bool} {a : Addr} {xs : List V} (I : Inv X pins σ H s) (h : SqK X.K k H a xs) : ∃ its : List Value, Vals xs its ∧ HSq k s.heap a its.toArray := by
  cases k
  · obtain ⟨its, r, p, _⟩ := I.list h
    exact ⟨its, r, p.isList⟩
  · obtain ⟨its, r, p, _⟩ := I.tuple h
    exact ⟨its, r, p⟩
theorem drawsK {P : Program} {w : World} {A : Around} (k : Bool) (hh : A.handled = none) (it l : Addr) (ne : l ≠ it) (its : Array Value) : Draws P w A it [it, l] its.size (fun i v => its[i]? = some v) (fun i h => HIt k h it l i ∧ HSq k h l its) := by
  cases k
  · exact Draws.list hh it l ne its
  · exact Draws.tuple hh it l ne its
abbrev zk1 (k : Bool) (h : Heap) (l : Addr) : Heap := h.push { cls := .type (itC k), data := .fields #[.ref l, .int 0 0] }
abbrev zk2 (k1 k2 : Bool) (h : Heap) (l m : Addr) : Heap := zk1 k2 (zk1 k1 h l) m
abbrev zk3 (k1 k2 : Bool) (h : Heap) (l m : Addr) : Heap := (zk2 k1 k2 h l m).push { cls := .type "tuple", data := .seq #[.ref h.objs.size, .ref (zk1 k1 h l).objs.size] }
abbrev zk4 (k1 k2 : Bool) (h : Heap) (l m : Addr) : Heap := (zk3 k1 k2 h l m).push { cls := .type "tuple", data := .seq #[.none, .none] }
abbrev zk5 (k1 k2 : Bool) (h : Heap) (l m : Addr) : Heap := (zk4 k1 k2 h l m).push { cls := .type "zip", data := .fields #[.none, .bool false, .bool false, .ref (zk2 k1 k2 h l m).objs.size, .ref (zk3 k1 k2 h l m).objs.size] }
theorem meets_zk (k1 k2 : Bool) (l m : Addr) (xs ys : Array Value) :
    Meets (Builtin.«zip.__new__» ⟨[.type "zip", .ref l, .ref m], []⟩) (fun _ R s => HSq k1 s.heap l xs ∧ HSq k2 s.heap m ys ∧
      R (.ok (.ret (.ref (zk4 k1 k2 s.heap l m).objs.size))) { s with heap := zk5 k1 k2 s.heap l m }) :=
  .of_wp fun prog w A R s h => by
    obtain ⟨hp, g, d, tk, os⟩ := s
    obtain ⟨a1, a2, h⟩ := h
    have hsub := sub_zip
    cases k1 <;> cases k2
    · have b1 : Heap.IsList (Shared.heap ⟨hp, g, d, tk, os⟩) l xs := a1
      have b2 : Heap.IsList (Shared.heap ⟨hp.push { cls := .type "list_iterator", data := .fields #[.ref l, .int 0 0] }, g, d, tk, os⟩) m ys := Heap.IsList.push a2 _
      wp_walk using wpAny_pyIter_list b1, wpAny_pyIter_list b2
      exact ⟨_, rfl, h⟩
    · have b1 : Heap.IsList (Shared.heap ⟨hp, g, d, tk, os⟩) l xs := a1
      have b2 : Heap.IsTuple (Shared.heap ⟨hp.push { cls := .type "list_iterator", data := .fields #[.ref l, .int 0 0] }, g, d, tk, os⟩) m ys := Heap.IsTuple.push a2 _
      wp_walk using wpAny_pyIter_list b1, wpAny_pyIter_tuple b2
      exact ⟨_, rfl, h⟩
    · have b1 : Heap.IsTuple (Shared.heap ⟨hp, g, d, tk, os⟩) l xs := a1
      have b2 : Heap.IsList (Shared.heap ⟨hp.push { cls := .type "tuple_iterator", data := .fields #[.ref l, .int 0 0] }, g, d, tk, os⟩) m ys := Heap.IsList.push a2 _
      wp_walk using wpAny_pyIter_tuple b1, wpAny_pyIter_list b2
      exact ⟨_, rfl, h⟩
    · have b1 : Heap.IsTuple (Shared.heap ⟨hp, g, d, tk, os⟩) l xs := a1
      have b2 : Heap.IsTuple (Shared.heap ⟨hp.push { cls := .type "tuple_iterator", data := .fields #[.ref l, .int 0 0] }, g, d, tk, os⟩) m ys := Heap.IsTuple.push a2 _
      wp_walk using wpAny_pyIter_tuple b1, wpAny_pyIter_tuple b2
      exact ⟨_, rfl, h⟩
theorem hit_new {k : Bool} {h : Heap} {it l : Addr} (e : h.get? it = some { cls := .type (itC k), data := .fields #[.ref l, .int 0 0] }) : HIt k h it l 0 := by
  cases k <;> exact ⟨_, e, rfl, rfl⟩
theorem call_zk {P : Program} {w : World} {A : Around} {E : Value → Shared → Prop} {s : Shared} (k1 k2 : Bool) {l m : Addr} {xs ys : Array Value} {Q : Value → Shared → Prop} (a1 : HSq k1 s.heap l xs) (a2 : HSq k2 s.heap m ys)
    (h : ∀ h', IsZip h' (s.heap.objs.size + 4) (s.heap.objs.size + 2) (s.heap.objs.size + 3) .none → IsPair h' (s.heap.objs.size + 2) (.ref s.heap.objs.size) (.ref (s.heap.objs.size + 1)) →
      IsPair h' (s.heap.objs.size + 3) .none .none → HIt k1 h' s.heap.objs.size l 0 → HIt k2 h' (s.heap.objs.size + 1) m 0 → (∀ c o, s.heap.get? c = some o → h'.get? c = some o) → Q (.ref (s.heap.objs.size + 4)) { s with heap := h' }) :
    wpAny (model P w) A (call (.type "zip") [.ref l, .ref m]) Q E s := by
  refine callType_new F.called_zip (by decide) (F.typeCall_zip_2 _ _) (F.newCall_zip_2 _ _) (fun obj => F.args_object_init_3 obj _ _) F.entry_zip_new (meets_zk k1 k2 l m xs ys) ⟨a1, a2, ?_⟩
  have n1 : (zk1 k1 s.heap l).objs.size = s.heap.objs.size + 1 := Heap.size_push ..
  have n2 : (zk2 k1 k2 s.heap l m).objs.size = s.heap.objs.size + 2 := (Heap.size_push ..).trans (by rw [n1])
  have n3 : (zk3 k1 k2 s.heap l m).objs.size = s.heap.objs.size + 3 := (Heap.size_push ..).trans (by rw [n2])
  have n4 : (zk4 k1 k2 s.heap l m).objs.size = s.heap.objs.size + 4 := (Heap.size_push ..).trans (by rw [n3])
  have p4 : ∀ {c o}, (zk4 k1 k2 s.heap l m).get? c = some o → (zk5 k1 k2 s.heap l m).get? c = some o := fun e => Heap.get?_push_of_some _ e
  have p3 : ∀ {c o}, (zk3 k1 k2 s.heap l m).get? c = some o → (zk5 k1 k2 s.heap l m).get? c = some o := fun e => p4 (Heap.get?_push_of_some _ e)
  have p2 : ∀ {c o}, (zk2 k1 k2 s.heap l m).get? c = some o → (zk5 k1 k2 s.heap l m).get? c = some o := fun e => p3 (Heap.get?_push_of_some _ e)
  have p1 : ∀ {c o}, (zk1 k1 s.heap l).get? c = some o → (zk5 k1 k2 s.heap l m).get? c = some o := fun e => p2 (Heap.get?_push_of_some _ e)
  have g5 : (zk5 k1 k2 s.heap l m).get? (zk4 k1 k2 s.heap l m).objs.size = some _ := Heap.get?_push_size _ rfl
  have g4 : (zk5 k1 k2 s.heap l m).get? (zk3 k1 k2 s.heap l m).objs.size = some _ := p4 (Heap.get?_push_size _ rfl)
  have g3 : (zk5 k1 k2 s.heap l m).get? (zk2 k1 k2 s.heap l m).objs.size = some _ := p3 (Heap.get?_push_size _ rfl)
  have g2 : (zk5 k1 k2 s.heap l m).get? (zk1 k1 s.heap l).objs.size = some _ := p2 (Heap.get?_push_size _ rfl)
  have g1 : (zk5 k1 k2 s.heap l m).get? s.heap.objs.size = some _ := p1 (Heap.get?_push_size _ rfl)
  show _ ∧ _
  rw [n2, n3, n4] at g5
  rw [n3] at g4
  rw [n1, n2] at g3
  rw [n1] at g2
  rw [n4]
  exact ⟨⟨_, g5, rfl⟩, h _ g5 g3 g4 (hit_new g1) (hit_new g2) fun c o x => p1 (Heap.get?_push_of_some _ x)⟩
/-- the two as they stand at each turn -/
def ItzK (K : PySem.W.Frag) (k1 k2 : Bool) (a b : Addr) : L2.It :=
  ⟨fun i H => ∃ (xs ys : List V) (x y : V), SqK K k1 H a xs ∧ SqK K k2 H b ys ∧ xs[i]? = some x ∧ ys[i]? = some y,
    fun i H v H' => ∃ T x y, v = .ref T ∧ H T = none ∧ H' = upd H T (.tup [x, y]) ∧ (∀ xs, SqK K k1 H a xs → xs[i]? = some x) ∧ ∀ ys, SqK K k2 H b ys → ys[i]? = some y,
    fun i H => ∃ xs ys : List V, SqK K k1 H a xs ∧ SqK K k2 H b ys ∧ i = min xs.length ys.length⟩
/-- the five new things -/
abbrev zkFp (z : Addr) : List Addr := [z + 4, z + 2, z + 3, z, z + 1]
def zkSt (k1 k2 : Bool) (a b z : Addr) (i : Nat) (h : Heap) : Prop := IsZip h (z + 4) (z + 2) (z + 3) .none ∧ IsPair h (z + 2) (.ref z) (.ref (z + 1)) ∧ (∃ x y, IsPair h (z + 3) x y) ∧ HIt k1 h z a i ∧ HIt k2 h (z + 1) b i
theorem notIn2 {c x y : Nat} (h1 : c ≠ x) (h2 : c ≠ y) : c ∉ [x, y] := fun h => by
  rcases List.mem_cons.mp h with h | h
  · exact h1 h
  · exact h2 (List.mem_singleton.mp h)
theorem zk_sep {a b z : Nat} (ha : a < z) (hb : b < z) : ZipSep2 (z + 4) (z + 2) (z + 3) z (z + 1) [z, a] [z + 1, b] where
  TIz := by show (z + 2 : Nat) ≠ z + 4; omega
  TOz := by show (z + 3 : Nat) ≠ z + 4; omega
  TITO := by show (z + 2 : Nat) ≠ z + 3; omega
  TIi1 := by show (z + 2 : Nat) ≠ z; omega
  mem1 := List.mem_cons_self
  zf1 := notIn2 (by omega) (by omega)
  Tf1 := notIn2 (by omega) (by omega)
  TIi2 := by show (z + 2 : Nat) ≠ z + 1; omega
  mem2 := List.mem_cons_self
  zf2 := notIn2 (by omega) (by omega)
  Tf2 := notIn2 (by omega) (by omega)
  sep1_2 := notIn2 (by omega) (by omega)
  sep2_1 := notIn2 (by omega) (by omega)
theorem hit_obj {k : Bool} {h : Heap} {it l : Addr} {i : Nat} (e : HIt k h it l i) : ∃ o, h.get? it = some o ∧ ∀ v, o.data ≠ .cell v := by
  cases k <;> exact let ⟨o, h1, _, d⟩ := e; ⟨o, h1, fun v q => by rw [d] at q; cases q⟩
theorem hit_keep {k : Bool} {h h' : Heap} {it l : Addr} {i : Nat} (e : HIt k h it l i) (s : ∀ o, h.get? it = some o → h'.get? it = some o) : HIt k h' it l i := by
  cases k
  · exact Heap.IsListIter.at e s
  · exact Heap.IsTupleIter.at e s
theorem turn_zk {P : Program} {w : World} {K : PySem.W.Frag} {elts : List Expr} {kk : Nat} {tpos : Pos} {k1 k2 : Bool} {a b z : Addr} (ha : a < z) (hb : b < z) :
    Turn P w K (.Tuple elts kk tpos) (ItzK K k1 k2 a b) (zkFp z) (z + 4) (zkSt k1 k2 a b z) where
  mem := by simp
  obj := fun i h ⟨hz, hT, ⟨x, y, hO⟩, h1, h2⟩ c hc => by
    have e : c = z + 4 ∨ c = z + 2 ∨ c = z + 3 ∨ c = z ∨ c = z + 1 := by simpa using hc
    rcases e with q | q | q | q | q
    · subst q
      exact ⟨_, hz, fun v q => by cases q⟩
    · subst q
      exact ⟨_, hT, fun v q => by cases q⟩
    · subst q
      exact ⟨_, hO, fun v q => by cases q⟩
    · subst q
      exact hit_obj h1
    · subst q
      exact hit_obj h2
  keep := fun i h h' ⟨hz, hT, ⟨x, y, hO⟩, h1, h2⟩ k =>
    ⟨k (z + 4) (by simp) _ hz, k (z + 2) (by simp) _ hT, ⟨x, y, k (z + 3) (by simp) _ hO⟩, hit_keep h1 fun o q => k z (by simp) o q, hit_keep h2 fun o q => k (z + 1) (by simp) o q⟩
  item := by
    intro X hP hw hK hc i pins s σ H E I hf st hg
    subst hP hw hK
    obtain ⟨hz, hT, ⟨x0, y0, hO⟩, h1, h2⟩ := st
    obtain ⟨xs, ys, x, y, qx, qy, hx, hy⟩ := hg
    obtain ⟨its, rv, p⟩ := sqK_at I qx
    obtain ⟨its2, rv2, p2⟩ := sqK_at I qy
    obtain ⟨u, hu, ru⟩ := rv.get hx
    obtain ⟨u2, hu2, ru2⟩ := rv2.get hy
    have hzl : z + 4 < s.heap.objs.size := Heap.lt_size hz
    have hd : X.A.in1.handled = none := I.ok.hd hc
    have S := zk_sep ha hb
    have na : a ≠ z := Nat.ne_of_lt ha
    have nb : b ≠ z + 1 := Nat.ne_of_lt (Nat.lt_succ_of_lt hb)
    refine wpAny_pyNext_zipD2_item S (drawsK k1 hd z a na its.toArray) (drawsK k2 hd (z + 1) b nb its2.toArray) hz hT hO ⟨h1, p⟩ ⟨h2, p2⟩ (by have := (List.getElem?_eq_some_iff.mp hu).1; simpa using this) (by have := (List.getElem?_eq_some_iff.mp hu2).1; simpa using this) fun v1 v2 h' tk e1 e2 z' O' s1 s2 hN hsz hk => ?_
    have ev1 : v1 = u := by
      have q : its.toArray[i]? = some u := by simpa using hu
      exact Option.some.inj (e1.symm.trans q)
    have ev2 : v2 = u2 := by
      have q : its2.toArray[i]? = some u2 := by simpa using hu2
      exact Option.some.inj (e2.symm.trans q)
    subst ev1 ev2
    refine ⟨_, rfl, wpAny_letOwnedTupleGo_zip (s := { s with heap := h', toks := tk }) z' fun h'' z'' sb => ?_⟩
    have nz : s.heap.objs.size ≠ z + 4 := Nat.ne_of_gt hzl
    have hN2 : h''.get? s.heap.objs.size = some { cls := .type "tuple", data := .seq #[v1, v2] } := (sb.2 _ nz).trans hN
    have new : ObjOk X.prog X.w (upd H s.heap.objs.size (.tup [x, y])) h'' s.heap.objs.size (.tup [x, y]) := ⟨by show 2 ≤ sizeLine; decide, [v1, v2], .cons ru (.cons ru2 .nil), ⟨_, hN2, rfl, _, rfl⟩⟩
    have I1 : Inv X pins σ (upd H s.heap.objs.size (.tup [x, y])) { s with heap := h'', toks := tk } :=
      I.turnedNew (t' := tk) (ch := zkFp z) (fun c o nc q => by
        have n1 : c ≠ z + 4 := fun e => nc (by simp [e])
        have n2 : c ≠ z + 3 := fun e => nc (by simp [e])
        have n3 : c ≠ z := fun e => nc (by simp [e])
        have n4 : c ≠ z + 1 := fun e => nc (by simp [e])
        exact (sb.2 c n1).trans (hk c o n1 n2 n3 n4 q)) hf (Nat.le_refl _) new
    refine ⟨.ref s.heap.objs.size, _, I1, rfl, ⟨_, x, y, rfl, I.hok.fresh (Nat.le_refl _), rfl, fun l hl => by rw [sqK_inj I hl qx]; exact hx, fun l hl => by rw [sqK_inj I hl qy]; exact hy⟩, ⟨z'', ?_, ⟨v1, v2, ?_⟩, ?_, ?_⟩, fun c hcm => ?_⟩
    · exact (sb.2 _ S.TIz).trans (hk _ _ S.TIz S.TITO S.TIi1 S.TIi2 hT)
    · exact (sb.2 _ S.TOz).trans O'
    · exact hit_keep s1.1 fun o q => (sb.2 _ S.zi1.symm).trans q
    · exact hit_keep s2.1 fun o q => (sb.2 _ S.zi2.symm).trans q
    · have hlt : c < s.heap.objs.size := by
        have e : c = z + 4 ∨ c = z + 2 ∨ c = z + 3 ∨ c = z ∨ c = z + 1 := by simpa using hcm
        have hz4 : z + 4 < s.heap.objs.size := hzl
        rcases e with q | q | q | q | q
        · rw [q]; exact hz4
        · rw [q]; exact Nat.lt_of_le_of_lt (Nat.add_le_add_left (by decide : (2 : Nat) ≤ 4) z) hz4
        · rw [q]; exact Nat.lt_of_le_of_lt (Nat.add_le_add_left (by decide : (3 : Nat) ≤ 4) z) hz4
        · rw [q]; exact Nat.lt_of_le_of_lt (Nat.le_add_right z 4) hz4
        · rw [q]; exact Nat.lt_of_le_of_lt (Nat.add_le_add_left (by decide : (1 : Nat) ≤ 4) z) hz4
      exact (upd_ne (Nat.ne_of_lt hlt)).trans (hf c hcm).1
  done := by
    intro X hP hw hK hc i pins s σ H E I hf st hg
    subst hP hw hK
    obtain ⟨hz, hT, ⟨x0, y0, hO⟩, h1, h2⟩ := st
    obtain ⟨xs, ys, qx, qy, he⟩ := hg
    obtain ⟨its, rv, p⟩ := sqK_at I qx
    obtain ⟨its2, rv2, p2⟩ := sqK_at I qy
    have l1 := rv.length
    have l2 := rv2.length
    have hd : X.A.in1.handled = none := I.ok.hd hc
    have S := zk_sep ha hb
    have na : a ≠ z := Nat.ne_of_lt ha
    have nb : b ≠ z + 1 := Nat.ne_of_lt (Nat.lt_succ_of_lt hb)
    exact wpAny_pyNext_zipD2_end S (drawsK k1 hd z a na its.toArray) (drawsK k2 hd (z + 1) b nb its2.toArray) hz hT hO ⟨h1, p⟩ ⟨h2, p2⟩ (by simp; omega) (by simp; omega) (by simp; omega) fun h' tk hk => ⟨rfl, I.turnedL (t' := tk) (ch := zkFp z) (fun c o nc q =>
      hk c o (fun e => nc (by simp [e])) (fun e => nc (by simp [e])) (fun e => nc (by simp [e])) (fun e => nc (by simp [e])) q) hf⟩
  self := fun A i s Q E st h => wpAny_pyIter_zip st.1 h
def iZipK (K : PySem.W.Frag) (ta : TA) : TI := fun σ H R => ta σ H fun vs H1 => ∃ k1 k2 a b xs ys, vs = [.ref a, .ref b] ∧ SqK K k1 H1 a xs ∧ SqK K k2 H1 b ys ∧ R (ItzK K k1 k2 a b) H1
theorem hsq_lt {k : Bool} {h : Heap} {a : Addr} {its : Array Value} (e : HSq k h a its) : a < h.objs.size := by
  cases k
  · obtain ⟨o, q, _⟩ := e
    exact Heap.lt_size q
  · exact IsTup.lt e
theorem pi_zipK {X : Cx} {e e2 : Expr} {ta : TA} {p pos tpos : Pos} {elts : List Expr} {kk : Nat} (hg : Gl X "zip") (hm : X.mg "zip" = none) (ha : PA X [e, e2] ta)
    (hs : starEach [e, e2] X.env = (false, eval e X.env) :: starEach [e2] X.env := by rfl) (hpl : (backTo pos (starEach [e2] X.env)).any (·.1) = false := by rfl) :
    PI X (.Tuple elts kk tpos) (.Call (.Name "zip" p) [e, e2] [] pos) (iZipK X.K ta) := by
  constructor
  intro pins s σ H R I h
  refine Call_ (ld_blt I hg hm PyProof.Rows.boot_zip (PyProof.Rows.callWith_type1 (thn (ha.run pos pins s σ H _ I h) fun us s1 ⟨vs, H1, I1, r1, k1, k2, a, b, xs, ys, ex, qx, qy, q⟩ => ?_) hs hpl))
  subst ex
  cases r1 with
  | cons r rr =>
    cases rr with
    | cons r' rr =>
      cases rr
      cases r
      cases r'
      obtain ⟨its, rv, p1⟩ := sqK_at I1 qx
      obtain ⟨its2, rv2, p2⟩ := sqK_at I1 qy
      refine call_zk k1 k2 p1 p2 fun h' hz hT hO g1 g2 hk => wpAny_pyIter_zip hz ?_
      have I2 : Inv X pins σ H1 { s1 with heap := h' } := I1.kept (t' := s1.toks) hk
      refine ⟨s1.heap.objs.size + 4, zkFp s1.heap.objs.size, _, _, H1, rfl, I2, turn_zk (hsq_lt p1) (hsq_lt p2), ⟨hz, hT, ⟨_, _, hO⟩, g1, g2⟩, fun c hcm => ?_, q⟩
      have hle : s1.heap.objs.size ≤ c := by
        have e : c = s1.heap.objs.size + 4 ∨ c = s1.heap.objs.size + 2 ∨ c = s1.heap.objs.size + 3 ∨ c = s1.heap.objs.size ∨ c = s1.heap.objs.size + 1 := by simpa using hcm
        rcases e with z | z | z | z | z <;> rw [z] <;> first | exact Nat.le_refl _ | exact Nat.le_add_right _ _
      exact I1.fpOk hle (I1.hok.fresh hle)
end JP
namespace JP
open PySem PySem.Spec PyProof.Rows L2
/-- (heap, dict, key, worth, heap behind) -/
abbrev StK := Hp → Addr → V → V → Hp → Prop
structure DicK (P : Program) (w : World) (u : Nat) (o0 : Addr → HO) (st : StK) : Prop where
  new : ∀ (H : Hp) (h : Heap), sysModules < h.objs.size → ObjOk P w H (h.push { cls := .type "dict", data := .dict #[] }) h.objs.size (o0 h.objs.size)
  put : ∀ (X : Cx) (pins : List (Addr × Obj)) (σ : L2.St) (H H' : Hp) (s : Shared) (E : Value → Shared → Prop) (D : Addr) (y z : V) (k r : Value) (Q : Unit → Shared → Prop), X.prog = P → X.w = w → X.A.units + u < cLine → Inv X pins σ H s → RelV y k → RelV z r → st H D y z H' →
    (∀ s', Inv X pins σ H' s' → Q () s') → wpAny (model X.prog X.w) X.A (dictSet D k r) Q E s
def tDcG (o0 : Addr → HO) (st : StK) (wi : TI) (g : TG) (tt : TT) (tk tv : TE) (vs : List Nat) : TE := fun σ H Q => wi σ H fun J H1 => ∀ D, H1 D = none → ∃ W : Nat → Nat → Hp → Prop, (∃ m, W 0 m (upd H1 D (o0 D))) ∧ ∀ i m H, W i m H →
  (J.stop i H ∧ Q (.ref D) H) ∨ (J.go i H ∧ ∃ Nx : Hp → Prop, (∀ H', Nx H' → ∃ m', m' < m ∧ W (i + 1) m' H') ∧ ∀ x H', J.yld i H x H' → g x (wipe σ vs) H' fun σ2 H2 => wipe σ2 vs = wipe σ vs ∧ tt σ2 H2 fun b H3 =>
    if b = true then tk σ2 H3 fun y H4 => tv σ2 H4 fun z H5 => ∃ H6, st H5 D y z H6 ∧ Nx H6 else Nx H3)
section
variable {X : Cx} {o0 : Addr → HO} {st : StK} {un : Nat}
theorem pe_dcG {kx vx tg iter : Expr} {ifs : List Expr} {scope : Scope} {own : List (Str × Nat)} {pos : Pos} {wi : TI} {g : TG} {tt : TT} {tk tv : TE} (DK : DicK X.prog X.w un o0 st) (hu : X.A.units + un < cLine) (calm : X.calm = true) (nd : X.N.Nodup) (it : PI X tg iter wi) (blk : BlkOk X.N X.env.scope scope own)
    (tgt : ∀ (s : Shared) (H : Hp) (C : Addr) (cl : List (Str × Addr)) (fp : List Addr), PG (X.blk s H scope (compEnvC scope cl C X.env) fp) tg g) (tst : ∀ (s : Shared) (H : Hp) (C : Addr) (cl : List (Str × Addr)) (fp : List Addr), PTs (X.blk s H scope (compEnvC scope cl C X.env) fp) ifs tt)
    (key : ∀ (s : Shared) (H : Hp) (C : Addr) (cl : List (Str × Addr)) (fp : List Addr), PE (X.blk s H scope (compEnvC scope cl C X.env) fp) kx tk)
    (val : ∀ (s : Shared) (H : Hp) (C : Addr) (cl : List (Str × Addr)) (fp : List Addr), PE (X.blk s H scope (compEnvC scope cl C X.env) fp) vx tv) (fold : ∀ x, foldedSetIterable iter X.env x = pure x := by intro _; rfl) :
    PE X (.DictComp kx vx [⟨tg, iter, ifs, 0⟩] scope pos) (tDcG o0 st wi g tt tk tv (own.map (·.2))) := by
  constructor
  intro pins s σ H Q I rd
  rw [arm_eval_DictComp]
  have cells : ∀ y ∈ scope.names, y.2 = .free → ∃ c, X.env.cells.lookup y.1 = some c := by
    intro y hy e
    rcases blk.free y hy e with k | k
    · exact I.ok.has _ (.inl k)
    · exact I.ok.has _ (.inr k)
  refine wpAny_comprehension_free rfl fold (closure_ok cells) blk.kind (fun y hy e => by rw [blk.uniq y hy, e]) (thn (it.run pins s σ H _ I rd) fun xv sa hxa => thn hxa fun itv sb hb => ?_)
  obtain ⟨a, fp, tn, J, Hb, rfl, Ib, T, stb, fpb, q⟩ := hb
  refine wpAny_newObj_type (newEnv_comp ?_)
  have fresh : Hb sb.heap.objs.size = none := Ib.hok.fresh (Nat.le_refl _)
  obtain ⟨W, ⟨m0, w0⟩, turn⟩ := q _ fresh
  generalize eD : sb.heap.objs.size = D at *
  -- the heap with the empty dict
  obtain ⟨sc, esc⟩ : ∃ sc : Shared, sc = { sb with heap := sb.heap.push { cls := .type "dict", data := .dict #[] } } := ⟨_, rfl⟩
  have hsc : sc.heap = sb.heap.push { cls := .type "dict", data := .dict #[] } := by rw [esc]
  have Ic : Inv X pins σ (upd Hb D (o0 D)) sc := by
    rw [esc, ← eD]
    exact Ib.laid (t' := sb.toks) (fun b o e => Heap.get?_push_of_some _ e) (Nat.le_refl _) (DK.new _ sb.heap Ib.big)
  rw [← esc]
  obtain ⟨Hc, eHc⟩ : ∃ Hc : Hp, Hc = upd Hb D (o0 D) := ⟨_, rfl⟩
  rw [← eHc] at Ic w0
  have below : ∀ b ∈ fp, b < sb.heap.objs.size := by
    intro b hb
    obtain ⟨o, e, _⟩ := T.obj _ _ stb b hb
    exact Heap.lt_size e
  have fpc : ∀ b ∈ fp, FpOk X pins Hc b ∧ b < sc.heap.objs.size := by
    intro b hb
    have lt := below b hb
    have ne : b ≠ D := by rw [← eD]; exact Nat.ne_of_lt lt
    refine ⟨⟨?_, (fpb b hb).2⟩, ?_⟩
    · rw [eHc, upd_ne ne]
      exact (fpb b hb).1
    · rw [hsc, Heap.size_push]
      exact Nat.lt_succ_of_lt lt
  have stc : tn 0 sc.heap := T.keep _ _ _ stb fun b _ o e => by rw [hsc]; exact Heap.get?_push_of_some _ e
  have Id := block_start Ic blk nd fpc
  obtain ⟨L, eL⟩ : ∃ L : Addr, L = sc.heap.objs.size := ⟨_, rfl⟩
  obtain ⟨ce, ece⟩ : ∃ ce : Env, ce = compEnvC scope (cellsFrom (L + 1) scope.names (cloFrom X.env.cells scope.names [])) L X.env := ⟨_, rfl⟩
  have tgt' := tgt sc Hc L (cellsFrom (L + 1) scope.names (cloFrom X.env.cells scope.names [])) fp
  have tst' := tst sc Hc L (cellsFrom (L + 1) scope.names (cloFrom X.env.cells scope.names [])) fp
  have key' := key sc Hc L (cellsFrom (L + 1) scope.names (cloFrom X.env.cells scope.names [])) fp
  have val' := val sc Hc L (cellsFrom (L + 1) scope.names (cloFrom X.env.cells scope.names [])) fp
  rw [← ece] at tgt' tst' key' val'
  rw [← eL, ← ece] at Id
  have ceL : ce.locals = L := by rw [ece]; rfl
  obtain ⟨sd, esd⟩ : ∃ sd : Shared, sd = { sc with heap := pushCells (sc.heap.push { cls := .type "dict", data := .dict #[] }) scope.names } := ⟨_, rfl⟩
  rw [← esd] at Id
  have std : tn 0 sd.heap := T.keep _ _ _ stc fun b _ o e => by rw [esd]; exact pushCells_keeps _ _ _ _ (Heap.get?_push_of_some _ e)
  have non : ∀ b ∈ fp, Hc b = none := fun b hb => (fpc b hb).1.1
  have pin : ∀ {σ' : L2.St} {H' : Hp} {s' : Shared}, Inv (X.blk sc Hc scope ce fp) [] σ' H' s' → (∀ b ∈ fp, H' b = none) → ∀ b ∈ fp, FpOk (X.blk sc Hc scope ce fp) [] H' b := by
    intro σ' H' s' I' n b hb
    exact ⟨n b hb, (I'.ok.exf b hb).1, I'.ok.exfs b hb, .inl hb, fun x c e => (I'.ok.exf b hb).2 x c e, fun p hp => by simp at hp⟩
  have loop : codeAny (model X.prog X.w) X.A (.compLoop (.DictComp kx vx [⟨tg, iter, ifs, 0⟩] scope pos) 0 (.ref a) (.ref D) ce) (compPost (model X.prog X.w) X.A X.xe none (fun v s' => EP X pins σ Q v s') (.ref D) L) sd := by
    refine compLoop_anyD (fun n s' => ∃ i H', Inv (X.blk sc Hc scope ce fp) [] (wipe σ (own.map (·.2))) H' s' ∧ tn i s'.heap ∧ (∀ b ∈ fp, H' b = none) ∧ W i n H') ?_ m0 ⟨0, Hc, Id, std, non, w0⟩
    rintro n se ⟨i, He, Ie, ste, ne, we⟩
    rcases turn i n He we with ⟨stop, qq⟩ | ⟨go, Nx, back, step⟩
    · refine thnF (T.done (X.blk sc Hc scope ce fp) rfl rfl rfl calm i [] se _ He (fun _ _ => False) Ie (pin Ie ne) ste stop) fun r sf ⟨er, If⟩ => ?_
      subst er
      have Ig : Inv X pins σ He sf := Ic.call' (ch := fp) If.os If.base If.hok If.bare fun b hb => let z := (fpc b hb).1.2; ⟨z.2.2.1, z.1, z.2.2.2.1, z.2.2.2.2⟩
      have nL : He L = none := by
        have z : He ce.locals = none := If.free
        rw [ceL] at z
        exact z
      obtain ⟨m, hn, _⟩ := If.loc
      have hn' : sf.heap.Ns L m := by
        have z : sf.heap.Ns ce.locals m := hn
        rw [ceL] at z
        exact z
      refine ⟨m, hn', fun h'' sb' => ?_⟩
      obtain ⟨f0, f1, _, f3, f4, f5⟩ := Ic.fpOk (Nat.le_of_eq eL.symm) nL
      exact ⟨.ref D, He, Ig.turned (t' := sf.toks) (fun b o hb e => (sb'.2 b hb).trans e) f0 f1 f3 f4 f5, rfl, qq⟩
    · refine thnF (T.item (X.blk sc Hc scope ce fp) rfl rfl rfl calm i [] se _ He (fun _ _ => False) Ie (pin Ie ne) ste go) fun r sf ⟨u, er, hf⟩ => ?_
      subst er
      refine thnF hf fun _ sg ⟨x, Hg, Ig, rg, yg, stg, ng⟩ => ?_
      have Ig' := Ig.pinned (pin Ig ng) (T.obj _ _ stg)
      refine thnF (tgt'.run _ sg _ Hg x u _ Ig' rg (step x Hg yg)) fun _ sh ⟨σh, Hh, Ih, hw, qh⟩ => ?_
      refine thnF (tst'.run _ sh σh Hh _ Ih qh) fun b si ⟨Hi, Ii, qi⟩ => ?_
      have over : ∀ {s' : Shared} {H' : Hp}, Inv (X.blk sc Hc scope ce fp) ([] ++ pinsAt fp sg.heap) σh H' s' → Nx H' → ∃ m, m < n ∧ ∃ i H', Inv (X.blk sc Hc scope ce fp) [] (wipe σ (own.map (·.2))) H' s' ∧ tn i s'.heap ∧ (∀ b ∈ fp, H' b = none) ∧ W i m H' := by
        intro s' H' I' nx
        obtain ⟨m', lt, w'⟩ := back H' nx
        have held : ∀ b ∈ fp, ∀ o, sg.heap.get? b = some o → s'.heap.get? b = some o ∧ H' b = none := by
          intro b hb o e
          have z := I'.pin (b, o) (List.mem_append_right _ (List.mem_append_right _ (mem_pinsAt hb e)))
          exact ⟨z.1, z.2.1⟩
        have len : (wipe σ (own.map (·.2))).length = σh.length := by rw [← hw, wipe_length]
        refine ⟨m', lt, i + 1, H', (I'.unpinned (pins := [])).weak len ?_, T.keep _ _ _ stg fun b hb o e => (held b hb o e).1, ?_, w'⟩
        · intro j v e
          rw [← hw] at e
          exact (wipe_some e).1
        · intro b hb
          obtain ⟨o, e, _⟩ := T.obj _ _ stg b hb
          exact (held b hb o e).2
      cases b with
      | false =>
        rw [if_neg Bool.false_ne_true] at qi ⊢
        exact over Ii qi
      | true =>
        rw [if_pos rfl] at qi ⊢
        refine thnF (key'.run _ si σh Hi _ Ii qi) fun k sj ⟨yk, Hj, Ij, rj, qj⟩ => ?_
        refine thnF (val'.run _ sj σh Hj _ Ij qj) fun z sk ⟨yv, Hk, Ik, rk, H6, hst, nx⟩ => ?_
        exact DK.put (X.blk sc Hc scope ce fp) _ σh Hk H6 sk _ D yk yv k z _ rfl rfl hu Ik rj rk hst fun s' I' => over I' nx
  rw [← eL]
  show codeAny _ _ (.compStart _ 0 (.ref a) (.ref D) (compEnvC scope (cellsFrom (L + 1) scope.names (cloFrom X.env.cells scope.names [])) L X.env)) (compPost _ _ _ _ _ (.ref D) L) { sc with heap := pushCells (sc.heap.push { cls := .type "dict", data := .dict #[] }) scope.names }
  rw [← ece, ← esd]
  exact codeAny_compStart_dict loop (T.self X.A 0 _ _ _ std loop)
end
end JP
namespace JP
open PySem PySem.Spec PyProof.Rows L2
def isV : V → V → Option Bool
  | .non, .non => some true
  | .bl a, .bl b => some (decide (a = b))
  | .non, .bl _ => some false
  | .bl _, .non => some false
  | _, _ => none
def rIsF (neg : Bool) : R2 := fun x y H Q => ∃ b, isV x y = some b ∧ Q (.bl (if neg then !b else b)) H
theorem op_isF {X : Cx} : OpR X (compareOp .Is) (rIsF false) := by
  intro pins s σ H x y v u Q I rx ry h
  obtain ⟨b, e, q⟩ := h
  have fin : ∀ {c : Bool}, Q (.bl c) H → EP X pins σ Q (.bool c) s := fun q => ⟨.bl _, H, I, rfl, q⟩
  unfold isV at e
  split at e
  · cases e
    cases (show v = Value.none from rx)
    cases (show u = Value.none from ry)
    exact wpAny_is_self rfl (fin q)
  · rename_i a c
    cases e
    cases (show v = Value.bool a from rx)
    cases (show u = Value.bool c from ry)
    by_cases z : a = c
    · subst z
      exact wpAny_is_self rfl (fin (by simpa using q))
    · exact wpAny_is_other rfl (fun t => z (Value.bool.inj t)) (fin (by simpa [z] using q))
  · cases e
    cases (show v = Value.none from rx)
    cases (show u = Value.bool _ from ry)
    exact wpAny_is_other rfl (fun t => nomatch t) (fin q)
  · cases e
    cases (show v = Value.bool _ from rx)
    cases (show u = Value.none from ry)
    exact wpAny_is_other rfl (fun t => nomatch t) (fin q)
  · cases e
end JP
namespace PySem
end PySem
namespace PySem
end PySem
namespace JP
open PySem PySem.Spec PyProof.Rows L2
def CpOut (H H1 : Hp) (y z : V) : Prop := (flatV y = true ∧ z = y ∧ H1 = H) ∨ (∃ a xs p, y = .ref a ∧ H a = some (.tup xs) ∧ z = .ref p ∧ Same H H1 ∧ H p = none ∧ H1 p = some (.tup xs)) ∨ (∃ a xs p, y = .ref a ∧ H a = some (.lst xs) ∧ z = .ref p ∧ Same H H1 ∧ H p = none ∧ H1 p = some (.lst xs)) ∨
  (∃ a kvs p, y = .ref a ∧ Rd H a (.dK kvs) ∧ z = .ref p ∧ Same H H1 ∧ H p = none ∧ H1 p = some (.dK kvs))
theorem CpOut.same {H H1 : Hp} {y z : V} (h : CpOut H H1 y z) : Same H H1 := by
  rcases h with ⟨_, _, rfl⟩ | ⟨_, _, _, _, _, _, s, _⟩ | ⟨_, _, _, _, _, _, s, _⟩ | ⟨_, _, _, _, _, _, s, _⟩
  · exact .refl _
  · exact s
  · exact s
  · exact s
end JP
namespace JP
open PySem PySem.Spec PyProof.Rows L2
def kP : Key → PyData
  | .inl i => .int i
  | .inr x => .str x
/-- a flat value as data -/
def vP : V → PyData
  | .bl b => .bool b
  | .int i => .int i
  | .str x => .str x
  | _ => .none
/-- what is shown: plain data, or a dict of one at most -/
inductive Sho (K : PySem.W.Frag) (H : Hp) : V → PyData → Prop
  | plain {v : V} {d : PyData} : Dp K H v d → d.hasDict = false → Sho K H v d
  | dic {a : Addr} {kvs : List (Key × V)} : Rd H a (.dK kvs) → (∀ p ∈ kvs, flatV p.2 = true) → Sho K H (.ref a) (.dict (kvs.map fun p => (kP p.1, vP p.2)))
theorem flat_reads {h : Heap} {v : V} {u : Value} (f : flatV v = true) (r : RelV v u) : Reads h u (vP v) [] := by
  cases v with
  | non => cases r; exact .none
  | bl b => cases r; exact .bool b
  | int i => obtain ⟨t, rfl⟩ := r; exact .int i t
  | str x => obtain ⟨t, rfl⟩ := r; exact .str x t
  | _ => cases f
theorem keys_reads {h : Heap} : ∀ (k : Key) (key : Value), keyIs k key = true → Reads h key (kP k) [] := fun k key e => by
  rcases keyIs_shape e with ⟨i, t, rfl, rfl⟩ | ⟨x, t, rfl, rfl⟩
  · exact .int i t
  · exact .str x t
theorem pairs_reads {h : Heap} : ∀ {kvs : List (Key × V)} {vs : List (Key × Value)}, KV kvs vs → (∀ p ∈ kvs, flatV p.2 = true) → PyProof.V.PairsRead h kP vs (kvs.map fun p => (kP p.1, vP p.2)) [] := by
  intro kvs vs r
  unfold KV at r
  induction r with
  | nil => intro _; exact .nil
  | @cons p q ps qs e t ih =>
    intro hf
    obtain ⟨k, v⟩ := p
    obtain ⟨k', u⟩ := q
    obtain ⟨e1, e2⟩ := e
    dsimp only at e1 e2
    subst e1
    exact .cons (as := []) (bs := []) (flat_reads (hf _ List.mem_cons_self) e2) (ih fun p hp => hf p (List.mem_cons_of_mem _ hp))
section
variable {X : Cx} {pins : List (Addr × Obj)} {σ : L2.St} {H : Hp} {s : Shared}
theorem Sho.reads {v : V} {u : Value} {d : PyData} (I : Inv X pins σ H s) (h : Sho X.K H v d) (r : RelV v u) : ∃ as, Reads s.heap u d as ∧ (d.hasDict = true → sysModules ∉ as) := by
  cases h with
  | plain h n =>
    obtain ⟨as, q⟩ := Dp.reads I d v u h r
    exact ⟨as, q, fun z => by rw [n] at z; cases z⟩
  | @dic a kvs h f =>
    cases r
    obtain ⟨_, hd, vs, rel, dd⟩ := dk_rd I.hok h
    refine ⟨[a], PyProof.V.reads_dictOf (enc := kP) keys_reads dd (pairs_reads rel f), fun _ hm => ?_⟩
    rw [List.mem_singleton.mp hm] at hd
    exact absurd hd (by simp)
end
end JP
namespace JP
open PySem PySem.Spec PyProof.Rows L2
abbrev Row := List PySem.Leaf
def lV : PySem.Leaf → V
  | .none => .non
  | .num i => .int i
  | .text x => .str x
/-- key, the key's tuple, value -/
abbrev EntN := List (Row × Addr × V)
abbrev RelN : EntN → List (Row × Addr × Value) → Prop := Paired fun p q => p.1 = q.1 ∧ p.2.1 = q.2.1 ∧ RelV p.2.2 q.2.2
/-- at d stands such a dict -/
def dnO (hf : Row → Int) (d : Addr) (es : EntN) : HO := .ext fun h => es.length ≤ sizeLine ∧ (d == sysModules) = false ∧ (es.map (·.1)).Nodup ∧
  ∃ xs, RelN es xs ∧ ∃ o ents ep, h.get? d = some o ∧ o.ExactDict ∧ o.data = .dict ents ep ∧ ents.toList = xs.map fun x => (⟨hf x.1, .ref x.2.1, x.2.2⟩ : DictEntry)
/-- the keys' tuples stand where they are told -/
def KsN (H : Hp) (es : EntN) : Prop := ∀ p ∈ es, H p.2.1 = some (.tup (p.1.map lV))
theorem KsN.same {H H' : Hp} {es : EntN} (s : Same H H') (k : KsN H es) : KsN H' es := fun p hp => s _ _ (k p hp)
def valN (es : EntN) (k : Row) : Option V := (es.find? fun p => decide (p.1 = k)).map (·.2.2)
def putN (es : EntN) (k : Row) (b : Addr) (v : V) : EntN := if (valN es k).isSome = true then es.map (fun p => if p.1 = k then (p.1, p.2.1, v) else p) else es ++ [(k, b, v)]
section
variable {P : Program} {w : World} {H : Hp} {h : Heap} {d a : Addr} {es : EntN} {xs : List (Row × Addr × Value)} {k : Row}
theorem RelN.val (r : RelN es xs) (k : Row) : RelO (valN es k) ((atKey xs k).map (·.2)) := by
  induction r with
  | nil => exact True.intro
  | @cons p q ps qs h t ih =>
    obtain ⟨h1, _, h2⟩ := h
    by_cases e : p.1 = k
    · have e' : q.1 = k := h1.symm.trans e
      have b1 : valN (p :: ps) k = some p.2.2 := by simp [valN, List.find?_cons, e]
      have b2 : atKey (q :: qs) k = some q.2 := by simp [atKey, List.find?_cons, e']
      rw [b1, b2]
      exact h2
    · have e' : ¬ q.1 = k := fun z => e (h1.trans z)
      have b1 : valN (p :: ps) k = valN ps k := by simp [valN, List.find?_cons, e]
      have b2 : atKey (q :: qs) k = atKey qs k := by simp [atKey, List.find?_cons, e']
      rw [b1, b2]
      exact ih
theorem RelN.repl (r : RelN es xs) (k : Row) {y : V} {u : Value} (ry : RelV y u) : RelN (es.map fun p => if p.1 = k then (p.1, p.2.1, y) else p) (xs.map (putAt k u)) := by
  induction r with
  | nil => exact .nil
  | @cons p q ps qs h t ih =>
    rw [List.map_cons, List.map_cons]
    refine .cons ?_ ih
    obtain ⟨h1, h2, h3⟩ := h
    unfold putAt
    by_cases e : p.1 = k
    · rw [if_pos e, if_pos (h1.symm.trans e)]
      exact ⟨h1, h2, ry⟩
    · rw [if_neg e, if_neg fun z => e (h1.trans z)]
      exact ⟨h1, h2, h3⟩
theorem RelN.put (r : RelN es xs) (k : Row) (b : Addr) {y : V} {u : Value} (ry : RelV y u) : RelN (putN es k b y) (storedH xs k b u) := by
  have e : (valN es k).isSome = (atKey xs k).isSome := by rw [(r.val k).isSome_eq, Option.isSome_map]
  unfold putN storedH
  rw [e]
  by_cases q : (atKey xs k).isSome = true
  · rw [if_pos q, if_pos q]
    exact r.repl k ry
  · rw [if_neg q, if_neg q]
    exact Paired.snoc r ⟨rfl, rfl, ry⟩
theorem KsN.put (ks : KsN H es) {b : Addr} {v : V} (hb : H b = some (.tup (k.map lV))) : KsN H (putN es k b v) := fun p hp => by
  unfold putN at hp
  split at hp
  · obtain ⟨q, hq, rfl⟩ := List.mem_map.mp hp
    have := ks q hq
    split <;> exact this
  · rcases List.mem_append.mp hp with hp | hp
    · exact ks p hp
    · rw [List.mem_singleton.mp hp]
      exact hb
end
end JP
namespace JP
open PySem PySem.Spec PyProof.Rows L2
section
variable {X : Cx} {o i e f value : Expr} {pos pos' tpos apos cpos : Pos} {td ty tv tx : TE}
/-- what is made stays as it is: it is read, never written -/
theorem pe_frz {t : TE} (h : PE X e t) : PE X e (fun σ H Q => t σ H fun x H1 => ∃ a u, x = .ref a ∧ H1 a = some u ∧ Mut (some u) ∧ ∀ o, Q x (upd H1 a (.frz o u))) := by
  refine ⟨fun pins s σ H Q I hw => ?_⟩
  refine thn (h.run pins s σ _ _ I hw) fun v s1 ⟨x, H1, I2, r, a, u, ex, ha, mu, q⟩ => ?_
  obtain ⟨o, I3⟩ := I2.lock ha mu
  exact ⟨x, _, I3, r, q o⟩
end
end JP
namespace JP
open PySem PySem.Spec PyProof.Rows L2
/-- a leaf as it may stand: True, False too -/
inductive LeafV : V → PySem.Leaf → Prop
  | non : LeafV .non .none
  | int (i : Int) : LeafV (.int i) (.num i)
  | bl (b : Bool) : LeafV (.bl b) (.num (if b = true then 1 else 0))
  | str (x : Str) : LeafV (.str x) (.text x)
inductive LeafVs : List V → Row → Prop
  | nil : LeafVs [] []
  | cons {v : V} {vs : List V} {k : PySem.Leaf} {ks : Row} : LeafV v k → LeafVs vs ks → LeafVs (v :: vs) (k :: ks)
/-- at b stands the key k -/
def KeyA (H : Hp) (b : Addr) (k : Row) : Prop := ∃ vs, H b = some (.tup vs) ∧ LeafVs vs k
theorem KeyA.same {H H' : Hp} {b : Addr} {k : Row} (s : Same H H') : KeyA H b k → KeyA H' b k := fun ⟨vs, e, l⟩ => ⟨vs, s _ _ e, l⟩
def KsG (H : Hp) (es : EntN) : Prop := ∀ p ∈ es, KeyA H p.2.1 p.1
theorem KsG.same {H H' : Hp} {es : EntN} (s : Same H H') (k : KsG H es) : KsG H' es := fun p hp => (k p hp).same s
section
variable {P : Program} {w : World} {H : Hp} {h : Heap} {d a : Addr} {es : EntN} {k : Row}
theorem KsG.put (ks : KsG H es) {b : Addr} {v : V} (hb : KeyA H b k) : KsG H (putN es k b v) := fun p hp => by
  unfold putN at hp
  split at hp
  · obtain ⟨q, hq, rfl⟩ := List.mem_map.mp hp
    have := ks q hq
    split <;> exact this
  · rcases List.mem_append.mp hp with hp | hp
    · exact ks p hp
    · rw [List.mem_singleton.mp hp]
      exact hb
end
end JP
namespace JP
open PySem PySem.Spec PyProof.Rows L2
inductive D where
  | non | bl (b : Bool) | int (i : Int) | str (x : Str) | ty (n : String) | adr (a : Addr)
  | tup (ds : List D) | lst (ds : List D) | scr (ns : List Int) | ins (C : Addr) (fs : List (Str × D)) | exc (C : Addr) (fs : List (Str × D)) | dic (kvs : List (D × D)) | dit (kvs : List (D × D)) | dif (kvs : List (D × D)) | dln (hf : Row → Int) (kvs : List (Row × D)) | dlb (hf : Row → Int) (kvs : List (List D × D)) | ptu (ds : List D)
instance : Inhabited D := ⟨.non⟩
/-- a leaf, True and False too -/
def lfB : D → Option PySem.Leaf
  | .non => some .none
  | .bl b => some (.num (if b = true then 1 else 0))
  | .int i => some (.num i)
  | .str x => some (.text x)
  | _ => none
def lfsB : List D → Option Row
  | [] => some []
  | d :: ds => match lfB d, lfsB ds with | some k, some ks => some (k :: ks) | _, _ => none
def kD : Key → D
  | .inl i => .int i
  | .inr x => .str x
def tyNames : List String := ["int", "str", "bool", "list", "tuple", "dict", "set", "bytes", "float"]
/-- an own class whose instances are told apart -/
structure GoodC (K : PySem.W.Frag) (C : Addr) : Prop where
  cl : Cls K C
  ca : PySem.W.findIn K (.ref C) "__class__" = some (some (.builtin "object.__class__"))
  sg : PySem.W.specialIn K (.builtin "object.__class__") "__get__" = some (some (.builtin "getset_descriptor.__get__"))
  tk : PySem.W.takesIn K (.builtin "object.__class__") = some true
  mr : PySem.W.mroIn K C (.type "object") = some true
  kt : ∀ n ∈ tyNames, PySem.W.kitOne K (.ref C) (.type n) = some false
mutual
/-- the value v stands for d in the part F of the heap that stays -/
inductive Rep (K : PySem.W.Frag) (F : Hp) : V → D → Prop
  | non : Rep K F .non .non
  | bl (b : Bool) : Rep K F (.bl b) (.bl b)
  | int (i : Int) : Rep K F (.int i) (.int i)
  | str (x : Str) : Rep K F (.str x) (.str x)
  | ty (n : String) : Rep K F (.ty n) (.ty n)
  | adr (a : Addr) : Rep K F (.ref a) (.adr a)
  | tup {a : Addr} {xs : List V} {ds : List D} : F a = some (.tup xs) → RepAll K F xs ds → Rep K F (.ref a) (.tup ds)
  | lst {a : Addr} {xs : List V} {ds : List D} : F a = some (.lst xs) → RepAll K F xs ds → Rep K F (.ref a) (.lst ds)
  | scr {a : Addr} {ns : List Int} : SqL K F a (ns.map V.int) → Rep K F (.ref a) (.scr ns)
  | ins {a C dx : Addr} {fs : List (Str × V)} {ds : List (Str × D)} : F a = some (.ins C dx fs) → GoodC K C → (∀ p ∈ ds, NoAttr K C p.1) → RepF K F fs ds → Rep K F (.ref a) (.ins C ds)
  | exc {a C : Addr} {fs : List (Str × V)} {ds : List (Str × D)} : Held F a C fs → ExcC K C → RepF K F fs ds → Rep K F (.ref a) (.exc C ds)
  | dk {a : Addr} {kvs : List (Key × V)} {ds : List (D × D)} : Rd F a (.dK kvs) → RepK K F kvs ds → Rep K F (.ref a) (.dic ds)
  | dt {a : Addr} {kvs : List (List Key × V)} {ds : List (D × D)} : F a = some (.dT kvs) → RepT K F kvs ds → Rep K F (.ref a) (.dit ds)
  | df {a : Addr} {o : Obj} {kvs : List (Key × V)} {ds : List (D × D)} : F a = some (.frz o (.dK kvs)) → RepK K F kvs ds → Rep K F (.ref a) (.dif ds)
  | dn {a : Addr} {o : Obj} {hf : Row → Int} {es : EntN} {ds : List (Row × D)} : F a = some (.frz o (dnO hf a es)) → KsN F es → RepN K F es ds → Rep K F (.ref a) (.dln hf ds)
  | db {a : Addr} {o : Obj} {hf : Row → Int} {es : EntN} {ds : List (List D × D)} : F a = some (.frz o (dnO hf a es)) → RepB K F es ds → Rep K F (.ref a) (.dlb hf ds)
  | pt {a : Addr} {o : Obj} {xs : List V} {ds : List D} : F a = some (.frz o (.tup xs)) → o.dict = none → RepAll K F xs ds → Rep K F (.ref a) (.ptu ds)
inductive RepAll (K : PySem.W.Frag) (F : Hp) : List V → List D → Prop
  | nil : RepAll K F [] []
  | cons {v : V} {vs : List V} {d : D} {ds : List D} : Rep K F v d → RepAll K F vs ds → RepAll K F (v :: vs) (d :: ds)
inductive RepF (K : PySem.W.Frag) (F : Hp) : List (Str × V) → List (Str × D) → Prop
  | nil : RepF K F [] []
  | cons {f : Str} {v : V} {vs : List (Str × V)} {d : D} {ds : List (Str × D)} : Rep K F v d → RepF K F vs ds → RepF K F ((f, v) :: vs) ((f, d) :: ds)
inductive RepK (K : PySem.W.Frag) (F : Hp) : List (Key × V) → List (D × D) → Prop
  | nil : RepK K F [] []
  | cons {k : Key} {v : V} {vs : List (Key × V)} {d : D} {ds : List (D × D)} : Rep K F v d → RepK K F vs ds → RepK K F ((k, v) :: vs) ((kD k, d) :: ds)
inductive RepT (K : PySem.W.Frag) (F : Hp) : List (List Key × V) → List (D × D) → Prop
  | nil : RepT K F [] []
  | cons {k : List Key} {v : V} {vs : List (List Key × V)} {d : D} {ds : List (D × D)} : Rep K F v d → RepT K F vs ds → RepT K F ((k, v) :: vs) ((.tup (k.map kD), d) :: ds)
inductive RepN (K : PySem.W.Frag) (F : Hp) : EntN → List (Row × D) → Prop
  | nil : RepN K F [] []
  | cons {k : Row} {b : Addr} {v : V} {vs : EntN} {d : D} {ds : List (Row × D)} : Rep K F v d → RepN K F vs ds → RepN K F ((k, b, v) :: vs) ((k, d) :: ds)
inductive RepB (K : PySem.W.Frag) (F : Hp) : EntN → List (List D × D) → Prop
  | nil : RepB K F [] []
  | cons {k : Row} {b : Addr} {v : V} {vs : EntN} {xs : List V} {kd : List D} {d : D} {ds : List (List D × D)} : F b = some (.tup xs) → RepAll K F xs kd → lfsB kd = some k → Rep K F v d → RepB K F vs ds → RepB K F ((k, b, v) :: vs) ((kd, d) :: ds)
end
section
variable {K : PySem.W.Frag} {F F' : Hp}
theorem Held.same {F F' : Hp} {a C : Addr} {fs : List (Str × V)} (s : Same F F') (h : Held F a C fs) : Held F' a C fs := by
  rcases h with ⟨d, h1, h2⟩ | ⟨e, h1⟩
  · exact .inl ⟨d, s _ _ h1, s _ _ h2⟩
  · exact .inr ⟨e, s _ _ h1⟩
theorem Rd.same {F F' : Hp} {a : Addr} {u : HO} (s : Same F F') (h : Rd F a u) : Rd F' a u := by
  rcases h with h | ⟨o, h⟩
  · exact .inl (s _ _ h)
  · exact .inr ⟨o, s _ _ h⟩
mutual
theorem Rep.mono (s : Same F F') : ∀ {v : V} {d : D}, Rep K F v d → Rep K F' v d
  | _, _, .non => .non
  | _, _, .bl b => .bl b
  | _, _, .int i => .int i
  | _, _, .str x => .str x
  | _, _, .ty n => .ty n
  | _, _, .adr a => .adr a
  | _, _, .tup h r => .tup (s _ _ h) (RepAll.mono s r)
  | _, _, .lst h r => .lst (s _ _ h) (RepAll.mono s r)
  | _, _, .scr h => .scr (same_seqL' s h)
  | _, _, .ins h g n r => .ins (s _ _ h) g n (RepF.mono s r)
  | _, _, .exc h g r => .exc (h.same s) g (RepF.mono s r)
  | _, _, .dk h r => .dk (Rd.same s h) (RepK.mono s r)
  | _, _, .dt h r => .dt (s _ _ h) (RepT.mono s r)
  | _, _, .df h r => .df (s _ _ h) (RepK.mono s r)
  | _, _, .dn h k r => .dn (s _ _ h) (k.same s) (RepN.mono s r)
  | _, _, .db h r => .db (s _ _ h) (RepB.mono s r)
  | _, _, .pt h e r => .pt (s _ _ h) e (RepAll.mono s r)
theorem RepAll.mono (s : Same F F') : ∀ {vs : List V} {ds : List D}, RepAll K F vs ds → RepAll K F' vs ds
  | _, _, .nil => .nil
  | _, _, .cons h r => .cons (Rep.mono s h) (RepAll.mono s r)
theorem RepF.mono (s : Same F F') : ∀ {vs : List (Str × V)} {ds : List (Str × D)}, RepF K F vs ds → RepF K F' vs ds
  | _, _, .nil => .nil
  | _, _, .cons h r => .cons (Rep.mono s h) (RepF.mono s r)
theorem RepK.mono (s : Same F F') : ∀ {vs : List (Key × V)} {ds : List (D × D)}, RepK K F vs ds → RepK K F' vs ds
  | _, _, .nil => .nil
  | _, _, .cons h r => .cons (Rep.mono s h) (RepK.mono s r)
theorem RepT.mono (s : Same F F') : ∀ {vs : List (List Key × V)} {ds : List (D × D)}, RepT K F vs ds → RepT K F' vs ds
  | _, _, .nil => .nil
  | _, _, .cons h r => .cons (Rep.mono s h) (RepT.mono s r)
theorem RepN.mono (s : Same F F') : ∀ {vs : EntN} {ds : List (Row × D)}, RepN K F vs ds → RepN K F' vs ds
  | _, _, .nil => .nil
  | _, _, .cons h r => .cons (Rep.mono s h) (RepN.mono s r)
theorem RepB.mono (s : Same F F') : ∀ {vs : EntN} {ds : List (List D × D)}, RepB K F vs ds → RepB K F' vs ds
  | _, _, .nil => .nil
  | _, _, .cons e ra l h r => .cons (s _ _ e) (RepAll.mono s ra) l (Rep.mono s h) (RepB.mono s r)
end
theorem RepAll.length : ∀ {vs : List V} {ds : List D}, RepAll K F vs ds → vs.length = ds.length
  | _, _, .nil => rfl
  | _, _, .cons _ r => congrArg (· + 1) (RepAll.length r)
theorem RepAll.append : ∀ {vs us : List V} {ds es : List D}, RepAll K F vs ds → RepAll K F us es → RepAll K F (vs ++ us) (ds ++ es)
  | _, _, _, _, .nil, q => q
  | _, _, _, _, .cons h r, q => .cons h (RepAll.append r q)
theorem RepAll.get : ∀ {vs : List V} {ds : List D} {i : Nat} {d : D}, RepAll K F vs ds → ds[i]? = some d → ∃ v, vs[i]? = some v ∧ Rep K F v d
  | _, _, _, _, .nil, e => by simp at e
  | _, _, 0, _, .cons h _, e => by
    cases e
    exact ⟨_, rfl, h⟩
  | _, _, i + 1, _, .cons _ r, e => RepAll.get (i := i) r e
theorem RepAll.get' : ∀ {vs : List V} {ds : List D} {i : Nat} {v : V}, RepAll K F vs ds → vs[i]? = some v → ∃ d, ds[i]? = some d ∧ Rep K F v d
  | _, _, _, _, .nil, e => by simp at e
  | _, _, 0, _, .cons h _, e => by
    cases e
    exact ⟨_, rfl, h⟩
  | _, _, i + 1, _, .cons _ r, e => RepAll.get' (i := i) r e
theorem RepAll.take : ∀ {vs : List V} {ds : List D} (n : Nat), RepAll K F vs ds → RepAll K F (vs.take n) (ds.take n)
  | _, _, 0, _ => .nil
  | _, _, _ + 1, .nil => .nil
  | _, _, n + 1, .cons h r => .cons h (RepAll.take n r)
theorem RepAll.drop : ∀ {vs : List V} {ds : List D} (n : Nat), RepAll K F vs ds → RepAll K F (vs.drop n) (ds.drop n)
  | _, _, 0, r => r
  | _, _, _ + 1, .nil => .nil
  | _, _, n + 1, .cons _ r => RepAll.drop n r
theorem RepF.look : ∀ {vs : List (Str × V)} {ds : List (Str × D)} {f : Str} {d : D}, RepF K F vs ds → ds.lookup f = some d → ∃ v, vs.lookup f = some v ∧ Rep K F v d
  | _, _, _, _, .nil, e => by simp at e
  | _, _, g, _, .cons (f := f) h r, e => by
    rw [List.lookup_cons] at e ⊢
    cases q : g == f with
    | true =>
      rw [q] at e
      cases e
      exact ⟨_, rfl, h⟩
    | false =>
      rw [q] at e
      exact RepF.look r e
theorem RepF.lookN : ∀ {vs : List (Str × V)} {ds : List (Str × D)} {f : Str}, RepF K F vs ds → ds.lookup f = none → vs.lookup f = none
  | _, _, _, .nil, _ => rfl
  | _, _, g, .cons (f := f) h r, e => by
    rw [List.lookup_cons] at e ⊢
    cases q : g == f with
    | true =>
      rw [q] at e
      cases e
    | false =>
      rw [q] at e
      exact RepF.lookN r e
theorem RepF.length : ∀ {vs : List (Str × V)} {ds : List (Str × D)}, RepF K F vs ds → vs.length = ds.length
  | _, _, .nil => rfl
  | _, _, .cons _ r => congrArg (· + 1) (RepF.length r)
/-- a field is stored -/
def putD (f : Str) (d : D) : List (Str × D) → List (Str × D)
  | [] => [(f, d)]
  | (g, e) :: r => if g = f then (f, d) :: r else (g, e) :: putD f d r
theorem repAll_ints : ∀ ns : List Int, RepAll K F (ns.map V.int) (ns.map D.int)
  | [] => .nil
  | n :: ns => .cons (.int n) (repAll_ints ns)
end
inductive MO where
  | lst (ds : List D) | ins (C : Addr) (fs : List (Str × D)) | dic (kvs : List (D × D)) | dln (hf : Row → Int) (kvs : List (Row × D)) | dlb (hf : Row → Int) (kvs : List (List D × D)) | pen (m : Nat)
abbrev Gm := Addr → Option MO
def updG (G : Gm) (a : Addr) (m : MO) : Gm := fun b => if b = a then some m else G b
def delG (G : Gm) (a : Addr) : Gm := fun b => if b = a then none else G b
theorem updG_same {G : Gm} {a : Addr} {m : MO} : updG G a m a = some m := by unfold updG; rw [if_pos rfl]
theorem updG_ne {G : Gm} {a b : Addr} {m : MO} (h : b ≠ a) : updG G a m b = G b := by unfold updG; rw [if_neg h]
theorem updG_updG {G : Gm} {a : Addr} {m n : MO} : updG (updG G a m) a n = updG G a n := by
  funext b; unfold updG; split <;> rfl
theorem updG_self {G : Gm} {a : Addr} {m : MO} (h : G a = some m) : updG G a m = G := by
  funext b; unfold updG; split
  · rename_i e; rw [e, h]
  · rfl
theorem delG_same {G : Gm} {a : Addr} : delG G a a = none := by unfold delG; rw [if_pos rfl]
theorem delG_ne {G : Gm} {a b : Addr} (h : b ≠ a) : delG G a b = G b := by unfold delG; rw [if_neg h]
theorem delG_updG {G : Gm} {a : Addr} {m : MO} (h : G a = none) : delG (updG G a m) a = G := by
  funext b; unfold delG updG; split
  · rename_i e; rw [e, h]
  · rfl
def MRep (K : PySem.W.Frag) (F H : Hp) (a : Addr) : MO → Prop
  | .lst ds => ∃ xs, H a = some (.lst xs) ∧ RepAll K F xs ds
  | .ins C fs => ∃ dx fv, H a = some (.ins C dx fv) ∧ GoodC K C ∧ (∀ p ∈ fs, NoAttr K C p.1) ∧ RepF K F fv fs
  | .dic kvs => ∃ ks, H a = some (.dK ks) ∧ RepK K F ks kvs
  | .dln hf kvs => ∃ es, H a = some (dnO hf a es) ∧ KsN F es ∧ RepN K F es kvs
  | .dlb hf kvs => ∃ es, H a = some (dnO hf a es) ∧ RepB K F es kvs
  | .pen m => ∃ (c : Addr) (ns : List Int) (n g : Int), H a = some (.lst [.ref c, .int n, .int g]) ∧ F c = some (.lst (ns.map V.int)) ∧ ns.length ≤ 63 ∧ 0 ≤ n ∧ n ≤ m ∧ 0 ≤ g
/-- a heap of one kind of object alone -/
theorem heap_of (o : Obj) (nf : ∀ a, (({ objs := #[] } : Heap).push o).get? a = some o → True) : ∀ n : Nat, ∃ h : Heap, h.objs.size = n ∧ ∀ b u, h.get? b = some u → u = o
  | 0 => ⟨{ objs := #[] }, rfl, fun b u e => by simp [Heap.get?] at e⟩
  | n + 1 => by
    obtain ⟨h, e, k⟩ := heap_of o nf n
    refine ⟨h.push o, (Heap.size_push ..).trans (by rw [e]), fun b u q => ?_⟩
    rcases Heap.get?_push_cases q with ⟨_, q⟩ | q
    · exact q
    · exact k b u q
/-- what is true of a heap without dicts is not what a dict's place tells -/
theorem not_dn {φ : Heap → Prop} {hf : Row → Int} {d : Addr} {es : EntN} (c : Addr) (o : Obj) (nf : o.isFreed = false) (nd : ∀ e p, o.data ≠ .dict e p) (hφ : ∀ h : Heap, h.get? c = some o → φ h) : HO.ext φ ≠ dnO hf d es := fun z => by
  obtain ⟨h, hz, hk⟩ := heap_of o (fun _ _ => trivial) c
  have hc : (h.push o).get? c = some o := by
    rw [← hz]
    exact Heap.get?_push_size _ nf
  have hall : ∀ b u, (h.push o).get? b = some u → u = o := fun b u q => by
    rcases Heap.get?_push_cases q with ⟨_, q⟩ | q
    · exact q
    · exact hk b u q
  have e : φ = fun h => es.length ≤ sizeLine ∧ (d == sysModules) = false ∧ (es.map (·.1)).Nodup ∧
      ∃ xs, RelN es xs ∧ ∃ o ents ep, h.get? d = some o ∧ o.ExactDict ∧ o.data = .dict ents ep ∧ ents.toList = xs.map fun x => (⟨hf x.1, .ref x.2.1, x.2.2⟩ : DictEntry) := by
    unfold dnO at z
    injection z
  have t := hφ (h.push o) hc
  rw [e] at t
  obtain ⟨_, _, _, xs, _, o', ents, ep, q1, _, q2, _⟩ := t
  rw [hall _ _ q1] at q2
  exact nd _ _ q2
def mutO : HO → Prop
  | .lst _ => True
  | .ins _ _ _ => True
  | .dK _ => True
  | .dT _ => True
  | .ext φ => ∃ hf d es, HO.ext φ = dnO hf d es
  | _ => False
theorem codeO_notM {c : Addr} {q : Str} : ¬ mutO (LamX.CodeO c q) := fun h => by
  obtain ⟨hf, d, es, e⟩ := (show ∃ hf d es, LamX.CodeO c q = dnO hf d es from h)
  exact not_dn c { cls := .none, data := .fields #[.none, .str q 1] } rfl (fun _ _ z => by cases z) (fun h hc => ⟨_, _, 1, hc, rfl, rfl⟩) e
theorem mut_dn {hf : Row → Int} {d : Addr} {es : EntN} : mutO (dnO hf d es) := ⟨hf, d, es, rfl⟩
def notT : HO → Prop
  | .tbl _ => False
  | _ => True
theorem _root_.LamX.Tabs.but {T : List (Addr × Str)} {H : Hp} {o : HO} (t : LamX.Tabs T H) (a : Addr) (h : ∀ ps, H a = some (.tbl ps) → False) (h2 : ∀ c q, H a = some (LamX.CodeO c q) → False) : LamX.Tabs T (upd H a o) := fun p hp => by
  obtain ⟨ps, h1, h3, h4⟩ := t p hp
  have n1 : p.1 ≠ a := fun e => h ps (by rw [← e]; exact h1)
  refine ⟨ps, (upd_ne n1).trans h1, h3, fun pos cv hc => ?_⟩
  obtain ⟨c, e1, e2⟩ := h4 pos cv hc
  have n2 : c ≠ a := fun e => h2 _ _ (by rw [← e]; exact e2)
  exact ⟨c, e1, (upd_ne n2).trans e2⟩
section
variable {K : PySem.W.Frag} {Tb : List (Addr × Str)} {F F' H H' Z : Hp} {G : Gm} {a : Addr} {m : MO}
theorem MRep.at_ (h : MRep K F H a m) : ∃ o, H a = some o ∧ mutO o := by
  cases m with
  | lst ds => obtain ⟨xs, e, _⟩ := h; exact ⟨_, e, trivial⟩
  | ins C fs => obtain ⟨dx, fv, e, _⟩ := h; exact ⟨_, e, trivial⟩
  | dic kvs => obtain ⟨ks, e, _⟩ := h; exact ⟨_, e, trivial⟩
  | dln hf kvs => obtain ⟨es, e, _⟩ := h; exact ⟨_, e, mut_dn⟩
  | dlb hf kvs => obtain ⟨es, e, _⟩ := h; exact ⟨_, e, mut_dn⟩
  | pen m => obtain ⟨c, ns, n, g, e, _⟩ := h; exact ⟨_, e, trivial⟩
theorem MRep.mono (s : Same F F') (e : ∀ o, H a = some o → H' a = some o) (h : MRep K F H a m) : MRep K F' H' a m := by
  cases m with
  | lst ds => obtain ⟨xs, q, r⟩ := h; exact ⟨xs, e _ q, r.mono s⟩
  | ins C fs => obtain ⟨dx, fv, q, g, n, r⟩ := h; exact ⟨dx, fv, e _ q, g, n, r.mono s⟩
  | dic kvs => obtain ⟨ks, q, r⟩ := h; exact ⟨ks, e _ q, r.mono s⟩
  | dln hf kvs => obtain ⟨es, q, k, r⟩ := h; exact ⟨es, e _ q, k.same s, r.mono s⟩
  | dlb hf kvs => obtain ⟨es, q, r⟩ := h; exact ⟨es, e _ q, r.mono s⟩
  | pen m => obtain ⟨c, ns, n, g, q, r, t⟩ := h; exact ⟨c, ns, n, g, e _ q, s _ _ r, t⟩
/-- the heap: F stays, G may change, Z is the callers' own that may change but not here; Tb: tables of code objects that grow -/
structure DS (K : PySem.W.Frag) (Tb : List (Addr × Str)) (F H : Hp) (G : Gm) (Z : Hp) : Prop where
  sub : Same F H
  mu : ∀ a m, G a = some m → F a = none ∧ MRep K F H a m
  zub : Same Z H
  zf : ∀ a o, Z a = some o → F a = none ∧ G a = none ∧ mutO o
  ft : ∀ a o, F a = some o → notT o
  tab : LamX.Tabs Tb H
theorem DS.same (d : DS K Tb F H G Z) (s : Same H H') : DS K Tb F H' G Z :=
  ⟨d.sub.trans s, fun a m e => ⟨(d.mu a m e).1, (d.mu a m e).2.mono (.refl F) fun o q => s _ _ q⟩, d.zub.trans s, d.zf, d.ft, d.tab.ext s⟩
theorem DS.frz {o : HO} (d : DS K Tb F H G Z) (h : H a = some o) (g : G a = none) (z : Z a = none) (nt : notT o := by exact trivial) : DS K Tb (upd F a o) H G Z ∧ Same F (upd F a o) := by
  have s : Same F (upd F a o) := fun b u e => by
    by_cases c : b = a
    · subst c
      have := d.sub _ _ e
      rw [h] at this
      cases this
      exact upd_same
    · rw [upd_ne c]
      exact e
  refine ⟨⟨fun b u e => ?_, fun b m e => ?_, d.zub, fun b u e => ?_, fun b u e => ?_, d.tab⟩, s⟩
  · by_cases c : b = a
    · subst c
      rw [upd_same] at e
      cases e
      exact h
    · rw [upd_ne c] at e
      exact d.sub _ _ e
  · have c : b ≠ a := fun c => by rw [c, g] at e; cases e
    exact ⟨(upd_ne c).trans (d.mu b m e).1, (d.mu b m e).2.mono s fun o q => q⟩
  · have c : b ≠ a := fun c => by rw [c, z] at e; cases e
    exact ⟨(upd_ne c).trans (d.zf b u e).1, (d.zf b u e).2⟩
  · by_cases c : b = a
    · subst c
      rw [upd_same] at e
      cases e
      exact nt
    · rw [upd_ne c] at e
      exact d.ft b u e
theorem DS.noG (d : DS K Tb F H G Z) (h : H a = none) : G a = none := by
  cases e : G a with
  | none => rfl
  | some m =>
    obtain ⟨o, q, _⟩ := (d.mu a m e).2.at_
    rw [h] at q
    cases q
theorem DS.noZ (d : DS K Tb F H G Z) (h : H a = none) : Z a = none := by
  cases e : Z a with
  | none => rfl
  | some m =>
    have := d.zub a m e
    rw [h] at this
    cases this
theorem DS.noF (d : DS K Tb F H G Z) (h : H a = none) : F a = none := by
  cases e : F a with
  | none => rfl
  | some m =>
    have := d.sub a m e
    rw [h] at this
    cases this
theorem DS.notM (d : DS K Tb F H G Z) {o : HO} (h : H a = some o) (n : ¬ mutO o) : G a = none ∧ Z a = none := by
  constructor
  · cases e : G a with
    | none => rfl
    | some m =>
      obtain ⟨u, q, k⟩ := (d.mu a m e).2.at_
      rw [h] at q
      cases q
      exact absurd k n
  · cases e : Z a with
    | none => rfl
    | some u =>
      have := d.zub a u e
      rw [h] at this
      cases this
      exact absurd (d.zf a _ e).2.2 n
/-- a new thing that stays -/
theorem DS.new {o : HO} (d : DS K Tb F H G Z) (n : H a = none) (nt : notT o := by exact trivial) : DS K Tb (upd F a o) (upd H a o) G Z ∧ Same F (upd F a o) :=
  (d.same (same_new n)).frz upd_same (d.noG n) (d.noZ n) nt
/-- a thing that was got, new or not -/
theorem DS.got {o : HO} (d : DS K Tb F H G Z) (s : Same H H') (h : H' a = some o) (n : ¬ mutO o) (nt : notT o := by exact trivial) : DS K Tb (upd F a o) H' G Z ∧ Same F (upd F a o) :=
  have d' := d.same s
  d'.frz h (d'.notM h n).1 (d'.notM h n).2 nt
/-- a new thing that may change -/
theorem DS.open {o : HO} (d : DS K Tb F H G Z) (n : H a = none) (r : MRep K F (upd H a o) a m) : DS K Tb F (upd H a o) (updG G a m) Z := by
  have d' := d.same (same_new (o := o) n)
  refine ⟨d'.sub, fun b k e => ?_, d'.zub, fun b u e => ?_, d.ft, d'.tab⟩
  · by_cases c : b = a
    · subst c
      rw [updG_same] at e
      cases e
      exact ⟨d.noF n, r⟩
    · rw [updG_ne c] at e
      exact d'.mu b k e
  · have c : b ≠ a := fun c => by rw [c, d.noZ n] at e; cases e
    exact ⟨(d.zf b u e).1, (updG_ne c).trans (d.zf b u e).2.1, (d.zf b u e).2.2⟩
/-- it is written -/
theorem DS.write {o : HO} {m' : MO} (d : DS K Tb F H G Z) (g : G a = some m) (r : MRep K F (upd H a o) a m') : DS K Tb F (upd H a o) (updG G a m') Z := by
  have hf := (d.mu a m g).1
  have hz : Z a = none := by
    cases e : Z a with
    | none => rfl
    | some u =>
      have := (d.zf a u e).2.1
      rw [g] at this
      cases this
  have keep : ∀ b u, b ≠ a → H b = some u → upd H a o b = some u := fun b u n e => (upd_ne n).trans e
  refine ⟨fun b u e => ?_, fun b k e => ?_, fun b u e => ?_, fun b u e => ?_, d.ft, d.tab.but a (fun ps q => ?_) (fun c0 q0 q => ?_)⟩
  · exact keep b u (fun c => by rw [c, hf] at e; cases e) (d.sub b u e)
  · by_cases c : b = a
    · subst c
      rw [updG_same] at e
      cases e
      exact ⟨hf, r⟩
    · rw [updG_ne c] at e
      exact ⟨(d.mu b k e).1, (d.mu b k e).2.mono (.refl F) fun u q => keep b u c q⟩
  · exact keep b u (fun c => by rw [c, hz] at e; cases e) (d.zub b u e)
  · have c : b ≠ a := fun c => by rw [c, hz] at e; cases e
    exact ⟨(d.zf b u e).1, (updG_ne c).trans (d.zf b u e).2.1, (d.zf b u e).2.2⟩
  · obtain ⟨u, q', k⟩ := (d.mu a m g).2.at_
    rw [q] at q'
    cases q'
    exact k
  · obtain ⟨u, q', k⟩ := (d.mu a m g).2.at_
    rw [q] at q'
    obtain rfl := Option.some.inj q'
    exact codeO_notM k
/-- it is not changed any more -/
theorem DS.close {o : HO} (d : DS K Tb F H G Z) (g : G a = some m) (h : H a = some o) (nt : notT o := by exact trivial) : DS K Tb (upd F a o) H (delG G a) Z ∧ Same F (upd F a o) := by
  have hz : Z a = none := by
    cases e : Z a with
    | none => rfl
    | some u =>
      have := (d.zf a u e).2.1
      rw [g] at this
      cases this
  have d' : DS K Tb F H (delG G a) Z := ⟨d.sub, fun b k e => by
    by_cases c : b = a
    · rw [c, delG_same] at e
      cases e
    · rw [delG_ne c] at e
      exact d.mu b k e, d.zub, fun b u e => by
    have c : b ≠ a := fun c => by rw [c, hz] at e; cases e
    exact ⟨(d.zf b u e).1, (delG_ne c).trans (d.zf b u e).2.1, (d.zf b u e).2.2⟩, d.ft, d.tab⟩
  exact d'.frz h delG_same hz nt
/-- a further thing that is to stay as it is, for a while -/
theorem DS.zadd {o : HO} (d : DS K Tb F H G Z) (h : H a = some o) (f : F a = none) (g : G a = none) (n : mutO o) : DS K Tb F H G (upd Z a o) :=
  ⟨d.sub, d.mu, fun b u e => by
    by_cases c : b = a
    · subst c
      rw [upd_same] at e
      cases e
      exact h
    · rw [upd_ne c] at e
      exact d.zub b u e, fun b u e => by
    by_cases c : b = a
    · subst c
      rw [upd_same] at e
      cases e
      exact ⟨f, g, n⟩
    · rw [upd_ne c] at e
      exact d.zf b u e, d.ft, d.tab⟩
theorem DS.zdel {o : HO} (d : DS K Tb F H G (upd Z a o)) (n : Z a = none) : DS K Tb F H G Z ∧ H a = some o ∧ F a = none ∧ G a = none :=
  have k : ∀ b u, Z b = some u → upd Z a o b = some u := fun b u e => by
    have c : b ≠ a := fun c => by rw [c, n] at e; cases e
    rw [upd_ne c]
    exact e
  ⟨⟨d.sub, d.mu, fun b u e => d.zub b u (k b u e), fun b u e => d.zf b u (k b u e), d.ft, d.tab⟩, d.zub a o upd_same, (d.zf a o upd_same).1, (d.zf a o upd_same).2.1⟩
/-- a thing that nobody knows of is written -/
theorem DS.other {o u : HO} (d : DS K Tb F H G Z) (h : H a = some u) (f : F a = none) (g : G a = none) (z : Z a = none) (mu : mutO u := by exact trivial) : DS K Tb F (upd H a o) G Z :=
  have ne : ∀ {b : Addr} {Y : Hp} {q : HO}, Y a = none → Y b = some q → b ≠ a := fun y e c => by rw [c, y] at e; cases e
  ⟨fun b q e => (upd_ne (ne f e)).trans (d.sub b q e), fun b m e => ⟨(d.mu b m e).1, (d.mu b m e).2.mono (.refl F) fun q t => by
    have c : b ≠ a := fun c => by rw [c, g] at e; cases e
    exact (upd_ne c).trans t⟩, fun b q e => (upd_ne (ne z e)).trans (d.zub b q e), d.zf, d.ft, d.tab.but a (fun ps q => by rw [h] at q; cases q; exact mu) (fun c0 q0 q => by rw [h] at q; obtain rfl := Option.some.inj q; exact codeO_notM mu)⟩
end
abbrev SD := List (Option D)
abbrev QD := D → Gm → Prop
abbrev TED := SD → Gm → QD → Prop
abbrev TTD := SD → Gm → (Bool → Gm → Prop) → Prop
abbrev TAD := SD → Gm → (List D → Gm → Prop) → Prop
/-- the slots -/
structure Sl (K : PySem.W.Frag) (F : Hp) (σ : L2.St) (δ : SD) : Prop where
  len : δ.length = σ.length
  get : ∀ (i : Nat) (d : D), δ[i]? = some (some d) → ∃ v : V, σ[i]? = some (some v) ∧ Rep K F v d
theorem Sl.mono {K : PySem.W.Frag} {F F' : Hp} {σ : L2.St} {δ : SD} (s : Same F F') (h : Sl K F σ δ) : Sl K F' σ δ :=
  ⟨h.len, fun i d e => let ⟨v, e', r⟩ := h.get i d e; ⟨v, e', r.mono s⟩⟩
theorem Sl.set {K : PySem.W.Frag} {F : Hp} {σ : L2.St} {δ : SD} {v : V} {d : D} (h : Sl K F σ δ) (i : Nat) (r : Rep K F v d) : Sl K F (σ.set i (some v)) (δ.set i (some d)) := by
  refine ⟨by simp [h.len], fun j e q => ?_⟩
  rw [List.getElem?_set] at q
  rw [List.getElem?_set]
  by_cases c : i = j
  · subst c
    rw [if_pos rfl] at q ⊢
    split at q
    · rename_i l
      cases q
      rw [if_pos (by rw [← h.len]; exact l)]
      exact ⟨v, rfl, r⟩
    · cases q
  · rw [if_neg c] at q ⊢
    exact h.get j e q
theorem Sl.drop {K : PySem.W.Frag} {F : Hp} {σ : L2.St} {δ : SD} (h : Sl K F σ δ) (i : Nat) (o : Option V) : Sl K F (σ.set i o) (δ.set i none) := by
  refine ⟨by simp [h.len], fun j e q => ?_⟩
  rw [List.getElem?_set] at q
  rw [List.getElem?_set]
  by_cases c : i = j
  · subst c
    rw [if_pos rfl] at q
    split at q <;> cases q
  · rw [if_neg c] at q ⊢
    exact h.get j e q
/-- where the code stands: what stood at the entry, and what is to stay -/
structure Bs where
  F : Hp
  Z : Hp
  T : List (Addr × Str)
/-- the state at δ, G -/
structure Sit (K : PySem.W.Frag) (B : Bs) (σ : L2.St) (H : Hp) (F : Hp) (δ : SD) (G : Gm) : Prop where
  ds : DS K B.T F H G B.Z
  gr : Same B.F F
  sl : Sl K F σ δ
theorem Sit.same {K : PySem.W.Frag} {B : Bs} {σ : L2.St} {H H' F : Hp} {δ : SD} {G : Gm} (S : Sit K B σ H F δ G) (s : Same H H') : Sit K B σ H' F δ G := ⟨S.ds.same s, S.gr, S.sl⟩
/-- behind an expression -/
def Beh (K : PySem.W.Frag) (B : Bs) (σ : L2.St) (F : Hp) (δ : SD) (Qd : QD) (v : V) (H' : Hp) : Prop :=
  ∃ F' G' d, Same F F' ∧ Sit K B σ H' F' δ G' ∧ Rep K F' v d ∧ Qd d G'
def up (K : PySem.W.Frag) (B : Bs) (T : TED) : TE := fun σ H Q => ∃ F G δ Qd, Sit K B σ H F δ G ∧ T δ G Qd ∧ ∀ v H', Beh K B σ F δ Qd v H' → Q v H'
def upT (K : PySem.W.Frag) (B : Bs) (T : TTD) : TT := fun σ H Q => ∃ F G δ Qd, Sit K B σ H F δ G ∧ T δ G Qd ∧ ∀ b H', (∃ F' G', Same F F' ∧ Sit K B σ H' F' δ G' ∧ Qd b G') → Q b H'
def upA (K : PySem.W.Frag) (B : Bs) (T : TAD) : TA := fun σ H Q => ∃ F G δ Qd, Sit K B σ H F δ G ∧ T δ G Qd ∧ ∀ vs H', (∃ F' G' ds, Same F F' ∧ Sit K B σ H' F' δ G' ∧ RepAll K F' vs ds ∧ Qd ds G') → Q vs H'
def DE (X : Cx) (B : Bs) (e : Expr) (T : TED) : Prop := PE X e (up X.K B T)
def DT (X : Cx) (B : Bs) (e : Expr) (T : TTD) : Prop := PT X e (upT X.K B T)
def DW (X : Cx) (B : Bs) (e : Expr) (T : TTD) : Prop := PW X e (upT X.K B T)
def DA (X : Cx) (B : Bs) (es : List Expr) (T : TAD) : Prop := PA X es (upA X.K B T)
section
variable {X : Cx} {B : Bs} {K : PySem.W.Frag}
theorem PE.weak {e : Expr} {t t' : TE} (h : PE X e t) (w : ∀ σ H Q, t' σ H Q → t σ H Q) : PE X e t' := ⟨fun pins s σ H Q I q => h.run pins s σ H Q I (w _ _ _ q)⟩
theorem PT.weak {e : Expr} {t t' : TT} (h : PT X e t) (w : ∀ σ H Q, t' σ H Q → t σ H Q) : PT X e t' := ⟨fun pins s σ H Q I q => h.run pins s σ H Q I (w _ _ _ q)⟩
theorem PW.weak {e : Expr} {t t' : TT} (h : PW X e t) (w : ∀ σ H Q, t' σ H Q → t σ H Q) : PW X e t' := ⟨fun wh pins s σ H Q I q => h.run wh pins s σ H Q I (w _ _ _ q)⟩
theorem PA.weak {e : List Expr} {t t' : TA} (h : PA X e t) (w : ∀ σ H Q, t' σ H Q → t σ H Q) : PA X e t' := ⟨fun pos pins s σ H Q I q => h.run pos pins s σ H Q I (w _ _ _ q)⟩
/-- two in a row -/
theorem up2 {ta tb : TED} {R : D → D → Gm → Prop} {RV : V → V → Hp → Prop} {σ : L2.St} {H F : Hp} {δ : SD} {G : Gm} (S : Sit K B σ H F δ G) (h : ta δ G fun x G1 => tb δ G1 fun y G2 => R x y G2)
    (k : ∀ x y H2 F2 G2 a b, Same F F2 → Sit K B σ H2 F2 δ G2 → Rep K F2 x a → Rep K F2 y b → R a b G2 → RV x y H2) : up K B ta σ H fun x H1 => up K B tb σ H1 fun y H2 => RV x y H2 :=
  ⟨F, G, δ, _, S, h, fun x H1 ⟨F1, G1, a, s1, S1, r1, h1⟩ => ⟨F1, G1, δ, _, S1, h1, fun y H2 ⟨F2, G2, b, s2, S2, r2, h2⟩ => k x y H2 F2 G2 a b (s1.trans s2) S2 (r1.mono s2) r2 h2⟩⟩
/-- the same thing again -/
theorem Beh.end_ {σ : L2.St} {H F F' : Hp} {δ : SD} {G' : Gm} {Qd : QD} {v : V} {d : D} (s : Same F F') (S : Sit K B σ H F' δ G') (r : Rep K F' v d) (q : Qd d G') : Beh K B σ F δ Qd v H := ⟨F', G', d, s, S, r, q⟩
def dVar (i : Nat) : TED := fun δ G Q => match δ[i]? with | some (some d) => Q d G | _ => False
def dC (d : D) : TED := fun _ G Q => Q d G
theorem de_var {i : Nat} {x : Str} {pos : Pos} (hN : X.N[i]? = some x) (hv : Vis X.env.scope x) (hd : (x == ("__debug__" : Str)) = false := by decide) (hcd : (x == ("__classdict__" : Str)) = false := by decide) : DE X B (.Name x pos) (dVar i) :=
  PE.weak (pe_var hN hv hd hcd) fun σ H Q ⟨F, G, δ, Qd, S, h, k⟩ => by
    unfold dVar at h
    split at h
    · rename_i d e
      obtain ⟨v, e', r⟩ := S.sl.get i d e
      exact ⟨v, e', k v H (.end_ (.refl F) S r h)⟩
    · exact h.elim
theorem de_c {e : Expr} {v : V} {d : D} (h : PE X e (tC v)) (r : ∀ F, Rep X.K F v d) : DE X B e (dC d) :=
  PE.weak h fun σ H Q ⟨F, G, δ, Qd, S, h, k⟩ => k v H (.end_ (.refl F) S (r F) h)
theorem de_int {i j pos} : DE X B (.Constant (.int i) j pos) (dC (.int i)) := de_c pe_int fun _ => .int i
theorem de_bl {b j pos} : DE X B (.Constant (.bool b) j pos) (dC (.bl b)) := de_c pe_bl fun _ => .bl b
theorem de_non {j pos} : DE X B (.Constant .none j pos) (dC .non) := de_c pe_non fun _ => .non
theorem de_gint {x : Str} {i : Int} {u : Value} {pos : Pos} (hg : Gl X x) (hm : X.mg x = some u) (r : RelV (.int i) u) (hd : (x == ("__debug__" : Str)) = false := by decide) : DE X B (.Name x pos) (dC (.int i)) := de_c (pe_glob hg hm r hd) fun _ => .int i
abbrev R2D := D → D → Gm → QD → Prop
abbrev R1D := D → Gm → QD → Prop
def dOp (r : R2D) (ta tb : TED) : TED := fun δ G Q => ta δ G fun x G1 => tb δ G1 fun y G2 => r x y G2 Q
def dUn (r : R1D) (ta : TED) : TED := fun δ G Q => ta δ G fun x G1 => r x G1 Q
/-- an operator by the heap's own and by trees -/
def OpA (K : PySem.W.Frag) (rv : R2) (r : R2D) : Prop := ∀ (B : Bs) (σ : L2.St) (δ : SD) (H F : Hp) (G : Gm) (x y : V) (a b : D) (Qd : QD) (Q : VK), Sit K B σ H F δ G → Rep K F x a → Rep K F y b → r a b G Qd → (∀ v H', Beh K B σ F δ Qd v H' → Q v H') → rv x y H Q
theorem de_op {op : Operator} {rv : R2} {r : R2D} {a b : Expr} {ta tb : TED} {pos : Pos} (ho : OpR X (binaryOp op) rv) (hA : OpA X.K rv r) (ha : DE X B a ta) (hb : DE X B b tb) : DE X B (.BinOp a op b pos) (dOp r ta tb) :=
  PE.weak (pe_op ho ha hb) fun σ H Q ⟨F, G, δ, Qd, S, h, k⟩ => up2 S h fun x y H2 F2 G2 d e s2 S2 r1 r2 h2 => hA B σ δ H2 F2 G2 x y d e Qd Q S2 r1 r2 h2 fun v H' ⟨F', G', d', s', S', r', q'⟩ => k v H' ⟨F', G', d', s2.trans s', S', r', q'⟩
theorem de_cmp {op : CmpOp} {rv : R2} {r : R2D} {a b : Expr} {ta tb : TED} {pos : Pos} (ho : OpR X (compareOp op) rv) (hA : OpA X.K rv r) (ha : DE X B a ta) (hb : DE X B b tb) (hm : behindInMarks op b = false) : DE X B (.Compare a [op] [b] pos) (dOp r ta tb) :=
  PE.weak (pe_cmpR ho ha hb hm) fun σ H Q ⟨F, G, δ, Qd, S, h, k⟩ => up2 S h fun x y H2 F2 G2 d e s2 S2 r1 r2 h2 => hA B σ δ H2 F2 G2 x y d e Qd Q S2 r1 r2 h2 fun v H' ⟨F', G', d', s', S', r', q'⟩ => k v H' ⟨F', G', d', s2.trans s', S', r', q'⟩
theorem de_ix {rv : R2} {r : R2D} {a b : Expr} {ta tb : TED} {pos : Pos} (ho : IxR X rv) (hA : OpA X.K rv r) (ha : DE X B a ta) (hb : DE X B b tb) (hs : PlainIx b) : DE X B (.Subscript a b pos) (dOp r ta tb) :=
  PE.weak (pe_ix ho ha hb hs) fun σ H Q ⟨F, G, δ, Qd, S, h, k⟩ => up2 S h fun x y H2 F2 G2 d e s2 S2 r1 r2 h2 => hA B σ δ H2 F2 G2 x y d e Qd Q S2 r1 r2 h2 fun v H' ⟨F', G', d', s', S', r', q'⟩ => k v H' ⟨F', G', d', s2.trans s', S', r', q'⟩
/-- a test out of a value -/
def dTest (t : TED) : TTD := fun δ G Q => t δ G fun x G' => match x with | .bl b => Q b G' | _ => False
theorem rep_bl {F : Hp} {v : V} {b : Bool} (r : Rep K F v (.bl b)) : v = .bl b := by cases r; rfl
theorem rep_int {F : Hp} {v : V} {b : Int} (r : Rep K F v (.int b)) : v = .int b := by cases r; rfl
theorem rep_str {F : Hp} {v : V} {b : Str} (r : Rep K F v (.str b)) : v = .str b := by cases r; rfl
theorem rep_non {F : Hp} {v : V} (r : Rep K F v .non) : v = .non := by cases r; rfl
theorem up_test {t : TED} {σ : L2.St} {H : Hp} {Q : Bool → Hp → Prop} (h : upT K B (dTest t) σ H Q) : up K B t σ H fun x H' => ∃ k, x = .bl k ∧ Q k H' := by
  obtain ⟨F, G, δ, Qd, S, h, k⟩ := h
  refine ⟨F, G, δ, _, S, h, fun v H' ⟨F', G', d, s, S', r, q⟩ => ?_⟩
  cases d with
  | bl b =>
    cases r
    exact ⟨b, rfl, k b H' ⟨F', G', s, S', q⟩⟩
  | _ => exact q.elim
theorem dt_val {e : Expr} {t : TED} (h : DE X B e t) (he : ∀ whole, isTrue e X.env whole = (do let v ← whole; standAt e.pos; holding [v] (truthy v)) := by intro _; rfl) : DT X B e (dTest t) :=
  PT.weak (pt_val h he) fun σ H Q q => up_test q
theorem dt_cmp {op : CmpOp} {rv : R2} {r : R2D} {a b : Expr} {ta tb : TED} {pos : Pos} (ho : OpR X (compareOp op) rv) (hA : OpA X.K rv r) (ha : DE X B a ta) (hb : DE X B b tb) (hm : behindInMarks op b = false) : DT X B (.Compare a [op] [b] pos) (dTest (dOp r ta tb)) :=
  PT.weak (pt_cmpR ho ha hb hm) fun σ H Q q => by
    obtain ⟨F, G, δ, Qd, S, h, k⟩ := q
    refine up2 S h fun x y H2 F2 G2 d e s2 S2 r1 r2 h2 => hA B σ δ H2 F2 G2 x y d e _ _ S2 r1 r2 h2 fun v H' ⟨F', G', d', s', S', r', q'⟩ => ?_
    cases d' with
    | bl b =>
      cases r'
      exact ⟨b, rfl, k b H' ⟨F', G', s2.trans s', S', q'⟩⟩
    | _ => exact q'.elim
end
end JP
namespace JP
open PySem PySem.Spec PyProof.Rows L2
section
variable {X : Cx} {B : Bs} {K : PySem.W.Frag} {a b c : Expr} {rest : List Expr} {ta tb : TED} {pos : Pos}
def dAnd (ta tb : TED) : TED := fun δ G Q => ta δ G fun x G1 => match x with | .bl true => tb δ G1 Q | .bl false => Q (.bl false) G1 | _ => False
def dNot (ta : TED) : TED := fun δ G Q => ta δ G fun x G1 => match x with | .bl c => Q (.bl (!c)) G1 | _ => False
theorem de_one {op} {t : TED} (h : DE X B a t) : DE X B (.BoolOp op [a] pos) t := pe_one h
theorem de_and (ha : DE X B a ta) (hb : DE X B (.BoolOp .And (b :: rest) pos) tb) : DE X B (.BoolOp .And (a :: b :: rest) pos) (dAnd ta tb) :=
  PE.weak (pe_and ha hb) fun σ H Q ⟨F, G, δ, Qd, S, h, k⟩ => ⟨F, G, δ, _, S, h, fun v H1 ⟨F1, G1, d, s1, S1, r1, h1⟩ => by
    cases d with
    | bl c =>
      cases r1
      cases c with
      | true => exact ⟨true, rfl, F1, G1, δ, Qd, S1, h1, fun v H' ⟨F', G', d', s', S', r', q'⟩ => k v H' ⟨F', G', d', s1.trans s', S', r', q'⟩⟩
      | false => exact ⟨false, rfl, k _ _ ⟨F1, G1, _, s1, S1, .bl false, h1⟩⟩
    | _ => exact h1.elim⟩
theorem de_not (ha : DE X B a ta) : DE X B (.UnaryOp .Not a pos) (dNot ta) :=
  PE.weak (pe_not ha) fun σ H Q ⟨F, G, δ, Qd, S, h, k⟩ => ⟨F, G, δ, _, S, h, fun v H1 ⟨F1, G1, d, s1, S1, r1, h1⟩ => by
    cases d with
    | bl c =>
      cases r1
      exact ⟨c, rfl, k _ _ ⟨F1, G1, _, s1, S1, .bl _, h1⟩⟩
    | _ => exact h1.elim⟩
/-- tests -/
def dAndT (t u : TTD) : TTD := fun δ G Q => t δ G fun c G1 => match c with | true => u δ G1 Q | false => Q false G1
def dOrT (t u : TTD) : TTD := fun δ G Q => t δ G fun c G1 => match c with | true => Q true G1 | false => u δ G1 Q
def dNotT (t : TTD) : TTD := fun δ G Q => t δ G fun c G1 => Q (!c) G1
variable {tA tB' : TTD}
theorem dw_pt {e : Expr} {t : TTD} (h : DW X B e t) : DT X B e t := PW.pt h
theorem dw_and1 (ha : DT X B a tA) : DW X B (.BoolOp .And [a] pos) tA := pw_and1 ha
theorem dw_or1 (ha : DT X B a tA) : DW X B (.BoolOp .Or [a] pos) tA := pw_or1 ha
theorem dw_and (ha : DT X B a tA) (hb : DW X B (.BoolOp .And (b :: rest) pos) tB') : DW X B (.BoolOp .And (a :: b :: rest) pos) (dAndT tA tB') :=
  PW.weak (pw_and ha hb) fun σ H Q ⟨F, G, δ, Qd, S, h, k⟩ => ⟨F, G, δ, _, S, h, fun c H1 ⟨F1, G1, s1, S1, h1⟩ => by
    cases c with
    | true => exact ⟨F1, G1, δ, Qd, S1, h1, fun v H' ⟨F', G', s', S', q'⟩ => k v H' ⟨F', G', s1.trans s', S', q'⟩⟩
    | false => exact k _ _ ⟨F1, G1, s1, S1, h1⟩⟩
theorem dw_or (ha : DT X B a tA) (hb : DW X B (.BoolOp .Or (b :: rest) pos) tB') : DW X B (.BoolOp .Or (a :: b :: rest) pos) (dOrT tA tB') :=
  PW.weak (pw_or ha hb) fun σ H Q ⟨F, G, δ, Qd, S, h, k⟩ => ⟨F, G, δ, _, S, h, fun c H1 ⟨F1, G1, s1, S1, h1⟩ => by
    cases c with
    | false => exact ⟨F1, G1, δ, Qd, S1, h1, fun v H' ⟨F', G', s', S', q'⟩ => k v H' ⟨F', G', s1.trans s', S', q'⟩⟩
    | true => exact k _ _ ⟨F1, G1, s1, S1, h1⟩⟩
theorem dt_not (ha : DT X B a tA) : DT X B (.UnaryOp .Not a pos) (dNotT tA) :=
  PT.weak (pt_not ha) fun σ H Q ⟨F, G, δ, Qd, S, h, k⟩ => ⟨F, G, δ, _, S, h, fun c H1 ⟨F1, G1, s1, S1, h1⟩ => k _ _ ⟨F1, G1, s1, S1, h1⟩⟩
def dIf (t : TTD) (ta tb : TED) : TED := fun δ G Q => t δ G fun c G1 => match c with | true => ta δ G1 Q | false => tb δ G1 Q
theorem de_if (hc : DT X B c tA) (ha : DE X B a ta) (hb : DE X B b tb) : DE X B (.IfExp c a b pos) (dIf tA ta tb) :=
  PE.weak (pe_ifExp hc ha hb) fun σ H Q ⟨F, G, δ, Qd, S, h, k⟩ => ⟨F, G, δ, _, S, h, fun c H1 ⟨F1, G1, s1, S1, h1⟩ => by
    cases c with
    | true => exact ⟨F1, G1, δ, Qd, S1, h1, fun v H' ⟨F', G', d', s', S', r', q'⟩ => k v H' ⟨F', G', d', s1.trans s', S', r', q'⟩⟩
    | false => exact ⟨F1, G1, δ, Qd, S1, h1, fun v H' ⟨F', G', d', s', S', r', q'⟩ => k v H' ⟨F', G', d', s1.trans s', S', r', q'⟩⟩⟩
end
section
variable {X : Cx} {B : Bs} {K : PySem.W.Frag} {e : Expr} {es : List Expr} {te : TED} {t : TAD} {pos : Pos}
def dNil : TAD := fun _ G Q => Q [] G
def dCons (te : TED) (tr : TAD) : TAD := fun δ G Q => te δ G fun d G1 => tr δ G1 fun ds G2 => Q (d :: ds) G2
theorem da_nil : DA X B [] dNil := PA.weak pa_nil fun σ H Q ⟨F, G, δ, Qd, S, h, k⟩ => k [] H ⟨F, G, [], .refl F, S, .nil, h⟩
theorem da_cons (ha : DE X B e te) (hr : DA X B es t) (hs : starEach (e :: es) X.env = (false, eval e X.env) :: starEach es X.env := by rfl) : DA X B (e :: es) (dCons te t) :=
  PA.weak (pa_cons ha hr hs) fun σ H Q ⟨F, G, δ, Qd, S, h, k⟩ => ⟨F, G, δ, _, S, h, fun v H1 ⟨F1, G1, d, s1, S1, r1, h1⟩ => ⟨F1, G1, δ, _, S1, h1, fun vs H2 ⟨F2, G2, ds, s2, S2, r2, h2⟩ =>
    k _ H2 ⟨F2, G2, d :: ds, s1.trans s2, S2, .cons (r1.mono s2) r2, h2⟩⟩⟩
def dTup (t : TAD) : TED := fun δ G Q => t δ G fun ds G1 => ds.length ≤ sizeLine ∧ Q (.tup ds) G1
def dLst (t : TAD) : TED := fun δ G Q => t δ G fun ds G1 => ds.length ≤ sizeLine ∧ Q (.lst ds) G1
/-- a new thing in the heap, that stays -/
theorem Beh.new {σ : L2.St} {H F F1 : Hp} {δ : SD} {G : Gm} {Qd : QD} {p : Addr} {o : HO} {d : D} (S : Sit K B σ H F1 δ G) (s : Same F F1) (n : H p = none) (r : Rep K (upd F1 p o) (.ref p) d) (q : Qd d G) (nt : notT o := by exact trivial) : Beh K B σ F δ Qd (.ref p) (upd H p o) :=
  have ⟨d1, s1⟩ := S.ds.new (o := o) n nt
  ⟨upd F1 p o, G, d, s.trans s1, ⟨d1, S.gr.trans s1, S.sl.mono s1⟩, r, q⟩
theorem rep_tup_new {F1 : Hp} {p : Addr} {vs : List V} {ds : List D} (n : F1 p = none) (r : RepAll K F1 vs ds) : Rep K (upd F1 p (.tup vs)) (.ref p) (.tup ds) := .tup upd_same (r.mono (same_new n))
theorem rep_lst_new {F1 : Hp} {p : Addr} {vs : List V} {ds : List D} (n : F1 p = none) (r : RepAll K F1 vs ds) : Rep K (upd F1 p (.lst vs)) (.ref p) (.lst ds) := .lst upd_same (r.mono (same_new n))
theorem de_tup {x1} (h : DA X B es t) : DE X B (.Tuple es x1 pos) (dTup t) :=
  PE.weak (pe_tup h) fun σ H Q ⟨F, G, δ, Qd, S, q, k⟩ => ⟨F, G, δ, _, S, q, fun vs H1 ⟨F1, G1, ds, s1, S1, r1, l, h1⟩ => ⟨by rw [r1.length]; exact l, fun p n =>
    k _ _ (.new S1 s1 n (rep_tup_new (S1.ds.noF n) r1) h1)⟩⟩
theorem de_lst (h : DA X B es t) : DE X B (.List es pos) (dLst t) :=
  PE.weak (pe_lst h) fun σ H Q ⟨F, G, δ, Qd, S, q, k⟩ => ⟨F, G, δ, _, S, q, fun vs H1 ⟨F1, G1, ds, s1, S1, r1, l, h1⟩ => ⟨by rw [r1.length]; exact l, fun p n =>
    k _ _ (.new S1 s1 n (rep_lst_new (S1.ds.noF n) r1) h1)⟩⟩
theorem Beh.open {σ : L2.St} {H F F1 : Hp} {δ : SD} {G : Gm} {Qd : QD} {p : Addr} {o : HO} {m : MO} (S : Sit K B σ H F1 δ G) (s : Same F F1) (n : H p = none) (r : MRep K F1 (upd H p o) p m) (q : Qd (.adr p) (updG G p m)) : Beh K B σ F δ Qd (.ref p) (upd H p o) :=
  ⟨F1, updG G p m, .adr p, s, ⟨S.ds.open n r, S.gr, S.sl⟩, .adr p, q⟩
/-- what was changed and is so no more: it is read as what it is worth -/
def dClose (t : TED) : TED := fun δ G Q => t δ G fun d G1 => ∃ a, d = .adr a ∧ match G1 a with | some (.lst ds) => Q (.lst ds) (delG G1 a) | some (.ins C fs) => Q (.ins C fs) (delG G1 a) | some (.dic kvs) => Q (.dic kvs) (delG G1 a) | _ => False
theorem Sit.close {σ : L2.St} {H F : Hp} {δ : SD} {G : Gm} {a : Addr} {m : MO} {o : HO} (S : Sit K B σ H F δ G) (g : G a = some m) (h : H a = some o) (nt : notT o := by exact trivial) : Sit K B σ H (upd F a o) δ (delG G a) ∧ Same F (upd F a o) :=
  have ⟨d1, s1⟩ := S.ds.close g h nt
  ⟨⟨d1, S.gr.trans s1, S.sl.mono s1⟩, s1⟩
theorem de_close (h : DE X B e te) : DE X B e (dClose te) :=
  PE.weak h fun σ H Q ⟨F, G, δ, Qd, S, q, k⟩ => ⟨F, G, δ, _, S, q, fun v H1 ⟨F1, G1, d, s1, S1, r1, a, ea, h1⟩ => by
    subst ea
    cases r1
    cases g : G1 a with
    | none =>
      rw [g] at h1
      exact h1.elim
    | some m =>
      rw [g] at h1
      have r := (S1.ds.mu a m g).2
      cases m with
      | lst ds =>
        obtain ⟨xs, e, r⟩ := r
        obtain ⟨S2, s2⟩ := S1.close g e
        exact k _ _ ⟨_, _, _, s1.trans s2, S2, .lst upd_same (r.mono s2), h1⟩
      | ins C fs =>
        obtain ⟨dx, fv, e, gc, na, r⟩ := r
        obtain ⟨S2, s2⟩ := S1.close g e
        exact k _ _ ⟨_, _, _, s1.trans s2, S2, .ins upd_same gc na (r.mono s2), h1⟩
      | dic kvs =>
        obtain ⟨ks, e, r⟩ := r
        obtain ⟨S2, s2⟩ := S1.close g e
        exact k _ _ ⟨_, _, _, s1.trans s2, S2, .dk (.of upd_same) (r.mono s2), h1⟩
      | dln hf kvs => exact h1.elim
      | dlb hf kvs => exact h1.elim
      | pen m => exact h1.elim⟩
end
structure EndsD where
  nx : SD → Gm → Prop
  rt : QD
  bk : SD → Gm → Prop := fun _ _ => False
  ct : SD → Gm → Prop := fun _ _ => False
abbrev TSD := EndsD → SD → Gm → Prop
def BehS (K : PySem.W.Frag) (B : Bs) (F : Hp) (q : SD → Gm → Prop) (σ : L2.St) (H : Hp) : Prop := ∃ F' G' δ', Same F F' ∧ Sit K B σ H F' δ' G' ∧ q δ' G'
def BehR (K : PySem.W.Frag) (B : Bs) (F : Hp) (q : QD) (v : V) (H : Hp) : Prop := ∃ F' G' d, Same F F' ∧ DS K B.T F' H G' B.Z ∧ Same B.F F' ∧ Rep K F' v d ∧ q d G'
structure Low (K : PySem.W.Frag) (B : Bs) (F : Hp) (E : EndsD) (D : Ends) : Prop where
  nx : ∀ σ H, BehS K B F E.nx σ H → D.nx σ H
  rt : ∀ v H, BehR K B F E.rt v H → D.rt v H
  bk : ∀ σ H, BehS K B F E.bk σ H → D.bk σ H
  ct : ∀ σ H, BehS K B F E.ct σ H → D.ct σ H
section
variable {X : Cx} {B : Bs} {K : PySem.W.Frag}
theorem BehS.mono {F F' : Hp} {q : SD → Gm → Prop} {σ : L2.St} {H : Hp} (s : Same F F') (h : BehS K B F' q σ H) : BehS K B F q σ H := let ⟨F1, G, δ, s1, r⟩ := h; ⟨F1, G, δ, s.trans s1, r⟩
theorem BehR.mono {F F' : Hp} {q : QD} {v : V} {H : Hp} (s : Same F F') (h : BehR K B F' q v H) : BehR K B F q v H := let ⟨F1, G, δ, s1, r⟩ := h; ⟨F1, G, δ, s.trans s1, r⟩
theorem Low.mono {F F' : Hp} {E : EndsD} {D : Ends} (s : Same F F') (h : Low K B F E D) : Low K B F' E D :=
  ⟨fun σ H q => h.nx σ H (q.mono s), fun σ H q => h.rt σ H (q.mono s), fun σ H q => h.bk σ H (q.mono s), fun σ H q => h.ct σ H (q.mono s)⟩
def upS (K : PySem.W.Frag) (B : Bs) (T : TSD) : TS := fun D σ H => ∃ F G δ E, Sit K B σ H F δ G ∧ T E δ G ∧ Low K B F E D
def DSt (X : Cx) (B : Bs) (st : Stmt) (T : TSD) : Prop := PS X st (upS X.K B T)
def DB (X : Cx) (B : Bs) (st : List Stmt) (T : TSD) : Prop := PSs X st (upS X.K B T)
theorem PS.weak {e : Stmt} {t t' : TS} (h : PS X e t) (w : ∀ D σ H, t' D σ H → t D σ H) : PS X e t' := ⟨fun pins s σ H D I q => h.run pins s σ H D I (w _ _ _ q)⟩
theorem PSs.weak {e : List Stmt} {t t' : TS} (h : PSs X e t) (w : ∀ D σ H, t' D σ H → t D σ H) : PSs X e t' := ⟨fun pins s σ H D I q => h.run pins s σ H D I (w _ _ _ q)⟩
variable {st : Stmt} {rest : List Stmt} {t u : TSD} {e : Expr} {te : TED} {pos : Pos}
def dNext : TSD := fun E δ G => E.nx δ G
def dSeq (t u : TSD) : TSD := fun E δ G => t { E with nx := u E } δ G
theorem db_nil : DB X B [] dNext := PSs.weak pss_nil fun D σ H ⟨F, G, δ, E, S, h, L⟩ => L.nx σ H ⟨F, G, δ, .refl F, S, h⟩
theorem db_cons (h1 : DSt X B st t) (h2 : DB X B rest u) : DB X B (st :: rest) (dSeq t u) :=
  PSs.weak (pss_cons h1 h2) fun D σ H ⟨F, G, δ, E, S, h, L⟩ => ⟨F, G, δ, _, S, h, ⟨fun σ' H' ⟨F', G', δ', s', S', q'⟩ => ⟨F', G', δ', E, S', q', L.mono s'⟩, L.rt, L.bk, L.ct⟩⟩
theorem db_one (h1 : DSt X B st t) : DB X B [st] t := pss_one h1
def dDrop (te : TED) : TSD := fun E δ G => te δ G fun _ G1 => E.nx δ G1
theorem ds_expr (he : DE X B e te) (hs : swapsWith e none pos.line X.env = pure false := by rfl) : DSt X B (.Expr e pos) (dDrop te) :=
  PS.weak (ps_expr he hs) fun D σ H ⟨F, G, δ, E, S, h, L⟩ => ⟨F, G, δ, _, S, h, fun v H' ⟨F', G', d, s', S', r', q'⟩ => L.nx σ H' ⟨F', G', δ, s', S', q'⟩⟩
def dRet (te : TED) : TSD := fun E δ G => te δ G E.rt
theorem ds_ret (he : DE X B e te) : DSt X B (.Return (some e) pos) (dRet te) :=
  PS.weak (ps_ret he) fun D σ H ⟨F, G, δ, E, S, h, L⟩ => ⟨F, G, δ, _, S, h, fun v H' ⟨F', G', d, s', S', r', q'⟩ => L.rt v H' ⟨F', G', d, s', S'.ds, S'.gr, r', q'⟩⟩
def dIfS (c : TTD) (t u : TSD) : TSD := fun E δ G => c δ G fun b G1 => match b with | true => t E δ G1 | false => u E δ G1
theorem ds_if {c : Expr} {a b : List Stmt} {tc : TTD} (hc : DT X B c tc) (ha : DB X B a t) (hb : DB X B b u) : DSt X B (.If c a b pos) (dIfS tc t u) :=
  PS.weak (ps_if hc ha hb) fun D σ H ⟨F, G, δ, E, S, h, L⟩ => ⟨F, G, δ, _, S, h, fun b H' ⟨F', G', s', S', q'⟩ => by
    cases b with
    | true => exact ⟨F', G', δ, E, S', q', L.mono s'⟩
    | false => exact ⟨F', G', δ, E, S', q', L.mono s'⟩⟩
/-- targets -/
abbrev TGD := D → SD → Gm → (SD → Gm → Prop) → Prop
abbrev TGsD := List D → SD → Gm → (SD → Gm → Prop) → Prop
def upG (K : PySem.W.Frag) (B : Bs) (T : TGD) : TG := fun v σ H Q => ∃ F G δ d Qd, Sit K B σ H F δ G ∧ Rep K F v d ∧ T d δ G Qd ∧ ∀ σ' H', BehS K B F Qd σ' H' → Q σ' H'
def upGs (K : PySem.W.Frag) (B : Bs) (T : TGsD) : TGs := fun vs σ H Q => ∃ F G δ ds Qd, Sit K B σ H F δ G ∧ RepAll K F vs ds ∧ T ds δ G Qd ∧ ∀ σ' H', BehS K B F Qd σ' H' → Q σ' H'
def DG (X : Cx) (B : Bs) (tg : Expr) (T : TGD) : Prop := PG X tg (upG X.K B T)
def DGs (X : Cx) (B : Bs) (ts : List Expr) (T : TGsD) : Prop := PGs X ts (upGs X.K B T)
theorem PG.weak {e : Expr} {t t' : TG} (h : PG X e t) (w : ∀ v σ H Q, t' v σ H Q → t v σ H Q) : PG X e t' := ⟨fun pins s σ H v u Q I r q => h.run pins s σ H v u Q I r (w _ _ _ _ q)⟩
theorem PGs.weak {e : List Expr} {t t' : TGs} (h : PGs X e t) (w : ∀ v σ H Q, t' v σ H Q → t v σ H Q) : PGs X e t' := ⟨fun pins s σ H v u Q I r q => h.run pins s σ H v u Q I r (w _ _ _ _ q)⟩
def gNameD (i : Nat) : TGD := fun d δ G Q => Q (δ.set i (some d)) G
theorem Sit.set {σ : L2.St} {H F : Hp} {δ : SD} {G : Gm} {v : V} {d : D} (S : Sit K B σ H F δ G) (i : Nat) (r : Rep K F v d) : Sit K B (σ.set i (some v)) H F (δ.set i (some d)) G := ⟨S.ds, S.gr, S.sl.set i r⟩
theorem dg_name {i : Nat} {x : Str} (hN : X.N.Nodup) (hi : X.N[i]? = some x) (hx : Loc X.env.scope x) (hf : X.fn x = true ∨ X.env.scope.names.lookup x = some .local := by first | exact .inl rfl | exact .inr rfl | assumption) : DG X B (.Name x pos) (gNameD i) :=
  PG.weak (pg_name hN hi hx hf) fun v σ H Q ⟨F, G, δ, d, Qd, S, r, h, k⟩ => k _ _ ⟨F, G, _, .refl F, S.set i r, h⟩
def gNilD : TGsD := fun ds δ G Q => match ds with | [] => Q δ G | _ => False
def gConsD (t : TGD) (u : TGsD) : TGsD := fun ds δ G Q => match ds with | d :: r => t d δ G fun δ1 G1 => u r δ1 G1 Q | [] => False
theorem dgs_nil : DGs X B [] gNilD := PGs.weak pgs_nil fun vs σ H Q ⟨F, G, δ, ds, Qd, S, r, h, k⟩ => by
  cases r with
  | nil => exact ⟨rfl, k _ _ ⟨F, G, _, .refl F, S, h⟩⟩
  | cons _ _ => exact h.elim
theorem dgs_cons {e : Expr} {es : List Expr} {t : TGD} {u : TGsD} (h1 : DG X B e t) (h2 : DGs X B es u)
    (hs : (assignEach (e :: es) X.env).map (·.2) = assign e X.env :: (assignEach es X.env).map (·.2) := by rfl) : DGs X B (e :: es) (gConsD t u) :=
  PGs.weak (pgs_cons h1 h2 hs) fun vs σ H Q ⟨F, G, δ, ds, Qd, S, r, h, k⟩ => by
    cases r with
    | nil => exact h.elim
    | cons r1 rr => exact ⟨_, _, rfl, F, G, δ, _, _, S, r1, h, fun σ' H' ⟨F', G', δ', s', S', q'⟩ => ⟨F', G', δ', _, Qd, S', rr.mono s', q', fun σ2 H2 q2 => k σ2 H2 (q2.mono s')⟩⟩
def gTupD (n : Nat) (t : TGsD) : TGD := fun d δ G Q => match d with | .tup ds => ds.length = n ∧ t ds δ G Q | _ => False
theorem dg_tup {es : List Expr} {k : Nat} {t : TGsD} {n : Nat} (hc : X.calm = true) (h : DGs X B es t)
    (hn : (assignEach es X.env).length = n := by rfl) (hst : (assignEach es X.env).findIdx? (·.1) = none := by rfl) : DG X B (.Tuple es k pos) (gTupD n t) :=
  PG.weak (pg_tup hc h hn hst) fun v σ H Q ⟨F, G, δ, d, Qd, S, r, h, k⟩ => by
    cases d with
    | tup ds =>
      cases r with
      | tup hq ra => exact ⟨_, _, rfl, SqT.of (S.ds.sub _ _ hq), ra.length.trans h.1, F, G, δ, ds, Qd, S, ra, h.2, k⟩
    | _ => exact h.elim
def dAsg (te : TED) (g : TGD) : TSD := fun E δ G => te δ G fun d G1 => g d δ G1 E.nx
theorem ds_asg {tg e : Expr} {te : TED} {g : TGD} (he : DE X B e te) (hg : DG X B tg g) (hs : swapsWithSole [tg] e pos.line X.env = pure false := by rfl) (hw : swappedStores [tg] e X.env = pure none := by rfl)
    (h1 : (assignEach [tg] X.env).map (·.2) = [assign tg X.env] := by rfl) : DSt X B (.Assign [tg] e pos) (dAsg te g) :=
  PS.weak (ps_asg he hg hs hw h1) fun D σ H ⟨F, G, δ, E, S, h, L⟩ => ⟨F, G, δ, _, S, h, fun v H' ⟨F', G', d, s', S', r', q'⟩ => ⟨F', G', δ, d, E.nx, S', r', q', fun σ2 H2 q2 => L.nx σ2 H2 (q2.mono s')⟩⟩
end
end JP
namespace JP
open PySem PySem.Spec PyProof.Rows L2
section
variable {X : Cx} {B : Bs} {K : PySem.W.Frag} {e : Expr} {te : TED} {pos : Pos}
theorem ds_set {i : Nat} {x : Str} {pos' : Pos} (hN : X.N.Nodup) (hi : X.N[i]? = some x) (hx : Loc X.env.scope x) (he : DE X B e te) (hs : swapsWith e (some (.Name x pos')) pos.line X.env = pure false := by rfl) (hf : X.fn x = true ∨ X.env.scope.names.lookup x = some .local := by first | exact .inl rfl | exact .inr rfl | assumption) :
    DSt X B (.Assign [.Name x pos'] e pos) (dAsg te (gNameD i)) :=
  PS.weak (ps_set hN hi hx he hs hf) fun D σ H ⟨F, G, δ, E, S, h, L⟩ => ⟨F, G, δ, _, S, h, fun v H' ⟨F', G', d, s', S', r', q'⟩ => L.nx _ _ ⟨F', G', _, s', S'.set i r', q'⟩⟩
def dPar (i j : Nat) (ta : TAD) : TSD := fun E δ G => ta δ G fun ds G1 => match ds with | [d, e] => E.nx ((δ.set i (some d)).set j (some e)) G1 | _ => False
theorem ds_par {i j : Nat} {x y : Str} {a b : Expr} {ta : TAD} {px py pt : Pos} {kt k2 pt2} (hc : X.calm = true) (hN : X.N.Nodup) (hi : X.N[i]? = some x) (hj : X.N[j]? = some y) (hij : i ≠ j)
    (hx : X.env.scope.names.lookup x = some .local) (hy : X.env.scope.names.lookup y = some .local) (ha : DA X B [a, b] ta)
    (hw : swappedStores [.Tuple [.Name x px, .Name y py] kt pt] (.Tuple [a, b] k2 pt2) X.env = pure (some [x, y]))
    (hs : swapsWithSole [.Tuple [.Name x px, .Name y py] kt pt] (.Tuple [a, b] k2 pt2) pos.line X.env = pure false := by rfl) :
    DSt X B (.Assign [.Tuple [.Name x px, .Name y py] kt pt] (.Tuple [a, b] k2 pt2) pos) (dPar i j ta) :=
  PS.weak (ps_par hc hN hi hj hij hx hy ha hw hs) fun D σ H ⟨F, G, δ, E, S, h, L⟩ => ⟨F, G, δ, _, S, h, fun vs H' ⟨F', G', ds, s', S', r', q'⟩ => by
    match ds, r', q' with
    | [d, e], .cons r1 (.cons r2 .nil), q' => exact ⟨_, _, rfl, L.nx _ _ ⟨F', G', _, s', (S'.set i r1).set j r2, q'⟩⟩⟩
/-- while: turn by turn, at most so many -/
def whD (c : TTD) (tb : TSD) (E : EndsD) : Nat → SD → Gm → Prop
  | 0, _, _ => False
  | n + 1, δ, G => c δ G fun b G1 => match b with | true => tb { nx := whD c tb E n, rt := E.rt, bk := E.nx, ct := whD c tb E n } δ G1 | false => E.nx δ G1
def dWhile (c : TTD) (tb : TSD) : TSD := fun E δ G => ∃ n, whD c tb E n δ G
theorem ds_while {c : Expr} {body : List Stmt} {tc : TTD} {tb : TSD} (hp : PassesOwn (model X.prog X.w) X.A X.env X.xe) (hc : DT X B c tc) (hb : DB X B body tb) : DSt X B (.While c body [] pos) (dWhile tc tb) :=
  PS.weak (ps_while hp hc hb) fun D σ H ⟨F, G, δ, E, S, ⟨n, h⟩, L⟩ => by
    refine ⟨fun m σ' H' => ∃ F' G' δ', Same F F' ∧ Sit X.K B σ' H' F' δ' G' ∧ whD tc tb E m δ' G', ⟨n, F, G, δ, .refl F, S, h⟩, ?_⟩
    rintro m σ1 H1 ⟨F1, G1, δ1, s1, S1, h1⟩
    cases m with
    | zero => exact h1.elim
    | succ m =>
      refine ⟨F1, G1, δ1, _, S1, h1, fun b H2 ⟨F2, G2, s2, S2, h2⟩ => ?_⟩
      cases b with
      | true => exact ⟨fun σ' H' => ∃ F' G' δ', Same F F' ∧ Sit X.K B σ' H' F' δ' G' ∧ whD tc tb E m δ' G', fun σ' H' q => ⟨m, Nat.lt_succ_self m, q⟩, F2, G2, δ1, _, S2, h2,
          ⟨fun σ' H' ⟨F', G', δ', s', S', q⟩ => ⟨F', G', δ', (s1.trans s2).trans s', S', q⟩, fun v H' q => L.rt v H' (q.mono (s1.trans s2)), fun σ' H' q => L.nx σ' H' (BehS.mono (s1.trans s2) q), fun σ' H' ⟨F', G', δ', s', S', q⟩ => ⟨F', G', δ', (s1.trans s2).trans s', S', q⟩⟩⟩
      | false => exact L.nx _ _ ⟨F2, G2, δ1, s1.trans s2, S2, h2⟩
structure ItD (K : PySem.W.Frag) (F : Hp) (J : L2.It) (ds : List D) : Prop where
  go : ∀ i H, i < ds.length → Same F H → J.go i H
  stop : ∀ H, Same F H → J.stop ds.length H
  yld : ∀ i H x H', i < ds.length → Same F H → J.yld i H x H' → ∀ (B : Bs) σ δ G F1, Sit K B σ H F1 δ G → Same F F1 → ∃ F2 d, Same F1 F2 ∧ Sit K B σ H' F2 δ G ∧ ds[i]? = some d ∧ Rep K F2 x d
abbrev TID := SD → Gm → (List D → Gm → Prop) → Prop
def upI (K : PySem.W.Frag) (B : Bs) (T : TID) : TI := fun σ H R => ∃ F G δ Qd, Sit K B σ H F δ G ∧ T δ G Qd ∧ ∀ J H', (∃ F' G' ds, Same F F' ∧ Sit K B σ H' F' δ G' ∧ ItD K F' J ds ∧ Qd ds G') → R J H'
def DI (X : Cx) (B : Bs) (tg iter : Expr) (T : TID) : Prop := PI X tg iter (upI X.K B T)
theorem PI.weak {tg e : Expr} {t t' : TI} (h : PI X tg e t) (w : ∀ σ H Q, t' σ H Q → t σ H Q) : PI X tg e t' := ⟨fun pins s σ H Q I q => h.run pins s σ H Q I (w _ _ _ q)⟩
theorem itD_list {F : Hp} {a : Addr} {xs : List V} {ds : List D} (h : SqL K F a xs) (r : RepAll K F xs ds) : ItD K F (Itl K a) ds :=
  ⟨fun i H hi s => by
    have l := r.length
    exact ⟨xs, xs[i]'(by omega), same_seqL' s h, by simp [show i < xs.length by omega]⟩, fun H s => ⟨xs, same_seqL' s h, by rw [r.length]; exact Nat.le_refl _⟩, fun i H x H' hi s y B σ δ G F1 S s1 => by
    obtain ⟨rfl, y⟩ := y
    obtain ⟨d, hd, rd⟩ := r.get' (y xs (same_seqL' s h))
    exact ⟨F1, d, .refl F1, S, hd, rd.mono s1⟩⟩
theorem itD_tup {F : Hp} {a : Addr} {xs : List V} {ds : List D} (h : SqT K F a xs) (r : RepAll K F xs ds) : ItD K F (Itt K a) ds :=
  ⟨fun i H hi s => by
    have l := r.length
    exact ⟨xs, xs[i]'(by omega), same_seqT s h, by simp [show i < xs.length by omega]⟩, fun H s => ⟨xs, same_seqT s h, by rw [r.length]; exact Nat.le_refl _⟩, fun i H x H' hi s y B σ δ G F1 S s1 => by
    obtain ⟨rfl, y⟩ := y
    obtain ⟨d, hd, rd⟩ := r.get' (y xs (same_seqT s h))
    exact ⟨F1, d, .refl F1, S, hd, rd.mono s1⟩⟩
def iListD (te : TED) : TID := fun δ G R => te δ G fun d G1 => match d with | .lst ds => R ds G1 | _ => False
def iTupD (te : TED) : TID := fun δ G R => te δ G fun d G1 => match d with | .tup ds => R ds G1 | _ => False
theorem di_list {tg : Expr} (h : DE X B e te) : DI X B tg e (iListD te) :=
  PI.weak (pi_list h) fun σ H R ⟨F, G, δ, Qd, S, h, k⟩ => ⟨F, G, δ, _, S, h, fun v H1 ⟨F1, G1, d, s1, S1, r1, h1⟩ => by
    cases d with
    | lst ds =>
      cases r1 with
      | lst hq ra => exact ⟨_, rfl, ⟨_, SqL.of (S1.ds.sub _ _ hq)⟩, k _ _ ⟨F1, G1, ds, s1, S1, itD_list (.of hq) ra, h1⟩⟩
    | _ => exact h1.elim⟩
theorem di_tup {tg : Expr} (h : DE X B e te) : DI X B tg e (iTupD te) :=
  PI.weak (pi_tup h) fun σ H R ⟨F, G, δ, Qd, S, h, k⟩ => ⟨F, G, δ, _, S, h, fun v H1 ⟨F1, G1, d, s1, S1, r1, h1⟩ => by
    cases d with
    | tup ds =>
      cases r1 with
      | tup hq ra => exact ⟨_, rfl, ⟨_, SqT.of (S1.ds.sub _ _ hq)⟩, k _ _ ⟨F1, G1, ds, s1, S1, itD_tup (.of hq) ra, h1⟩⟩
    | _ => exact h1.elim⟩
/-- a name that holds a list or a tuple -/
def iAnyD (i : Nat) : TID := fun δ G R => match δ[i]? with | some (some (.lst ds)) => R ds G | some (some (.tup ds)) => R ds G | some (some (.ptu ds)) => R ds G | _ => False
theorem di_anyV {tg l : Expr} {i : Nat} (hl : PE X l (tVar i)) : DI X B tg l (iAnyD i) :=
  PI.weak (pi_anyV hl) fun σ H R ⟨F, G, δ, Qd, S, h, k⟩ => by
    unfold iAnyD at h
    split at h
    · rename_i ds e
      obtain ⟨v, e', r⟩ := S.sl.get i _ e
      cases r with
      | lst hq ra => exact ⟨_, e', .inl ⟨⟨_, SqL.of (S.ds.sub _ _ hq)⟩, k _ _ ⟨F, G, ds, .refl F, S, itD_list (.of hq) ra, h⟩⟩⟩
    · rename_i ds e
      obtain ⟨v, e', r⟩ := S.sl.get i _ e
      cases r with
      | tup hq ra => exact ⟨_, e', .inr ⟨⟨_, SqT.of (S.ds.sub _ _ hq)⟩, k _ _ ⟨F, G, ds, .refl F, S, itD_tup (.of hq) ra, h⟩⟩⟩
    · rename_i ds e
      obtain ⟨v, e', r⟩ := S.sl.get i _ e
      cases r with
      | pt hq hd ra => exact ⟨_, e', .inr ⟨⟨_, .inl (.inr ⟨_, S.ds.sub _ _ hq⟩)⟩, k _ _ ⟨F, G, ds, .refl F, S, itD_tup (.inl (.inr ⟨_, hq⟩)) ra, h⟩⟩⟩
    · exact h.elim
def rangeD (lo : Int) (n : Nat) : List D := (List.range n).map fun (i : Nat) => .int (lo + i)
theorem itD_range {F : Hp} (lo : Int) (n : Nat) : ItD K F (Itr lo n) (rangeD lo n) := by
  have l : (rangeD lo n).length = n := by simp [rangeD]
  refine ⟨fun i H hi _ => by rw [l] at hi; exact hi, fun H _ => by rw [l]; exact Nat.le_refl n, fun i H x H' hi s y B σ δ G F1 S s1 => ?_⟩
  obtain ⟨rfl, rfl⟩ := y
  rw [l] at hi
  exact ⟨F1, .int (lo + i), .refl F1, S, by simp [rangeD, hi], .int _⟩
def iRange1D (ta : TAD) : TID := fun δ G R => ta δ G fun ds G1 => match ds with | [.int j] => (-(2 ^ 62) ≤ j ∧ j < 2 ^ 62) ∧ R (rangeD 0 j.toNat) G1 | _ => False
theorem di_range1 {tg a : Expr} {ta : TAD} {p pos : Pos} (hg : Gl X "range") (hm : X.mg "range" = none) (ha : DA X B [a] ta) (hs : starEach [a] X.env = [(false, eval a X.env)] := by rfl) : DI X B tg (.Call (.Name "range" p) [a] [] pos) (iRange1D ta) :=
  PI.weak (pi_range1 hg hm ha hs) fun σ H R ⟨F, G, δ, Qd, S, h, k⟩ => ⟨F, G, δ, _, S, h, fun vs H1 ⟨F1, G1, ds, s1, S1, r1, h1⟩ => by
    match ds, r1, h1 with
    | [.int j], .cons r .nil, h1 =>
      cases r
      exact ⟨j, rfl, h1.1.1, h1.1.2, k _ _ ⟨F1, G1, _, s1, S1, itD_range 0 _, h1.2⟩⟩⟩
def forD (g : TGD) (tb : TSD) (E : EndsD) : List D → SD → Gm → Prop
  | [] => fun δ G => E.nx δ G
  | d :: ds => fun δ G => g d δ G fun δ1 G1 => tb { nx := forD g tb E ds, rt := E.rt, bk := E.nx, ct := forD g tb E ds } δ1 G1
def dFor (ti : TID) (g : TGD) (tb : TSD) : TSD := fun E δ G => ti δ G fun ds G1 => forD g tb E ds δ G1
theorem drop_get {α : Type} {ds : List α} {i : Nat} {d : α} (h : ds[i]? = some d) : ds.drop i = d :: ds.drop (i + 1) := by
  have hi : i < ds.length := (List.getElem?_eq_some_iff.mp h).1
  rw [List.drop_eq_getElem_cons hi]
  rw [List.getElem?_eq_getElem hi] at h
  cases h
  rfl
theorem ds_for {tg iter : Expr} {body : List Stmt} {ti : TID} {g : TGD} {tb : TSD} (hp : PassesOwn (model X.prog X.w) X.A X.env X.xe) (hc : X.calm = true) (hi : DI X B tg iter ti) (hg : DG X B tg g) (hb : DB X B body tb)
    (hs : ∀ x, foldedSetIterable iter X.env x = pure x := by intro _; rfl) : DSt X B (.For tg iter body [] pos) (dFor ti g tb) :=
  PS.weak (ps_for hp hc hi hg hb hs) fun D σ H ⟨F, G, δ, E, S, h, L⟩ => ⟨F, G, δ, _, S, h, fun J H1 ⟨F1, G1, ds, s1, S1, it, h1⟩ => by
    refine ⟨fun i m σ' H' => m = ds.length - i ∧ i ≤ ds.length ∧ ∃ F' G' δ', Same F1 F' ∧ Sit X.K B σ' H' F' δ' G' ∧ forD g tb E (ds.drop i) δ' G', ⟨ds.length, by simp, Nat.zero_le _, F1, G1, δ, .refl F1, S1, h1⟩, ?_⟩
    rintro i m σ2 H2 ⟨rfl, hi, F2, G2, δ2, s2, S2, h2⟩
    have sh : Same F1 H2 := s2.trans S2.ds.sub
    rcases Nat.lt_or_ge i ds.length with hlt | hge
    · refine .inr ⟨it.go i H2 hlt sh, fun σ' H' => ∃ F' G' δ', Same F1 F' ∧ Sit X.K B σ' H' F' δ' G' ∧ forD g tb E (ds.drop (i + 1)) δ' G', fun σ' H' q => ⟨ds.length - (i + 1), by omega, rfl, hlt, q⟩, fun x H3 y => ?_⟩
      obtain ⟨F3, d, s3, S3, hd, rd⟩ := it.yld i H2 x H3 hlt sh y B σ2 δ2 G2 F2 S2 s2
      rw [drop_get hd] at h2
      refine ⟨F3, G2, δ2, d, _, S3, rd, h2, fun σ4 H4 ⟨F4, G4, δ4, s4, S4, h4⟩ => ⟨F4, G4, δ4, _, S4, h4, ?_⟩⟩
      have st : Same F1 F4 := (s2.trans s3).trans s4
      exact ⟨fun σ' H' ⟨F', G', δ', s', S', q⟩ => ⟨F', G', δ', st.trans s', S', q⟩, fun v H' q => L.rt v H' (q.mono (s1.trans st)), fun σ' H' q => L.nx σ' H' (BehS.mono (s1.trans st) q), fun σ' H' ⟨F', G', δ', s', S', q⟩ => ⟨F', G', δ', st.trans s', S', q⟩⟩
    · have e : i = ds.length := by omega
      subst e
      rw [List.drop_length] at h2
      exact .inl ⟨it.stop H2 sh, L.nx _ _ ⟨F2, G2, δ2, s1.trans s2, S2, h2⟩⟩⟩
def wipeD (δ : SD) : List Nat → SD
  | [] => δ
  | v :: vs => (wipeD δ vs).set v none
theorem Sl.wipe {F : Hp} {σ : L2.St} {δ : SD} (h : Sl K F σ δ) : ∀ vs : List Nat, Sl K F (wipe σ vs) (wipeD δ vs)
  | [] => h
  | v :: vs => (Sl.wipe h vs).drop v none
/-- a target within a comprehension -/
def CG (K : PySem.W.Frag) (vs : List Nat) (g : TG) (gD : TGD) : Prop := ∀ (B : Bs) (σ : L2.St) (H F : Hp) (δ : SD) (G : Gm) (v : V) (d : D) (Qd : SD → Gm → Prop) (Q : L2.St → Hp → Prop), Sit K B σ H F δ G → Rep K F v d → gD d δ G Qd →
  (∀ σ' δ', wipe σ' vs = wipe σ vs → Sit K B σ' H F δ' G → Qd δ' G → Q σ' H) → g v σ H Q
def CGs (K : PySem.W.Frag) (vs : List Nat) (g : TGs) (gD : TGsD) : Prop := ∀ (B : Bs) (σ : L2.St) (H F : Hp) (δ : SD) (G : Gm) (us : List V) (ds : List D) (Qd : SD → Gm → Prop) (Q : L2.St → Hp → Prop), Sit K B σ H F δ G → RepAll K F us ds → gD ds δ G Qd →
  (∀ σ' δ', wipe σ' vs = wipe σ vs → Sit K B σ' H F δ' G → Qd δ' G → Q σ' H) → g us σ H Q
theorem wipe_set {i : Nat} {o : Option V} : ∀ {vs : List Nat} {σ : L2.St}, i ∈ vs → wipe (σ.set i o) vs = wipe σ vs
  | [], _, h => by simp at h
  | v :: vs, σ, h => by
    by_cases c : i ∈ vs
    · show (wipe (σ.set i o) vs).set v none = (wipe σ vs).set v none
      rw [wipe_set c]
    · have e : i = v := by
        rcases List.mem_cons.mp h with h | h
        · exact h
        · exact absurd h c
      subst e
      have : ∀ {us : List Nat}, i ∉ us → wipe (σ.set i o) us = (wipe σ us).set i o := by
        intro us
        induction us with
        | nil => intro _; rfl
        | cons u us ih =>
          intro hu
          have h1 : i ≠ u := fun z => hu (z ▸ List.mem_cons_self)
          have h2 : i ∉ us := fun z => hu (List.mem_cons_of_mem _ z)
          show (wipe (σ.set i o) us).set u none = ((wipe σ us).set u none).set i o
          rw [ih h2, List.set_comm _ _ h1]
      show (wipe (σ.set i o) vs).set i none = (wipe σ vs).set i none
      rw [this c, List.set_set]
theorem cg_name {vs : List Nat} {i : Nat} (h : i ∈ vs) : CG K vs (gName i) (gNameD i) := fun B σ H F δ G v d Qd Q S r q k => k _ _ (wipe_set h) (S.set i r) q
theorem cg_nil {vs : List Nat} : CGs K vs gNil gNilD := fun B σ H F δ G us ds Qd Q S r q k => by
  cases r with
  | nil => exact ⟨rfl, k _ _ rfl S q⟩
  | cons _ _ => exact q.elim
theorem cg_cons {vs : List Nat} {g : TG} {gD : TGD} {u : TGs} {uD : TGsD} (h1 : CG K vs g gD) (h2 : CGs K vs u uD) : CGs K vs (gCons g u) (gConsD gD uD) := fun B σ H F δ G us ds Qd Q S r q k => by
  cases r with
  | nil => exact q.elim
  | cons r rr => exact ⟨_, _, rfl, h1 B σ H F δ G _ _ _ _ S r q fun σ1 δ1 e1 S1 q1 => h2 B σ1 H F δ1 G _ _ _ _ S1 rr q1 fun σ2 δ2 e2 S2 q2 => k σ2 δ2 (e2.trans e1) S2 q2⟩
theorem cg_tup {vs : List Nat} {n : Nat} {u : TGs} {uD : TGsD} (h : CGs K vs u uD) : CG K vs (gTup K n u) (gTupD n uD) := fun B σ H F δ G v d Qd Q S r q k => by
  cases d with
  | tup ds =>
    cases r with
    | tup hq ra => exact ⟨_, _, rfl, SqT.of (S.ds.sub _ _ hq), ra.length.trans q.1, h B σ H F δ G _ _ _ _ S ra q.2 k⟩
  | _ => exact q.elim
def lcD (g : TGD) (tt : TTD) (te : TED) (Fin : List D → Gm → Prop) (δ : SD) : List D → List D → Gm → Prop
  | [], acc, G => Fin acc G
  | d :: ds, acc, G => g d δ G fun δ1 G1 => tt δ1 G1 fun b G2 => match b with | true => te δ1 G2 fun y G3 => lcD g tt te Fin δ ds (acc ++ [y]) G3 | false => lcD g tt te Fin δ ds acc G2
/-- one more, all of it within what a list holds -/
def dLcF (ti : TID) (g : TGD) (tt : TTD) (te : TED) (vs : List Nat) (Fin : QD → List D → Gm → Prop) : TED := fun δ G Q => ti δ G fun ds G1 => ds.length < sizeLine ∧ lcD g tt te (Fin Q) (wipeD δ vs) ds [] G1
abbrev finL : QD → List D → Gm → Prop := fun Q acc G => Q (.lst acc) G
abbrev finM : QD → List D → Gm → Prop := fun Q acc G => ∀ p, G p = none → Q (.adr p) (updG G p (.lst acc))
/-- what is made of the list in the end -/
def FinA (K : PySem.W.Frag) (Fin : QD → List D → Gm → Prop) : Prop := ∀ (B : Bs) (σ : L2.St) (δ : SD) (F F3 H3 : Hp) (G3 : Gm) (acc : List D) (av : List V) (D : Addr) (Qd : QD), Same F F3 → Sit K B σ H3 F3 δ G3 → H3 D = some (.lst av) → F3 D = none → G3 D = none → B.Z D = none → RepAll K F3 av acc → Fin Qd acc G3 → Beh K B σ F δ Qd (.ref D) H3
theorem finA_l : FinA K finL := fun B σ δ F F3 H3 G3 acc av D Qd s S h f g z ra q => by
  obtain ⟨d3, s3⟩ := S.ds.frz h g z
  exact ⟨_, G3, .lst acc, s.trans s3, ⟨d3, S.gr.trans s3, S.sl.mono s3⟩, .lst upd_same (ra.mono s3), q⟩
theorem finA_m : FinA K finM := fun B σ δ F F3 H3 G3 acc av D Qd s S h f g z ra q => by
  refine ⟨F3, updG G3 D (.lst acc), .adr D, s, ⟨⟨S.ds.sub, fun b m e => ?_, S.ds.zub, fun b u e => ?_, S.ds.ft, S.ds.tab⟩, S.gr, S.sl⟩, .adr D, q D g⟩
  · by_cases c : b = D
    · subst c
      rw [updG_same] at e
      cases e
      exact ⟨f, av, h, ra⟩
    · rw [updG_ne c] at e
      exact S.ds.mu b m e
  · have c : b ≠ D := fun c => by rw [c, z] at e; cases e
    exact ⟨(S.ds.zf b u e).1, (updG_ne c).trans (S.ds.zf b u e).2.1, (S.ds.zf b u e).2.2⟩
def dYes : TTD := fun _ G Q => Q true G
def DTs (X : Cx) (B : Bs) (ifs : List Expr) (T : TTD) : Prop := PTs X ifs (upT X.K B T)
theorem dts_nil : DTs X B [] dYes := ⟨fun pins s σ H Q I h => pts_nil.run pins s σ H Q I (let ⟨F, G, δ, Qd, S, h, k⟩ := h; k true H ⟨F, G, .refl F, S, h⟩)⟩
theorem dts_one {c : Expr} {t : TTD} (h : DT X B c t) : DTs X B [c] t := pts_one h
def upU (K : PySem.W.Frag) (T : TED) : TE := fun σ H Q => ∃ B, up K B T σ H Q
def upTU (K : PySem.W.Frag) (T : TTD) : TT := fun σ H Q => ∃ B, upT K B T σ H Q
/-- what a comprehension's reading comes to -/
theorem lc_adeq {ti : TID} {gV : TG} {g : TGD} {tt : TTD} {te : TED} {vs : List Nat} {Fin : QD → List D → Gm → Prop} (fin : FinA K Fin) (hg : CG K vs gV g) (σ : L2.St) (H : Hp) (Q : VK) (h : up K B (dLcF ti g tt te vs Fin) σ H Q) : tLc (upI K B ti) gV (upTU K tt) (upU K te) vs σ H Q := by
  obtain ⟨F, G, δ, Qd, S, h, k⟩ := h
  refine ⟨F, G, δ, _, S, h, fun J H1 ⟨F1, G1, ds, s1, S1, it, hz, h1⟩ D nD => ?_⟩
  have fD : F1 D = none := S1.ds.noF nD
  have zD : B.Z D = none := S1.ds.noZ nD
  refine ⟨fun i m H' => m = ds.length - i ∧ i ≤ ds.length ∧ ∃ F' G' acc av, Same F1 F' ∧ F' D = none ∧ G' D = none ∧ H' D = some (.lst av) ∧ RepAll K F' av acc ∧ acc.length ≤ i ∧ Sit K B σ H' F' δ G' ∧ lcD g tt te (Fin Qd) (wipeD δ vs) (ds.drop i) acc G',
    ⟨ds.length, by simp, Nat.zero_le _, F1, G1, [], [], .refl F1, fD, S1.ds.noG nD, upd_same, .nil, Nat.le_refl _, S1.same (same_new nD), h1⟩, ?_⟩
  rintro i m H2 ⟨rfl, hi, F2, G2, acc, av, s2, f2, g2, h2D, ra, la, S2, h2⟩
  have sh : Same F1 H2 := s2.trans S2.ds.sub
  rcases Nat.lt_or_ge i ds.length with hlt | hge
  · refine .inr ⟨it.go i H2 hlt sh, fun H' => ∃ F' G' acc av, Same F1 F' ∧ F' D = none ∧ G' D = none ∧ H' D = some (.lst av) ∧ RepAll K F' av acc ∧ acc.length ≤ i + 1 ∧ Sit K B σ H' F' δ G' ∧ lcD g tt te (Fin Qd) (wipeD δ vs) (ds.drop (i + 1)) acc G', fun H' q => ⟨ds.length - (i + 1), by omega, rfl, hlt, q⟩, fun x H3 y => ?_⟩
    -- the new list stays through the turn
    obtain ⟨F3, d, s3, S3, hd, rd⟩ := it.yld i H2 x H3 hlt sh y ⟨F1, upd B.Z D (.lst av), B.T⟩ σ δ G2 F2 ⟨S2.ds.zadd h2D f2 g2 trivial, s2, S2.sl⟩ s2
    rw [drop_get hd] at h2
    have Sw : Sit K ⟨F1, upd B.Z D (.lst av), B.T⟩ (wipe σ vs) H3 F3 (wipeD δ vs) G2 := ⟨S3.ds, S3.gr, S3.sl.wipe vs⟩
    refine hg _ _ _ _ _ _ _ _ _ _ Sw rd h2 fun σ4 δ4 e4 S4 h4 => ⟨?_, ⟨F1, upd B.Z D (.lst av), B.T⟩, F3, G2, δ4, _, S4, h4, fun b H5 ⟨F5, G5, s5, S5, h5⟩ => ?_⟩
    · have ww : ∀ (us : List Nat) (σ : L2.St), (∀ u ∈ us, u ∈ vs) → wipe (wipe σ us) vs = wipe σ vs := by
        intro us
        induction us with
        | nil => intro σ _; rfl
        | cons u us ih =>
          intro σ hu
          show wipe ((wipe σ us).set u none) vs = wipe σ vs
          rw [wipe_set (hu u List.mem_cons_self)]
          exact ih σ fun v hv => hu v (List.mem_cons_of_mem _ hv)
      exact e4.trans (ww vs σ fun u hu => hu)
    · cases b with
      | false =>
        obtain ⟨d5, h5D, f5, g5⟩ := S5.ds.zdel zD
        exact ⟨F5, G5, acc, av, (s2.trans s3).trans s5, f5, g5, h5D, ra.mono (s3.trans s5), by omega, ⟨d5, S2.gr.trans (s3.trans s5), S2.sl.mono (s3.trans s5)⟩, h5⟩
      | true =>
        refine ⟨⟨F1, upd B.Z D (.lst av), B.T⟩, F5, G5, δ4, _, S5, h5, fun y H6 ⟨F6, G6, dy, s6, S6, r6, h6⟩ => ?_⟩
        obtain ⟨d6, h6D, f6, g6⟩ := S6.ds.zdel zD
        have st := (s3.trans s5).trans s6
        refine ⟨av, h6D, by rw [ra.length]; omega, F6, G6, acc ++ [dy], av ++ [y], s2.trans st, f6, g6, upd_same, (ra.mono st).append (.cons r6 .nil), by simp; omega, ⟨d6.other h6D f6 g6 zD, S2.gr.trans st, S2.sl.mono st⟩, h6⟩
  · have e : i = ds.length := by omega
    subst e
    rw [List.drop_length] at h2
    exact .inl ⟨it.stop H2 sh, k _ _ (fin B σ δ F F2 H2 G2 acc av D Qd (s1.trans s2) S2 h2D f2 g2 zD ra h2)⟩
section
variable {elt tg iter : Expr} {ifs : List Expr} {scope : Scope} {own : List (Str × Nat)} {ti : TID} {gV : TG} {g : TGD} {tt : TTD} {te : TED}
theorem de_lcF {Fin : QD → List D → Gm → Prop} (fin : FinA X.K Fin) (hc : X.calm = true) (hN : X.N.Nodup) (hi : DI X B tg iter ti) (ok : BlkOk X.N X.env.scope scope own)
    (hcg : CG X.K (own.map (·.2)) gV g)
    (hg : ∀ (s : Shared) (H : Hp) (C : Addr) (cl : List (Str × Addr)) (fp : List Addr), PG (X.blk s H scope (compEnvC scope cl C X.env) fp) tg gV)
    (ht : ∀ (s : Shared) (H : Hp) (C : Addr) (cl : List (Str × Addr)) (fp : List Addr) (B : Bs), DTs (X.blk s H scope (compEnvC scope cl C X.env) fp) B ifs tt)
    (he : ∀ (s : Shared) (H : Hp) (C : Addr) (cl : List (Str × Addr)) (fp : List Addr) (B : Bs), DE (X.blk s H scope (compEnvC scope cl C X.env) fp) B elt te) (hs : ∀ x, foldedSetIterable iter X.env x = pure x := by intro _; rfl) :
    DE X B (.ListComp elt [⟨tg, iter, ifs, 0⟩] scope pos) (dLcF ti g tt te (own.map (·.2)) Fin) :=
  PE.weak (pe_lc hc hN hi ok hg (fun s H C cl fp => ⟨fun pins s σ H Q I ⟨B, h⟩ => (ht _ _ C cl fp B).run pins s σ H Q I h⟩) (fun s H C cl fp => ⟨fun pins s σ H Q I ⟨B, h⟩ => (he _ _ C cl fp B).run pins s σ H Q I h⟩) hs) fun σ H Q h => lc_adeq fin hcg σ H Q h
theorem ds_setLcF {Fin : QD → List D → Gm → Prop} (fin : FinA X.K Fin) {i : Nat} {y : Str} {py spos : Pos} (hc : X.calm = true) (hN : X.N.Nodup) (hy : X.N[i]? = some y) (hyl : X.env.scope.names.lookup y = some .local)
    (hsw : swapsWith (.ListComp elt [⟨tg, iter, ifs, 0⟩] scope pos) (some (.Name y py)) spos.line X.env = pure true) (hi : DI X B tg iter ti) (ok : BlkOk X.N X.env.scope scope own)
    (hcg : CG X.K (own.map (·.2)) gV g)
    (hg : ∀ (s : Shared) (H : Hp) (C : Addr) (cl : List (Str × Addr)) (fp : List Addr), PG (X.blk s H scope (compEnvC scope cl C X.env) fp) tg gV)
    (ht : ∀ (s : Shared) (H : Hp) (C : Addr) (cl : List (Str × Addr)) (fp : List Addr) (B : Bs), DTs (X.blk s H scope (compEnvC scope cl C X.env) fp) B ifs tt)
    (he : ∀ (s : Shared) (H : Hp) (C : Addr) (cl : List (Str × Addr)) (fp : List Addr) (B : Bs), DE (X.blk s H scope (compEnvC scope cl C X.env) fp) B elt te) (hs : ∀ x, foldedSetIterable iter X.env x = pure x := by intro _; rfl) :
    DSt X B (.Assign [.Name y py] (.ListComp elt [⟨tg, iter, ifs, 0⟩] scope pos) spos) (dAsg (dLcF ti g tt te (own.map (·.2)) Fin) (gNameD i)) :=
  PS.weak (ps_setLc hc hN hy hyl hsw hi ok hg (fun s H C cl fp => ⟨fun pins s σ H Q I ⟨B, h⟩ => (ht _ _ C cl fp B).run pins s σ H Q I h⟩) (fun s H C cl fp => ⟨fun pins s σ H Q I ⟨B, h⟩ => (he _ _ C cl fp B).run pins s σ H Q I h⟩) hs) fun D σ H ⟨F, G, δ, E, S, h, L⟩ =>
    lc_adeq fin hcg σ H _ ⟨F, G, δ, _, S, h, fun v H' ⟨F', G', d, s', S', r', q'⟩ => L.nx _ _ ⟨F', G', _, s', S'.set i r', q'⟩⟩
end
end
end JP
namespace JP
open PySem PySem.Spec PyProof.Rows L2
/-- what is wished of an exception: its class, its fields -/
abbrev WD := Addr → List (Str × D) → Gm → Prop
abbrev WN : WD := fun _ _ _ => False
abbrev SpD := List D → Gm → QD → WD → Prop
def XRep (K : PySem.W.Frag) (F : Hp) (dd : Option Addr) (fs : List (Str × D)) : Prop := (dd = none ∧ fs = []) ∨ ∃ a fv, dd = some a ∧ F a = some (.xd fv) ∧ RepF K F fv fs
def XW (K : PySem.W.Frag) (B : Bs) (W : WD) : XK := fun cls dd H => ∃ F G C fs, cls = .ref C ∧ Same B.F F ∧ DS K B.T F H G B.Z ∧ XRep K F dd fs ∧ W C fs G
def lowSp (K : PySem.W.Frag) (sp : SpD) : Sp := fun vs H Q E => ∃ (B : Bs) (G : Gm) (ds : List D) (Qd : QD) (W : WD), DS K B.T B.F H G B.Z ∧ RepAll K B.F vs ds ∧ sp ds G Qd W ∧ (∀ v H', BehR K B B.F Qd v H' → Q v H') ∧ (∀ cls dd H', XW K B W cls dd H' → E cls dd H')
abbrev FnD (P : Program) (w : World) (K : PySem.W.Frag) (mg : Str → Option Value) (base : Heap) (k : Nat) (f : Addr) (fd : FuncData) (ps : List Str) (sp : SpD) : Prop := FnOk P w K mg base (L2.CX P w) k f fd ps (lowSp K sp)
abbrev GnD (P : Program) (w : World) (K : PySem.W.Frag) (mg : Str → Option Value) (base : Heap) (k : Nat) (f : Addr) (fd : FuncData) (ps : List Str) (sp : SpD) : Prop := GOk P w K mg base k f fd ps (lowSp K sp)
def startD (N : List Str) (ds : List D) : SD := ds.map some ++ List.replicate (N.length - ds.length) none
theorem sl_start {K : PySem.W.Frag} {F : Hp} {N : List Str} {vs : List V} {ds : List D} (r : RepAll K F vs ds) : Sl K F (L2.start N vs) (startD N ds) := by
  have l := r.length
  refine ⟨by simp [L2.start, startD, l], fun i d e => ?_⟩
  unfold startD at e
  unfold L2.start
  rcases Nat.lt_or_ge i ds.length with h | h
  · rw [List.getElem?_append_left (by simpa using h), List.getElem?_map] at e
    obtain ⟨d', e1, e2⟩ := Option.map_eq_some_iff.mp e
    cases e2
    obtain ⟨v, ev, rv⟩ := r.get e1
    exact ⟨v, by rw [List.getElem?_append_left (by simp; omega), List.getElem?_map, ev]; rfl, rv⟩
  · rw [List.getElem?_append_right (by simpa using h)] at e
    rw [List.getElem?_replicate] at e
    split at e <;> cases e
section
variable {P : Program} {w : World} {K : PySem.W.Frag} {mg : Str → Option Value} {base : Heap} {k : Nat} {f : Addr} {fd : FuncData} {ps N : List Str} {sp : SpD}
theorem FnD.arity (F : FnD P w K mg base k f fd ps sp) {ds : List D} {G : Gm} {Q : QD} {W : WD} {B : Bs} {H : Hp} {vs : List V} (d : DS K B.T B.F H G B.Z) (r : RepAll K B.F vs ds) (h : sp ds G Q W) : vs.length = ps.length :=
  F.len vs H (fun _ _ => True) (fun _ _ _ => True) ⟨B, G, ds, Q, W, d, r, h, fun _ _ _ => trivial, fun _ _ _ _ => trivial⟩
/-- a def of the text by its body -/
theorem dfn {x qual : Str} {st : Stmt} (F : Fun K x qual st f fd) (S : FnScope N ps (defScope st)) (len : ∀ ds G Q W, sp ds G Q W → ds.length = ps.length)
    (body : ∀ (cdv : Value) (A : Around) (outer : List Env) (s : Shared) (H : Hp) (E : XK) (B : Bs) (W : WD), Room k (A.deeper (envOfC qual (defScope st) s.heap.objs.size f cdv)) →
      Takes (cxOf (L2.CX P w) P w K mg base N qual (defScope st) f cdv A outer s H E) (fun cls d _ H => XW K B W cls d H) →
      ∃ T, DB (cxOf (L2.CX P w) P w K mg base N qual (defScope st) f cdv A outer s H E) B (defBody st) T ∧ ∀ ds G Q, sp ds G Q W → T { nx := fun _ G => Q .non G, rt := Q } (startD N ds) G) :
    FnD P w K mg base (k + 1) f fd ps sp :=
  F.okX S (fun vs H Q E ⟨B, G, ds, Qd, W, d, r, h, _, _⟩ => r.length.trans (len ds G Qd W h)) fun cdv A outer s H vs Q E hr ⟨B, G, ds, Qd, W, d, r, h, kq, ke⟩ => by
    obtain ⟨T, hT, hq⟩ := body cdv A outer s H E B W hr ((takes_of rfl rfl rfl rfl).imp fun c d _ H q => ke c d H q)
    refine ⟨upS K B T, hT, B.F, G, startD N ds, _, ⟨d, .refl B.F, sl_start r⟩, hq ds G Qd h, ⟨fun σ H' ⟨F', G', δ', s', S', q⟩ => kq _ _ ⟨F', G', .non, s', S'.ds, S'.gr, .non, q⟩, fun v H' q => kq v H' q, fun _ _ ⟨_, _, _, _, _, q⟩ => q.elim, fun _ _ ⟨_, _, _, _, _, q⟩ => q.elim⟩⟩
/-- with defaults -/
theorem dfnD {x qual : Str} {pm : Arguments} {bd : List Stmt} {sc : Scope} {dvs : List V} {kws : List (Str × V)} (F : FunD K x qual pm bd sc dvs kws f fd) (S : FnScope N ps sc) (len : ∀ ds G Q W, sp ds G Q W → ds.length = ps.length)
    (body : ∀ (cdv : Value) (A : Around) (outer : List Env) (s : Shared) (H : Hp) (E : XK) (B : Bs) (W : WD), Room k (A.deeper (envOfC qual sc s.heap.objs.size f cdv)) →
      Takes (cxOf (L2.CX P w) P w K mg base N qual sc f cdv A outer s H E) (fun cls d _ H => XW K B W cls d H) →
      ∃ T, DB (cxOf (L2.CX P w) P w K mg base N qual sc f cdv A outer s H E) B bd T ∧ ∀ ds G Q, sp ds G Q W → T { nx := fun _ G => Q .non G, rt := Q } (startD N ds) G) :
    FnD P w K mg base (k + 1) f fd ps sp :=
  F.ok (CX := L2.CX P w) S (fun vs H Q E ⟨B, G, ds, Qd, W, d, r, h, _, _⟩ => r.length.trans (len ds G Qd W h)) fun cdv A outer s H vs Q E hr ⟨B, G, ds, Qd, W, d, r, h, kq, ke⟩ => by
    obtain ⟨T, hT, hq⟩ := body cdv A outer s H E B W hr ((takes_of rfl rfl rfl rfl).imp fun c d _ H q => ke c d H q)
    refine ⟨upS K B T, hT, B.F, G, startD N ds, _, ⟨d, .refl B.F, sl_start r⟩, hq ds G Qd h, ⟨fun σ H' ⟨F', G', δ', s', S', q⟩ => kq _ _ ⟨F', G', .non, s', S'.ds, S'.gr, .non, q⟩, fun v H' q => kq v H' q, fun _ _ ⟨_, _, _, _, _, q⟩ => q.elim, fun _ _ ⟨_, _, _, _, _, q⟩ => q.elim⟩⟩
/-- a def that is called where no repr goes on, and lets nothing out -/
theorem dfg {x qual : Str} {st : Stmt} (F : Fun K x qual st f fd) (S : FnScope N ps (defScope st)) (len : ∀ ds G Q W, sp ds G Q W → ds.length = ps.length)
    (body : ∀ (cdv : Value) (A : Around) (outer : List Env) (s : Shared) (H : Hp) (E : XK) (B : Bs), A.guards = some [] → Room k (A.deeper (envOfC qual (defScope st) s.heap.objs.size f cdv)) →
      ∃ T, DB (cxOf CX0 P w K mg base N qual (defScope st) f cdv A outer s H E).nox B (defBody st) T ∧ ∀ ds G Q W, sp ds G Q W → T { nx := fun _ G => Q .non G, rt := Q } (startD N ds) G) :
    GnD P w K mg base (k + 1) f fd ps sp :=
  gok F S (fun vs H Q E ⟨B, G, ds, Qd, W, d, r, h, _, _⟩ => r.length.trans (len ds G Qd W h)) fun cdv A outer s H vs Q E g hr ⟨B, G, ds, Qd, W, d, r, h, kq, ke⟩ => by
    obtain ⟨T, hT, hq⟩ := body cdv A outer s H E B g hr
    refine ⟨upS K B T, hT, B.F, G, startD N ds, _, ⟨d, .refl B.F, sl_start r⟩, hq ds G Qd W h, ⟨fun σ H' ⟨F', G', δ', s', S', q⟩ => kq _ _ ⟨F', G', .non, s', S'.ds, S'.gr, .non, q⟩, fun v H' q => kq v H' q, fun _ _ ⟨_, _, _, _, _, q⟩ => q.elim, fun _ _ ⟨_, _, _, _, _, q⟩ => q.elim⟩⟩
end
section
variable {X : Cx} {B : Bs} {K : PySem.W.Frag} {W : WD}
/-- what a callee may let out is taken -/
theorem hx_of (tk : Takes X fun cls d _ H => XW X.K B W cls d H) : Passes (L2.CX X.prog X.w) X (XW X.K B W) := passes_call tk fun _ _ _ _ h => h
theorem hx0 : Passes (L2.CX X.prog X.w) X (XW X.K B WN) := passes_call takesN fun cls d σ H ⟨_, _, _, _, _, _, _, _, h⟩ => h.elim
def dCall (sp : SpD) (W : WD) (t : TAD) : TED := fun δ G Q => t δ G fun ds G1 => sp ds G1 Q W
variable {k : Nat} {f C : Addr} {fd : FuncData} {ps : List Str} {sp : SpD} {x m : Str} {p pos apos : Pos} {e o : Expr} {es : List Expr} {te : TED} {t : TAD} {σ : L2.St} {H F : Hp} {δ : SD} {G : Gm}
/-- into a call: what it wants of trees is had of the heap -/
theorem low_of {Q : VK} {Qd : QD} {vs : List V} {ds : List D} {F1 : Hp} {G1 : Gm} (kk : ∀ v H', Beh K B σ F δ Qd v H' → Q v H') (s1 : Same F F1) (S1 : Sit K B σ H F1 δ G1) (r : RepAll K F1 vs ds) (h : sp ds G1 Qd W) : lowSp K sp vs H Q (XW K B W) :=
  ⟨⟨F1, B.Z, B.T⟩, G1, ds, Qd, W, S1.ds, r, h, fun v H' ⟨F', G', d, s', ds', _, r', q'⟩ => kk v H' ⟨F', G', d, s1.trans s', ⟨ds', S1.gr.trans s', S1.sl.mono s'⟩, r', q'⟩,
    fun cls dd H' ⟨F', G', C, fs, e, s', ds', xr, w⟩ => ⟨F', G', C, fs, e, S1.gr.trans s', ds', xr, w⟩⟩
theorem de_call (Fn : FnD X.prog X.w X.K X.mg X.base k f fd ps sp) (hr : Room k X.A) (hg : Gl X x) (hm : X.mg x = some (.ref f)) (hk : PySem.W.keepIn X.K (.ref f) = true) (hb : Binds X.K fd ps []) (hx : Passes (L2.CX X.prog X.w) X (XW X.K B W))
    (ha : DA X B (e :: es) t) (hdb : (x == ("__debug__" : Str)) = false := by decide) (he : starEach (e :: es) X.env = (false, eval e X.env) :: starEach es X.env := by rfl) (hpl : (backTo pos (starEach es X.env)).any (·.1) = false := by rfl) :
    DE X B (.Call (.Name x p) (e :: es) [] pos) (dCall sp W t) :=
  PE.weak (pe_call Fn hr hg hm hk hb .nil hx ha hdb he hpl) fun σ H Q ⟨F, G, δ, Qd, S, h, kk⟩ => ⟨F, G, δ, _, S, h, fun vs H1 ⟨F1, G1, ds, s1, S1, r1, h1⟩ => by
    show lowSp X.K sp (vs ++ []) H1 Q _
    rw [List.append_nil]
    exact low_of kk s1 S1 r1 h1⟩
theorem de_g (Fn : GnD X.prog X.w X.K X.mg X.base k f fd ps sp) (g : X.A.guards = some []) (hr : Room k X.A) (hg : Gl X x) (hm : X.mg x = some (.ref f)) (hk : PySem.W.keepIn X.K (.ref f) = true) (hb : Binds X.K fd ps [])
    (ha : DA X B (e :: es) t) (hdb : (x == ("__debug__" : Str)) = false := by decide) (he : starEach (e :: es) X.env = (false, eval e X.env) :: starEach es X.env := by rfl) (hpl : (backTo pos (starEach es X.env)).any (·.1) = false := by rfl) :
    DE X B (.Call (.Name x p) (e :: es) [] pos) (dCall sp WN t) :=
  PE.weak (pe_g (E := XW X.K B WN) Fn g hr hg hm hk hb .nil ha hdb he hpl) fun σ H Q ⟨F, G, δ, Qd, S, h, kk⟩ => ⟨F, G, δ, _, S, h, fun vs H1 ⟨F1, G1, ds, s1, S1, r1, h1⟩ => by
    show lowSp X.K sp (vs ++ []) H1 Q _
    rw [List.append_nil]
    exact low_of kk s1 S1 r1 h1⟩
def DK (X : Cx) (B : Bs) (kws : List Keyword) (T : TAD) : Prop := PK X kws (upA X.K B T)
theorem dk_nil : DK X B [] dNil := ⟨fun pos pins s σ H Q I ⟨F, G, δ, Qd, S, h, k⟩ => pk_nil.run pos pins s σ H Q I (k [] H ⟨F, G, [], .refl F, S, .nil, h⟩)⟩
theorem dk_cons {nm : Option Str} {kpos : Pos} {kws : List Keyword} (ha : DE X B e te) (hr : DK X B kws t) : DK X B (⟨nm, e, kpos⟩ :: kws) (dCons te t) :=
  ⟨fun pos pins s σ H Q I ⟨F, G, δ, Qd, S, h, k⟩ => (pk_cons ha hr).run pos pins s σ H Q I ⟨F, G, δ, _, S, h, fun v H1 ⟨F1, G1, d, s1, S1, r1, h1⟩ => ⟨F1, G1, δ, _, S1, h1, fun vs H2 ⟨F2, G2, ds, s2, S2, r2, h2⟩ =>
    k _ H2 ⟨F2, G2, d :: ds, s1.trans s2, S2, .cons (r1.mono s2) r2, h2⟩⟩⟩⟩
def PermOk (gV : List V → List V → List V) (gD : List D → List D → List D) : Prop := ∀ (K : PySem.W.Frag) (F : Hp) (vs zs : List V) (ds es : List D), RepAll K F vs ds → RepAll K F zs es → RepAll K F (gV vs zs) (gD ds es)
theorem perm_ok {np nk : Nat} {ix : List Nat} : PermOk (gPerm np nk ix) (gPerm np nk ix) := fun K F vs zs ds es r q => by
  unfold gPerm
  rw [r.length, q.length]
  split
  · have a := r.append q
    generalize vs ++ zs = xs at a
    generalize ds ++ es = ys at a
    clear r q
    induction ix with
    | nil => exact .nil
    | cons i ix ih =>
      rw [List.filterMap_cons, List.filterMap_cons]
      cases e : ys[i]? with
      | none =>
        have : xs[i]? = none := by
          rw [List.getElem?_eq_none_iff] at e ⊢
          rw [a.length]
          exact e
        rw [this]
        exact ih
      | some d =>
        obtain ⟨v, ev, rv⟩ := a.get e
        rw [ev]
        exact .cons rv ih
  · exact .nil
variable {kws : List Keyword} {tk : TAD} {ks : List Str} {gg : List Value → List Value → List Value} {gV : List V → List V → List V} {gD : List D → List D → List D}
def dCallK (sp : SpD) (gD : List D → List D → List D) (W : WD) (t tk : TAD) : TED := fun δ G Q => t δ G fun ds G1 => tk δ G1 fun es G2 => sp (gD ds es) G2 Q W
theorem de_callK0 (Fn : FnD X.prog X.w X.K X.mg X.base k f fd ps sp) (hr : Room k X.A) (hg : Gl X x) (hm : X.mg x = some (.ref f)) (hk : PySem.W.keepIn X.K (.ref f) = true) (hb : KBinds X.K fd ps ks gg gV) (hx : Passes (L2.CX X.prog X.w) X (XW X.K B W)) (hp : PermOk gV gD)
    (hkw : DK X B kws tk) (hall : (backToKw pos (keywordEach kws X.env)).all (·.1.isSome) = true := by rfl) (hks : (backToKw pos (keywordEach kws X.env)).filterMap (·.1) = ks := by rfl) (hdb : (x == ("__debug__" : Str)) = false := by decide)
    (hpl : ((backTo pos (starEach [] X.env)).any (·.1) || (backToKw pos (keywordEach kws X.env)).any (·.1.isNone)) = false := by rfl) :
    DE X B (.Call (.Name x p) [] kws pos) (dCallK sp gD W dNil tk) :=
  PE.weak (pe_callK0 Fn hr hg hm hk hb hx hkw hall hks hdb hpl) fun σ H Q ⟨F, G, δ, Qd, S, h, kk⟩ => ⟨F, G, δ, _, S, h, fun zs H2 ⟨F2, G2, es, s2, S2, r2, h2⟩ =>
    low_of kk s2 S2 (hp _ _ _ _ _ _ .nil r2) h2⟩
/-- the instance and its attributes, changeable or not -/
def insD (d : D) (G : Gm) : Option (Addr × List (Str × D)) := match d with
  | .ins C fs => some (C, fs)
  | .adr a => match G a with | some (.ins C fs) => some (C, fs) | _ => none
  | _ => none
theorem ins_rep {v : V} {d : D} {C : Addr} {fs : List (Str × D)} (S : Sit K B σ H F δ G) (r : Rep K F v d) (h : insD d G = some (C, fs)) : ∃ a dx fv, v = .ref a ∧ H a = some (.ins C dx fv) ∧ GoodC K C ∧ (∀ p ∈ fs, NoAttr K C p.1) ∧ RepF K F fv fs := by
  cases d with
  | ins C' fs' =>
    cases h
    cases r with
    | ins e g n rf => exact ⟨_, _, _, rfl, S.ds.sub _ _ e, g, n, rf⟩
  | adr a =>
    cases r
    cases g : G a with
    | none => simp [insD, g] at h
    | some mo =>
      cases mo with
      | ins C' fs' =>
        simp only [insD, g, Option.some.injEq, Prod.mk.injEq] at h
        obtain ⟨rfl, rfl⟩ := h
        obtain ⟨dx, fv, e, gc, n, rf⟩ := (S.ds.mu a _ g).2
        exact ⟨a, dx, fv, rfl, e, gc, n, rf⟩
      | _ => simp [insD, g] at h
  | _ => simp [insD] at h
theorem look_mem {f : Str} {y : D} : ∀ {fs : List (Str × D)}, fs.lookup f = some y → (f, y) ∈ fs
  | [], h => by cases h
  | (g, e) :: r, h => by
    rw [List.lookup_cons] at h
    cases q : f == g with
    | true =>
      rw [q] at h
      cases h
      rw [beq_iff_eq] at q
      subst q
      exact List.mem_cons_self
    | false =>
      rw [q] at h
      exact List.mem_cons_of_mem _ (look_mem h)
def fldD (d : D) (G : Gm) (f : Str) : Option D := (insD d G).bind fun p => p.2.lookup f
def dFld (te : TED) (f : Str) : TED := fun δ G Q => te δ G fun d G1 => match fldD d G1 f with | some y => Q y G1 | none => False
theorem de_fld {f : Str} (he : DE X B e te) (hb : attributeBase e f X.env (eval e X.env) = eval e X.env := by rfl) : DE X B (.Attribute e f pos) (dFld te f) :=
  PE.weak (pe_fld he hb) fun σ H Q ⟨F, G, δ, Qd, S, h, kk⟩ => ⟨F, G, δ, _, S, h, fun v H1 ⟨F1, G1, d, s1, S1, r1, h1⟩ => by
    cases q : insD d G1 with
    | none => simp [fldD, q] at h1
    | some cf =>
      obtain ⟨C, fs⟩ := cf
      obtain ⟨a, dx, fv, rfl, e, gc, na, rf⟩ := ins_rep S1 r1 q
      cases l : fs.lookup f with
      | none => simp [fldD, q, l] at h1
      | some y =>
        simp only [fldD, q, Option.bind_some, l] at h1
        obtain ⟨u, lu, ru⟩ := rf.look l
        exact ⟨a, C, dx, fv, u, rfl, e, gc.cl, na _ (look_mem l), lu, kk _ _ ⟨F1, G1, y, s1, S1, ru, h1⟩⟩⟩
theorem repF_put {f : Str} {v : V} {d : D} (r : Rep K F v d) : ∀ {fv : List (Str × V)} {fs : List (Str × D)}, RepF K F fv fs → RepF K F (putF f v fv) (putD f d fs)
  | _, _, .nil => .cons r .nil
  | _, _, .cons (f := g) h q => by
    by_cases c : g = f
    · subst c
      unfold putF putD
      rw [if_pos rfl, if_pos rfl]
      exact .cons r q
    · unfold putF putD
      rw [if_neg c, if_neg c]
      exact .cons h (repF_put r q)
theorem putD_mem {f : Str} {d : D} : ∀ {fs : List (Str × D)} {p : Str × D}, p ∈ putD f d fs → p = (f, d) ∨ p ∈ fs
  | [], p, h => by
    rcases List.mem_cons.mp h with h | h
    · exact .inl h
    · cases h
  | (g, e) :: r, p, h => by
    unfold putD at h
    split at h
    · rcases List.mem_cons.mp h with h | h
      · exact .inl h
      · exact .inr (List.mem_cons_of_mem _ h)
    · rcases List.mem_cons.mp h with h | h
      · exact .inr (h ▸ List.mem_cons_self)
      · rcases putD_mem h with h | h
        · exact .inl h
        · exact .inr (List.mem_cons_of_mem _ h)
/-- o.f = e, o what may change -/
def dSetF (C : Addr) (to te : TED) (f : Str) : TSD := fun E δ G => te δ G fun y G1 => to δ G1 fun d G2 => match d with
  | .adr a => (match G2 a with | some (.ins C' fs) => C' = C ∧ fs.length < 1000 ∧ E.nx δ (updG G2 a (.ins C (putD f y fs))) | _ => False)
  | _ => False
theorem ds_fld {f : Str} {to : TED} {value : Expr} {tv : TED} {pos' : Pos} (na : NoAttr X.K C f) (ho : DE X B o to) (hv : DE X B value tv) (hs : swapsWith value (some (.Attribute o f pos')) pos.line X.env = pure false := by rfl) : DSt X B (.Assign [.Attribute o f pos'] value pos) (dSetF C to tv f) :=
  PS.weak (ps_fld ho hv hs) fun D σ H ⟨F, G, δ, E, S, h, L⟩ => ⟨F, G, δ, _, S, h, fun y H1 ⟨F1, G1, dy, s1, S1, r1, h1⟩ => ⟨F1, G1, δ, _, S1, h1, fun x H2 ⟨F2, G2, d, s2, S2, r2, h2⟩ => by
    cases d with
    | adr a =>
      cases r2
      cases g : G2 a with
      | none =>
        simp only [g] at h2
      | some mo =>
        cases mo with
        | ins C' fs =>
          simp only [g] at h2
          obtain ⟨rfl, hl, q⟩ := h2
          obtain ⟨dx, fv, e, gc, n, rf⟩ := (S2.ds.mu a _ g).2
          refine ⟨a, C', dx, fv, rfl, e, gc.cl, na, by rw [rf.length]; exact hl, L.nx _ _ ⟨F2, _, δ, s1.trans s2, ⟨S2.ds.write (m' := .ins C' (putD f dy fs)) g ⟨dx, _, upd_same, gc, fun p hp => ?_, repF_put (r1.mono s2) rf⟩, S2.gr, S2.sl⟩, q⟩⟩
          rcases putD_mem hp with hp | hp
          · rw [hp]
            exact na
          · exact n p hp
        | _ => simp only [g] at h2
    | _ => exact h2.elim⟩⟩
/-- C(..): made, its __init__ called, then it changes no more -/
def dMake (C : Addr) (sp : SpD) (W : WD) (t : TAD) : TED := fun δ G Q => t δ G fun ds G1 => ∀ x, G1 x = none →
  sp (.adr x :: ds) (updG G1 x (.ins C [])) (fun d G2 => d = .non ∧ match G2 x with | some (.ins C' fs) => Q (.ins C' fs) (delG G2 x) | _ => False) (fun C' fs G2 => W C' fs (delG G2 x))
theorem DS.forget {K : PySem.W.Frag} {Tb : List (Addr × Str)} {F H Z : Hp} {G : Gm} {a : Addr} (d : DS K Tb F H G Z) : DS K Tb F H (delG G a) Z := ⟨d.sub, fun b m e => by
    by_cases c : b = a
    · rw [c, delG_same] at e
      cases e
    · rw [delG_ne c] at e
      exact d.mu b m e, d.zub, fun b u e => ⟨(d.zf b u e).1, by
      have := (d.zf b u e).2.1
      by_cases c : b = a
      · rw [c, delG_same]
      · rw [delG_ne c]
        exact this, (d.zf b u e).2.2⟩, d.ft, d.tab⟩
/-- what a making comes to -/
theorem low_make {vs : List V} {ds : List D} {F1 : Hp} {G1 : Gm} {Q : VK} {Qd : QD} (gc : GoodC K C) (kk : ∀ v H', Beh K B σ F δ Qd v H' → Q v H') (s1 : Same F F1) (S1 : Sit K B σ H F1 δ G1) (r1 : RepAll K F1 vs ds)
    (h1 : ∀ x, G1 x = none → sp (.adr x :: ds) (updG G1 x (.ins C [])) (fun d G2 => d = .non ∧ match G2 x with | some (.ins C' fs) => Qd (.ins C' fs) (delG G2 x) | _ => False) (fun C' fs G2 => W C' fs (delG G2 x))) :
    ∀ x dx, H x = none → H dx = none → dx ≠ x → lowSp K sp (.ref x :: vs) (upd (upd H dx (.own x)) x (.ins C dx [])) (fun v H2 => v = .non ∧ Q (.ref x) H2) (XW K B W) := fun x dx nx ndx ne => by
  have sa : Same H (upd H dx (.own x)) := same_new ndx
  have S2 := S1.same sa
  have nx2 : upd H dx (.own x) x = none := by rw [upd_ne ne.symm]; exact nx
  have d3 := S2.ds.open (o := .ins C dx []) (m := .ins C []) nx2 ⟨dx, [], upd_same, gc, fun p hp => (by cases hp), .nil⟩
  refine ⟨⟨F1, B.Z, B.T⟩, _, _, _, _, d3, .cons (.adr x) r1, h1 x (S1.ds.noG nx), fun v H' ⟨F', G', d, s', ds', _, r', e, q'⟩ => ?_, fun cls dd H' ⟨F', G', C', fs, e, s', ds', xr, w⟩ => ⟨F', _, C', fs, e, S1.gr.trans s', ds'.forget, xr, w⟩⟩
  subst e
  refine ⟨rep_non r', ?_⟩
  cases g : G' x with
  | none => simp only [g] at q'
  | some mo =>
    cases mo with
    | ins C' fs =>
      simp only [g] at q'
      obtain ⟨dx', fv, e, gc', na, rf⟩ := (ds'.mu x _ g).2
      obtain ⟨d4, s4⟩ := ds'.close g e
      exact kk _ _ ⟨_, _, _, (s1.trans s').trans s4, ⟨d4, S1.gr.trans (s'.trans s4), S1.sl.mono (s'.trans s4)⟩, .ins upd_same gc' na (rf.mono s4), q'⟩
    | _ => simp only [g] at q'
theorem de_make (M : Mk X.K C f) (gc : GoodC X.K C) (Fn : FnD X.prog X.w X.K X.mg X.base k f fd ps sp) (hr : Room (k + 1) X.A) (hg : Gl X x) (hm : X.mg x = some (.ref C)) (hb : Binds X.K fd ps []) (hx : Passes (L2.CX X.prog X.w) X (XW X.K B W)) (ha : DA X B (e :: es) t)
    (hdb : (x == ("__debug__" : Str)) = false := by decide) (he : starEach (e :: es) X.env = (false, eval e X.env) :: starEach es X.env := by rfl) (hpl : (backTo pos (starEach es X.env)).any (·.1) = false := by rfl) :
    DE X B (.Call (.Name x p) (e :: es) [] pos) (dMake C sp W t) :=
  PE.weak (pe_make M Fn hr hg hm hb .nil hx ha hdb he hpl) fun σ H Q ⟨F, G, δ, Qd, S, h, kk⟩ => ⟨F, G, δ, _, S, h, fun vs H1 ⟨F1, G1, ds, s1, S1, r1, h1⟩ => by
    show ∀ x dx, _ → _ → _ → lowSp X.K sp (.ref x :: (vs ++ [])) _ _ _
    rw [List.append_nil]
    exact low_make gc kk s1 S1 r1 h1⟩
/-- o.m(..) -/
def dMeth (C : Addr) (m : Str) (sp : SpD) (W : WD) (to : TED) (t : TAD) : TED := fun δ G Q => to δ G fun d G1 => match insD d G1 with | some (C', fs) => C' = C ∧ fs.lookup m = none ∧ t δ G1 fun ds G2 => sp (d :: ds) G2 Q W | none => False
theorem de_meth {pl : Sem Bool} {to : TED} (he : DE X B o to) (c : Cls X.K C) (hm : Meth X.K C m f) (Fn : FnD X.prog X.w X.K X.mg X.base k f fd ps sp) (hr : Room k X.A) (hb : Binds X.K fd ps []) (hx : Passes (L2.CX X.prog X.w) X (XW X.K B W)) (ha : DA X B (e :: es) t)
    (hst : starEach (e :: es) X.env = (false, eval e X.env) :: starEach es X.env := by rfl) (hpl : (backTo pos (starEach es X.env)).any (·.1) = false := by rfl)
    (ht : eval (.Call (.Attribute o m apos) (e :: es) [] pos) X.env = (do
      let ov ← eval o X.env
      standAt apos.atName
      let (f, first) ← holding [ov] (getMethod ov m pl)
      callWith pos f first (backTo pos (starEach (e :: es) X.env)) (backToKw pos (keywordEach [] X.env))) := by rfl) :
    DE X B (.Call (.Attribute o m apos) (e :: es) [] pos) (dMeth C m sp W to t) :=
  PE.weak (pe_meth he c hm Fn hr hb .nil hx ha hst hpl ht) fun σ H Q ⟨F, G, δ, Qd, S, h, kk⟩ => ⟨F, G, δ, _, S, h, fun v H1 ⟨F1, G1, d, s1, S1, r1, h1⟩ => by
    cases q : insD d G1 with
    | none =>
      simp only [q] at h1
    | some cf =>
      obtain ⟨C', fs⟩ := cf
      simp only [q] at h1
      obtain ⟨rfl, hl, h1⟩ := h1
      obtain ⟨a, dx, fv, rfl, e, gc, na, rf⟩ := ins_rep S1 r1 q
      refine ⟨a, dx, fv, rfl, e, rf.lookN hl, F1, G1, δ, _, S1, h1, fun vs H2 ⟨F2, G2, ds, s2, S2, r2, h2⟩ => ?_⟩
      show lowSp X.K sp (.ref a :: (vs ++ [])) H2 Q _
      rw [List.append_nil]
      exact low_of kk (s1.trans s2) S2 (.cons (r1.mono s2) r2) h2⟩
end
end JP
namespace JP
open PySem PySem.Spec PyProof.Rows L2
theorem tuple_mulW00 (l : Addr) (its : List Value) (n : Nat) (dd : Option Addr) (sl : Array (Option Value)) (u : Tok) (hne : its ≠ []) :
    Meets (Builtin.«tuple.__mul__» ⟨[.ref l, .int 0 u], []⟩) (fun _ R s => s.heap.get? l = some { cls := .type "tuple", dict := dd, data := .seq its.toArray n, slots := sl } ∧
      R (.ok (.ret (Value.ref s.heap.objs.size))) { s with heap := s.heap.push { cls := .type "tuple", data := .seq #[] }, toks := s.toks }) :=
  .of_wp fun prog w A R s h => by
    obtain ⟨hp, g, d, tk, os⟩ := s
    obtain ⟨hl, h⟩ := h
    have f1 := AutoSeq1.idx_int
    have e0 : its.toArray.isEmpty = false := by cases its with | nil => exact absurd rfl hne | cons _ _ => rfl
    have c1 : (its.toArray.isEmpty || (0 : Int) == 1) = false := by rw [e0]; rfl
    have c2 : (decide ((0 : Int) ≤ 0) || its.toArray.isEmpty) = true := by simp
    have c0 : (decide ((0 : Int) < -(2 ^ 63)) || decide ((0 : Int) ≥ 2 ^ 63)) = false := by decide
    wp_walk using AutoSeq1.wpAny_loadPart' hl
    repeat (first
      | (refine wpAny_ite_false (decide_eq_false (by rw [c0]; exact Bool.false_ne_true)) ?_; wp_walk using AutoSeq1.wpAny_loadPart' hl)
      | (refine wpAny_ite_false (decide_eq_false (by rw [c1]; exact Bool.false_ne_true)) ?_; wp_walk using AutoSeq1.wpAny_loadPart' hl)
      | (refine wpAny_ite_true (decide_eq_true c2) ?_; wp_walk using AutoSeq1.wpAny_loadPart' hl))
    all_goals first | exact ⟨_, rfl, h⟩ | skip
/-- t * 0 -/
def rRep0 : R2 := fun x y H Q => ∃ l xs, x = .ref l ∧ y = .int 0 ∧ H l = some (.tup xs) ∧ xs ≠ [] ∧ ∀ p, H p = none → Q (.ref p) (upd H p (.tup []))
theorem op_rep0 {X : Cx} : OpR X (binaryOp .Mult) rRep0 := by
  intro pins s σ H x y v u Q I rx ry h
  obtain ⟨l, xs, rfl, rfl, hT, hne, q⟩ := h
  cases rx
  obtain ⟨t, rfl⟩ := ry
  obtain ⟨its, r, ⟨⟨cls, dd, data, sl⟩, ho, hc, n, hd⟩, hs⟩ := I.tuple (SqT.of hT)
  simp only at hc hd
  subst hc hd
  have hi : its ≠ [] := fun z => hne (by
    have := r.length
    rw [z] at this
    exact List.length_eq_zero_iff.mp this)
  refine wpAny_binaryOp_repeat_ref (T := "tuple") (U := "int") (by decide) ⟨_, ho, rfl⟩ (fun s' => typeIs_int s' 0 t) noFill_tuple_mul F.fills_int_mul F.slot_int_rmul repeat_tuple F.slot_int_index.lookup
    (call_meets F.slot_int_rmul (typeIs_int s 0 t) F.entry_int_rmul (F.args_int_rmul_2 _ _) (int_rmul_tuple 0 t l its.toArray n dd sl)
      ⟨ho, rfl, ⟨_, ho, rfl⟩, call_meets F.slot_tuple_mul ⟨_, ho, rfl⟩ F.entry_tuple_mul (F.args_tuple_mul_2 _ _) (tuple_mulW00 l its n dd sl t hi) ⟨ho, ?_⟩⟩)
  refine ⟨.ref s.heap.objs.size, _, I.laid (o := .tup []) (t' := s.toks) (fun b o e => Heap.get?_push_of_some _ e) (Nat.le_refl _) ⟨Nat.zero_le _, [], .nil, ⟨_, Heap.get?_push_size _ rfl, rfl, 0, rfl⟩⟩, rfl, q _ (I.hok.fresh (Nat.le_refl _))⟩
section
variable {X : Cx} {B : Bs} {K : PySem.W.Frag} {a b : Expr} {ta tb : TED} {pos : Pos}
variable {σ : L2.St} {H F : Hp} {δ : SD} {G : Gm}
theorem rep_tup {v : V} {ds : List D} (r : Rep K F v (.tup ds)) : ∃ p xs, v = .ref p ∧ F p = some (.tup xs) ∧ RepAll K F xs ds := by
  cases r with
  | tup h r => exact ⟨_, _, rfl, h, r⟩
theorem rep_lst {v : V} {ds : List D} (r : Rep K F v (.lst ds)) : ∃ p xs, v = .ref p ∧ F p = some (.lst xs) ∧ RepAll K F xs ds := by
  cases r with
  | lst h r => exact ⟨_, _, rfl, h, r⟩
/-- got: a tuple that stands behind -/
theorem Beh.gotT {H' : Hp} {Qd : QD} {p : Addr} {xs : List V} {ds : List D} (S : Sit K B σ H F δ G) (s : Same H H') (h : H' p = some (.tup xs)) (r : RepAll K F xs ds) (q : Qd (.tup ds) G) : Beh K B σ F δ Qd (.ref p) H' :=
  have ⟨d1, s1⟩ := S.ds.got s h (by intro z; exact z)
  ⟨_, G, _, s1, ⟨d1, S.gr.trans s1, S.sl.mono s1⟩, .tup upd_same (r.mono s1), q⟩
theorem Beh.newL {Qd : QD} {p : Addr} {xs : List V} {ds : List D} (S : Sit K B σ H F δ G) (n : H p = none) (r : RepAll K F xs ds) (q : Qd (.lst ds) G) : Beh K B σ F δ Qd (.ref p) (upd H p (.lst xs)) :=
  .new S (.refl F) n (rep_lst_new (S.ds.noF n) r) q
theorem Beh.val {Qd : QD} {v : V} {d : D} (S : Sit K B σ H F δ G) (r : Rep K F v d) (q : Qd d G) : Beh K B σ F δ Qd v H := ⟨F, G, d, .refl F, S, r, q⟩
/-- + -/
def addD : R2D := fun a b G Q => match a, b with
  | .int i, .int j => Q (.int (i + j)) G
  | .int i, .bl k => Q (.int (i + b2i k)) G
  | .str x, .str y => x.length + y.length ≤ sizeLine ∧ Q (.str (x ++ y)) G
  | .lst xs, .lst ys => xs.length + ys.length ≤ sizeLine ∧ Q (.lst (xs ++ ys)) G
  | .tup xs, .tup ys => xs.length + ys.length ≤ sizeLine ∧ Q (.tup (xs ++ ys)) G
  | _, _ => False
theorem de_add (ha : DE X B a ta) (hb : DE X B b tb) : DE X B (.BinOp a .Add b pos) (dOp addD ta tb) :=
  de_op (op_add.or (op_add_ib.or (op_add_str.or (op_cat.or op_cat2)))) (fun B σ δ H F G x y a b Qd Q S r1 r2 h k => by
    unfold addD at h
    split at h
    · rw [rep_int r1, rep_int r2]
      exact .inl ⟨_, _, rfl, rfl, k _ _ (.val S (.int _) h)⟩
    · rw [rep_int r1, rep_bl r2]
      exact .inr (.inl ⟨_, _, rfl, rfl, k _ _ (.val S (.int _) h)⟩)
    · rw [rep_str r1, rep_str r2]
      exact .inr (.inr (.inl ⟨_, _, rfl, rfl, h.1, k _ _ (.val S (.str _) h.2)⟩))
    · obtain ⟨p, us, rfl, e1, q1⟩ := rep_lst r1
      obtain ⟨p2, us2, rfl, e2, q2⟩ := rep_lst r2
      exact .inr (.inr (.inr (.inl ⟨p, p2, us, us2, rfl, rfl, S.ds.sub _ _ e1, S.ds.sub _ _ e2, by rw [q1.length, q2.length]; exact h.1, fun l nl => k _ _ (.newL S nl (q1.append q2) h.2)⟩)))
    · obtain ⟨p, us, rfl, e1, q1⟩ := rep_tup r1
      obtain ⟨p2, us2, rfl, e2, q2⟩ := rep_tup r2
      exact .inr (.inr (.inr (.inr ⟨p, p2, us, us2, rfl, rfl, S.ds.sub _ _ e1, S.ds.sub _ _ e2, by rw [q1.length, q2.length]; exact h.1, fun l H' s e => k _ _ (.gotT S s e (q1.append q2) h.2)⟩)))
    · exact h.elim) ha hb
def subD : R2D := fun a b G Q => match a, b with | .int i, .int j => Q (.int (i - j)) G | _, _ => False
theorem de_sub (ha : DE X B a ta) (hb : DE X B b tb) : DE X B (.BinOp a .Sub b pos) (dOp subD ta tb) :=
  de_op op_sub (fun B σ δ H F G x y a b Qd Q S r1 r2 h k => by
    unfold subD at h
    split at h
    · rw [rep_int r1, rep_int r2]
      exact ⟨_, _, rfl, rfl, k _ _ (.val S (.int _) h)⟩
    · exact h.elim) ha hb
/-- *: within what is reckoned -/
def mulD : R2D := fun a b G Q => match a, b with
  | .int i, .int j => CMulW i j ∧ Q (.int (i * j)) G
  | .str x, .int n => MulOk x n ∧ Q (.str (Txt.mul x n)) G
  | .lst xs, .int n => (-(2 ^ 63) ≤ n ∧ n < 2 ^ 63 ∧ xs.length * n.toNat ≤ sizeLine) ∧ Q (.lst (List.replicate n.toNat xs).flatten) G
  | .tup xs, .int n => (xs ≠ [] ∧ 0 ≤ n ∧ n ≤ 1000 ∧ xs.length ≤ 1000) ∧ Q (.tup (List.replicate n.toNat xs).flatten) G
  | _, _ => False
theorem RepAll.rep {F : Hp} {vs : List V} {ds : List D} (r : RepAll K F vs ds) : ∀ n : Nat, RepAll K F (List.replicate n vs).flatten (List.replicate n ds).flatten
  | 0 => .nil
  | n + 1 => by
    rw [List.replicate_succ, List.replicate_succ, List.flatten_cons, List.flatten_cons]
    exact r.append (RepAll.rep r n)
theorem de_mul (ha : DE X B a ta) (hb : DE X B b tb) : DE X B (.BinOp a .Mult b pos) (dOp mulD ta tb) :=
  de_op (op_mulW.or (op_mulS.or (op_rep.or (op_rep2.or op_rep0)))) (fun B σ δ H F G x y a b Qd Q S r1 r2 h k => by
    unfold mulD at h
    split at h
    · rw [rep_int r1, rep_int r2]
      exact .inl ⟨_, _, rfl, rfl, h.1, k _ _ (.val S (.int _) h.2)⟩
    · rw [rep_str r1, rep_int r2]
      exact .inr (.inl ⟨_, _, rfl, rfl, h.1, k _ _ (.val S (.str _) h.2)⟩)
    · obtain ⟨p, us, rfl, e1, q1⟩ := rep_lst r1
      rw [rep_int r2]
      exact .inr (.inr (.inl ⟨p, _, us, rfl, rfl, S.ds.sub _ _ e1, h.1.1, h.1.2.1, by rw [q1.length]; exact h.1.2.2, fun l nl => k _ _ (.newL S nl (q1.rep _) h.2)⟩))
    · rename_i ds n
      obtain ⟨p, us, rfl, e1, q1⟩ := rep_tup r1
      rw [rep_int r2]
      have l := q1.length
      obtain ⟨⟨h1, h2, h3, h4⟩, hq⟩ := h
      have hne : us ≠ [] := fun z => h1 (by rw [z] at l; exact List.length_eq_zero_iff.mp l.symm)
      by_cases c : n = 0
      · subst c
        exact .inr (.inr (.inr (.inr ⟨p, us, rfl, rfl, S.ds.sub _ _ e1, hne, fun l nl => k _ _ (.gotT S (same_new nl) upd_same .nil hq)⟩)))
      · exact .inr (.inr (.inr (.inl ⟨p, n, us, rfl, rfl, S.ds.sub _ _ e1, hne, by omega, h3, by omega, fun l H' s e => k _ _ (.gotT S s e (q1.rep _) hq)⟩)))
    · exact h.elim) ha hb
def divD : R2D := fun a b G Q => match a, b with | .int i, .int j => CDivW i j ∧ Q (.int (i / j)) G | _, _ => False
theorem de_fdiv (ha : DE X B a ta) (hb : DE X B b tb) : DE X B (.BinOp a .FloorDiv b pos) (dOp divD ta tb) :=
  de_op op_fdivW (fun B σ δ H F G x y a b Qd Q S r1 r2 h k => by
    unfold divD at h
    split at h
    · rw [rep_int r1, rep_int r2]
      exact ⟨_, _, rfl, rfl, h.1, k _ _ (.val S (.int _) h.2)⟩
    · exact h.elim) ha hb
def negD : R1D := fun a G Q => match a with | .int i => Q (.int (-i)) G | _ => False
theorem de_neg (ha : DE X B a ta) : DE X B (.UnaryOp .USub a pos) (dUn negD ta) :=
  PE.weak (pe_un un_neg ha) fun σ H Q ⟨F, G, δ, Qd, S, h, k⟩ => ⟨F, G, δ, _, S, h, fun v H1 ⟨F1, G1, d, s1, S1, r1, h1⟩ => by
    cases d with
    | int i =>
      cases r1
      exact ⟨i, rfl, k _ _ ⟨F1, G1, _, s1, S1, .int _, h1⟩⟩
    | _ => exact h1.elim⟩
/-- comparisons of ints, of texts -/
def cmpD (p : Int → Int → Bool) : R2D := fun a b G Q => match a, b with | .int i, .int j => Q (.bl (p i j)) G | _, _ => False
theorem cmp_A {p : Int → Int → Bool} : OpA K (rI0 fun i j => .bl (p i j)) (cmpD p) := fun B σ δ H F G x y a b Qd Q S r1 r2 h k => by
  unfold cmpD at h
  split at h
  · rw [rep_int r1, rep_int r2]
    exact ⟨_, _, rfl, rfl, k _ _ (.val S (.bl _) h)⟩
  · exact h.elim
abbrev ltD : R2D := cmpD fun i j => decide (i < j)
abbrev leD : R2D := cmpD fun i j => decide (i ≤ j)
abbrev gtD : R2D := cmpD fun i j => decide (j < i)
abbrev geD : R2D := cmpD fun i j => decide (j ≤ i)
theorem lt_A : OpA K (rI0 fun i j => .bl (decide (i < j))) ltD := cmp_A
theorem le_A : OpA K (rI0 fun i j => .bl (decide (i ≤ j))) leD := cmp_A
theorem gt_A : OpA K (rI0 fun i j => .bl (decide (j < i))) gtD := cmp_A
theorem ge_A : OpA K (rI0 fun i j => .bl (decide (j ≤ i))) geD := cmp_A
def isNon : D → Bool
  | .non => true
  | _ => false
def isND : R2D := fun a b G Q => match b with | .non => Q (.bl (isNon a)) G | _ => False
def notND : R2D := fun a b G Q => match b with | .non => Q (.bl (!isNon a)) G | _ => False
theorem rep_isnon {F : Hp} {v : V} {d : D} (r : Rep K F v d) : decide (v = .non) = isNon d := by
  cases r <;> rfl
theorem isN_A : OpA K (fun x y H Q => y = .non ∧ Q (.bl (decide (x = .non))) H) isND := fun B σ δ H F G x y a b Qd Q S r1 r2 h k => by
  unfold isND at h
  split at h
  · refine ⟨rep_non r2, k _ _ (.val S (.bl _) ?_)⟩
    rw [rep_isnon r1]
    exact h
  · exact h.elim
theorem notN_A : OpA K (fun x y H Q => y = .non ∧ Q (.bl (!decide (x = .non))) H) notND := fun B σ δ H F G x y a b Qd Q S r1 r2 h k => by
  unfold notND at h
  split at h
  · refine ⟨rep_non r2, k _ _ (.val S (.bl _) ?_)⟩
    rw [rep_isnon r1]
    exact h
  · exact h.elim
mutual
inductive DP : D → PyData → Prop
  | non : DP .non .none
  | bl (b : Bool) : DP (.bl b) (.bool b)
  | int (i : Int) : DP (.int i) (.int i)
  | str (x : Str) : DP (.str x) (.str x)
  | lst {ds : List D} {ps : List PyData} : DPs ds ps → DP (.lst ds) (.list ps)
  | tup {ds : List D} {ps : List PyData} : DPs ds ps → DP (.tup ds) (.tuple ps)
  | ptu {ds : List D} {ps : List PyData} : DPs ds ps → DP (.ptu ds) (.tuple ps)
inductive DPs : List D → List PyData → Prop
  | nil : DPs [] []
  | cons {d : D} {ds : List D} {p : PyData} {ps : List PyData} : DP d p → DPs ds ps → DPs (d :: ds) (p :: ps)
end
mutual
theorem DP.rep (s : Same F H) : ∀ {d : D} {p : PyData} {v : V}, DP d p → Rep K F v d → Dp K H v p
  | _, _, _, .non, r => by cases r; exact .non
  | _, _, _, .bl b, r => by cases r; exact .bl b
  | _, _, _, .int i, r => by cases r; exact .int i
  | _, _, _, .str x, r => by cases r; exact .str x
  | _, _, _, .lst h, r => by
    cases r with
    | lst e q => exact .lst (.of (s _ _ e)) (DPs.rep s h q)
  | _, _, _, .tup h, r => by
    cases r with
    | tup e q => exact .tup (.of (s _ _ e)) (DPs.rep s h q)
  | _, _, _, .ptu h, r => by
    cases r with
    | pt e hd q => exact .tup (.inl (.inr ⟨_, s _ _ e⟩)) (DPs.rep s h q)
theorem DPs.rep (s : Same F H) : ∀ {d : List D} {p : List PyData} {v : List V}, DPs d p → RepAll K F v d → DpAll K H v p
  | _, _, _, .nil, r => by cases r; exact .nil
  | _, _, _, .cons h t, r => by
    cases r with
    | cons r q => exact .cons (DP.rep s h r) (DPs.rep s t q)
end
def eqD2 : R2D := fun a b G Q => ∃ p q, DP a p ∧ DP b q ∧ SeqAt.shaped p = true ∧ SeqAt.shaped q = true ∧ Q (.bl (PyData.eqv p q)) G
def neD2 : R2D := fun a b G Q => ∃ p q, DP a p ∧ DP b q ∧ SeqAt.shaped p = true ∧ SeqAt.shaped q = true ∧ Q (.bl (!PyData.eqv p q)) G
theorem eq_A : OpA K (rEqD K) eqD2 := fun B σ δ H F G x y a b Qd Q S r1 r2 ⟨p, q, hp, hq, s1, s2, h⟩ k => ⟨p, q, hp.rep S.ds.sub r1, hq.rep S.ds.sub r2, s1, s2, k _ _ (.val S (.bl _) h)⟩
theorem ne_A : OpA K (rNeD K) neD2 := fun B σ δ H F G x y a b Qd Q S r1 r2 ⟨p, q, hp, hq, s1, s2, h⟩ k => ⟨p, q, hp.rep S.ds.sub r1, hq.rep S.ds.sub r2, s1, s2, k _ _ (.val S (.bl _) h)⟩
/-- in a list or a tuple of plain things -/
inductive Fl : V → D → Prop
  | non : Fl .non .non | bl (b : Bool) : Fl (.bl b) (.bl b) | int (i : Int) : Fl (.int i) (.int i) | str (x : Str) : Fl (.str x) (.str x)
theorem Fl.rep {F : Hp} {v u : V} {d : D} (f : Fl v d) (r : Rep K F u d) : u = v ∧ flatV v = true := by
  cases f <;> cases r <;> exact ⟨rfl, rfl⟩
def seqD (d : D) (G : Gm) : Option (List D) := match d with
  | .lst ds => some ds
  | .tup ds => some ds
  | .ptu ds => some ds
  | .adr a => match G a with | some (.lst ds) => some ds | _ => none
  | _ => none
theorem seq_rep {v : V} {d : D} {ds : List D} (S : Sit K B σ H F δ G) (r : Rep K F v d) (h : seqD d G = some ds) : ∃ p xs, v = .ref p ∧ (SqL K H p xs ∨ SqT K H p xs) ∧ RepAll K F xs ds := by
  cases d with
  | lst es =>
    cases h
    obtain ⟨p, xs, e, h1, h2⟩ := rep_lst r
    exact ⟨p, xs, e, .inl (.of (S.ds.sub _ _ h1)), h2⟩
  | tup es =>
    cases h
    obtain ⟨p, xs, e, h1, h2⟩ := rep_tup r
    exact ⟨p, xs, e, .inr (.of (S.ds.sub _ _ h1)), h2⟩
  | ptu es =>
    cases h
    cases r with
    | pt hq e ra => exact ⟨_, _, rfl, .inr (.inl (.inr ⟨_, S.ds.sub _ _ hq⟩)), ra⟩
  | adr a =>
    cases r
    cases g : G a with
    | none => simp [seqD, g] at h
    | some mo =>
      cases mo with
      | lst es =>
        simp only [seqD, g, Option.some.injEq] at h
        subst h
        obtain ⟨xs, e, q⟩ := (S.ds.mu a _ g).2
        exact ⟨a, xs, rfl, .inl (.of e), q⟩
      | _ => simp [seqD, g] at h
  | _ => simp [seqD] at h
/-- d[i] -/
def ixD : R2D := fun a b G Q => match b with
  | .int i => (match a with
    | .str z => z.length ≤ sizeLine ∧ (match atI z.cps.toList i with | some c => Q (.str ⟨#[c]⟩) G | none => False)
    | _ => match seqD a G with | some ds => (match atI ds i with | some d => Q d G | none => False) | none => False)
  | _ => False
theorem atI_rep {F : Hp} {xs : List V} {ds : List D} {i : Int} {d : D} (r : RepAll K F xs ds) (h : atI ds i = some d) : ∃ v, atI xs i = some v ∧ Rep K F v d := by
  unfold atI at h ⊢
  rw [r.length]
  cases e : ixN ds.length i with
  | none => rw [e] at h; cases h
  | some j =>
    rw [e] at h
    exact r.get h
theorem ix_A : OpA K (rIx K) ixD := fun B σ δ H F G x y a b Qd Q S r1 r2 h k => by
  cases b with
  | int i =>
    cases r2
    have main : ∀ {ds : List D} {d : D}, seqD a G = some ds → atI ds i = some d → Qd d G → rIx K x (.int i) H Q := fun {ds d} e1 e2 q => by
      obtain ⟨p, xs, rfl, hs, ra⟩ := seq_rep S r1 e1
      obtain ⟨v, ev, rv⟩ := atI_rep ra e2
      rcases hs with hs | hs
      · exact .inl ⟨p, xs, i, v, rfl, rfl, hs, ev, k _ _ (.val S rv q)⟩
      · exact .inr (.inl ⟨p, xs, i, v, rfl, rfl, hs, ev, k _ _ (.val S rv q)⟩)
    have tail : (match seqD a G with | some ds => (match atI ds i with | some d => Qd d G | none => False) | none => False) → rIx K x (.int i) H Q := fun h => by
      cases e : seqD a G with
      | none => simp only [e] at h
      | some ds =>
        simp only [e] at h
        cases e2 : atI ds i with
        | none => simp only [e2] at h
        | some d =>
          simp only [e2] at h
          exact main e e2 h
    cases a with
    | str z =>
      cases r1
      obtain ⟨h1, h2⟩ := h
      cases e : atI z.cps.toList i with
      | none => simp only [e] at h2
      | some c =>
        simp only [e] at h2
        exact .inr (.inr ⟨z, i, c, rfl, rfl, h1, e, k _ _ (.val S (.str _) h2)⟩)
    | _ => exact tail h
  | _ => exact h.elim
end
end JP
namespace JP
open PySem PySem.Spec PyProof.Rows L2
section
variable {X : Cx} {B : Bs} {K : PySem.W.Frag} {a b e : Expr} {es : List Expr} {ta tb te : TED} {t : TAD} {pos p : Pos}
variable {σ : L2.St} {H F : Hp} {δ : SD} {G : Gm} {W : WD}
def kiD : D → Option Ki
  | .non => some .non | .bl _ => some .bl | .int _ => some .int | .str _ => some .str | .lst _ => some .lst | .tup _ => some .tup | .dic _ => some .dct | .dit _ => some .dct | .dif _ => some .dct
  | _ => none
inductive TyD (K : PySem.W.Frag) (d : D) (G : Gm) : Value → Prop
  | ki {k : Ki} : kiD d = some k → TyD K d G (.type k.name)
  | ins {C : Addr} {fs : List (Str × D)} : insD d G = some (C, fs) → TyD K d G (.ref C)
theorem ki_ty {v : V} {d : D} {k : Ki} (S : Same F H) (r : Rep K F v d) (h : kiD d = some k) : TyX K H v (.type k.name) := by
  cases r with
  | dk q r =>
    cases h
    rcases q with q | ⟨o, q⟩
    · exact .base (.dK (S _ _ q))
    · exact .fDict (S _ _ q)
  | dt q r => cases h; exact .base (.dT (S _ _ q))
  | df q r => cases h; exact .fDict (S _ _ q)
  | tup q r => cases h; exact .base (.tup (S _ _ q))
  | lst q r => cases h; exact .base (.lst (S _ _ q))
  | non => cases h; exact .base .non
  | bl b => cases h; exact .base (.bl b)
  | int b => cases h; exact .base (.int b)
  | str b => cases h; exact .base (.str b)
  | _ => cases h
theorem tyD_ty {v : V} {d : D} {t : Value} (S : Sit K B σ H F δ G) (r : Rep K F v d) (h : TyD K d G t) : TyX K H v t := by
  cases h with
  | ki h => exact ki_ty S.ds.sub r h
  | ins h =>
    obtain ⟨a, dx, fv, rfl, e, gc, _, _⟩ := ins_rep S r h
    exact .base (.ins e gc.cl gc.ca gc.sg gc.tk gc.mr)
theorem kit_any {K : PySem.W.Frag} (k : Ki) : ∀ ks : List Ki, PySem.W.kitAny K (.type k.name) (ks.map fun j => .type j.name) = some (ks.any k.below)
  | [] => rfl
  | j :: js => by
    have h1 := ki_kit (K := K) k j
    have h2 := kit_any (K := K) k js
    rw [List.map_cons, List.any_cons]
    show (match PySem.W.kitOne K (.type k.name) (.type j.name) with | some true => _ | some false => _ | none => _) = _
    rw [h1]
    cases k.below j with
    | true => rfl
    | false => exact h2
theorem mem_ty : ∀ j : Ki, j = .non ∨ j.name ∈ tyNames := by intro j; cases j <;> first | exact .inl rfl | (right; simp [Ki.name, tyNames])
/-- isinstance(x, T), T built-in -/
def isK (d : D) (G : Gm) (j : Ki) : Option Bool := match kiD d with
  | some k => some (k.below j)
  | none => match insD d G with | some _ => (if j = .non then none else some false) | none => none
def dIsK (j : Ki) (te : TED) : TED := fun δ G Q => te δ G fun d G1 => match isK d G1 j with | some b => Q (.bl b) G1 | none => False
theorem isK_ty {v : V} {d : D} {j : Ki} {b : Bool} (S : Sit K B σ H F δ G) (r : Rep K F v d) (h : isK d G j = some b) : ∃ t, TyX K H v t ∧ PySem.W.kitOne K t (.type j.name) = some b := by
  cases q : kiD d with
  | some k =>
    simp only [isK, q, Option.some.injEq] at h
    subst h
    exact ⟨_, ki_ty S.ds.sub r q, ki_kit k j⟩
  | none =>
    cases i : insD d G with
    | none => simp [isK, q, i] at h
    | some cf =>
      obtain ⟨C, fs⟩ := cf
      simp only [isK, q, i] at h
      split at h
      · cases h
      · rename_i nj
        cases h
        obtain ⟨a, dx, fv, rfl, e, gc, _, _⟩ := ins_rep S r i
        exact ⟨.ref C, .base (.ins e gc.cl gc.ca gc.sg gc.tk gc.mr), gc.kt _ ((mem_ty j).resolve_left nj)⟩
theorem de_isK {c : Expr} {j : Ki} (hg : Gl X "isinstance") (hm : X.mg "isinstance" = none) (hv : bootBuiltins "isinstance" = some (.builtin "isinstance")) (ha : DE X B e te) (hc : PE X c (tC (.ty j.name)))
    (h1 : starEach [e, c] X.env = (false, eval e X.env) :: starEach [c] X.env := by rfl) (h2 : starEach [c] X.env = (false, eval c X.env) :: starEach [] X.env := by rfl) (hpl : (backTo pos (starEach [c] X.env)).any (·.1) = false := by rfl) :
    DE X B (.Call (.Name "isinstance" p) [e, c] [] pos) (dIsK j te) :=
  PE.weak (pe_callB call_isi hg hm hv (pa_cons ha (pa_cons hc pa_nil h2) h1) (he := h1) (hpl := hpl)) fun σ H Q ⟨F, G, δ, Qd, S, h, k⟩ => ⟨F, G, δ, _, S, h, fun v H1 ⟨F1, G1, d, s1, S1, r1, h1⟩ => by
    cases q : isK d G1 j with
    | none => simp only [q] at h1
    | some b =>
      simp only [q] at h1
      obtain ⟨t, ty, kt⟩ := isK_ty S1 r1 q
      exact ⟨v, .ty _, t, _, b, rfl, .ty _, ty, kt, k _ _ ⟨F1, G1, _, s1, S1, .bl b, h1⟩⟩⟩
/-- isinstance(x, (T1, T2)) -/
def isKs (d : D) (G : Gm) (js : List Ki) : Option Bool := match kiD d with
  | some k => some (js.any k.below)
  | none => match insD d G with | some _ => (if js.all (fun j => decide (j ≠ .non)) = true then some false else none) | none => none
def dIsKs (js : List Ki) (te : TED) : TED := fun δ G Q => te δ G fun d G1 => match isKs d G1 js with | some b => Q (.bl b) G1 | none => False
theorem kit_anyC {C : Addr} (g : GoodC K C) : ∀ js : List Ki, (∀ j ∈ js, j ≠ .non) → PySem.W.kitAny K (.ref C) (js.map fun j => .type j.name) = some false
  | [], _ => rfl
  | j :: js, h => by
    have h1 := g.kt j.name ((mem_ty j).resolve_left (h j List.mem_cons_self))
    have h2 := kit_anyC g js fun i hi => h i (List.mem_cons_of_mem _ hi)
    rw [List.map_cons]
    show (match PySem.W.kitOne K (.ref C) (.type j.name) with | some true => _ | some false => _ | none => _) = _
    rw [h1]
    exact h2
def tyVs (js : List Ki) : TA := fun _ H Q => Q (js.map fun j => .ty j.name) H
theorem pa_tys_nil : PA X [] (tyVs []) := pa_nil
theorem pa_tys_cons {c : Expr} {j : Ki} {js : List Ki} (hc : PE X c (tC (.ty j.name))) (hr : PA X es (tyVs js)) (h1 : starEach (c :: es) X.env = (false, eval c X.env) :: starEach es X.env := by rfl) : PA X (c :: es) (tyVs (j :: js)) := pa_cons hc hr h1
theorem de_isKs {es : List Expr} {x1} {tp : Pos} {js : List Ki} (hg : Gl X "isinstance") (hm : X.mg "isinstance" = none) (hv : bootBuiltins "isinstance" = some (.builtin "isinstance")) (ha : DE X B e te) (hc : PA X es (tyVs js)) (hl : js.length ≤ sizeLine)
    (h1 : starEach [e, .Tuple es x1 tp] X.env = (false, eval e X.env) :: starEach [.Tuple es x1 tp] X.env := by rfl) (h2 : starEach [.Tuple es x1 tp] X.env = (false, eval (.Tuple es x1 tp) X.env) :: starEach [] X.env := by rfl) (hpl : (backTo pos (starEach [.Tuple es x1 tp] X.env)).any (·.1) = false := by rfl) :
    DE X B (.Call (.Name "isinstance" p) [e, .Tuple es x1 tp] [] pos) (dIsKs js te) :=
  PE.weak (pe_callB call_isiT hg hm hv (pa_cons ha (pa_cons (pe_tup hc) pa_nil h2) h1) (he := h1) (hpl := hpl)) fun σ H Q ⟨F, G, δ, Qd, S, h, k⟩ => ⟨F, G, δ, _, S, h, fun v H1 ⟨F1, G1, d, s1, S1, r1, h1⟩ => by
    refine ⟨by rw [List.length_map]; exact hl, fun tp ntp => ?_⟩
    have s2 := same_new (o := .tup (js.map fun j => V.ty j.name)) ntp
    have S2 := S1.same s2
    have pair : ∀ js : List Ki, Paired ClsV (js.map fun j => V.ty j.name) (js.map fun j => .type j.name) := fun js => by
      induction js with
      | nil => exact .nil
      | cons j js ih => exact .cons (.ty _) ih
    cases q : kiD d with
    | some kk =>
      simp only [isKs, q] at h1
      exact ⟨v, tp, _, _, _, _, rfl, upd_same, pair js, ki_ty S2.ds.sub r1 q, kit_any kk js, k _ _ ⟨F1, G1, _, s1, S2, .bl _, h1⟩⟩
    | none =>
      cases i : insD d G1 with
      | none => simp only [isKs, q, i] at h1
      | some cf =>
        obtain ⟨C, fs⟩ := cf
        by_cases hn : js.all (fun j => decide (j ≠ .non)) = true
        · simp only [isKs, q, i, if_pos hn] at h1
          obtain ⟨a, dx, fv, rfl, e, gc, _, _⟩ := ins_rep S2 r1 i
          exact ⟨_, tp, _, _, _, _, rfl, upd_same, pair js, .base (.ins e gc.cl gc.ca gc.sg gc.tk gc.mr), kit_anyC gc js (fun j hj => of_decide_eq_true (List.all_eq_true.mp hn j hj)), k _ _ ⟨F1, G1, _, s1, S2, .bl _, h1⟩⟩
        · simp only [isKs, q, i, if_neg hn] at h1⟩
/-- isinstance(x, C), C an own class -/
def dIsC (K : PySem.W.Frag) (C : Addr) (te : TED) : TED := fun δ G Q => te δ G fun d G1 => ∃ t b, TyD K d G1 t ∧ PySem.W.kitOne K t (.ref C) = some b ∧ Q (.bl b) G1
theorem de_isC {c : Expr} {C : Addr} (hg : Gl X "isinstance") (hm : X.mg "isinstance" = none) (hv : bootBuiltins "isinstance" = some (.builtin "isinstance")) (ha : DE X B e te) (hc : PE X c (tC (.ref C)))
    (h1 : starEach [e, c] X.env = (false, eval e X.env) :: starEach [c] X.env := by rfl) (h2 : starEach [c] X.env = (false, eval c X.env) :: starEach [] X.env := by rfl) (hpl : (backTo pos (starEach [c] X.env)).any (·.1) = false := by rfl) :
    DE X B (.Call (.Name "isinstance" p) [e, c] [] pos) (dIsC X.K C te) :=
  PE.weak (pe_callB call_isi hg hm hv (pa_cons ha (pa_cons hc pa_nil h2) h1) (he := h1) (hpl := hpl)) fun σ H Q ⟨F, G, δ, Qd, S, h, k⟩ => ⟨F, G, δ, _, S, h, fun v H1 ⟨F1, G1, d, s1, S1, r1, t, b, ty, kt, h1⟩ =>
    ⟨v, .ref C, t, _, b, rfl, .own C, tyD_ty S1 r1 ty, kt, k _ _ ⟨F1, G1, _, s1, S1, .bl b, h1⟩⟩⟩
def CallA (K : PySem.W.Frag) (rv : List V → Hp → VK → Prop) (r : List D → Gm → QD → Prop) : Prop := ∀ (B : Bs) (σ : L2.St) (δ : SD) (H F : Hp) (G : Gm) (xs : List V) (ds : List D) (Qd : QD) (Q : VK), Sit K B σ H F δ G → RepAll K F xs ds → r ds G Qd → (∀ v H', Beh K B σ F δ Qd v H' → Q v H') → rv xs H Q
def dCB (r : List D → Gm → QD → Prop) (t : TAD) : TED := fun δ G Q => t δ G fun ds G1 => r ds G1 Q
theorem cb_adeq {rv : List V → Hp → VK → Prop} {r : List D → Gm → QD → Prop} (hA : CallA K rv r) {Q : VK} (h : up K B (dCB r t) σ H Q) : tCB rv (upA K B t) σ H Q := by
  obtain ⟨F, G, δ, Qd, S, h, k⟩ := h
  exact ⟨F, G, δ, _, S, h, fun vs H1 ⟨F1, G1, ds, s1, S1, r1, h1⟩ => hA B σ δ H1 F1 G1 vs ds Qd Q S1 r1 h1 fun v H' ⟨F', G', d, s', S', r', q'⟩ => k v H' ⟨F', G', d, s1.trans s', S', r', q'⟩⟩
theorem de_callB {id : String} {x : Str} {rv : List V → Hp → VK → Prop} {r : List D → Gm → QD → Prop} (hc : CallR X (.builtin id) rv) (hA : CallA X.K rv r) (hg : Gl X x) (hm : X.mg x = none) (hv : bootBuiltins x = some (.builtin id)) (ha : DA X B (e :: es) t) (hn : x ≠ "__name__" := by decide) (hdb : (x == ("__debug__" : Str)) = false := by decide)
    (he : starEach (e :: es) X.env = (false, eval e X.env) :: starEach es X.env := by rfl) (hpl : (backTo pos (starEach es X.env)).any (·.1) = false := by rfl) : DE X B (.Call (.Name x p) (e :: es) [] pos) (dCB r t) :=
  PE.weak (pe_callB hc hg hm hv ha (hn := hn) (hdb := hdb) (he := he) (hpl := hpl)) fun σ H Q h => cb_adeq hA h
theorem de_callTy {T : String} {x : Str} {rv : List V → Hp → VK → Prop} {r : List D → Gm → QD → Prop} (hc : CallR X (.type T) rv) (hA : CallA X.K rv r) (hg : Gl X x) (hm : X.mg x = none) (hv : bootBuiltins x = some (.type T)) (ha : DA X B (e :: es) t) (hn : x ≠ "__name__" := by decide) (hdb : (x == ("__debug__" : Str)) = false := by decide)
    (he : starEach (e :: es) X.env = (false, eval e X.env) :: starEach es X.env := by rfl) (hpl : (backTo pos (starEach es X.env)).any (·.1) = false := by rfl) : DE X B (.Call (.Name x p) (e :: es) [] pos) (dCB r t) :=
  PE.weak (pe_callTy hc hg hm hv ha (hn := hn) (hdb := hdb) (he := he) (hpl := hpl)) fun σ H Q h => cb_adeq hA h
theorem repAll1 {vs : List V} {d : D} (r : RepAll K F vs [d]) : ∃ v, vs = [v] ∧ Rep K F v d := by
  cases r with
  | cons h t => cases t; exact ⟨_, rfl, h⟩
theorem repAll2 {vs : List V} {d d' : D} (r : RepAll K F vs [d, d']) : ∃ v u, vs = [v, u] ∧ Rep K F v d ∧ Rep K F u d' := by
  cases r with
  | cons h t =>
    obtain ⟨u, rfl, h2⟩ := repAll1 t
    exact ⟨_, u, rfl, h, h2⟩
abbrev LD := List D → Gm → QD → Prop
/-- len -/
def lenD : LD := fun ds G Q => match ds with
  | [.str z] => z.length ≤ sizeLine ∧ Q (.int z.length) G
  | [d] => (match seqD d G with | some es => Q (.int es.length) G | none => False)
  | _ => False
abbrev rLen2 (K : PySem.W.Frag) : List V → Hp → VK → Prop := fun xs H Q => (∃ p ys, xs = [.ref p] ∧ (SqL K H p ys ∨ SqT K H p ys) ∧ Q (.int ys.length) H) ∨ (∃ z, xs = [.str z] ∧ z.length ≤ sizeLine ∧ Q (.int z.length) H)
theorem call_len2 : CallR X (.builtin "len") (rLen2 X.K) := call_len_seq.or call_len_str
theorem len_A : CallA K (rLen2 K) lenD := fun B σ δ H F G xs ds Qd Q S r h k => by
  have main : ∀ {d : D}, ds = [d] → (match seqD d G with | some es => Qd (.int es.length) G | none => False) → rLen2 K xs H Q := fun {d} ed hh => by
    subst ed
    obtain ⟨v, rfl, rv⟩ := repAll1 r
    cases e : seqD d G with
    | none =>
      rw [e] at hh
      exact hh.elim
    | some es =>
      rw [e] at hh
      obtain ⟨p, xs, rfl, hs, ra⟩ := seq_rep S rv e
      exact .inl ⟨p, xs, rfl, hs, k _ _ (.val S (.int _) (by rw [ra.length]; exact hh))⟩
  unfold lenD at h
  split at h
  · obtain ⟨v, rfl, rv⟩ := repAll1 r
    rw [rep_str rv]
    exact .inr ⟨_, rfl, h.1, k _ _ (.val S (.int _) h.2)⟩
  · exact main rfl h
  · exact h.elim
/-- sum, all, any of a list that was made -/
def sumD : LD := fun ds G Q => ∃ ns : List Int, ds = [.lst (ns.map .int)] ∧ Q (.int ns.sum) G
theorem rep_ints {xs : List V} : ∀ {ns : List Int}, RepAll K F xs (ns.map .int) → xs = ns.map V.int := by
  intro ns
  induction ns generalizing xs with
  | nil => intro r; cases r; rfl
  | cons n ns ih => intro r; cases r with | cons h t => cases h; rw [ih t]; rfl
theorem rep_bls {xs : List V} : ∀ {ns : List Bool}, RepAll K F xs (ns.map .bl) → xs = ns.map V.bl := by
  intro ns
  induction ns generalizing xs with
  | nil => intro r; cases r; rfl
  | cons n ns ih => intro r; cases r with | cons h t => cases h; rw [ih t]; rfl
theorem sum_A : CallA K (rSum K) sumD := fun B σ δ H F G xs ds Qd Q S r ⟨ns, e, h⟩ k => by
  subst e
  obtain ⟨v, rfl, rv⟩ := repAll1 r
  obtain ⟨p, us, rfl, e1, q1⟩ := rep_lst rv
  exact ⟨p, ns, rfl, .of (by rw [← rep_ints q1]; exact S.ds.sub _ _ e1), k _ _ (.val S (.int _) h)⟩
def allD : LD := fun ds G Q => ∃ bs : List Bool, ds = [.lst (bs.map .bl)] ∧ Q (.bl (bs.all id)) G
def anyD : LD := fun ds G Q => ∃ bs : List Bool, ds = [.lst (bs.map .bl)] ∧ Q (.bl (bs.any id)) G
theorem all_A : CallA K (rAll K) allD := fun B σ δ H F G xs ds Qd Q S r ⟨ns, e, h⟩ k => by
  subst e
  obtain ⟨v, rfl, rv⟩ := repAll1 r
  obtain ⟨p, us, rfl, e1, q1⟩ := rep_lst rv
  exact ⟨p, ns, rfl, .of (by rw [← rep_bls q1]; exact S.ds.sub _ _ e1), k _ _ (.val S (.bl _) h)⟩
theorem any_A : CallA K (rAny K) anyD := fun B σ δ H F G xs ds Qd Q S r ⟨ns, e, h⟩ k => by
  subst e
  obtain ⟨v, rfl, rv⟩ := repAll1 r
  obtain ⟨p, us, rfl, e1, q1⟩ := rep_lst rv
  exact ⟨p, ns, rfl, .of (by rw [← rep_bls q1]; exact S.ds.sub _ _ e1), k _ _ (.val S (.bl _) h)⟩
def intD : LD := fun ds G Q => match ds with | [.int i] => Q (.int i) G | [.bl c] => Q (.int (if c then 1 else 0)) G | _ => False
theorem int_A : CallA K (fun xs H Q => (∃ i, xs = [.int i] ∧ Q (.int i) H) ∨ ∃ k, xs = [.bl k] ∧ Q (.int (if k then 1 else 0)) H) intD := fun B σ δ H F G xs ds Qd Q S r h k => by
  unfold intD at h
  split at h
  · obtain ⟨v, rfl, rv⟩ := repAll1 r
    rw [rep_int rv]
    exact .inl ⟨_, rfl, k _ _ (.val S (.int _) h)⟩
  · obtain ⟨v, rfl, rv⟩ := repAll1 r
    rw [rep_bl rv]
    exact .inr ⟨_, rfl, k _ _ (.val S (.int _) h)⟩
  · exact h.elim
/-- repr of data -/
def reprD : LD := fun ds G Q => ∃ d p, ds = [d] ∧ DP d p ∧ p.showable = true ∧ p.hasDict = false ∧ p.depth ≤ 60 ∧ p.shown.length ≤ sizeLine ∧ Q (.str p.shown) G
theorem repr_A : CallA K (rRepr K) reprD := fun B σ δ H F G xs ds Qd Q S r ⟨d, p, e, hp, h1, h2, h3, h4, h⟩ k => by
  subst e
  obtain ⟨v, rfl, rv⟩ := repAll1 r
  exact ⟨v, p, rfl, hp.rep S.ds.sub rv, h1, h2, h3, h4, k _ _ (.val S (.str _) h)⟩
/-- tuple(..), list(..) -/
def tupD : LD := fun ds G Q => match ds with | [.lst es] => Q (.tup es) G | [.tup es] => Q (.tup es) G | _ => False
theorem tup_A : CallA K (fun xs H Q => ∃ p ys, xs = [.ref p] ∧ ((SqL K H p ys ∧ ∀ l, H l = none → Q (.ref l) (upd H l (.tup ys))) ∨ (SqT K H p ys ∧ Q (.ref p) H))) tupD := fun B σ δ H F G xs ds Qd Q S r h k => by
  unfold tupD at h
  split at h
  · obtain ⟨v, rfl, rv⟩ := repAll1 r
    obtain ⟨p, us, rfl, e1, q1⟩ := rep_lst rv
    exact ⟨p, us, rfl, .inl ⟨.of (S.ds.sub _ _ e1), fun l nl => k _ _ (.gotT S (same_new nl) upd_same q1 h)⟩⟩
  · obtain ⟨v, rfl, rv⟩ := repAll1 r
    obtain ⟨p, us, rfl, e1, q1⟩ := rep_tup rv
    exact ⟨p, us, rfl, .inr ⟨.of (S.ds.sub _ _ e1), k _ _ (.val S (.tup e1 q1) h)⟩⟩
  · exact h.elim
abbrev TOD := SD → Gm → (Option Int → Gm → Prop) → Prop
def upO (K : PySem.W.Frag) (B : Bs) (T : TOD) : TO := fun σ H Q => ∃ F G δ Qd, Sit K B σ H F δ G ∧ T δ G Qd ∧ ∀ o H', (∃ F' G', Same F F' ∧ Sit K B σ H' F' δ G' ∧ Qd o G') → Q o H'
def DO (X : Cx) (B : Bs) (e : Option Expr) (T : TOD) : Prop := PO X e (upO X.K B T)
def oNone : TOD := fun _ G Q => Q none G
def oSome (te : TED) : TOD := fun δ G Q => te δ G fun d G1 => match d with | .int i => Q (some i) G1 | _ => False
theorem do_none : DO X B none oNone := ⟨fun pins s σ H Q I ⟨F, G, δ, Qd, S, h, k⟩ => po_none.run pins s σ H Q I (k none H ⟨F, G, .refl F, S, h⟩)⟩
theorem do_some (h : DE X B e te) : DO X B (some e) (oSome te) := ⟨fun pins s σ H Q I ⟨F, G, δ, Qd, S, q, k⟩ => (po_some h).run pins s σ H Q I ⟨F, G, δ, _, S, q, fun v H1 ⟨F1, G1, d, s1, S1, r1, h1⟩ => by
    cases d with
    | int i =>
      cases r1
      exact ⟨i, rfl, k _ _ ⟨F1, G1, s1, S1, h1⟩⟩
    | _ => exact h1.elim⟩⟩
def cutD {α : Type} (xs : List α) (lo hi : Option Int) : List α := (xs.drop (HT.sIx xs.length 0 lo)).take (HT.sIx xs.length xs.length hi - HT.sIx xs.length 0 lo)
/-- a list, changeable or not -/
def lsD (d : D) (G : Gm) : Option (List D) := match d with
  | .lst ds => some ds
  | .adr a => match G a with | some (.lst ds) => some ds | _ => none
  | _ => none
theorem ls_rep {v : V} {d : D} {ds : List D} (S : Sit K B σ H F δ G) (r : Rep K F v d) (h : lsD d G = some ds) : ∃ p xs, v = .ref p ∧ H p = some (.lst xs) ∧ RepAll K F xs ds := by
  cases d with
  | lst es =>
    cases h
    obtain ⟨p, xs, e, h1, h2⟩ := rep_lst r
    exact ⟨p, xs, e, S.ds.sub _ _ h1, h2⟩
  | adr a =>
    cases r
    cases g : G a with
    | none => simp [lsD, g] at h
    | some mo =>
      cases mo with
      | lst es =>
        simp only [lsD, g, Option.some.injEq] at h
        subst h
        obtain ⟨xs, e, q⟩ := (S.ds.mu a _ g).2
        exact ⟨a, xs, rfl, e, q⟩
      | _ => simp [lsD, g] at h
  | _ => simp [lsD] at h
def slD (d : D) (G : Gm) (lo hi : Option Int) (Q : QD) : Prop := match d with
  | .tup ds => Q (.tup (cutD ds lo hi)) G
  | .scr ns => Q (.lst ((cutD ns lo hi).map .int)) G
  | _ => match lsD d G with | some ds => Q (.lst (cutD ds lo hi)) G | none => False
def dSl (te : TED) (tl th : TOD) : TED := fun δ G Q => te δ G fun d G1 => tl δ G1 fun lo G2 => th δ G2 fun hi G3 => slD d G3 lo hi Q
theorem cut_rep {xs : List V} {ds : List D} (r : RepAll K F xs ds) (lo hi : Option Int) : RepAll K F (cutV xs lo hi) (cutD ds lo hi) := by
  unfold cutV cutD
  rw [r.length]
  exact (r.drop _).take _
theorem cut_map {α β : Type} (f : α → β) (xs : List α) (lo hi : Option Int) : cutD (xs.map f) lo hi = (cutD xs lo hi).map f := by
  unfold cutD
  rw [List.length_map, List.map_take, List.map_drop]
theorem de_sl {lo hi : Option Expr} {tl th : TOD} {p2 : Pos} (he : DE X B e te) (hl : DO X B lo tl) (hu : DO X B hi th) : DE X B (.Subscript e (.Slice lo hi none p2) pos) (dSl te tl th) :=
  PE.weak (pe_slice (sl_list.or sl_tup2) he hl hu) fun σ H Q ⟨F, G, δ, Qd, S, h, k⟩ => ⟨F, G, δ, _, S, h, fun v H1 ⟨F1, G1, d, s1, S1, r1, h1⟩ => ⟨F1, G1, δ, _, S1, h1, fun l H2 ⟨F2, G2, s2, S2, h2⟩ => ⟨F2, G2, δ, _, S2, h2, fun u H3 ⟨F3, G3, s3, S3, h3⟩ => by
    have r3 := (r1.mono s2).mono s3
    have kk : ∀ v H', Beh X.K B σ F3 δ Qd v H' → Q v H' := fun v H' ⟨F', G', d, s', S', r', q'⟩ => k v H' ⟨F', G', d, ((s1.trans s2).trans s3).trans s', S', r', q'⟩
    have main : (match lsD d G3 with | some ds => Qd (.lst (cutD ds l u)) G3 | none => False) → (rSlL X.K v l u H3 Q ∨ rSl2 v l u H3 Q) := fun h3 => by
      cases e : lsD d G3 with
      | none =>
        rw [e] at h3
        exact h3.elim
      | some ds =>
        rw [e] at h3
        obtain ⟨p, xs, rfl, hs, ra⟩ := ls_rep S3 r3 e
        exact .inl ⟨p, xs, rfl, .of hs, fun q nq => kk _ _ (.newL S3 nq (cut_rep ra l u) h3)⟩
    cases d with
    | tup ds =>
      obtain ⟨p, us, rfl, e1, q1⟩ := rep_tup r3
      exact .inr ⟨p, us, rfl, S3.ds.sub _ _ e1, fun q H' s e => kk _ _ (.gotT S3 s e (cut_rep q1 l u) h3)⟩
    | scr ns =>
      cases r3 with
      | scr hs => exact .inl ⟨_, _, rfl, same_seqL' S3.ds.sub hs, fun q nq => kk _ _ (.newL S3 nq (by rw [show cutV (ns.map V.int) l u = (cutD ns l u).map V.int from cut_map V.int ns l u]; exact repAll_ints _) h3)⟩
    | _ => exact main h3⟩⟩⟩
end
end JP
namespace JP
open PySem PySem.Spec PyProof.Rows L2
section
variable {X : Cx} {B : Bs} {K : PySem.W.Frag} {a b e o : Expr} {es : List Expr} {ta tb te to : TED} {t : TAD} {pos p apos : Pos}
variable {σ : L2.St} {H F : Hp} {δ : SD} {G : Gm} {W : WD}
section
variable {k : Nat} {f C pa : Addr} {mc : Value} {fd : FuncData} {ps ks : List Str} {sp : SpD} {x m : Str} {kws : List Keyword} {tk : TAD} {gg : List Value → List Value → List Value} {gV : List V → List V → List V} {gD : List D → List D → List D}
/-- into a def from a state, its end to be looked at -/
theorem low_at {Qd : QD} {Q : VK} {vs : List V} {ds : List D} (S : Sit K B σ H F δ G) (r : RepAll K F vs ds) (h : sp ds G Qd W) (kk : ∀ v H', Beh K B σ F δ Qd v H' → Q v H') : lowSp K sp vs H Q (XW K B W) := low_of kk (.refl F) S r h
/-- x == y, x != y, x of the class C -/
def eqOD (K : PySem.W.Frag) (C : Addr) (sp : SpD) (W : WD) (neg : Bool) : R2D := fun a b G Q => match insD a G with
  | some (C', _) => C' = C ∧ (∃ t, TyD K b G t ∧ PySem.W.notFirst K C t = true) ∧ sp [a, b] G (fun z G1 => match z with | .bl c => Q (.bl (if neg then !c else c)) G1 | _ => False) W
  | none => False
theorem eqO_A {B : Bs} {σ : L2.St} {δ : SD} {H F : Hp} {G : Gm} {x y : V} {a b : D} {neg : Bool} {Qd : QD} {Q : VK} (S : Sit K B σ H F δ G) (r1 : Rep K F x a) (r2 : Rep K F y b) (h : eqOD K C sp W neg a b G Qd) (kk : ∀ v H', Beh K B σ F δ Qd v H' → Q v H') : rEqO C (lowSp K sp) (XW K B W) K neg x y H Q := by
  unfold eqOD at h
  cases q : insD a G with
  | none => simp only [q] at h
  | some cf =>
    obtain ⟨C', fs⟩ := cf
    simp only [q] at h
    obtain ⟨rfl, ⟨t, ty, nf⟩, h⟩ := h
    obtain ⟨ad, dx, fv, rfl, e1, gc, na, rf⟩ := ins_rep S r1 q
    refine ⟨ad, dx, fv, rfl, e1, ⟨t, tyD_ty S r2 ty, nf⟩, low_at S (.cons r1 (.cons r2 .nil)) h fun v H' ⟨F', G', d', s', S', r', q'⟩ => ?_⟩
    cases d' with
    | bl c =>
      cases r'
      exact ⟨c, rfl, kk _ _ ⟨F', G', _, s', S', .bl _, q'⟩⟩
    | _ => exact q'.elim
theorem dt_neO (M : OwnM X.K C "__eq__" f) (hne : PySem.W.findIn X.K (.ref C) "__ne__" = some (some (.builtin "object.__ne__"))) (hmr : PySem.W.mroIn X.K C (.type "object") = some true) (Fn : FnD X.prog X.w X.K X.mg X.base k f fd ps sp) (hb : Binds X.K fd ps []) (hr : Room (k + 1) X.A) (hx : Passes (L2.CX X.prog X.w) X (XW X.K B W)) (ha : DE X B a ta) (hb2 : DE X B b tb) :
    DT X B (.Compare a [.NotEq] [b] pos) (dTest (dOp (eqOD X.K C sp W true) ta tb)) :=
  PT.weak (pt_cmpR (op_neO M hne hmr Fn hb hr hx) ha hb2 (nomark _)) fun σ H Q q => by
    obtain ⟨F, G, δ, Qd, S, h, k⟩ := q
    refine up2 S h fun x y H2 F2 G2 d e s2 S2 r1 r2 h2 => eqO_A S2 r1 r2 h2 fun v H' ⟨F', G', d', s', S', r', q'⟩ => ?_
    cases d' with
    | bl b =>
      cases r'
      exact ⟨b, rfl, k b H' ⟨F', G', s2.trans s', S', q'⟩⟩
    | _ => exact q'.elim
/-- x(..), x an instance of C -/
def isO : D → Bool
  | .ins _ _ => true
  | .adr _ => true
  | _ => false
theorem isO_ref {v : V} {d : D} (r : Rep K F v d) (h : isO d = true) : ∃ a, v = .ref a := by
  cases r <;> first | exact ⟨_, rfl⟩ | cases h
def dCallO (C : Addr) (sp : SpD) (W : WD) (tf : TED) (t : TAD) : TED := fun δ G Q => tf δ G fun d G1 => isO d = true ∧ t δ G1 fun ds G2 => match insD d G2 with | some (C', _) => C' = C ∧ sp (d :: ds) G2 Q W | none => False
theorem de_callO {tf : TED} {fe : Expr} (hf : DE X B fe tf) (c : StX.CallO X.K C f) (Fn : FnD X.prog X.w X.K X.mg X.base k f fd ps sp) (hr : Room k X.A) (hb : Binds X.K fd ps []) (hx : Passes (L2.CX X.prog X.w) X (XW X.K B W)) (ha : DA X B (e :: es) t)
    (ht : eval (.Call fe (e :: es) [] pos) X.env = (do callWith pos (← eval fe X.env) [] (backTo pos (starEach (e :: es) X.env)) (backToKw pos (keywordEach [] X.env))) := by rfl)
    (he : starEach (e :: es) X.env = (false, eval e X.env) :: starEach es X.env := by rfl) (hpl : (backTo pos (starEach es X.env)).any (·.1) = false := by rfl) : DE X B (.Call fe (e :: es) [] pos) (dCallO C sp W tf t) :=
  PE.weak (StX.pe_callO hf c (FnOk.raw Fn hb .nil) hr hx ha ht he hpl) fun σ H Q ⟨F, G, δ, Qd, S, h, kk⟩ => ⟨F, G, δ, _, S, h, fun v H1 ⟨F1, G1, d, s1, S1, r1, ho, h1⟩ => by
    obtain ⟨a, rfl⟩ := isO_ref r1 ho
    refine ⟨a, rfl, F1, G1, δ, _, S1, h1, fun vs H2 ⟨F2, G2, ds, s2, S2, r2, h2⟩ => ?_⟩
    cases q : insD d G2 with
    | none => simp only [q] at h2
    | some cf =>
      obtain ⟨C', fs⟩ := cf
      simp only [q] at h2
      obtain ⟨rfl, h3⟩ := h2
      have r3 := r1.mono s2
      obtain ⟨a', dx, fv, ea, e1, gc, na, rf⟩ := ins_rep S2 r3 q
      cases ea
      refine ⟨.inr ⟨dx, fv, e1⟩, ?_⟩
      show lowSp X.K sp ((V.ref a :: vs) ++ []) H2 Q _
      rw [List.append_nil]
      exact low_of kk (s1.trans s2) S2 (.cons r3 r2) h3⟩
end
end
section
variable {X : Cx} {B : Bs} {K : PySem.W.Frag} {e e2 : Expr} {t : TAD} {pos p tpos : Pos}
variable {σ : L2.St} {H F : Hp} {δ : SD} {G : Gm}
def seqS (d : D) : Option (List D) := match d with
  | .lst ds => some ds
  | .tup ds => some ds
  | _ => none
def zipD (xs ys : List D) : List D := (xs.zip ys).map fun p => .tup [p.1, p.2]
theorem seqS_rep {v : V} {d : D} {ds : List D} (r : Rep K F v d) (h : seqS d = some ds) : ∃ k a xs, v = .ref a ∧ SqK K k F a xs ∧ RepAll K F xs ds := by
  cases d with
  | lst es =>
    cases h
    obtain ⟨p, xs, e, h1, h2⟩ := rep_lst r
    exact ⟨false, p, xs, e, .of h1, h2⟩
  | tup es =>
    cases h
    obtain ⟨p, xs, e, h1, h2⟩ := rep_tup r
    exact ⟨true, p, xs, e, .of h1, h2⟩
  | _ => simp [seqS] at h
theorem itD_zip {k1 k2 : Bool} {a b : Addr} {xs ys : List V} {ds es : List D} (h1 : SqK K k1 F a xs) (h2 : SqK K k2 F b ys) (r1 : RepAll K F xs ds) (r2 : RepAll K F ys es) : ItD K F (ItzK K k1 k2 a b) (zipD ds es) := by
  have l1 := r1.length
  have l2 := r2.length
  have lz : (zipD ds es).length = min ds.length es.length := by simp [zipD]
  refine ⟨fun i H hi s => ?_, fun H s => ⟨xs, ys, sqK_same s h1, sqK_same s h2, by rw [lz]; omega⟩, fun i H x H' hi s y B σ δ G F1 S s1 => ?_⟩
  · rw [lz] at hi
    have i1 : i < xs.length := by omega
    have i2 : i < ys.length := by omega
    exact ⟨xs, ys, xs[i], ys[i], sqK_same s h1, sqK_same s h2, by simp [i1], by simp [i2]⟩
  · obtain ⟨T, u, w, rfl, nT, rfl, y1, y2⟩ := y
    obtain ⟨d1, e1, q1⟩ := r1.get' (y1 xs (sqK_same s h1))
    obtain ⟨d2, e2, q2⟩ := r2.get' (y2 ys (sqK_same s h2))
    obtain ⟨d3, s3⟩ := S.ds.new (o := .tup [u, w]) nT
    refine ⟨_, .tup [d1, d2], s3, ⟨d3, S.gr.trans s3, S.sl.mono s3⟩, ?_, .tup upd_same (.cons ((q1.mono s1).mono s3) (.cons ((q2.mono s1).mono s3) .nil))⟩
    have hz : (ds.zip es)[i]? = some (d1, d2) := by
      rw [List.getElem?_zip_eq_some]
      exact ⟨e1, e2⟩
    simp [zipD, hz]
def iZipD (ta : TAD) : TID := fun δ G R => ta δ G fun ds G1 => match ds with
  | [d, d2] => (match seqS d, seqS d2 with | some xs, some ys => R (zipD xs ys) G1 | _, _ => False)
  | _ => False
theorem di_zip {elts : List Expr} {kk : Nat} (hg : Gl X "zip") (hm : X.mg "zip" = none) (ha : DA X B [e, e2] t)
    (hs : starEach [e, e2] X.env = (false, eval e X.env) :: starEach [e2] X.env := by rfl) (hpl : (backTo pos (starEach [e2] X.env)).any (·.1) = false := by rfl) : DI X B (.Tuple elts kk tpos) (.Call (.Name "zip" p) [e, e2] [] pos) (iZipD t) :=
  PI.weak (pi_zipK hg hm ha hs hpl) fun σ H R ⟨F, G, δ, Qd, S, h, k⟩ => ⟨F, G, δ, _, S, h, fun vs H1 ⟨F1, G1, ds, s1, S1, r1, h1⟩ => by
    split at h1
    case h_2 => exact h1.elim
    case h_1 d d2 =>
      obtain ⟨v, u, rfl, q1, q2⟩ := repAll2 r1
      split at h1
      case h_2 => exact h1.elim
      case h_1 xs ys ex ey =>
        obtain ⟨k1, a, us, rfl, g1, ra1⟩ := seqS_rep q1 ex
        obtain ⟨k2, b, ws, rfl, g2, ra2⟩ := seqS_rep q2 ey
        exact ⟨k1, k2, a, b, us, ws, rfl, sqK_same S1.ds.sub g1, sqK_same S1.ds.sub g2, k _ _ ⟨F1, G1, _, s1, S1, itD_zip g1 g2 ra1 ra2, h1⟩⟩⟩
end
end JP
namespace JP
open PySem PySem.Spec PyProof.Rows L2
section
variable {X : Cx} {B : Bs} {K : PySem.W.Frag} {e : Expr} {te : TED} {pos p : Pos}
theorem dv (i : Nat) {x : Str} {pos : Pos} (hN : X.N[i]? = some x := by rfl) (hv : Vis X.env.scope x := by first | exact Or.inl rfl | exact Or.inr (Or.inl rfl) | exact Or.inr (Or.inr rfl)) (hd : (x == ("__debug__" : Str)) = false := by decide)
    (hcd : (x == ("__classdict__" : Str)) = false := by decide) : DE X B (.Name x pos) (dVar i) := de_var hN hv hd hcd
theorem de_isCK {c : Expr} {C : Addr} (hK : X.K = K) (hg : Gl X "isinstance") (hm : X.mg "isinstance" = none) (hv : bootBuiltins "isinstance" = some (.builtin "isinstance")) (ha : DE X B e te) (hc : PE X c (tC (.ref C)))
    (h1 : starEach [e, c] X.env = (false, eval e X.env) :: starEach [c] X.env := by rfl) (h2 : starEach [c] X.env = (false, eval c X.env) :: starEach [] X.env := by rfl) (hpl : (backTo pos (starEach [c] X.env)).any (·.1) = false := by rfl) :
    DE X B (.Call (.Name "isinstance" p) [e, c] [] pos) (dIsC K C te) := hK ▸ de_isC hg hm hv ha hc h1 h2 hpl
end
section
variable {P : Program} {w : World} {K : PySem.W.Frag} {mg : Str → Option Value} {base : Heap} {k : Nat} {f : Addr} {fd : FuncData} {ps : List Str}
theorem fn_any {CX : CXT} {sp : Sp} (F : FnOk P w K mg base CX0 k f fd ps sp) : FnOk P w K mg base CX k f fd ps sp :=
  ⟨F.len, fun A outer s H args us vs Q E hr e0 hb r h => codeAny_mono (F.run A outer s H args us vs Q E hr e0 hb r h) fun r s' q => by
    cases r with
    | error e => exact (show False from q).elim
    | ok fl => cases fl <;> exact q⟩
theorem DS.but {Tb : List (Addr × Str)} {F H H' Z : Hp} {G : Gm} {p : Addr} {m m' : MO} (d : DS K Tb F H G Z) (g : G p = some m) (b : But p H H') (r : MRep K F H' p m') : DS K Tb F H' (updG G p m') Z := by
  have hf := (d.mu p m g).1
  obtain ⟨u, hu, mu⟩ := (d.mu p m g).2.at_
  have hz : Z p = none := by
    cases e : Z p with
    | none => rfl
    | some u =>
      have := (d.zf p u e).2.1
      rw [g] at this
      cases this
  refine ⟨fun a o e => b a o (fun c => by rw [c, hf] at e; cases e) (d.sub a o e), fun a n e => ?_, fun a o e => b a o (fun c => by rw [c, hz] at e; cases e) (d.zub a o e), fun a o e => ?_, d.ft, fun q hq => ?_⟩
  · by_cases c : a = p
    · subst c
      rw [updG_same] at e
      cases e
      exact ⟨hf, r⟩
    · rw [updG_ne c] at e
      exact ⟨(d.mu a n e).1, (d.mu a n e).2.mono (.refl F) fun o q => b a o c q⟩
  · have c : a ≠ p := fun c => by rw [c, hz] at e; cases e
    exact ⟨(d.zf a o e).1, (updG_ne c).trans (d.zf a o e).2.1, (d.zf a o e).2.2⟩
  · obtain ⟨ps, h1, h3, h4⟩ := d.tab q hq
    refine ⟨ps, b _ _ (fun c => ?_) h1, h3, fun pos cv hc => ?_⟩
    · rw [c, hu] at h1
      cases h1
      exact mu
    · obtain ⟨c, e1, e2⟩ := h4 pos cv hc
      refine ⟨c, e1, b _ _ (fun c' => ?_) e2⟩
      rw [c', hu] at e2
      have e3 : u = LamX.CodeO _ q.2 := Option.some.inj e2
      rw [e3] at mu
      exact codeO_notM mu
def spDraw : Sp := fun vs H Q _ => ∃ (p c : Addr) (many : Int) (m : Nat), vs = [.ref p, .int many] ∧ Pen H p c m ∧ 1 ≤ many ∧ many < 2 ^ 60 ∧ m ≤ 2 ^ 20 ∧
  ∀ (r : Int) (H' : Hp), 0 ≤ r → r < many → Pen H' p c (m + 1) → But p H H' → Q (.int r) H'
def spPen (K : PySem.W.Frag) : Sp := fun vs H Q _ => ∃ (a : Addr) (ns : List Int), vs = [.ref a] ∧ SqL K H a (ns.map V.int) ∧ ns.length ≤ 63 ∧
  ∀ (p c : Addr) (H' : Hp), Same H H' → H p = none → H c = none → Pen H' p c 0 → Q (.ref p) H'
/-- a draw: any number below, one step of the pen -/
def drawD : SpD := fun ds G Q _ => ∃ (p : Addr) (n : Int) (m : Nat), ds = [.adr p, .int n] ∧ G p = some (.pen m) ∧ 1 ≤ n ∧ n < 2 ^ 60 ∧ m ≤ 2 ^ 20 ∧ ∀ r, 0 ≤ r → r < n → Q (.int r) (updG G p (.pen (m + 1)))
theorem draw_of (Fn : FnOk P w K mg base CX0 k f fd ps spDraw) : FnD P w K mg base k f fd ps drawD :=
  (fn_any Fn).imp fun vs H Q E ⟨B, G, ds, Qd, W, d, r, ⟨p, n, m, ed, g, n1, n2, hm, q⟩, kq, ke⟩ => by
    subst ed
    obtain ⟨v, u, rfl, r1, r2⟩ := repAll2 r
    cases r1
    cases r2
    obtain ⟨fp, c, ns, j, gg, h1, h2, h3, h4, h5, h6⟩ := d.mu p _ g
    have ncp : c ≠ p := fun e => by rw [e, fp] at h2; cases h2
    have hP : Pen H p c m := ⟨ns, j, gg, h1, d.sub _ _ h2, ncp, h3, h4, h5, h6⟩
    refine ⟨p, c, n, m, rfl, hP, n1, n2, hm, fun r H' r0 r1 hP' hB => kq _ _ ⟨B.F, _, .int r, .refl _, d.but g hB (m' := .pen (m + 1)) ?_, .refl _, .int r, q r r0 r1⟩⟩
    obtain ⟨ns', j', g', q1, q2, q3, q4, q5, q6, q7⟩ := hP'
    have e2 := hB c _ ncp (d.sub _ _ h2)
    rw [q2] at e2
    have e3 : ns'.map V.int = ns.map V.int := by injection Option.some.inj e2
    exact ⟨c, ns', j', g', q1, by rw [e3]; exact h2, q4, q5, q6, q7⟩
/-- the pen -/
def penD : SpD := fun ds G Q _ => ∃ ns, ds = [.scr ns] ∧ ns.length ≤ 63 ∧ ∀ p, G p = none → Q (.adr p) (updG G p (.pen 0))
theorem pen_of (Fn : FnOk P w K mg base CX0 k f fd ps (spPen K)) : FnD P w K mg base k f fd ps penD :=
  (fn_any Fn).imp fun vs H Q E ⟨B, G, ds, Qd, W, d, r, ⟨ns, ed, hl, q⟩, kq, ke⟩ => by
    subst ed
    obtain ⟨v, rfl, r1⟩ := repAll1 r
    cases r1 with
    | scr hs =>
      refine ⟨_, ns, rfl, same_seqL' d.sub hs, hl, fun p c H' s np nc hP => ?_⟩
      obtain ⟨ns', j', g', q1, q2, q3, q4, q5, q6, q7⟩ := hP
      have d1 := d.same s
      obtain ⟨d2, s2⟩ := d1.frz q2 (d.noG nc) (d.noZ nc)
      refine kq _ _ ⟨upd B.F c (.lst (ns'.map V.int)), updG G p (.pen 0), .adr p, s2, ⟨d2.sub, fun a n e => ?_, d2.zub, fun a o e => ?_, d2.ft, d2.tab⟩, s2, .adr p, q p (d.noG np)⟩
      · by_cases c' : a = p
        · subst c'
          rw [updG_same] at e
          cases e
          exact ⟨(upd_ne q3.symm).trans (d.noF np), c, ns', j', g', q1, upd_same, q4, q5, q6, q7⟩
        · rw [updG_ne c'] at e
          exact d2.mu a n e
      · have c' : a ≠ p := fun c => by rw [c, d.noZ np] at e; cases e
        exact ⟨(d2.zf a o e).1, (updG_ne c').trans (d2.zf a o e).2.1, (d2.zf a o e).2.2⟩
/-- the law: from the script to True -/
def lawD : SpD := fun ds G Q _ => ∃ ns, ds = [.scr ns] ∧ ns.length ≤ 63 ∧ (∀ a, G a = none) ∧ ∀ G', Q (.bl true) G'
theorem only_notT {H : Hp} (o : Only H) : ∀ b u, H b = some u → notT u := fun b u e => by
  rcases o b with n | ⟨ob, xs, n⟩
  · rw [n] at e
    cases e
  · rw [n] at e
    cases e
    trivial
theorem law_sat {a : Addr} {ns : List Int} {H : Hp} (hl : ns.length ≤ 63) (o : Only H) (s : SqL K H a (ns.map V.int)) : lowSp K lawD [.ref a] H (fun v _ => v = .bl true) fun _ _ _ => False := by
  refine ⟨⟨H, fun _ => none, []⟩, fun _ => none, [.scr ns], fun d _ => d = .bl true, WN, ⟨.refl H, ?_, ?_, ?_, only_notT o, ?_⟩, .cons (.scr s) .nil, ⟨ns, rfl, hl, fun _ => rfl, fun _ => rfl⟩, ?_, ?_⟩
  · intro _ _ e
    cases e
  · intro _ _ e
    cases e
  · intro _ _ e
    cases e
  · intro _ hp
    cases hp
  · rintro v H' ⟨_, _, _, _, _, _, r, e⟩
    subst e
    exact rep_bl r
  · rintro _ _ _ ⟨_, _, _, _, _, _, _, _, w⟩
    exact w
end
end JP
namespace JP
open PySem PySem.Spec PyProof.Rows L2
/-- a thing whose type is told -/
def Told (d : D) (G : Gm) : Prop := (kiD d).isSome = true ∨ (insD d G).isSome = true
def isB (d : D) (j : Ki) : Bool := match kiD d with
  | some k => k.below j
  | none => false
theorem told_is {d : D} {G : Gm} (h : Told d G) {j : Ki} (hj : j ≠ .non) : isK d G j = some (isB d j) := by
  unfold isK isB
  cases q : kiD d with
  | some k => rfl
  | none =>
    rcases h with h | h
    · rw [q] at h; cases h
    · cases i : insD d G with
      | none => rw [i] at h; cases h
      | some _ => simp [hj]
theorem told_ki {d : D} {G : Gm} {k : Ki} (h : kiD d = some k) : Told d G := .inl (by rw [h]; rfl)
/-- a comprehension over pure things -/
theorem lc_map {i : Nat} {te : TED} {Fin : List D → Gm → Prop} {δ : SD} {G : Gm} (f : D → D) : ∀ (ds acc : List D), (∀ d ∈ ds, ∀ Q : QD, Q (f d) G → te (δ.set i (some d)) G Q) → Fin (acc ++ ds.map f) G → lcD (gNameD i) dYes te Fin δ ds acc G
  | [], acc, _, q => by rw [List.map_nil, List.append_nil] at q; exact q
  | d :: ds, acc, h, q => h d List.mem_cons_self _ (lc_map f ds (acc ++ [f d]) (fun e he => h e (List.mem_cons_of_mem _ he)) (by rw [List.append_assoc]; exact q))
theorem lc_mapG {g : TGD} {te : TED} {Fin : List D → Gm → Prop} {δ : SD} {G : Gm} (f : D → D) : ∀ (ds acc : List D), (∀ d ∈ ds, ∀ Q : QD, Q (f d) G → g d δ G fun δ1 G1 => te δ1 G1 Q) → Fin (acc ++ ds.map f) G → lcD g dYes te Fin δ ds acc G
  | [], acc, _, q => by rw [List.map_nil, List.append_nil] at q; exact q
  | d :: ds, acc, h, q => h d List.mem_cons_self _ (lc_mapG f ds (acc ++ [f d]) (fun e he => h e (List.mem_cons_of_mem _ he)) (by rw [List.append_assoc]; exact q))
/-- the same, plainer: each turn is told of any end -/
theorem lc_inv' {i : Nat} {te : TED} {Fin : List D → Gm → Prop} {δ : SD} (I : Nat → List D → Gm → Prop) {n : Nat} : ∀ (ds acc : List D) (j : Nat) (G : Gm), j + ds.length = n →
    (∀ j acc G d (Q : QD), d ∈ ds → j < n → I j acc G → (∀ y G', I (j + 1) (acc ++ [y]) G' → Q y G') → te (δ.set i (some d)) G Q) → I j acc G → (∀ acc G, I n acc G → Fin acc G) → lcD (gNameD i) dYes te Fin δ ds acc G
  | [], acc, j, G, hj, _, h, hF => by
    have e : j = n := by simpa using hj
    subst e
    exact hF acc G h
  | d :: ds, acc, j, G, hj, hs, h, hF =>
    hs j acc G d _ List.mem_cons_self (by rw [List.length_cons] at hj; omega) h fun y G' q => lc_inv' I ds (acc ++ [y]) (j + 1) G' (by rw [List.length_cons] at hj; omega) (fun j acc G e Q he => hs j acc G e Q (List.mem_cons_of_mem _ he)) q hF
/-- for, by a word; each turn is told of any end -/
theorem for_inv {g : TGD} {tb : TSD} {E : EndsD} (I : Nat → SD → Gm → Prop) {n : Nat} : ∀ (ds : List D) (j : Nat) (δ : SD) (G : Gm), j + ds.length = n →
    (∀ j δ G d (N : SD → Gm → Prop), d ∈ ds → j < n → I j δ G → (∀ δ' G', I (j + 1) δ' G' → N δ' G') → g d δ G fun δ1 G1 => tb { nx := N, rt := E.rt, bk := E.nx, ct := N } δ1 G1) → I j δ G → (∀ δ G, I n δ G → E.nx δ G) → forD g tb E ds δ G
  | [], j, δ, G, hj, _, h, hF => by
    have e : j = n := by simpa using hj
    subst e
    exact hF δ G h
  | d :: ds, j, δ, G, hj, hs, h, hF =>
    hs j δ G d _ List.mem_cons_self (by rw [List.length_cons] at hj; omega) h fun δ' G' q => for_inv I ds (j + 1) δ' G' (by rw [List.length_cons] at hj; omega) (fun j δ G e N he => hs j δ G e N (List.mem_cons_of_mem _ he)) q hF
theorem small1000 {n : Nat} (h : n ≤ 1000) : n ≤ sizeLine := by
  rw [sizeLine_eq]
  omega
/-- the class facts that GoodC wants -/
theorem gc_kt {K : PySem.W.Frag} {C : Addr} (h1 : PySem.W.kitOne K (.ref C) (.type "int") = some false) (h2 : PySem.W.kitOne K (.ref C) (.type "str") = some false) (h3 : PySem.W.kitOne K (.ref C) (.type "bool") = some false) (h4 : PySem.W.kitOne K (.ref C) (.type "list") = some false)
    (h5 : PySem.W.kitOne K (.ref C) (.type "tuple") = some false) (h6 : PySem.W.kitOne K (.ref C) (.type "dict") = some false) (h7 : PySem.W.kitOne K (.ref C) (.type "set") = some false) (h8 : PySem.W.kitOne K (.ref C) (.type "bytes") = some false) (h9 : PySem.W.kitOne K (.ref C) (.type "float") = some false) :
    ∀ n ∈ tyNames, PySem.W.kitOne K (.ref C) (.type n) = some false := by
  intro n hn
  simp only [tyNames, List.mem_cons, List.not_mem_nil, or_false] at hn
  rcases hn with rfl | rfl | rfl | rfl | rfl | rfl | rfl | rfl | rfl <;> assumption
end JP
namespace JP
open PySem PySem.Spec PyProof.Rows L2
section
variable {X : Cx} {B : Bs}
theorem db_never {ss : List Stmt} : DB X B ss (fun _ _ _ => False) := PSs.weak pss_never fun D σ H ⟨F, G, δ, E, S, h, L⟩ => h
end
end JP
namespace JP
open PySem PySem.Spec PyProof.Rows L2
section
variable {X : Cx} {B : Bs} {K : PySem.W.Frag} {a b : Expr} {ta tb : TED} {pos : Pos} {W : WD} {k : Nat} {f C : Addr} {fd : FuncData} {ps : List Str} {sp : SpD}
theorem dt_neOK (hK : X.K = K) (M : OwnM X.K C "__eq__" f) (hne : PySem.W.findIn X.K (.ref C) "__ne__" = some (some (.builtin "object.__ne__"))) (hmr : PySem.W.mroIn X.K C (.type "object") = some true) (Fn : FnD X.prog X.w X.K X.mg X.base k f fd ps sp) (hb : Binds X.K fd ps []) (hr : Room (k + 1) X.A) (hx : Passes (L2.CX X.prog X.w) X (XW X.K B W)) (ha : DE X B a ta) (hb2 : DE X B b tb) :
    DT X B (.Compare a [.NotEq] [b] pos) (dTest (dOp (eqOD K C sp W true) ta tb)) := hK ▸ dt_neO M hne hmr Fn hb hr hx ha hb2
end
end JP
namespace JP
open PySem PySem.Spec PyProof.Rows L2
def flatD : D → Bool
  | .non => true
  | .bl _ => true
  | .int _ => true
  | .str _ => true
  | _ => false
end JP
namespace JP
open PySem PySem.Spec PyProof.Rows L2
section
variable {X : Cx} {B : Bs} {K : PySem.W.Frag} {e : Expr} {es : List Expr} {te : TED} {t : TAD} {pos p sp_ : Pos} {W : WD}
variable {σ : L2.St} {H F : Hp} {δ : SD} {G : Gm}
def dStar (te : TED) (t : TAD) : TAD := fun δ G Q => te δ G fun d G1 => match seqD d G1 with | some ds => t δ G1 fun es G2 => Q (ds ++ es) G2 | none => False
theorem da_star (he : DE X B e te) (hr : DA X B es t) (hs : starEach (.Starred e p :: es) X.env = (true, eval e X.env) :: starEach es X.env := by rfl) : DA X B (.Starred e p :: es) (dStar te t) :=
  PA.weak (StX.pa_star he hr hs) fun σ H Q ⟨F, G, δ, Qd, S, h, k⟩ => ⟨F, G, δ, _, S, h, fun v H1 ⟨F1, G1, d, s1, S1, r1, h1⟩ => by
    cases q : seqD d G1 with
    | none => simp only [q] at h1
    | some ds =>
      simp only [q] at h1
      obtain ⟨a, xs, rfl, hs, ra⟩ := seq_rep S1 r1 q
      exact ⟨a, xs, rfl, hs.symm, F1, G1, δ, _, S1, h1, fun ys H2 ⟨F2, G2, es, s2, S2, r2, h2⟩ => k _ _ ⟨F2, G2, _, s1.trans s2, S2, (ra.mono s2).append r2, h2⟩⟩⟩
variable {k : Nat} {f C : Addr} {sp : SpD} {x : Str}
end
section
variable {X : Cx} {B : Bs} {K : PySem.W.Frag} {k : Nat} {C g : Addr} {fd : FuncData} {ps : List Str} {sp : SpD} {W : WD} {op : Operator} {a b e : Expr} {ta tb te : TED} {pos : Pos}
variable {σ : L2.St} {H F : Hp} {δ : SD} {G : Gm}
def isFD (neg : Bool) : R2D := fun a b G Q => match a, b with
  | .non, .non => Q (.bl (if neg then false else true)) G
  | .bl a, .bl b => Q (.bl (if neg then !decide (a = b) else decide (a = b))) G
  | .non, .bl _ => Q (.bl (if neg then true else false)) G
  | .bl _, .non => Q (.bl (if neg then true else false)) G
  | _, _ => False
theorem isF_A {neg : Bool} : OpA K (rIsF neg) (isFD neg) := fun B σ δ H F G x y a b Qd Q S r1 r2 h k => by
  unfold isFD at h
  split at h
  · rw [rep_non r1, rep_non r2]
    exact ⟨true, rfl, k _ _ (.val S (.bl _) h)⟩
  · rw [rep_bl r1, rep_bl r2]
    exact ⟨_, rfl, k _ _ (.val S (.bl _) h)⟩
  · rw [rep_non r1, rep_bl r2]
    exact ⟨false, rfl, k _ _ (.val S (.bl _) (by cases neg <;> exact h))⟩
  · rw [rep_bl r1, rep_non r2]
    exact ⟨false, rfl, k _ _ (.val S (.bl _) (by cases neg <;> exact h))⟩
  · exact h.elim
end
end JP
namespace JP
open PySem PySem.Spec PyProof.Rows L2
abbrev EntL := List (List Key × D)
def hasL (es : EntL) (ks : List Key) : Bool := es.any fun p => decide (p.1 = ks)
def putL (es : EntL) (ks : List Key) (d : D) : EntL := if hasL es ks = true then es.map (fun p => if p.1 = ks then (p.1, d) else p) else es ++ [(ks, d)]
inductive RepL (K : PySem.W.Frag) (F : Hp) : List (List Key × V) → EntL → Prop
  | nil : RepL K F [] []
  | cons {k : List Key} {v : V} {vs : List (List Key × V)} {d : D} {ds : EntL} : Rep K F v d → RepL K F vs ds → RepL K F ((k, v) :: vs) ((k, d) :: ds)
section
variable {K : PySem.W.Frag} {F F' : Hp}
theorem RepL.mono (s : Same F F') : ∀ {vs : List (List Key × V)} {ds : EntL}, RepL K F vs ds → RepL K F' vs ds
  | _, _, .nil => .nil
  | _, _, .cons h r => .cons (h.mono s) (RepL.mono s r)
theorem RepL.len : ∀ {vs : List (List Key × V)} {ds : EntL}, RepL K F vs ds → vs.length = ds.length
  | _, _, .nil => rfl
  | _, _, .cons _ r => congrArg (· + 1) (RepL.len r)
theorem RepL.any {ks : List Key} : ∀ {vs : List (List Key × V)} {ds : EntL}, RepL K F vs ds → (vs.any fun kv => decide (kv.1 = ks)) = hasL ds ks
  | _, _, .nil => rfl
  | _, _, .cons _ r => by
    unfold hasL
    rw [List.any_cons, List.any_cons, RepL.any r]
    rfl
theorem RepL.map {ks : List Key} {z : V} {d : D} (rz : Rep K F z d) : ∀ {vs : List (List Key × V)} {ds : EntL}, RepL K F vs ds → RepL K F (vs.map fun kv => if kv.1 = ks then (kv.1, z) else kv) (ds.map fun p => if p.1 = ks then (p.1, d) else p)
  | _, _, .nil => .nil
  | _, _, .cons (k := k) h r => by
    rw [List.map_cons, List.map_cons]
    by_cases c : k = ks
    · subst c
      simp only [if_true]
      exact .cons rz (RepL.map rz r)
    · simp only [c, if_false]
      exact .cons h (RepL.map rz r)
theorem RepL.append : ∀ {vs us : List (List Key × V)} {ds es : EntL}, RepL K F vs ds → RepL K F us es → RepL K F (vs ++ us) (ds ++ es)
  | _, _, _, _, .nil, q => q
  | _, _, _, _, .cons h r, q => .cons h (RepL.append r q)
theorem RepL.put {ks : List Key} {z : V} {d : D} {vs : List (List Key × V)} {ds : EntL} (r : RepL K F vs ds) (rz : Rep K F z d) : RepL K F (putK vs ks z) (putL ds ks d) := by
  unfold putK putL
  rw [← r.any (ks := ks)]
  split
  · exact r.map rz
  · exact r.append (.cons rz .nil)
end
end JP
namespace JP
open PySem PySem.Spec PyProof.Rows L2
section
variable {X : Cx} {B : Bs} {K : PySem.W.Frag} {o e : Expr} {es : List Expr} {te to : TED} {t : TAD} {pos apos : Pos}
variable {σ : L2.St} {H F : Hp} {δ : SD} {G : Gm}
variable {x : Str} {p : Pos}
theorem de_callBfun {id : String} {rv : List V → Hp → VK → Prop} {r : List D → Gm → QD → Prop} (hc : CallR X (.builtin id) rv) (hA : CallA X.K rv r) (hg : Gl X x) (hm : X.mg x = some (.builtin id)) (ha : DA X B (e :: es) t) (hdb : (x == ("__debug__" : Str)) = false := by decide)
    (he : starEach (e :: es) X.env = (false, eval e X.env) :: starEach es X.env := by rfl) (hpl : (backTo pos (starEach es X.env)).any (·.1) = false := by rfl) : DE X B (.Call (.Name x p) (e :: es) [] pos) (dCB r t) :=
  PE.weak (pe_callBfun hc hg hm ha hdb he hpl) fun σ H Q h => cb_adeq hA h
def gcdD : LD := fun ds G Q => match ds with | [.int a, .int b] => Q (.int ((Nat.gcd a.natAbs b.natAbs : Nat) : Int)) G | _ => False
theorem gcd_A : CallA K rGcd gcdD := fun B σ δ H F G xs ds Qd Q S r h k => by
  unfold gcdD at h
  split at h
  · obtain ⟨v, u, rfl, r1, r2⟩ := repAll2 r
    cases r1
    cases r2
    exact ⟨_, _, rfl, k _ _ (.val S (.int _) h)⟩
  · exact h.elim
def dForget (t : TED) : TED := fun δ G Q => t δ G fun d G1 => ∃ a, Q d (delG G1 a)
theorem de_forget (h : DE X B e te) : DE X B e (dForget te) :=
  PE.weak h fun σ H Q ⟨F, G, δ, Qd, S, h, k⟩ => ⟨F, G, δ, _, S, h, fun v H1 ⟨F1, G1, d, s1, S1, r1, a, h1⟩ => k v H1 ⟨F1, delG G1 a, d, s1, ⟨S1.ds.forget, S1.gr, S1.sl⟩, r1, h1⟩⟩
def enumT (ds : List D) : List D := ds.mapIdx fun i d => .tup [.int (i : Nat), d]
theorem itD_enumT {a : Addr} {xs : List V} {ds : List D} (h : SqT K F a xs) (r : RepAll K F xs ds) : ItD K F (IteT K a) (enumT ds) := by
  have l := r.length
  have le : (enumT ds).length = ds.length := by simp [enumT]
  refine ⟨fun i H hi s => ?_, fun H s => ⟨xs, same_seqT s h, by rw [le, l]; exact Nat.le_refl _⟩, fun i H x H' hi s y B σ δ G F1 S s1 => ?_⟩
  · rw [le] at hi
    exact ⟨xs, xs[i]'(by omega), same_seqT s h, by simp [show i < xs.length by omega]⟩
  · obtain ⟨T, x0, rfl, nT, rfl, hx⟩ := y
    obtain ⟨d, hd, rd⟩ := r.get' (hx xs (same_seqT s h))
    obtain ⟨d2, s2⟩ := S.ds.new (o := .tup [.int (i : Nat), x0]) nT
    exact ⟨_, .tup [.int (i : Nat), d], s2, ⟨d2, S.gr.trans s2, S.sl.mono s2⟩, by simp [enumT, List.getElem?_mapIdx, hd], .tup upd_same (.cons (.int _) (.cons ((rd.mono s1).mono s2) .nil))⟩
def iEnumD (ta : TAD) : TID := fun δ G R => ta δ G fun ds G1 => match ds with | [.tup es] => R (enumT es) G1 | _ => False
theorem di_enumT {ta : TAD} {tpos : Pos} {elts : List Expr} {kk : Nat} (hg : Gl X "enumerate") (hm : X.mg "enumerate" = none) (ha : DA X B [e] ta) (hs : starEach [e] X.env = [(false, eval e X.env)] := by rfl) : DI X B (.Tuple elts kk tpos) (.Call (.Name "enumerate" p) [e] [] pos) (iEnumD ta) :=
  PI.weak (pi_enumT hg hm ha hs) fun σ H R ⟨F, G, δ, Qd, S, h, k⟩ => ⟨F, G, δ, _, S, h, fun vs H1 ⟨F1, G1, ds, s1, S1, r1, h1⟩ => by
    match ds, r1, h1 with
    | [.tup es], .cons r .nil, h1 =>
      cases r with
      | tup hq ra => exact ⟨_, _, rfl, .of (S1.ds.sub _ _ hq), k _ _ ⟨F1, G1, _, s1, S1, itD_enumT (.of hq) ra, h1⟩⟩⟩
end
theorem for_at {g : TGD} {tb : TSD} {E : EndsD} (I : Nat → SD → Gm → Prop) (ds : List D) (hs : ∀ j δ G d (N : SD → Gm → Prop), ds[j]? = some d → I j δ G → (∀ δ' G', I (j + 1) δ' G' → N δ' G') → g d δ G fun δ1 G1 => tb { nx := N, rt := E.rt, bk := E.nx, ct := N } δ1 G1)
    (hF : ∀ δ G, I ds.length δ G → E.nx δ G) : ∀ (es : List D) (j : Nat) (δ : SD) (G : Gm), j ≤ ds.length → ds.drop j = es → I j δ G → forD g tb E es δ G
  | [], j, δ, G, hj, e, h => by
    have : j = ds.length := by have := List.drop_eq_nil_iff.mp e; omega
    subst this
    exact hF δ G h
  | d :: es, j, δ, G, hj, e, h => by
    have hj' : j < ds.length := by
      rcases Nat.lt_or_ge j ds.length with q | q
      · exact q
      · rw [List.drop_eq_nil_iff.mpr q] at e
        cases e
    rw [List.drop_eq_getElem_cons hj'] at e
    injection e with e1 e2
    exact hs j δ G d _ (by rw [List.getElem?_eq_getElem hj', e1]) h fun δ' G' h' => for_at I ds hs hF es (j + 1) δ' G' hj' e2 h'
end JP
namespace JP
open PySem PySem.Spec PyProof.Rows L2
mutual
def toP : D → PyData
  | .bl b => .bool b
  | .int i => .int i
  | .str x => .str x
  | .tup ds => .tuple (toPs ds)
  | .ptu ds => .tuple (toPs ds)
  | .lst ds => .list (toPs ds)
  | .non | .ty _ | .adr _ | .scr _ | .ins _ _ | .exc _ _ | .dic _ | .dit _ | .dif _ | .dln _ _ | .dlb _ _ => .none
def toPs : List D → List PyData
  | [] => []
  | d :: ds => toP d :: toPs ds
end
mutual
def isP : D → Bool
  | .non | .bl _ | .int _ | .str _ => true
  | .tup ds => isPs ds
  | .ptu ds => isPs ds
  | .lst ds => isPs ds
  | .ty _ | .adr _ | .scr _ | .ins _ _ | .exc _ _ | .dic _ | .dit _ | .dif _ | .dln _ _ | .dlb _ _ => false
def isPs : List D → Bool
  | [] => true
  | d :: ds => isP d && isPs ds
end
mutual
theorem dp_toP : ∀ {d : D}, isP d = true → DP d (toP d)
  | .non, _ => by simp only [toP]; exact .non
  | .bl b, _ => by simp only [toP]; exact .bl b
  | .int i, _ => by simp only [toP]; exact .int i
  | .str x, _ => by simp only [toP]; exact .str x
  | .tup ds, h => by simp only [toP]; exact .tup (dps_toP (by simpa only [isP] using h))
  | .ptu ds, h => by simp only [toP]; exact .ptu (dps_toP (by simpa only [isP] using h))
  | .lst ds, h => by simp only [toP]; exact .lst (dps_toP (by simpa only [isP] using h))
  | .ty _, h | .adr _, h | .scr _, h | .ins _ _, h | .exc _ _, h | .dic _, h | .dit _, h | .dif _, h | .dln _ _, h | .dlb _ _, h => by simp only [isP] at h; cases h
theorem dps_toP : ∀ {ds : List D}, isPs ds = true → DPs ds (toPs ds)
  | [], _ => by simp only [toPs]; exact .nil
  | d :: ds, h => by
    simp only [isPs, Bool.and_eq_true] at h
    simp only [toPs]
    exact .cons (dp_toP h.1) (dps_toP h.2)
end
/-- plain, of such a depth -/
structure Pl (k : Nat) (d : D) : Prop where
  p : isP d = true
  l : (toP d).canLay0 = true
  h : (toP d).depth ≤ k
theorem Pl.mono {k m : Nat} {d : D} (h : Pl k d) (hk : k ≤ m) : Pl m d := ⟨h.p, h.l, Nat.le_trans h.h hk⟩
theorem pl_non {k : Nat} : Pl k .non := ⟨by simp only [isP], by simp only [toP, PyData.canLay0], by simp only [toP, PyData.depth]; exact Nat.zero_le _⟩
theorem pl_bl {k : Nat} {b : Bool} : Pl k (.bl b) := ⟨by simp only [isP], by simp only [toP, PyData.canLay0], by simp only [toP, PyData.depth]; exact Nat.zero_le _⟩
theorem pl_int {k : Nat} {i : Int} : Pl k (.int i) := ⟨by simp only [isP], by simp only [toP, PyData.canLay0], by simp only [toP, PyData.depth]; exact Nat.zero_le _⟩
theorem pls {k : Nat} : ∀ {ds : List D}, (∀ d ∈ ds, Pl k d) → isPs ds = true ∧ PyData.canLayAll0 (toPs ds) = true ∧ PyData.depthAll (toPs ds) ≤ k
  | [], _ => by simp only [isPs, toPs, PyData.canLayAll0, PyData.depthAll]; exact ⟨trivial, trivial, Nat.zero_le _⟩
  | d :: ds, h => by
    obtain ⟨a, b, c⟩ := pls (ds := ds) fun e he => h e (List.mem_cons_of_mem _ he)
    obtain ⟨x, y, z⟩ := h d List.mem_cons_self
    simp only [isPs, toPs, PyData.canLayAll0, PyData.depthAll, Bool.and_eq_true]
    exact ⟨⟨x, a⟩, ⟨y, b⟩, Nat.max_le.mpr ⟨z, c⟩⟩
theorem pl_tup {k : Nat} {ds : List D} (h : ∀ d ∈ ds, Pl k d) : Pl (k + 1) (.tup ds) := by
  obtain ⟨a, b, c⟩ := pls h
  exact ⟨by simp only [isP]; exact a, by simp only [toP, PyData.canLay0]; exact b, by simp only [toP, PyData.depth]; omega⟩
theorem pl_lst {k : Nat} {ds : List D} (h : ∀ d ∈ ds, Pl k d) : Pl (k + 1) (.lst ds) := by
  obtain ⟨a, b, c⟩ := pls h
  exact ⟨by simp only [isP]; exact a, by simp only [toP, PyData.canLay0]; exact b, by simp only [toP, PyData.depth]; omega⟩
theorem pl_map {α : Type} {k : Nat} {f : α → D} {xs : List α} (h : ∀ x ∈ xs, Pl k (f x)) : ∀ d ∈ xs.map f, Pl k d := fun d hd => by
  obtain ⟨x, mx, rfl⟩ := List.mem_map.mp hd
  exact h x mx
theorem pl_ints {k : Nat} {ns : List Int} : ∀ d ∈ ns.map D.int, Pl k d := pl_map fun _ _ => pl_int
theorem pl_nil {k : Nat} : ∀ d ∈ ([] : List D), Pl k d := fun d h => by cases h
theorem Pl.sh {d : D} (h : Pl 60 d) : SeqAt.shaped (toP d) = true := by
  unfold SeqAt.shaped
  rw [h.l, Bool.true_and]
  have := h.h
  exact decide_eq_true (by omega)
/-- == of plain things -/
def eqvD (a b : D) : Bool := PyData.eqv (toP a) (toP b)
def eqvL (a b : List D) : Bool := PyData.eqvAll (toPs a) (toPs b)
theorem eq_pl {a b : D} {G : Gm} {Q : QD} (ha : Pl 60 a) (hb : Pl 60 b) (q : Q (.bl (eqvD a b)) G) : eqD2 a b G Q := ⟨toP a, toP b, dp_toP ha.p, dp_toP hb.p, ha.sh, hb.sh, q⟩
theorem ne_pl {a b : D} {G : Gm} {Q : QD} (ha : Pl 60 a) (hb : Pl 60 b) (q : Q (.bl (!eqvD a b)) G) : neD2 a b G Q := ⟨toP a, toP b, dp_toP ha.p, dp_toP hb.p, ha.sh, hb.sh, q⟩
theorem eqvD_lst {xs ys : List D} : eqvD (.lst xs) (.lst ys) = eqvL xs ys := by simp only [eqvD, eqvL, toP, PyData.eqv]
theorem eqvD_int {i j : Int} : eqvD (.int i) (.int j) = decide (i = j) := by simp only [eqvD, toP, PyData.eqv]; rfl
theorem eqvL_nil : eqvL [] [] = true := by simp only [eqvL, toPs, PyData.eqvAll]
theorem eqvL_cn {y : D} {ys : List D} : eqvL (y :: ys) [] = false := by simp only [eqvL, toPs, PyData.eqvAll]
theorem eqvL_0 : ∀ {xs : List D}, eqvL xs [] = decide (xs = [])
  | [] => by rw [eqvL_nil]; rfl
  | x :: xs => by rw [eqvL_cn]; exact (decide_eq_false (by simp)).symm
theorem eqvD_l0 {xs : List D} : eqvD (.lst xs) (.lst []) = decide (xs = []) := by rw [eqvD_lst, eqvL_0]
mutual
theorem eqv_refl : ∀ p : PyData, p.canLay0 = true → PyData.eqv p p = true
  | .none, _ => by simp only [PyData.eqv]
  | .bool b, _ => by simp [PyData.eqv]
  | .int i, _ => by simp [PyData.eqv]
  | .str x, _ => by simp [PyData.eqv]
  | .list ps, h => by simp only [PyData.eqv]; exact eqvAll_refl ps (by simpa only [PyData.canLay0] using h)
  | .tuple ps, h => by simp only [PyData.eqv]; exact eqvAll_refl ps (by simpa only [PyData.canLay0] using h)
  | .dict _, h => by simp only [PyData.canLay0] at h; cases h
theorem eqvAll_refl : ∀ ps : List PyData, PyData.canLayAll0 ps = true → PyData.eqvAll ps ps = true
  | [], _ => by simp only [PyData.eqvAll]
  | p :: ps, h => by
    simp only [PyData.canLayAll0, Bool.and_eq_true] at h
    simp only [PyData.eqvAll, eqv_refl p h.1, eqvAll_refl ps h.2, Bool.and_self]
end
theorem eqvD_self {k : Nat} {d : D} (h : Pl k d) : eqvD d d = true := eqv_refl _ h.l
/-- repr tells it -/
structure Sh (d : D) : Prop where
  p : isP d = true
  s : (toP d).showable = true
  k : (toP d).hasDict = false
  h : (toP d).depth ≤ 60
  l : (toP d).shown.length ≤ sizeLine
def showD (d : D) : Str := (toP d).shown
theorem repr_sh {d : D} {G : Gm} {Q : QD} (h : Sh d) (q : Q (.str (showD d)) G) : reprD [d] G Q := ⟨d, toP d, rfl, dp_toP h.p, h.s, h.k, h.h, h.l, q⟩
def scalD : D → D → Bool
  | .non, .non => true | .non, .int _ => true | .int _, .non => true | .non, .bl _ => true | .bl _, .non => true | .non, .str _ => true | .str _, .non => true
  | .int _, .int _ => true | .bl _, .bl _ => true | .str _, .str _ => true
  | .int _, .str _ => true | .str _, .int _ => true | .bl _, .str _ => true | .str _, .bl _ => true
  | _, _ => false
def sameD : D → D → Bool
  | .non, .non => true
  | .int i, .int j => decide (i = j)
  | .bl i, .bl j => decide (i = j)
  | .str i, .str j => decide (i = j)
  | _, _ => false
def neSD : R2D := fun a b G Q => scalD a b = true ∧ Q (.bl (!sameD a b)) G
section
variable {K : PySem.W.Frag}
theorem scal_rep {F : Hp} {x y : V} {a b : D} (r1 : Rep K F x a) (r2 : Rep K F y b) (h : scalD a b = true) : scal x y = true ∧ decide (x = y) = sameD a b := by
  cases a <;> cases b <;> first | (cases h; done) | skip
  all_goals
    cases r1
    cases r2
    first | exact ⟨rfl, by decide⟩ | exact ⟨rfl, by simp [sameD]⟩
theorem neS_A : OpA K rNe neSD := fun B σ δ H F G x y a b Qd Q S r1 r2 h k => by
  obtain ⟨h1, h2⟩ := scal_rep r1 r2 h.1
  exact ⟨h1, by rw [h2]; exact k _ _ (.val S (.bl _) h.2)⟩
end
inductive EqI (a b : D) (G : Gm) (Q : QD) : Prop
  | mk (ha : Pl 60 a) (hb : Pl 60 b) (q : Q (.bl (eqvD a b)) G) : EqI a b G Q
inductive NeI (a b : D) (G : Gm) (Q : QD) : Prop
  | mk (ha : Pl 60 a) (hb : Pl 60 b) (q : Q (.bl (!eqvD a b)) G) : NeI a b G Q
inductive NeSI (a b : D) (G : Gm) (Q : QD) : Prop
  | mk (h : scalD a b = true) (q : Q (.bl (!sameD a b)) G) : NeSI a b G Q
inductive ReprI (ds : List D) (G : Gm) (Q : QD) : Prop
  | mk (d : D) (e : ds = [d]) (h : Sh d) (q : Q (.str (showD d)) G) : ReprI ds G Q
section
variable {K : PySem.W.Frag}
theorem eqI_A : OpA K (rEqD K) EqI := fun B σ δ H F G x y a b Qd Q S r1 r2 ⟨ha, hb, q⟩ k => eq_A B σ δ H F G x y a b Qd Q S r1 r2 (eq_pl ha hb q) k
theorem neI_A : OpA K (rNeD K) NeI := fun B σ δ H F G x y a b Qd Q S r1 r2 ⟨ha, hb, q⟩ k => ne_A B σ δ H F G x y a b Qd Q S r1 r2 (ne_pl ha hb q) k
theorem neSI_A : OpA K rNe NeSI := fun B σ δ H F G x y a b Qd Q S r1 r2 ⟨h, q⟩ k => neS_A B σ δ H F G x y a b Qd Q S r1 r2 ⟨h, q⟩ k
theorem reprI_A : CallA K (rRepr K) ReprI := fun B σ δ H F G xs ds Qd Q S r ⟨d, e, h, q⟩ k => repr_A B σ δ H F G xs ds Qd Q S r (e ▸ repr_sh h q) k
end
theorem eqI_self {d : D} {G : Gm} {Q : QD} (h : Pl 60 d) (q : Q (.bl true) G) : EqI d d G Q := ⟨h, h, by rw [eqvD_self h]; exact q⟩
theorem neI_l0 {xs : List D} {G : Gm} {Q : QD} (h : ∀ d ∈ xs, Pl 58 d) (q : Q (.bl (!decide (xs = []))) G) : NeI (.lst xs) (.lst []) G Q := ⟨(pl_lst h).mono (by decide), (pl_lst (k := 0) pl_nil).mono (by decide), by rw [eqvD_l0]; exact q⟩
theorem neSI_self {x : Str} {G : Gm} {Q : QD} (q : Q (.bl false) G) : NeSI (.str x) (.str x) G Q := ⟨rfl, by rw [show sameD (.str x) (.str x) = true from decide_eq_true rfl]; exact q⟩
theorem reprI {d : D} {G : Gm} {Q : QD} (h : Sh d) (q : Q (.str (showD d)) G) : ReprI [d] G Q := ⟨d, rfl, h, q⟩
/-- a comprehension over things told by α: which are taken, what is made of them; nothing is changed -/
theorem lc_fm {α : Type} {g : TGD} {tt : TTD} {te : TED} {Fin : List D → Gm → Prop} {δ : SD} {G : Gm} (e : α → D) (p : α → Bool) (f : α → D) : ∀ (xs : List α) (acc : List D),
    (∀ x ∈ xs, ∀ (acc : List D) (N : List D → Gm → Prop), (p x = true → N (acc ++ [f x]) G) → (p x = false → N acc G) →
      g (e x) δ G fun δ1 G1 => tt δ1 G1 fun b G2 => match b with | true => te δ1 G2 fun y G3 => N (acc ++ [y]) G3 | false => N acc G2) →
    Fin (acc ++ (xs.filter p).map f) G → lcD g tt te Fin δ (xs.map e) acc G
  | [], acc, _, h => by
    rw [List.filter_nil, List.map_nil, List.append_nil] at h
    exact h
  | x :: xs, acc, hs, h => by
    refine hs x List.mem_cons_self acc (fun a G' => lcD g tt te Fin δ (xs.map e) a G') (fun hp => ?_) fun hp => ?_
    · refine lc_fm e p f xs _ (fun y hy => hs y (List.mem_cons_of_mem _ hy)) ?_
      rw [List.filter_cons, if_pos hp, List.map_cons] at h
      rw [List.append_assoc]
      exact h
    · refine lc_fm e p f xs _ (fun y hy => hs y (List.mem_cons_of_mem _ hy)) ?_
      rw [List.filter_cons, if_neg (by rw [hp]; decide)] at h
      exact h
/-- the same, all being taken -/
theorem lc_f0 {α : Type} {g : TGD} {te : TED} {Fin : List D → Gm → Prop} {δ : SD} {G : Gm} (e : α → D) (f : α → D) : ∀ (xs : List α) (acc : List D),
    (∀ x ∈ xs, ∀ (N : D → Gm → Prop), N (f x) G → g (e x) δ G fun δ1 G1 => te δ1 G1 N) →
    Fin (acc ++ xs.map f) G → lcD g dYes te Fin δ (xs.map e) acc G
  | [], acc, _, h => by
    rw [List.map_nil, List.append_nil] at h
    exact h
  | x :: xs, acc, hs, h => by
    refine hs x List.mem_cons_self (fun y G' => lcD g dYes te Fin δ (xs.map e) (acc ++ [y]) G') ?_
    refine lc_f0 e f xs _ (fun y hy => hs y (List.mem_cons_of_mem _ hy)) ?_
    rw [List.map_cons] at h
    rw [List.append_assoc]
    exact h
end JP
namespace JP
open PySem PySem.Spec PyProof.Rows L2
abbrev KvN := List (Row × D)
def getR (kvs : KvN) (k : Row) : Option D := (kvs.find? fun p => decide (p.1 = k)).map (·.2)
def putR (kvs : KvN) (k : Row) (d : D) : KvN := if (getR kvs k).isSome = true then kvs.map (fun p => if p.1 = k then (p.1, d) else p) else kvs ++ [(k, d)]
section
variable {K : PySem.W.Frag} {F : Hp}
theorem RepN.len : ∀ {es : EntN} {ds : KvN}, RepN K F es ds → es.length = ds.length
  | _, _, .nil => rfl
  | _, _, .cons _ r => congrArg (· + 1) (RepN.len r)
theorem RepN.has {k : Row} : ∀ {es : EntN} {ds : KvN}, RepN K F es ds → (valN es k).isSome = (getR ds k).isSome
  | _, _, .nil => rfl
  | _, _, .cons (k := k') (vs := vs) (ds := ds) _ r => by
    have ih := RepN.has (k := k) r
    by_cases e : k' = k
    · simp [valN, getR, List.find?_cons, e]
    · simpa [valN, getR, List.find?_cons, e] using ih
theorem RepN.get {k : Row} {d : D} : ∀ {es : EntN} {ds : KvN}, RepN K F es ds → getR ds k = some d → ∃ v, valN es k = some v ∧ Rep K F v d
  | _, _, .nil, h => by cases h
  | _, _, .cons (k := k') (v := v) (d := d') rv r, h => by
    by_cases e : k' = k
    · have h' : some d' = some d := by simpa [getR, List.find?_cons, e] using h
      cases h'
      exact ⟨v, by simp [valN, List.find?_cons, e], rv⟩
    · obtain ⟨v', a, b⟩ := RepN.get (k := k) r (by simpa [getR, List.find?_cons, e] using h)
      exact ⟨v', by simpa [valN, List.find?_cons, e] using a, b⟩
theorem RepN.getD {k : Row} {d : D} {x : V} {es : EntN} {ds : KvN} (r : RepN K F es ds) (rx : Rep K F x d) : Rep K F ((valN es k).getD x) ((getR ds k).getD d) := by
  cases e : getR ds k with
  | none =>
    have h := r.has (k := k)
    rw [e] at h
    have : valN es k = none := by
      cases q : valN es k with
      | none => rfl
      | some v => rw [q] at h; cases h
    rw [this]
    exact rx
  | some d' =>
    obtain ⟨v, a, b⟩ := r.get e
    rw [a]
    exact b
theorem RepN.repl {k : Row} {v : V} {d : D} (rv : Rep K F v d) : ∀ {es : EntN} {ds : KvN}, RepN K F es ds → RepN K F (es.map fun p => if p.1 = k then (p.1, p.2.1, v) else p) (ds.map fun p => if p.1 = k then (p.1, d) else p)
  | _, _, .nil => .nil
  | _, _, .cons (k := k') r rs => by
    rw [List.map_cons, List.map_cons]
    by_cases e : k' = k
    · rw [if_pos e, if_pos e]
      exact .cons rv (RepN.repl rv rs)
    · rw [if_neg e, if_neg e]
      exact .cons r (RepN.repl rv rs)
theorem RepN.app : ∀ {es fs : EntN} {ds gs : KvN}, RepN K F es ds → RepN K F fs gs → RepN K F (es ++ fs) (ds ++ gs)
  | _, _, _, _, .nil, q => q
  | _, _, _, _, .cons r rs, q => .cons r (RepN.app rs q)
theorem RepN.put {k : Row} {b : Addr} {v : V} {d : D} {es : EntN} {ds : KvN} (r : RepN K F es ds) (rv : Rep K F v d) : RepN K F (putN es k b v) (putR ds k d) := by
  unfold putN putR
  rw [r.has (k := k)]
  by_cases q : (getR ds k).isSome = true
  · rw [if_pos q, if_pos q]
    exact .repl rv r
  · rw [if_neg q, if_neg q]
    exact r.app (.cons rv .nil)
end
end JP
namespace JP
open PySem PySem.Spec PyProof.Rows L2
abbrev tiObj (t : Addr) (i : Nat) : Obj := { cls := .type "tuple_iterator", data := .fields #[.ref t, .int i 0] }
def TiO (t it : Addr) (i : Nat) : HO := .ext fun h => h.get? it = some (tiObj t i)
end JP
namespace JP
open PySem PySem.Spec PyProof.Rows L2
def dChain (r r' : R2D) (ta tb tc : TED) : TED := fun δ G Q => ta δ G fun x G1 => tb δ G1 fun y G2 => r x y G2 fun z G3 => match z with
  | .bl true => tc δ G3 fun w G4 => r' y w G4 Q
  | .bl false => Q (.bl false) G3
  | _ => False
section
variable {X : Cx} {B : Bs} {a b c : Expr} {ta tb tc : TED} {pos : Pos} {op op' : CmpOp} {rv rv' : R2} {r r' : R2D}
theorem dt_chain (ho : OpR X (compareOp op) rv) (hA : OpA X.K rv r) (ho' : OpR X (compareOp op') rv') (hA' : OpA X.K rv' r') (ha : DE X B a ta) (hb : DE X B b tb) (hc : DE X B c tc) (hm : lastMarks [op, op'] [b, c] = false := by with_unfolding_all rfl) :
    DT X B (.Compare a [op, op'] [b, c] pos) (dTest (dChain r r' ta tb tc)) :=
  PT.weak (pt_chain ho ho' ha hb hc hm) fun σ H Q ⟨F, G, δ, Qd, S, h, k⟩ => up2 S h fun x y H2 F2 G2 d e s2 S2 r1 r2 h2 => hA B σ δ H2 F2 G2 x y d e _ _ S2 r1 r2 h2 fun z H3 ⟨F3, G3, d3, s3, S3, r3, q3⟩ => by
    cases d3 with
    | bl c' =>
      cases r3
      refine ⟨c', rfl, ?_⟩
      cases c' with
      | true =>
        rw [if_pos rfl]
        exact ⟨F3, G3, δ, _, S3, q3, fun w H4 ⟨F4, G4, d4, s4, S4, r4, q4⟩ => hA' B σ δ H4 F4 G4 y w e d4 _ _ S4 (r2.mono (s3.trans s4)) r4 q4 fun v H5 ⟨F5, G5, d5, s5, S5, r5, q5⟩ => by
          cases d5 with
          | bl b5 =>
            cases r5
            exact ⟨b5, rfl, k b5 H5 ⟨F5, G5, ((s2.trans s3).trans s4).trans s5, S5, q5⟩⟩
          | _ => exact q5.elim⟩
      | false =>
        rw [if_neg (by decide)]
        exact ⟨false, rfl, k _ _ ⟨F3, G3, s2.trans s3, S3, q3⟩⟩
    | _ => exact q3.elim
end
def rNe0 (K : PySem.W.Frag) : R2 := fun x y H Q => ∃ a b xs, x = .ref a ∧ y = .ref b ∧ SqL K H a xs ∧ SqL K H b [] ∧ Q (.bl (!xs.isEmpty)) H
theorem op_ne0 {X : Cx} (hu : X.A.units < cLine) : OpR X (compareOp .NotEq) (rNe0 X.K) := by
  intro pins s σ H x y v u Q I rx ry h
  obtain ⟨a, b, xs, rfl, rfl, ha, hb, q⟩ := h
  cases rx
  cases ry
  obtain ⟨its, rv, pl, hz⟩ := I.list ha
  obtain ⟨its2, rv2, pl2, _⟩ := I.list hb
  cases rv2
  show wpAny _ _ (richCompare .NotEq _ _) _ _ _
  cases rv with
  | nil =>
    refine PySem.SeqAt.RcNeAt.lists (e := fun _ => true) pl.isList pl2.isList rfl hu (fun j h1 => ?_) X.prog X.w _ _ ?_
    · exact absurd h1 (Nat.not_lt_zero _)
    · exact ⟨.bl false, H, I, rfl, q⟩
  | cons r rs =>
    refine PySem.SeqAt.RcNeAt.lists_lengths pl.isList pl2.isList (by simp) hu X.prog X.w _ _ ?_
    exact ⟨.bl true, H, I, rfl, q⟩
def ne0D : R2D := fun a b G Q => ∃ ds, lsD a G = some ds ∧ b = .lst [] ∧ Q (.bl (!ds.isEmpty)) G
theorem ne0_A {K : PySem.W.Frag} : OpA K (rNe0 K) ne0D := fun B σ δ H F G x y a b Qd Q S r1 r2 ⟨ds, e, eb, q⟩ k => by
  subst eb
  obtain ⟨p, xs, rfl, hp, ra⟩ := ls_rep S r1 e
  obtain ⟨p2, xs2, rfl, hp2, ra2⟩ := rep_lst r2
  cases ra2
  refine ⟨p, p2, xs, rfl, rfl, SqL.of hp, SqL.of (S.ds.sub _ _ hp2), ?_⟩
  have e2 : xs.isEmpty = ds.isEmpty := by cases ra <;> rfl
  rw [e2]
  exact k _ _ (.val S (.bl _) q)
end JP
namespace JP
open PySem PySem.Spec PyProof.Rows L2
/-- what __iter__ promises: a new walk of the tuple in a field -/
def spIterS (K : PySem.W.Frag) (C : Addr) (f : Str) : Shared → Sp := fun s vs H Q _ => ∃ a dx fs t xs, vs = [.ref a] ∧ H a = some (.ins C dx fs) ∧ fs.lookup f = some (.ref t) ∧ SqT K H t xs ∧ ∀ it, H it = none → s.heap.objs.size ≤ it → Q (.ref it) (upd H it (TiO t it 0))
/-- the def keeps it -/
def IterS (P : Program) (w : World) (K : PySem.W.Frag) (mg : Str → Option Value) (base : Heap) (C : Addr) (f : Str) (k : Nat) (g : Addr) : Prop := ∀ (A : Around) (outer : List Env) (s : Shared) (H : Hp) (us : List Value) (vs : List V) (Q : VK) (E : XK), Room k A → Env0 P w K mg base A outer s H → Vals vs us → spIterS K C f s vs H Q E →
  codeAny (model P w) A (.call (.ref g) ⟨us, []⟩) (CR CX0 outer P w H s Q E) s
theorem IterS.mono {P : Program} {w : World} {K : PySem.W.Frag} {mg : Str → Option Value} {base : Heap} {C : Addr} {f : Str} {j k : Nat} {g : Addr} (F : IterS P w K mg base C f j g) (h : j ≤ k) : IterS P w K mg base C f k g := fun A outer s H us vs Q E hr => F A outer s H us vs Q E (hr.mono h)
end JP
namespace JP
open PySem PySem.Spec PyProof.Rows L2
section
variable {X : Cx} {B : Bs} {K : PySem.W.Frag} {e o i : Expr} {pos : Pos} {te to ti : TED} {C fi : Addr} {f : Str} {k : Nat}
variable {σ : L2.St} {H F : Hp} {δ : SD} {G : Gm}
/-- xs[i] = y -/
def gSetD (to ti : TED) : TGD := fun d δ G Q => to δ G fun a G1 => ti δ G1 fun i G2 => ∃ (p : Addr) (j : Nat) (ds : List D), a = .adr p ∧ i = .int (j : Int) ∧ G2 p = some (.lst ds) ∧ j < ds.length ∧ Q δ (updG G2 p (.lst (ds.set j d)))
theorem repAll_set : ∀ {vs : List V} {ds : List D} {v : V} {d : D} (j : Nat), RepAll K F vs ds → Rep K F v d → RepAll K F (vs.set j v) (ds.set j d)
  | _, _, _, _, _, .nil, _ => .nil
  | _, _, _, _, 0, .cons _ rs, r => .cons r rs
  | _, _, _, _, j + 1, .cons r1 rs, r => .cons r1 (repAll_set j rs r)
theorem dg_set (ho : DE X B o to) (hi : DE X B i ti)
    (ha : ∀ v, assign (.Subscript o i pos) X.env v = (do
      let ov ← holding [v] (eval o X.env)
      let iv ← holding [v, ov] (eval i X.env)
      standAt pos
      holding [v, ov, iv] (setItem ov iv v)
      release [v, ov, iv] []) := by intro _; rfl) : DG X B (.Subscript o i pos) (gSetD to ti) :=
  PG.weak (pg_sub ho hi set_list ha) fun v σ H Q ⟨F, G, δ, d, Qd, S, r, h, k⟩ => ⟨F, G, δ, _, S, h, fun x H1 ⟨F1, G1, a, s1, S1, r1, h1⟩ => ⟨F1, G1, δ, _, S1, h1, fun y H2 ⟨F2, G2, di, s2, S2, r2, p, j, ds, ea, ei, g, hj, h2⟩ => by
    subst ea ei
    cases r1
    cases r2
    obtain ⟨xs, e1, ra⟩ := (S2.ds.mu p _ g).2
    have hl := ra.length
    have hx : ixN xs.length (j : Int) = some j := by
      unfold ixN
      simp
      omega
    exact ⟨p, xs, (j : Int), j, rfl, rfl, e1, hx, k _ _ ⟨F2, _, δ, s1.trans s2, ⟨S2.ds.write (m' := .lst (ds.set j d)) g ⟨_, upd_same, repAll_set j ra (r.mono (s1.trans s2))⟩, S2.gr, S2.sl⟩, h2⟩⟩⟩⟩
end
end JP
namespace JP
open PySem PySem.Spec PyProof.Rows L2
section
variable {X : Cx} {B : Bs} {K : PySem.W.Frag} {ke ve e : Expr} {pos tp p : Pos} {kk : Nat} {i j : Int}
variable {σ : L2.St} {H F F' : Hp} {δ : SD} {G : Gm}
/-- enumerate(xs), a list -/
theorem itD_enumL {a : Addr} {xs : List V} {ds : List D} (h : SqL K F a xs) (r : RepAll K F xs ds) : ItD K F (Ite K a) (enumT ds) := by
  have l := r.length
  have le : (enumT ds).length = ds.length := by simp [enumT]
  refine ⟨fun i H hi s => ?_, fun H s => ⟨xs, same_seqL' s h, by rw [le, l]; exact Nat.le_refl _⟩, fun i H x H' hi s y B σ δ G F1 S s1 => ?_⟩
  · rw [le] at hi
    exact ⟨xs, xs[i]'(by omega), same_seqL' s h, by simp [show i < xs.length by omega]⟩
  · obtain ⟨T, x0, rfl, nT, rfl, hx⟩ := y
    obtain ⟨d, hd, rd⟩ := r.get' (hx xs (same_seqL' s h))
    obtain ⟨d2, s2⟩ := S.ds.new (o := .tup [.int (i : Nat), x0]) nT
    exact ⟨_, .tup [.int (i : Nat), d], s2, ⟨d2, S.gr.trans s2, S.sl.mono s2⟩, by simp [enumT, List.getElem?_mapIdx, hd], .tup upd_same (.cons (.int _) (.cons ((rd.mono s1).mono s2) .nil))⟩
def iEnumLD (ta : TAD) : TID := fun δ G R => ta δ G fun ds G1 => match ds with | [.lst es] => R (enumT es) G1 | _ => False
theorem di_enumL {ta : TAD} {tpos : Pos} {elts : List Expr} (hg : Gl X "enumerate") (hm : X.mg "enumerate" = none) (ha : DA X B [e] ta) (hs : starEach [e] X.env = [(false, eval e X.env)] := by rfl) : DI X B (.Tuple elts kk tpos) (.Call (.Name "enumerate" p) [e] [] pos) (iEnumLD ta) :=
  PI.weak (pi_enum hg hm ha hs) fun σ H R ⟨F, G, δ, Qd, S, h, k⟩ => ⟨F, G, δ, _, S, h, fun vs H1 ⟨F1, G1, ds, s1, S1, r1, h1⟩ => by
    match ds, r1, h1 with
    | [.lst es], .cons r .nil, h1 =>
      cases r with
      | lst hq ra => exact ⟨_, _, rfl, .of (S1.ds.sub _ _ hq), k _ _ ⟨F1, G1, _, s1, S1, itD_enumL (.of hq) ra, h1⟩⟩⟩
end
end JP
namespace NQ
open PySem PySem.SeqAt
open AutoSeq1 (wpAny_loadPart')
open MeetsSeq MeetsSeq2 MeetsSeq3 SeqRoads2
open GQ (FinOf call_here)
/-- at each turn both lists stand there, N items each, and the i-th two are alike -/
def Like (prog : Program) (w : World) (A : Around) (E : Value → Shared → Prop) (l b : Addr) (N : Nat) (I : Nat → Shared → Prop) : Prop :=
  ∀ i s, I i s → ∃ (o o2 : Obj) (xs ys : Array Value) (n n2 : Nat), s.heap.get? l = some o ∧ o.cls = .type "list" ∧ o.data = .seq xs n ∧ s.heap.get? b = some o2 ∧ o2.cls = .type "list" ∧ o2.data = .seq ys n2 ∧ xs.size = N ∧ ys.size = N ∧
    ∀ (h1 : i < xs.size) (h2 : i < ys.size), wpAny (model prog w) A.in1 (eqBool xs[i] ys[i]) (fun r s' => r = true ∧ I (i + 1) s') E s
section
variable {prog : Program} {w : World} {A : Around} {R : Result → Shared → Prop}
theorem ne_from (l b : Addr) (N : Nat) (I : Nat → Shared → Prop) (hl : Like prog w A (fun e s' => R (.error e) s') l b N I) (fin : ∀ s, I N s → R (.ok (.ret (.bool false))) s) :
    ∀ (left i : Nat), i + left = N → ∀ s, I i s →
      wpAny (model prog w) A.in1 (Builtin.«list.__eq__.loop» ⟨[.ref l, .ref b, rawInt i, rawInt 3], []⟩) (FinOf prog w A R) (fun e s' => R (.error e) s') s
  | 0, i, hi, s, h => by
    obtain ⟨⟨_, dd, _, sl⟩, ⟨_, dd2, _, sl2⟩, xs, ys, n, n2, hx, c1, d1, hy, c2, d2', sx, sy, _⟩ := hl _ _ h
    simp only at c1 d1 c2 d2'
    subst c1 d1 c2 d2'
    have last : R (.ok (.ret (.bool false))) s := fin s (by rw [← hi]; exact h)
    obtain ⟨hp, g, d, tk, os⟩ := s
    wp_walk using wpAny_loadPart' hx, wpAny_loadPart' hy
    have o1 : xs[((i : Nat) : Int).toNat]? = none := by simp; omega
    have o2 : ys[((i : Nat) : Int).toNat]? = none := by simp; omega
    rw [o1, o2]
    wp_walk using wpAny_loadPart' hx, wpAny_loadPart' hy
    show R (.ok (.ret (.bool (xs.size != ys.size)))) _
    rw [sx, sy]
    simpa using last
  | left + 1, i, hi, s, h => by
    obtain ⟨⟨_, dd, _, sl⟩, ⟨_, dd2, _, sl2⟩, xs, ys, n, n2, hx, c1, d1, hy, c2, d2', sx, sy, turn⟩ := hl _ _ h
    simp only at c1 d1 c2 d2'
    subst c1 d1 c2 d2'
    have ix : i < xs.size := by omega
    have iy : i < ys.size := by omega
    have one := turn ix iy
    obtain ⟨hp, g, d, tk, os⟩ := s
    wp_walk using wpAny_loadPart' hx, wpAny_loadPart' hy
    have o1 : xs[((i : Nat) : Int).toNat]? = some xs[i] := by simp [ix]
    have o2 : ys[((i : Nat) : Int).toNat]? = some ys[i] := by simp [iy]
    rw [o1, o2]
    refine wpAny_bind (wpAny_mono one (fun r s2 q => ?_) fun _ _ x => x)
    obtain ⟨rfl, q⟩ := q
    have rest := ne_from l b N I hl fin left (i + 1) (by omega) s2 q
    obtain ⟨hp2, g2, d2, tk2, os2⟩ := s2
    wp_walk
    rw [show ((i : Int) + 1) = ((i + 1 : Nat) : Int) by omega]
    exact ⟨plainId_quiet plain_eq_loop _, codeAny_builtin entry_eq_loop (by
      rw [Around.under_plainId plain_eq_loop _]
      exact rest)⟩
theorem ne_whole (l b : Addr) (N : Nat) (I : Nat → Shared → Prop) (hl : Like prog w A (fun e s' => R (.error e) s') l b N I) (fin : ∀ s, I N s → R (.ok (.ret (.bool false))) s) {s : Shared} (h : I 0 s) :
    wpAny (model prog w) A.in1 (Builtin.«list.__ne__» ⟨[.ref l, .ref b], []⟩) (FinOf prog w A R) (fun e s' => R (.error e) s') s := by
  obtain ⟨⟨_, dd, _, sl⟩, ⟨_, dd2, _, sl2⟩, xs, ys, n, n2, hx, c1, d1, hy, c2, d2', sx, sy, _⟩ := hl _ _ h
  simp only at c1 d1 c2 d2'
  subst c1 d1 c2 d2'
  have rest := ne_from l b N I hl fin N 0 (Nat.zero_add _) s h
  obtain ⟨hp, g, d, tk, os⟩ := s
  have f3 := AutoSeq1.sub_list_list
  have like : ¬ (xs.size != ys.size) = true := by simp [sx, sy]
  wp_walk using wpAny_loadPart' hx, wpAny_loadPart' hy
  exact ⟨plainId_quiet plain_eq_loop _, codeAny_builtin entry_eq_loop (by
    rw [Around.under_plainId plain_eq_loop _]
    exact rest)⟩
end
theorem rcNe_listG {prog : Program} {w : World} {A : Around} {E : Value → Shared → Prop} {s : Shared} {l b : Addr} {N : Nat} {Q : Value → Shared → Prop} (hu : A.units < cLine) (I : Nat → Shared → Prop) (hl : Like prog w A E l b N I)
    (fin : ∀ s, I N s → Q (.bool false) s) (h : I 0 s) : wpAny (model prog w) A (richCompare .NotEq (.ref l) (.ref b)) Q E s := by
  obtain ⟨o, o2, xs, ys, n, n2, hx, c1, _, hy, c2, _⟩ := hl _ _ h
  refine wpAny_richCompare_same_room (op := .NotEq) ⟨_, hx, c1⟩ ⟨_, hy, c2⟩ F.slot_list_ne (call_here F.slot_list_ne ⟨_, hx, c1⟩ F.entry_list_ne (F.args_list_ne_2 _ _) ?_) hu
  exact ne_whole (R := wants (fun v s' => v ≠ .notImplemented ∧ Q v s') E) l b N I hl (fun s' q => ⟨(fun x => nomatch x), fin s' q⟩) h
end NQ
namespace JP
open PySem PySem.Spec PyProof.Rows L2
section
variable {X : Cx} {B : Bs} {K : PySem.W.Frag} {k : Nat} {C g : Addr} {fd : FuncData} {ps : List Str} {f : Str} {a b e : Expr} {ta tb te : TED} {t : TAD} {pos p2 : Pos}
variable {σ : L2.St} {H F : Hp} {δ : SD} {G : Gm}
def noG : Gm := fun _ => none
end
end JP
namespace JP
open PySem PySem.Spec PyProof.Rows L2
section
variable {X : Cx} {B : Bs} {K : PySem.W.Frag} {F H : Hp} {σ : L2.St} {δ : SD} {G : Gm} {C f : Addr} {mc : Value} {k : Nat} {fd : FuncData} {ps ks : List Str} {sp : SpD} {W : WD} {x m : Str} {p pos apos : Pos} {o e : Expr} {es : List Expr} {kws : List Keyword} {t tk : TAD} {gg : List Value → List Value → List Value} {gV : List V → List V → List V} {gD : List D → List D → List D}
def dMakeM (C : Addr) (sp : SpD) (W : WD) (t : TAD) : TED := fun δ G Q => t δ G fun ds G1 => ∀ x, G1 x = none →
  sp (.adr x :: ds) (updG G1 x (.ins C [])) (fun d G2 => d = .non ∧ Q (.adr x) G2) (fun C' fs G2 => W C' fs (delG G2 x))
theorem low_makeM {vs zs : List V} {ds es : List D} {F1 : Hp} {G1 : Gm} {Q : VK} {Qd : QD} (hp : PermOk gV gD) (gc : GoodC K C) (kk : ∀ v H', Beh K B σ F δ Qd v H' → Q v H') (s1 : Same F F1) (S1 : Sit K B σ H F1 δ G1) (r1 : RepAll K F1 vs ds) (r2 : RepAll K F1 zs es)
    (h1 : ∀ x, G1 x = none → sp (gD (.adr x :: ds) es) (updG G1 x (.ins C [])) (fun d G2 => d = .non ∧ Qd (.adr x) G2) (fun C' fs G2 => W C' fs (delG G2 x))) :
    ∀ x dx, H x = none → H dx = none → dx ≠ x → lowSp K sp (gV (.ref x :: vs) zs) (upd (upd H dx (.own x)) x (.ins C dx [])) (fun v H2 => v = .non ∧ Q (.ref x) H2) (XW K B W) := fun x dx nx ndx ne => by
  have sa : Same H (upd H dx (.own x)) := same_new ndx
  have S2 := S1.same sa
  have nx2 : upd H dx (.own x) x = none := by rw [upd_ne ne.symm]; exact nx
  have d3 := S2.ds.open (o := .ins C dx []) (m := .ins C []) nx2 ⟨dx, [], upd_same, gc, fun p hp => (by cases hp), .nil⟩
  refine ⟨⟨F1, B.Z, B.T⟩, _, _, _, _, d3, hp _ _ _ _ _ _ (.cons (.adr x) r1) r2, h1 x (S1.ds.noG nx), fun v H' ⟨F', G', d, s', ds', _, r', e, q'⟩ => ?_, fun cls dd H' ⟨F', G', C', fs, e, s', ds', xr, w⟩ => ⟨F', _, C', fs, e, S1.gr.trans s', ds'.forget, xr, w⟩⟩
  subst e
  refine ⟨rep_non r', ?_⟩
  exact kk _ _ ⟨F', G', _, s1.trans s', ⟨ds', S1.gr.trans s', S1.sl.mono s'⟩, .adr x, q'⟩
theorem perm_app : PermOk (fun vs zs => vs ++ zs) (fun ds es => ds ++ es) := fun _ _ _ _ _ _ r1 r2 => r1.append r2
theorem de_makeM (M : Mk X.K C f) (gc : GoodC X.K C) (Fn : FnD X.prog X.w X.K X.mg X.base k f fd ps sp) (hr : Room (k + 1) X.A) (hg : Gl X x) (hm : X.mg x = some (.ref C)) (hb : Binds X.K fd ps []) (hx : Passes (L2.CX X.prog X.w) X (XW X.K B W)) (ha : DA X B (e :: es) t)
    (hdb : (x == ("__debug__" : Str)) = false := by decide) (he : starEach (e :: es) X.env = (false, eval e X.env) :: starEach es X.env := by rfl) (hpl : (backTo pos (starEach es X.env)).any (·.1) = false := by rfl) :
    DE X B (.Call (.Name x p) (e :: es) [] pos) (dMakeM C sp W t) :=
  PE.weak (pe_make M Fn hr hg hm hb .nil hx ha hdb he hpl) fun σ H Q ⟨F, G, δ, Qd, S, h, kk⟩ => ⟨F, G, δ, _, S, h, fun vs H1 ⟨F1, G1, ds, s1, S1, r1, h1⟩ =>
    low_makeM perm_app gc kk s1 S1 r1 .nil fun x nx => by
      show sp (.adr x :: (ds ++ [])) _ _ _
      rw [List.append_nil]
      exact h1 x nx⟩
end
end JP
namespace JP
open PySem PySem.Spec PyProof.Rows L2
section
variable {X : Cx} {B : Bs} {K : PySem.W.Frag} {F H : Hp} {σ : L2.St} {δ : SD} {G : Gm} {k1 k2 v1 v2 o i : Expr} {tk tv tk2 tv2 to ti : TED} {pos : Pos}
theorem txt_look {x : Str} : ∀ {kvs : List (Str × D)} {ks : List (Key × V)}, RepK K F ks (kvs.map fun p => (D.str p.1, p.2)) → (∀ d, kvs.lookup x = some d → ∃ v, valV ks (.inr x) = some v ∧ Rep K F v d) ∧ (kvs.lookup x = none → valV ks (.inr x) = none)
  | [], ks, r => by
    cases r
    exact ⟨(fun d h => by cases h), fun _ => rfl⟩
  | (y, d0) :: kvs, ks, r => by
    have r' : RepK K F ks ((D.str y, d0) :: kvs.map fun p => (D.str p.1, p.2)) := r
    generalize hk : D.str y = dk at r'
    cases r' with
    | @cons k v vs d ds rv rr =>
      cases k with
      | inl n => cases hk
      | inr z =>
        have ez : y = z := by injection hk
        subst ez
        obtain ⟨h1, h2⟩ := txt_look (x := x) rr
        by_cases c : x = y
        · subst c
          have e : valV ((Sum.inr x, v) :: vs) (.inr x : Key) = some v := valV_pos rfl
          refine ⟨fun d h => ?_, fun h => ?_⟩
          · rw [List.lookup_cons_self] at h
            cases h
            exact ⟨v, e, rv⟩
          · rw [List.lookup_cons_self] at h
            cases h
        · have e : valV ((Sum.inr y, v) :: vs) (.inr x : Key) = valV vs (.inr x) := by
            have ne : ¬ ((Sum.inr y : Key) = .inr x) := fun z => c (by injection z with z; exact z.symm)
            simp [valV, List.find?_cons, ne]
          have el : ((y, d0) :: kvs).lookup x = kvs.lookup x := by
            rw [List.lookup_cons]
            have : (x == y) = false := by simpa using c
            rw [this]
          rw [e, el]
          exact ⟨h1, h2⟩
end
section
variable {X : Cx} {B : Bs} {K : PySem.W.Frag} {F H : Hp} {σ : L2.St} {δ : SD} {G : Gm} {k1 k2 v1 v2 o i e : Expr} {tk tv tk2 tv2 to ti te : TED} {pos : Pos}
def txtF (kvs : List (Str × D)) : D := .dif (kvs.map fun p => (.str p.1, p.2))
def kdT (kvs : List (Str × D)) : List (D × D) := kvs.map fun p => (.str p.1, p.2)
def dTGetF (to ti : TED) : TED := fun δ G Q => to δ G fun d G1 => ti δ G1 fun k G2 => ∃ kvs x v, d = txtF kvs ∧ k = .str x ∧ kvs.lookup x = some v ∧ Q v G2
theorem de_tgetF (hu : X.A.units + 1 < cLine) (ho : DE X B o to) (hi : DE X B i ti) (hs : NoSl i) : DE X B (.Subscript o i pos) (dTGetF to ti) :=
  PE.weak (pe_dget hu ho hi hs) fun σ H Q ⟨F, G, δ, Qd, S, h, kk⟩ => ⟨F, G, δ, _, S, h, fun x H1 ⟨F1, G1, d, s1, S1, r1, h1⟩ => ⟨F1, G1, δ, _, S1, h1, fun y H2 ⟨F2, G2, k, s2, S2, r2, kvs, z, v, ed, ek, hl, q⟩ => by
    subst ed ek
    cases r2
    cases r1 with
    | df rd rk =>
      obtain ⟨v', e, rv⟩ := (txt_look (x := z) (rk.mono s2)).1 v hl
      exact ⟨_, v', rfl, .inl ⟨_, .inr z, .inr ⟨_, S2.ds.sub _ _ (s2 _ _ rd)⟩, rfl, e.symm⟩, kk _ _ ⟨F2, G2, _, s1.trans s2, S2, rv, q⟩⟩⟩⟩
end
end JP
namespace TXS
open PySem PySem.Spec PyProof.Rows L2
/-- what a text's entry is -/
def txOf (q : Int × Value) : Str := match q.2 with | .str x _ => x | _ => Str.empty
def TxE (w : World) (q : Int × Value) : Prop := ∃ x u, q.2 = Value.str x u ∧ q.1 = hashStr w x
/-- the set of the texts l at a: its table rises, it can be walked -/
def TxSet (w : World) (h : Heap) (a : Addr) (l : List Str) : Prop :=
  ∃ ob rows ep tb, h.get? a = some ob ∧ ob.ExactSet ∧ ob.data = .set rows ep tb ∧ (∀ q ∈ rows.toList, TxE w q) ∧ (rows.toList.map txOf).Perm l ∧ l.Nodup ∧ rows.size < scanBound ∧ tb.fits rows.size = true ∧ Ris tb.place.toList ∧ (w.params.followText "set-order" = true ∨ tb.led = true)
section
variable {P : Program} {w : World} {h h' : Heap} {a : Addr} {l : List Str}
theorem TxSet.keep (R : TxSet w h a l) (k : ∀ ob, h.get? a = some ob → h'.get? a = some ob) : TxSet w h' a l := by
  obtain ⟨ob, rows, ep, tb, q, rest⟩ := R
  exact ⟨ob, rows, ep, tb, k ob q, rest⟩
end
end TXS
namespace JP
open PySem PySem.Spec PyProof.Rows L2
mutual
/-- e in the place of the address a -/
def selfD (a : Addr) (e : D) : D → D
  | .adr b => if b = a then e else .adr b
  | .tup ds => .tup (selfDs a e ds)
  | .lst ds => .lst (selfDs a e ds)
  | .ins C fs => .ins C (selfDf a e fs)
  | .non => .non
  | .bl b => .bl b
  | .int i => .int i
  | .str x => .str x
  | .ty n => .ty n
  | .scr ns => .scr ns
  | .exc C fs => .exc C fs
  | .dic kvs => .dic kvs
  | .dit kvs => .dit kvs
  | .dif kvs => .dif kvs
  | .dln hf kvs => .dln hf kvs
  | .dlb hf kvs => .dlb hf kvs
  | .ptu ds => .ptu ds
def selfDs (a : Addr) (e : D) : List D → List D
  | [] => []
  | d :: ds => selfD a e d :: selfDs a e ds
def selfDf (a : Addr) (e : D) : List (Str × D) → List (Str × D)
  | [] => []
  | (f, d) :: fs => (f, selfD a e d) :: selfDf a e fs
end
section
variable {K : PySem.W.Frag} {F : Hp} {a : Addr} {e : D}
theorem selfDf_names : ∀ {fs : List (Str × D)} {p : Str × D}, p ∈ selfDf a e fs → ∃ d, (p.1, d) ∈ fs
  | [], _, h => by cases h
  | (f, d) :: fs, p, h => by
    unfold selfDf at h
    rcases List.mem_cons.mp h with rfl | h
    · exact ⟨d, List.mem_cons_self⟩
    · obtain ⟨d', h'⟩ := selfDf_names h
      exact ⟨d', List.mem_cons_of_mem _ h'⟩
mutual
theorem Rep.sub (he : Rep K F (.ref a) e) : ∀ {v : V} {d : D}, Rep K F v d → Rep K F v (selfD a e d)
  | _, _, .adr b => by
    unfold selfD
    split
    · rename_i h
      rw [h]
      exact he
    · exact .adr b
  | _, _, .tup h r => by unfold selfD; exact .tup h (RepAll.sub he r)
  | _, _, .lst h r => by unfold selfD; exact .lst h (RepAll.sub he r)
  | _, _, .ins h g n r => by
    unfold selfD
    exact .ins h g (fun p hp => let ⟨d, hd⟩ := selfDf_names hp; n (p.1, d) hd) (RepF.sub he r)
  | _, _, .non => by unfold selfD; exact .non
  | _, _, .bl b => by unfold selfD; exact .bl b
  | _, _, .int i => by unfold selfD; exact .int i
  | _, _, .str x => by unfold selfD; exact .str x
  | _, _, .ty n => by unfold selfD; exact .ty n
  | _, _, .scr h => by unfold selfD; exact .scr h
  | _, _, .exc h g r => by unfold selfD; exact .exc h g r
  | _, _, .dk h r => by unfold selfD; exact .dk h r
  | _, _, .dt h r => by unfold selfD; exact .dt h r
  | _, _, .df h r => by unfold selfD; exact .df h r
  | _, _, .dn h k r => by unfold selfD; exact .dn h k r
  | _, _, .db h r => by unfold selfD; exact .db h r
  | _, _, .pt h e r => by unfold selfD; exact .pt h e r
theorem RepAll.sub (he : Rep K F (.ref a) e) : ∀ {vs : List V} {ds : List D}, RepAll K F vs ds → RepAll K F vs (selfDs a e ds)
  | _, _, .nil => by unfold selfDs; exact .nil
  | _, _, .cons h r => by unfold selfDs; exact .cons (Rep.sub he h) (RepAll.sub he r)
theorem RepF.sub (he : Rep K F (.ref a) e) : ∀ {vs : List (Str × V)} {ds : List (Str × D)}, RepF K F vs ds → RepF K F vs (selfDf a e ds)
  | _, _, .nil => by unfold selfDf; exact .nil
  | _, _, .cons h r => by unfold selfDf; exact .cons (Rep.sub he h) (RepF.sub he r)
end
end
end JP
namespace JP
open PySem PySem.Spec PyProof.Rows L2
def putT (kvs : List (Str × D)) (x : Str) (d : D) : List (Str × D) := if (kvs.any fun p => decide (p.1 = x)) = true then kvs.map (fun p => if p.1 = x then (p.1, d) else p) else kvs ++ [(x, d)]
section
variable {K : PySem.W.Frag} {F : Hp}
theorem repK_cons {x : Str} {d : D} {kvs : List (Str × D)} {ks : List (Key × V)} (r : RepK K F ks (kdT ((x, d) :: kvs))) : ∃ v r', ks = (.inr x, v) :: r' ∧ Rep K F v d ∧ RepK K F r' (kdT kvs) := by
  have r' : RepK K F ks ((D.str x, d) :: kdT kvs) := r
  generalize hk : D.str x = dk at r'
  cases r' with
  | @cons k v vs d ds rv rr =>
    cases k with
    | inl n => cases hk
    | inr z =>
      have ez : x = z := by injection hk
      subst ez
      exact ⟨v, vs, rfl, rv, rr⟩
theorem repK_any {x : Str} : ∀ {kvs : List (Str × D)} {ks : List (Key × V)}, RepK K F ks (kdT kvs) → (ks.any fun q => decide (q.1 = (.inr x : Key))) = kvs.any fun p => decide (p.1 = x)
  | [], _, r => by cases r; rfl
  | (y, d) :: kvs, ks, r => by
    obtain ⟨v, r', rfl, _, rr⟩ := repK_cons r
    rw [List.any_cons, List.any_cons, repK_any rr]
    have : decide ((Sum.inr y : Key) = .inr x) = decide (y = x) := decide_eq_decide.mpr ⟨fun h => by injection h, fun h => by rw [h]⟩
    rw [this]
theorem repK_map {x : Str} {v : V} {d : D} (rv : Rep K F v d) : ∀ {kvs : List (Str × D)} {ks : List (Key × V)}, RepK K F ks (kdT kvs) → RepK K F (ks.map fun q => if q.1 = (.inr x : Key) then (q.1, v) else q) (kdT (kvs.map fun p => if p.1 = x then (p.1, d) else p))
  | [], _, r => by cases r; exact .nil
  | (y, e) :: kvs, ks, r => by
    obtain ⟨u, r', rfl, ru, rr⟩ := repK_cons r
    have ih := repK_map (x := x) rv rr
    rw [List.map_cons, List.map_cons]
    by_cases c : y = x
    · rw [if_pos (show (Sum.inr y : Key) = .inr x by rw [c]), if_pos c]
      exact .cons (k := .inr y) rv ih
    · rw [if_neg (fun h => c (by injection h)), if_neg c]
      exact .cons (k := .inr y) ru ih
theorem repK_app {x : Str} {v : V} {d : D} (rv : Rep K F v d) : ∀ {kvs : List (Str × D)} {ks : List (Key × V)}, RepK K F ks (kdT kvs) → RepK K F (ks ++ [(.inr x, v)]) (kdT (kvs ++ [(x, d)]))
  | [], _, r => by cases r; exact .cons (k := .inr x) rv .nil
  | (y, e) :: kvs, ks, r => by
    obtain ⟨u, r', rfl, ru, rr⟩ := repK_cons r
    exact .cons (k := .inr y) ru (repK_app rv rr)
theorem repK_put {x : Str} {v : V} {d : D} (rv : Rep K F v d) {kvs : List (Str × D)} {ks : List (Key × V)} (r : RepK K F ks (kdT kvs)) : RepK K F (putK ks (.inr x) v) (kdT (putT kvs x d)) := by
  unfold putK putT
  rw [repK_any r]
  split
  · exact repK_map rv r
  · exact repK_app rv r
end
section
variable {X : Cx} {B : Bs} {K : PySem.W.Frag} {o i value e : Expr} {to ti tv te : TED} {pos pos' p1 : Pos}
theorem repK_len {F : Hp} : ∀ {kvs : List (D × D)} {ks : List (Key × V)}, RepK K F ks kvs → ks.length = kvs.length
  | _, _, .nil => rfl
  | _, _, .cons _ r => congrArg (· + 1) (repK_len r)
end
end JP
namespace JP
open PySem PySem.Spec PyProof.Rows L2
def stX : StK := fun H D y z H' => ∃ (kvs : List (Key × V)) (x : Str), y = .str x ∧ H D = some (.dK kvs) ∧ kvs.length < sizeLine ∧ H' = upd H D (.dK (putK kvs (.inr x) z))
theorem dicK_X {P : Program} {w : World} : DicK P w 1 (fun _ => .dK []) stX where
  new := fun H h hb => dk_empty h hb
  put := by
    intro X pins σ H H' s E D y z k r Q eP ew hu I ry rz hst h
    subst eP ew
    obtain ⟨kvs, x, ey, eD, l, eH⟩ := hst
    subst ey eH
    exact d_dictSet (k := .inr x) I eD l ry rz h
def dcX (g : TGD) (tt : TTD) (tk tv : TED) (Fin : List (Str × D) → Gm → Prop) (δ : SD) : List D → List (Str × D) → Gm → Prop
  | [], acc, G => Fin acc G
  | d :: ds, acc, G => g d δ G fun δ1 G1 => tt δ1 G1 fun b G2 => match b with
    | true => tk δ1 G2 fun y G3 => tv δ1 G3 fun z G4 => ∃ x, y = .str x ∧ dcX g tt tk tv Fin δ ds (putT acc x z) G4
    | false => dcX g tt tk tv Fin δ ds acc G2
def dDcX (ti : TID) (g : TGD) (tt : TTD) (tk tv : TED) (vs : List Nat) : TED := fun δ G Q => ti δ G fun ds G1 => ds.length ≤ 1000 ∧ dcX g tt tk tv (fun acc G => Q (txtF acc) G) (wipeD δ vs) ds [] G1
theorem len_putT (kvs : List (Str × D)) (x : Str) (d : D) : (putT kvs x d).length ≤ kvs.length + 1 := by
  unfold putT
  split <;> simp
section
variable {K : PySem.W.Frag} {B : Bs}
theorem kdT_len (kvs : List (Str × D)) : (kdT kvs).length = kvs.length := by rw [kdT, List.length_map]
theorem dcX_adeq {ti : TID} {gV : TG} {g : TGD} {tt : TTD} {tk tv : TED} {vs : List Nat} (hg : CG K vs gV g) (σ : L2.St) (H : Hp) (Q : VK) (h : up K B (dDcX ti g tt tk tv vs) σ H Q) :
    tDcG (fun _ => .dK []) stX (upI K B ti) gV (upTU K tt) (upU K tk) (upU K tv) vs σ H (fun x H1 => ∃ a u, x = .ref a ∧ H1 a = some u ∧ Mut (some u) ∧ ∀ o, Q x (upd H1 a (.frz o u))) := by
  obtain ⟨F, G, δ, Qd, S, h, k⟩ := h
  refine ⟨F, G, δ, _, S, h, fun J H1 ⟨F1, G1, ds, s1, S1, it, hz, h1⟩ D nD => ?_⟩
  have fD : F1 D = none := S1.ds.noF nD
  have zD : B.Z D = none := S1.ds.noZ nD
  refine ⟨fun i m H' => m = ds.length - i ∧ i ≤ ds.length ∧ ∃ F' G' acc av, Same F1 F' ∧ F' D = none ∧ G' D = none ∧ H' D = some (.dK av) ∧ RepK K F' av (kdT acc) ∧ acc.length ≤ i ∧ Sit K B σ H' F' δ G' ∧ dcX g tt tk tv (fun acc G => Qd (txtF acc) G) (wipeD δ vs) (ds.drop i) acc G',
    ⟨ds.length, by simp, Nat.zero_le _, F1, G1, [], [], .refl F1, fD, S1.ds.noG nD, upd_same, .nil, Nat.le_refl _, S1.same (same_new nD), h1⟩, ?_⟩
  rintro i m H2 ⟨rfl, hi, F2, G2, acc, av, s2, f2, g2, h2D, ra, la, S2, h2⟩
  have sh : Same F1 H2 := s2.trans S2.ds.sub
  rcases Nat.lt_or_ge i ds.length with hlt | hge
  · refine .inr ⟨it.go i H2 hlt sh, fun H' => ∃ F' G' acc av, Same F1 F' ∧ F' D = none ∧ G' D = none ∧ H' D = some (.dK av) ∧ RepK K F' av (kdT acc) ∧ acc.length ≤ i + 1 ∧ Sit K B σ H' F' δ G' ∧ dcX g tt tk tv (fun acc G => Qd (txtF acc) G) (wipeD δ vs) (ds.drop (i + 1)) acc G', fun H' q => ⟨ds.length - (i + 1), by omega, rfl, hlt, q⟩, fun x H3 y => ?_⟩
    obtain ⟨F3, d, s3, S3, hd, rd⟩ := it.yld i H2 x H3 hlt sh y ⟨F1, upd B.Z D (.dK av), B.T⟩ σ δ G2 F2 ⟨S2.ds.zadd h2D f2 g2 trivial, s2, S2.sl⟩ s2
    rw [drop_get hd] at h2
    have Sw : Sit K ⟨F1, upd B.Z D (.dK av), B.T⟩ (wipe σ vs) H3 F3 (wipeD δ vs) G2 := ⟨S3.ds, S3.gr, S3.sl.wipe vs⟩
    refine hg _ _ _ _ _ _ _ _ _ _ Sw rd h2 fun σ4 δ4 e4 S4 h4 => ⟨?_, ⟨F1, upd B.Z D (.dK av), B.T⟩, F3, G2, δ4, _, S4, h4, fun b H5 ⟨F5, G5, s5, S5, h5⟩ => ?_⟩
    · have ww : ∀ (us : List Nat) (σ : L2.St), (∀ u ∈ us, u ∈ vs) → wipe (wipe σ us) vs = wipe σ vs := by
        intro us
        induction us with
        | nil => intro σ _; rfl
        | cons u us ih =>
          intro σ hu
          show wipe ((wipe σ us).set u none) vs = wipe σ vs
          rw [wipe_set (hu u List.mem_cons_self)]
          exact ih σ fun v hv => hu v (List.mem_cons_of_mem _ hv)
      exact e4.trans (ww vs σ fun u hu => hu)
    · cases b with
      | false =>
        obtain ⟨d5, h5D, f5, g5⟩ := S5.ds.zdel zD
        exact ⟨F5, G5, acc, av, (s2.trans s3).trans s5, f5, g5, h5D, ra.mono (s3.trans s5), by omega, ⟨d5, S2.gr.trans (s3.trans s5), S2.sl.mono (s3.trans s5)⟩, h5⟩
      | true =>
        refine ⟨⟨F1, upd B.Z D (.dK av), B.T⟩, F5, G5, δ4, _, S5, h5, fun y H6 ⟨F6, G6, dy, s6, S6, r6, h6⟩ => ?_⟩
        refine ⟨⟨F1, upd B.Z D (.dK av), B.T⟩, F6, G6, δ4, _, S6, h6, fun z H7 ⟨F7, G7, dz, s7, S7, r7, x, ex, h7⟩ => ?_⟩
        obtain ⟨d7, h7D, f7, g7⟩ := S7.ds.zdel zD
        have st := ((s3.trans s5).trans s6).trans s7
        subst ex
        cases r6
        have rn : RepK K F7 (putK av (.inr x) z) (kdT (putT acc x dz)) := repK_put r7 (ra.mono st)
        refine ⟨_, ⟨av, x, rfl, h7D, small_size (by rw [repK_len ra, kdT_len]; omega), rfl⟩, F7, G7, putT acc x dz, putK av (.inr x) z, s2.trans st, f7, g7, upd_same, rn, ?_, ⟨d7.other h7D f7 g7 zD, S2.gr.trans st, S2.sl.mono st⟩, h7⟩
        have := len_putT acc x dz
        omega
  · have e : i = ds.length := by omega
    subst e
    rw [List.drop_length] at h2
    refine .inl ⟨it.stop H2 sh, D, _, rfl, h2D, trivial, fun o => k _ _ ?_⟩
    obtain ⟨d3, s3⟩ := (S2.ds.other (o := .frz o (.dK av)) h2D f2 g2 zD).frz upd_same g2 zD
    exact ⟨_, G2, txtF acc, (s1.trans s2).trans s3, ⟨d3, S2.gr.trans s3, S2.sl.mono s3⟩, .df upd_same (ra.mono s3), h2⟩
end
section
variable {X : Cx} {B : Bs} {kx vx tg iter : Expr} {ifs : List Expr} {scope : Scope} {own : List (Str × Nat)} {pos : Pos} {ti : TID} {gV : TG} {g : TGD} {tt : TTD} {tk tv : TED}
theorem de_dcX (hu : X.A.units + 1 < cLine) (hc : X.calm = true) (hN : X.N.Nodup) (hi : DI X B tg iter ti) (ok : BlkOk X.N X.env.scope scope own)
    (hcg : CG X.K (own.map (·.2)) gV g)
    (hg : ∀ (s : Shared) (H : Hp) (C : Addr) (cl : List (Str × Addr)) (fp : List Addr), PG (X.blk s H scope (compEnvC scope cl C X.env) fp) tg gV)
    (ht : ∀ (s : Shared) (H : Hp) (C : Addr) (cl : List (Str × Addr)) (fp : List Addr) (B : Bs), DTs (X.blk s H scope (compEnvC scope cl C X.env) fp) B ifs tt)
    (hk : ∀ (s : Shared) (H : Hp) (C : Addr) (cl : List (Str × Addr)) (fp : List Addr) (B : Bs), DE (X.blk s H scope (compEnvC scope cl C X.env) fp) B kx tk)
    (he : ∀ (s : Shared) (H : Hp) (C : Addr) (cl : List (Str × Addr)) (fp : List Addr) (B : Bs), DE (X.blk s H scope (compEnvC scope cl C X.env) fp) B vx tv) (hs : ∀ x, foldedSetIterable iter X.env x = pure x := by intro _; rfl) :
    DE X B (.DictComp kx vx [⟨tg, iter, ifs, 0⟩] scope pos) (dDcX ti g tt tk tv (own.map (·.2))) :=
  PE.weak (pe_frz (pe_dcG dicK_X hu hc hN hi ok hg (fun s H C cl fp => ⟨fun pins s σ H Q I ⟨B, h⟩ => (ht _ _ C cl fp B).run pins s σ H Q I h⟩) (fun s H C cl fp => ⟨fun pins s σ H Q I ⟨B, h⟩ => (hk _ _ C cl fp B).run pins s σ H Q I h⟩) (fun s H C cl fp => ⟨fun pins s σ H Q I ⟨B, h⟩ => (he _ _ C cl fp B).run pins s σ H Q I h⟩) hs)) fun σ H Q h => dcX_adeq hcg σ H Q h
end
end JP
namespace JP
open PySem PySem.W PySem.Spec PySem.Calls PyProof.Rows L2
section
variable {X : Cx} {n : Nat} {D : Eqv}
/-- xs != ys, the items equal pair by pair -/
def rNeG (K : PySem.W.Frag) (D : Eqv) : R2 := fun x y H Q => ∃ l b xs ys, x = .ref l ∧ y = .ref b ∧ SqL K H l xs ∧ SqL K H b ys ∧ Prs D xs ys H ∧ ∀ H', Ext H H' → Q (.bl false) H'
theorem op_neG (hD : Mon D) (hE : EqG X n D) (hr : Room (n + 1) X.A) : OpR X (compareOp .NotEq) (rNeG X.K D) := by
  intro pins s σ H x y v u Q I rx ry h
  obtain ⟨l, b, xs, ys, rfl, rfl, hl, hb, p, q⟩ := h
  obtain rfl : v = Value.ref l := rx
  obtain rfl : u = Value.ref b := ry
  show wpAny (model X.prog X.w) X.A (richCompare .NotEq (.ref l) (.ref b)) (EP X pins σ Q) X.xe s
  refine NQ.rcNe_listG (N := xs.length) hr.units0 (fun _ s' => LoopI X pins σ H s') (fun i s' e => ?_) (fun s' e => ?_) ⟨H, I, Ext.rfl'⟩
  · obtain ⟨H1, I1, e1⟩ := id e
    obtain ⟨its, r1, ⟨o1, n1, g1, c1, _, d1⟩, z1⟩ := I1.list (hl.ext e1)
    obtain ⟨its2, r2, ⟨o2, n2, g2, c2, _, d2⟩, z2⟩ := I1.list (hb.ext e1)
    refine ⟨o1, o2, its.toArray, its2.toArray, _, _, g1, c1, d1, g2, c2, d2, by rw [List.size_toArray, ← r1.length], by rw [List.size_toArray, ← r2.length, ← p.1], fun h1 h2 => ?_⟩
    exact turnG hD hE ⟨hr, rfl⟩ p r1 r2 i h1 h2 s' e
  · obtain ⟨H1, I1, e1⟩ := e
    exact ⟨.bl false, H1, I1, rfl, q H1 e1⟩
end
end JP
namespace JP
open PySem PySem.Spec PyProof.Rows L2
abbrev KvB := List (List D × D)
def getB (kvs : KvB) (k : Row) : Option D := (kvs.find? fun p => decide (lfsB p.1 = some k)).map (·.2)
def putB (kvs : KvB) (k : Row) (kd : List D) (d : D) : KvB := if (getB kvs k).isSome = true then kvs.map (fun p => if lfsB p.1 = some k then (p.1, d) else p) else kvs ++ [(kd, d)]
section
variable {K : PySem.W.Frag} {F : Hp}
theorem RepB.len : ∀ {es : EntN} {ds : KvB}, RepB K F es ds → es.length = ds.length
  | _, _, .nil => rfl
  | _, _, .cons _ _ _ _ r => congrArg (· + 1) (RepB.len r)
theorem getB_cons {kd : List D} {d : D} {ds : KvB} {k : Row} : getB ((kd, d) :: ds) k = if lfsB kd = some k then some d else getB ds k := by
  unfold getB
  rw [List.find?_cons]
  by_cases e : lfsB kd = some k
  · simp [e]
  · simp [e]
theorem valN_cons {k' : Row} {b : Addr} {v : V} {es : EntN} {k : Row} : valN ((k', b, v) :: es) k = if k' = k then some v else valN es k := by
  unfold valN
  rw [List.find?_cons]
  by_cases e : k' = k
  · simp [e]
  · simp [e]
theorem RepB.has {k : Row} : ∀ {es : EntN} {ds : KvB}, RepB K F es ds → (valN es k).isSome = (getB ds k).isSome
  | _, _, .nil => rfl
  | _, _, .cons (k := k') _ _ l _ r => by
    rw [valN_cons, getB_cons, l]
    by_cases e : k' = k
    · rw [if_pos e, if_pos (congrArg some e)]; rfl
    · rw [if_neg e, if_neg fun z => e (Option.some.inj z)]
      exact RepB.has r
theorem RepB.get {k : Row} {d : D} : ∀ {es : EntN} {ds : KvB}, RepB K F es ds → getB ds k = some d → ∃ v, valN es k = some v ∧ Rep K F v d
  | _, _, .nil, h => by cases h
  | _, _, .cons (k := k') (v := v) _ _ l rv r, h => by
    rw [getB_cons, l] at h
    rw [valN_cons]
    by_cases e : k' = k
    · rw [if_pos (congrArg some e)] at h
      rw [if_pos e]
      cases h
      exact ⟨v, rfl, rv⟩
    · rw [if_neg fun z => e (Option.some.inj z)] at h
      rw [if_neg e]
      exact RepB.get r h
theorem RepB.repl {k : Row} {v : V} {d : D} (rv : Rep K F v d) : ∀ {es : EntN} {ds : KvB}, RepB K F es ds → RepB K F (es.map fun p => if p.1 = k then (p.1, p.2.1, v) else p) (ds.map fun p => if lfsB p.1 = some k then (p.1, d) else p)
  | _, _, .nil => .nil
  | _, _, .cons (k := k') (kd := kd) e0 ra l r rs => by
    rw [List.map_cons, List.map_cons]
    by_cases e : k' = k
    · rw [if_pos e, if_pos (show lfsB kd = some k by rw [l, e])]
      exact .cons e0 ra l rv (RepB.repl rv rs)
    · rw [if_neg e, if_neg (show ¬ lfsB kd = some k from fun z => e (Option.some.inj (l.symm.trans z)))]
      exact .cons e0 ra l r (RepB.repl rv rs)
theorem RepB.app : ∀ {es fs : EntN} {ds gs : KvB}, RepB K F es ds → RepB K F fs gs → RepB K F (es ++ fs) (ds ++ gs)
  | _, _, _, _, .nil, q => q
  | _, _, _, _, .cons e ra l r rs, q => .cons e ra l r (RepB.app rs q)
theorem RepB.put {k : Row} {b : Addr} {v : V} {d : D} {vs : List V} {kd : List D} {es : EntN} {ds : KvB} (r : RepB K F es ds) (e : F b = some (.tup vs)) (ra : RepAll K F vs kd) (l : lfsB kd = some k) (rv : Rep K F v d) : RepB K F (putN es k b v) (putB ds k kd d) := by
  unfold putN putB
  rw [r.has (k := k)]
  by_cases q : (getB ds k).isSome = true
  · rw [if_pos q, if_pos q]
    exact .repl rv r
  · rw [if_neg q, if_neg q]
    exact r.app (.cons e ra l rv .nil)
end
end JP
namespace TXS
open PySem PySem.Spec PyProof.Rows L2
end TXS
namespace JP
open PySem PySem.Spec PyProof.Rows L2
section
variable {X : Cx} {pos : Pos} {es : List Expr} {t : TA}
/-- isinstance(t, T) of such a tuple, or of what is of a type -/
def rIsiP (K : PySem.W.Frag) : List V → Hp → VK → Prop := fun xs H Q => ∃ (a : Addr) (o : Obj) (vs : List V) (j : Ki), xs = [.ref a, .ty j.name] ∧ H a = some (.frz o (.tup vs)) ∧ Q (.bl (Ki.tup.below j)) H
theorem call_isiP : CallR X (.builtin "isinstance") (fun xs H Q => rIsi X.K xs H Q ∨ rIsiP X.K xs H Q) := by
  intro pins s σ H xs us Q I r h
  rcases h with h | ⟨a, o, vs, j, rfl, e, q⟩
  · exact call_isi _ _ _ _ _ _ _ I r h
  · obtain ⟨u1, u2, rfl, r1, r2⟩ := vals2 r
    cases (show u1 = Value.ref a from r1)
    cases (show u2 = Value.type j.name from r2)
    obtain ⟨hg, hz, its, rv, o', ho', hc, n, hdat⟩ := (show ObjOk X.prog X.w H s.heap a (.frz o (.tup vs)) from I.hok a _ e)
    exact PySem.W.kia_one PySem.W.kitx_tuple I.kIn ⟨o', ho', hc⟩ (ki_kit .tup j) (fun z => nomatch z) fun tk => ⟨.bl _, H, I.tok tk, rfl, q⟩
end
end JP
namespace JP
open PySem PySem.Spec PyProof.Rows L2
section
variable {X : Cx} {B : Bs} {K : PySem.W.Frag} {e : Expr} {es : List Expr} {te : TED} {t : TAD} {pos p : Pos}
def dIsKP (j : Ki) (te : TED) : TED := fun δ G Q => te δ G fun d G1 => match d with | .ptu _ => Q (.bl (Ki.tup.below j)) G1 | _ => match isK d G1 j with | some b => Q (.bl b) G1 | none => False
theorem de_isKP {c : Expr} {j : Ki} (hg : Gl X "isinstance") (hm : X.mg "isinstance" = none) (hv : bootBuiltins "isinstance" = some (.builtin "isinstance")) (ha : DE X B e te) (hc : PE X c (tC (.ty j.name)))
    (h1 : starEach [e, c] X.env = (false, eval e X.env) :: starEach [c] X.env := by rfl) (h2 : starEach [c] X.env = (false, eval c X.env) :: starEach [] X.env := by rfl) (hpl : (backTo pos (starEach [c] X.env)).any (·.1) = false := by rfl) :
    DE X B (.Call (.Name "isinstance" p) [e, c] [] pos) (dIsKP j te) :=
  PE.weak (pe_callB call_isiP hg hm hv (pa_cons ha (pa_cons hc pa_nil h2) h1) (he := h1) (hpl := hpl)) fun σ H Q ⟨F, G, δ, Qd, S, h, k⟩ => ⟨F, G, δ, _, S, h, fun v H1 ⟨F1, G1, d, s1, S1, r1, h1⟩ => by
    have plain : (match isK d G1 j with | some b => Qd (.bl b) G1 | none => False) → rIsi X.K [v, .ty j.name] H1 Q := fun h1 => by
      cases q : isK d G1 j with
      | none => simp only [q] at h1
      | some b =>
        simp only [q] at h1
        obtain ⟨t, ty, kt⟩ := isK_ty S1 r1 q
        exact ⟨v, .ty _, t, _, b, rfl, .ty _, ty, kt, k _ _ ⟨F1, G1, _, s1, S1, .bl b, h1⟩⟩
    cases d with
    | ptu ds =>
      cases r1 with
      | pt q hd ra => exact .inr ⟨_, _, _, j, rfl, S1.ds.sub _ _ q, k _ _ ⟨F1, G1, _, s1, S1, .bl _, h1⟩⟩
    | _ => exact .inl (plain h1)⟩
end
end JP
namespace JP
open PySem PySem.Spec PyProof.Rows L2
section
variable {X : Cx} {B : Bs} {K : PySem.W.Frag} {a b : Expr} {ta tb : TED} {pos : Pos}
variable {k : Nat} {C g : Addr} {fd : FuncData} {ps : List Str} {sp : SpD} {W : WD}
def boolD : LD := fun ds G Q => match ds with | [.bl c] => Q (.bl c) G | _ => False
theorem bool_A : CallA K (fun xs H Q => (∃ i, xs = [.int i] ∧ Q (.bl (i != 0)) H) ∨ ∃ k, xs = [.bl k] ∧ Q (.bl k) H) boolD := fun B σ δ H F G xs ds Qd Q S r h k => by
  unfold boolD at h
  split at h
  · obtain ⟨v, rfl, rv⟩ := repAll1 r
    rw [rep_bl rv]
    exact .inr ⟨_, rfl, k _ _ (.val S (.bl _) h)⟩
  · exact h.elim
end
end JP
namespace JP
open PySem PySem.Spec PyProof.Rows L2
section
variable {X : Cx} {CX : CXT} {k : Nat} {C g : Addr} {fd : FuncData} {ps : List Str} {sp : Sp} {E : XK}
def rTruO (C : Addr) (sp : Sp) (E : XK) : V → Hp → (Bool → Hp → Prop) → Prop := fun x H Q => ∃ a dx fs, x = .ref a ∧ H a = some (.ins C dx fs) ∧ sp [.ref a] H (fun z H' => ∃ b, z = .bl b ∧ Q b H') E
theorem tru_own (M : OwnM X.K C "__bool__" g) (F : FnOk X.prog X.w X.K X.mg X.base CX k g fd ps sp) (hb : Binds X.K fd ps []) (hr : Room k X.A) (hx : Passes CX X E) : TruR X (rTruO C sp E) := by
  intro pins s σ H x v Q I r h
  obtain ⟨a, dx, fs, rfl, ha, q⟩ := h
  cases r
  obtain ⟨ox, od, J⟩ := ins_inst I ha
  have inner := call_at (A := X.A) (us := [.ref a]) (vs := [.ref a]) F hb hr hx I I.env0 (.cons rfl .nil) q
  unfold truthy
  refine wpAny_bind (m := callSpecial? (.ref a) (Str.ofString "__bool__")) (PySem.W.special_fn I.kIn J M.at_ (beq_iff_eq.mp M.fn) (wpAny_mono inner (fun v s' z => ?_) fun _ _ x => x))
  obtain ⟨z', H', I', rz, b, ez, qz⟩ := z
  subst ez
  obtain rfl : v = Value.bool b := rz
  exact wpAny_pure ⟨H', I', qz⟩
end
end JP
namespace JP
open PySem PySem.Spec PyProof.Rows L2
section
variable {X : Cx} {CX : CXT} {k : Nat} {C g : Addr} {fd : FuncData} {ps : List Str} {sp : Sp} {E : XK} {A : Around} {a : Expr} {ta : TE} {pos : Pos}
theorem tru_ownA (M : OwnM X.K C "__bool__" g) (F : FnOk X.prog X.w X.K X.mg X.base CX k g fd ps sp) (hb : Binds X.K fd ps []) (hr : Room k A) (hx : Passes CX X E) {pins : List (Addr × Obj)} {s : Shared} {σ : L2.St} {H : Hp} {x : V} {v : Value} {Q : Bool → Hp → Prop} (I : Inv X pins σ H s) (hE : Env0 X.prog X.w X.K X.mg X.base A X.stack s H) (r : RelV x v) (h : rTruO C sp E x H Q) :
    wpAny (model X.prog X.w) A (truthy v) (TP X pins σ Q) X.xe s := by
  obtain ⟨a, dx, fs, rfl, ha, q⟩ := h
  cases r
  obtain ⟨ox, od, J⟩ := ins_inst I ha
  have inner := call_at (A := A) (us := [.ref a]) (vs := [.ref a]) F hb hr hx I hE (.cons rfl .nil) q
  unfold truthy
  refine wpAny_bind (m := callSpecial? (.ref a) (Str.ofString "__bool__")) (PySem.W.special_fn I.kIn J M.at_ (beq_iff_eq.mp M.fn) (wpAny_mono inner (fun v s' z => ?_) fun _ _ x => x))
  obtain ⟨z', H', I', rz, b, ez, qz⟩ := z
  subst ez
  obtain rfl : v = Value.bool b := rz
  exact wpAny_pure ⟨H', I', qz⟩
def tNotO (C : Addr) (sp : Sp) (E : XK) (ta : TE) : TE := fun σ H Q => ta σ H fun x H1 => rTruO C sp E x H1 fun b H2 => Q (.bl (!b)) H2
theorem pe_notO (M : OwnM X.K C "__bool__" g) (F : FnOk X.prog X.w X.K X.mg X.base CX k g fd ps sp) (hb : Binds X.K fd ps []) (hr : Room k X.A) (hx : Passes CX X E) (ha : PE X a ta) : PE X (.UnaryOp .Not a pos) (tNotO C sp E ta) := by
  refine ⟨fun pins s σ H Q I h => ?_⟩
  refine UnaryOp_ (thn (ha.run pins s σ H _ I h) fun v s1 ⟨x, H1, I1, r1, q1⟩ => ?_)
  refine not_of (wpAny_mono (tru_ownA M F hb hr hx I1 I1.env0 r1 q1) (fun b s' z => ?_) fun _ _ x => x)
  obtain ⟨H', I', q⟩ := z
  exact ⟨.bl (!b), H', I', rfl, q⟩
theorem meetsIn_bool {prog : Program} {w : World} (x : Value) : MeetsIn prog w (Builtin.«bool.__new__» ⟨[.type "bool", x], []⟩) (fun A R s => wpAny (model prog w) A.in1 (truthy x) (fun b s' => R (.ok (.ret (.bool b))) s') (fun e s' => R (.error e) s') s) :=
  MeetsIn.of_wp fun A R s hs => by
    have h2 := wpAny_mono hs (fun b s' h => (⟨_, rfl, h⟩ : ∃ v, PySem.Fin.done (PySem.Flow.ret (.bool b)) = .done (.ret v) ∧ R (.ok (.ret v)) s')) fun _ _ x => x
    obtain ⟨hp, g, d, tk, os⟩ := s
    have f1 := F.conv_sub_bool
    repeat (any_goals (first | assumption | wp_step))
    exact wpAny_mono h2 (fun b s' h => wpAny_pure h) fun _ _ x => x
/-- bool(x), x of an own class with __bool__ -/
theorem call_boolO (M : OwnM X.K C "__bool__" g) (Fn : FnOk X.prog X.w X.K X.mg X.base CX k g fd ps sp) (hb : Binds X.K fd ps []) (hr : Room (k + 2) X.A) (hx : Passes CX X E) : CallR X (.type "bool") (fun xs H Q => ∃ x, xs = [x] ∧ rTruO C sp E x H fun b H' => Q (.bl b) H') := by
  intro pins s σ H xs us Q I r h
  obtain ⟨x, rfl, q⟩ := h
  obtain ⟨u, rfl, ru⟩ := vals1 r
  refine callType_newIn F.called_bool F.newNe_bool (F.typeCall_bool_1 u) (F.newCall_bool_1 u) (fun obj => F.args_object_init_2 obj u) F.entry_bool_new (meetsIn_bool u) ?_
  refine wpAny_mono (tru_ownA (A := X.A.in1.in1) M Fn hb (Room.in1 (Room.in1 hr)) hx I I.env0.in1.in1 ru q) (fun b s' z => ?_) fun _ _ x => x
  obtain ⟨H', I', q⟩ := z
  exact ⟨rfl, .bl b, H', I', rfl, q⟩
end
end JP
namespace JP
open PySem PySem.Spec PyProof.Rows L2
section
variable {X : Cx} {B : Bs} {k : Nat} {C f : Addr} {fd : FuncData} {ps : List Str} {sp : SpD} {W : WD} {e : Expr} {te : TED} {t : TAD} {pos p : Pos}
def truOD (C : Addr) (sp : SpD) (W : WD) (d : D) (G : Gm) (Q : Bool → Gm → Prop) : Prop := match insD d G with | some (C', _) => C' = C ∧ sp [d] G (fun z G1 => match z with | .bl b => Q b G1 | _ => False) W | none => False
theorem truO_A {K : PySem.W.Frag} {σ : L2.St} {H F : Hp} {δ : SD} {G : Gm} {d : D} {v : V} {Q : Bool → Gm → Prop} {P : Bool → Hp → Prop} (S : Sit K B σ H F δ G) (r : Rep K F v d) (h : truOD C sp W d G Q) (kk : ∀ b H', (∃ F' G', Same F F' ∧ Sit K B σ H' F' δ G' ∧ Q b G') → P b H') : rTruO C (lowSp K sp) (XW K B W) v H P := by
  unfold truOD at h
  cases q : insD d G with
  | none => simp only [q] at h
  | some cf =>
    obtain ⟨C', fs⟩ := cf
    simp only [q] at h
    obtain ⟨rfl, h2⟩ := h
    obtain ⟨a, dx, fv, rfl, e1, gc, na, rf⟩ := ins_rep S r q
    refine ⟨a, dx, fv, rfl, e1, low_at S (.cons r .nil) h2 fun v H' ⟨F', G', d', s', S', r', q'⟩ => ?_⟩
    cases d' with
    | bl c =>
      cases r'
      exact ⟨c, rfl, kk _ _ ⟨F', G', s', S', q'⟩⟩
    | _ => exact q'.elim
def dTruO (C : Addr) (sp : SpD) (W : WD) (te : TED) : TTD := fun δ G Q => te δ G fun d G1 => truOD C sp W d G1 Q
theorem dt_truO (M : OwnM X.K C "__bool__" f) (Fn : FnD X.prog X.w X.K X.mg X.base k f fd ps sp) (hb : Binds X.K fd ps []) (hr : Room k X.A) (hx : Passes (L2.CX X.prog X.w) X (XW X.K B W)) (he : DE X B e te) (ht : ∀ whole, isTrue e X.env whole = (do let v ← whole; standAt e.pos; holding [v] (truthy v)) := by intro _; rfl) : DT X B e (dTruO C sp W te) :=
  PT.weak (pt_truthR he (tru_own M Fn hb hr hx) ht) fun σ H Q ⟨F, G, δ, Qd, S, h, k⟩ => ⟨F, G, δ, _, S, h, fun v H1 ⟨F1, G1, d, s1, S1, r1, h1⟩ =>
    truO_A S1 r1 h1 fun b H' ⟨F', G', s', S', q'⟩ => k b H' ⟨F', G', s1.trans s', S', q'⟩⟩
def dNotO (C : Addr) (sp : SpD) (W : WD) (te : TED) : TED := fun δ G Q => te δ G fun d G1 => truOD C sp W d G1 fun b G2 => Q (.bl (!b)) G2
theorem de_notO (M : OwnM X.K C "__bool__" f) (Fn : FnD X.prog X.w X.K X.mg X.base k f fd ps sp) (hb : Binds X.K fd ps []) (hr : Room k X.A) (hx : Passes (L2.CX X.prog X.w) X (XW X.K B W)) (he : DE X B e te) : DE X B (.UnaryOp .Not e pos) (dNotO C sp W te) :=
  PE.weak (pe_notO M Fn hb hr hx he) fun σ H Q ⟨F, G, δ, Qd, S, h, k⟩ => ⟨F, G, δ, _, S, h, fun v H1 ⟨F1, G1, d, s1, S1, r1, h1⟩ =>
    truO_A S1 r1 h1 fun b H' ⟨F', G', s', S', q'⟩ => k _ H' ⟨F', G', .bl (!b), s1.trans s', S', .bl _, q'⟩⟩
def boolOD (C : Addr) (sp : SpD) (W : WD) : LD := fun ds G Q => match ds with | [d] => truOD C sp W d G fun b G' => Q (.bl b) G' | _ => False
theorem de_boolO (M : OwnM X.K C "__bool__" f) (Fn : FnD X.prog X.w X.K X.mg X.base k f fd ps sp) (hb : Binds X.K fd ps []) (hr : Room (k + 2) X.A) (hx : Passes (L2.CX X.prog X.w) X (XW X.K B W)) (hg : Gl X "bool") (hm : X.mg "bool" = none) (hv : bootBuiltins "bool" = some (.type "bool")) (ha : DA X B [e] t)
    (he : starEach [e] X.env = (false, eval e X.env) :: starEach [] X.env := by rfl) (hpl : (backTo pos (starEach [] X.env)).any (·.1) = false := by rfl) : DE X B (.Call (.Name "bool" p) [e] [] pos) (dCB (boolOD C sp W) t) :=
  PE.weak (pe_callTy (call_boolO M Fn hb hr hx) hg hm hv ha (he := he) (hpl := hpl)) fun σ H Q ⟨F, G, δ, Qd, S, h, kk⟩ => ⟨F, G, δ, _, S, h, fun vs H1 ⟨F1, G1, ds, s1, S1, r1, h1⟩ => by
    unfold boolOD at h1
    split at h1
    case h_2 => exact h1.elim
    case h_1 d =>
      obtain ⟨v, rfl, r⟩ := repAll1 r1
      exact ⟨v, rfl, truO_A S1 r h1 fun b H' ⟨F', G', s', S', q'⟩ => kk _ _ ⟨F', G', _, s1.trans s', S', .bl _, q'⟩⟩⟩
theorem dt_orE {t1 t2 : TTD} (h1 : DT X B e t1) (h2 : DT X B e t2) : DT X B e (fun δ G Q => t1 δ G Q ∨ t2 δ G Q) := ⟨fun pins s σ H Q I ⟨F, G, δ, Qd, S, h, k⟩ => by
  rcases h with h | h
  · exact h1.run pins s σ H Q I ⟨F, G, δ, Qd, S, h, k⟩
  · exact h2.run pins s σ H Q I ⟨F, G, δ, Qd, S, h, k⟩⟩
theorem di_orE {tg it : Expr} {t1 t2 : TID} (h1 : DI X B tg it t1) (h2 : DI X B tg it t2) : DI X B tg it (fun δ G Q => t1 δ G Q ∨ t2 δ G Q) := ⟨fun pins s σ H Q I ⟨F, G, δ, Qd, S, h, k⟩ => by
  rcases h with h | h
  · exact h1.run pins s σ H Q I ⟨F, G, δ, Qd, S, h, k⟩
  · exact h2.run pins s σ H Q I ⟨F, G, δ, Qd, S, h, k⟩⟩
end
end JP
namespace JP
open PySem PySem.Spec PyProof.Rows L2
section
variable {X : Cx} {B : Bs} {K : PySem.W.Frag} {k : Nat} {g C : Addr} {fd : FuncData} {ps : List Str} {a b : Expr} {ta tb : TED} {pos : Pos} {E : XK} {CX : CXT} {f1 f2 : Str}
variable {σ : L2.St} {H F : Hp} {δ : SD} {G : Gm}
def pbR (K : PySem.W.Frag) (C : Addr) (f1 f2 : Str) : Addr → Addr → Hp → Prop := fun a b H => ∃ dx dy fs gs x y t, H a = some (.ins C dx fs) ∧ H b = some (.ins C dy gs) ∧ fs.lookup f1 = some x ∧ gs.lookup f1 = some y ∧ fs.lookup f2 = some (V.bl t) ∧ gs.lookup f2 = some (V.bl t) ∧ ∀ (H' : Hp) (Q : VK), Ext H H' → Q (.bl true) H' → rEqD K x y H' Q
theorem pbR_ext : ∀ a b H H', Ext H H' → pbR K C f1 f2 a b H → pbR K C f1 f2 a b H' := fun a b H H' e ⟨dx, dy, fs, gs, x, y, t, h1, h2, l1, l2, l3, l4, he⟩ => ⟨dx, dy, fs, gs, x, y, t, e _ _ h1, e _ _ h2, l1, l2, l3, l4, fun H2 Q e2 q => he H2 Q (e.trans e2) q⟩
/-- the pair's fields -/
def pairPb (C : Addr) (f1 f2 : Str) (d e : D) : Prop := ∃ fs gs x t, d = .ins C fs ∧ e = .ins C gs ∧ Pl 60 x ∧ fs.lookup f1 = some x ∧ gs.lookup f1 = some x ∧ fs.lookup f2 = some (.bl t) ∧ gs.lookup f2 = some (.bl t)
theorem pb_rep {v u : V} {d e : D} (S : Sit K B σ H F δ G) (r1 : Rep K F v d) (r2 : Rep K F u e) (h : pairPb C f1 f2 d e) : DIns C (pbR K C f1 f2) v u H := by
  obtain ⟨fs, gs, x, t, rfl, rfl, pl, l1, l2, l3, l4⟩ := h
  obtain ⟨a1, d1, g1, rfl, e1, _, _, rf1⟩ := ins_rep S r1 (C := C) (fs := fs) rfl
  obtain ⟨a2, d2, g2, rfl, e2, _, _, rf2⟩ := ins_rep S r2 (C := C) (fs := gs) rfl
  obtain ⟨z1, m1, q1⟩ := rf1.look l1
  obtain ⟨z2, m2, q2⟩ := rf2.look l2
  obtain ⟨z3, m3, q3⟩ := rf1.look l3
  obtain ⟨z4, m4, q4⟩ := rf2.look l4
  cases q3
  cases q4
  refine ⟨a1, a2, d1, d2, g1, g2, rfl, rfl, e1, e2, d1, d2, g1, g2, z1, z2, t, e1, e2, m1, m2, m3, m4, fun H' Q ex q => ?_⟩
  have e : PyData.eqv (toP x) (toP x) = true := eqvD_self pl
  exact ⟨toP x, toP x, (dp_toP pl.p).rep (S.same ex).ds.sub q1, (dp_toP pl.p).rep (S.same ex).ds.sub q2, pl.sh, pl.sh, by rw [e]; exact q⟩
theorem prs_pb {xs ys : List V} {as bs : List D} (S : Sit K B σ H F δ G) (r1 : RepAll K F xs as) (r2 : RepAll K F ys bs) (hl : as.length = bs.length) (hp : ∀ (i : Nat) d e, as[i]? = some d → bs[i]? = some e → pairPb C f1 f2 d e) : Prs (DIns C (pbR K C f1 f2)) xs ys H :=
  ⟨by rw [r1.length, r2.length, hl], fun i x y hx hy => by
    obtain ⟨d, hd, rd⟩ := r1.get' hx
    obtain ⟨e, he, re⟩ := r2.get' hy
    exact pb_rep S rd re (hp i d e hd he)⟩
def nePbD (C : Addr) (f1 f2 : Str) : R2D := fun a b G Q => ∃ as bs, lsD a G = some as ∧ lsD b G = some bs ∧ as.length = bs.length ∧ (∀ (i : Nat) d e, as[i]? = some d → bs[i]? = some e → pairPb C f1 f2 d e) ∧ Q (.bl false) G
theorem dt_nePb (Fn : FnOk X.prog X.w X.K X.mg X.base CX k g fd ps (spEq (pbR X.K C f1 f2))) (om : OwnM X.K C "__eq__" g) (hb : Binds X.K fd ps []) (hr : Room (k + 1) X.A) (hx : Passes CX X E) (ha : DE X B a ta) (hb2 : DE X B b tb) (hm : behindInMarks .NotEq b = false) : DT X B (.Compare a [.NotEq] [b] pos) (dTest (dOp (nePbD C f1 f2) ta tb)) :=
  PT.weak (pt_cmpR (op_neG (mon_ins pbR_ext) (eqG_ins Fn om.at_ om.fn hb hx) hr) ha hb2 hm) fun σ H Q q => by
    obtain ⟨F, G, δ, Qd, S, h, k⟩ := q
    refine up2 S h fun x y H2 F2 G2 d e s2 S2 r1 r2 ⟨as, bs, ed, ee, hl, hp, q⟩ => ?_
    obtain ⟨p1, xs1, rfl, q1, ra⟩ := ls_rep S2 r1 ed
    obtain ⟨p2, xs2, rfl, q2, rb⟩ := ls_rep S2 r2 ee
    exact ⟨_, _, _, _, rfl, rfl, .of q1, .of q2, prs_pb S2 ra rb hl hp, fun H' ex => ⟨false, rfl, k false H' ⟨F2, G2, s2, S2.same ex, q⟩⟩⟩
end
end JP
namespace JP
open PySem PySem.Spec PySem.W PyProof.Rows L2
/-- a def: where its function object is, what the text says of it, its defaults -/
structure DefY where
  ad : Frag → Addr
  nm : Str
  qual : Str
  st : Stmt
  dfl : List V
/-- the address behind a class's name in a table -/
def nsA (K : Frag) (C : Addr) (x : Str) : Addr := match findIn K (.ref C) x with
  | some (some (.ref a)) => a
  | _ => 0
def fnY (K : Frag) (d : DefY) : He.FnW := match K.lookup (d.ad K) with
  | some ⟨_, _, .func fd, _⟩ => some (fd.name, fd.qualname, fd.params, fd.body, fd.scope, fd.globals, fd.closure, fd.builtins)
  | _ => none
def valOf (d : DefY) : He.FnW := some (d.nm, d.qual, defArgs d.st, .stmts (defBody d.st), defScope d.st, mainGlobals, [], builtinsNs)
def okY (K : Frag) (d : DefY) : Bool := keepIn K (.ref (d.ad K)) && match K.lookup (d.ad K) with
  | some ⟨_, _, .func fd, _⟩ => codeIn K fd.code d.qual && He.dflB K fd.defaults d.dfl
  | _ => false
/-- the code object of the function at a -/
def codeAt (K : Frag) (a : Addr) : Addr := match K.lookup a with
  | some ⟨_, _, .func fd, _⟩ => (match fd.code with
    | .ref c => c
    | _ => 0)
  | _ => 0
def tabAt (K : Frag) (a : Addr) : Addr × Addr := (codeAt K a, He.tabOf K (codeAt K a))
def tabsOk (g : Addr → Option Obj) (K : Frag) (tf : List (Frag → Addr)) : Bool := tf.all fun f => codeHdIn K (tabAt K (f K)).1 (tabAt K (f K)).2 && match g (tabAt K (f K)).2 with
  | some o => He.emptyTab o
  | none => false
/-- a dict of the top with text keys: where, its keys in order -/
abbrev TabY : Type := (Frag → Addr) × List Str
abbrev ObY : Type := Bool × List He.FnW × List (Option (List (Option (Str × Int))))
structure SaysY (bs : Frag → List Bool) (fn : List DefY) (tf : List (Frag → Addr)) (ts : List TabY) (w : World) (h : Heap) (K : Frag) : Prop where
  inK : K.In h
  bools : (bs K).all id = true
  oks : fn.all (okY K) = true
  fns : fn.map (fnY K) = fn.map valOf
  tabs : ts.map (fun t => He.dicW K (t.1 K)) = ts.map fun t => some (He.keysIn w.params t.2)
  hd : ∀ f ∈ tf, codeHdIn K (tabAt K (f K)).1 (tabAt K (f K)).2 = true
  out : ∀ f ∈ tf, K.lookup (tabAt K (f K)).2 = none
  mt : ∀ f ∈ tf, h.get? (tabAt K (f K)).2 = some { cls := .none, data := .fields #[] }
section
variable {bs : Frag → List Bool} {fn : List DefY} {tf : List (Frag → Addr)} {ts : List TabY} {w : World} {h : Heap} {K : Frag}
theorem SaysY.bit (c : SaysY bs fn tf ts w h K) (i : Nat) {b : Bool} (e : (bs K)[i]? = some b) : b = true := List.all_eq_true.mp c.bools b (List.mem_of_getElem? e)
theorem SaysY.tab (c : SaysY bs fn tf ts w h K) (i : Nat) {t : TabY} (e : ts[i]? = some t := by rfl) : ∃ es n, L2.KDict K w (t.1 K) es n := by
  have e2 : (ts.map fun t => He.dicW K (t.1 K))[i]? = (ts.map fun t => some (He.keysIn w.params t.2))[i]? := by rw [c.tabs]
  rw [List.getElem?_map, List.getElem?_map, e] at e2
  exact He.dicW_ok (Option.some.inj e2)
theorem SaysY.fn_at (c : SaysY bs fn tf ts w h K) (i : Nat) {d : DefY} (e : fn[i]? = some d) :
    ∃ oc od osl dV kV doc pm an cdv ct, K.lookup (d.ad K) = some ⟨oc, od, .func (fnOf d.nm d.qual (defArgs d.st) (defBody d.st) (defScope d.st) dV kV doc pm an cdv ct), osl⟩ ∧ codeIn K cdv d.qual = true ∧ keepIn K (.ref (d.ad K)) = true ∧ DflV K dV d.dfl := by
  have ok := List.all_eq_true.mp c.oks d (List.mem_of_getElem? e)
  have val : fnY K d = valOf d := by
    have := congrArg (fun z : List He.FnW => z[i]?) c.fns
    simp only [List.getElem?_map, e, Option.map_some, Option.some.injEq] at this
    exact this
  unfold okY at ok
  unfold fnY at val
  rw [Bool.and_eq_true] at ok
  obtain ⟨k1, k2⟩ := ok
  cases q : K.lookup (d.ad K) with
  | none => rw [q] at k2; cases k2
  | some o =>
    obtain ⟨oc, od, dt, osl⟩ := o
    rw [q] at k2 val
    cases dt with
    | func fd =>
      obtain ⟨n1, n2, n3, n4, n5, n6, n7, n8, n9, n10, n11, n12, n13, n14, n15⟩ := fd
      rw [Bool.and_eq_true] at k2
      have v : (some (n1, n2, n3, n4, n5, n6, n7, n15) : He.FnW) = valOf d := val
      simp only [valOf, Option.some.injEq, Prod.mk.injEq] at v
      obtain ⟨rfl, rfl, rfl, rfl, rfl, rfl, rfl, rfl⟩ := v
      exact ⟨oc, od, osl, _, _, _, _, _, _, _, rfl, k2.1, k1, He.dflB_ok k2.2⟩
    | _ => cases k2
end
end JP
namespace JP
open PySem PySem.Spec PySem.W PySem.Calls PyProof.Rows L2
/-- the abstract heap at the law's call: the empty tables, the script at most -/
def endHp (K : Frag) (ts : List Addr) (a : Addr) (o : Obj) (xs : List V) : Hp := fun b => if b ∈ ts then some (.tbl #[]) else scriptHp K a o xs b
/-- so it looks -/
def OnlyT (ts : List Addr) (H : Hp) : Prop := ∀ b, (b ∈ ts → H b = some (.tbl #[])) ∧ (b ∉ ts → H b = none ∨ ∃ o xs, H b = some (.frz o (.lst xs)))
section
variable {K : Frag} {ts : List Addr} {a b : Addr} {o : Obj} {xs : List V}
theorem endHp_tab (h : b ∈ ts) : endHp K ts a o xs b = some (.tbl #[]) := if_pos h
theorem endHp_not (h : b ∉ ts) : endHp K ts a o xs b = scriptHp K a o xs b := if_neg h
theorem endHp_only : OnlyT ts (endHp K ts a o xs) := fun b => ⟨endHp_tab, fun h => by
  rw [endHp_not h]
  exact scriptHp_only b⟩
end
theorem law_gt {P : Program} {w : World} {K : Frag} {mg mb : Str → Option Value} {k : Nat} {fa a : Addr} {fd : FuncData} {x : Str} {sp : Sp} {s : Shared} {vs : List Value} {ns : List Int} {cs : List (Addr × Addr)}
    (inK : K.In s.heap) (gl : s.heap.Ns mainGlobals mg) (bl : s.heap.Ns builtinsNs mb) (blt : ∀ x : Str, x ≠ "__name__" → mb x = bootBuiltins x) (nl : s.heap.NoLimit) (gens : s.gens = #[])
    (mt : ∀ p ∈ cs, s.heap.get? p.2 = some { cls := .none, data := .fields #[] }) (out : ∀ p ∈ cs, K.lookup p.2 = none) (hds : ∀ p ∈ cs, CodeHd s.heap p.1 p.2)
    (main : ∃ (bm : Addr) (ob : Obj), mg "__builtins__" = some (.ref bm) ∧ bm ≠ builtinsNs ∧ s.heap.get? bm = some ob ∧ ob.cls = .type "module" ∧ ob.dict = some builtinsNs ∧ ob.data = .plain)
    (obj : s.heap.get? a = some { cls := .type "list", data := .seq vs.toArray }) (hnum : IntsAre vs ns) (small : ns.length ≤ sizeLine) (room : Room k callerA)
    (F : ∀ base : Heap, K.In base → base.Ns mainGlobals mg → (∀ p ∈ cs, LamX.TabB base mg p.1 p.2) → GOk P w K mg base k fa fd [x] sp) (bind : ∀ (s : Shared) (u : Value), BindsTo s fd ⟨[u], []⟩ [(x, u)])
    (sat : ∀ H : Hp, OnlyT (cs.map Prod.snd) H → SqL K H a (ns.map V.int) → sp [.ref a] H (fun v _ => v = .bl true) fun _ _ _ => False) :
    codeAny (model P w) callerA (.call (.ref fa) ⟨[.ref a], []⟩) (fun r s' => r = .ok (.ret (.bool true)) ∧ OldK s.heap s'.heap ∧ s'.os = s.os ∧ AllBare s'.gens) s := by
  have rel := vals_ints hnum
  have wide : (ns.map V.int).length ≤ sizeLine := by
    rw [List.length_map]
    exact small
  generalize hts : cs.map Prod.snd = ts at sat
  have tab_at : ∀ {b : Addr}, b ∈ ts → s.heap.get? b = some { cls := .none, data := .fields #[] } := by
    intro b hb
    rw [← hts] at hb
    obtain ⟨p, hp, rfl⟩ := List.mem_map.mp hb
    exact mt p hp
  have tab_K : ∀ {b : Addr}, b ∈ ts → K.lookup b = none := by
    intro b hb
    rw [← hts] at hb
    obtain ⟨p, hp, rfl⟩ := List.mem_map.mp hb
    exact out p hp
  have a_ts : a ∉ ts := by
    intro hb
    have q := tab_at hb
    rw [obj] at q
    cases q
  generalize hH : endHp K ts a { cls := .type "list", data := .seq vs.toArray } (ns.map V.int) = H
  have only : OnlyT ts H := hH ▸ endHp_only
  have kinds : ∀ {b : Addr} {u : HO}, H b = some u → (b ∈ ts ∧ u = .tbl #[]) ∨ (b ∉ ts ∧ b = a ∧ K.lookup a = none ∧ u = .frz { cls := .type "list", data := .seq vs.toArray } (.lst (ns.map V.int))) := by
    intro b u e
    by_cases hb : b ∈ ts
    · rw [(only b).1 hb] at e
      exact .inl ⟨hb, (Option.some.inj e).symm⟩
    · rw [← hH, endHp_not hb] at e
      obtain ⟨q1, q2, q3⟩ := scriptHp_some e
      exact .inr ⟨hb, q1, q2, q3⟩
  have held : HOk P w H s.heap := by
    intro b u e
    rcases kinds e with ⟨hb, rfl⟩ | ⟨_, rfl, _, rfl⟩
    · exact tab_at hb
    · exact ⟨obj, wide, vs, _, rel, obj⟩
  have seq : SqL K H a (ns.map V.int) := by
    cases q : K.lookup a with
    | none =>
      refine .inl (.inr ⟨{ cls := .type "list", data := .seq vs.toArray }, ?_⟩)
      rw [← hH, endHp_not a_ts]
      exact if_pos ⟨rfl, q⟩
    | some o =>
      have e := inK a o q
      rw [obj] at e
      cases e
      exact .inr ⟨_, vs.toArray, _, q, rfl, rfl, rfl, by
        rw [List.size_toArray, hnum.length]
        exact small, by simpa using rel⟩
  have free : ∀ {b : Addr} {ob : Obj}, s.heap.get? b = some ob → (∀ its n, ob.data ≠ .seq its n) → ob.data ≠ .fields #[] → H b = none := by
    intro b ob e d1 d2
    cases q : H b with
    | none => rfl
    | some u =>
      rcases kinds q with ⟨hb, _⟩ | ⟨_, rfl, _, _⟩
      · rw [tab_at hb] at e
        cases e
        exact absurd rfl d2
      · rw [obj] at e
        cases e
        exact absurd rfl (d1 _ _)
  have nsOk : ∀ {b : Addr} {m : Str → Option Value}, s.heap.Ns b m → (hidT s.heap H).Ns b m := by
    intro b m z
    obtain ⟨ob, es, ep, e, d, r⟩ := z
    exact ⟨ob, es, ep, hidT_get e (free e (by intro its n z; rw [d] at z; cases z) (by intro z; rw [d] at z; cases z)), d, r⟩
  have inB : K.In (hidT s.heap H) := by
    intro b ob e
    refine hidT_get (inK b ob e) ?_
    cases q : H b with
    | none => rfl
    | some u =>
      rcases kinds q with ⟨hb, _⟩ | ⟨_, rfl, z, _⟩
      · rw [tab_K hb] at e
        cases e
      · rw [z] at e
        cases e
  have mods : Mod K mg (hidT s.heap H) := by
    obtain ⟨mc, h1, h2⟩ := nl
    exact ⟨inB, nsOk gl, ⟨mb, nsOk bl, blt⟩, mc, nsOk h1, h2⟩
  have tabB : ∀ p ∈ cs, LamX.TabB (hidT s.heap H) mg p.1 p.2 := by
    intro p hp
    have here := mt p hp
    constructor
    · obtain ⟨ob, fs, y1, y2, y3, y4, y5, y6, y7, got, cl, da, p11, rest⟩ := hds p hp
      refine ⟨ob, fs, y1, y2, y3, y4, y5, y6, y7, hidT_get got (free got ?_ ?_), cl, da, p11, rest⟩
      · intro its n z
        rw [da] at z
        cases z
      · intro z
        rw [da] at z
        cases z
        cases p11
    · obtain ⟨bm, ob, b1, b2, b3, b4, b5, b6⟩ := main
      refine ⟨bm, ob, b1, b2, ?_, ?_, hidT_get b3 (free b3 ?_ ?_), b4, b5, b6⟩
      · intro q
        obtain ⟨o', es, ep, e, hd, _⟩ := gl
        rw [q, e] at b3
        cases b3
        rw [hd] at b6
        cases b6
      · intro q
        rw [q, here] at b3
        cases b3
        cases b6
      · intro its n z
        rw [b6] at z
        cases z
      · intro z
        rw [b6] at z
        cases z
    · intro z
      obtain ⟨o', es, ep, e, hd, _⟩ := gl
      rw [z, here] at e
      cases e
      cases hd
  have e0 : Env0 P w K mg (hidT s.heap H) callerA [] s H :=
    { frames := rfl, mod := mods, bs := fun b o e => of_hidT e, bsz := Nat.le_of_eq (hidT_size _ _), funs := trivial, frf := fun b z => (List.not_mem_nil z).elim, hok := held, bare := .of_eq gens }
  apply codeAny_mono ((F _ inB (nsOk gl) tabB).kept callerA [] s H ⟨[.ref a], []⟩ [.ref a] [.ref a] _ _ rfl room e0 (bind s (.ref a)) (.cons rfl .nil) (sat H only seq))
  intro r s' z
  match r, z with
  | .error _, z => exact z.elim
  | .ok .next, z => exact z.elim
  | .ok .brk, z => exact z.elim
  | .ok .cont, z => exact z.elim
  | .ok (.ret u), ⟨v, H', os, bare, un, held', rv, z⟩ =>
    have ev : v = .bl true := z
    subst ev
    have eu : u = Value.bool true := rv
    subst eu
    have stays : ∀ b ob, b ∉ ts → s.heap.get? b = some ob → s'.heap.get? b = some ob := by
      intro b ob hb e
      cases q : H b with
      | none => exact un.keep b ob e q List.not_mem_nil List.not_mem_nil
      | some u =>
        rcases kinds q with ⟨hb', _⟩ | ⟨_, rfl, _, rfl⟩
        · exact absurd hb' hb
        · have e1 := (held' _ _ (un.frzs _ _ _ q)).1
          rw [obj] at e
          cases e
          exact e1
    have grows : ∀ p ∈ cs, ∃ more : Array Value, s'.heap.get? p.2 = some { cls := .none, data := .fields more } := by
      intro p hp
      have mem : p.2 ∈ ts := hts ▸ List.mem_map.mpr ⟨p, hp, rfl⟩
      obtain ⟨more, q⟩ := un.tbls p.2 #[] ((only p.2).1 mem)
      exact ⟨_, held' p.2 _ q⟩
    have isTab : ∀ {b : Addr}, b ∈ ts → ∃ p ∈ cs, p.2 = b := by
      intro b hb
      rw [← hts] at hb
      obtain ⟨p, hp, e⟩ := List.mem_map.mp hb
      exact ⟨p, hp, e⟩
    refine ⟨rfl, ⟨?_, ?_⟩, os, bare⟩
    · intro b ob e
      by_cases hb : b ∈ ts
      · right; left
        obtain ⟨p, hp, rfl⟩ := isTab hb
        obtain ⟨more, hm⟩ := grows p hp
        rw [mt p hp] at e
        cases e
        refine ⟨((hds p hp).tab (mt p hp)).isCodeTable, rfl, #[], more, rfl, ?_⟩
        rw [hm, Array.empty_append]
      · left
        exact stays b ob hb e
    · intro b ob e
      by_cases hb : b ∈ ts
      · obtain ⟨p, hp, rfl⟩ := isTab hb
        obtain ⟨more, hm⟩ := grows p hp
        exact ⟨_, hm⟩
      · exact ⟨ob, stays b ob hb e⟩
/-- the law by what the head says of it -/
theorem walk_gt {l : OpenLaw} {n k : Nat} {q : Program} {loose : List Str} {XP : (Str → Option Value) → Heap → Prop} {YP : World → Heap → Prop} {d : DefRec} {x : Str}
    (most : l.most = some n) (small : n ≤ sizeLine) (nodef : d.params.defaults = []) (room : Room k callerA)
    (F : ∀ (w : World) (mg : Str → Option Value) (fa : Addr) (h : Heap), YP w h → h.Ns mainGlobals mg → mg d.name = some (.ref fa) →
      ∃ (K : Frag) (fd : FuncData) (cs : List (Addr × Addr)) (sp : Sp), K.In h ∧ (∀ p ∈ cs, h.get? p.2 = some { cls := .none, data := .fields #[] }) ∧ (∀ p ∈ cs, K.lookup p.2 = none) ∧ (∀ p ∈ cs, CodeHd h p.1 p.2) ∧
        (∀ (s : Shared) (u : Value), BindsTo s fd ⟨[u], []⟩ [(x, u)]) ∧ (∀ (H : Hp) (a : Addr) (ns : List Int), ns.length ≤ n → OnlyT (cs.map Prod.snd) H → SqL K H a (ns.map V.int) → sp [.ref a] H (fun v _ => v = .bl true) fun _ _ _ => False) ∧
        ∀ base : Heap, K.In base → base.Ns mainGlobals mg → (∀ p ∈ cs, LamX.TabB base mg p.1 p.2) → GOk l.prog w K mg base k fa fd [x] sp) :
    WalkO q loose XP YP l.row.toRowW d [] (fun f vs => PySem.call f vs) := by
  apply Att.attach_callB most nodef
  intro w s₀ s mg mb fa o pm cd doc a vs ns G Y ho hd hcd hmg obj hnum len bits gens
  obtain ⟨K, fd, cs, sp, inK, mt, out, hds, hb, sat, hF⟩ := F w mg fa _ Y G.T.g hmg
  exact law_gt inK G.T.g G.T.b G.T.builtins G.T.nolimit gens mt out hds G.T.bmain obj hnum (Nat.le_trans len small) room hF hb fun H hO hS => sat H a ns len hO hS
end JP
namespace JP
open PySem PySem.Spec PySem.W PySem.Calls PyProof.Rows L2
theorem dfl_none {K : Frag} {dV : Value} (h : DflV K dV []) : dV = .none := by
  rcases h with ⟨_, e⟩ | ⟨e, _⟩
  · exact e
  · exact absurd rfl e
section
variable {bs : Frag → List Bool} {fn : List DefY} {tf : List (Frag → Addr)} {ts : List TabY} {w : World} {h : Heap} {K : Frag}
theorem SaysY.fact (c : SaysY bs fn tf ts w h K) (i : Nat) {p : Prop} [Decidable p] (e : (bs K)[i]? = some (decide p) := by rfl) : p := of_decide_eq_true (c.bit i e)
end
end JP
namespace JP
open PySem PySem.Spec PySem.W PyProof.Rows L2
def gaZ (g : Addr → Option Obj) (x : Str) : Addr := He.ga (He.frG g [mainGlobals]) x
def nsZ (g : Addr → Option Obj) (C : Addr) : Addr := match g C with
  | some ⟨_, _, .cls cd, _⟩ => cd.ns
  | _ => 0
def fnZ1 (g : Addr → Option Obj) (a : Addr) : List Addr := a :: match g a with
  | some ⟨_, _, .func fd, _⟩ => He.refV fd.code ++ He.refV fd.defaults
  | _ => []
/-- a function, a property: it, what it holds, the code -/
def fnZ (g : Addr → Option Obj) (a : Addr) : List Addr := fnZ1 g a ++ match g a with
  | some ⟨_, _, .fields vs, _⟩ => (vs.toList.flatMap He.refV).flatMap (fnZ1 g)
  | _ => []
def mZ (g : Addr → Option Obj) (n : Addr) (m : Str) : List Addr := match nsIn (He.frG g [n]) n m with
  | some (some (.ref a)) => fnZ g a
  | _ => []
/-- classes, names in them, functions, data -/
def asZ (cls ms fns dat : List Str) (g : Addr → Option Obj) : List Addr :=
  PySem.cStatics :: mainGlobals :: (cls.map (gaZ g) ++ (cls.map (fun x => nsZ g (gaZ g x)) ++ (dat.map (gaZ g) ++ (fns.flatMap (fun x => fnZ g (gaZ g x)) ++ cls.flatMap fun x => ms.flatMap (mZ g (nsZ g (gaZ g x)))))))
abbrev AsF : Type := (Addr → Option Obj) → List Addr
def lookZ (as : AsF) (bs : Frag → List Bool) (fn : List DefY) (tf : List (Frag → Addr)) (ts : List TabY) (g : Addr → Option Obj) : ObY :=
  ((bs (He.frT g (as g))).all id && ((fn.all (okY (He.frT g (as g)))) && tabsOk g (He.frT g (as g)) tf), fn.map (fnY (He.frT g (as g))), ts.map fun t => He.dicW (He.frT g (as g)) (t.1 (He.frT g (as g))))
theorem saysZ_of {as : AsF} {bs : Frag → List Bool} {fn : List DefY} {tf : List (Frag → Addr)} {ts : List TabY} {w : World} {h : Heap} (e : lookZ as bs fn tf ts h.get? = (true, fn.map valOf, ts.map fun t => some (He.keysIn w.params t.2))) : SaysY bs fn tf ts w h (He.frT h.get? (as h.get?)) := by
  generalize hK : He.frT h.get? (as h.get?) = K at *
  have e' : ((bs K).all id && (fn.all (okY K) && tabsOk h.get? K tf), fn.map (fnY K), ts.map fun t => He.dicW K (t.1 K)) = ((true, fn.map valOf, ts.map fun t => some (He.keysIn w.params t.2)) : ObY) := by rw [← hK]; exact e
  injection e' with e1 e23
  injection e23 with e2 e3
  rw [Bool.and_eq_true, Bool.and_eq_true] at e1
  obtain ⟨b1, b2, b3⟩ := e1
  have each : ∀ f ∈ tf, codeHdIn K (tabAt K (f K)).1 (tabAt K (f K)).2 = true ∧ ∃ o, h.get? (tabAt K (f K)).2 = some o ∧ He.emptyTab o = true := by
    intro f hf
    have z := List.all_eq_true.mp b3 f hf
    rw [Bool.and_eq_true] at z
    refine ⟨z.1, ?_⟩
    cases q : h.get? (tabAt K (f K)).2 with
    | none => rw [q] at z; cases z.2
    | some o => rw [q] at z; exact ⟨o, rfl, z.2⟩
  refine ⟨hK ▸ He.frT_in, b1, b2, e2, e3, fun f hf => (each f hf).1, fun f hf => ?_, fun f hf => ?_⟩
  · obtain ⟨_, o, q, z⟩ := each f hf
    have := He.frT_none (as := as h.get?) q z
    rw [hK] at this
    exact this
  · obtain ⟨_, o, q, z⟩ := each f hf
    rw [q, He.emptyTab_eq z]
def hookZ (as : AsF) (bs : Frag → List Bool) (fn : List DefY) (tf : List (Frag → Addr)) (ts : List TabY) : Hook where
  α := ObY
  obs := fun s => lookZ as bs fn tf ts s.heap.get?
  val := fun w => (true, fn.map valOf, ts.map fun t => some (He.keysIn w.params t.2))
  says := fun w h => ∃ K : Frag, SaysY bs fn tf ts w h K
  of := fun _ _ e => ⟨_, saysZ_of e⟩
  keeps := fun _ _ _ ⟨K, c⟩ k => ⟨K, ⟨Frag.In.keeps c.inK k, c.bools, c.oks, c.fns, c.tabs, c.hd, c.out, fun f hf => k _ _ (c.mt f hf)⟩⟩
end JP
namespace JP
open PySem PySem.Spec PyProof.Rows L2
namespace SX
abbrev V := Nat → Int
/-- alternating sum over the choice of one of a list, with the others in order -/
def S : List V → (V → List V → Int) → Int
  | [], _ => 0
  | x :: xs, f => f x xs - S xs (fun y r => f y (x :: r))
theorem S_congr : ∀ (l : List V) {f g : V → List V → Int}, (∀ v r, f v r = g v r) → S l f = S l g
  | [], _, _, _ => rfl
  | x :: xs, f, g, h => by
    show f x xs - S xs _ = g x xs - S xs _
    rw [h, S_congr xs (fun v r => h v (x :: r))]
theorem S_zero (l : List V) : S l (fun _ _ => 0) = 0 := by
  induction l with
  | nil => rfl
  | cons x xs ih => show 0 - S xs _ = 0; rw [ih]; rfl
theorem S_add (l : List V) (f g : V → List V → Int) : S l (fun v r => f v r + g v r) = S l f + S l g := by
  induction l generalizing f g with
  | nil => rfl
  | cons x xs ih =>
    show f x xs + g x xs - S xs (fun y r => f y (x :: r) + g y (x :: r)) = (f x xs - S xs (fun y r => f y (x :: r))) + (g x xs - S xs (fun y r => g y (x :: r)))
    rw [ih]; omega
theorem S_mul (l : List V) (a : Int) (f : V → List V → Int) : S l (fun v r => a * f v r) = a * S l f := by
  induction l generalizing f with
  | nil => show 0 = a * 0; simp
  | cons x xs ih =>
    show a * f x xs - S xs (fun y r => a * f y (x :: r)) = a * (f x xs - S xs (fun y r => f y (x :: r)))
    rw [ih, Int.mul_sub]
/-- the determinant of the coordinates k, .., k + m - 1 -/
def dt : Nat → Nat → List V → Int
  | _, 0, _ => 1
  | k, m + 1, l => S l (fun v r => v k * dt (k + 1) m r)
theorem S_neg (l : List V) (f : V → List V → Int) : S l (fun v r => - f v r) = - S l f := by
  have := S_mul l (-1) f
  simpa using this
/-- two choices, exchanged -/
theorem S_two (l : List V) (a b : V → Int) (F : List V → Int) :
    S l (fun x r => a x * S r (fun y r' => b y * F r')) = - S l (fun x r => b x * S r (fun y r' => a y * F r')) := by
  induction l generalizing F with
  | nil => rfl
  | cons z zs ih =>
    have e : ∀ (a b : V → Int), S (z :: zs) (fun x r => a x * S r (fun y r' => b y * F r')) = a z * S zs (fun y r => b y * F r) - b z * S zs (fun y r => a y * F r) + S zs (fun y ys => a y * S ys (fun w r => b w * F (z :: r))) := by
      intro a b
      show a z * S zs (fun y r' => b y * F r') - S zs (fun y ys => a y * (b z * F ys - S ys (fun w r' => b w * F (z :: r')))) = _
      have e1 : S zs (fun y ys => a y * (b z * F ys - S ys (fun w r' => b w * F (z :: r')))) = S zs (fun y ys => b z * (a y * F ys) + - (a y * S ys (fun w r' => b w * F (z :: r')))) :=
        S_congr _ fun v r => by rw [Int.mul_sub, Int.sub_eq_add_neg, Int.mul_left_comm]
      rw [e1, S_add, S_mul, S_neg]; omega
    rw [e a b, e b a, ih (fun r => F (z :: r))]; omega
/-- more vectors than coordinates -/
theorem cram0 : ∀ (m k j : Nat) (l : List V), k ≤ j → j < k + m → S l (fun v r => v j * dt k m r) = 0
  | 0, k, j, l, h1, h2 => by omega
  | m + 1, k, j, l, h1, h2 => by
    have e : S l (fun v r => v j * dt k (m + 1) r) = - S l (fun x r => x k * S r (fun y r' => y j * dt (k + 1) m r')) :=
      S_two l (fun v => v j) (fun v => v k) (dt (k + 1) m)
    rcases Nat.lt_or_ge k j with h | h
    · rw [e]
      have : S l (fun x r => x k * S r (fun y r' => y j * dt (k + 1) m r')) = S l (fun _ _ => 0) := S_congr _ fun v r => by
        rw [cram0 m (k + 1) j r h (by omega)]; simp
      rw [this, S_zero]; rfl
    · have : k = j := by omega
      subst this
      have e2 : S l (fun v r => v k * dt k (m + 1) r) = S l (fun x r => x k * S r (fun y r' => y k * dt (k + 1) m r')) := rfl
      omega
theorem S_congrL : ∀ (l : List V) {f g : V → List V → Int}, (∀ v r, r.length + 1 = l.length → f v r = g v r) → S l f = S l g
  | [], _, _, _ => rfl
  | x :: xs, f, g, h => by
    show f x xs - S xs _ = g x xs - S xs _
    rw [h x xs rfl, S_congrL xs (fun v r e => h v (x :: r) (by simp only [List.length_cons]; omega))]
/-- adjacent ones exchanged -/
def Alt (n : Nat) (f : List V → Int) : Prop := ∀ xs a b ys, xs.length + ys.length + 2 = n → f (xs ++ a :: b :: ys) = - f (xs ++ b :: a :: ys)
theorem S_alt : ∀ (xs : List V) (a b : V) (ys : List V) (f : V → List V → Int), (∀ v, Alt (xs.length + ys.length + 1) (f v)) → S (xs ++ a :: b :: ys) f = - S (xs ++ b :: a :: ys) f
  | [], a, b, ys, f, h => by
    show f a (b :: ys) - (f b (a :: ys) - S ys (fun w r => f w (a :: b :: r))) = - (f b (a :: ys) - (f a (b :: ys) - S ys (fun w r => f w (b :: a :: r))))
    have : S ys (fun w r => f w (a :: b :: r)) = - S ys (fun w r => f w (b :: a :: r)) := by
      rw [← S_neg]; exact S_congrL _ fun v r e => h v [] a b r (by simp only [List.length_nil]; omega)
    rw [this]; omega
  | x :: xs, a, b, ys, f, h => by
    show f x (xs ++ a :: b :: ys) - S (xs ++ a :: b :: ys) (fun y r => f y (x :: r)) = - (f x (xs ++ b :: a :: ys) - S (xs ++ b :: a :: ys) (fun y r => f y (x :: r)))
    rw [S_alt xs a b ys (fun y r => f y (x :: r)) (fun v p c d q e => h v (x :: p) c d q (by simp only [List.length_cons]; omega)), h x xs a b ys (by simp only [List.length_cons]; omega)]; omega
theorem dt_alt : ∀ (m k : Nat), Alt m (dt k m)
  | 0, k => fun xs a b ys e => by omega
  | m + 1, k => fun xs a b ys e => by
    have e' : xs.length + ys.length + 1 = m := by omega
    refine S_alt xs a b ys _ fun v => ?_
    intro p c d q e2
    show v k * _ = - (v k * _)
    rw [dt_alt m (k + 1) p c d q (by omega), Int.mul_neg]
/-- linear at each place -/
def lin (a b : Int) (u w : V) : V := fun k => a * u k + b * w k
def Lin (n : Nat) (f : List V → Int) : Prop := ∀ xs a b u w ys, xs.length + ys.length + 1 = n → f (xs ++ lin a b u w :: ys) = a * f (xs ++ u :: ys) + b * f (xs ++ w :: ys)
theorem S_lin : ∀ (xs : List V) (a b : Int) (u w : V) (ys : List V) (f : V → List V → Int), (∀ v, Lin (xs.length + ys.length) (f v)) → (∀ r, f (lin a b u w) r = a * f u r + b * f w r) →
    S (xs ++ lin a b u w :: ys) f = a * S (xs ++ u :: ys) f + b * S (xs ++ w :: ys) f
  | [], a, b, u, w, ys, f, h, g => by
    show f (lin a b u w) ys - S ys (fun y r => f y (lin a b u w :: r)) = a * (f u ys - S ys (fun y r => f y (u :: r))) + b * (f w ys - S ys (fun y r => f y (w :: r)))
    have e : S ys (fun y r => f y (lin a b u w :: r)) = S ys (fun y r => a * f y (u :: r) + b * f y (w :: r)) := S_congrL ys fun v r e => h v [] a b u w r (by simp only [List.length_nil]; omega)
    rw [g, e, S_add, S_mul, S_mul, Int.mul_sub, Int.mul_sub]; omega
  | x :: xs, a, b, u, w, ys, f, h, g => by
    show f x (xs ++ lin a b u w :: ys) - S (xs ++ lin a b u w :: ys) (fun y r => f y (x :: r)) = a * (f x (xs ++ u :: ys) - S (xs ++ u :: ys) (fun y r => f y (x :: r))) + b * (f x (xs ++ w :: ys) - S (xs ++ w :: ys) (fun y r => f y (x :: r)))
    rw [S_lin xs a b u w ys (fun y r => f y (x :: r)) (fun v p a b u w q e => h v (x :: p) a b u w q (by simp only [List.length_cons]; omega)) (fun r => g (x :: r)), h x xs a b u w ys (by simp only [List.length_cons]; omega), Int.mul_sub, Int.mul_sub]; omega
theorem dt_lin : ∀ (m k : Nat), Lin m (dt k m)
  | 0, k => fun xs a b u w ys e => by omega
  | m + 1, k => fun xs a b u w ys e => by
    have e' : xs.length + ys.length = m := by omega
    refine S_lin xs a b u w ys _ (fun v p a b u w q e2 => ?_) fun r => ?_
    · show v k * _ = a * (v k * _) + b * (v k * _)
      rw [dt_lin m (k + 1) p a b u w q (by omega), Int.mul_add, Int.mul_left_comm, Int.mul_left_comm (v k) b]
    · show (a * u k + b * w k) * _ = a * (u k * _) + b * (w k * _)
      rw [Int.add_mul, Int.mul_assoc, Int.mul_assoc]
/-- one vector in the place of each in turn -/
def T (k m : Nat) (j : Nat) (x : V) : List V → List V → Int
  | _, [] => 0
  | pre, y :: ys => y j * dt k m (pre ++ x :: ys) + T k m j x (pre ++ [y]) ys
theorem S_T (k m j : Nat) (x : V) : ∀ (ys pre : List V), pre.length + ys.length = m → S ys (fun y r => y j * dt k m (pre ++ x :: r)) = T k m j x pre ys
  | [], _, _ => rfl
  | y :: ys, pre, e => by
    have e0 : S ys (fun w r => w j * dt k m (pre ++ x :: y :: r)) = - S ys (fun w r => w j * dt k m ((pre ++ [y]) ++ x :: r)) := by
      rw [← S_neg]
      refine S_congrL _ fun w r e1 => ?_
      rw [dt_alt m k pre x y r (by simp only [List.length_cons] at e; omega), List.append_assoc, Int.mul_neg]; rfl
    show y j * dt k m (pre ++ x :: ys) - S ys (fun w r => w j * dt k m (pre ++ x :: y :: r)) = y j * dt k m (pre ++ x :: ys) + T k m j x (pre ++ [y]) ys
    rw [e0, S_T k m j x ys (pre ++ [y]) (by simp only [List.length_cons, List.length_append, List.length_nil] at e ⊢; omega)]; omega
theorem cram (k m j : Nat) (x : V) (l : List V) (h1 : k ≤ j) (h2 : j < k + m) (e : l.length = m) : dt k m l * x j = T k m j x [] l := by
  have h := cram0 m k j (x :: l) h1 h2
  have h' : S (x :: l) (fun v r => v j * dt k m r) = x j * dt k m l - S l (fun y r => y j * dt k m ([] ++ x :: r)) := rfl
  rw [h', S_T k m j x l [] (by simpa using e)] at h
  rw [Int.mul_comm]; omega
def sumN : Nat → (Nat → Int) → Int
  | 0, _ => 0
  | n + 1, f => sumN n f + f n
theorem sumN_congr : ∀ (n : Nat) {f g : Nat → Int}, (∀ i, i < n → f i = g i) → sumN n f = sumN n g
  | 0, _, _, _ => rfl
  | n + 1, f, g, h => by show sumN n f + f n = sumN n g + g n; rw [sumN_congr n (fun i hi => h i (by omega)), h n (by omega)]
def upd (c : Nat → V) (i : Nat) (x : V) : Nat → V := fun j => if j = i then x else c j
def vs (c : Nat → V) (a n : Nat) : List V := (List.range' a n).map c
def D (m : Nat) (c : Nat → V) : Int := dt 0 m (vs c 0 m)
theorem vs_len (c : Nat → V) (a n : Nat) : (vs c a n).length = n := by simp [vs]
theorem vs_cons (c : Nat → V) (a n : Nat) : vs c a (n + 1) = c a :: vs c (a + 1) n := rfl
theorem vs_congr {c d : Nat → V} {a n : Nat} (h : ∀ i, a ≤ i → i < a + n → c i = d i) : vs c a n = vs d a n := by
  refine List.map_congr_left fun i hi => ?_
  have := List.mem_range'_1.1 hi
  exact h i this.1 this.2
theorem vs_app (c : Nat → V) (a n k : Nat) : vs c a (n + k) = vs c a n ++ vs c (a + n) k := by
  show (List.range' a (n + k)).map c = _
  rw [show n + k = n + k from rfl, ← List.range'_append_1, List.map_append]; rfl
theorem vs_split (c : Nat → V) (m i : Nat) (h : i < m) : vs c 0 m = vs c 0 i ++ c i :: vs c (i + 1) (m - i - 1) := by
  have : m = i + ((m - i - 1) + 1) := by omega
  rw [this, vs_app, vs_cons]
  simp only [Nat.zero_add]
  rw [← this]
theorem vs_upd (c : Nat → V) (m i : Nat) (x : V) (h : i < m) : vs (upd c i x) 0 m = vs c 0 i ++ x :: vs c (i + 1) (m - i - 1) := by
  rw [vs_split _ m i h]
  have e1 : vs (upd c i x) 0 i = vs c 0 i := vs_congr fun j _ hj => by unfold upd; rw [if_neg (by omega)]
  have e2 : vs (upd c i x) (i + 1) (m - i - 1) = vs c (i + 1) (m - i - 1) := vs_congr fun j hj _ => by unfold upd; rw [if_neg (by omega)]
  rw [e1, e2]; unfold upd; rw [if_pos rfl]
theorem D_lin (m : Nat) (c : Nat → V) (i : Nat) (h : i < m) (a b : Int) (u w : V) : D m (upd c i (lin a b u w)) = a * D m (upd c i u) + b * D m (upd c i w) := by
  unfold D; rw [vs_upd c m i _ h, vs_upd c m i _ h, vs_upd c m i _ h]
  exact dt_lin m 0 _ a b u w _ (by simp only [vs_len]; omega)
/-- a vector moved over a list -/
theorem dt_move (m : Nat) : ∀ (ys xs : List V) (a : V) (zs : List V), xs.length + ys.length + zs.length + 1 = m → dt 0 m (xs ++ a :: ys ++ zs) = (-1) ^ ys.length * dt 0 m (xs ++ ys ++ a :: zs)
  | [], xs, a, zs, e => by simp
  | y :: ys, xs, a, zs, e => by
    have h1 : dt 0 m (xs ++ a :: (y :: ys) ++ zs) = - dt 0 m ((xs ++ [y]) ++ a :: ys ++ zs) := by
      have := dt_alt m 0 xs a y (ys ++ zs) (by simp only [List.length_cons, List.length_append] at e ⊢; omega)
      simpa using this
    rw [h1, dt_move m ys (xs ++ [y]) a zs (by simp only [List.length_cons, List.length_append, List.length_nil] at e ⊢; omega)]
    simp [Int.pow_succ, Int.neg_mul]
/-- two of a list exchanged -/
theorem dt_swap (m : Nat) (xs : List V) (a : V) (ys : List V) (b : V) (zs : List V) (e : xs.length + ys.length + zs.length + 2 = m) :
    dt 0 m (xs ++ a :: ys ++ b :: zs) = - dt 0 m (xs ++ b :: ys ++ a :: zs) := by
  have h1 := dt_move m ys xs a (b :: zs) (by simp only [List.length_cons]; omega)
  have h2 := dt_alt m 0 (xs ++ ys) a b zs (by simp only [List.length_append]; omega)
  have h3 := dt_move m ys xs b (a :: zs) (by simp only [List.length_cons]; omega)
  rw [h1, h2, h3, Int.mul_neg]
theorem D_swap (m : Nat) (c : Nat → V) (i j : Nat) (hi : i < j) (hj : j < m) (u w : V) : D m (upd (upd c i u) j w) = - D m (upd (upd c i w) j u) := by
  have e : ∀ u w, vs (upd (upd c i u) j w) 0 m = vs c 0 i ++ u :: vs c (i + 1) (j - i - 1) ++ w :: vs c (j + 1) (m - j - 1) := by
    intro u w
    rw [vs_upd _ m j w hj, vs_upd c j i u hi]
    have : vs (upd c i u) (j + 1) (m - j - 1) = vs c (j + 1) (m - j - 1) := vs_congr fun k hk _ => by unfold upd; rw [if_neg (by omega)]
    rw [this]
  unfold D; rw [e, e]
  exact dt_swap m _ u _ w _ (by simp only [vs_len]; omega)
theorem upd_self (c : Nat → V) (i : Nat) : upd c i (c i) = c := by
  funext j; unfold upd; split
  · next h => rw [h]
  · rfl
theorem upd_comm (c : Nat → V) (i j : Nat) (h : i ≠ j) (u w : V) : upd (upd c i u) j w = upd (upd c j w) i u := by
  funext k; unfold upd; split <;> split <;> first | rfl | omega
theorem upd_upd (c : Nat → V) (i : Nat) (u w : V) : upd (upd c i u) i w = upd c i w := by
  funext k; unfold upd; split <;> rfl
theorem D_swp (m : Nat) (c : Nat → V) (i j : Nat) (h : i ≠ j) (hi : i < m) (hj : j < m) (u w : V) : D m (upd (upd c i u) j w) = - D m (upd (upd c i w) j u) := by
  rcases Nat.lt_or_gt_of_ne h with h' | h'
  · exact D_swap m c i j h' hj u w
  · rw [upd_comm c i j h, upd_comm c i j h, D_swap m c j i h' hi w u]
theorem D_dup (m : Nat) (c : Nat → V) (i j : Nat) (h : i ≠ j) (hi : i < m) (hj : j < m) (e : c i = c j) : D m c = 0 := by
  have h1 := D_swp m c i j h hi hj (c i) (c i)
  have h2 : upd (upd c i (c i)) j (c i) = c := by rw [upd_self, e, upd_self]
  rw [h2] at h1; omega
theorem T_sum (m j : Nat) (x : V) (c : Nat → V) : ∀ (n a : Nat), a + n = m → T 0 m j x (vs c 0 a) (vs c a n) + sumN a (fun i => c i j * D m (upd c i x)) = sumN m (fun i => c i j * D m (upd c i x))
  | 0, a, e => by
    have : a = m := by omega
    subst this
    show 0 + _ = _
    omega
  | n + 1, a, e => by
    have ih := T_sum m j x c n (a + 1) (by omega)
    have e1 : vs c 0 a ++ [c a] = vs c 0 (a + 1) := by rw [vs_app c 0 a 1]; simp [vs]
    have e2 : dt 0 m (vs c 0 a ++ x :: vs c (a + 1) n) = D m (upd c a x) := by
      unfold D; rw [vs_upd c m a x (by omega)]
      have : m - a - 1 = n := by omega
      rw [this]
    rw [vs_cons]
    show c a j * dt 0 m (vs c 0 a ++ x :: vs c (a + 1) n) + T 0 m j x (vs c 0 a ++ [c a]) (vs c (a + 1) n) + _ = _
    rw [e1, e2, ← ih]
    show _ = _ + (sumN a _ + c a j * D m (upd c a x))
    omega
/-- Cramer's rule -/
theorem cramer (m j : Nat) (x : V) (c : Nat → V) (h : j < m) : D m c * x j = sumN m (fun i => c i j * D m (upd c i x)) := by
  have h1 := cram 0 m j x (vs c 0 m) (Nat.zero_le _) (by omega) (vs_len _ _ _)
  have h2 := T_sum m j x c m 0 (by omega)
  have h3 : vs c 0 0 = [] := rfl
  rw [h3] at h2
  unfold D at h2 ⊢
  rw [h1, ← h2]; show _ = _ + 0; omega
/-- many vectors added, at a place -/
def comb : Nat → (Nat → Int) → (Nat → V) → V
  | 0, _, _ => fun _ => 0
  | n + 1, a, v => lin 1 (a n) (comb n a v) (v n)
theorem comb_at : ∀ (n : Nat) (a : Nat → Int) (v : Nat → V) (k : Nat), comb n a v k = sumN n (fun i => a i * v i k)
  | 0, _, _, _ => rfl
  | n + 1, a, v, k => by show 1 * comb n a v k + a n * v n k = _ + a n * v n k; rw [comb_at n a v k]; omega
theorem D_zero (m : Nat) (c : Nat → V) (i : Nat) (h : i < m) : D m (upd c i (fun _ => 0)) = 0 := by
  have h1 := D_lin m c i h 0 0 (fun _ => 0) (fun _ => 0)
  have h2 : lin 0 0 (fun _ => 0) (fun _ => 0) = fun _ => 0 := by funext k; unfold lin; omega
  rw [h2] at h1; omega
theorem D_comb (m : Nat) (c : Nat → V) (i : Nat) (h : i < m) : ∀ (n : Nat) (a : Nat → Int) (v : Nat → V), D m (upd c i (comb n a v)) = sumN n (fun k => a k * D m (upd c i (v k)))
  | 0, a, v => D_zero m c i h
  | n + 1, a, v => by
    show D m (upd c i (lin 1 (a n) (comb n a v) (v n))) = _ + a n * D m (upd c i (v n))
    rw [D_lin m c i h, D_comb m c i h n a v]; omega
theorem sumN_add : ∀ (n : Nat) (f g : Nat → Int), sumN n (fun i => f i + g i) = sumN n f + sumN n g
  | 0, _, _ => rfl
  | n + 1, f, g => by show sumN n (fun i => f i + g i) + (f n + g n) = sumN n f + f n + (sumN n g + g n); rw [sumN_add n f g]; omega
theorem sumN_mul : ∀ (n : Nat) (a : Int) (f : Nat → Int), sumN n (fun i => a * f i) = a * sumN n f
  | 0, a, _ => by show 0 = a * 0; simp
  | n + 1, a, f => by show sumN n (fun i => a * f i) + a * f n = a * (sumN n f + f n); rw [sumN_mul n a f, Int.mul_add]
theorem sumN_zero : ∀ (n : Nat) (f : Nat → Int), (∀ i, i < n → f i = 0) → sumN n f = 0
  | 0, _, _ => rfl
  | n + 1, f, h => by show sumN n f + f n = 0; rw [sumN_zero n f (fun i hi => h i (by omega)), h n (by omega)]; rfl
theorem sumN_one : ∀ (n p : Nat) (f : Nat → Int), p < n → (∀ i, i < n → i ≠ p → f i = 0) → sumN n f = f p
  | 0, p, f, hp, _ => by omega
  | n + 1, p, f, hp, h => by
    show sumN n f + f n = f p
    by_cases e : p = n
    · subst e; rw [sumN_zero p f (fun i hi => h i (by omega) (by omega))]; omega
    · rw [sumN_one n p f (by omega) (fun i hi hn => h i (by omega) hn), h n (by omega) (by omega)]; omega
theorem sumN_two (n p r : Nat) (f : Nat → Int) (hp : p < n) (hr : r < n) (hpr : p ≠ r) (h : ∀ i, i < n → i ≠ p → i ≠ r → f i = 0) : sumN n f = f p + f r := by
  have e : sumN n f = sumN n (fun i => (if i = p then f p else 0) + (if i = r then f r else 0)) := sumN_congr n fun i hi => by
    by_cases h1 : i = p
    · subst h1; rw [if_pos rfl, if_neg hpr]; omega
    · rw [if_neg h1]
      by_cases h2 : i = r
      · subst h2; rw [if_pos rfl]; omega
      · rw [if_neg h2, h i hi h1 h2]; rfl
  rw [e, sumN_add, sumN_one n p (fun i => if i = p then f p else 0) hp (fun i _ hn => if_neg hn), sumN_one n r (fun i => if i = r then f r else 0) hr (fun i _ hn => if_neg hn)]
  simp
/-- vectors of m coordinates, no more -/
def Low (m : Nat) (v : V) : Prop := ∀ k, m ≤ k → v k = 0
theorem cramV (m : Nat) (x : V) (c : Nat → V) (hx : Low m x) (hc : ∀ i, i < m → Low m (c i)) : lin (D m c) 0 x x = comb m (fun i => D m (upd c i x)) c := by
  funext k
  rw [comb_at]
  unfold lin
  rw [Int.zero_mul, Int.add_zero]
  rcases Nat.lt_or_ge k m with h | h
  · rw [cramer m k x c h]; exact sumN_congr m fun i _ => Int.mul_comm _ _
  · rw [hx k h, Int.mul_zero, sumN_zero m _ (fun i hi => by rw [hc i hi k h, Int.mul_zero])]
/-- a linear form of the vectors, at Cramer's rule -/
theorem cramF (m : Nat) (x : V) (c d : Nat → V) (p : Nat) (hp : p < m) (hx : Low m x) (hc : ∀ i, i < m → Low m (c i)) :
    D m c * D m (upd d p x) = sumN m (fun i => D m (upd c i x) * D m (upd d p (c i))) := by
  have h := D_lin m d p hp (D m c) 0 x x
  rw [Int.zero_mul, Int.add_zero] at h
  rw [← h, cramV m x c hx hc, D_comb m d p hp]
theorem pivot (m : Nat) (c : Nat → V) (p r : Nat) (hp : p < m) (hr : r < m) (h : r ≠ p) (x y : V) (hy : Low m y) (hc : ∀ i, i < m → Low m (c i)) :
    D m c * D m (upd (upd c p y) r x) = D m (upd c r x) * D m (upd c p y) - D m (upd c r y) * D m (upd c p x) := by
  have h0 := cramF m y c (upd c r x) p hp hy hc
  rw [sumN_two m p r _ hp hr (fun e => h e.symm)] at h0
  · have e1 : upd (upd c r x) p (c p) = upd c r x := by rw [upd_comm c r p h, upd_self]
    have e2 : D m (upd (upd c r x) p (c r)) = - D m (upd c p x) := by
      rw [D_swp m c r p h hr hp, upd_self]
    have e3 : upd (upd c p y) r x = upd (upd c r x) p y := (upd_comm c r p h _ _).symm
    rw [e3, h0, e1, e2, Int.mul_comm (D m (upd c p y)), Int.mul_neg]; omega
  · intro i hi h1 h2
    have : D m (upd (upd c r x) p (c i)) = 0 := by
      refine D_dup m _ p i (fun e => h1 e.symm) hp hi ?_
      unfold upd; rw [if_pos rfl, if_neg h1, if_neg h2]
    rw [this, Int.mul_zero]
def setN (c : Nat → Nat) (p q : Nat) : Nat → Nat := fun j => if j = p then q else c j
def cb (b : Nat → V) (c : Nat → Nat) : Nat → V := fun i => b (c i)
theorem cb_setN (b : Nat → V) (c : Nat → Nat) (p q : Nat) : cb b (setN c p q) = upd (cb b c) p (b q) := by
  funext i; unfold cb setN upd; split <;> rfl
structure Sys where
  m : Nat
  n : Nat
  b : Nat → V
  low : ∀ j, Low (m + 1) (b j)
  unit : ∀ k, k ≤ m → ∀ i, b (n + k) i = if i = k then 1 else 0
def Sys.s (Y : Sys) (c : Nat → Nat) (g : Int) : Int := g * D (Y.m + 1) (cb Y.b c)
def Sys.L (Y : Sys) (c : Nat → Nat) (g : Int) (r j : Nat) : Int := g * D (Y.m + 1) (upd (cb Y.b c) r (Y.b j))
/-- a basis: the last column stays -/
structure Ok (Y : Sys) (c : Nat → Nat) (g : Int) : Prop where
  g1 : g * g = 1
  pos : 0 < Y.s c g
  last : c Y.m = Y.n + Y.m
  lt : ∀ r, r < Y.m → c r < Y.n + Y.m
theorem L_own {Y : Sys} {c g} (r : Nat) : Y.L c g r (c r) = Y.s c g := by
  unfold Sys.L Sys.s
  have : upd (cb Y.b c) r (Y.b (c r)) = cb Y.b c := upd_self (cb Y.b c) r
  rw [this]
theorem L_other {Y : Sys} {c g} (r i : Nat) (hr : r ≤ Y.m) (hi : i ≤ Y.m) (h : i ≠ r) : Y.L c g r (c i) = 0 := by
  unfold Sys.L
  rw [D_dup (Y.m + 1) _ r i (fun e => h e.symm) (by omega) (by omega), Int.mul_zero]
  unfold upd; rw [if_pos rfl, if_neg h]; rfl
theorem c_inj {Y : Sys} {c g} (h : Ok Y c g) {r i : Nat} (hr : r ≤ Y.m) (hi : i ≤ Y.m) (e : c r = c i) : r = i := by
  rcases Nat.decEq r i with h' | h'
  · have h1 := L_own (Y := Y) (c := c) (g := g) r
    rw [e, L_other r i hr hi (fun e => h' e.symm)] at h1
    have := h.pos
    omega
  · exact h'
theorem cb_low {Y : Sys} {c} : ∀ i, i < Y.m + 1 → Low (Y.m + 1) (cb Y.b c i) := fun i _ => Y.low _
/-- one exchange -/
theorem L_step {Y : Sys} {c g} (h : Ok Y c g) {p q : Nat} (hp : p < Y.m) (hq : q < Y.n) (e : Int) (he : e * e = 1) (ht : 0 < e * Y.L c g p q) :
    Ok Y (setN c p q) (e * g) ∧ Y.s (setN c p q) (e * g) = e * Y.L c g p q ∧
    (∀ j, Y.L (setN c p q) (e * g) p j = e * Y.L c g p j) ∧
    (∀ r j, r ≤ Y.m → r ≠ p → Y.s c g * Y.L (setN c p q) (e * g) r j = Y.L c g r j * (e * Y.L c g p q) - Y.L c g r q * (e * Y.L c g p j)) := by
  have es : Y.s (setN c p q) (e * g) = e * Y.L c g p q := by
    unfold Sys.s Sys.L; rw [cb_setN, Int.mul_assoc]
  refine ⟨⟨?_, by rw [es]; exact ht, ?_, ?_⟩, es, ?_, ?_⟩
  · rw [show e * g * (e * g) = e * e * (g * g) by rw [Int.mul_assoc, Int.mul_left_comm g e g, ← Int.mul_assoc], he, h.g1]; rfl
  · show (if Y.m = p then q else c Y.m) = _; rw [if_neg (by omega), h.last]
  · intro r hr; show (if r = p then q else c r) < _; split
    · omega
    · exact h.lt r hr
  · intro j; unfold Sys.L; rw [cb_setN, upd_upd, Int.mul_assoc]
  · intro r j hr hrp
    have hh := pivot (Y.m + 1) (cb Y.b c) p r (by omega) (by omega) hrp (Y.b j) (Y.b q) (Y.low q) cb_low
    unfold Sys.s Sys.L
    rw [cb_setN]
    generalize D (Y.m + 1) (upd (upd (cb Y.b c) p (Y.b q)) r (Y.b j)) = X at hh ⊢
    generalize D (Y.m + 1) (cb Y.b c) = A at hh ⊢
    generalize D (Y.m + 1) (upd (cb Y.b c) r (Y.b j)) = B at hh ⊢
    generalize D (Y.m + 1) (upd (cb Y.b c) p (Y.b q)) = C at hh ⊢
    generalize D (Y.m + 1) (upd (cb Y.b c) r (Y.b q)) = E at hh ⊢
    generalize D (Y.m + 1) (upd (cb Y.b c) p (Y.b j)) = F at hh ⊢
    have g2 : ∀ a b : Int, g * a * (e * (g * b)) = e * (a * b) := by
      intro a b
      have : g * a * (e * (g * b)) = g * g * (e * (a * b)) := by
        simp only [Int.mul_assoc, Int.mul_left_comm, Int.mul_comm]
      rw [this, h.g1, Int.one_mul]
    have g3 : g * A * (e * g * X) = e * (A * X) := by
      rw [Int.mul_assoc e g X, g2]
    rw [g2, g2, g3, hh, Int.mul_sub]
/-- a column by the basis, in any other basis' row -/
theorem L_cross {Y : Sys} {c g c' g'} (h : Ok Y c g) (r q : Nat) (hr : r ≤ Y.m) :
    Y.s c g * Y.L c' g' r q = sumN (Y.m + 1) (fun i => Y.L c g i q * Y.L c' g' r (c i)) := by
  have hh := cramF (Y.m + 1) (Y.b q) (cb Y.b c) (cb Y.b c') r (by omega) (Y.low q) cb_low
  unfold Sys.s Sys.L
  have : g * D (Y.m + 1) (cb Y.b c) * (g' * D (Y.m + 1) (upd (cb Y.b c') r (Y.b q))) = g * g' * (D (Y.m + 1) (cb Y.b c) * D (Y.m + 1) (upd (cb Y.b c') r (Y.b q))) := by
    simp only [Int.mul_assoc, Int.mul_left_comm, Int.mul_comm]
  rw [this, hh, ← sumN_mul]
  refine sumN_congr _ fun i _ => ?_
  show _ = g * _ * (g' * D (Y.m + 1) (upd (cb Y.b c') r (cb Y.b c i)))
  simp only [Int.mul_assoc, Int.mul_left_comm, Int.mul_comm]
/-- coordinates of a column by the basis -/
theorem L_coord {Y : Sys} {c g} (q k : Nat) (hk : k ≤ Y.m) : Y.s c g * Y.b q k = sumN (Y.m + 1) (fun i => Y.L c g i q * Y.b (c i) k) := by
  have hh := cramer (Y.m + 1) k (Y.b q) (cb Y.b c) (by omega)
  unfold Sys.s Sys.L
  rw [Int.mul_assoc, hh, ← sumN_mul]
  refine sumN_congr _ fun i _ => ?_
  show g * (Y.b (c i) k * _) = _
  simp only [Int.mul_assoc, Int.mul_left_comm, Int.mul_comm]
/-- a row by its last columns -/
theorem L_units {Y : Sys} {c g} (r j : Nat) (hr : r ≤ Y.m) : Y.L c g r j = sumN (Y.m + 1) (fun k => Y.b j k * Y.L c g r (Y.n + k)) := by
  have e : Y.b j = comb (Y.m + 1) (Y.b j) (fun k => Y.b (Y.n + k)) := by
    funext i
    rw [comb_at]
    rcases Nat.lt_or_ge i (Y.m + 1) with h | h
    · rw [sumN_one _ i _ h]
      · rw [Y.unit i (by omega), if_pos rfl, Int.mul_one]
      · intro k hk hn; rw [Y.unit k (by omega), if_neg (fun e => hn e.symm), Int.mul_zero]
    · rw [Y.low j i h, sumN_zero]
      intro k hk; rw [Y.low _ i h, Int.mul_zero]
  have h2 := D_comb (Y.m + 1) (cb Y.b c) r (by omega) (Y.m + 1) (Y.b j) (fun k => Y.b (Y.n + k))
  rw [← e] at h2
  unfold Sys.L
  rw [h2, ← sumN_mul]
  exact sumN_congr _ fun k _ => Int.mul_left_comm _ _ _
structure Step (Y : Sys) (g : Int) (c : Nat → Nat) (p q : Nat) : Prop where
  hp : p < Y.m
  hq : q < Y.n
  short : 0 < Y.L c g Y.m q
  first : ∀ j, j < q → Y.L c g Y.m j ≤ 0
  top : 0 < Y.L c g p q
  least : ∀ r, r < Y.m → 0 < Y.L c g r q → c p ≤ c r
theorem bland {Y : Sys} {g : Int} {c c' : Nat → Nat} {p q p' t : Nat} (h : Ok Y c g) (h' : Ok Y c' g) (hs : Step Y g c p q) (hs' : Step Y g c' p' t)
    (hcp : c p = t) (hqt : q ≤ t) (hhi : ∀ r, r < Y.m → t < c r → ∃ i, i < Y.m ∧ c' i = c r) : False := by
  have hne : q ≠ t := by
    intro e
    have h1 := L_other (Y := Y) (c := c) (g := g) Y.m p (Nat.le_refl _) (by have := hs.hp; omega) (by have := hs.hp; omega)
    rw [hcp, ← e] at h1
    have := hs.short
    omega
  have h1 := L_cross (c' := c') (g' := g) h Y.m q (Nat.le_refl _)
  have h2 : Y.L c g Y.m q * Y.L c' g Y.m (c Y.m) > 0 := by
    have e : Y.L c' g Y.m (c Y.m) = Y.s c' g := by rw [h.last, ← h'.last]; exact L_own _
    rw [e]; exact Int.mul_pos hs.short h'.pos
  have h3 : Y.s c g * Y.L c' g Y.m q ≤ 0 := by
    have := Int.mul_le_mul_of_nonneg_left (hs'.first q (by omega)) (Int.le_of_lt h.pos)
    rw [Int.mul_zero] at this; exact this
  have h4 : ∀ i, i < Y.m → 0 ≤ Y.L c g i q * Y.L c' g Y.m (c i) := by
    intro i hi
    rcases Nat.lt_trichotomy (c i) t with h5 | h5 | h5
    · have a1 := hs'.first (c i) h5
      have a2 : Y.L c g i q ≤ 0 := by
        rcases Int.lt_or_le 0 (Y.L c g i q) with h6 | h6
        · have := hs.least i hi h6; omega
        · exact h6
      exact Int.mul_nonneg_of_nonpos_of_nonpos a2 a1
    · have : i = p := c_inj h (by omega) (by have := hs.hp; omega) (by rw [h5, hcp])
      rw [this, hcp]
      exact Int.mul_nonneg (Int.le_of_lt hs.top) (Int.le_of_lt hs'.short)
    · obtain ⟨i', hi', e⟩ := hhi i hi h5
      rw [← e, L_other Y.m i' (Nat.le_refl _) (by omega) (by omega), Int.mul_zero]
      exact Int.le_refl _
  have h5 : ∀ k, k ≤ Y.m → 0 ≤ sumN k (fun i => Y.L c g i q * Y.L c' g Y.m (c i)) := by
    intro k
    induction k with
    | zero => intro _; exact Int.le_refl _
    | succ k ih => intro hk; exact Int.add_nonneg (ih (by omega)) (h4 k (by omega))
  have h6 := h5 Y.m (Nat.le_refl _)
  have h7 : sumN (Y.m + 1) (fun i => Y.L c g i q * Y.L c' g Y.m (c i)) = sumN Y.m (fun i => Y.L c g i q * Y.L c' g Y.m (c i)) + Y.L c g Y.m q * Y.L c' g Y.m (c Y.m) := rfl
  omega
/-- a run of exchanges -/
structure Runs (Y : Sys) (g : Int) (N : Nat) (C : Nat → Nat → Nat) (P Q : Nat → Nat) : Prop where
  ok : ∀ i, i ≤ N → Ok Y (C i) g
  st : ∀ i, i < N → Step Y g (C i) (P i) (Q i)
  nx : ∀ i, i < N → C (i + 1) = setN (C i) (P i) (Q i)
/-- is t in the basis -/
def Inb (Y : Sys) (c : Nat → Nat) (t : Nat) : Prop := ∃ i, i < Y.m ∧ c i = t
theorem out_of {Y : Sys} {g c p q} (h : Ok Y c g) (hs : Step Y g c p q) : ¬ Inb Y c q := by
  rintro ⟨i, hi, e⟩
  have := L_other (Y := Y) (c := c) (g := g) Y.m i (Nat.le_refl _) (by omega) (by omega)
  rw [e] at this; have := hs.short; omega
theorem inb_next {Y : Sys} {g c p q t} (h : Ok Y c g) (hs : Step Y g c p q) (h1 : c p ≠ t) (hq : q ≠ t) : Inb Y (setN c p q) t ↔ Inb Y c t := by
  constructor
  · rintro ⟨i, hi, e⟩
    unfold setN at e
    split at e
    · exact absurd e hq
    · exact ⟨i, hi, e⟩
  · rintro ⟨i, hi, e⟩
    refine ⟨i, hi, ?_⟩
    unfold setN; rw [if_neg]
    · exact e
    · intro e'; rw [e'] at e; exact h1 e
theorem inb_many {Y g N C P Q t} (h : Runs Y g N C P Q) (a : Nat) : ∀ k, a + k ≤ N → (∀ i, a ≤ i → i < a + k → C i (P i) ≠ t ∧ Q i ≠ t) → (Inb Y (C (a + k)) t ↔ Inb Y (C a) t)
  | 0, _, _ => Iff.rfl
  | k + 1, hk, hn => by
    have h1 := hn (a + k) (by omega) (by omega)
    have h2 : C (a + (k + 1)) = setN (C (a + k)) (P (a + k)) (Q (a + k)) := h.nx (a + k) (by omega)
    rw [h2, inb_next (h.ok _ (by omega)) (h.st _ (by omega)) h1.1 h1.2]
    exact inb_many h a k (by omega) (fun i h3 h4 => hn i h3 (by omega))
/-- no place both enters and leaves where all others that change are less -/
theorem not_both {Y g N C P Q t} (h : Runs Y g N C P Q) (a b : Nat) (hb : b ≤ N) (hall : ∀ i, a ≤ i → i < b → C i (P i) ≤ t ∧ Q i ≤ t)
    (i i' : Nat) (h1 : a ≤ i) (h2 : i < b) (h3 : a ≤ i') (h4 : i' < b) (hl : C i (P i) = t) (he : Q i' = t) : False := by
  refine bland (h.ok i (by omega)) (h.ok i' (by omega)) (h.st i (by omega)) (he ▸ h.st i' (by omega)) hl (hall i h1 h2).2 ?_
  intro r hr hlt
  have hi : Inb Y (C i) (C i r) := ⟨r, hr, rfl⟩
  rcases Nat.le_total i i' with h5 | h5
  · have := inb_many h i (i' - i) (t := C i r) (by omega) (fun k hk hk' => ⟨by have := (hall k (by omega) (by omega)).1; omega, by have := (hall k (by omega) (by omega)).2; omega⟩)
    rw [show i + (i' - i) = i' by omega] at this
    exact this.2 hi
  · have := inb_many h i' (i - i') (t := C i r) (by omega) (fun k hk hk' => ⟨by have := (hall k (by omega) (by omega)).1; omega, by have := (hall k (by omega) (by omega)).2; omega⟩)
    rw [show i' + (i - i') = i by omega] at this
    exact this.1 hi
theorem seg {Y g N C P Q} (h : Runs Y g N C P Q) : ∀ t a b, a ≤ b → b ≤ N → (∀ i, a ≤ i → i < b → C i (P i) < t ∧ Q i < t) → b - a < 2 ^ t
  | 0, a, b, hab, hb, hall => by
    rcases Nat.lt_or_ge a b with h1 | h1
    · have := (hall a (Nat.le_refl _) h1).2; omega
    · simp; omega
  | t + 1, a, b, hab, hb, hall => by
    have hle : ∀ i, a ≤ i → i < b → C i (P i) ≤ t ∧ Q i ≤ t := fun i h1 h2 => ⟨by have := (hall i h1 h2).1; omega, by have := (hall i h1 h2).2; omega⟩
    have hp : 2 ^ (t + 1) = 2 ^ t + 2 ^ t := by rw [Nat.pow_succ]; omega
    by_cases hx : ∃ i, a ≤ i ∧ i < b ∧ (C i (P i) = t ∨ Q i = t)
    · obtain ⟨i, h1, h2, h3⟩ := hx
      -- no other one changes t
      have hno : ∀ i i', a ≤ i → i < i' → i' < b → (C i (P i) = t ∨ Q i = t) → (∀ k, i < k → k < i' → ¬ (C k (P k) = t ∨ Q k = t)) → ¬ (C i' (P i') = t ∨ Q i' = t) := by
        intro i i' h1 h12 h2 h3 hmid h4
        have hmany := inb_many h (i + 1) (i' - (i + 1)) (t := t) (by omega) (fun k hk hk' => by
          have := hmid k (by omega) (by omega)
          exact ⟨fun e => this (.inl e), fun e => this (.inr e)⟩)
        rw [show i + 1 + (i' - (i + 1)) = i' by omega, h.nx i (by omega)] at hmany
        rcases h3 with h3 | h3 <;> rcases h4 with h4 | h4
        · -- leaves twice
          have : Inb Y (C i') t := ⟨P i', (h.st i' (by omega)).hp, h4⟩
          obtain ⟨k, hk, e⟩ := hmany.1 this
          unfold setN at e
          split at e
          · exact out_of (h.ok i (by omega)) (h.st i (by omega)) ⟨P i, (h.st i (by omega)).hp, by rw [h3, e]⟩
          · next hn => exact hn (c_inj (h.ok i (by omega)) (by omega) (by have := (h.st i (by omega)).hp; omega) (by rw [e, h3]))
        · exact not_both h a b hb hle i i' h1 (by omega) (by omega) h2 h3 h4
        · exact not_both h a b hb hle i' i (by omega) h2 h1 (by omega) h4 h3
        · refine out_of (h.ok i' (by omega)) (h.st i' (by omega)) ?_
          rw [h4]
          refine hmany.2 ⟨P i, (h.st i (by omega)).hp, ?_⟩
          unfold setN; rw [if_pos rfl, h3]
      have hall2 : ∀ i i', a ≤ i → i < i' → i' < b → (C i (P i) = t ∨ Q i = t) → ¬ (C i' (P i') = t ∨ Q i' = t) := by
        intro i i' h1 h12 h2 h3
        induction hd : i' - i using Nat.strongRecOn generalizing i' with
        | _ d ih =>
          refine hno i i' h1 h12 h2 h3 fun k hk hk' => ?_
          exact ih (k - i) (by omega) k hk (by omega) rfl
      have s1 := seg h t a i h1 (by omega) (fun k hk hk' => by
        have h5 := hle k hk (by omega)
        have h6 : ¬ (C k (P k) = t ∨ Q k = t) := fun e => hall2 k i hk hk' h2 e h3
        exact ⟨by have := fun e => h6 (.inl e); omega, by have := fun e => h6 (.inr e); omega⟩)
      have s2 := seg h t (i + 1) b (by omega) hb (fun k hk hk' => by
        have h5 := hle k (by omega) hk'
        have h6 : ¬ (C k (P k) = t ∨ Q k = t) := hall2 i k h1 (by omega) hk' h3
        exact ⟨by have := fun e => h6 (.inl e); omega, by have := fun e => h6 (.inr e); omega⟩)
      omega
    · have := seg h t a b hab hb (fun k hk hk' => by
        have h5 := hle k hk hk'
        have h6 : ¬ (C k (P k) = t ∨ Q k = t) := fun e => hx ⟨k, hk, hk', e⟩
        exact ⟨by have := fun e => h6 (.inl e); omega, by have := fun e => h6 (.inr e); omega⟩)
      omega
theorem runs_bound {Y g N C P Q} (h : Runs Y g N C P Q) : N < 2 ^ (Y.n + Y.m) := by
  have := seg h (Y.n + Y.m) 0 N (Nat.zero_le _) (Nat.le_refl _) (fun i _ hi => ⟨(h.ok i (by omega)).lt _ (h.st i hi).hp, by have := (h.st i hi).hq; omega⟩)
  omega
/-- k more exchanges can follow -/
inductive Long (Y : Sys) (g : Int) : Nat → (Nat → Nat) → Prop
  | zero (c) : Ok Y c g → Long Y g 0 c
  | succ {k c p q} : Ok Y c g → Step Y g c p q → Long Y g k (setN c p q) → Long Y g (k + 1) c
theorem long_runs {Y g} : ∀ {k c}, Long Y g k c → ∃ C P Q, C 0 = c ∧ Runs Y g k C P Q
  | _, c, .zero _ h => ⟨fun _ => c, fun _ => 0, fun _ => 0, rfl, ⟨fun _ _ => h, fun i hi => by omega, fun i hi => by omega⟩⟩
  | _, c, .succ (k := k) (p := p) (q := q) h hs hl => by
    obtain ⟨C, P, Q, e, hr⟩ := long_runs hl
    refine ⟨fun i => match i with | 0 => c | i + 1 => C i, fun i => match i with | 0 => p | i + 1 => P i, fun i => match i with | 0 => q | i + 1 => Q i, rfl, ⟨?_, ?_, ?_⟩⟩
    · intro i hi; cases i with | zero => exact h | succ i => exact hr.ok i (by omega)
    · intro i hi; cases i with | zero => exact hs | succ i => exact hr.st i (by omega)
    · intro i hi; cases i with | zero => exact e | succ i => exact hr.nx i (by omega)
/-- every run ends: at most so many more exchanges -/
def Ends (Y : Sys) (g : Int) (k : Nat) (c : Nat → Nat) : Prop := ¬ Long Y g k c
theorem ends_all {Y : Sys} {g : Int} (c) : Ends Y g (2 ^ (Y.n + Y.m)) c := fun h => by
  obtain ⟨C, P, Q, _, hr⟩ := long_runs h
  have := runs_bound hr
  omega
theorem ends_step {Y : Sys} {g k c p q} (h : Ends Y g (k + 1) c) (hk : Ok Y c g) (hs : Step Y g c p q) : Ends Y g k (setN c p q) := fun hl => h (.succ hk hs hl)
theorem ends_zero {Y : Sys} {g c} (h : Ends Y g 0 c) (hk : Ok Y c g) : False := h (.zero c hk)
theorem D_unit : ∀ (m k : Nat) (c : Nat → V) (a : Nat), (∀ i j, i < m → c (a + i) (k + j) = if j = i then 1 else 0) → dt k m (vs c a m) = 1
  | 0, _, _, _, _ => rfl
  | m + 1, k, c, a, h => by
    rw [vs_cons]
    show c a k * dt (k + 1) m (vs c (a + 1) m) - S (vs c (a + 1) m) (fun y r => y k * dt (k + 1) m (c a :: r)) = 1
    have h0 := h 0 0 (by omega)
    rw [if_pos rfl] at h0
    have e1 : dt (k + 1) m (vs c (a + 1) m) = 1 := D_unit m (k + 1) c (a + 1) fun i j hi => by
      have := h (i + 1) (j + 1) (by omega)
      rw [show a + (i + 1) = a + 1 + i by omega, show k + (j + 1) = k + 1 + j by omega] at this
      rw [this]; by_cases e : j = i
      · rw [if_pos e, if_pos (by omega)]
      · rw [if_neg e, if_neg (by omega)]
    have e2 : S (vs c (a + 1) m) (fun y r => y k * dt (k + 1) m (c a :: r)) = 0 := by
      have hz : ∀ (l : List V) (f : V → List V → Int), (∀ v, v ∈ l → v k = 0) → S l (fun y r => y k * f y r) = 0 := by
        intro l
        induction l with
        | nil => intro _ _; rfl
        | cons x xs ih =>
          intro f hv
          show x k * f x xs - S xs (fun y r => y k * f y (x :: r)) = 0
          rw [hv x List.mem_cons_self, ih (fun y r => f y (x :: r)) (fun v hv' => hv v (List.mem_cons_of_mem _ hv'))]; simp
      refine hz _ (fun y r => dt (k + 1) m (c a :: r)) fun v hv => ?_
      unfold vs at hv
      obtain ⟨i, hi, e⟩ := List.mem_map.1 hv
      have hi' := List.mem_range'_1.1 hi
      have := h (i - a) 0 (by omega)
      rw [show a + (i - a) = i by omega, if_neg (by omega)] at this
      rw [← e]; exact this
    rw [e1, e2]
    have : c a k = 1 := h0
    rw [this]; rfl
theorem D_units (Y : Sys) : D (Y.m + 1) (cb Y.b (fun i => Y.n + i)) = 1 :=
  D_unit (Y.m + 1) 0 _ 0 fun i j hi => by
    show Y.b (Y.n + (0 + i)) (0 + j) = _
    rw [Y.unit (0 + i) (by omega)]
    by_cases e : j = i
    · rw [if_pos (by omega), if_pos e]
    · rw [if_neg (by omega), if_neg e]
def c0 (Y : Sys) : Nat → Nat := fun i => Y.n + i
theorem ok0 (Y : Sys) : Ok Y (c0 Y) 1 ∧ Y.s (c0 Y) 1 = 1 ∧ ∀ r j, r ≤ Y.m → Y.L (c0 Y) 1 r j = Y.b j r := by
  have hs : Y.s (c0 Y) 1 = 1 := by unfold Sys.s; rw [Int.one_mul]; exact D_units Y
  refine ⟨⟨rfl, by rw [hs]; decide, rfl, fun r hr => by show Y.n + r < _; omega⟩, hs, fun r j hr => ?_⟩
  have h := L_coord (Y := Y) (c := c0 Y) (g := 1) j r hr
  rw [hs, Int.one_mul, sumN_one _ r _ (by omega)] at h
  · rw [h]; show _ = _ * Y.b (Y.n + r) r; rw [Y.unit r hr, if_pos rfl, Int.mul_one]
  · intro i hi hn
    show _ * Y.b (Y.n + i) r = 0
    rw [Y.unit i (by omega), if_neg (fun e => hn e.symm), Int.mul_zero]
/-- all bounds hold: the numbers -/
theorem point_right {Y : Sys} {c g} (h : Ok Y c g) (j : Nat) (hj : Y.L c g Y.m j ≤ 0) :
    Y.s c g * Y.b j Y.m ≤ sumN Y.m (fun k => Y.b j k * (- Y.L c g Y.m (Y.n + k))) := by
  have h1 := L_units (Y := Y) (c := c) (g := g) Y.m j (Nat.le_refl _)
  have h2 : Y.L c g Y.m (Y.n + Y.m) = Y.s c g := by rw [← h.last]; exact L_own _
  have h3 : sumN (Y.m + 1) (fun k => Y.b j k * Y.L c g Y.m (Y.n + k)) = sumN Y.m (fun k => Y.b j k * Y.L c g Y.m (Y.n + k)) + Y.b j Y.m * Y.L c g Y.m (Y.n + Y.m) := rfl
  have h4 : sumN Y.m (fun k => Y.b j k * (- Y.L c g Y.m (Y.n + k))) = - sumN Y.m (fun k => Y.b j k * Y.L c g Y.m (Y.n + k)) := by
    have := sumN_mul Y.m (-1) (fun k => Y.b j k * Y.L c g Y.m (Y.n + k))
    rw [show sumN Y.m (fun k => Y.b j k * (- Y.L c g Y.m (Y.n + k))) = sumN Y.m (fun i => -1 * (Y.b j i * Y.L c g Y.m (Y.n + i))) from sumN_congr _ fun i _ => by rw [Int.mul_neg]; omega, this]
    omega
  rw [h4, Int.mul_comm]
  rw [h3, h2] at h1
  omega
/-- the weights that are written one by one -/
def wAt (Y : Sys) (c : Nat → Nat) (g : Int) (q : Nat) : Nat → Nat → Int
  | 0 => fun j => if j = q then Y.s c g else 0
  | r + 1 => fun j => if Y.L c g r q < 0 ∧ j = c r then - Y.L c g r q else wAt Y c g q r j
theorem wAt_out {Y : Sys} {c g q j} : ∀ k, j ≠ q → (∀ i, i < k → c i ≠ j) → wAt Y c g q k j = 0
  | 0, h, _ => if_neg h
  | k + 1, h, hn => by
    show (if _ then _ else _) = _
    rw [if_neg (fun e => hn k (by omega) e.2.symm)]
    exact wAt_out k h fun i hi => hn i (by omega)
theorem wAt_nonneg {Y : Sys} {c g q} (h : Ok Y c g) : ∀ k j, 0 ≤ wAt Y c g q k j
  | 0, j => by unfold wAt; split; exact Int.le_of_lt h.pos; exact Int.le_refl _
  | k + 1, j => by
    unfold wAt
    split
    · next e => omega
    · exact wAt_nonneg h k j
theorem wAt_sum {Y : Sys} {c g q} (h : Ok Y c g) (hq : q < Y.n) (hout : ¬ Inb Y c q) (hneg : ∀ r, r < Y.m → Y.L c g r q ≤ 0) (hin : ∀ r, r < Y.m → Y.L c g r q < 0 → c r < Y.n) (z : Nat → Int) :
    ∀ k, k ≤ Y.m → sumN Y.n (fun j => wAt Y c g q k j * z j) = Y.s c g * z q - sumN k (fun i => Y.L c g i q * z (c i))
  | 0, _ => by
    rw [sumN_one Y.n q _ hq]
    · show (if q = q then _ else _) * _ = _ - 0
      rw [if_pos rfl]; omega
    · intro i _ hn; show (if i = q then _ else _) * _ = _; rw [if_neg hn, Int.zero_mul]
  | k + 1, hk => by
    have ih := wAt_sum h hq hout hneg hin z k (by omega)
    have hs : sumN (k + 1) (fun i => Y.L c g i q * z (c i)) = sumN k (fun i => Y.L c g i q * z (c i)) + Y.L c g k q * z (c k) := rfl
    rcases Int.lt_or_eq_of_le (hneg k (by omega)) with h1 | h1
    · have e : sumN Y.n (fun j => wAt Y c g q (k + 1) j * z j) = sumN Y.n (fun j => wAt Y c g q k j * z j + (if j = c k then - Y.L c g k q * z j else 0)) := sumN_congr _ fun j _ => by
        show (if _ then _ else _) * _ = _
        by_cases e : j = c k
        · rw [if_pos ⟨h1, e⟩, if_pos e, wAt_out k]
          · omega
          · intro e'; exact hout ⟨k, by omega, by omega⟩
          · intro i hi e'; have := c_inj h (r := i) (i := k) (by omega) (by omega) (by omega); omega
        · rw [if_neg (fun x => e x.2), if_neg e]; omega
      rw [e, sumN_add, ih, sumN_one Y.n (c k) _ (hin k (by omega) h1) (fun i _ hn => if_neg hn), if_pos rfl, hs, Int.neg_mul]; omega
    · have e : sumN Y.n (fun j => wAt Y c g q (k + 1) j * z j) = sumN Y.n (fun j => wAt Y c g q k j * z j) := sumN_congr _ fun j _ => by
        show (if _ then _ else _) * _ = _
        rw [if_neg (fun x => by omega)]
      rw [e, ih, hs, h1]; omega
theorem clash_right {Y : Sys} {c g q} (h : Ok Y c g) (hq : q < Y.n) (hs : 0 < Y.L c g Y.m q) (hneg : ∀ r, r < Y.m → Y.L c g r q ≤ 0) (hin : ∀ r, r < Y.m → Y.L c g r q < 0 → c r < Y.n) :
    (∀ k, k < Y.m → sumN Y.n (fun j => wAt Y c g q Y.m j * Y.b j k) = 0) ∧ 0 < sumN Y.n (fun j => wAt Y c g q Y.m j * Y.b j Y.m) := by
  have hout : ¬ Inb Y c q := by
    rintro ⟨i, hi, e⟩
    have := L_other (Y := Y) (c := c) (g := g) Y.m i (Nat.le_refl _) (by omega) (by omega)
    rw [e] at this; omega
  have hl : ∀ k, k ≤ Y.m → Y.b (c Y.m) k = if k = Y.m then 1 else 0 := fun k hk => by rw [h.last, Y.unit Y.m (Nat.le_refl _)]
  have hsum : ∀ k, sumN (Y.m + 1) (fun i => Y.L c g i q * Y.b (c i) k) = sumN Y.m (fun i => Y.L c g i q * Y.b (c i) k) + Y.L c g Y.m q * Y.b (c Y.m) k := fun k => rfl
  constructor
  · intro k hk
    rw [wAt_sum h hq hout hneg hin (fun j => Y.b j k) Y.m (Nat.le_refl _), L_coord q k (by omega), hsum, hl k (by omega), if_neg (by omega)]; omega
  · rw [wAt_sum h hq hout hneg hin (fun j => Y.b j Y.m) Y.m (Nat.le_refl _), L_coord q Y.m (Nat.le_refl _), hsum, hl Y.m (Nat.le_refl _), if_pos rfl]; omega
end SX
def topS (i : Nat) : Stmt := PySem.Challenge.pw_rowcounts_k35_whole_points_or_clashes.main.body.getD i (.Pass ⟨0, 0, 0, 0⟩)
abbrev sis_integer : Stmt := topS 3
abbrev Nis_integer : List Str := ["value"]
theorem scis_integer : FnScope Nis_integer ["value"] (defScope sis_integer) := ⟨rfl, rfl, rfl, by decide +kernel, rfl, by decide +kernel, by decide +kernel⟩
abbrev sown_copy : Stmt := topS 5
abbrev Nown_copy : List Str := ["value", "item", "key"]
theorem scown_copy : FnScope Nown_copy ["value"] (defScope sown_copy) := ⟨rfl, rfl, rfl, by decide +kernel, rfl, by decide +kernel, by decide +kernel⟩
abbrev ssame : Stmt := topS 6
abbrev Nsame : List Str := ["one", "other", "key", "item", "against"]
theorem scsame : FnScope Nsame ["one", "other"] (defScope ssame) := ⟨rfl, rfl, rfl, by decide +kernel, rfl, by decide +kernel, by decide +kernel⟩
abbrev shas_same : Stmt := topS 7
abbrev slowest_terms : Stmt := topS 25
abbrev Nlowest_terms : List Str := ["numbers", "common", "number"]
theorem sclowest_terms : FnScope Nlowest_terms ["numbers"] (defScope slowest_terms) := ⟨rfl, rfl, rfl, by decide +kernel, rfl, by decide +kernel, by decide +kernel⟩
abbrev sis_form : Stmt := topS 26
abbrev Nis_form : List Str := ["value", "factor"]
theorem scis_form : FnScope Nis_form ["value"] (defScope sis_form) := ⟨rfl, rfl, rfl, by decide +kernel, rfl, by decide +kernel, by decide +kernel⟩
abbrev sis_bound_of : Stmt := topS 27
abbrev Nis_bound_of : List Str := ["value", "many"]
theorem scis_bound_of : FnScope Nis_bound_of ["value", "many"] (defScope sis_bound_of) := ⟨rfl, rfl, rfl, by decide +kernel, rfl, by decide +kernel, by decide +kernel⟩
abbrev snought_form : Stmt := topS 31
abbrev Nnought_form : List Str := ["many", "_"]
theorem scnought_form : FnScope Nnought_form ["many"] (defScope snought_form) := ⟨rfl, rfl, rfl, by decide +kernel, rfl, by decide +kernel, by decide +kernel⟩
abbrev sunit_form : Stmt := topS 32
abbrev Nunit_form : List Str := ["at", "many", "place"]
theorem scunit_form : FnScope Nunit_form ["at", "many"] (defScope sunit_form) := ⟨rfl, rfl, rfl, by decide +kernel, rfl, by decide +kernel, by decide +kernel⟩
abbrev stimes_form : Stmt := topS 34
abbrev Ntimes_form : List Str := ["number", "form", "factor"]
theorem sctimes_form : FnScope Ntimes_form ["number", "form"] (defScope stimes_form) := ⟨rfl, rfl, rfl, by decide +kernel, rfl, by decide +kernel, by decide +kernel⟩
abbrev sis_nought : Stmt := topS 28
abbrev Nis_nought : List Str := ["form", "factor"]
theorem scis_nought : FnScope Nis_nought ["form"] (defScope sis_nought) := ⟨rfl, rfl, rfl, by decide +kernel, rfl, by decide +kernel, by decide +kernel⟩
abbrev scheck_numbers_of : Stmt := topS 29
abbrev Ncheck_numbers_of : List Str := ["numbers", "many", "number"]
theorem sccheck_numbers_of : FnScope Ncheck_numbers_of ["numbers", "many"] (defScope scheck_numbers_of) := ⟨rfl, rfl, rfl, by decide +kernel, rfl, by decide +kernel, by decide +kernel⟩
abbrev svalue_of : Stmt := topS 30
abbrev Nvalue_of : List Str := ["form", "numbers", "factor", "number"]
theorem scvalue_of : FnScope Nvalue_of ["form", "numbers"] (defScope svalue_of) := ⟨rfl, rfl, rfl, by decide +kernel, rfl, by decide +kernel, by decide +kernel⟩
abbrev ssum_form : Stmt := topS 33
abbrev Nsum_form : List Str := ["one", "other", "factor", "more"]
theorem scsum_form : FnScope Nsum_form ["one", "other"] (defScope ssum_form) := ⟨rfl, rfl, rfl, by decide +kernel, rfl, by decide +kernel, by decide +kernel⟩
abbrev sshows_point : Stmt := topS 41
abbrev Nshows_point : List Str := ["bounds", "many", "value", "count", "bound"]
theorem scshows_point : FnScope Nshows_point ["bounds", "many", "value"] (defScope sshows_point) := ⟨rfl, rfl, rfl, by decide +kernel, rfl, by decide +kernel, by decide +kernel⟩
abbrev sshows_clash : Stmt := topS 42
abbrev Nshows_clash : List Str := ["bounds", "many", "value"]
theorem scshows_clash : FnScope Nshows_clash ["bounds", "many", "value"] (defScope sshows_clash) := ⟨rfl, rfl, rfl, by decide +kernel, rfl, by decide +kernel, by decide +kernel⟩
abbrev sare_clashing : Stmt := topS 44
abbrev Nare_clashing : List Str := ["bounds", "many", "weights", "total", "bound", "weight"]
theorem scare_clashing : FnScope Nare_clashing ["bounds", "many", "weights"] (defScope sare_clashing) := ⟨rfl, rfl, rfl, by decide +kernel, rfl, by decide +kernel, by decide +kernel⟩
abbrev ssettled : Stmt := topS 40
abbrev Nsettled : List Str := ["bounds", "many"]
theorem scsettled : FnScope Nsettled ["bounds", "many"] (defScope ssettled) := ⟨rfl, rfl, rfl, by decide +kernel, rfl, by decide +kernel, by decide +kernel⟩
abbrev scheck_bounds : Stmt := topS 43
abbrev Ncheck_bounds : List Str := ["bounds", "many", "at", "bound"]
theorem sccheck_bounds : FnScope Ncheck_bounds ["bounds", "many"] (defScope scheck_bounds) := ⟨rfl, rfl, rfl, by decide +kernel, rfl, by decide +kernel, by decide +kernel⟩
abbrev sreduced : Stmt := topS 46
abbrev Nreduced : List Str := ["line", "held", "place", "scale", "own", "top", "factor", "more"]
theorem screduced : FnScope Nreduced ["line", "held", "place", "scale"] (defScope sreduced) := ⟨rfl, rfl, rfl, by decide +kernel, rfl, by decide +kernel, by decide +kernel⟩
abbrev spoint_or_clash : Stmt := topS 47
abbrev Npoint_or_clash : List Str := ["bounds", "many", "bound"]
theorem scpoint_or_clash : FnScope Npoint_or_clash ["bounds", "many"] (defScope spoint_or_clash) := ⟨rfl, rfl, rfl, by decide +kernel, rfl, by decide +kernel, by decide +kernel⟩
abbrev ssettled_forms : Stmt := topS 48
abbrev Nsettled_forms : List Str := ["forms", "gains", "many", "grid", "at", "place", "gain"]
theorem scsettled_forms : FnScope Nsettled_forms ["forms", "gains", "many"] (defScope ssettled_forms) := ⟨rfl, rfl, rfl, by decide +kernel, rfl, by decide +kernel, by decide +kernel⟩
abbrev sfirst_place : Stmt := topS 49
abbrev Nfirst_place : List Str := ["line", "many", "place"]
theorem scfirst_place : FnScope Nfirst_place ["line", "many"] (defScope sfirst_place) := ⟨rfl, rfl, rfl, by decide +kernel, rfl, by decide +kernel, by decide +kernel⟩
abbrev sshort_place : Stmt := topS 50
abbrev Nshort_place : List Str := ["grid", "many", "place"]
theorem scshort_place : FnScope Nshort_place ["grid", "many"] (defScope sshort_place) := ⟨rfl, rfl, rfl, by decide +kernel, rfl, by decide +kernel, by decide +kernel⟩
abbrev sleaving_line : Stmt := topS 51
abbrev Nleaving_line : List Str := ["grid", "place", "found", "at", "line"]
theorem scleaving_line : FnScope Nleaving_line ["grid", "place"] (defScope sleaving_line) := ⟨rfl, rfl, rfl, by decide +kernel, rfl, by decide +kernel, by decide +kernel⟩
abbrev sclashing_weights : Stmt := topS 52
abbrev Nclashing_weights : List Str := ["grid", "place", "many", "weights", "at", "line", "_"]
theorem scclashing_weights : FnScope Nclashing_weights ["grid", "place", "many"] (defScope sclashing_weights) := ⟨rfl, rfl, rfl, by decide +kernel, rfl, by decide +kernel, by decide +kernel⟩
abbrev s_law_pen : Stmt := topS 54
abbrev N_law_pen : List Str := ["_law_script"]
theorem sc_law_pen : FnScope N_law_pen ["_law_script"] (defScope s_law_pen) := ⟨rfl, rfl, rfl, by decide +kernel, rfl, by decide +kernel, by decide +kernel⟩
abbrev s_law_draw : Stmt := topS 55
abbrev N_law_draw : List Str := ["_law_pen_here", "_law_many", "_law_digit", "_law_at", "_law_cell", "_law_great", "_law_mixed"]
theorem sc_law_draw : FnScope N_law_draw ["_law_pen_here", "_law_many"] (defScope s_law_draw) := ⟨rfl, rfl, rfl, by decide +kernel, rfl, by decide +kernel, by decide +kernel⟩
abbrev s_law_pick : Stmt := topS 56
abbrev N_law_pick : List Str := ["_law_pen_here", "_law_some"]
theorem sc_law_pick : FnScope N_law_pick ["_law_pen_here", "_law_some"] (defScope s_law_pick) := ⟨rfl, rfl, rfl, by decide +kernel, rfl, by decide +kernel, by decide +kernel⟩
abbrev s_law_factor : Stmt := topS 57
abbrev N_law_factor : List Str := ["_law_pen_here"]
theorem sc_law_factor : FnScope N_law_factor ["_law_pen_here"] (defScope s_law_factor) := ⟨rfl, rfl, rfl, by decide +kernel, rfl, by decide +kernel, by decide +kernel⟩
abbrev s_law_form : Stmt := topS 58
abbrev N_law_form : List Str := ["_law_pen_here", "_law_many", "_law_k"]
theorem sc_law_form : FnScope N_law_form ["_law_pen_here", "_law_many"] (defScope s_law_form) := ⟨rfl, rfl, rfl, by decide +kernel, rfl, by decide +kernel, by decide +kernel⟩
abbrev s_law_value : Stmt := topS 59
abbrev N_law_value : List Str := ["_law_form_here", "_law_numbers", "_law_one", "_law_other"]
theorem sc_law_value : FnScope N_law_value ["_law_form_here", "_law_numbers"] (defScope s_law_value) := ⟨rfl, rfl, rfl, by decide +kernel, rfl, by decide +kernel, by decide +kernel⟩
abbrev s_law_plain_bounds : Stmt := topS 60
abbrev N_law_plain_bounds : List Str := ["_law_pen_here", "_law_many", "_law_most", "_law_k"]
theorem sc_law_plain_bounds : FnScope N_law_plain_bounds ["_law_pen_here", "_law_many", "_law_most"] (defScope s_law_plain_bounds) := ⟨rfl, rfl, rfl, by decide +kernel, rfl, by decide +kernel, by decide +kernel⟩
abbrev s_law_clashes : Stmt := topS 61
abbrev N_law_clashes : List Str := ["_law_bounds", "_law_weights", "_law_many", "_law_at", "_law_one", "_law_bound"]
theorem sc_law_clashes : FnScope N_law_clashes ["_law_bounds", "_law_weights"] (defScope s_law_clashes) := ⟨rfl, rfl, rfl, by decide +kernel, rfl, by decide +kernel, by decide +kernel⟩
abbrev s_law_holds : Stmt := topS 62
abbrev N_law_holds : List Str := ["_law_bounds", "_law_numbers", "_law_form_here", "_law_is_so", "_law_value_here"]
theorem sc_law_holds : FnScope N_law_holds ["_law_bounds", "_law_numbers"] (defScope s_law_holds) := ⟨rfl, rfl, rfl, by decide +kernel, rfl, by decide +kernel, by decide +kernel⟩
abbrev s_law_as_bounds : Stmt := topS 63
abbrev N_law_as_bounds : List Str := ["_law_bounds", "_law_form_here", "_law_is_so"]
theorem sc_law_as_bounds : FnScope N_law_as_bounds ["_law_bounds"] (defScope s_law_as_bounds) := ⟨rfl, rfl, rfl, by decide +kernel, rfl, by decide +kernel, by decide +kernel⟩
abbrev s_law_settled_right : Stmt := topS 64
abbrev N_law_settled_right : List Str := ["_law_pen_here", "_law_bounds", "_law_many", "_law_made", "_law_kept", "_law_asked", "_law_told", "_law_turn_so", "_law_one", "_law_k"]
theorem sc_law_settled_right : FnScope N_law_settled_right ["_law_pen_here", "_law_bounds", "_law_many"] (defScope s_law_settled_right) := ⟨rfl, rfl, rfl, by decide +kernel, rfl, by decide +kernel, by decide +kernel⟩
abbrev slaw : Stmt := topS 65
abbrev Nlaw : List Str := ["_law_script", "_law_pen_here", "_law_lap", "_law_many", "_law_bounds"]
theorem sclaw : FnScope Nlaw ["_law_script"] (defScope slaw) := ⟨rfl, rfl, rfl, by decide +kernel, rfl, by decide +kernel, by decide +kernel⟩
abbrev sBound___init__ : Stmt := inClass (topS 24) 0
abbrev NBound___init__ : List Str := ["self", "form", "is_strict"]
theorem scBound___init__ : FnScope NBound___init__ ["self", "form", "is_strict"] (defScope sBound___init__) := ⟨rfl, rfl, rfl, by decide +kernel, rfl, by decide +kernel, by decide +kernel⟩
abbrev sBound___call__ : Stmt := inClass (topS 24) 3
abbrev NBound___call__ : List Str := ["self", "numbers", "total"]
theorem scBound___call__ : FnScope NBound___call__ ["self", "numbers"] (defScope sBound___call__) := ⟨rfl, rfl, rfl, by decide +kernel, rfl, by decide +kernel, by decide +kernel⟩
abbrev sBound___eq__ : Stmt := inClass (topS 24) 9
abbrev NBound___eq__ : List Str := ["self", "other"]
theorem scBound___eq__ : FnScope NBound___eq__ ["self", "other"] (defScope sBound___eq__) := ⟨rfl, rfl, rfl, by decide +kernel, rfl, by decide +kernel, by decide +kernel⟩
abbrev sPoint___init__ : Stmt := inClass (topS 38) 0
abbrev NPoint___init__ : List Str := ["self", "counts"]
theorem scPoint___init__ : FnScope NPoint___init__ ["self", "counts"] (defScope sPoint___init__) := ⟨rfl, rfl, rfl, by decide +kernel, rfl, by decide +kernel, by decide +kernel⟩
abbrev sPoint___bool__ : Stmt := inClass (topS 38) 1
abbrev NPoint___bool__ : List Str := ["self"]
theorem scPoint___bool__ : FnScope NPoint___bool__ ["self"] (defScope sPoint___bool__) := ⟨rfl, rfl, rfl, by decide +kernel, rfl, by decide +kernel, by decide +kernel⟩
abbrev sPoint___eq__ : Stmt := inClass (topS 38) 2
abbrev NPoint___eq__ : List Str := ["self", "other"]
theorem scPoint___eq__ : FnScope NPoint___eq__ ["self", "other"] (defScope sPoint___eq__) := ⟨rfl, rfl, rfl, by decide +kernel, rfl, by decide +kernel, by decide +kernel⟩
abbrev sClash___init__ : Stmt := inClass (topS 39) 0
abbrev NClash___init__ : List Str := ["self", "weights"]
theorem scClash___init__ : FnScope NClash___init__ ["self", "weights"] (defScope sClash___init__) := ⟨rfl, rfl, rfl, by decide +kernel, rfl, by decide +kernel, by decide +kernel⟩
abbrev sClash___bool__ : Stmt := inClass (topS 39) 1
abbrev NClash___bool__ : List Str := ["self"]
theorem scClash___bool__ : FnScope NClash___bool__ ["self"] (defScope sClash___bool__) := ⟨rfl, rfl, rfl, by decide +kernel, rfl, by decide +kernel, by decide +kernel⟩
abbrev sClash___eq__ : Stmt := inClass (topS 39) 2
abbrev NClash___eq__ : List Str := ["self", "other"]
theorem scClash___eq__ : FnScope NClash___eq__ ["self", "other"] (defScope sClash___eq__) := ⟨rfl, rfl, rfl, by decide +kernel, rfl, by decide +kernel, by decide +kernel⟩
abbrev sGrid___init__ : Stmt := inClass (topS 45) 0
abbrev NGrid___init__ : List Str := ["self", "forms", "gains", "many", "at", "form", "_"]
theorem scGrid___init__ : FnScope NGrid___init__ ["self", "forms", "gains", "many"] (defScope sGrid___init__) := ⟨rfl, rfl, rfl, by decide +kernel, rfl, by decide +kernel, by decide +kernel⟩
abbrev sGrid_exchange : Stmt := inClass (topS 45) 1
abbrev NGrid_exchange : List Str := ["self", "at", "place", "held", "other", "line"]
theorem scGrid_exchange : FnScope NGrid_exchange ["self", "at", "place"] (defScope sGrid_exchange) := ⟨rfl, rfl, rfl, by decide +kernel, rfl, by decide +kernel, by decide +kernel⟩
structure TopD0 where
  a_is_integer : Addr
  d_is_integer : FuncData
  a_own_copy : Addr
  d_own_copy : FuncData
  a_same : Addr
  d_same : FuncData
  a_has_same : Addr
  d_has_same : FuncData
  a_lowest_terms : Addr
  d_lowest_terms : FuncData
  a_is_form : Addr
  d_is_form : FuncData
  a_is_bound_of : Addr
  d_is_bound_of : FuncData
  a_nought_form : Addr
  d_nought_form : FuncData
  a_unit_form : Addr
  d_unit_form : FuncData
  a_times_form : Addr
  d_times_form : FuncData
  a_is_nought : Addr
  d_is_nought : FuncData
  a_check_numbers_of : Addr
  d_check_numbers_of : FuncData
  a_value_of : Addr
  d_value_of : FuncData
  a_sum_form : Addr
  d_sum_form : FuncData
  a_shows_point : Addr
  d_shows_point : FuncData
  a_shows_clash : Addr
  d_shows_clash : FuncData
  a_are_clashing : Addr
  d_are_clashing : FuncData
  a_settled : Addr
  d_settled : FuncData
  a_check_bounds : Addr
  d_check_bounds : FuncData
  a_reduced : Addr
  d_reduced : FuncData
  a_point_or_clash : Addr
  d_point_or_clash : FuncData
  a_settled_forms : Addr
  d_settled_forms : FuncData
  a_first_place : Addr
  d_first_place : FuncData
  a_short_place : Addr
  d_short_place : FuncData
  a_leaving_line : Addr
  d_leaving_line : FuncData
  a_clashing_weights : Addr
  d_clashing_weights : FuncData
  a__law_pen : Addr
  d__law_pen : FuncData
  a__law_draw : Addr
  d__law_draw : FuncData
  a__law_pick : Addr
  d__law_pick : FuncData
  a__law_factor : Addr
  d__law_factor : FuncData
structure TopD1 where
  a__law_form : Addr
  d__law_form : FuncData
  a__law_value : Addr
  d__law_value : FuncData
  a__law_plain_bounds : Addr
  d__law_plain_bounds : FuncData
  a__law_clashes : Addr
  d__law_clashes : FuncData
  a__law_holds : Addr
  d__law_holds : FuncData
  a__law_as_bounds : Addr
  d__law_as_bounds : FuncData
  a__law_settled_right : Addr
  d__law_settled_right : FuncData
  a_law : Addr
  d_law : FuncData
  a_Bound___init__ : Addr
  d_Bound___init__ : FuncData
  a_Bound___call__ : Addr
  d_Bound___call__ : FuncData
  a_Bound___eq__ : Addr
  d_Bound___eq__ : FuncData
  a_Point___init__ : Addr
  d_Point___init__ : FuncData
  a_Point___bool__ : Addr
  d_Point___bool__ : FuncData
  a_Point___eq__ : Addr
  d_Point___eq__ : FuncData
  a_Clash___init__ : Addr
  d_Clash___init__ : FuncData
  a_Clash___bool__ : Addr
  d_Clash___bool__ : FuncData
  a_Clash___eq__ : Addr
  d_Clash___eq__ : FuncData
  a_Grid___init__ : Addr
  d_Grid___init__ : FuncData
  a_Grid_exchange : Addr
  d_Grid_exchange : FuncData
  C_Bound : Addr
  C_Point : Addr
  C_Clash : Addr
  C_Grid : Addr
  t_MOST_FACTORS : Tok
  t_MOST_BOUNDS : Tok
structure TopD where
  D0 : TopD0
  D1 : TopD1
abbrev TopD.a_is_integer (D : TopD) : Addr := D.D0.a_is_integer
abbrev TopD.d_is_integer (D : TopD) : FuncData := D.D0.d_is_integer
abbrev TopD.a_own_copy (D : TopD) : Addr := D.D0.a_own_copy
abbrev TopD.d_own_copy (D : TopD) : FuncData := D.D0.d_own_copy
abbrev TopD.a_same (D : TopD) : Addr := D.D0.a_same
abbrev TopD.d_same (D : TopD) : FuncData := D.D0.d_same
abbrev TopD.a_has_same (D : TopD) : Addr := D.D0.a_has_same
abbrev TopD.d_has_same (D : TopD) : FuncData := D.D0.d_has_same
abbrev TopD.a_lowest_terms (D : TopD) : Addr := D.D0.a_lowest_terms
abbrev TopD.d_lowest_terms (D : TopD) : FuncData := D.D0.d_lowest_terms
abbrev TopD.a_is_form (D : TopD) : Addr := D.D0.a_is_form
abbrev TopD.d_is_form (D : TopD) : FuncData := D.D0.d_is_form
abbrev TopD.a_is_bound_of (D : TopD) : Addr := D.D0.a_is_bound_of
abbrev TopD.d_is_bound_of (D : TopD) : FuncData := D.D0.d_is_bound_of
abbrev TopD.a_nought_form (D : TopD) : Addr := D.D0.a_nought_form
abbrev TopD.d_nought_form (D : TopD) : FuncData := D.D0.d_nought_form
abbrev TopD.a_unit_form (D : TopD) : Addr := D.D0.a_unit_form
abbrev TopD.d_unit_form (D : TopD) : FuncData := D.D0.d_unit_form
abbrev TopD.a_times_form (D : TopD) : Addr := D.D0.a_times_form
abbrev TopD.d_times_form (D : TopD) : FuncData := D.D0.d_times_form
abbrev TopD.a_is_nought (D : TopD) : Addr := D.D0.a_is_nought
abbrev TopD.d_is_nought (D : TopD) : FuncData := D.D0.d_is_nought
abbrev TopD.a_check_numbers_of (D : TopD) : Addr := D.D0.a_check_numbers_of
abbrev TopD.d_check_numbers_of (D : TopD) : FuncData := D.D0.d_check_numbers_of
abbrev TopD.a_value_of (D : TopD) : Addr := D.D0.a_value_of
abbrev TopD.d_value_of (D : TopD) : FuncData := D.D0.d_value_of
abbrev TopD.a_sum_form (D : TopD) : Addr := D.D0.a_sum_form
abbrev TopD.d_sum_form (D : TopD) : FuncData := D.D0.d_sum_form
abbrev TopD.a_shows_point (D : TopD) : Addr := D.D0.a_shows_point
abbrev TopD.d_shows_point (D : TopD) : FuncData := D.D0.d_shows_point
abbrev TopD.a_shows_clash (D : TopD) : Addr := D.D0.a_shows_clash
abbrev TopD.d_shows_clash (D : TopD) : FuncData := D.D0.d_shows_clash
abbrev TopD.a_are_clashing (D : TopD) : Addr := D.D0.a_are_clashing
abbrev TopD.d_are_clashing (D : TopD) : FuncData := D.D0.d_are_clashing
abbrev TopD.a_settled (D : TopD) : Addr := D.D0.a_settled
abbrev TopD.d_settled (D : TopD) : FuncData := D.D0.d_settled
abbrev TopD.a_check_bounds (D : TopD) : Addr := D.D0.a_check_bounds
abbrev TopD.d_check_bounds (D : TopD) : FuncData := D.D0.d_check_bounds
abbrev TopD.a_reduced (D : TopD) : Addr := D.D0.a_reduced
abbrev TopD.d_reduced (D : TopD) : FuncData := D.D0.d_reduced
abbrev TopD.a_point_or_clash (D : TopD) : Addr := D.D0.a_point_or_clash
abbrev TopD.d_point_or_clash (D : TopD) : FuncData := D.D0.d_point_or_clash
abbrev TopD.a_settled_forms (D : TopD) : Addr := D.D0.a_settled_forms
abbrev TopD.d_settled_forms (D : TopD) : FuncData := D.D0.d_settled_forms
abbrev TopD.a_first_place (D : TopD) : Addr := D.D0.a_first_place
abbrev TopD.d_first_place (D : TopD) : FuncData := D.D0.d_first_place
abbrev TopD.a_short_place (D : TopD) : Addr := D.D0.a_short_place
abbrev TopD.d_short_place (D : TopD) : FuncData := D.D0.d_short_place
abbrev TopD.a_leaving_line (D : TopD) : Addr := D.D0.a_leaving_line
abbrev TopD.d_leaving_line (D : TopD) : FuncData := D.D0.d_leaving_line
abbrev TopD.a_clashing_weights (D : TopD) : Addr := D.D0.a_clashing_weights
abbrev TopD.d_clashing_weights (D : TopD) : FuncData := D.D0.d_clashing_weights
abbrev TopD.a__law_pen (D : TopD) : Addr := D.D0.a__law_pen
abbrev TopD.d__law_pen (D : TopD) : FuncData := D.D0.d__law_pen
abbrev TopD.a__law_draw (D : TopD) : Addr := D.D0.a__law_draw
abbrev TopD.d__law_draw (D : TopD) : FuncData := D.D0.d__law_draw
abbrev TopD.a__law_pick (D : TopD) : Addr := D.D0.a__law_pick
abbrev TopD.d__law_pick (D : TopD) : FuncData := D.D0.d__law_pick
abbrev TopD.a__law_factor (D : TopD) : Addr := D.D0.a__law_factor
abbrev TopD.d__law_factor (D : TopD) : FuncData := D.D0.d__law_factor
abbrev TopD.a__law_form (D : TopD) : Addr := D.D1.a__law_form
abbrev TopD.d__law_form (D : TopD) : FuncData := D.D1.d__law_form
abbrev TopD.a__law_value (D : TopD) : Addr := D.D1.a__law_value
abbrev TopD.d__law_value (D : TopD) : FuncData := D.D1.d__law_value
abbrev TopD.a__law_plain_bounds (D : TopD) : Addr := D.D1.a__law_plain_bounds
abbrev TopD.d__law_plain_bounds (D : TopD) : FuncData := D.D1.d__law_plain_bounds
abbrev TopD.a__law_clashes (D : TopD) : Addr := D.D1.a__law_clashes
abbrev TopD.d__law_clashes (D : TopD) : FuncData := D.D1.d__law_clashes
abbrev TopD.a__law_holds (D : TopD) : Addr := D.D1.a__law_holds
abbrev TopD.d__law_holds (D : TopD) : FuncData := D.D1.d__law_holds
abbrev TopD.a__law_as_bounds (D : TopD) : Addr := D.D1.a__law_as_bounds
abbrev TopD.d__law_as_bounds (D : TopD) : FuncData := D.D1.d__law_as_bounds
abbrev TopD.a__law_settled_right (D : TopD) : Addr := D.D1.a__law_settled_right
abbrev TopD.d__law_settled_right (D : TopD) : FuncData := D.D1.d__law_settled_right
abbrev TopD.a_law (D : TopD) : Addr := D.D1.a_law
abbrev TopD.d_law (D : TopD) : FuncData := D.D1.d_law
abbrev TopD.a_Bound___init__ (D : TopD) : Addr := D.D1.a_Bound___init__
abbrev TopD.d_Bound___init__ (D : TopD) : FuncData := D.D1.d_Bound___init__
abbrev TopD.a_Bound___call__ (D : TopD) : Addr := D.D1.a_Bound___call__
abbrev TopD.d_Bound___call__ (D : TopD) : FuncData := D.D1.d_Bound___call__
abbrev TopD.a_Bound___eq__ (D : TopD) : Addr := D.D1.a_Bound___eq__
abbrev TopD.d_Bound___eq__ (D : TopD) : FuncData := D.D1.d_Bound___eq__
abbrev TopD.a_Point___init__ (D : TopD) : Addr := D.D1.a_Point___init__
abbrev TopD.d_Point___init__ (D : TopD) : FuncData := D.D1.d_Point___init__
abbrev TopD.a_Point___bool__ (D : TopD) : Addr := D.D1.a_Point___bool__
abbrev TopD.d_Point___bool__ (D : TopD) : FuncData := D.D1.d_Point___bool__
abbrev TopD.a_Point___eq__ (D : TopD) : Addr := D.D1.a_Point___eq__
abbrev TopD.d_Point___eq__ (D : TopD) : FuncData := D.D1.d_Point___eq__
abbrev TopD.a_Clash___init__ (D : TopD) : Addr := D.D1.a_Clash___init__
abbrev TopD.d_Clash___init__ (D : TopD) : FuncData := D.D1.d_Clash___init__
abbrev TopD.a_Clash___bool__ (D : TopD) : Addr := D.D1.a_Clash___bool__
abbrev TopD.d_Clash___bool__ (D : TopD) : FuncData := D.D1.d_Clash___bool__
abbrev TopD.a_Clash___eq__ (D : TopD) : Addr := D.D1.a_Clash___eq__
abbrev TopD.d_Clash___eq__ (D : TopD) : FuncData := D.D1.d_Clash___eq__
abbrev TopD.a_Grid___init__ (D : TopD) : Addr := D.D1.a_Grid___init__
abbrev TopD.d_Grid___init__ (D : TopD) : FuncData := D.D1.d_Grid___init__
abbrev TopD.a_Grid_exchange (D : TopD) : Addr := D.D1.a_Grid_exchange
abbrev TopD.d_Grid_exchange (D : TopD) : FuncData := D.D1.d_Grid_exchange
abbrev TopD.C_Bound (D : TopD) : Addr := D.D1.C_Bound
abbrev TopD.C_Point (D : TopD) : Addr := D.D1.C_Point
abbrev TopD.C_Clash (D : TopD) : Addr := D.D1.C_Clash
abbrev TopD.C_Grid (D : TopD) : Addr := D.D1.C_Grid
abbrev TopD.t_MOST_FACTORS (D : TopD) : Tok := D.D1.t_MOST_FACTORS
abbrev TopD.t_MOST_BOUNDS (D : TopD) : Tok := D.D1.t_MOST_BOUNDS
structure TopF0 (K : PySem.W.Frag) (mg : Str → Option Value) (D : TopD) where
  F_is_integer : Fun K "is_integer" "is_integer" sis_integer D.a_is_integer D.d_is_integer
  b_is_integer : Binds K D.d_is_integer ["value"] []
  g_is_integer : mg "is_integer" = some (.ref D.a_is_integer)
  F_own_copy : Fun K "own_copy" "own_copy" sown_copy D.a_own_copy D.d_own_copy
  b_own_copy : Binds K D.d_own_copy ["value"] []
  g_own_copy : mg "own_copy" = some (.ref D.a_own_copy)
  F_same : Fun K "same" "same" ssame D.a_same D.d_same
  b_same : Binds K D.d_same ["one", "other"] []
  g_same : mg "same" = some (.ref D.a_same)
  F_has_same : Fun K "has_same" "has_same" shas_same D.a_has_same D.d_has_same
  b_has_same : Binds K D.d_has_same ["table", "key", "value"] []
  g_has_same : mg "has_same" = some (.ref D.a_has_same)
  F_lowest_terms : Fun K "lowest_terms" "lowest_terms" slowest_terms D.a_lowest_terms D.d_lowest_terms
  b_lowest_terms : Binds K D.d_lowest_terms ["numbers"] []
  g_lowest_terms : mg "lowest_terms" = some (.ref D.a_lowest_terms)
  F_is_form : Fun K "is_form" "is_form" sis_form D.a_is_form D.d_is_form
  b_is_form : Binds K D.d_is_form ["value"] []
  g_is_form : mg "is_form" = some (.ref D.a_is_form)
  F_is_bound_of : Fun K "is_bound_of" "is_bound_of" sis_bound_of D.a_is_bound_of D.d_is_bound_of
  b_is_bound_of : Binds K D.d_is_bound_of ["value", "many"] []
  g_is_bound_of : mg "is_bound_of" = some (.ref D.a_is_bound_of)
  F_nought_form : Fun K "nought_form" "nought_form" snought_form D.a_nought_form D.d_nought_form
  b_nought_form : Binds K D.d_nought_form ["many"] []
  g_nought_form : mg "nought_form" = some (.ref D.a_nought_form)
  F_unit_form : Fun K "unit_form" "unit_form" sunit_form D.a_unit_form D.d_unit_form
  b_unit_form : Binds K D.d_unit_form ["at", "many"] []
  g_unit_form : mg "unit_form" = some (.ref D.a_unit_form)
  F_times_form : Fun K "times_form" "times_form" stimes_form D.a_times_form D.d_times_form
  b_times_form : Binds K D.d_times_form ["number", "form"] []
  g_times_form : mg "times_form" = some (.ref D.a_times_form)
  F_is_nought : Fun K "is_nought" "is_nought" sis_nought D.a_is_nought D.d_is_nought
  b_is_nought : Binds K D.d_is_nought ["form"] []
  g_is_nought : mg "is_nought" = some (.ref D.a_is_nought)
  F_check_numbers_of : Fun K "check_numbers_of" "check_numbers_of" scheck_numbers_of D.a_check_numbers_of D.d_check_numbers_of
  b_check_numbers_of : Binds K D.d_check_numbers_of ["numbers", "many"] []
  g_check_numbers_of : mg "check_numbers_of" = some (.ref D.a_check_numbers_of)
  F_value_of : Fun K "value_of" "value_of" svalue_of D.a_value_of D.d_value_of
  b_value_of : Binds K D.d_value_of ["form", "numbers"] []
  g_value_of : mg "value_of" = some (.ref D.a_value_of)
  F_sum_form : Fun K "sum_form" "sum_form" ssum_form D.a_sum_form D.d_sum_form
  b_sum_form : Binds K D.d_sum_form ["one", "other"] []
  g_sum_form : mg "sum_form" = some (.ref D.a_sum_form)
  F_shows_point : Fun K "shows_point" "shows_point" sshows_point D.a_shows_point D.d_shows_point
  b_shows_point : Binds K D.d_shows_point ["bounds", "many", "value"] []
  g_shows_point : mg "shows_point" = some (.ref D.a_shows_point)
  F_shows_clash : Fun K "shows_clash" "shows_clash" sshows_clash D.a_shows_clash D.d_shows_clash
  b_shows_clash : Binds K D.d_shows_clash ["bounds", "many", "value"] []
  g_shows_clash : mg "shows_clash" = some (.ref D.a_shows_clash)
  F_are_clashing : Fun K "are_clashing" "are_clashing" sare_clashing D.a_are_clashing D.d_are_clashing
  b_are_clashing : Binds K D.d_are_clashing ["bounds", "many", "weights"] []
  g_are_clashing : mg "are_clashing" = some (.ref D.a_are_clashing)
  F_settled : Fun K "settled" "settled" ssettled D.a_settled D.d_settled
  b_settled : Binds K D.d_settled ["bounds", "many"] []
  g_settled : mg "settled" = some (.ref D.a_settled)
  F_check_bounds : Fun K "check_bounds" "check_bounds" scheck_bounds D.a_check_bounds D.d_check_bounds
  b_check_bounds : Binds K D.d_check_bounds ["bounds", "many"] []
  g_check_bounds : mg "check_bounds" = some (.ref D.a_check_bounds)
  F_reduced : Fun K "reduced" "reduced" sreduced D.a_reduced D.d_reduced
  b_reduced : Binds K D.d_reduced ["line", "held", "place", "scale"] []
  g_reduced : mg "reduced" = some (.ref D.a_reduced)
structure TopF1 (K : PySem.W.Frag) (mg : Str → Option Value) (D : TopD) where
  F_point_or_clash : Fun K "point_or_clash" "point_or_clash" spoint_or_clash D.a_point_or_clash D.d_point_or_clash
  b_point_or_clash : Binds K D.d_point_or_clash ["bounds", "many"] []
  g_point_or_clash : mg "point_or_clash" = some (.ref D.a_point_or_clash)
  F_settled_forms : Fun K "settled_forms" "settled_forms" ssettled_forms D.a_settled_forms D.d_settled_forms
  b_settled_forms : Binds K D.d_settled_forms ["forms", "gains", "many"] []
  g_settled_forms : mg "settled_forms" = some (.ref D.a_settled_forms)
  F_first_place : Fun K "first_place" "first_place" sfirst_place D.a_first_place D.d_first_place
  b_first_place : Binds K D.d_first_place ["line", "many"] []
  g_first_place : mg "first_place" = some (.ref D.a_first_place)
  F_short_place : Fun K "short_place" "short_place" sshort_place D.a_short_place D.d_short_place
  b_short_place : Binds K D.d_short_place ["grid", "many"] []
  g_short_place : mg "short_place" = some (.ref D.a_short_place)
  F_leaving_line : Fun K "leaving_line" "leaving_line" sleaving_line D.a_leaving_line D.d_leaving_line
  b_leaving_line : Binds K D.d_leaving_line ["grid", "place"] []
  g_leaving_line : mg "leaving_line" = some (.ref D.a_leaving_line)
  F_clashing_weights : Fun K "clashing_weights" "clashing_weights" sclashing_weights D.a_clashing_weights D.d_clashing_weights
  b_clashing_weights : Binds K D.d_clashing_weights ["grid", "place", "many"] []
  g_clashing_weights : mg "clashing_weights" = some (.ref D.a_clashing_weights)
  F__law_pen : Fun K "_law_pen" "_law_pen" s_law_pen D.a__law_pen D.d__law_pen
  b__law_pen : Binds K D.d__law_pen ["_law_script"] []
  g__law_pen : mg "_law_pen" = some (.ref D.a__law_pen)
  F__law_draw : Fun K "_law_draw" "_law_draw" s_law_draw D.a__law_draw D.d__law_draw
  b__law_draw : Binds K D.d__law_draw ["_law_pen_here", "_law_many"] []
  g__law_draw : mg "_law_draw" = some (.ref D.a__law_draw)
  F__law_pick : Fun K "_law_pick" "_law_pick" s_law_pick D.a__law_pick D.d__law_pick
  b__law_pick : Binds K D.d__law_pick ["_law_pen_here", "_law_some"] []
  g__law_pick : mg "_law_pick" = some (.ref D.a__law_pick)
  F__law_factor : Fun K "_law_factor" "_law_factor" s_law_factor D.a__law_factor D.d__law_factor
  b__law_factor : Binds K D.d__law_factor ["_law_pen_here"] []
  g__law_factor : mg "_law_factor" = some (.ref D.a__law_factor)
  F__law_form : Fun K "_law_form" "_law_form" s_law_form D.a__law_form D.d__law_form
  b__law_form : Binds K D.d__law_form ["_law_pen_here", "_law_many"] []
  g__law_form : mg "_law_form" = some (.ref D.a__law_form)
  F__law_value : Fun K "_law_value" "_law_value" s_law_value D.a__law_value D.d__law_value
  b__law_value : Binds K D.d__law_value ["_law_form_here", "_law_numbers"] []
  g__law_value : mg "_law_value" = some (.ref D.a__law_value)
  F__law_plain_bounds : Fun K "_law_plain_bounds" "_law_plain_bounds" s_law_plain_bounds D.a__law_plain_bounds D.d__law_plain_bounds
  b__law_plain_bounds : Binds K D.d__law_plain_bounds ["_law_pen_here", "_law_many", "_law_most"] []
  g__law_plain_bounds : mg "_law_plain_bounds" = some (.ref D.a__law_plain_bounds)
  F__law_clashes : Fun K "_law_clashes" "_law_clashes" s_law_clashes D.a__law_clashes D.d__law_clashes
  b__law_clashes : Binds K D.d__law_clashes ["_law_bounds", "_law_weights"] []
  g__law_clashes : mg "_law_clashes" = some (.ref D.a__law_clashes)
  F__law_holds : Fun K "_law_holds" "_law_holds" s_law_holds D.a__law_holds D.d__law_holds
  b__law_holds : Binds K D.d__law_holds ["_law_bounds", "_law_numbers"] []
  g__law_holds : mg "_law_holds" = some (.ref D.a__law_holds)
  F__law_as_bounds : Fun K "_law_as_bounds" "_law_as_bounds" s_law_as_bounds D.a__law_as_bounds D.d__law_as_bounds
  b__law_as_bounds : Binds K D.d__law_as_bounds ["_law_bounds"] []
  g__law_as_bounds : mg "_law_as_bounds" = some (.ref D.a__law_as_bounds)
  F__law_settled_right : Fun K "_law_settled_right" "_law_settled_right" s_law_settled_right D.a__law_settled_right D.d__law_settled_right
  b__law_settled_right : Binds K D.d__law_settled_right ["_law_pen_here", "_law_bounds", "_law_many"] []
  g__law_settled_right : mg "_law_settled_right" = some (.ref D.a__law_settled_right)
  F_law : Fun K "law" "law" slaw D.a_law D.d_law
  b_law : Binds K D.d_law ["_law_script"] []
  g_law : mg "law" = some (.ref D.a_law)
  F_Bound___init__ : FunD K "__init__" "Bound.__init__" (defArgs sBound___init__) (defBody sBound___init__) (defScope sBound___init__) [.bl false] [] D.a_Bound___init__ D.d_Bound___init__
  b_Bound___init__ : Binds K D.d_Bound___init__ ["self", "form", "is_strict"] []
  F_Bound___call__ : Fun K "__call__" "Bound.__call__" sBound___call__ D.a_Bound___call__ D.d_Bound___call__
  b_Bound___call__ : Binds K D.d_Bound___call__ ["self", "numbers"] []
  F_Bound___eq__ : Fun K "__eq__" "Bound.__eq__" sBound___eq__ D.a_Bound___eq__ D.d_Bound___eq__
  b_Bound___eq__ : Binds K D.d_Bound___eq__ ["self", "other"] []
structure TopF2 (K : PySem.W.Frag) (mg : Str → Option Value) (D : TopD) where
  F_Point___init__ : Fun K "__init__" "Point.__init__" sPoint___init__ D.a_Point___init__ D.d_Point___init__
  b_Point___init__ : Binds K D.d_Point___init__ ["self", "counts"] []
  F_Point___bool__ : Fun K "__bool__" "Point.__bool__" sPoint___bool__ D.a_Point___bool__ D.d_Point___bool__
  b_Point___bool__ : Binds K D.d_Point___bool__ ["self"] []
  F_Point___eq__ : Fun K "__eq__" "Point.__eq__" sPoint___eq__ D.a_Point___eq__ D.d_Point___eq__
  b_Point___eq__ : Binds K D.d_Point___eq__ ["self", "other"] []
  F_Clash___init__ : Fun K "__init__" "Clash.__init__" sClash___init__ D.a_Clash___init__ D.d_Clash___init__
  b_Clash___init__ : Binds K D.d_Clash___init__ ["self", "weights"] []
  F_Clash___bool__ : Fun K "__bool__" "Clash.__bool__" sClash___bool__ D.a_Clash___bool__ D.d_Clash___bool__
  b_Clash___bool__ : Binds K D.d_Clash___bool__ ["self"] []
  F_Clash___eq__ : Fun K "__eq__" "Clash.__eq__" sClash___eq__ D.a_Clash___eq__ D.d_Clash___eq__
  b_Clash___eq__ : Binds K D.d_Clash___eq__ ["self", "other"] []
  F_Grid___init__ : Fun K "__init__" "Grid.__init__" sGrid___init__ D.a_Grid___init__ D.d_Grid___init__
  b_Grid___init__ : Binds K D.d_Grid___init__ ["self", "forms", "gains", "many"] []
  F_Grid_exchange : Fun K "exchange" "Grid.exchange" sGrid_exchange D.a_Grid_exchange D.d_Grid_exchange
  b_Grid_exchange : Binds K D.d_Grid_exchange ["self", "at", "place"] []
  g_Bound : mg "Bound" = some (.ref D.C_Bound)
  cl_Bound : Cls K D.C_Bound
  kc_Bound : PySem.W.keepIn K (.ref D.C_Bound) = true
  na_Bound_form : NoAttr K D.C_Bound "form"
  na_Bound_is_strict : NoAttr K D.C_Bound "is_strict"
  ne_Bound : PySem.W.findIn K (.ref D.C_Bound) "__ne__" = some (some (.builtin "object.__ne__"))
  mr_Bound : PySem.W.mroIn K D.C_Bound (.type "object") = some true
  ca_Bound : PySem.W.findIn K (.ref D.C_Bound) "__class__" = some (some (.builtin "object.__class__"))
  om_Bound___init__ : OwnM K D.C_Bound "__init__" D.a_Bound___init__
  mk_Bound : Mk K D.C_Bound D.a_Bound___init__
  om_Bound___call__ : OwnM K D.C_Bound "__call__" D.a_Bound___call__
  om_Bound___eq__ : OwnM K D.C_Bound "__eq__" D.a_Bound___eq__
  ki_Bound : PySem.W.kitOne K (.ref D.C_Bound) (.ref D.C_Bound) = some true
  ks_Bound : PySem.W.kitOne K (.ref D.C_Bound) (.type "str") = some false
  g_Point : mg "Point" = some (.ref D.C_Point)
  cl_Point : Cls K D.C_Point
  kc_Point : PySem.W.keepIn K (.ref D.C_Point) = true
  na_Point_counts : NoAttr K D.C_Point "counts"
  ne_Point : PySem.W.findIn K (.ref D.C_Point) "__ne__" = some (some (.builtin "object.__ne__"))
  mr_Point : PySem.W.mroIn K D.C_Point (.type "object") = some true
  ca_Point : PySem.W.findIn K (.ref D.C_Point) "__class__" = some (some (.builtin "object.__class__"))
  om_Point___init__ : OwnM K D.C_Point "__init__" D.a_Point___init__
  mk_Point : Mk K D.C_Point D.a_Point___init__
  om_Point___bool__ : OwnM K D.C_Point "__bool__" D.a_Point___bool__
  om_Point___eq__ : OwnM K D.C_Point "__eq__" D.a_Point___eq__
  ki_Point : PySem.W.kitOne K (.ref D.C_Point) (.ref D.C_Point) = some true
  ks_Point : PySem.W.kitOne K (.ref D.C_Point) (.type "str") = some false
  g_Clash : mg "Clash" = some (.ref D.C_Clash)
  cl_Clash : Cls K D.C_Clash
  kc_Clash : PySem.W.keepIn K (.ref D.C_Clash) = true
  na_Clash_weights : NoAttr K D.C_Clash "weights"
  ne_Clash : PySem.W.findIn K (.ref D.C_Clash) "__ne__" = some (some (.builtin "object.__ne__"))
  mr_Clash : PySem.W.mroIn K D.C_Clash (.type "object") = some true
  ca_Clash : PySem.W.findIn K (.ref D.C_Clash) "__class__" = some (some (.builtin "object.__class__"))
  om_Clash___init__ : OwnM K D.C_Clash "__init__" D.a_Clash___init__
  mk_Clash : Mk K D.C_Clash D.a_Clash___init__
  om_Clash___bool__ : OwnM K D.C_Clash "__bool__" D.a_Clash___bool__
  om_Clash___eq__ : OwnM K D.C_Clash "__eq__" D.a_Clash___eq__
  ki_Clash : PySem.W.kitOne K (.ref D.C_Clash) (.ref D.C_Clash) = some true
  ks_Clash : PySem.W.kitOne K (.ref D.C_Clash) (.type "str") = some false
  g_Grid : mg "Grid" = some (.ref D.C_Grid)
  cl_Grid : Cls K D.C_Grid
  kc_Grid : PySem.W.keepIn K (.ref D.C_Grid) = true
  na_Grid_lines : NoAttr K D.C_Grid "lines"
structure TopF3 (K : PySem.W.Frag) (mg : Str → Option Value) (D : TopD) where
  na_Grid_gains : NoAttr K D.C_Grid "gains"
  na_Grid_holders : NoAttr K D.C_Grid "holders"
  na_Grid_scale : NoAttr K D.C_Grid "scale"
  ne_Grid : PySem.W.findIn K (.ref D.C_Grid) "__ne__" = some (some (.builtin "object.__ne__"))
  mr_Grid : PySem.W.mroIn K D.C_Grid (.type "object") = some true
  ca_Grid : PySem.W.findIn K (.ref D.C_Grid) "__class__" = some (some (.builtin "object.__class__"))
  om_Grid___init__ : OwnM K D.C_Grid "__init__" D.a_Grid___init__
  mk_Grid : Mk K D.C_Grid D.a_Grid___init__
  om_Grid_exchange : OwnM K D.C_Grid "exchange" D.a_Grid_exchange
  ki_Grid : PySem.W.kitOne K (.ref D.C_Grid) (.ref D.C_Grid) = some true
  ks_Grid : PySem.W.kitOne K (.ref D.C_Grid) (.type "str") = some false
  sg : PySem.W.specialIn K (.builtin "object.__class__") "__get__" = some (some (.builtin "getset_descriptor.__get__"))
  tk : PySem.W.takesIn K (.builtin "object.__class__") = some true
  gc_Bound : GoodC K D.C_Bound
  me_Bound___init__ : Meth K D.C_Bound "__init__" D.a_Bound___init__
  oc_Bound___call__ : StX.CallO K D.C_Bound D.a_Bound___call__
  me_Bound___eq__ : Meth K D.C_Bound "__eq__" D.a_Bound___eq__
  gc_Point : GoodC K D.C_Point
  me_Point___init__ : Meth K D.C_Point "__init__" D.a_Point___init__
  me_Point___bool__ : Meth K D.C_Point "__bool__" D.a_Point___bool__
  me_Point___eq__ : Meth K D.C_Point "__eq__" D.a_Point___eq__
  gc_Clash : GoodC K D.C_Clash
  me_Clash___init__ : Meth K D.C_Clash "__init__" D.a_Clash___init__
  me_Clash___bool__ : Meth K D.C_Clash "__bool__" D.a_Clash___bool__
  me_Clash___eq__ : Meth K D.C_Clash "__eq__" D.a_Clash___eq__
  gc_Grid : GoodC K D.C_Grid
  me_Grid___init__ : Meth K D.C_Grid "__init__" D.a_Grid___init__
  me_Grid_exchange : Meth K D.C_Grid "exchange" D.a_Grid_exchange
  nf_tuple_Point : PySem.W.notFirst K D.C_Point (.type "tuple") = true
  kn_tuple_Point : PySem.W.kitOne K (.type "tuple") (.ref D.C_Point) = some false
  nf_NoneType_Point : PySem.W.notFirst K D.C_Point (.type "NoneType") = true
  kn_NoneType_Point : PySem.W.kitOne K (.type "NoneType") (.ref D.C_Point) = some false
  nf_tuple_Clash : PySem.W.notFirst K D.C_Clash (.type "tuple") = true
  kn_tuple_Clash : PySem.W.kitOne K (.type "tuple") (.ref D.C_Clash) = some false
  nf_NoneType_Clash : PySem.W.notFirst K D.C_Clash (.type "NoneType") = true
  kn_NoneType_Clash : PySem.W.kitOne K (.type "NoneType") (.ref D.C_Clash) = some false
  bf_gcd : mg "gcd" = some (.builtin "math.gcd")
  kt_Point_Clash : PySem.W.kitOne K (.ref D.C_Point) (.ref D.C_Clash) = some false
  kt_Clash_Point : PySem.W.kitOne K (.ref D.C_Clash) (.ref D.C_Point) = some false
  kb_settled_0 : KBinds K D.d_settled ["bounds", "many"] ["bounds", "many"] (gPerm 0 2 [0, 1]) (gPerm 0 2 [0, 1])
  e_law : ∀ (s : Shared) (u : Value), BindsTo s D.d_law ⟨[u], []⟩ [("_law_script", u)]
  z_abs : mg "abs" = none
  z_all : mg "all" = none
  z_any : mg "any" = none
  z_bool : mg "bool" = none
  z_dict : mg "dict" = none
  z_enumerate : mg "enumerate" = none
  z_int : mg "int" = none
  z_isinstance : mg "isinstance" = none
  z_len : mg "len" = none
  z_list : mg "list" = none
  z_range : mg "range" = none
  z_repr : mg "repr" = none
  z_sum : mg "sum" = none
  z_tuple : mg "tuple" = none
  z_zip : mg "zip" = none
  c_MOST_FACTORS : mg "MOST_FACTORS" = some (.int 8 D.t_MOST_FACTORS)
  c_MOST_BOUNDS : mg "MOST_BOUNDS" = some (.int 80 D.t_MOST_BOUNDS)
  bd_Bound___init__ : Binds K D.d_Bound___init__ ["self", "form", "is_strict"] [.bool false]
structure Top (K : PySem.W.Frag) (mg : Str → Option Value) where
  D : TopD
  f0 : TopF0 K mg D
  f1 : TopF1 K mg D
  f2 : TopF2 K mg D
  f3 : TopF3 K mg D
section
variable {K : PySem.W.Frag} {mg : Str → Option Value} (T : Top K mg)
abbrev Top.a_is_integer := T.D.a_is_integer
abbrev Top.d_is_integer := T.D.d_is_integer
abbrev Top.a_own_copy := T.D.a_own_copy
abbrev Top.d_own_copy := T.D.d_own_copy
abbrev Top.a_same := T.D.a_same
abbrev Top.d_same := T.D.d_same
abbrev Top.a_has_same := T.D.a_has_same
abbrev Top.d_has_same := T.D.d_has_same
abbrev Top.a_lowest_terms := T.D.a_lowest_terms
abbrev Top.d_lowest_terms := T.D.d_lowest_terms
abbrev Top.a_is_form := T.D.a_is_form
abbrev Top.d_is_form := T.D.d_is_form
abbrev Top.a_is_bound_of := T.D.a_is_bound_of
abbrev Top.d_is_bound_of := T.D.d_is_bound_of
abbrev Top.a_nought_form := T.D.a_nought_form
abbrev Top.d_nought_form := T.D.d_nought_form
abbrev Top.a_unit_form := T.D.a_unit_form
abbrev Top.d_unit_form := T.D.d_unit_form
abbrev Top.a_times_form := T.D.a_times_form
abbrev Top.d_times_form := T.D.d_times_form
abbrev Top.a_is_nought := T.D.a_is_nought
abbrev Top.d_is_nought := T.D.d_is_nought
abbrev Top.a_check_numbers_of := T.D.a_check_numbers_of
abbrev Top.d_check_numbers_of := T.D.d_check_numbers_of
abbrev Top.a_value_of := T.D.a_value_of
abbrev Top.d_value_of := T.D.d_value_of
abbrev Top.a_sum_form := T.D.a_sum_form
abbrev Top.d_sum_form := T.D.d_sum_form
abbrev Top.a_shows_point := T.D.a_shows_point
abbrev Top.d_shows_point := T.D.d_shows_point
abbrev Top.a_shows_clash := T.D.a_shows_clash
abbrev Top.d_shows_clash := T.D.d_shows_clash
abbrev Top.a_are_clashing := T.D.a_are_clashing
abbrev Top.d_are_clashing := T.D.d_are_clashing
abbrev Top.a_settled := T.D.a_settled
abbrev Top.d_settled := T.D.d_settled
abbrev Top.a_check_bounds := T.D.a_check_bounds
abbrev Top.d_check_bounds := T.D.d_check_bounds
abbrev Top.a_reduced := T.D.a_reduced
abbrev Top.d_reduced := T.D.d_reduced
abbrev Top.a_point_or_clash := T.D.a_point_or_clash
abbrev Top.d_point_or_clash := T.D.d_point_or_clash
abbrev Top.a_settled_forms := T.D.a_settled_forms
abbrev Top.d_settled_forms := T.D.d_settled_forms
abbrev Top.a_first_place := T.D.a_first_place
abbrev Top.d_first_place := T.D.d_first_place
abbrev Top.a_short_place := T.D.a_short_place
abbrev Top.d_short_place := T.D.d_short_place
abbrev Top.a_leaving_line := T.D.a_leaving_line
abbrev Top.d_leaving_line := T.D.d_leaving_line
abbrev Top.a_clashing_weights := T.D.a_clashing_weights
abbrev Top.d_clashing_weights := T.D.d_clashing_weights
abbrev Top.a__law_pen := T.D.a__law_pen
abbrev Top.d__law_pen := T.D.d__law_pen
abbrev Top.a__law_draw := T.D.a__law_draw
abbrev Top.d__law_draw := T.D.d__law_draw
abbrev Top.a__law_pick := T.D.a__law_pick
abbrev Top.d__law_pick := T.D.d__law_pick
abbrev Top.a__law_factor := T.D.a__law_factor
abbrev Top.d__law_factor := T.D.d__law_factor
abbrev Top.a__law_form := T.D.a__law_form
abbrev Top.d__law_form := T.D.d__law_form
abbrev Top.a__law_value := T.D.a__law_value
abbrev Top.d__law_value := T.D.d__law_value
abbrev Top.a__law_plain_bounds := T.D.a__law_plain_bounds
abbrev Top.d__law_plain_bounds := T.D.d__law_plain_bounds
abbrev Top.a__law_clashes := T.D.a__law_clashes
abbrev Top.d__law_clashes := T.D.d__law_clashes
abbrev Top.a__law_holds := T.D.a__law_holds
abbrev Top.d__law_holds := T.D.d__law_holds
abbrev Top.a__law_as_bounds := T.D.a__law_as_bounds
abbrev Top.d__law_as_bounds := T.D.d__law_as_bounds
abbrev Top.a__law_settled_right := T.D.a__law_settled_right
abbrev Top.d__law_settled_right := T.D.d__law_settled_right
abbrev Top.a_law := T.D.a_law
abbrev Top.d_law := T.D.d_law
abbrev Top.a_Bound___init__ := T.D.a_Bound___init__
abbrev Top.d_Bound___init__ := T.D.d_Bound___init__
abbrev Top.a_Bound___call__ := T.D.a_Bound___call__
abbrev Top.d_Bound___call__ := T.D.d_Bound___call__
abbrev Top.a_Bound___eq__ := T.D.a_Bound___eq__
abbrev Top.d_Bound___eq__ := T.D.d_Bound___eq__
abbrev Top.a_Point___init__ := T.D.a_Point___init__
abbrev Top.d_Point___init__ := T.D.d_Point___init__
abbrev Top.a_Point___bool__ := T.D.a_Point___bool__
abbrev Top.d_Point___bool__ := T.D.d_Point___bool__
abbrev Top.a_Point___eq__ := T.D.a_Point___eq__
abbrev Top.d_Point___eq__ := T.D.d_Point___eq__
abbrev Top.a_Clash___init__ := T.D.a_Clash___init__
abbrev Top.d_Clash___init__ := T.D.d_Clash___init__
abbrev Top.a_Clash___bool__ := T.D.a_Clash___bool__
abbrev Top.d_Clash___bool__ := T.D.d_Clash___bool__
abbrev Top.a_Clash___eq__ := T.D.a_Clash___eq__
abbrev Top.d_Clash___eq__ := T.D.d_Clash___eq__
abbrev Top.a_Grid___init__ := T.D.a_Grid___init__
abbrev Top.d_Grid___init__ := T.D.d_Grid___init__
abbrev Top.a_Grid_exchange := T.D.a_Grid_exchange
abbrev Top.d_Grid_exchange := T.D.d_Grid_exchange
abbrev Top.C_Bound := T.D.C_Bound
abbrev Top.C_Point := T.D.C_Point
abbrev Top.C_Clash := T.D.C_Clash
abbrev Top.C_Grid := T.D.C_Grid
abbrev Top.t_MOST_FACTORS := T.D.t_MOST_FACTORS
abbrev Top.t_MOST_BOUNDS := T.D.t_MOST_BOUNDS
abbrev Top.F_is_integer : Fun K "is_integer" "is_integer" sis_integer T.a_is_integer T.d_is_integer := T.f0.F_is_integer
abbrev Top.b_is_integer : Binds K T.d_is_integer ["value"] [] := T.f0.b_is_integer
abbrev Top.g_is_integer : mg "is_integer" = some (.ref T.a_is_integer) := T.f0.g_is_integer
abbrev Top.F_own_copy : Fun K "own_copy" "own_copy" sown_copy T.a_own_copy T.d_own_copy := T.f0.F_own_copy
abbrev Top.b_own_copy : Binds K T.d_own_copy ["value"] [] := T.f0.b_own_copy
abbrev Top.g_own_copy : mg "own_copy" = some (.ref T.a_own_copy) := T.f0.g_own_copy
abbrev Top.F_same : Fun K "same" "same" ssame T.a_same T.d_same := T.f0.F_same
abbrev Top.b_same : Binds K T.d_same ["one", "other"] [] := T.f0.b_same
abbrev Top.g_same : mg "same" = some (.ref T.a_same) := T.f0.g_same
abbrev Top.F_has_same : Fun K "has_same" "has_same" shas_same T.a_has_same T.d_has_same := T.f0.F_has_same
abbrev Top.b_has_same : Binds K T.d_has_same ["table", "key", "value"] [] := T.f0.b_has_same
abbrev Top.g_has_same : mg "has_same" = some (.ref T.a_has_same) := T.f0.g_has_same
abbrev Top.F_lowest_terms : Fun K "lowest_terms" "lowest_terms" slowest_terms T.a_lowest_terms T.d_lowest_terms := T.f0.F_lowest_terms
abbrev Top.b_lowest_terms : Binds K T.d_lowest_terms ["numbers"] [] := T.f0.b_lowest_terms
abbrev Top.g_lowest_terms : mg "lowest_terms" = some (.ref T.a_lowest_terms) := T.f0.g_lowest_terms
abbrev Top.F_is_form : Fun K "is_form" "is_form" sis_form T.a_is_form T.d_is_form := T.f0.F_is_form
abbrev Top.b_is_form : Binds K T.d_is_form ["value"] [] := T.f0.b_is_form
abbrev Top.g_is_form : mg "is_form" = some (.ref T.a_is_form) := T.f0.g_is_form
abbrev Top.F_is_bound_of : Fun K "is_bound_of" "is_bound_of" sis_bound_of T.a_is_bound_of T.d_is_bound_of := T.f0.F_is_bound_of
abbrev Top.b_is_bound_of : Binds K T.d_is_bound_of ["value", "many"] [] := T.f0.b_is_bound_of
abbrev Top.g_is_bound_of : mg "is_bound_of" = some (.ref T.a_is_bound_of) := T.f0.g_is_bound_of
abbrev Top.F_nought_form : Fun K "nought_form" "nought_form" snought_form T.a_nought_form T.d_nought_form := T.f0.F_nought_form
abbrev Top.b_nought_form : Binds K T.d_nought_form ["many"] [] := T.f0.b_nought_form
abbrev Top.g_nought_form : mg "nought_form" = some (.ref T.a_nought_form) := T.f0.g_nought_form
abbrev Top.F_unit_form : Fun K "unit_form" "unit_form" sunit_form T.a_unit_form T.d_unit_form := T.f0.F_unit_form
abbrev Top.b_unit_form : Binds K T.d_unit_form ["at", "many"] [] := T.f0.b_unit_form
abbrev Top.g_unit_form : mg "unit_form" = some (.ref T.a_unit_form) := T.f0.g_unit_form
abbrev Top.F_times_form : Fun K "times_form" "times_form" stimes_form T.a_times_form T.d_times_form := T.f0.F_times_form
abbrev Top.b_times_form : Binds K T.d_times_form ["number", "form"] [] := T.f0.b_times_form
abbrev Top.g_times_form : mg "times_form" = some (.ref T.a_times_form) := T.f0.g_times_form
abbrev Top.F_is_nought : Fun K "is_nought" "is_nought" sis_nought T.a_is_nought T.d_is_nought := T.f0.F_is_nought
abbrev Top.b_is_nought : Binds K T.d_is_nought ["form"] [] := T.f0.b_is_nought
abbrev Top.g_is_nought : mg "is_nought" = some (.ref T.a_is_nought) := T.f0.g_is_nought
abbrev Top.F_check_numbers_of : Fun K "check_numbers_of" "check_numbers_of" scheck_numbers_of T.a_check_numbers_of T.d_check_numbers_of := T.f0.F_check_numbers_of
abbrev Top.b_check_numbers_of : Binds K T.d_check_numbers_of ["numbers", "many"] [] := T.f0.b_check_numbers_of
abbrev Top.g_check_numbers_of : mg "check_numbers_of" = some (.ref T.a_check_numbers_of) := T.f0.g_check_numbers_of
abbrev Top.F_value_of : Fun K "value_of" "value_of" svalue_of T.a_value_of T.d_value_of := T.f0.F_value_of
abbrev Top.b_value_of : Binds K T.d_value_of ["form", "numbers"] [] := T.f0.b_value_of
abbrev Top.g_value_of : mg "value_of" = some (.ref T.a_value_of) := T.f0.g_value_of
abbrev Top.F_sum_form : Fun K "sum_form" "sum_form" ssum_form T.a_sum_form T.d_sum_form := T.f0.F_sum_form
abbrev Top.b_sum_form : Binds K T.d_sum_form ["one", "other"] [] := T.f0.b_sum_form
abbrev Top.g_sum_form : mg "sum_form" = some (.ref T.a_sum_form) := T.f0.g_sum_form
abbrev Top.F_shows_point : Fun K "shows_point" "shows_point" sshows_point T.a_shows_point T.d_shows_point := T.f0.F_shows_point
abbrev Top.b_shows_point : Binds K T.d_shows_point ["bounds", "many", "value"] [] := T.f0.b_shows_point
abbrev Top.g_shows_point : mg "shows_point" = some (.ref T.a_shows_point) := T.f0.g_shows_point
abbrev Top.F_shows_clash : Fun K "shows_clash" "shows_clash" sshows_clash T.a_shows_clash T.d_shows_clash := T.f0.F_shows_clash
abbrev Top.b_shows_clash : Binds K T.d_shows_clash ["bounds", "many", "value"] [] := T.f0.b_shows_clash
abbrev Top.g_shows_clash : mg "shows_clash" = some (.ref T.a_shows_clash) := T.f0.g_shows_clash
abbrev Top.F_are_clashing : Fun K "are_clashing" "are_clashing" sare_clashing T.a_are_clashing T.d_are_clashing := T.f0.F_are_clashing
abbrev Top.b_are_clashing : Binds K T.d_are_clashing ["bounds", "many", "weights"] [] := T.f0.b_are_clashing
abbrev Top.g_are_clashing : mg "are_clashing" = some (.ref T.a_are_clashing) := T.f0.g_are_clashing
abbrev Top.F_settled : Fun K "settled" "settled" ssettled T.a_settled T.d_settled := T.f0.F_settled
abbrev Top.b_settled : Binds K T.d_settled ["bounds", "many"] [] := T.f0.b_settled
abbrev Top.g_settled : mg "settled" = some (.ref T.a_settled) := T.f0.g_settled
abbrev Top.F_check_bounds : Fun K "check_bounds" "check_bounds" scheck_bounds T.a_check_bounds T.d_check_bounds := T.f0.F_check_bounds
abbrev Top.b_check_bounds : Binds K T.d_check_bounds ["bounds", "many"] [] := T.f0.b_check_bounds
abbrev Top.g_check_bounds : mg "check_bounds" = some (.ref T.a_check_bounds) := T.f0.g_check_bounds
abbrev Top.F_reduced : Fun K "reduced" "reduced" sreduced T.a_reduced T.d_reduced := T.f0.F_reduced
abbrev Top.b_reduced : Binds K T.d_reduced ["line", "held", "place", "scale"] [] := T.f0.b_reduced
abbrev Top.g_reduced : mg "reduced" = some (.ref T.a_reduced) := T.f0.g_reduced
abbrev Top.F_point_or_clash : Fun K "point_or_clash" "point_or_clash" spoint_or_clash T.a_point_or_clash T.d_point_or_clash := T.f1.F_point_or_clash
abbrev Top.b_point_or_clash : Binds K T.d_point_or_clash ["bounds", "many"] [] := T.f1.b_point_or_clash
abbrev Top.g_point_or_clash : mg "point_or_clash" = some (.ref T.a_point_or_clash) := T.f1.g_point_or_clash
abbrev Top.F_settled_forms : Fun K "settled_forms" "settled_forms" ssettled_forms T.a_settled_forms T.d_settled_forms := T.f1.F_settled_forms
abbrev Top.b_settled_forms : Binds K T.d_settled_forms ["forms", "gains", "many"] [] := T.f1.b_settled_forms
abbrev Top.g_settled_forms : mg "settled_forms" = some (.ref T.a_settled_forms) := T.f1.g_settled_forms
abbrev Top.F_first_place : Fun K "first_place" "first_place" sfirst_place T.a_first_place T.d_first_place := T.f1.F_first_place
abbrev Top.b_first_place : Binds K T.d_first_place ["line", "many"] [] := T.f1.b_first_place
abbrev Top.g_first_place : mg "first_place" = some (.ref T.a_first_place) := T.f1.g_first_place
abbrev Top.F_short_place : Fun K "short_place" "short_place" sshort_place T.a_short_place T.d_short_place := T.f1.F_short_place
abbrev Top.b_short_place : Binds K T.d_short_place ["grid", "many"] [] := T.f1.b_short_place
abbrev Top.g_short_place : mg "short_place" = some (.ref T.a_short_place) := T.f1.g_short_place
abbrev Top.F_leaving_line : Fun K "leaving_line" "leaving_line" sleaving_line T.a_leaving_line T.d_leaving_line := T.f1.F_leaving_line
abbrev Top.b_leaving_line : Binds K T.d_leaving_line ["grid", "place"] [] := T.f1.b_leaving_line
abbrev Top.g_leaving_line : mg "leaving_line" = some (.ref T.a_leaving_line) := T.f1.g_leaving_line
abbrev Top.F_clashing_weights : Fun K "clashing_weights" "clashing_weights" sclashing_weights T.a_clashing_weights T.d_clashing_weights := T.f1.F_clashing_weights
abbrev Top.b_clashing_weights : Binds K T.d_clashing_weights ["grid", "place", "many"] [] := T.f1.b_clashing_weights
abbrev Top.g_clashing_weights : mg "clashing_weights" = some (.ref T.a_clashing_weights) := T.f1.g_clashing_weights
abbrev Top.F__law_pen : Fun K "_law_pen" "_law_pen" s_law_pen T.a__law_pen T.d__law_pen := T.f1.F__law_pen
abbrev Top.b__law_pen : Binds K T.d__law_pen ["_law_script"] [] := T.f1.b__law_pen
abbrev Top.g__law_pen : mg "_law_pen" = some (.ref T.a__law_pen) := T.f1.g__law_pen
abbrev Top.F__law_draw : Fun K "_law_draw" "_law_draw" s_law_draw T.a__law_draw T.d__law_draw := T.f1.F__law_draw
abbrev Top.b__law_draw : Binds K T.d__law_draw ["_law_pen_here", "_law_many"] [] := T.f1.b__law_draw
abbrev Top.g__law_draw : mg "_law_draw" = some (.ref T.a__law_draw) := T.f1.g__law_draw
abbrev Top.F__law_pick : Fun K "_law_pick" "_law_pick" s_law_pick T.a__law_pick T.d__law_pick := T.f1.F__law_pick
abbrev Top.b__law_pick : Binds K T.d__law_pick ["_law_pen_here", "_law_some"] [] := T.f1.b__law_pick
abbrev Top.g__law_pick : mg "_law_pick" = some (.ref T.a__law_pick) := T.f1.g__law_pick
abbrev Top.F__law_factor : Fun K "_law_factor" "_law_factor" s_law_factor T.a__law_factor T.d__law_factor := T.f1.F__law_factor
abbrev Top.b__law_factor : Binds K T.d__law_factor ["_law_pen_here"] [] := T.f1.b__law_factor
abbrev Top.g__law_factor : mg "_law_factor" = some (.ref T.a__law_factor) := T.f1.g__law_factor
abbrev Top.F__law_form : Fun K "_law_form" "_law_form" s_law_form T.a__law_form T.d__law_form := T.f1.F__law_form
abbrev Top.b__law_form : Binds K T.d__law_form ["_law_pen_here", "_law_many"] [] := T.f1.b__law_form
abbrev Top.g__law_form : mg "_law_form" = some (.ref T.a__law_form) := T.f1.g__law_form
abbrev Top.F__law_value : Fun K "_law_value" "_law_value" s_law_value T.a__law_value T.d__law_value := T.f1.F__law_value
abbrev Top.b__law_value : Binds K T.d__law_value ["_law_form_here", "_law_numbers"] [] := T.f1.b__law_value
abbrev Top.g__law_value : mg "_law_value" = some (.ref T.a__law_value) := T.f1.g__law_value
abbrev Top.F__law_plain_bounds : Fun K "_law_plain_bounds" "_law_plain_bounds" s_law_plain_bounds T.a__law_plain_bounds T.d__law_plain_bounds := T.f1.F__law_plain_bounds
abbrev Top.b__law_plain_bounds : Binds K T.d__law_plain_bounds ["_law_pen_here", "_law_many", "_law_most"] [] := T.f1.b__law_plain_bounds
abbrev Top.g__law_plain_bounds : mg "_law_plain_bounds" = some (.ref T.a__law_plain_bounds) := T.f1.g__law_plain_bounds
abbrev Top.F__law_clashes : Fun K "_law_clashes" "_law_clashes" s_law_clashes T.a__law_clashes T.d__law_clashes := T.f1.F__law_clashes
abbrev Top.b__law_clashes : Binds K T.d__law_clashes ["_law_bounds", "_law_weights"] [] := T.f1.b__law_clashes
abbrev Top.g__law_clashes : mg "_law_clashes" = some (.ref T.a__law_clashes) := T.f1.g__law_clashes
abbrev Top.F__law_holds : Fun K "_law_holds" "_law_holds" s_law_holds T.a__law_holds T.d__law_holds := T.f1.F__law_holds
abbrev Top.b__law_holds : Binds K T.d__law_holds ["_law_bounds", "_law_numbers"] [] := T.f1.b__law_holds
abbrev Top.g__law_holds : mg "_law_holds" = some (.ref T.a__law_holds) := T.f1.g__law_holds
abbrev Top.F__law_as_bounds : Fun K "_law_as_bounds" "_law_as_bounds" s_law_as_bounds T.a__law_as_bounds T.d__law_as_bounds := T.f1.F__law_as_bounds
abbrev Top.b__law_as_bounds : Binds K T.d__law_as_bounds ["_law_bounds"] [] := T.f1.b__law_as_bounds
abbrev Top.g__law_as_bounds : mg "_law_as_bounds" = some (.ref T.a__law_as_bounds) := T.f1.g__law_as_bounds
abbrev Top.F__law_settled_right : Fun K "_law_settled_right" "_law_settled_right" s_law_settled_right T.a__law_settled_right T.d__law_settled_right := T.f1.F__law_settled_right
abbrev Top.b__law_settled_right : Binds K T.d__law_settled_right ["_law_pen_here", "_law_bounds", "_law_many"] [] := T.f1.b__law_settled_right
abbrev Top.g__law_settled_right : mg "_law_settled_right" = some (.ref T.a__law_settled_right) := T.f1.g__law_settled_right
abbrev Top.F_law : Fun K "law" "law" slaw T.a_law T.d_law := T.f1.F_law
abbrev Top.g_law : mg "law" = some (.ref T.a_law) := T.f1.g_law
abbrev Top.F_Bound___init__ : FunD K "__init__" "Bound.__init__" (defArgs sBound___init__) (defBody sBound___init__) (defScope sBound___init__) [.bl false] [] T.a_Bound___init__ T.d_Bound___init__ := T.f1.F_Bound___init__
abbrev Top.b_Bound___init__ : Binds K T.d_Bound___init__ ["self", "form", "is_strict"] [] := T.f1.b_Bound___init__
abbrev Top.F_Bound___call__ : Fun K "__call__" "Bound.__call__" sBound___call__ T.a_Bound___call__ T.d_Bound___call__ := T.f1.F_Bound___call__
abbrev Top.b_Bound___call__ : Binds K T.d_Bound___call__ ["self", "numbers"] [] := T.f1.b_Bound___call__
abbrev Top.F_Bound___eq__ : Fun K "__eq__" "Bound.__eq__" sBound___eq__ T.a_Bound___eq__ T.d_Bound___eq__ := T.f1.F_Bound___eq__
abbrev Top.b_Bound___eq__ : Binds K T.d_Bound___eq__ ["self", "other"] [] := T.f1.b_Bound___eq__
abbrev Top.F_Point___init__ : Fun K "__init__" "Point.__init__" sPoint___init__ T.a_Point___init__ T.d_Point___init__ := T.f2.F_Point___init__
abbrev Top.b_Point___init__ : Binds K T.d_Point___init__ ["self", "counts"] [] := T.f2.b_Point___init__
abbrev Top.F_Point___bool__ : Fun K "__bool__" "Point.__bool__" sPoint___bool__ T.a_Point___bool__ T.d_Point___bool__ := T.f2.F_Point___bool__
abbrev Top.b_Point___bool__ : Binds K T.d_Point___bool__ ["self"] [] := T.f2.b_Point___bool__
abbrev Top.F_Point___eq__ : Fun K "__eq__" "Point.__eq__" sPoint___eq__ T.a_Point___eq__ T.d_Point___eq__ := T.f2.F_Point___eq__
abbrev Top.b_Point___eq__ : Binds K T.d_Point___eq__ ["self", "other"] [] := T.f2.b_Point___eq__
abbrev Top.F_Clash___init__ : Fun K "__init__" "Clash.__init__" sClash___init__ T.a_Clash___init__ T.d_Clash___init__ := T.f2.F_Clash___init__
abbrev Top.b_Clash___init__ : Binds K T.d_Clash___init__ ["self", "weights"] [] := T.f2.b_Clash___init__
abbrev Top.F_Clash___bool__ : Fun K "__bool__" "Clash.__bool__" sClash___bool__ T.a_Clash___bool__ T.d_Clash___bool__ := T.f2.F_Clash___bool__
abbrev Top.b_Clash___bool__ : Binds K T.d_Clash___bool__ ["self"] [] := T.f2.b_Clash___bool__
abbrev Top.F_Clash___eq__ : Fun K "__eq__" "Clash.__eq__" sClash___eq__ T.a_Clash___eq__ T.d_Clash___eq__ := T.f2.F_Clash___eq__
abbrev Top.b_Clash___eq__ : Binds K T.d_Clash___eq__ ["self", "other"] [] := T.f2.b_Clash___eq__
abbrev Top.F_Grid___init__ : Fun K "__init__" "Grid.__init__" sGrid___init__ T.a_Grid___init__ T.d_Grid___init__ := T.f2.F_Grid___init__
abbrev Top.b_Grid___init__ : Binds K T.d_Grid___init__ ["self", "forms", "gains", "many"] [] := T.f2.b_Grid___init__
abbrev Top.F_Grid_exchange : Fun K "exchange" "Grid.exchange" sGrid_exchange T.a_Grid_exchange T.d_Grid_exchange := T.f2.F_Grid_exchange
abbrev Top.b_Grid_exchange : Binds K T.d_Grid_exchange ["self", "at", "place"] [] := T.f2.b_Grid_exchange
abbrev Top.g_Bound : mg "Bound" = some (.ref T.C_Bound) := T.f2.g_Bound
abbrev Top.cl_Bound : Cls K T.C_Bound := T.f2.cl_Bound
abbrev Top.na_Bound_form : NoAttr K T.C_Bound "form" := T.f2.na_Bound_form
abbrev Top.na_Bound_is_strict : NoAttr K T.C_Bound "is_strict" := T.f2.na_Bound_is_strict
abbrev Top.mk_Bound : Mk K T.C_Bound T.a_Bound___init__ := T.f2.mk_Bound
abbrev Top.om_Bound___eq__ : OwnM K T.C_Bound "__eq__" T.a_Bound___eq__ := T.f2.om_Bound___eq__
abbrev Top.ki_Bound : PySem.W.kitOne K (.ref T.C_Bound) (.ref T.C_Bound) = some true := T.f2.ki_Bound
abbrev Top.g_Point : mg "Point" = some (.ref T.C_Point) := T.f2.g_Point
abbrev Top.na_Point_counts : NoAttr K T.C_Point "counts" := T.f2.na_Point_counts
abbrev Top.ne_Point : PySem.W.findIn K (.ref T.C_Point) "__ne__" = some (some (.builtin "object.__ne__")) := T.f2.ne_Point
abbrev Top.mr_Point : PySem.W.mroIn K T.C_Point (.type "object") = some true := T.f2.mr_Point
abbrev Top.mk_Point : Mk K T.C_Point T.a_Point___init__ := T.f2.mk_Point
abbrev Top.om_Point___bool__ : OwnM K T.C_Point "__bool__" T.a_Point___bool__ := T.f2.om_Point___bool__
abbrev Top.om_Point___eq__ : OwnM K T.C_Point "__eq__" T.a_Point___eq__ := T.f2.om_Point___eq__
abbrev Top.ki_Point : PySem.W.kitOne K (.ref T.C_Point) (.ref T.C_Point) = some true := T.f2.ki_Point
abbrev Top.g_Clash : mg "Clash" = some (.ref T.C_Clash) := T.f2.g_Clash
abbrev Top.na_Clash_weights : NoAttr K T.C_Clash "weights" := T.f2.na_Clash_weights
abbrev Top.ne_Clash : PySem.W.findIn K (.ref T.C_Clash) "__ne__" = some (some (.builtin "object.__ne__")) := T.f2.ne_Clash
abbrev Top.mr_Clash : PySem.W.mroIn K T.C_Clash (.type "object") = some true := T.f2.mr_Clash
abbrev Top.mk_Clash : Mk K T.C_Clash T.a_Clash___init__ := T.f2.mk_Clash
abbrev Top.om_Clash___bool__ : OwnM K T.C_Clash "__bool__" T.a_Clash___bool__ := T.f2.om_Clash___bool__
abbrev Top.om_Clash___eq__ : OwnM K T.C_Clash "__eq__" T.a_Clash___eq__ := T.f2.om_Clash___eq__
abbrev Top.ki_Clash : PySem.W.kitOne K (.ref T.C_Clash) (.ref T.C_Clash) = some true := T.f2.ki_Clash
abbrev Top.g_Grid : mg "Grid" = some (.ref T.C_Grid) := T.f2.g_Grid
abbrev Top.cl_Grid : Cls K T.C_Grid := T.f2.cl_Grid
abbrev Top.na_Grid_lines : NoAttr K T.C_Grid "lines" := T.f2.na_Grid_lines
abbrev Top.na_Grid_gains : NoAttr K T.C_Grid "gains" := T.f3.na_Grid_gains
abbrev Top.na_Grid_holders : NoAttr K T.C_Grid "holders" := T.f3.na_Grid_holders
abbrev Top.na_Grid_scale : NoAttr K T.C_Grid "scale" := T.f3.na_Grid_scale
abbrev Top.mk_Grid : Mk K T.C_Grid T.a_Grid___init__ := T.f3.mk_Grid
abbrev Top.sg : PySem.W.specialIn K (.builtin "object.__class__") "__get__" = some (some (.builtin "getset_descriptor.__get__")) := T.f3.sg
abbrev Top.tk : PySem.W.takesIn K (.builtin "object.__class__") = some true := T.f3.tk
abbrev Top.gc_Bound : GoodC K T.C_Bound := T.f3.gc_Bound
abbrev Top.oc_Bound___call__ : StX.CallO K T.C_Bound T.a_Bound___call__ := T.f3.oc_Bound___call__
abbrev Top.gc_Point : GoodC K T.C_Point := T.f3.gc_Point
abbrev Top.gc_Clash : GoodC K T.C_Clash := T.f3.gc_Clash
abbrev Top.gc_Grid : GoodC K T.C_Grid := T.f3.gc_Grid
abbrev Top.me_Grid_exchange : Meth K T.C_Grid "exchange" T.a_Grid_exchange := T.f3.me_Grid_exchange
abbrev Top.kn_tuple_Point : PySem.W.kitOne K (.type "tuple") (.ref T.C_Point) = some false := T.f3.kn_tuple_Point
abbrev Top.kn_NoneType_Point : PySem.W.kitOne K (.type "NoneType") (.ref T.C_Point) = some false := T.f3.kn_NoneType_Point
abbrev Top.kn_tuple_Clash : PySem.W.kitOne K (.type "tuple") (.ref T.C_Clash) = some false := T.f3.kn_tuple_Clash
abbrev Top.kn_NoneType_Clash : PySem.W.kitOne K (.type "NoneType") (.ref T.C_Clash) = some false := T.f3.kn_NoneType_Clash
abbrev Top.bf_gcd : mg "gcd" = some (.builtin "math.gcd") := T.f3.bf_gcd
abbrev Top.kt_Point_Clash : PySem.W.kitOne K (.ref T.C_Point) (.ref T.C_Clash) = some false := T.f3.kt_Point_Clash
abbrev Top.kt_Clash_Point : PySem.W.kitOne K (.ref T.C_Clash) (.ref T.C_Point) = some false := T.f3.kt_Clash_Point
abbrev Top.kb_settled_0 : KBinds K T.d_settled ["bounds", "many"] ["bounds", "many"] (gPerm 0 2 [0, 1]) (gPerm 0 2 [0, 1]) := T.f3.kb_settled_0
abbrev Top.e_law : ∀ (s : Shared) (u : Value), BindsTo s T.d_law ⟨[u], []⟩ [("_law_script", u)] := T.f3.e_law
abbrev Top.z_abs : mg "abs" = none := T.f3.z_abs
abbrev Top.z_all : mg "all" = none := T.f3.z_all
abbrev Top.z_any : mg "any" = none := T.f3.z_any
abbrev Top.z_bool : mg "bool" = none := T.f3.z_bool
abbrev Top.z_dict : mg "dict" = none := T.f3.z_dict
abbrev Top.z_enumerate : mg "enumerate" = none := T.f3.z_enumerate
abbrev Top.z_int : mg "int" = none := T.f3.z_int
abbrev Top.z_isinstance : mg "isinstance" = none := T.f3.z_isinstance
abbrev Top.z_len : mg "len" = none := T.f3.z_len
abbrev Top.z_list : mg "list" = none := T.f3.z_list
abbrev Top.z_range : mg "range" = none := T.f3.z_range
abbrev Top.z_repr : mg "repr" = none := T.f3.z_repr
abbrev Top.z_sum : mg "sum" = none := T.f3.z_sum
abbrev Top.z_tuple : mg "tuple" = none := T.f3.z_tuple
abbrev Top.z_zip : mg "zip" = none := T.f3.z_zip
abbrev Top.c_MOST_FACTORS : mg "MOST_FACTORS" = some (.int 8 T.t_MOST_FACTORS) := T.f3.c_MOST_FACTORS
abbrev Top.c_MOST_BOUNDS : mg "MOST_BOUNDS" = some (.int 80 T.t_MOST_BOUNDS) := T.f3.c_MOST_BOUNDS
end
section
variable {P : Program} {w : World} {K : PySem.W.Frag} {mg : Str → Option Value} {base : Heap}
theorem ok_draw (T : Top K mg) : FnOk P w K mg base CX0 (0 + 1) T.a__law_draw T.d__law_draw ["_law_pen_here", "_law_many"] spDraw := by
  refine T.F__law_draw.ok sc_law_draw (fun vs H Q E h => ?_) (fun cdv A outer s H vs Q E hr h => ?_)
  · obtain ⟨p, c, many, m, rfl, _⟩ := h
    rfl
  · obtain ⟨p, c, many, m, rfl, ⟨ns, n, g, hp, hc, ncp, hl, n0, nm, g0⟩, h1, h2, hm, q⟩ := h
    refine ⟨_, (pss_cons (ps_if (pt_cmpR op_gt (pe_ix (ixL (K := K) rfl) (pv 0) pe_int (fun _ _ => rfl)) pe_int (nomark _))
    (pss_cons (ps_set (i := 2) sc_law_draw.nd rfl (.inl rfl) (pe_op op_modN (pe_callTy call_int1 (by rfl) T.z_int (by decide +kernel) (pa_cons (pe_ix (ixL (K := K) rfl) (pv 0) pe_int (fun _ _ => rfl)) pa_nil)) (pv 1)))
  (pss_cons (ps_asg (pe_op op_fdivW (pe_callTy call_int1 (by rfl) T.z_int (by decide +kernel) (pa_cons (pe_ix (ixL (K := K) rfl) (pv 0) pe_int (fun _ _ => rfl)) pa_nil)) (pv 1)) (pg_sub (pv 0) pe_int set_list))
  (pss_one (ps_ret (pv 2)))))
    pss_nil)
  (pss_cons (ps_set (i := 3) sc_law_draw.nd rfl (.inl rfl) (pe_ix (ixL (K := K) rfl) (pv 0) pe_int (fun _ _ => rfl)))
  (pss_cons (ps_asg (pe_op op_add (pv 3) pe_int) (pg_sub (pv 0) pe_int set_list))
  (pss_cons (ps_set (i := 4) sc_law_draw.nd rfl (.inl rfl) (pe_op op_add (pe_op op_mul pe_int (pv 3)) pe_int))
  (pss_cons (ps_if (pt_cmpR (op_neD (Room.units hr)) (pe_ix (ixL (K := K) rfl) (pv 0) pe_int (fun _ _ => rfl)) (pe_lst pa_nil) (nomark _))
    (pss_one (ps_set (i := 4) sc_law_draw.nd rfl (.inl rfl) (pe_ix (ixL (K := K) rfl) (pe_ix (ixL (K := K) rfl) (pv 0) pe_int (fun _ _ => rfl)) (pe_op op_modN (pe_callTy call_int1 (by rfl) T.z_int (by decide +kernel) (pa_cons (pv 3) pa_nil)) (pe_callB call_len_seq (by rfl) T.z_len (by decide +kernel) (pa_cons (pe_ix (ixL (K := K) rfl) (pv 0) pe_int (fun _ _ => rfl)) pa_nil))) (fun _ _ => rfl))))
    pss_nil)
  (pss_cons (ps_if (PW.pt (pw_and (pt_cmpR op_lt (pv 3) (pe_callB call_len_seq (by rfl) T.z_len (by decide +kernel) (pa_cons (pe_ix (ixL (K := K) rfl) (pv 0) pe_int (fun _ _ => rfl)) pa_nil)) (nomark _)) (pw_and1 (pt_cmpR op_ge (pe_callB call_abs (by rfl) T.z_abs (by decide +kernel) (pa_cons (pv 4) pa_nil)) (pe_op op_pow pe_int pe_int) (nomark _)))))
    (pss_cons (ps_set (i := 5) sc_law_draw.nd rfl (.inl rfl) (pe_op op_add (pe_op op_mul pe_int (pe_op op_sub (pe_callB call_abs (by rfl) T.z_abs (by decide +kernel) (pa_cons (pv 4) pa_nil)) (pe_op op_pow pe_int pe_int))) (pe_callTy call_int1 (by rfl) T.z_int (by decide +kernel) (pa_cons (pe_cmpR op_lt (pv 4) pe_int (nomark _)) pa_nil))))
  (pss_cons (ps_asg (pe_op op_fdivW (pe_callTy call_int1 (by rfl) T.z_int (by decide +kernel) (pa_cons (pv 5) pa_nil)) (pv 1)) (pg_sub (pv 0) pe_int set_list))
  (pss_one (ps_ret (pe_op op_modN (pe_callTy call_int1 (by rfl) T.z_int (by decide +kernel) (pa_cons (pv 5) pa_nil)) (pv 1))))))
    pss_nil)
  (pss_cons (ps_set (i := 6) sc_law_draw.nd rfl (.inl rfl) (pe_op op_modN (pe_callTy call_int1 (by rfl) T.z_int (by decide +kernel) (pa_cons (pe_op op_pow (pe_op op_add (pe_op op_add (pe_op op_modN (pe_callTy call_int1 (by rfl) T.z_int (by decide +kernel) (pa_cons (pv 4) pa_nil)) pe_int) (pe_op op_mul pe_int (pv 3))) pe_int) pe_int) pa_nil)) pe_int))
  (pss_cons (ps_set (i := 6) sc_law_draw.nd rfl (.inl rfl) (pe_op op_modN (pe_callTy call_int1 (by rfl) T.z_int (by decide +kernel) (pa_cons (pe_op op_pow (pe_op op_add (pe_op op_add (pe_op op_mul (pv 6) (pe_op op_add (pe_op op_mul pe_int (pv 3)) pe_int)) (pe_op op_mul (pe_op op_mul pe_int (pv 3)) (pv 3))) pe_int) pe_int) pa_nil)) pe_int))
  (pss_one (ps_ret (pe_op op_modN (pe_callTy call_int1 (by rfl) T.z_int (by decide +kernel) (pa_cons (pe_op op_fdivW (pv 6) pe_int) pa_nil)) (pv 1)))))))))))), ?_⟩
    -- if pen[2] > 0
    refine ⟨.ref p, rfl, p, _, 2, .int g, rfl, rfl, .of hp, atI_nat (j := 2) rfl, _, _, rfl, rfl, _, rfl, ite2 (fun e => ?_) (fun e => ?_)⟩
    · have hg : (0 : Int) < g := of_decide_eq_true e
      -- digit = int(pen[2]) % many
      refine ⟨.ref p, rfl, p, _, 2, .int g, rfl, rfl, .of hp, atI_nat (j := 2) rfl, .inl ⟨g, rfl, .int many, rfl, g, many, rfl, rfl, by omega, ?_⟩⟩
      -- pen[2] = int(pen[2]) // many
      refine ⟨.ref p, rfl, p, _, 2, .int g, rfl, rfl, .of hp, atI_nat (j := 2) rfl, .inl ⟨g, rfl, .int many, rfl, g, many, rfl, rfl, wide_div (b := 60) (by omega) (by omega) (by omega) (by omega), .ref p, rfl, p, _, 2, 2, rfl, rfl, hp, rfl, ?_⟩⟩
      refine ⟨_, rfl, q _ _ (fmod_lo _ h1) (fmod_lt _ h1) (pen_set hp hc ncp hl n0 (by omega) (Int.ediv_nonneg g0 (by omega))) (but_upd _ _)⟩
    · -- at = pen[1]; pen[1] = at + 1
      refine ⟨.ref p, rfl, p, _, 1, .int n, rfl, rfl, .of hp, atI_nat (j := 1) rfl, ?_⟩
      refine ⟨.int n, rfl, n, 1, rfl, rfl, .ref p, rfl, p, _, 1, 1, rfl, rfl, hp, rfl, ?_⟩
      generalize hH1 : upd H p (.lst ([V.ref c, .int n, .int g].set 1 (.int (n + 1)))) = H1
      have hp1 : H1 p = some (.lst [.ref c, .int (n + 1), .int g]) := by
        rw [← hH1, upd_same]
        rfl
      have hc1 : H1 c = some (.lst (ns.map V.int)) := by
        rw [← hH1, upd_ne ncp]
        exact hc
      have hb1 : But p H H1 := by
        rw [← hH1]
        exact but_upd _ _
      -- cell = C * at + D
      refine ⟨.int n, rfl, _, n, rfl, rfl, .inl (by decide), _, _, rfl, rfl, ?_⟩
      -- if pen[0] != []
      refine ⟨.ref p, rfl, p, _, 0, .ref c, rfl, rfl, .of hp1, atI_nat (j := 0) rfl, Nat.zero_le _, fun o no => ?_⟩
      have hpo : p ≠ o := ne_of_none hp1 no
      have hco : c ≠ o := ne_of_none hc1 no
      refine ⟨.list (ns.map .int), .list [], .lst (.of ((upd_ne hco).trans hc1)) (dp_ints ns), .lst (.of upd_same) .nil, PySem.W.ke_shaped_ints ns, PySem.W.ke_shaped_ints [], _, rfl, ?_⟩
      generalize hH2 : upd H1 o (.lst []) = H2
      have hp2 : H2 p = some (.lst [.ref c, .int (n + 1), .int g]) := by
        rw [← hH2, upd_ne hpo]
        exact hp1
      have hc2 : H2 c = some (.lst (ns.map V.int)) := by
        rw [← hH2, upd_ne hco]
        exact hc1
      have hb2 : But p H H2 := by
        rw [← hH2]
        exact hb1.trans (but_new no)
      -- cell = pen[0][int(at) % len(pen[0])]
      refine ite2 (fun e2 => ?thn) (fun e2 => ?els)
      case' els =>
        dsimp only
        generalize ((_ : Int) * n + _ : Int) = cell
      case' thn =>
        have hn : ns ≠ [] := fun z => by
          subst z
          cases e2
        have hln : 0 < ns.length := List.length_pos_iff.mpr hn
        have hz : ((ns.map V.int).length : Int) = ns.length := by rw [List.length_map]
        have hj0 : 0 ≤ n.fmod (ns.map V.int).length := fmod_lo _ (by omega)
        have hj1 : n.fmod (ns.map V.int).length < ns.length := hz ▸ fmod_lt _ (by omega)
        have hat : atI (ns.map V.int) (n.fmod (ns.map V.int).length) = some (.int (ns.getD (n.fmod (ns.map V.int).length).toNat 0)) := by
          have := atI_nat (xs := ns.map V.int) (j := (n.fmod (ns.map V.int).length).toNat) (v := .int (ns.getD (n.fmod (ns.map V.int).length).toNat 0)) (by
            rw [List.getElem?_map, List.getD_eq_getElem?_getD, List.getElem?_eq_getElem (by omega)]
            rfl)
          rw [Int.toNat_of_nonneg hj0] at this
          exact this
        refine ⟨.ref p, rfl, p, _, 0, .ref c, rfl, rfl, .of hp2, atI_nat (j := 0) rfl, .int n, rfl, .inl ⟨n, rfl, .ref p, rfl, p, _, 0, .ref c, rfl, rfl, .of hp2, atI_nat (j := 0) rfl, c, _, rfl, .inl (.of hc2), n, _, rfl, rfl, by omega, c, _, _, _, rfl, rfl, .of hc2, hat, ?_⟩⟩
        clear hat hj1 hj0
        generalize ns.getD (n.fmod (ns.map V.int).length).toNat 0 = cell
      all_goals
        -- if at < len(pen[0]) and abs(cell) >= 10 ** 18
        refine ⟨.int n, rfl, .ref p, rfl, p, _, 0, .ref c, rfl, rfl, .of hp2, atI_nat (j := 0) rfl, c, _, rfl, .inl (.of hc2), n, _, rfl, rfl, _, rfl, ite2 (fun e3 => ?_) (fun e3 => ?_)⟩
        · refine ⟨.int cell, rfl, cell, rfl, 10, 18, rfl, rfl, ⟨by decide, by decide, by decide⟩, _, _, rfl, rfl, _, rfl, ite2 (fun e4 => ?_) (fun e4 => ?_)⟩
          · -- great = 2 * (abs(cell) - 10 ** 18) + int(cell < 0)
            have hbig : (10 : Int) ^ 18 ≤ if cell < 0 then -cell else cell := of_decide_eq_true e4
            refine ⟨.int cell, rfl, cell, rfl, 10, 18, rfl, rfl, ⟨by decide, by decide, by decide⟩, _, _, rfl, rfl, 2, _, rfl, rfl, .inl (by decide), .int cell, rfl, _, _, rfl, rfl, .inr ⟨_, rfl, _, _, rfl, rfl, ?_⟩⟩
            have hgr : ∀ k : Bool, 0 ≤ 2 * ((if cell < 0 then -cell else cell) - (10 : Int) ^ (18 : Int).toNat) + (if k = true then 1 else 0) := fun k => by
              have : (10 : Int) ^ (18 : Int).toNat = (10 : Int) ^ 18 := rfl
              rw [this]
              cases k <;> simp <;> omega
            refine ⟨_, rfl, .inl ⟨_, rfl, .int many, rfl, _, many, rfl, rfl, wide_div (b := 60) (by omega) (by omega) (by omega) (by omega), .ref p, rfl, p, _, 2, 2, rfl, rfl, hp2, rfl, ?_⟩⟩
            refine ⟨_, rfl, .inl ⟨_, rfl, .int many, rfl, _, many, rfl, rfl, by omega, ?_⟩⟩
            exact q _ _ (fmod_lo _ h1) (fmod_lt _ h1) (pen_set hp2 hc2 ncp hl (by omega) (by omega) (Int.ediv_nonneg (hgr _) (by omega))) (hb2.trans (but_upd _ _))
          · skip
            refine ⟨.int cell, rfl, .inl ⟨cell, rfl, cell, _, rfl, rfl, (by show (_ : Int) ≠ 0; decide), .int n, rfl, _, n, rfl, rfl, .inl (by decide), _, _, rfl, rfl, _, _, rfl, rfl, _, _, rfl, rfl, ⟨by decide, by decide, mix_bound (by decide) (by decide) (by decide) (by decide) (by decide) (by decide) n0 nm hm⟩, (.inl ⟨_, rfl, _, _, rfl, rfl, (by show (_ : Int) ≠ 0; decide), ?_⟩)⟩⟩
            refine ⟨_, rfl, .int n, rfl, 2, n, rfl, rfl, .inl (by decide), _, _, rfl, rfl, _, _, rfl, rfl, .inl (fmod_64 (by decide) (by decide)), .int n, rfl, _, n, rfl, rfl, .inl (by decide), .int n, rfl, _, n, rfl, rfl, .inr ⟨by omega, by omega⟩, _, _, rfl, rfl, _, _, rfl, rfl, _, _, rfl, rfl, ⟨by decide, by decide, mix_bound2 (by decide) (by decide) (by decide) (by decide) (by decide) (by decide) (fmod_lo _ (by decide)) (fmod_32 (by decide) (by decide)) n0 nm hm⟩, (.inl ⟨_, rfl, _, _, rfl, rfl, (by show (_ : Int) ≠ 0; decide), ?_⟩)⟩
            refine ⟨_, rfl, _, 32, rfl, rfl, ⟨by decide, by decide⟩, .inl ⟨_, rfl, .int many, rfl, _, many, rfl, rfl, by omega, ?_⟩⟩
            exact q _ _ (fmod_lo _ h1) (fmod_lt _ h1) ⟨ns, n + 1, g, hp2, hc2, ncp, hl, by omega, by omega, g0⟩ hb2
        · skip
          refine ⟨.int cell, rfl, .inl ⟨cell, rfl, cell, _, rfl, rfl, (by show (_ : Int) ≠ 0; decide), .int n, rfl, _, n, rfl, rfl, .inl (by decide), _, _, rfl, rfl, _, _, rfl, rfl, _, _, rfl, rfl, ⟨by decide, by decide, mix_bound (by decide) (by decide) (by decide) (by decide) (by decide) (by decide) n0 nm hm⟩, (.inl ⟨_, rfl, _, _, rfl, rfl, (by show (_ : Int) ≠ 0; decide), ?_⟩)⟩⟩
          refine ⟨_, rfl, .int n, rfl, 2, n, rfl, rfl, .inl (by decide), _, _, rfl, rfl, _, _, rfl, rfl, .inl (fmod_64 (by decide) (by decide)), .int n, rfl, _, n, rfl, rfl, .inl (by decide), .int n, rfl, _, n, rfl, rfl, .inr ⟨by omega, by omega⟩, _, _, rfl, rfl, _, _, rfl, rfl, _, _, rfl, rfl, ⟨by decide, by decide, mix_bound2 (by decide) (by decide) (by decide) (by decide) (by decide) (by decide) (fmod_lo _ (by decide)) (fmod_32 (by decide) (by decide)) n0 nm hm⟩, (.inl ⟨_, rfl, _, _, rfl, rfl, (by show (_ : Int) ≠ 0; decide), ?_⟩)⟩
          refine ⟨_, rfl, _, 32, rfl, rfl, ⟨by decide, by decide⟩, .inl ⟨_, rfl, .int many, rfl, _, many, rfl, rfl, by omega, ?_⟩⟩
          exact q _ _ (fmod_lo _ h1) (fmod_lt _ h1) ⟨ns, n + 1, g, hp2, hc2, ncp, hl, by omega, by omega, g0⟩ hb2
theorem ok_pen (T : Top K mg) : FnOk P w K mg base CX0 (0 + 1) T.a__law_pen T.d__law_pen ["_law_script"] (spPen K) := by
  refine T.F__law_pen.ok sc_law_pen (fun vs H Q E h => ?_) (fun cdv A outer s H vs Q E hr h => ?_)
  · obtain ⟨a, ns, rfl, _⟩ := h
    rfl
  · obtain ⟨a, ns, rfl, hS, hl, q⟩ := h
    refine ⟨_, (pss_one (ps_ret (pe_lst (pa_cons (pe_callTy call_list_of (by rfl) T.z_list (by decide +kernel) (pa_cons (pe_slice sl_list (pv 0) po_none (po_some pe_int)) pa_nil)) (pa_cons pe_int (pa_cons pe_int pa_nil)))))), ?_⟩
    refine ⟨.ref a, rfl, 63, rfl, a, _, rfl, hS, fun c nc => ?_⟩
    refine ⟨c, _, rfl, .inl (.of upd_same), fun l nl => ?_⟩
    refine ⟨(by show 3 ≤ sizeLine; decide), fun p np => ?_⟩
    have e : cutV (ns.map V.int) none (some 63) = ns.map V.int := cut_all _ (by
      rw [List.length_map]
      exact hl)
    refine q p l _ (((same_new nc).trans (same_new nl)).trans (same_new np)) (((same_new nc).trans (same_new nl)).free np) ((same_new nc).free nl) ⟨ns, 0, 0, upd_same, ?_, ne_of_none upd_same np, hl, by omega, by omega, by omega⟩
    rw [upd_ne (ne_of_none upd_same np), upd_same, e]
theorem dok__law_draw (T : Top K mg) : FnD P w K mg base 1 T.a__law_draw T.d__law_draw ["_law_pen_here", "_law_many"] drawD := draw_of (ok_draw T)
theorem dok__law_pen (T : Top K mg) : FnD P w K mg base 1 T.a__law_pen T.d__law_pen ["_law_script"] penD := pen_of (ok_pen T)
end
section
variable {P : Program} {w : World} {K : PySem.W.Frag} {mg : Str → Option Value} {base : Heap}
def intsD (ns : List Int) : D := .tup (ns.map .int)
def lstI (ns : List Int) : D := .lst (ns.map .int)
/-- a list or a tuple of integers -/
def SeqI (d : D) (ns : List Int) : Prop := d = intsD ns ∨ d = lstI ns
def isInt : D → Bool
  | .int _ => true
  | _ => false
def integerD : SpD := fun ds G Q _ => ∃ d, ds = [d] ∧ Told d G ∧ Q (.bl (isInt d)) G
theorem dok_is_integer (T : Top K mg) : FnD P w K mg base 4 T.a_is_integer T.d_is_integer ["value"] integerD := by
  refine dfn (k := 3) T.F_is_integer scis_integer (fun ds G Q W h => ?_) (fun cdv A outer s H E B W hr tk => have hx := hx_of tk; ⟨_, (db_one (ds_ret (de_and (de_isK (j := .int) (by rfl) T.z_isinstance (by decide +kernel) (dv 0) (pe_bltn (by rfl) T.z_int (by decide +kernel) rfl)) (de_one (de_not (de_isK (j := .bl) (by rfl) T.z_isinstance (by decide +kernel) (dv 0) (pe_bltn (by rfl) T.z_bool (by decide +kernel) rfl))))))), fun ds G Q h => ?_⟩)
  · obtain ⟨d, rfl, _⟩ := h
    rfl
  · obtain ⟨d, rfl, ht, q⟩ := h
    show (match isK d G .int with | some b => _ | none => _)
    rw [told_is ht (by decide)]
    cases d <;> first | exact q | skip
    all_goals
      show (match isK _ G .bl with | some b => _ | none => _)
      rw [told_is ht (by decide)]
      exact q
def formD : SpD := fun ds G Q _ => ∃ ns : List Int, ds = [intsD ns] ∧ ns.length ≤ 8 ∧ Q (.bl true) G
theorem dok_is_form (T : Top K mg) : FnD P w K mg base 8 T.a_is_form T.d_is_form ["value"] formD := by
  have G_is_integer := (dok_is_integer (P := P) (w := w) (base := base) T).mono (k := 5) (by decide)
  refine dfn (k := 7) T.F_is_form scis_form (fun ds G Q W h => ?_) (fun cdv A outer s H E B W hr tk => have hx := hx_of tk; ⟨_, (db_cons (ds_if (dw_pt (dw_or (dt_not (dt_val (de_isK (j := .tup) (by rfl) T.z_isinstance (by decide +kernel) (dv 0) (pe_bltn (by rfl) T.z_tuple (by decide +kernel) rfl)))) (dw_or1 (dt_cmp op_gt gt_A (de_callB call_len2 len_A (by rfl) T.z_len (by decide +kernel) (da_cons (dv 0) da_nil)) (de_gint rfl T.c_MOST_FACTORS (show RelV (.int 8) _ from ⟨_, rfl⟩)) (nomark _)))))
    (db_one (ds_ret de_bl))
    db_nil)
  (db_one (ds_ret (de_callB (cr_all rfl) all_A (by rfl) T.z_all (by decide +kernel) (da_cons (de_lcF (own := [("factor", 1)]) (gV := gName 1) finA_l rfl scis_form.nd (di_tup (dv 0)) (blkOk_by (own := [("factor", 1)]) (N := Nis_form) (sc := defScope sis_form) (by decide +kernel)) (cg_name (i := 1) (by decide)) (fun _ _ _ _ _ => (pg_name (i := 1) scis_form.nd rfl (.inl rfl))) (fun _ _ _ _ _ _ => dts_nil) (fun _ _ _ _ _ _ => (de_call G_is_integer (hr.mono (by decide)) (by rfl) T.g_is_integer T.F_is_integer.kp T.b_is_integer hx0 (da_cons (dv 1) da_nil)))) da_nil))))), fun ds G Q h => ?_⟩)
  · obtain ⟨_, rfl, _⟩ := h
    rfl
  · obtain ⟨ns, rfl, hl, q⟩ := h
    show (match decide ((8 : Int) < ((ns.map D.int).length : Int)) with | true => _ | false => _)
    rw [List.length_map, decide_eq_false (by omega)]
    refine ⟨by rw [List.length_map]; exact small_size (by omega), lc_map (fun d => .bl true) (ns.map .int) [] (fun e me Q hQ => ?_) ?_⟩
    · obtain ⟨x, mx, rfl⟩ := List.mem_map.mp me
      exact ⟨.int x, rfl, told_ki rfl, hQ⟩
    · refine ⟨ns.map fun _ => true, by rw [List.nil_append, List.map_map, List.map_map]; rfl, ?_⟩
      have : (ns.map fun _ => true).all id = true := by simp
      rw [this]
      exact q
def bndD (C : Addr) (ns : List Int) (b : Bool) : D := .ins C [("form", intsD ns), ("is_strict", .bl b)]
def boundOfD (CB : Addr) : SpD := fun ds G Q _ => ∃ (ns : List Int) (b : Bool) (n : Nat), ds = [bndD CB ns b, .int n] ∧ ns.length = n ∧ Q (.bl true) G
theorem dok_is_bound_of (T : Top K mg) : FnD P w K mg base 4 T.a_is_bound_of T.d_is_bound_of ["value", "many"] (boundOfD T.C_Bound) := by
  refine dfn (k := 3) T.F_is_bound_of scis_bound_of (fun ds G Q W h => ?_) (fun cdv A outer s H E B W hr tk => have hx := hx_of tk; ⟨_, (db_one (ds_ret (de_and (de_isCK (K := K) (C := T.C_Bound) rfl (by rfl) T.z_isinstance (by decide +kernel) (dv 0) (pe_glob rfl T.g_Bound rfl)) (de_one (de_cmp (op_eqD (Room.units hr)) eqI_A (de_callB call_len2 len_A (by rfl) T.z_len (by decide +kernel) (da_cons (de_fld (dv 0)) da_nil)) (dv 1) (nomark _)))))), fun ds G Q h => ?_⟩)
  · obtain ⟨n, _, _, rfl, _⟩ := h
    rfl
  · obtain ⟨ns, b, n, rfl, rfl, q⟩ := h
    refine ⟨_, true, .ins rfl, T.ki_Bound, pl_int, pl_int, ?_⟩
    rw [eqvD_int, List.length_map, decide_eq_true rfl]
    exact q
def unitI (at_ n : Nat) : List Int := (List.range n).map fun i => if i = at_ then 1 else 0
def unitD : SpD := fun ds G Q _ => ∃ (i n : Nat), ds = [.int i, .int n] ∧ n ≤ 1000 ∧ Q (intsD (unitI i n)) G
theorem dok_unit_form (T : Top K mg) : FnD P w K mg base 4 T.a_unit_form T.d_unit_form ["at", "many"] unitD := by
  refine dfn (k := 3) T.F_unit_form scunit_form (fun ds G Q W h => ?_) (fun cdv A outer s H E B W hr tk => have hx := hx_of tk; ⟨_, (db_one (ds_ret (de_callTy call_tuple_of tup_A (by rfl) T.z_tuple (by decide +kernel) (da_cons (de_lcF (own := [("place", 2)]) (gV := gName 2) finA_l rfl scunit_form.nd (di_range1 (by rfl) T.z_range (da_cons (dv 1) da_nil)) (blkOk_by (own := [("place", 2)]) (N := Nunit_form) (sc := defScope sunit_form) (by decide +kernel)) (cg_name (i := 2) (by decide)) (fun _ _ _ _ _ => (pg_name (i := 2) scunit_form.nd rfl (.inl rfl))) (fun _ _ _ _ _ _ => dts_nil) (fun _ _ _ _ _ _ => (de_if (dt_cmp (op_eqD (Room.units hr)) eqI_A (dv 2) (dv 0) (nomark _)) de_int de_int))) da_nil)))), fun ds G Q h => ?_⟩)
  · obtain ⟨_, _, rfl, _⟩ := h
    rfl
  · obtain ⟨i, n, rfl, hl, q⟩ := h
    have el : (rangeD 0 (n : Int).toNat).length = n := by simp [rangeD]
    refine ⟨⟨by omega, by omega⟩, by rw [el]; exact small_size (by omega), lc_map (fun d => .int (match d with | .int j => if j = (i : Int) then 1 else 0 | _ => 0)) _ [] (fun e me Q hQ => ?_) ?_⟩
    · obtain ⟨j, _, rfl⟩ := List.mem_map.mp me
      refine ⟨pl_int, pl_int, ?_⟩
      rw [eqvD_int]
      by_cases c : 0 + (j : Int) = (i : Int)
      · rw [decide_eq_true c]
        simp only [c, if_true] at hQ
        exact hQ
      · rw [decide_eq_false c]
        simp only [c, if_false] at hQ
        exact hQ
    · have e : ([] ++ (rangeD 0 (n : Int).toNat).map fun d => D.int (match d with | .int j => if j = (i : Int) then 1 else 0 | _ => 0)) = (unitI i n).map D.int := by
        rw [List.nil_append]
        unfold rangeD unitI
        rw [List.map_map, List.map_map, Int.toNat_natCast]
        refine List.map_congr_left fun j _ => ?_
        show D.int (if 0 + (j : Int) = (i : Int) then 1 else 0) = D.int (if j = i then 1 else 0)
        by_cases c : j = i
        · simp [c]
        · rw [if_neg c, if_neg (by omega)]
      rw [e]
      exact q
def noughtD : SpD := fun ds G Q _ => ∃ (n : Nat), ds = [.int n] ∧ n ≤ 1000 ∧ Q (intsD ((List.range n).map fun _ => 0)) G
theorem dok_nought_form (T : Top K mg) : FnD P w K mg base 4 T.a_nought_form T.d_nought_form ["many"] noughtD := by
  refine dfn (k := 3) T.F_nought_form scnought_form (fun ds G Q W h => ?_) (fun cdv A outer s H E B W hr tk => have hx := hx_of tk; ⟨_, (db_one (ds_ret (de_callTy call_tuple_of tup_A (by rfl) T.z_tuple (by decide +kernel) (da_cons (de_lcF (own := [("_", 1)]) (gV := gName 1) finA_l rfl scnought_form.nd (di_range1 (by rfl) T.z_range (da_cons (dv 0) da_nil)) (blkOk_by (own := [("_", 1)]) (N := Nnought_form) (sc := defScope snought_form) (by decide +kernel)) (cg_name (i := 1) (by decide)) (fun _ _ _ _ _ => (pg_name (i := 1) scnought_form.nd rfl (.inl rfl))) (fun _ _ _ _ _ _ => dts_nil) (fun _ _ _ _ _ _ => de_int)) da_nil)))), fun ds G Q h => ?_⟩)
  · obtain ⟨_, rfl, _⟩ := h
    rfl
  · obtain ⟨n, rfl, hl, q⟩ := h
    have el : (rangeD 0 (n : Int).toNat).length = n := by simp [rangeD]
    refine ⟨⟨by omega, by omega⟩, by rw [el]; exact small_size (by omega), lc_map (fun d => .int 0) _ [] (fun e me Q hQ => hQ) ?_⟩
    have e : ([] ++ (rangeD 0 (n : Int).toNat).map fun d => D.int 0) = ((List.range n).map fun _ => (0 : Int)).map D.int := by
      rw [List.nil_append]
      unfold rangeD
      rw [List.map_map, List.map_map, Int.toNat_natCast]
      rfl
    rw [e]
    exact q
theorem seqI_len {d : D} {ns : List Int} (h : SeqI d ns) : seqS d = some (ns.map .int) := by rcases h with rfl | rfl <;> rfl
def timesD : SpD := fun ds G Q _ => ∃ (a : Int) (d : D) (ns : List Int), ds = [.int a, d] ∧ SeqI d ns ∧ ns.length ≤ 1000 ∧ (∀ n ∈ ns, CMulW a n) ∧ Q (intsD (ns.map fun n => a * n)) G
theorem dok_times_form (T : Top K mg) : FnD P w K mg base 4 T.a_times_form T.d_times_form ["number", "form"] timesD := by
  refine dfn (k := 3) T.F_times_form sctimes_form (fun ds G Q W h => ?_) (fun cdv A outer s H E B W hr tk => have hx := hx_of tk; ⟨_, (db_one (ds_ret (de_callTy call_tuple_of tup_A (by rfl) T.z_tuple (by decide +kernel) (da_cons (de_lcF (own := [("factor", 2)]) (gV := gName 2) finA_l rfl sctimes_form.nd (di_anyV (pv 1)) (blkOk_by (own := [("factor", 2)]) (N := Ntimes_form) (sc := defScope stimes_form) (by decide +kernel)) (cg_name (i := 2) (by decide)) (fun _ _ _ _ _ => (pg_name (i := 2) sctimes_form.nd rfl (.inl rfl))) (fun _ _ _ _ _ _ => dts_nil) (fun _ _ _ _ _ _ => (de_mul (dv 0) (dv 2)))) da_nil)))), fun ds G Q h => ?_⟩)
  · obtain ⟨_, _, _, rfl, _⟩ := h
    rfl
  · obtain ⟨a, d, ns, rfl, hd, hl, hc, q⟩ := h
    have go : ((ns.map D.int).length < sizeLine ∧ lcD (gNameD 2) dYes (dOp mulD (dVar 0) (dVar 2)) (fun acc G' => Q (.tup acc) G') [some (.int a), some d, none] (ns.map D.int) [] G) := by
      refine ⟨by rw [List.length_map]; exact small_size (by omega), lc_map (fun d => .int (match d with | .int j => a * j | _ => 0)) (ns.map .int) [] (fun e me Q hQ => ?_) ?_⟩
      · obtain ⟨x, mx, rfl⟩ := List.mem_map.mp me
        exact ⟨hc x mx, hQ⟩
      · have e : ([] ++ (ns.map D.int).map fun d => D.int (match d with | .int j => a * j | _ => 0)) = (ns.map fun n => a * n).map D.int := by
          rw [List.nil_append, List.map_map, List.map_map]
          rfl
        rw [e]
        exact q
    rcases hd with rfl | rfl
    · exact go
    · exact go
/-- integers of at most so many bits -/
def Bits (b : Nat) (ns : List Int) : Prop := ∀ n ∈ ns, n.natAbs < 2 ^ b
def gcdL (ns : List Int) : Nat := ns.foldl (fun g n => Nat.gcd g n.natAbs) 0
def lowI (ns : List Int) : List Int := ns.map fun n => if 1 < gcdL ns then n / (gcdL ns : Int) else n
def lowD : SpD := fun ds G Q _ => ∃ (ns : List Int) (d : D), ds = [d] ∧ SeqI d ns ∧ ns.length ≤ 1000 ∧ Bits 1900 ns ∧ Q (intsD (lowI ns)) G
theorem gcdL_succ {ns : List Int} {j : Nat} {n : Int} (e : ns[j]? = some n) : gcdL (ns.take (j + 1)) = Nat.gcd (gcdL (ns.take j)) n.natAbs := by
  unfold gcdL
  rw [List.take_succ, e, List.foldl_append]
  rfl
theorem gcd_fold_le {m : Nat} : ∀ {ns : List Int} {g : Nat}, g ≤ m → (∀ n ∈ ns, n.natAbs ≤ m) → ns.foldl (fun g n => Nat.gcd g n.natAbs) g ≤ m
  | [], _, h, _ => h
  | n :: ns, g, h, hn => gcd_fold_le (ns := ns) (by
      show Nat.gcd g n.natAbs ≤ m
      rcases Nat.eq_zero_or_pos n.natAbs with z | z
      · rw [z, Nat.gcd_zero_right]; exact h
      · exact Nat.le_trans (Nat.gcd_le_right _ z) (hn n List.mem_cons_self)) fun x hx => hn x (List.mem_cons_of_mem _ hx)
theorem gcd_fold_dvd : ∀ {ns : List Int} {g : Nat}, ns.foldl (fun g n => Nat.gcd g n.natAbs) g ∣ g ∧ ∀ n ∈ ns, ns.foldl (fun g n => Nat.gcd g n.natAbs) g ∣ n.natAbs
  | [], g => ⟨Nat.dvd_refl _, fun n h => by cases h⟩
  | n :: ns, g => by
    obtain ⟨h1, h2⟩ := gcd_fold_dvd (ns := ns) (g := Nat.gcd g n.natAbs)
    refine ⟨Nat.dvd_trans h1 (Nat.gcd_dvd_left _ _), fun m hm => ?_⟩
    rcases List.mem_cons.mp hm with rfl | hm
    · exact Nat.dvd_trans h1 (Nat.gcd_dvd_right _ _)
    · exact h2 m hm
theorem lowI_one {ns : List Int} {j : Nat} (c : gcdL (ns.take j) = 1) : lowI ns = ns := by
  have h : gcdL ns ∣ gcdL (ns.take j) := by
    have e : gcdL ns = (ns.drop j).foldl (fun g n => Nat.gcd g n.natAbs) (gcdL (ns.take j)) := by
      unfold gcdL
      rw [← List.foldl_append, List.take_append_drop]
    rw [e]
    exact gcd_fold_dvd.1
  rw [c, Nat.dvd_one] at h
  unfold lowI
  rw [h]
  simp
theorem gcdL_bits {ns : List Int} (h : Bits 1900 ns) : gcdL ns < 2 ^ 1900 := by
  have := gcd_fold_le (m := 2 ^ 1900 - 1) (ns := ns) (g := 0) (by omega) (fun n hn => by have := h n hn; omega)
  unfold gcdL
  have h2 : 0 < 2 ^ 1900 := Nat.pow_pos (by decide)
  omega
theorem dok_lowest_terms (T : Top K mg) : FnD P w K mg base 4 T.a_lowest_terms T.d_lowest_terms ["numbers"] lowD := by
  refine dfn (k := 3) T.F_lowest_terms sclowest_terms (fun ds G Q W h => ?_) (fun cdv A outer s H E B W hr tk => have hx := hx_of tk; ⟨_, (db_cons (ds_set (i := 1) sclowest_terms.nd rfl (.inr rfl) de_int)
  (db_cons (ds_for (passes_of rfl) rfl (di_anyV (pv 0)) (dg_name (i := 2) sclowest_terms.nd rfl (.inl rfl))
    (db_cons (ds_set (i := 1) sclowest_terms.nd rfl (.inr rfl) (de_callBfun cr_gcd gcd_A rfl T.bf_gcd (da_cons (dv 1) (da_cons (dv 2) da_nil))))
  (db_one (ds_if (dt_cmp (op_eqD (Room.units hr)) eqI_A (dv 1) de_int (nomark _))
    (db_one (ds_ret (de_callTy call_tuple_of tup_A (by rfl) T.z_tuple (by decide +kernel) (da_cons (dv 0) da_nil))))
    db_nil))))
  (db_one (ds_ret (de_callTy call_tuple_of tup_A (by rfl) T.z_tuple (by decide +kernel) (da_cons (de_lcF (own := [("number", 2)]) (gV := gName 2) finA_l rfl sclowest_terms.nd (di_anyV (pv 0)) (blkOk_by (own := [("number", 2)]) (N := Nlowest_terms) (sc := defScope slowest_terms) (by decide +kernel)) (cg_name (i := 2) (by decide)) (fun _ _ _ _ _ => (pg_name (i := 2) sclowest_terms.nd rfl (.inl rfl))) (fun _ _ _ _ _ _ => dts_nil) (fun _ _ _ _ _ _ => (de_if (dt_cmp op_gt gt_A (dv 1) de_int (nomark _)) (de_fdiv (dv 2) (dv 1)) (dv 2)))) da_nil)))))), fun ds G Q h => ?_⟩)
  · obtain ⟨_, _, rfl, _⟩ := h
    rfl
  · obtain ⟨ns, d, rfl, hd, hl, hs, q⟩ := h
    rcases hd with rfl | rfl
    · refine for_at (fun j δ G' => G' = G ∧ ∃ x, δ = [some (intsD ns), some (.int (gcdL (ns.take j))), x]) (ns.map .int) (fun j δ G1 d N hd hI hN => ?_) (fun δ G1 hI => ?_) (ns.map .int) 0 _ _ (Nat.zero_le _) rfl ⟨rfl, none, rfl⟩
      · obtain ⟨rfl, x, rfl⟩ := hI
        rw [List.getElem?_map] at hd
        cases e : ns[j]? with
        | none => rw [e] at hd; cases hd
        | some n =>
          rw [e] at hd
          cases hd
          refine ⟨pl_int, pl_int, ?_⟩
          rw [eqvD_int]
          have e1 : gcdL (ns.take (j + 1)) = Nat.gcd (gcdL (ns.take j)) n.natAbs := gcdL_succ e
          show (match decide (((Nat.gcd (gcdL (ns.take j)) n.natAbs : Nat) : Int) = 1) with | true => _ | false => _)
          rw [← e1]
          by_cases c : gcdL (ns.take (j + 1)) = 1
          · rw [decide_eq_true (by omega)]
            have e2 : lowI ns = ns := lowI_one c
            rw [e2] at q
            exact q
          · rw [decide_eq_false (by omega)]
            refine hN _ _ ⟨rfl, some (.int n), ?_⟩
            rw [e1]
            rfl
      · obtain ⟨rfl, x, rfl⟩ := hI
        rw [List.length_map, List.take_length]
        have hg := gcdL_bits hs
        refine ⟨by rw [List.length_map]; exact small_size (by omega), lc_map (fun d => .int (match d with | .int n => if 1 < gcdL ns then n / (gcdL ns : Int) else n | _ => 0)) (ns.map .int) [] (fun e me Q hQ => ?_) ?_⟩
        · obtain ⟨n, mx, rfl⟩ := List.mem_map.mp me
          show (match decide ((1 : Int) < (gcdL ns : Int)) with | true => _ | false => _)
          by_cases c : 1 < gcdL ns
          · rw [decide_eq_true (by omega)]
            simp only [c, if_true] at hQ
            exact ⟨wide_div (b := 1900) (by omega) (by omega) (by decide) (by decide), hQ⟩
          · rw [decide_eq_false (by omega)]
            simp only [c, if_false] at hQ
            exact hQ
        · have e : ([] ++ (ns.map D.int).map fun d => D.int (match d with | .int n => if 1 < gcdL ns then n / (gcdL ns : Int) else n | _ => 0)) = (lowI ns).map D.int := by
            rw [List.nil_append, List.map_map]
            unfold lowI
            rw [List.map_map]
            rfl
          rw [e]
          exact q
    · refine for_at (fun j δ G' => G' = G ∧ ∃ x, δ = [some (lstI ns), some (.int (gcdL (ns.take j))), x]) (ns.map .int) (fun j δ G1 d N hd hI hN => ?_) (fun δ G1 hI => ?_) (ns.map .int) 0 _ _ (Nat.zero_le _) rfl ⟨rfl, none, rfl⟩
      · obtain ⟨rfl, x, rfl⟩ := hI
        rw [List.getElem?_map] at hd
        cases e : ns[j]? with
        | none => rw [e] at hd; cases hd
        | some n =>
          rw [e] at hd
          cases hd
          refine ⟨pl_int, pl_int, ?_⟩
          rw [eqvD_int]
          have e1 : gcdL (ns.take (j + 1)) = Nat.gcd (gcdL (ns.take j)) n.natAbs := gcdL_succ e
          show (match decide (((Nat.gcd (gcdL (ns.take j)) n.natAbs : Nat) : Int) = 1) with | true => _ | false => _)
          rw [← e1]
          by_cases c : gcdL (ns.take (j + 1)) = 1
          · rw [decide_eq_true (by omega)]
            have e2 : lowI ns = ns := lowI_one c
            rw [e2] at q
            exact q
          · rw [decide_eq_false (by omega)]
            refine hN _ _ ⟨rfl, some (.int n), ?_⟩
            rw [e1]
            rfl
      · obtain ⟨rfl, x, rfl⟩ := hI
        rw [List.length_map, List.take_length]
        have hg := gcdL_bits hs
        refine ⟨by rw [List.length_map]; exact small_size (by omega), lc_map (fun d => .int (match d with | .int n => if 1 < gcdL ns then n / (gcdL ns : Int) else n | _ => 0)) (ns.map .int) [] (fun e me Q hQ => ?_) ?_⟩
        · obtain ⟨n, mx, rfl⟩ := List.mem_map.mp me
          show (match decide ((1 : Int) < (gcdL ns : Int)) with | true => _ | false => _)
          by_cases c : 1 < gcdL ns
          · rw [decide_eq_true (by omega)]
            simp only [c, if_true] at hQ
            exact ⟨wide_div (b := 1900) (by omega) (by omega) (by decide) (by decide), hQ⟩
          · rw [decide_eq_false (by omega)]
            simp only [c, if_false] at hQ
            exact hQ
        · have e : ([] ++ (ns.map D.int).map fun d => D.int (match d with | .int n => if 1 < gcdL ns then n / (gcdL ns : Int) else n | _ => 0)) = (lowI ns).map D.int := by
            rw [List.nil_append, List.map_map]
            unfold lowI
            rw [List.map_map]
            rfl
          rw [e]
          exact q
end
section
variable {P : Program} {w : World} {K : PySem.W.Frag} {mg : Str → Option Value} {base : Heap}
mutual
/-- what a copy of d is, and that it is nested no deeper than n -/
inductive Cp : Nat → D → D → Prop
  | flat {n : Nat} {d : D} : flatD d = true → Cp n d d
  | tup {n : Nat} {ds es : List D} : Cps n ds es → ds.length ≤ 1000 → Cp (n + 1) (.tup ds) (.tup es)
  | lst {n : Nat} {ds es : List D} : Cps n ds es → ds.length ≤ 1000 → Cp (n + 1) (.lst ds) (.lst es)
inductive Cps : Nat → List D → List D → Prop
  | nil {n : Nat} : Cps n [] []
  | cons {n : Nat} {d e : D} {ds es : List D} : Cp n d e → Cps n ds es → Cps n (d :: ds) (e :: es)
end
theorem fnd_none {k : Nat} {f : Addr} {fd : FuncData} {ps : List Str} {sp : SpD} (h : ∀ ds G Q W, ¬ sp ds G Q W) : FnD P w K mg base k f fd ps sp :=
  ⟨fun vs H Q E q => let ⟨_, _, _, _, _, _, _, s, _⟩ := q; absurd s (h _ _ _ _), fun A outer s H args us vs Q E _ _ _ _ q => let ⟨_, _, _, _, _, _, _, s, _⟩ := q; absurd s (h _ _ _ _)⟩
def copyX (n : Nat) : SpD := fun ds G Q _ => ∃ (m : Nat) (d e : D), ds = [d] ∧ m < n ∧ Cp m d e ∧ Q e G
structure RecC (P : Program) (w : World) (K : PySem.W.Frag) (mg : Str → Option Value) (base : Heap) (T : Top K mg) (n : Nat) : Prop where
  G_own_copy : FnD P w K mg base (8 * n + 20) T.a_own_copy T.d_own_copy ["value"] (copyX n)
theorem lc_cps {n : Nat} {i : Nat} {te : TED} {Fin : List D → Gm → Prop} {δ : SD} {G : Gm} : ∀ {ds es : List D} (acc : List D), Cps n ds es →
    (∀ d e, Cp n d e → ∀ Q : QD, Q e G → te (δ.set i (some d)) G Q) → Fin (acc ++ es) G → lcD (gNameD i) dYes te Fin δ ds acc G
  | _, _, acc, .nil, _, h => by rw [List.append_nil] at h; exact h
  | _, _, acc, .cons (e := e) c cs, hs, h => hs _ _ c _ (lc_cps (acc ++ [e]) cs hs (by rw [List.append_assoc]; exact h))
theorem dok_own_copy (T : Top K mg) (n : Nat) (R : RecC P w K mg base T n) : FnD P w K mg base (8 * (n + 1) + 20) T.a_own_copy T.d_own_copy ["value"] (copyX (n + 1)) := by
  have G_own_copy := R.G_own_copy
  refine dfn (k := 8 * n + 27) T.F_own_copy scown_copy (fun ds G Q W h => ?_) (fun cdv A outer s H E B W hr tk => have hx := hx_of tk; ⟨_, (db_cons (ds_if (dt_val (de_isKP (j := .tup) (by rfl) T.z_isinstance (by decide +kernel) (dv 0) (pe_bltn (by rfl) T.z_tuple (by decide +kernel) rfl)))
    (db_one (ds_ret (de_callTy call_tuple_of tup_A (by rfl) T.z_tuple (by decide +kernel) (da_cons (de_lcF (own := [("item", 1)]) (gV := gName 1) finA_l rfl scown_copy.nd (di_anyV (pv 0)) (blkOk_by (own := [("item", 1)]) (N := Nown_copy) (sc := defScope sown_copy) (by decide +kernel)) (cg_name (i := 1) (by decide)) (fun _ _ _ _ _ => (pg_name (i := 1) scown_copy.nd rfl (.inl rfl))) (fun _ _ _ _ _ _ => dts_nil) (fun _ _ _ _ _ _ => (de_call G_own_copy (hr.mono (by omega)) (by rfl) T.g_own_copy T.F_own_copy.kp T.b_own_copy hx0 (da_cons (dv 1) da_nil)))) da_nil))))
    db_nil)
  (db_cons (ds_if (dt_val (de_isK (j := .lst) (by rfl) T.z_isinstance (by decide +kernel) (dv 0) (pe_bltn (by rfl) T.z_list (by decide +kernel) rfl)))
    (db_one (ds_ret (de_lcF (own := [("item", 1)]) (gV := gName 1) finA_l rfl scown_copy.nd (di_anyV (pv 0)) (blkOk_by (own := [("item", 1)]) (N := Nown_copy) (sc := defScope sown_copy) (by decide +kernel)) (cg_name (i := 1) (by decide)) (fun _ _ _ _ _ => (pg_name (i := 1) scown_copy.nd rfl (.inl rfl))) (fun _ _ _ _ _ _ => dts_nil) (fun _ _ _ _ _ _ => (de_call G_own_copy (hr.mono (by omega)) (by rfl) T.g_own_copy T.F_own_copy.kp T.b_own_copy hx0 (da_cons (dv 1) da_nil))))))
    db_nil)
  (db_cons (ds_if (dt_val (de_isK (j := .dct) (by rfl) T.z_isinstance (by decide +kernel) (dv 0) (pe_bltn (by rfl) T.z_dict (by decide +kernel) rfl)))
    (db_one (ds_ret (de_dcX (own := [("key", 2)]) (gV := gName 2) (Nat.lt_of_le_of_lt (Nat.add_le_add_left (by decide) _) (Room.units hr)) rfl scown_copy.nd (di_anyV (pv 0)) (blkOk_by (own := [("key", 2)]) (N := Nown_copy) (sc := defScope sown_copy) (by decide +kernel)) (cg_name (i := 2) (by decide)) (fun _ _ _ _ _ => (pg_name (i := 2) scown_copy.nd rfl (.inl rfl))) (fun _ _ _ _ _ _ => dts_nil) (fun _ _ _ _ _ _ => (dv 2)) (fun _ _ _ _ _ _ => (de_call G_own_copy (hr.mono (by omega)) (by rfl) T.g_own_copy T.F_own_copy.kp T.b_own_copy hx0 (da_cons (de_ix ix_seq ix_A (dv 0) (dv 2) (fun _ _ => rfl)) da_nil))))))
    db_nil)
  (db_one (ds_ret (dv 0)))))), fun ds G Q h => ?_⟩)
  · obtain ⟨_, _, _, rfl, _⟩ := h
    rfl
  · obtain ⟨m, d, e, rfl, hm, hc, q⟩ := h
    have hz := sizeLine_eq
    cases hc with
    | flat hf => cases d <;> first | (cases hf; done) | exact q
    | tup hcs hl =>
      refine ⟨by omega, lc_cps [] hcs (fun d e c R hR => ⟨_, d, e, rfl, by omega, c, hR⟩) ?_⟩
      exact q
    | lst hcs hl =>
      refine ⟨by omega, lc_cps [] hcs (fun d e c R hR => ⟨_, d, e, rfl, by omega, c, hR⟩) ?_⟩
      exact q
theorem recC (T : Top K mg) : ∀ n, RecC P w K mg base T n
  | 0 => ⟨fnd_none fun ds G Q W ⟨_, _, _, _, h, _⟩ => Nat.not_lt_zero _ h⟩
  | n + 1 => ⟨dok_own_copy T n (recC T n)⟩
end
section
variable {P : Program} {w : World} {K : PySem.W.Frag} {mg : Str → Option Value} {base : Heap}
theorem cps_ints (n : Nat) : ∀ ns : List Int, Cps n (ns.map .int) (ns.map .int)
  | [] => .nil
  | x :: xs => .cons (.flat rfl) (cps_ints n xs)
theorem cp_ints (n : Nat) {ns : List Int} (h : ns.length ≤ 1000) : Cp (n + 1) (intsD ns) (intsD ns) := .tup (cps_ints n ns) (by rw [List.length_map]; exact h)
def initD (CB : Addr) : SpD := fun ds G Q _ => ∃ (x : Addr) (ns : List Int) (b : Bool), ds = [.adr x, intsD ns, .bl b] ∧ G x = some (.ins CB []) ∧ ns.length ≤ 8 ∧ Q .non (updG G x (.ins CB [("form", intsD ns), ("is_strict", .bl b)]))
theorem dok_Bound___init__ (T : Top K mg) : FnD P w K mg base 12 T.a_Bound___init__ T.d_Bound___init__ ["self", "form", "is_strict"] (initD T.C_Bound) := by
  have G_is_form := (dok_is_form (P := P) (w := w) (base := base) T).mono (k := 9) (by decide)
  refine dfnD (k := 11) T.F_Bound___init__ scBound___init__ (fun ds G Q W h => ?_) (fun cdv A outer s H E B W hr tk => have hx := hx_of tk; ⟨_, (db_cons (ds_if (dt_not (dt_val (de_call G_is_form (hr.mono (by decide)) (by rfl) T.g_is_form T.F_is_form.kp T.b_is_form hx (da_cons (dv 1) da_nil))))
    db_never
    db_nil)
  (db_cons (ds_if (dt_not (dt_val (de_isK (j := .bl) (by rfl) T.z_isinstance (by decide +kernel) (dv 2) (pe_bltn (by rfl) T.z_bool (by decide +kernel) rfl))))
    db_never
    db_nil)
  (db_cons (ds_fld (C := T.C_Bound) T.na_Bound_form (dv 0) (dv 1))
  (db_one (ds_fld (C := T.C_Bound) T.na_Bound_is_strict (dv 0) (dv 2)))))), fun ds G Q h => ?_⟩)
  · obtain ⟨x, f, s, rfl, _⟩ := h
    rfl
  · obtain ⟨x, ns, b, rfl, hx, hl, q⟩ := h
    refine ⟨ns, rfl, hl, ?_⟩
    show (match G x with | some (.ins C' fs) => _ | _ => _)
    rw [hx]
    refine ⟨rfl, by decide, ?_⟩
    show (match updG G x _ x with | some (.ins C' fs) => _ | _ => _)
    rw [updG_same]
    refine ⟨rfl, (by show 1 < 1000; decide), ?_⟩
    rw [updG_updG]
    exact q
def paperInit (C : Addr) (f : Str) : SpD := fun ds G Q _ => ∃ (x : Addr) (d e : D), ds = [.adr x, d] ∧ G x = some (.ins C []) ∧ Cp 3 d e ∧ Q .non (updG G x (.ins C [(f, e)]))
theorem dok_Point___init__ (T : Top K mg) : FnD P w K mg base 64 T.a_Point___init__ T.d_Point___init__ ["self", "counts"] (paperInit T.C_Point "counts") := by
  have G_own_copy := (recC (P := P) (w := w) (mg := mg) (base := base) T 4).G_own_copy.mono (k := 61) (by decide)
  refine dfn (k := 63) T.F_Point___init__ scPoint___init__ (fun ds G Q W h => ?_) (fun cdv A outer s H E B W hr tk => have hx := hx_of tk; ⟨_, (db_one (ds_fld (C := T.C_Point) T.na_Point_counts (dv 0) (de_call G_own_copy (hr.mono (by decide)) (by rfl) T.g_own_copy T.F_own_copy.kp T.b_own_copy hx (da_cons (dv 1) da_nil)))), fun ds G Q h => ?_⟩)
  · obtain ⟨_, _, _, rfl, _⟩ := h
    rfl
  · obtain ⟨x, d, e, rfl, hx, hc, q⟩ := h
    refine ⟨3, _, _, rfl, by decide, hc, ?_⟩
    show (match G x with | some (.ins C' fs) => _ | _ => _)
    rw [hx]
    exact ⟨rfl, by decide, q⟩
theorem dok_Clash___init__ (T : Top K mg) : FnD P w K mg base 64 T.a_Clash___init__ T.d_Clash___init__ ["self", "weights"] (paperInit T.C_Clash "weights") := by
  have G_own_copy := (recC (P := P) (w := w) (mg := mg) (base := base) T 4).G_own_copy.mono (k := 61) (by decide)
  refine dfn (k := 63) T.F_Clash___init__ scClash___init__ (fun ds G Q W h => ?_) (fun cdv A outer s H E B W hr tk => have hx := hx_of tk; ⟨_, (db_one (ds_fld (C := T.C_Clash) T.na_Clash_weights (dv 0) (de_call G_own_copy (hr.mono (by decide)) (by rfl) T.g_own_copy T.F_own_copy.kp T.b_own_copy hx (da_cons (dv 1) da_nil)))), fun ds G Q h => ?_⟩)
  · obtain ⟨_, _, _, rfl, _⟩ := h
    rfl
  · obtain ⟨x, d, e, rfl, hx, hc, q⟩ := h
    refine ⟨3, _, _, rfl, by decide, hc, ?_⟩
    show (match G x with | some (.ins C' fs) => _ | _ => _)
    rw [hx]
    exact ⟨rfl, by decide, q⟩
def bndsL (CB : Addr) (bs : List (List Int × Bool)) : D := .lst (bs.map fun p => bndD CB p.1 p.2)
def bndsT (CB : Addr) (bs : List (List Int × Bool)) : D := .tup (bs.map fun p => bndD CB p.1 p.2)
/-- a list of bounds or a tuple of bounds -/
def SeqB (CB : Addr) (d : D) (bs : List (List Int × Bool)) : Prop := d = bndsL CB bs ∨ d = bndsT CB bs
def checkBD (CB : Addr) : SpD := fun ds G Q _ => ∃ (d : D) (bs : List (List Int × Bool)) (n : Nat), ds = [d, .int n] ∧ SeqB CB d bs ∧ n ≤ 8 ∧ bs.length ≤ 80 ∧ (∀ p ∈ bs, p.1.length = n) ∧ Q .non G
theorem chain_rd {a b c : Int} {δ : SD} {G : Gm} {Q : QD} {ta tb tc : TED} (ha : ∀ R : QD, R (.int a) G → ta δ G R) (hb : ∀ R : QD, R (.int b) G → tb δ G R) (hc : ∀ R : QD, R (.int c) G → tc δ G R)
    (h1 : a ≤ b) (h2 : b ≤ c) (q : Q (.bl true) G) : dChain leD leD ta tb tc δ G Q := by
  refine ha _ (hb _ ?_)
  show (match D.bl (decide (a ≤ b)) with | .bl true => tc δ G (fun w G4 => leD (.int b) w G4 Q) | .bl false => Q (.bl false) G | _ => False)
  rw [decide_eq_true h1]
  refine hc _ ?_
  show Q (D.bl (decide (b ≤ c))) G
  rw [decide_eq_true h2]
  exact q
theorem map_at2 {α β : Type} {f : α → β} {xs : List α} {j : Nat} {d : β} (h : (xs.map f)[j]? = some d) : ∃ p, xs[j]? = some p ∧ f p = d := by
  rw [List.getElem?_map] at h
  cases e : xs[j]? with
  | none => rw [e] at h; cases h
  | some p => rw [e] at h; exact ⟨p, rfl, Option.some.inj h⟩
theorem enum_at {es : List D} {j : Nat} {d : D} (h : (enumT es)[j]? = some d) : ∃ e, es[j]? = some e ∧ d = .tup [.int j, e] := by
  unfold enumT at h
  rw [List.getElem?_mapIdx] at h
  cases e : es[j]? with
  | none => rw [e] at h; cases h
  | some x => rw [e] at h; exact ⟨x, rfl, (Option.some.inj h).symm⟩
theorem dok_check_bounds (T : Top K mg) : FnD P w K mg base 8 T.a_check_bounds T.d_check_bounds ["bounds", "many"] (checkBD T.C_Bound) := by
  have G_is_integer := (dok_is_integer (P := P) (w := w) (base := base) T).mono (k := 5) (by decide)
  have G_is_bound_of := (dok_is_bound_of (P := P) (w := w) (base := base) T).mono (k := 5) (by decide)
  refine dfn (k := 7) T.F_check_bounds sccheck_bounds (fun ds G Q W h => ?_) (fun cdv A outer s H E B W hr tk => have hx := hx_of tk; ⟨_, (db_cons (ds_if (dw_pt (dw_or (dt_not (dt_val (de_call G_is_integer (hr.mono (by decide)) (by rfl) T.g_is_integer T.F_is_integer.kp T.b_is_integer hx (da_cons (dv 1) da_nil)))) (dw_or1 (dt_not (dt_chain op_le le_A op_le le_A de_int (dv 1) (de_gint rfl T.c_MOST_FACTORS (show RelV (.int 8) _ from ⟨_, rfl⟩)))))))
    db_never
    db_nil)
  (db_cons (ds_if (dw_pt (dw_or (dt_not (dt_val (de_isKs (js := [.lst, .tup]) (by rfl) T.z_isinstance (by decide +kernel) (dv 0) (pa_tys_cons (pe_bltn (by rfl) T.z_list (by decide +kernel) rfl) (pa_tys_cons (pe_bltn (by rfl) T.z_tuple (by decide +kernel) rfl) pa_tys_nil)) (by decide)))) (dw_or1 (dt_cmp op_gt gt_A (de_callB call_len2 len_A (by rfl) T.z_len (by decide +kernel) (da_cons (dv 0) da_nil)) (de_gint rfl T.c_MOST_BOUNDS (show RelV (.int 80) _ from ⟨_, rfl⟩)) (nomark _)))))
    db_never
    db_nil)
  (db_one (ds_for (passes_of rfl) rfl (di_orE (di_enumL (by rfl) T.z_enumerate (da_cons (dv 0) da_nil)) (di_enumT (by rfl) T.z_enumerate (da_cons (dv 0) da_nil))) (dg_tup (by rfl) (dgs_cons (dg_name (i := 2) sccheck_bounds.nd rfl (.inl rfl)) (dgs_cons (dg_name (i := 3) sccheck_bounds.nd rfl (.inl rfl)) dgs_nil)))
    (db_one (ds_if (dt_not (dt_val (de_call G_is_bound_of (hr.mono (by decide)) (by rfl) T.g_is_bound_of T.F_is_bound_of.kp T.b_is_bound_of hx (da_cons (dv 3) (da_cons (dv 1) da_nil)))))
    db_never
    db_nil)))))), fun ds G Q h => ?_⟩)
  · obtain ⟨_, _, _, rfl, _⟩ := h
    rfl
  · obtain ⟨d, bs, n, rfl, hd, hn, hb, hl, q⟩ := h
    refine ⟨.int n, rfl, told_ki rfl, ?_⟩
    refine chain_rd (a := 0) (b := n) (c := 8) (fun _ r => r) (fun _ r => r) (fun _ r => r) (by omega) (by omega) ?_
    rcases hd with rfl | rfl
    all_goals
      show (match decide ((80 : Int) < ((bs.map fun p => bndD T.C_Bound p.1 p.2).length : Int)) with | true => _ | false => _)
      rw [List.length_map, decide_eq_false (by omega)]
    · refine .inl (for_at (fun j δ G' => G' = G ∧ ∃ x y, δ = [some (bndsL T.C_Bound bs), some (.int n), x, y]) _ (fun j δ G1 d N hd hI hN => ?_) (fun δ G1 hI => ?_) _ 0 _ _ (Nat.zero_le _) rfl ⟨rfl, none, none, rfl⟩)
      · obtain ⟨rfl, x, y, rfl⟩ := hI
        obtain ⟨e, he, rfl⟩ := enum_at hd
        obtain ⟨p, hp, rfl⟩ := map_at2 he
        refine ⟨rfl, p.1, p.2, n, rfl, hl p (List.mem_of_getElem? hp), ?_⟩
        exact hN _ _ ⟨rfl, some (.int j), some (bndD T.C_Bound p.1 p.2), rfl⟩
      · obtain ⟨rfl, x, y, rfl⟩ := hI
        exact q
    · refine .inr (for_at (fun j δ G' => G' = G ∧ ∃ x y, δ = [some (bndsT T.C_Bound bs), some (.int n), x, y]) _ (fun j δ G1 d N hd hI hN => ?_) (fun δ G1 hI => ?_) _ 0 _ _ (Nat.zero_le _) rfl ⟨rfl, none, none, rfl⟩)
      · obtain ⟨rfl, x, y, rfl⟩ := hI
        obtain ⟨e, he, rfl⟩ := enum_at hd
        obtain ⟨p, hp, rfl⟩ := map_at2 he
        refine ⟨rfl, p.1, p.2, n, rfl, hl p (List.mem_of_getElem? hp), ?_⟩
        exact hN _ _ ⟨rfl, some (.int j), some (bndD T.C_Bound p.1 p.2), rfl⟩
      · obtain ⟨rfl, x, y, rfl⟩ := hI
        exact q
end
namespace SX
theorem S_bound : ∀ (l : List V) (f : V → List V → Int) (C : Nat), (∀ v r, v ∈ l → (∀ u ∈ r, u ∈ l) → r.length + 1 = l.length → (f v r).natAbs ≤ C) → (S l f).natAbs ≤ l.length * C
  | [], f, C, _ => Nat.zero_le _
  | x :: xs, f, C, h => by
    have h1 := h x xs List.mem_cons_self (fun u hu => List.mem_cons_of_mem _ hu) rfl
    have h2 := S_bound xs (fun y r => f y (x :: r)) C (fun v r hv hr hl => h v (x :: r) (List.mem_cons_of_mem _ hv) (fun u hu => by
      rcases List.mem_cons.1 hu with e | hu
      · rw [e]; exact List.mem_cons_self
      · exact List.mem_cons_of_mem _ (hr u hu)) (by simp only [List.length_cons]; omega))
    have h3 : (S (x :: xs) f).natAbs ≤ (f x xs).natAbs + (S xs (fun y r => f y (x :: r))).natAbs := by
      show (f x xs - S xs _).natAbs ≤ _
      omega
    rw [List.length_cons, Nat.add_mul]
    omega
theorem dt_bound (X N : Nat) : ∀ (m k : Nat) (l : List V), l.length = m → m ≤ N → (∀ v ∈ l, ∀ k, (v k).natAbs ≤ X) → (dt k m l).natAbs ≤ (N * X) ^ m
  | 0, k, l, _, _, _ => by show (1 : Int).natAbs ≤ _; simp
  | m + 1, k, l, hl, hm, h => by
    have h1 := S_bound l (fun v r => v k * dt (k + 1) m r) (X * (N * X) ^ m) (fun v r hv hr hlr => by
      rw [Int.natAbs_mul]
      exact Nat.mul_le_mul (h v hv k) (dt_bound X N m (k + 1) r (by omega) (by omega) (fun u hu => h u (hr u hu))))
    refine Nat.le_trans h1 ?_
    rw [Nat.pow_succ, Nat.mul_comm ((N * X) ^ m), hl, ← Nat.mul_assoc]
    exact Nat.mul_le_mul_right _ (Nat.mul_le_mul_right _ hm)
/-- all entries below 2 ^ 200, at most eight numbers -/
structure Low8 (Y : Sys) : Prop where
  m8 : Y.m ≤ 8
  n80 : Y.n ≤ 90
  e8 : ∀ j k, (Y.b j k).natAbs ≤ 2 ^ 200
theorem D_low {Y : Sys} (h : Low8 Y) (v : Nat → V) (hv : ∀ i, i < Y.m + 1 → ∃ j, v i = Y.b j) : (D (Y.m + 1) v).natAbs < 2 ^ 1900 := by
  have h1 := dt_bound (2 ^ 200) 9 (Y.m + 1) 0 (vs v 0 (Y.m + 1)) (vs_len _ _ _) (by have := h.m8; omega) (fun u hu k => by
    unfold vs at hu
    obtain ⟨i, hi, e⟩ := List.mem_map.1 hu
    have := List.mem_range'_1.1 hi
    obtain ⟨j, ej⟩ := hv i (by omega)
    rw [← e, ej]; exact h.e8 j k)
  have h2 : (9 * 2 ^ 200) ^ (Y.m + 1) ≤ (2 ^ 204) ^ 9 := by
    have a : 9 * 2 ^ 200 ≤ 2 ^ 204 := by
      have : (2 : Nat) ^ 204 = 2 ^ 200 * 2 ^ 4 := by rw [← Nat.pow_add]
      rw [this]; omega
    exact Nat.le_trans (Nat.pow_le_pow_left a _) (Nat.pow_le_pow_right (Nat.pow_pos (by decide)) (by have := h.m8; omega))
  have h3 : ((2 : Nat) ^ 204) ^ 9 < 2 ^ 1900 := by
    rw [← Nat.pow_mul]
    exact Nat.pow_lt_pow_right (by decide) (by decide)
  unfold D
  omega
theorem abs_g {g x : Int} (h : g * g = 1) : (g * x).natAbs = x.natAbs := by
  have h1 : g.natAbs * g.natAbs = 1 := by rw [← Int.natAbs_mul, h]; rfl
  have h2 : g.natAbs = 1 := Nat.eq_one_of_mul_eq_one_left h1
  rw [Int.natAbs_mul, h2, Nat.one_mul]
theorem L_low {Y : Sys} (h : Low8 Y) {c g} (hg : g * g = 1) (r j : Nat) : (Y.L c g r j).natAbs < 2 ^ 1900 := by
  unfold Sys.L; rw [abs_g hg]
  refine D_low h _ fun i _ => ?_
  unfold upd cb; split
  · exact ⟨j, rfl⟩
  · exact ⟨_, rfl⟩
theorem s_low {Y : Sys} (h : Low8 Y) {c g} (hg : g * g = 1) : (Y.s c g).natAbs < 2 ^ 1900 := by
  unfold Sys.s; rw [abs_g hg]
  exact D_low h _ fun i _ => ⟨_, rfl⟩
end SX
section
variable {P : Program} {w : World} {K : PySem.W.Frag} {mg : Str → Option Value} {base : Heap}
/-- a row of numbers -/
def rowI (W : Nat) (f : Nat → Int) : List Int := (List.range W).map f
theorem rowI_len (W : Nat) (f : Nat → Int) : (rowI W f).length = W := by simp [rowI]
theorem rowI_at {W j : Nat} {f : Nat → Int} (h : j < W) : (rowI W f)[j]? = some (f j) := by
  unfold rowI; rw [List.getElem?_map, List.getElem?_range h]; rfl
theorem rowI_congr {W : Nat} {f g : Nat → Int} (h : ∀ j, j < W → f j = g j) : rowI W f = rowI W g := List.map_congr_left fun j hj => h j (List.mem_range.1 hj)
theorem seqI_at {d : D} {W j : Nat} {f : Nat → Int} {G : Gm} {Q : QD} (hd : SeqI d (rowI W f)) (h : j < W) (q : Q (.int (f j)) G) : ixD d (.int j) G Q := by
  have e : atI ((rowI W f).map D.int) (j : Int) = some (.int (f j)) := atI_nat (by rw [List.getElem?_map, rowI_at h]; rfl)
  rcases hd with rfl | rfl
  all_goals
    show (match atI ((rowI W f).map D.int) (j : Int) with | some d => _ | none => _)
    rw [e]
    exact q
theorem zip_row (W : Nat) (f g : Nat → Int) : zipD ((rowI W f).map .int) ((rowI W g).map .int) = (List.range W).map fun j => .tup [.int (f j), .int (g j)] := by
  unfold rowI zipD
  rw [List.map_map, List.map_map, List.zip_map', List.map_map]
  rfl
def reducedX : SpD := fun ds G Q _ => ∃ (line held : D) (W q : Nat) (s : Int) (f h f' : Nat → Int), ds = [line, held, .int q, .int s] ∧ SeqI line (rowI W f) ∧ SeqI held (rowI W h) ∧ q < W ∧ W ≤ 200 ∧ 0 < s ∧ s.natAbs < 2 ^ 1900 ∧
  (∀ j, j < W → (f j).natAbs < 2 ^ 1900 ∧ (h j).natAbs < 2 ^ 1900) ∧ (∀ j, j < W → s * f' j = f j * h q - f q * h j) ∧ ∀ d, SeqI d (rowI W f') → (line = lstI (rowI W f) → d = lstI (rowI W f')) → Q d G
theorem int_div {s x : Int} (h : 0 < s) : s * x / s = x := Int.mul_ediv_cancel_left x (by omega)
theorem dok_reduced (T : Top K mg) : FnD P w K mg base 4 T.a_reduced T.d_reduced ["line", "held", "place", "scale"] reducedX := by
  refine dfn (k := 3) T.F_reduced screduced (fun ds G Q W h => ?_) (fun cdv A outer s H E B W hr tk => have hx := hx_of tk; ⟨_, (db_cons (ds_asg (de_tup (da_cons (de_ix ix_seq ix_A (dv 0) (dv 2) (fun _ _ => rfl)) (da_cons (de_ix ix_seq ix_A (dv 1) (dv 2) (fun _ _ => rfl)) da_nil))) (dg_tup (by rfl) (dgs_cons (dg_name (i := 4) screduced.nd rfl (.inr rfl)) (dgs_cons (dg_name (i := 5) screduced.nd rfl (.inr rfl)) dgs_nil))))
  (db_cons (ds_if (dw_pt (dw_and (dt_cmp (op_eqD (Room.units hr)) eqI_A (dv 4) de_int (nomark _)) (dw_and1 (dt_cmp (op_eqD (Room.units hr)) eqI_A (dv 5) (dv 3) (nomark _)))))
    (db_one (ds_ret (dv 0)))
    db_nil)
  (db_one (ds_ret (de_lcF (own := [("factor", 6), ("more", 7)]) (gV := gTup K 2 (gCons (gName 6) (gCons (gName 7) (gNil)))) finA_l rfl screduced.nd (di_zip (by rfl) T.z_zip (da_cons (dv 0) (da_cons (dv 1) da_nil))) (blkOk_by (own := [("factor", 6), ("more", 7)]) (N := Nreduced) (sc := defScope sreduced) (by decide +kernel)) (cg_tup (cg_cons (cg_name (i := 6) (by decide)) (cg_cons (cg_name (i := 7) (by decide)) cg_nil))) (fun _ _ _ _ _ => (pg_tup (by rfl) (pgs_cons (pg_name (i := 6) screduced.nd rfl (.inl rfl)) (pgs_cons (pg_name (i := 7) screduced.nd rfl (.inl rfl)) pgs_nil)))) (fun _ _ _ _ _ _ => dts_nil) (fun _ _ _ _ _ _ => (de_fdiv (de_sub (de_mul (dv 6) (dv 5)) (de_mul (dv 4) (dv 7))) (dv 3)))))))), fun ds G Q h => ?_⟩)
  · obtain ⟨_, _, _, _, _, _, _, _, rfl, _⟩ := h
    rfl
  · obtain ⟨line, held, W, q0, s, f, h, f', rfl, hl, hh, hq, hW, hs, hsb, hb, he, q⟩ := h
    have e1 : atI ((rowI W f).map D.int) (q0 : Int) = some (.int (f q0)) := atI_nat (by rw [List.getElem?_map, rowI_at hq]; rfl)
    have e2 : atI ((rowI W h).map D.int) (q0 : Int) = some (.int (h q0)) := atI_nat (by rw [List.getElem?_map, rowI_at hq]; rfl)
    have hw : ∀ j, j < W → CMulW (f j) (h q0) ∧ CMulW (f q0) (h j) := fun j hj => ⟨wide_mul (a := 1900) (b := 1900) (hb j hj).1 (hb q0 hq).2 (by decide) (by decide) (by decide), wide_mul (a := 1900) (b := 1900) (hb q0 hq).1 (hb j hj).2 (by decide) (by decide) (by decide)⟩
    have hdv : CDivW 0 s := wide_div (b := 1900) hs hsb (by decide) (by decide)
    have hl2 := hl
    have hh2 := hh
    rcases hl with rfl | rfl <;> rcases hh with rfl | rfl
    all_goals
      show (match atI ((rowI W f).map D.int) (q0 : Int) with | some d => _ | none => _)
      rw [e1]
      show (match atI ((rowI W h).map D.int) (q0 : Int) with | some d => _ | none => _)
      rw [e2]
      refine ⟨small1000 (show 2 ≤ 1000 by decide), ?_⟩
      refine ⟨rfl, ?_⟩
      refine ⟨pl_int, pl_int, ?_⟩
      rw [eqvD_int]
      by_cases c : f q0 = 0
      · rw [decide_eq_true c]
        refine ⟨pl_int, pl_int, ?_⟩
        rw [eqvD_int]
        by_cases c2 : h q0 = s
        · rw [decide_eq_true c2]
          have e : rowI W f = rowI W f' := rowI_congr fun j hj => by
            have := he j hj
            rw [c, c2, Int.zero_mul, Int.sub_zero, Int.mul_comm] at this
            exact (Int.eq_of_mul_eq_mul_right (by omega) this).symm
          rw [e] at q hl2 ⊢
          exact q _ hl2 (fun z => z)
        · rw [decide_eq_false c2]
          show (zipD ((rowI W f).map .int) ((rowI W h).map .int)).length < sizeLine ∧ lcD _ _ _ _ _ (zipD ((rowI W f).map .int) ((rowI W h).map .int)) [] G
          rw [zip_row]
          refine ⟨by rw [List.length_map, List.length_range]; exact small_size (by omega), lc_mapG (fun d => match d with | .tup [.int a, .int b] => .int ((a * h q0 - f q0 * b) / s) | _ => .non) _ [] (fun e me Q hQ => ?_) ?_⟩
          · obtain ⟨j, hj, rfl⟩ := List.mem_map.mp me
            have hj' := List.mem_range.1 hj
            exact ⟨rfl, (hw j hj').1, (hw j hj').2, wide_div (b := 1900) hs hsb (by decide) (by decide), hQ⟩
          · have e : ([] ++ ((List.range W).map fun j => D.tup [.int (f j), .int (h j)]).map (fun d => match d with | .tup [.int a, .int b] => .int ((a * h q0 - f q0 * b) / s) | _ => .non)) = (rowI W f').map D.int := by
              rw [List.nil_append, List.map_map]
              unfold rowI
              rw [List.map_map]
              refine List.map_congr_left fun j hj => ?_
              show D.int ((f j * h q0 - f q0 * h j) / s) = D.int (f' j)
              rw [← he j (List.mem_range.1 hj), int_div hs]
            rw [e]
            exact q _ (.inr rfl) (fun _ => rfl)
      · rw [decide_eq_false c]
        show (zipD ((rowI W f).map .int) ((rowI W h).map .int)).length < sizeLine ∧ lcD _ _ _ _ _ (zipD ((rowI W f).map .int) ((rowI W h).map .int)) [] G
        rw [zip_row]
        refine ⟨by rw [List.length_map, List.length_range]; exact small_size (by omega), lc_mapG (fun d => match d with | .tup [.int a, .int b] => .int ((a * h q0 - f q0 * b) / s) | _ => .non) _ [] (fun e me Q hQ => ?_) ?_⟩
        · obtain ⟨j, hj, rfl⟩ := List.mem_map.mp me
          have hj' := List.mem_range.1 hj
          exact ⟨rfl, (hw j hj').1, (hw j hj').2, wide_div (b := 1900) hs hsb (by decide) (by decide), hQ⟩
        · have e : ([] ++ ((List.range W).map fun j => D.tup [.int (f j), .int (h j)]).map (fun d => match d with | .tup [.int a, .int b] => .int ((a * h q0 - f q0 * b) / s) | _ => .non)) = (rowI W f').map D.int := by
            rw [List.nil_append, List.map_map]
            unfold rowI
            rw [List.map_map]
            refine List.map_congr_left fun j hj => ?_
            show D.int ((f j * h q0 - f q0 * h j) / s) = D.int (f' j)
            rw [← he j (List.mem_range.1 hj), int_div hs]
          rw [e]
          exact q _ (.inr rfl) (fun _ => rfl)
end
def colB (fs : List (List Int)) (gs : List Int) (m j k : Nat) : Int :=
  if j < fs.length then (if k < m then (fs.getD j []).getD k 0 else if k = m then gs.getD j 0 else 0) else if j - fs.length = k ∧ k ≤ m then 1 else 0
def sysOf (fs : List (List Int)) (gs : List Int) (m : Nat) : SX.Sys where
  m := m
  n := fs.length
  b := colB fs gs m
  low := fun j k hk => by
    unfold colB
    split
    · rw [if_neg (by omega), if_neg (by omega)]
    · rw [if_neg (by omega)]
  unit := fun k hk i => by
    unfold colB
    rw [if_neg (by omega), Nat.add_sub_cancel_left]
    by_cases e : i = k
    · rw [if_pos ⟨e.symm, by omega⟩, if_pos e]
    · rw [if_neg (fun h => e h.1.symm), if_neg e]
theorem row_split (n m : Nat) (f : Nat → Int) : rowI (n + m) f = rowI n f ++ rowI m (fun i => f (n + i)) := by
  unfold rowI
  rw [List.range_add, List.map_append, List.map_map]; rfl
section
variable {P : Program} {w : World} {K : PySem.W.Frag} {mg : Str → Option Value} {base : Heap}
def hsD (Y : SX.Sys) (c : Nat → Nat) : List D := (List.range Y.m).map fun r => if c r < Y.n then D.int (c r) else D.non
def gridF (ls : List D) (gn : List Int) (p : Addr) (s : Int) : List (Str × D) := [("lines", .lst ls), ("gains", lstI gn), ("holders", .adr p), ("scale", .int s)]
/-- the grid at x (its holders at p) is that of a basis -/
structure GridOk (CG : Addr) (Y : SX.Sys) (c : Nat → Nat) (g : Int) (G : Gm) (x p : Addr) : Prop where
  ne : x ≠ p
  hol : G p = some (.lst (hsD Y c))
  ins : ∃ ls, G x = some (.ins CG (gridF ls (rowI (Y.n + Y.m) (Y.L c g Y.m)) p (Y.s c g))) ∧ ls.length = Y.m ∧ ∀ r, r < Y.m → ∃ d, ls[r]? = some d ∧ SeqI d (rowI (Y.n + Y.m) (Y.L c g r))
def gridInitX (CG : Addr) : SpD := fun ds G Q _ => ∃ (x : Addr) (fs : List (List Int)) (gs : List Int) (m : Nat), ds = [.adr x, .lst (fs.map intsD), lstI gs, .int m] ∧ G x = some (.ins CG []) ∧ fs.length = gs.length ∧ (∀ f ∈ fs, f.length = m) ∧ m ≤ 8 ∧ fs.length ≤ 90 ∧
  ∀ G' p, GridOk CG (sysOf fs gs m) (SX.c0 (sysOf fs gs m)) 1 G' x p → G p = none → (∀ a, a ≠ x → a ≠ p → G' a = G a) → Q .non G'
theorem colB_f {fs : List (List Int)} {gs : List Int} {m j k : Nat} (hj : j < fs.length) (hk : k < m) : colB fs gs m j k = (fs.getD j []).getD k 0 := by
  unfold colB; rw [if_pos hj, if_pos hk]
theorem colB_g {fs : List (List Int)} {gs : List Int} {m j : Nat} (hj : j < fs.length) : colB fs gs m j m = gs.getD j 0 := by
  unfold colB; rw [if_pos hj, if_neg (by omega), if_pos rfl]
theorem colB_u {fs : List (List Int)} {gs : List Int} {m i r : Nat} (hi : i ≤ m) : colB fs gs m (fs.length + i) r = if i = r then 1 else 0 := by
  have := (sysOf fs gs m).unit i hi r
  by_cases e : i = r
  · rw [if_pos e]; rw [if_pos e.symm] at this; exact this
  · rw [if_neg e]; rw [if_neg (fun z => e z.symm)] at this; exact this
theorem line0 {fs : List (List Int)} {gs : List Int} {m r : Nat} (hr : r < m) : (fs.map fun f => f.getD r 0) ++ unitI r m = rowI (fs.length + m) ((sysOf fs gs m).L (SX.c0 (sysOf fs gs m)) 1 r) := by
  rw [rowI_congr (g := fun j => colB fs gs m j r) (fun j _ => (SX.ok0 (sysOf fs gs m)).2.2 r j (Nat.le_of_lt hr)), row_split]
  congr 1
  · refine List.ext_getElem? fun i => ?_
    rcases Nat.lt_or_ge i fs.length with h1 | h1
    · rw [rowI_at h1, List.getElem?_map, List.getElem?_eq_getElem h1, colB_f h1 hr, List.getD_eq_getElem?_getD (l := fs), List.getElem?_eq_getElem h1]; rfl
    · rw [List.getElem?_eq_none (by rw [List.length_map]; exact h1), List.getElem?_eq_none (by rw [rowI_len]; exact h1)]
  · unfold rowI unitI
    refine List.map_congr_left fun i hi => ?_
    show (if i = r then (1 : Int) else 0) = colB fs gs m (fs.length + i) r
    rw [colB_u (Nat.le_of_lt (List.mem_range.1 hi))]
theorem gains0 {fs : List (List Int)} {gs : List Int} {m : Nat} (hg : fs.length = gs.length) : gs ++ ((List.range m).map fun _ => (0 : Int)) = rowI (fs.length + m) ((sysOf fs gs m).L (SX.c0 (sysOf fs gs m)) 1 m) := by
  rw [rowI_congr (g := fun j => colB fs gs m j m) (fun j _ => (SX.ok0 (sysOf fs gs m)).2.2 m j (Nat.le_refl _)), row_split]
  congr 1
  · refine List.ext_getElem? fun i => ?_
    rcases Nat.lt_or_ge i fs.length with h1 | h1
    · rw [rowI_at h1, colB_g h1, List.getD_eq_getElem?_getD, List.getElem?_eq_getElem (by omega)]; rfl
    · rw [List.getElem?_eq_none (by omega), List.getElem?_eq_none (by rw [rowI_len]; exact h1)]
  · unfold rowI
    refine List.map_congr_left fun i hi => ?_
    have := List.mem_range.1 hi
    show (0 : Int) = colB fs gs m (fs.length + i) m
    rw [colB_u (by omega), if_neg (by omega)]
theorem dok_Grid___init__ (T : Top K mg) : FnD P w K mg base 8 T.a_Grid___init__ T.d_Grid___init__ ["self", "forms", "gains", "many"] (gridInitX T.C_Grid) := by
  have G_nought_form := (dok_nought_form (P := P) (w := w) (base := base) T).mono (k := 5) (by decide)
  have G_unit_form := (dok_unit_form (P := P) (w := w) (base := base) T).mono (k := 5) (by decide)
  refine dfn (k := 7) T.F_Grid___init__ scGrid___init__ (fun ds G Q W h => ?_) (fun cdv A outer s H E B W hr tk => have hx := hx_of tk; ⟨_, (db_cons (ds_fld (C := T.C_Grid) T.na_Grid_lines (dv 0) (de_lcF (own := [("at", 4)]) (gV := gName 4) finA_l rfl scGrid___init__.nd (di_range1 (by rfl) T.z_range (da_cons (dv 3) da_nil)) (blkOk_by (own := [("at", 4)]) (N := NGrid___init__) (sc := defScope sGrid___init__) (by decide +kernel)) (cg_name (i := 4) (by decide)) (fun _ _ _ _ _ => (pg_name (i := 4) scGrid___init__.nd rfl (.inr rfl))) (fun _ _ _ _ _ _ => dts_nil) (fun _ _ _ _ _ _ => (de_lst (da_star (de_lcF (own := [("form", 5)]) (gV := gName 5) finA_l rfl scGrid___init__.nd (di_list (dv 1)) (blkOk_by (own := [("form", 5)]) (by kernel_rfl)) (cg_name (i := 5) (by decide)) (fun _ _ _ _ _ => (pg_name (i := 5) scGrid___init__.nd rfl (.inl rfl))) (fun _ _ _ _ _ _ => dts_nil) (fun _ _ _ _ _ _ => (de_ix ix_seq ix_A (dv 5) (dv 4) (fun _ _ => rfl)))) (da_star (de_call G_unit_form (hr.mono (by decide)) (by rfl) T.g_unit_form T.F_unit_form.kp T.b_unit_form hx0 (da_cons (dv 4) (da_cons (dv 3) da_nil))) da_nil))))))
  (db_cons (ds_fld (C := T.C_Grid) T.na_Grid_gains (dv 0) (de_lst (da_star (dv 2) (da_star (de_call G_nought_form (hr.mono (by decide)) (by rfl) T.g_nought_form T.F_nought_form.kp T.b_nought_form hx (da_cons (dv 3) da_nil)) da_nil))))
  (db_cons (ds_fld (C := T.C_Grid) T.na_Grid_holders (dv 0) (de_lcF (own := [("_", 6)]) (gV := gName 6) finA_m rfl scGrid___init__.nd (di_range1 (by rfl) T.z_range (da_cons (dv 3) da_nil)) (blkOk_by (own := [("_", 6)]) (N := NGrid___init__) (sc := defScope sGrid___init__) (by decide +kernel)) (cg_name (i := 6) (by decide)) (fun _ _ _ _ _ => (pg_name (i := 6) scGrid___init__.nd rfl (.inl rfl))) (fun _ _ _ _ _ _ => dts_nil) (fun _ _ _ _ _ _ => de_non)))
  (db_one (ds_fld (C := T.C_Grid) T.na_Grid_scale (dv 0) de_int))))), fun ds G Q h => ?_⟩)
  · obtain ⟨_, _, _, _, rfl, _⟩ := h
    rfl
  · obtain ⟨x, fs, gs, m, rfl, hx, hl, hf, hm, hn, q⟩ := h
    have el : (rangeD 0 (m : Int).toNat).length = m := by simp [rangeD]
    refine ⟨⟨by omega, by omega⟩, by rw [el]; exact small_size (by omega), ?_⟩
    refine lc_map (fun d => match d with | .int r => lstI (rowI (fs.length + m) ((sysOf fs gs m).L (SX.c0 (sysOf fs gs m)) 1 r.toNat)) | _ => .non) _ [] (fun e me R hR => ?_) ?_
    · obtain ⟨r, hr, rfl⟩ := List.mem_map.mp me
      have hr' : r < m := by simpa using hr
      have e0 : (0 + (r : Int)).toNat = r := by omega
      simp only [e0] at hR
      refine ⟨by rw [List.length_map]; exact small_size (by omega), lc_map (fun d => match d with | .tup es => es.getD r .non | _ => .non) (fs.map intsD) [] (fun e me R hR => ?_) ?_⟩
      · obtain ⟨f, hf', rfl⟩ := List.mem_map.mp me
        have e1 : atI (f.map D.int) (0 + (r : Int)) = some (.int (f.getD r 0)) := by
          rw [Int.zero_add]
          exact atI_nat (by rw [List.getElem?_map, List.getD_eq_getElem?_getD, List.getElem?_eq_getElem (by rw [hf f hf']; exact hr')]; rfl)
        show (match atI (f.map D.int) (0 + (r : Int)) with | some d => _ | none => _)
        rw [e1]
        have e2 : (f.map D.int).getD r .non = .int (f.getD r 0) := by
          rw [List.getD_eq_getElem?_getD, List.getElem?_map, List.getD_eq_getElem?_getD, List.getElem?_eq_getElem (by rw [hf f hf']; exact hr')]; rfl
        simp only [intsD, e2] at hR
        exact hR
      · have e3 : (fs.map intsD).map (fun d => match d with | .tup es => es.getD r .non | _ => .non) = (fs.map fun f => f.getD r 0).map D.int := by
          rw [List.map_map, List.map_map]
          refine List.map_congr_left fun f hf' => ?_
          show (f.map D.int).getD r .non = .int (f.getD r 0)
          rw [List.getD_eq_getElem?_getD, List.getElem?_map, List.getD_eq_getElem?_getD, List.getElem?_eq_getElem (by rw [hf f hf']; exact hr')]; rfl
        rw [List.nil_append, e3]
        refine ⟨r, m, by rw [Int.zero_add], by omega, ?_⟩
        have e4 : (fs.map fun f => f.getD r 0).map D.int ++ ((unitI r m).map D.int ++ []) = (rowI (fs.length + m) ((sysOf fs gs m).L (SX.c0 (sysOf fs gs m)) 1 r)).map D.int := by
          rw [List.append_nil, ← List.map_append, line0 hr']
        show ((fs.map fun (f : List Int) => f.getD r 0).map D.int ++ ((unitI r m).map D.int ++ [])).length ≤ sizeLine ∧ R (.lst ((fs.map fun (f : List Int) => f.getD r 0).map D.int ++ ((unitI r m).map D.int ++ []))) G
        rw [e4]
        exact ⟨by rw [List.length_map, rowI_len]; exact Nat.le_of_lt (small_size (by omega)), hR⟩
    · show (match G x with | some (.ins C' fs) => _ | _ => _)
      rw [hx]
      refine ⟨rfl, by decide, ?_⟩
      refine ⟨m, rfl, by omega, ?_⟩
      have e5 : gs.map D.int ++ (((List.range m).map fun _ => (0 : Int)).map D.int ++ []) = (rowI (fs.length + m) ((sysOf fs gs m).L (SX.c0 (sysOf fs gs m)) 1 m)).map D.int := by
        rw [List.append_nil, ← List.map_append, gains0 hl]
      show (gs.map D.int ++ (((List.range m).map fun _ => (0 : Int)).map D.int ++ [])).length ≤ sizeLine ∧ _
      rw [e5]
      refine ⟨by rw [List.length_map, rowI_len]; exact Nat.le_of_lt (small_size (by omega)), ?_⟩
      show (match updG G x _ x with | some (.ins C' fs) => _ | _ => _)
      rw [updG_same]
      refine ⟨rfl, (show 1 < 1000 by decide), ?_⟩
      rw [updG_updG]
      refine ⟨⟨by omega, by omega⟩, by rw [el]; exact small_size (by omega), lc_map (fun d => .non) _ [] (fun e me R hR => hR) ?_⟩
      generalize hls : ([] ++ List.map (fun d => match d with | D.int r => lstI (rowI (fs.length + m) ((sysOf fs gs m).L (SX.c0 (sysOf fs gs m)) 1 r.toNat)) | x => D.non) (rangeD 0 (m : Int).toNat)) = ls
      intro p np
      have hxp : x ≠ p := fun e => by rw [← e, updG_same] at np; cases np
      have hp0 : G p = none := by rw [updG_ne (fun e => hxp e.symm)] at np; exact np
      show (match updG _ p _ x with | some (.ins C' fs) => _ | _ => _)
      rw [updG_ne hxp, updG_same]
      refine ⟨rfl, (show 2 < 1000 by decide), ?_⟩
      show (match updG _ x _ x with | some (.ins C' fs) => _ | _ => _)
      rw [updG_same]
      refine ⟨rfl, (show 3 < 1000 by decide), ?_⟩
      rw [updG_updG]
      refine q _ p ⟨hxp, ?_, ls, ?_, ?_, ?_⟩ hp0 (fun a h1 h2 => ?_)
      · rw [updG_ne hxp.symm, updG_same]
        congr 2
        unfold hsD rangeD
        rw [List.nil_append, List.map_map]
        show _ = (List.range m).map _
        rw [Int.toNat_natCast]
        refine List.map_congr_left fun r hr => ?_
        show D.non = if fs.length + r < fs.length then _ else _
        rw [if_neg (by omega)]
      · rw [updG_same]
        unfold gridF
        have := (SX.ok0 (sysOf fs gs m)).2.1
        rw [this]
        rfl
      · rw [← hls, List.nil_append, List.length_map]; exact el
      · intro r hr
        refine ⟨_, ?_, .inr rfl⟩
        rw [← hls, List.nil_append]
        unfold rangeD
        have hr2 : r < m := hr
        rw [List.map_map, List.getElem?_map, Int.toNat_natCast, List.getElem?_range hr2]
        show some (lstI (rowI (fs.length + m) ((sysOf fs gs m).L (SX.c0 (sysOf fs gs m)) 1 (0 + (r : Int)).toNat))) = _
        have e0 : (0 + (r : Int)).toNat = r := by omega
        rw [e0]; rfl
      · rw [updG_ne h1, updG_ne h2, updG_ne h1]
end
section
variable {P : Program} {w : World} {K : PySem.W.Frag} {mg : Str → Option Value} {base : Heap}
theorem var_rd {i : Nat} {δ : SD} {d : D} {G : Gm} {Q : QD} (h : δ[i]? = some (some d)) (q : Q d G) : dVar i δ G Q := by
  unfold dVar; rw [h]; exact q
theorem fld_rd {i : Nat} {δ : SD} {x C : Addr} {fs : List (Str × D)} {f : Str} {y : D} {G : Gm} {Q : QD} (h : δ[i]? = some (some (.adr x))) (hG : G x = some (.ins C fs)) (hf : fs.lookup f = some y) (q : Q y G) : dFld (dVar i) f δ G Q := by
  refine var_rd h ?_
  have : fldD (.adr x) G f = some y := by
    show ((match G x with | some (.ins C fs) => some (C, fs) | _ => none : Option (Addr × List (Str × D))).bind fun p => p.2.lookup f) = some y
    rw [hG]; exact hf
  rw [this]; exact q
theorem fld_is {x C : Addr} {fs : List (Str × D)} {f : Str} {y : D} {G : Gm} (hG : G x = some (.ins C fs)) (hf : fs.lookup f = some y) : fldD (.adr x) G f = some y := by
  show ((match G x with | some (.ins C fs) => some (C, fs) | _ => none : Option (Addr × List (Str × D))).bind fun p => p.2.lookup f) = some y
  rw [hG]; exact hf
theorem op_rd {r : R2D} {ta tb : TED} {δ : SD} {G : Gm} {Q : QD} (h : ta δ G fun x G1 => tb δ G1 fun y G2 => r x y G2 Q) : dOp r ta tb δ G Q := h
theorem ixl_rd {ls : List D} {r : Nat} {d : D} {G : Gm} {Q : QD} (hd : ls[r]? = some d) (q : Q d G) : ixD (.lst ls) (.int r) G Q := by
  have e : atI ls (r : Int) = some d := atI_nat hd
  show (match atI ls (r : Int) with | some d => _ | none => _)
  rw [e]; exact q
theorem lineAt_rd {i j : Nat} {δ : SD} {x C : Addr} {fs : List (Str × D)} {ls : List D} {r : Nat} {d : D} {G : Gm} {Q : QD} (h : δ[i]? = some (some (.adr x))) (hr : δ[j]? = some (some (.int r))) (hG : G x = some (.ins C fs)) (hf : fs.lookup ("lines" : Str) = some (D.lst ls)) (hd : ls[r]? = some d) (q : Q d G) :
    dOp ixD (dFld (dVar i) "lines") (dVar j) δ G Q := op_rd (fld_rd h hG hf (var_rd hr (ixl_rd hd q)))
theorem hs_set {Y : SX.Sys} {c : Nat → Nat} {p q : Nat} (hq : q < Y.n) : (hsD Y c).set p (.int q) = hsD Y (SX.setN c p q) := by
  refine List.ext_getElem? fun i => ?_
  unfold hsD
  rw [List.getElem?_set, List.getElem?_map, List.getElem?_map, List.length_map, List.length_range]
  rcases Nat.lt_or_ge i Y.m with h | h
  · rw [List.getElem?_range h]
    by_cases e : p = i
    · subst e
      rw [if_pos rfl, if_pos h]
      show _ = some (if SX.setN c p q p < Y.n then D.int (SX.setN c p q p) else D.non)
      have : SX.setN c p q p = q := by unfold SX.setN; rw [if_pos rfl]
      rw [this, if_pos hq]
    · rw [if_neg e]
      show some (if c i < Y.n then D.int (c i) else D.non) = some (if SX.setN c p q i < Y.n then D.int (SX.setN c p q i) else D.non)
      have : SX.setN c p q i = c i := by unfold SX.setN; rw [if_neg (fun z => e z.symm)]
      rw [this]
  · rw [List.getElem?_eq_none (by rw [List.length_range]; exact h)]
    by_cases e : p = i
    · rw [if_pos e, if_neg (by omega)]; rfl
    · rw [if_neg e]; rfl
theorem lc_atG {g : TGD} {te : TED} {Fin : List D → Gm → Prop} {δ : SD} (I : Nat → List D → Gm → Prop) (ds0 : List D) (hs : ∀ j acc G d (Q : QD), ds0[j]? = some d → I j acc G → (∀ y G', I (j + 1) (acc ++ [y]) G' → Q y G') → g d δ G fun δ1 G1 => te δ1 G1 Q) (hF : ∀ acc G, I ds0.length acc G → Fin acc G) :
    ∀ (ds acc : List D) (j : Nat) (G : Gm), ds0.drop j = ds → j ≤ ds0.length → I j acc G → lcD g dYes te Fin δ ds acc G
  | [], acc, j, G, e, hj, h => by
    have : ds0.length ≤ j := by
      have := congrArg List.length e
      rw [List.length_drop, List.length_nil] at this; omega
    have : j = ds0.length := by omega
    subst this
    exact hF acc G h
  | d :: ds, acc, j, G, e, hj, h => by
    have hlt : j < ds0.length := by
      have := congrArg List.length e
      rw [List.length_drop, List.length_cons] at this; omega
    have e1 : ds0[j]? = some d := by
      have := List.getElem?_drop (xs := ds0) (i := j) (j := 0)
      rw [e] at this
      simpa using this.symm
    refine hs j acc G d _ e1 h fun y G' q => lc_atG I ds0 hs hF ds (acc ++ [y]) (j + 1) G' ?_ hlt q
    rw [← List.drop_drop, e]; rfl
theorem enum_len (es : List D) : (enumT es).length = es.length := by unfold enumT; rw [List.length_mapIdx]
def exchangeX (CG : Addr) : SpD := fun ds G Q _ => ∃ (x ph : Addr) (Y : SX.Sys) (c : Nat → Nat) (g : Int) (p0 q : Nat), ds = [.adr x, .int p0, .int q] ∧ GridOk CG Y c g G x ph ∧ SX.Ok Y c g ∧ SX.Low8 Y ∧ p0 < Y.m ∧ q < Y.n ∧ Y.L c g p0 q ≠ 0 ∧
  ∀ G' e, e * e = 1 → 0 < e * Y.L c g p0 q → (0 < Y.L c g p0 q → e = 1) → GridOk CG Y (SX.setN c p0 q) (e * g) G' x ph → (∀ a, a ≠ x → a ≠ ph → G' a = G a) → Q .non G'
theorem dok_Grid_exchange (T : Top K mg) : FnD P w K mg base 8 T.a_Grid_exchange T.d_Grid_exchange ["self", "at", "place"] (exchangeX T.C_Grid) := by
  have G_reduced := (dok_reduced (P := P) (w := w) (base := base) T).mono (k := 5) (by decide)
  have G_times_form := (dok_times_form (P := P) (w := w) (base := base) T).mono (k := 5) (by decide)
  refine dfn (k := 7) T.F_Grid_exchange scGrid_exchange (fun ds G Q W h => ?_) (fun cdv A outer s H E B W hr tk => have hx := hx_of tk; ⟨_, (db_cons (ds_set (i := 3) scGrid_exchange.nd rfl (.inr rfl) (de_if (dt_cmp op_gt gt_A (de_ix ix_seq ix_A (de_ix ix_seq ix_A (de_fld (dv 0)) (dv 1) (fun _ _ => rfl)) (dv 2) (fun _ _ => rfl)) de_int (nomark _)) (de_ix ix_seq ix_A (de_fld (dv 0)) (dv 1) (fun _ _ => rfl)) (de_call G_times_form (hr.mono (by decide)) (by rfl) T.g_times_form T.F_times_form.kp T.b_times_form hx (da_cons (de_neg de_int) (da_cons (de_ix ix_seq ix_A (de_fld (dv 0)) (dv 1) (fun _ _ => rfl)) da_nil)))))
  (db_cons (ds_fld (C := T.C_Grid) T.na_Grid_lines (dv 0) (de_lcF (own := [("other", 4), ("line", 5)]) (gV := gTup K 2 (gCons (gName 4) (gCons (gName 5) (gNil)))) finA_l rfl scGrid_exchange.nd (di_enumL (by rfl) T.z_enumerate (da_cons (de_fld (dv 0)) da_nil)) (blkOk_by (own := [("other", 4), ("line", 5)]) (N := NGrid_exchange) (sc := defScope sGrid_exchange) (by decide +kernel)) (cg_tup (cg_cons (cg_name (i := 4) (by decide)) (cg_cons (cg_name (i := 5) (by decide)) cg_nil))) (fun _ _ _ _ _ => (pg_tup (by rfl) (pgs_cons (pg_name (i := 4) scGrid_exchange.nd rfl (.inl rfl)) (pgs_cons (pg_name (i := 5) scGrid_exchange.nd rfl (.inl rfl)) pgs_nil)))) (fun _ _ _ _ _ _ => dts_nil) (fun _ _ _ _ _ _ => (de_if (dt_cmp (op_eqD (Room.units hr)) eqI_A (dv 4) (dv 1) (nomark _)) (dv 3) (de_call G_reduced (hr.mono (by decide)) (by rfl) T.g_reduced T.F_reduced.kp T.b_reduced hx0 (da_cons (dv 5) (da_cons (dv 3) (da_cons (dv 2) (da_cons (de_fld (dv 0)) da_nil)))))))))
  (db_cons (ds_fld (C := T.C_Grid) T.na_Grid_gains (dv 0) (de_call G_reduced (hr.mono (by decide)) (by rfl) T.g_reduced T.F_reduced.kp T.b_reduced hx (da_cons (de_fld (dv 0)) (da_cons (dv 3) (da_cons (dv 2) (da_cons (de_fld (dv 0)) da_nil))))))
  (db_cons (ds_asg (dv 2) (dg_set (de_fld (dv 0)) (dv 1)))
  (db_one (ds_fld (C := T.C_Grid) T.na_Grid_scale (dv 0) (de_ix ix_seq ix_A (dv 3) (dv 2) (fun _ _ => rfl)))))))), fun ds G Q h => ?_⟩)
  · obtain ⟨_, _, _, _, _, _, _, rfl, _⟩ := h
    rfl
  · obtain ⟨x, ph, Y, c, g, p0, q0, rfl, hg, hok, hlow, hp, hq, hne, q⟩ := h
    obtain ⟨ls, hins, hll, hrow⟩ := hg.ins
    obtain ⟨d, hd, hs⟩ := hrow p0 hp
    have hm8 := hlow.m8
    have hn80 := hlow.n80
    -- what is held
    have hheld : ∀ R : QD, (∀ dh e, e * e = 1 → 0 < e * Y.L c g p0 q0 → (0 < Y.L c g p0 q0 → e = 1) → SeqI dh (rowI (Y.n + Y.m) (fun j => e * Y.L c g p0 j)) → R dh G) →
        dIf (dTest (dOp gtD (dOp ixD (dOp ixD (dFld (dVar 0) "lines") (dVar 1)) (dVar 2)) (dC (.int 0)))) (dOp ixD (dFld (dVar 0) "lines") (dVar 1))
          (dCall timesD W (dCons (dUn negD (dC (.int 1))) (dCons (dOp ixD (dFld (dVar 0) "lines") (dVar 1)) dNil))) (startD NGrid_exchange [.adr x, .int p0, .int q0]) G R := by
      intro R hR
      have hW : q0 < Y.n + Y.m := by omega
      unfold dIf dTest
      refine op_rd ?_
      refine op_rd ?_
      refine lineAt_rd rfl rfl hins rfl hd ?_
      refine var_rd rfl ?_
      refine seqI_at hs hW ?_
      show (match decide (0 < Y.L c g p0 q0) with | true => _ | false => _)
      by_cases hc : 0 < Y.L c g p0 q0
      · rw [decide_eq_true hc]
        refine lineAt_rd rfl rfl hins rfl hd ?_
        refine hR d 1 rfl (by omega) (fun _ => rfl) ?_
        have : rowI (Y.n + Y.m) (Y.L c g p0) = rowI (Y.n + Y.m) (fun j => 1 * Y.L c g p0 j) := rowI_congr fun j _ => (Int.one_mul _).symm
        rw [← this]; exact hs
      · rw [decide_eq_false hc]
        show dOp ixD (dFld (dVar 0) "lines") (dVar 1) (startD NGrid_exchange [.adr x, .int p0, .int q0]) G (fun d G1 => timesD [.int (-1), d] G1 R W)
        refine lineAt_rd rfl rfl hins rfl hd ?_
        refine ⟨-1, d, _, rfl, hs, by rw [rowI_len]; omega, fun n hn => ?_, ?_⟩
        · unfold rowI at hn
          obtain ⟨j, _, rfl⟩ := List.mem_map.1 hn
          exact wide_mul (a := 1) (b := 1900) (by decide) (SX.L_low hlow hok.g1 _ _) (by decide) (by decide) (by decide)
        · refine hR _ (-1) rfl (by omega) (fun h => absurd h hc) (.inl ?_)
          unfold rowI
          rw [List.map_map]; rfl
    refine hheld _ fun dh e he1 he2 he3 hdh => ?_
    obtain ⟨ok', es, eown, eoth⟩ := SX.L_step hok hp hq e he1 he2
    have hW : q0 < Y.n + Y.m := by omega
    have hsL := SX.s_low hlow hok.g1 (c := c)
    have hLL := fun r j => SX.L_low hlow hok.g1 (c := c) r j
    have hEL : ∀ j, (e * Y.L c g p0 j).natAbs < 2 ^ 1900 := fun j => by rw [SX.abs_g he1]; exact hLL p0 j
    show dFld (dVar 0) "lines" (startD NGrid_exchange [.adr x, .int p0, .int q0] |>.set 3 (some dh)) G _
    refine fld_rd rfl hins rfl ?_
    refine ⟨by rw [enum_len, hll]; exact small_size (by omega), ?_⟩
    refine lc_atG (fun j acc G' => G' = G ∧ acc.length = j ∧ ∀ r, r < j → ∃ d, acc[r]? = some d ∧ SeqI d (rowI (Y.n + Y.m) (Y.L (SX.setN c p0 q0) (e * g) r))) (enumT ls) (fun j acc G1 d R hd2 hI hR => ?_) (fun acc G1 hI => ?_) _ _ 0 _ rfl (Nat.zero_le _) ⟨rfl, rfl, fun r hr => absurd hr (Nat.not_lt_zero _)⟩
    · obtain ⟨rfl, hlen, hacc⟩ := hI
      obtain ⟨ln, hln, rfl⟩ := enum_at hd2
      have hj : j < Y.m := by
        have := (List.getElem?_eq_some_iff.1 hln).1
        omega
      obtain ⟨ln', hln2, hsl⟩ := hrow j hj
      rw [hln] at hln2
      obtain rfl := Option.some.inj hln2
      have hnext : ∀ y, SeqI y (rowI (Y.n + Y.m) (Y.L (SX.setN c p0 q0) (e * g) j)) → R y G1 := fun y hy => hR y G1 ⟨rfl, by rw [List.length_append, hlen]; rfl, fun r hr => by
        rcases Nat.lt_or_ge r j with h1 | h1
        · obtain ⟨d, h2, h3⟩ := hacc r h1
          exact ⟨d, by rw [List.getElem?_append_left (by omega)]; exact h2, h3⟩
        · have : r = j := by omega
          subst this
          exact ⟨y, by rw [List.getElem?_append_right (by omega), hlen, Nat.sub_self]; rfl, hy⟩⟩
      refine ⟨rfl, pl_int, pl_int, ?_⟩
      rw [eqvD_int]
      by_cases hjp : j = p0
      · rw [decide_eq_true (by omega)]
        refine var_rd rfl (hnext _ ?_)
        rw [hjp, rowI_congr (fun j _ => eown j)]; exact hdh
      · rw [decide_eq_false (by omega)]
        show (match fldD (.adr x) G1 "scale" with | some y => _ | none => _)
        rw [fld_is hins rfl]
        refine ⟨ln, dh, Y.n + Y.m, q0, Y.s c g, _, _, Y.L (SX.setN c p0 q0) (e * g) j, rfl, hsl, hdh, hW, by omega, hok.pos, hsL, fun k _ => ⟨hLL j k, hEL k⟩, fun k hk => eoth j k (by omega) hjp, fun y hy _ => hnext y hy⟩
    · obtain ⟨rfl, hlen, hacc⟩ := hI
      rw [enum_len, hll] at hlen hacc
      show (match G1 x with | some (.ins C' fs) => _ | _ => _)
      rw [hins]
      refine ⟨rfl, (show 4 < 1000 by decide), ?_⟩
      show (match fldD (.adr x) (updG G1 x _) "gains" with | some y => _ | none => _)
      rw [fld_is updG_same rfl]
      show (match fldD (.adr x) (updG G1 x _) "scale" with | some y => _ | none => _)
      rw [fld_is updG_same rfl]
      refine ⟨_, dh, Y.n + Y.m, q0, Y.s c g, _, _, Y.L (SX.setN c p0 q0) (e * g) Y.m, rfl, .inr rfl, hdh, hW, by omega, hok.pos, hsL, fun k _ => ⟨hLL Y.m k, hEL k⟩, fun k hk => eoth Y.m k (Nat.le_refl _) (by omega), fun y _ hy => ?_⟩
      rw [hy rfl]
      show (match updG G1 x _ x with | some (.ins C' fs) => _ | _ => _)
      rw [updG_same]
      refine ⟨rfl, (show 4 < 1000 by decide), ?_⟩
      rw [updG_updG]
      show (match fldD (.adr x) (updG G1 x _) "holders" with | some y => _ | none => _)
      rw [fld_is updG_same rfl]
      refine ⟨ph, p0, hsD Y c, rfl, rfl, (updG_ne hg.ne.symm).trans hg.hol, by unfold hsD; rw [List.length_map, List.length_range]; exact hp, ?_⟩
      rw [hs_set hq]
      have hat : atI ((rowI (Y.n + Y.m) (fun j => e * Y.L c g p0 j)).map D.int) (q0 : Int) = some (.int (e * Y.L c g p0 q0)) := atI_nat (by rw [List.getElem?_map, rowI_at hW]; rfl)
      have fin : (match updG (updG G1 x (MO.ins T.C_Grid [("lines", .lst acc), ("gains", lstI (rowI (Y.n + Y.m) (Y.L (SX.setN c p0 q0) (e * g) Y.m))), ("holders", .adr ph), ("scale", .int (Y.s c g))])) ph (MO.lst (hsD Y (SX.setN c p0 q0))) x with
          | some (.ins C' fs) => C' = T.C_Grid ∧ fs.length < 1000 ∧ Q .non (updG (updG (updG G1 x (MO.ins T.C_Grid [("lines", .lst acc), ("gains", lstI (rowI (Y.n + Y.m) (Y.L (SX.setN c p0 q0) (e * g) Y.m))), ("holders", .adr ph), ("scale", .int (Y.s c g))])) ph (MO.lst (hsD Y (SX.setN c p0 q0)))) x (.ins T.C_Grid (putD "scale" (.int (e * Y.L c g p0 q0)) fs)))
          | _ => False) := by
        rw [updG_ne hg.ne, updG_same]
        refine ⟨rfl, (show 4 < 1000 by decide), ?_⟩
        refine q _ e he1 he2 he3 ⟨hg.ne, ?_, acc, ?_, hlen, hacc⟩ (fun a h1 h2 => ?_)
        · rw [updG_ne hg.ne.symm, updG_same]
        · rw [updG_same]
          unfold gridF
          rw [es]; rfl
        · rw [updG_ne h1, updG_ne h2, updG_ne h1]
      rcases hdh with rfl | rfl
      all_goals
        show (match atI ((rowI (Y.n + Y.m) (fun j => e * Y.L c g p0 j)).map D.int) (q0 : Int) with | some d => _ | none => _)
        rw [hat]
        exact fin
end
section
variable {P : Program} {w : World} {K : PySem.W.Frag} {mg : Str → Option Value} {base : Heap}
theorem range_get {n j : Nat} {d : D} (h : (rangeD 0 n)[j]? = some d) : j < n ∧ d = .int (j : Int) := by
  unfold rangeD at h
  rw [List.getElem?_map] at h
  rcases Nat.lt_or_ge j n with h1 | h1
  · rw [List.getElem?_range h1] at h
    refine ⟨h1, ?_⟩
    have := Option.some.inj h
    rw [← this]
    show D.int (0 + (j : Int)) = _
    rw [Int.zero_add]
  · rw [List.getElem?_eq_none (by rw [List.length_range]; exact h1)] at h; cases h
theorem range_ln (n : Nat) : (rangeD 0 n).length = n := by simp [rangeD]
def firstX : SpD := fun ds G Q _ => ∃ (line : D) (W n : Nat) (f : Nat → Int), ds = [line, .int n] ∧ SeqI line (rowI W f) ∧ n ≤ W ∧ W ≤ 200 ∧ (∀ q : Nat, q < n → f q ≠ 0 → (∀ j, j < q → f j = 0) → Q (.int q) G) ∧ ((∀ j, j < n → f j = 0) → Q .non G)
theorem dok_first_place (T : Top K mg) : FnD P w K mg base 4 T.a_first_place T.d_first_place ["line", "many"] firstX := by
  refine dfn (k := 3) T.F_first_place scfirst_place (fun ds G Q W h => ?_) (fun cdv A outer s H E B W hr tk => have hx := hx_of tk; ⟨_, (db_cons (ds_for (passes_of rfl) rfl (di_range1 (by rfl) T.z_range (da_cons (dv 1) da_nil)) (dg_name (i := 2) scfirst_place.nd rfl (.inl rfl))
    (db_one (ds_if (dt_cmp (op_neD (Room.units hr)) neI_A (de_ix ix_seq ix_A (dv 0) (dv 2) (fun _ _ => rfl)) de_int (nomark _))
    (db_one (ds_ret (dv 2)))
    db_nil)))
  (db_one (ds_ret de_non))), fun ds G Q h => ?_⟩)
  · obtain ⟨_, _, _, _, rfl, _⟩ := h
    rfl
  · obtain ⟨line, W, n, f, rfl, hs, hn, hW, q1, q2⟩ := h
    refine ⟨⟨by omega, by omega⟩, ?_⟩
    rw [Int.toNat_natCast]
    have hs2 := hs
    rcases hs with rfl | rfl
    · refine for_at (fun j δ G' => G' = G ∧ (∀ i, i < j → f i = 0) ∧ ∃ x, δ = [some (intsD (rowI W f)), some (.int n), x]) (rangeD 0 n) (fun j δ G1 d N hd hI hN => ?_) (fun δ G1 hI => ?_) (rangeD 0 n) 0 _ _ (Nat.zero_le _) rfl ⟨rfl, fun i hi => absurd hi (Nat.not_lt_zero _), none, rfl⟩
      · obtain ⟨rfl, hz, x, rfl⟩ := hI
        obtain ⟨hj, rfl⟩ := range_get hd
        have e1 : atI ((rowI W f).map D.int) (j : Int) = some (.int (f j)) := atI_nat (by rw [List.getElem?_map, rowI_at (by omega)]; rfl)
        show (match atI ((rowI W f).map D.int) (j : Int) with | some d => _ | none => _)
        rw [e1]
        refine ⟨pl_int, pl_int, ?_⟩
        rw [eqvD_int]
        by_cases c : f j = 0
        · rw [decide_eq_true c]
          refine hN _ _ ⟨rfl, fun i hi => ?_, some (.int j), rfl⟩
          rcases Nat.lt_or_ge i j with h1 | h1
          · exact hz i h1
          · have : i = j := by omega
            rw [this]; exact c
        · rw [decide_eq_false c]
          exact q1 j hj c hz
      · obtain ⟨rfl, hz, x, rfl⟩ := hI
        rw [range_ln] at hz
        exact q2 hz
    · refine for_at (fun j δ G' => G' = G ∧ (∀ i, i < j → f i = 0) ∧ ∃ x, δ = [some (lstI (rowI W f)), some (.int n), x]) (rangeD 0 n) (fun j δ G1 d N hd hI hN => ?_) (fun δ G1 hI => ?_) (rangeD 0 n) 0 _ _ (Nat.zero_le _) rfl ⟨rfl, fun i hi => absurd hi (Nat.not_lt_zero _), none, rfl⟩
      · obtain ⟨rfl, hz, x, rfl⟩ := hI
        obtain ⟨hj, rfl⟩ := range_get hd
        have e1 : atI ((rowI W f).map D.int) (j : Int) = some (.int (f j)) := atI_nat (by rw [List.getElem?_map, rowI_at (by omega)]; rfl)
        show (match atI ((rowI W f).map D.int) (j : Int) with | some d => _ | none => _)
        rw [e1]
        refine ⟨pl_int, pl_int, ?_⟩
        rw [eqvD_int]
        by_cases c : f j = 0
        · rw [decide_eq_true c]
          refine hN _ _ ⟨rfl, fun i hi => ?_, some (.int j), rfl⟩
          rcases Nat.lt_or_ge i j with h1 | h1
          · exact hz i h1
          · have : i = j := by omega
            rw [this]; exact c
        · rw [decide_eq_false c]
          exact q1 j hj c hz
      · obtain ⟨rfl, hz, x, rfl⟩ := hI
        rw [range_ln] at hz
        exact q2 hz
inductive ShortI (CG : Addr) (ds : List D) (G : Gm) (Q : QD) : Prop
  | mk (x ph : Addr) (Y : SX.Sys) (c : Nat → Nat) (g : Int) : ds = [.adr x, .int Y.n] → GridOk CG Y c g G x ph → Y.n ≤ 200 →
    (∀ q : Nat, q < Y.n → 0 < Y.L c g Y.m q → (∀ j, j < q → Y.L c g Y.m j ≤ 0) → Q (.int q) G) → ((∀ j, j < Y.n → Y.L c g Y.m j ≤ 0) → Q .non G) → ShortI CG ds G Q
def shortX (CG : Addr) : SpD := fun ds G Q _ => ShortI CG ds G Q
theorem dok_short_place (T : Top K mg) : FnD P w K mg base 4 T.a_short_place T.d_short_place ["grid", "many"] (shortX T.C_Grid) := by
  refine dfn (k := 3) T.F_short_place scshort_place (fun ds G Q W h => ?_) (fun cdv A outer s H E B W hr tk => have hx := hx_of tk; ⟨_, (db_cons (ds_for (passes_of rfl) rfl (di_range1 (by rfl) T.z_range (da_cons (dv 1) da_nil)) (dg_name (i := 2) scshort_place.nd rfl (.inl rfl))
    (db_one (ds_if (dt_cmp op_gt gt_A (de_ix ix_seq ix_A (de_fld (dv 0)) (dv 2) (fun _ _ => rfl)) de_int (nomark _))
    (db_one (ds_ret (dv 2)))
    db_nil)))
  (db_one (ds_ret de_non))), fun ds G Q h => ?_⟩)
  · obtain ⟨_, _, _, _, _, rfl, _⟩ := h
    rfl
  · obtain ⟨x, ph, Y, c, g, rfl, hg, hn, q1, q2⟩ := h
    obtain ⟨ls, hins, -, -⟩ := hg.ins
    refine ⟨⟨by omega, by omega⟩, ?_⟩
    rw [Int.toNat_natCast]
    refine for_at (fun j δ G' => G' = G ∧ (∀ i, i < j → Y.L c g Y.m i ≤ 0) ∧ ∃ z, δ = [some (.adr x), some (.int Y.n), z]) (rangeD 0 Y.n) (fun j δ G1 d N hd hI hN => ?_) (fun δ G1 hI => ?_) (rangeD 0 Y.n) 0 _ _ (Nat.zero_le _) rfl ⟨rfl, fun i hi => absurd hi (Nat.not_lt_zero _), none, rfl⟩
    · obtain ⟨rfl, hz, z, rfl⟩ := hI
      obtain ⟨hj, rfl⟩ := range_get hd
      show (match fldD (.adr x) G1 "gains" with | some y => _ | none => _)
      rw [fld_is hins rfl]
      have e1 : atI ((rowI (Y.n + Y.m) (Y.L c g Y.m)).map D.int) (j : Int) = some (.int (Y.L c g Y.m j)) := atI_nat (by rw [List.getElem?_map, rowI_at (by omega)]; rfl)
      show (match atI ((rowI (Y.n + Y.m) (Y.L c g Y.m)).map D.int) (j : Int) with | some d => _ | none => _)
      rw [e1]
      show (match decide (0 < Y.L c g Y.m j) with | true => _ | false => _)
      by_cases cc : 0 < Y.L c g Y.m j
      · rw [decide_eq_true cc]
        exact q1 j hj cc hz
      · rw [decide_eq_false cc]
        refine hN _ _ ⟨rfl, fun i hi => ?_, some (.int j), rfl⟩
        rcases Nat.lt_or_ge i j with h1 | h1
        · exact hz i h1
        · have : i = j := by omega
          rw [this]; omega
    · obtain ⟨rfl, hz, x, rfl⟩ := hI
      rw [range_ln] at hz
      exact q2 hz
theorem hs_at {Y : SX.Sys} {c : Nat → Nat} {r : Nat} (hr : r < Y.m) (hc : c r < Y.n) : (hsD Y c)[r]? = some (.int (c r)) := by
  unfold hsD
  rw [List.getElem?_map, List.getElem?_range hr]
  show some (if c r < Y.n then D.int (c r) else D.non) = _
  rw [if_pos hc]
def foundD : Option Nat → D
  | none => .non
  | some p => .int p
inductive LeaveI (CG : Addr) (ds : List D) (G : Gm) (Q : QD) : Prop
  | mk (x ph : Addr) (Y : SX.Sys) (c : Nat → Nat) (g : Int) (q : Nat) : ds = [.adr x, .int q] → GridOk CG Y c g G x ph → Y.m ≤ 8 → q < Y.n → (∀ r, r < Y.m → 0 < Y.L c g r q → c r < Y.n) →
    (∀ p : Nat, p < Y.m → 0 < Y.L c g p q → (∀ r, r < Y.m → 0 < Y.L c g r q → c p ≤ c r) → Q (.int p) G) → ((∀ r, r < Y.m → Y.L c g r q ≤ 0) → Q .non G) → LeaveI CG ds G Q
def leavingX (CG : Addr) : SpD := fun ds G Q _ => LeaveI CG ds G Q
theorem dok_leaving_line (T : Top K mg) : FnD P w K mg base 4 T.a_leaving_line T.d_leaving_line ["grid", "place"] (leavingX T.C_Grid) := by
  refine dfn (k := 3) T.F_leaving_line scleaving_line (fun ds G Q W h => ?_) (fun cdv A outer s H E B W hr tk => have hx := hx_of tk; ⟨_, (db_cons (ds_set (i := 2) scleaving_line.nd rfl (.inl rfl) de_non)
  (db_cons (ds_for (passes_of rfl) rfl (di_enumL (by rfl) T.z_enumerate (da_cons (de_fld (dv 0)) da_nil)) (dg_tup (by rfl) (dgs_cons (dg_name (i := 3) scleaving_line.nd rfl (.inl rfl)) (dgs_cons (dg_name (i := 4) scleaving_line.nd rfl (.inl rfl)) dgs_nil)))
    (db_one (ds_if (dw_pt (dw_and (dt_cmp op_gt gt_A (de_ix ix_seq ix_A (dv 4) (dv 1) (fun _ _ => rfl)) de_int (nomark _)) (dw_and1 (dw_pt (dw_or (dt_cmp op_isN isN_A (dv 2) de_non (nomark _)) (dw_or1 (dt_cmp op_lt lt_A (de_ix ix_seq ix_A (de_fld (dv 0)) (dv 3) (fun _ _ => rfl)) (de_ix ix_seq ix_A (de_fld (dv 0)) (dv 2) (fun _ _ => rfl)) (nomark _))))))))
    (db_one (ds_set (i := 2) scleaving_line.nd rfl (.inl rfl) (dv 3)))
    db_nil)))
  (db_one (ds_ret (dv 2))))), fun ds G Q h => ?_⟩)
  · obtain ⟨_, _, _, _, _, _, rfl, _⟩ := h
    rfl
  · obtain ⟨x, ph, Y, c, g, q0, rfl, hg, hm, hq, hh, q1, q2⟩ := h
    obtain ⟨ls, hins, hll, hrow⟩ := hg.ins
    show (match fldD (.adr x) G "lines" with | some y => _ | none => _)
    rw [fld_is hins rfl]
    refine for_at (fun j δ G' => G' = G ∧ ∃ (o : Option Nat) (z1 z2 : Option D), δ = [some (.adr x), some (.int q0), some (foundD o), z1, z2] ∧ (o = none → ∀ r, r < j → Y.L c g r q0 ≤ 0) ∧ (∀ p, o = some p → p < j ∧ 0 < Y.L c g p q0 ∧ ∀ r, r < j → 0 < Y.L c g r q0 → c p ≤ c r)) (enumT ls) (fun j δ G1 d N hd hI hN => ?_) (fun δ G1 hI => ?_) (enumT ls) 0 _ _ (Nat.zero_le _) rfl ⟨rfl, none, none, none, rfl, fun _ r hr => absurd hr (Nat.not_lt_zero _), fun p e => by cases e⟩
    · obtain ⟨rfl, o, z1, z2, rfl, ho1, ho2⟩ := hI
      obtain ⟨ln, hln, rfl⟩ := enum_at hd
      have hj : j < Y.m := by
        have := (List.getElem?_eq_some_iff.1 hln).1
        omega
      obtain ⟨ln', hln2, hsl⟩ := hrow j hj
      rw [hln] at hln2
      obtain rfl := Option.some.inj hln2
      refine ⟨rfl, ?_⟩
      have hsq : seqD (.adr ph) G1 = some (hsD Y c) := by
        show (match G1 ph with | some (.lst ds) => some ds | _ => none) = _
        rw [hg.hol]
      have e1 : atI ((rowI (Y.n + Y.m) (Y.L c g j)).map D.int) (q0 : Int) = some (.int (Y.L c g j q0)) := atI_nat (by rw [List.getElem?_map, rowI_at (by omega)]; rfl)
      rcases hsl with rfl | rfl
      all_goals
        show (match atI ((rowI (Y.n + Y.m) (Y.L c g j)).map D.int) (q0 : Int) with | some d => _ | none => _)
        rw [e1]
        show (match decide (0 < Y.L c g j q0) with | true => _ | false => _)
        by_cases hc : 0 < Y.L c g j q0
        · rw [decide_eq_true hc]
          cases o with
          | none =>
            refine hN _ _ ⟨rfl, some j, some (.int j), some _, rfl, fun e => (by cases e), fun p e => ?_⟩
            cases e
            refine ⟨Nat.lt_succ_self _, hc, fun r hr h1 => ?_⟩
            rcases Nat.lt_or_ge r j with h2 | h2
            · have := ho1 rfl r h2
              omega
            · have : r = j := by omega
              rw [this]; exact Nat.le_refl _
          | some p =>
            obtain ⟨hp1, hp2, hp3⟩ := ho2 p rfl
            have hpm : p < Y.m := by omega
            show (match fldD (.adr x) G1 "holders" with | some y => _ | none => _)
            rw [fld_is hins rfl]
            show (match seqD (.adr ph) G1 with | some ds => _ | none => _)
            rw [hsq]
            show (match atI (hsD Y c) (j : Int) with | some d => _ | none => _)
            rw [atI_nat (hs_at hj (hh j hj hc))]
            show (match fldD (.adr x) G1 "holders" with | some y => _ | none => _)
            rw [fld_is hins rfl]
            show (match seqD (.adr ph) G1 with | some ds => _ | none => _)
            rw [hsq]
            show (match atI (hsD Y c) (p : Int) with | some d => _ | none => _)
            rw [atI_nat (hs_at hpm (hh p hpm hp2))]
            show (match decide (((c j : Nat) : Int) < (c p : Nat)) with | true => _ | false => _)
            by_cases hlt : c j < c p
            · rw [decide_eq_true (by omega)]
              refine hN _ _ ⟨rfl, some j, some (.int j), some _, rfl, fun e => (by cases e), fun p' e => ?_⟩
              cases e
              refine ⟨Nat.lt_succ_self _, hc, fun r hr h1 => ?_⟩
              rcases Nat.lt_or_ge r j with h2 | h2
              · have := hp3 r h2 h1
                omega
              · have : r = j := by omega
                rw [this]; exact Nat.le_refl _
            · rw [decide_eq_false (by omega)]
              refine hN _ _ ⟨rfl, some p, some (.int j), some _, rfl, fun e => (by cases e), fun p' e => ?_⟩
              cases e
              refine ⟨by omega, hp2, fun r hr h1 => ?_⟩
              rcases Nat.lt_or_ge r j with h2 | h2
              · exact hp3 r h2 h1
              · have : r = j := by omega
                rw [this]; omega
        · rw [decide_eq_false hc]
          refine hN _ _ ⟨rfl, o, some (.int j), some _, rfl, fun e r hr => ?_, fun p e => ?_⟩
          · rcases Nat.lt_or_ge r j with h2 | h2
            · exact ho1 e r h2
            · have : r = j := by omega
              rw [this]; omega
          · obtain ⟨hp1, hp2, hp3⟩ := ho2 p e
            refine ⟨by omega, hp2, fun r hr h1 => ?_⟩
            rcases Nat.lt_or_ge r j with h2 | h2
            · exact hp3 r h2 h1
            · have : r = j := by omega
              rw [this] at h1; omega
    · obtain ⟨rfl, o, z1, z2, rfl, ho1, ho2⟩ := hI
      rw [enum_len, hll] at ho1 ho2
      cases o with
      | none => exact q2 (ho1 rfl)
      | some p =>
        obtain ⟨h1, h2, h3⟩ := ho2 p rfl
        exact q1 p h1 h2 h3
end
section
variable {P : Program} {w : World} {K : PySem.W.Frag} {mg : Str → Option Value} {base : Heap}
theorem row_set {n i : Nat} {f : Nat → Int} {v : Int} (hi : i < n) : ((rowI n f).map D.int).set i (.int v) = (rowI n (fun j => if j = i then v else f j)).map D.int := by
  refine List.ext_getElem? fun k => ?_
  rw [List.getElem?_set, List.getElem?_map, List.getElem?_map, List.length_map, rowI_len]
  rcases Nat.lt_or_ge k n with h | h
  · rw [rowI_at h, rowI_at h]
    by_cases e : i = k
    · subst e; rw [if_pos rfl, if_pos h]
      show _ = some (D.int (if i = i then v else f i))
      rw [if_pos rfl]
    · rw [if_neg e]
      show _ = some (D.int (if k = i then v else f k))
      rw [if_neg (fun z => e z.symm)]; rfl
  · rw [List.getElem?_eq_none (by rw [rowI_len]; exact h), List.getElem?_eq_none (by rw [rowI_len]; exact h)]
    by_cases e : i = k
    · omega
    · rw [if_neg e]
def weightsX (CG : Addr) : SpD := fun ds G Q _ => ∃ (x ph : Addr) (Y : SX.Sys) (c : Nat → Nat) (g : Int) (q : Nat), ds = [.adr x, .int q, .int Y.n] ∧ GridOk CG Y c g G x ph ∧ Y.m ≤ 8 ∧ q < Y.n ∧ Y.n ≤ 200 ∧ (∀ r, r < Y.m → Y.L c g r q < 0 → c r < Y.n) ∧
  Q (lstI (rowI Y.n (SX.wAt Y c g q Y.m))) G
theorem dok_clashing_weights (T : Top K mg) : FnD P w K mg base 4 T.a_clashing_weights T.d_clashing_weights ["grid", "place", "many"] (weightsX T.C_Grid) := by
  refine dfn (k := 3) T.F_clashing_weights scclashing_weights (fun ds G Q W h => ?_) (fun cdv A outer s H E B W hr tk => have hx := hx_of tk; ⟨_, (db_cons (ds_setLcF (i := 3) (own := [("_", 6)]) (gV := gName 6) finA_m rfl scclashing_weights.nd rfl rfl (sw_true rfl rfl rfl (by decide +kernel)) (di_range1 (by rfl) T.z_range (da_cons (dv 2) da_nil)) (blkOk_by (own := [("_", 6)]) (N := Nclashing_weights) (sc := defScope sclashing_weights) (by decide +kernel)) (cg_name (i := 6) (by decide)) (fun _ _ _ _ _ => (pg_name (i := 6) scclashing_weights.nd rfl (.inl rfl))) (fun _ _ _ _ _ _ => dts_nil) (fun _ _ _ _ _ _ => de_int))
  (db_cons (ds_asg (de_fld (dv 0)) (dg_set (dv 3) (dv 1)))
  (db_cons (ds_for (passes_of rfl) rfl (di_enumL (by rfl) T.z_enumerate (da_cons (de_fld (dv 0)) da_nil)) (dg_tup (by rfl) (dgs_cons (dg_name (i := 4) scclashing_weights.nd rfl (.inl rfl)) (dgs_cons (dg_name (i := 5) scclashing_weights.nd rfl (.inl rfl)) dgs_nil)))
    (db_one (ds_if (dt_cmp op_lt lt_A (de_ix ix_seq ix_A (dv 5) (dv 1) (fun _ _ => rfl)) de_int (nomark _))
    (db_one (ds_asg (de_neg (de_ix ix_seq ix_A (dv 5) (dv 1) (fun _ _ => rfl))) (dg_set (dv 3) (de_ix ix_seq ix_A (de_fld (dv 0)) (dv 4) (fun _ _ => rfl)))))
    db_nil)))
  (db_one (ds_ret (de_close (dv 3))))))), fun ds G Q h => ?_⟩)
  · obtain ⟨_, _, _, _, _, _, rfl, _⟩ := h
    rfl
  · obtain ⟨x, ph, Y, c, g, q0, rfl, hg, hm, hq, hn, hh, q⟩ := h
    obtain ⟨ls, hins, hll, hrow⟩ := hg.ins
    have el : (rangeD 0 (Y.n : Int).toNat).length = Y.n := by simp [rangeD]
    refine ⟨⟨by omega, by omega⟩, by rw [el]; exact small_size (by omega), lc_map (fun d => .int 0) _ [] (fun e me R hR => hR) ?_⟩
    have ez : ([] ++ (rangeD 0 (Y.n : Int).toNat).map fun _ => D.int 0) = (rowI Y.n (fun _ => 0)).map D.int := by
      rw [List.nil_append]
      unfold rangeD rowI
      rw [List.map_map, List.map_map, Int.toNat_natCast]; rfl
    rw [ez]
    intro a na
    have hax : a ≠ x := fun e => by rw [e, hins] at na; cases na
    have hap : a ≠ ph := fun e => by rw [e, hg.hol] at na; cases na
    have hf : ∀ (m : MO) (f : Str) (y : D), (gridF ls (rowI (Y.n + Y.m) (Y.L c g Y.m)) ph (Y.s c g)).lookup f = some y → fldD (.adr x) (updG G a m) f = some y := fun m f y hy => fld_is ((updG_ne hax.symm).trans hins) hy
    show (match fldD (.adr x) (updG G a _) "scale" with | some y => _ | none => _)
    rw [hf _ _ _ rfl]
    refine ⟨a, q0, (rowI Y.n (fun _ => 0)).map D.int, rfl, rfl, updG_same, by rw [List.length_map, rowI_len]; exact hq, ?_⟩
    rw [updG_updG, row_set hq]
    show (match fldD (.adr x) (updG G a _) "lines" with | some y => _ | none => _)
    rw [hf _ _ _ rfl]
    refine for_at (fun j δ G' => G' = updG G a (.lst ((rowI Y.n (SX.wAt Y c g q0 j)).map D.int)) ∧ ∃ z1 z2 z3, δ = [some (.adr x), some (.int q0), some (.int Y.n), some (.adr a), z1, z2, z3]) (enumT ls) (fun j δ G1 d N hd hI hN => ?_) (fun δ G1 hI => ?_) (enumT ls) 0 _ _ (Nat.zero_le _) rfl ⟨rfl, _, _, _, rfl⟩
    · obtain ⟨rfl, z1, z2, z3, rfl⟩ := hI
      obtain ⟨ln, hln, rfl⟩ := enum_at hd
      have hj : j < Y.m := by
        have := (List.getElem?_eq_some_iff.1 hln).1
        omega
      obtain ⟨ln', hln2, hsl⟩ := hrow j hj
      rw [hln] at hln2
      obtain rfl := Option.some.inj hln2
      refine ⟨rfl, ?_⟩
      have hsq : ∀ m, seqD (.adr ph) (updG G a m) = some (hsD Y c) := fun m => by
        show (match updG G a m ph with | some (.lst ds) => some ds | _ => none) = _
        rw [updG_ne hap.symm, hg.hol]
      have e1 : atI ((rowI (Y.n + Y.m) (Y.L c g j)).map D.int) (q0 : Int) = some (.int (Y.L c g j q0)) := atI_nat (by rw [List.getElem?_map, rowI_at (by omega)]; rfl)
      rcases hsl with rfl | rfl
      all_goals
        show (match atI ((rowI (Y.n + Y.m) (Y.L c g j)).map D.int) (q0 : Int) with | some d => _ | none => _)
        rw [e1]
        show (match decide (Y.L c g j q0 < 0) with | true => _ | false => _)
        by_cases hc : Y.L c g j q0 < 0
        · rw [decide_eq_true hc]
          show (match atI ((rowI (Y.n + Y.m) (Y.L c g j)).map D.int) (q0 : Int) with | some d => _ | none => _)
          rw [e1]
          show (match fldD (.adr x) (updG G a _) "holders" with | some y => _ | none => _)
          rw [hf _ _ _ rfl]
          show (match seqD (.adr ph) (updG G a _) with | some ds => _ | none => _)
          rw [hsq]
          show (match atI (hsD Y c) (j : Int) with | some d => _ | none => _)
          rw [atI_nat (hs_at hj (hh j hj hc))]
          refine ⟨a, c j, _, rfl, rfl, updG_same, by rw [List.length_map, rowI_len]; exact hh j hj hc, ?_⟩
          rw [updG_updG, row_set (hh j hj hc)]
          refine hN _ _ ⟨?_, some (.int j), some _, z3, rfl⟩
          congr 3
          refine rowI_congr fun k _ => ?_
          show (if k = c j then - Y.L c g j q0 else SX.wAt Y c g q0 j k) = if Y.L c g j q0 < 0 ∧ k = c j then - Y.L c g j q0 else SX.wAt Y c g q0 j k
          by_cases e : k = c j
          · rw [if_pos e, if_pos ⟨hc, e⟩]
          · rw [if_neg e, if_neg (fun z => e z.2)]
        · rw [decide_eq_false hc]
          refine hN _ _ ⟨?_, some (.int j), some _, z3, rfl⟩
          congr 3
          refine rowI_congr fun k _ => ?_
          show SX.wAt Y c g q0 j k = if Y.L c g j q0 < 0 ∧ k = c j then - Y.L c g j q0 else SX.wAt Y c g q0 j k
          rw [if_neg (fun z => hc z.1)]
    · obtain ⟨rfl, z1, z2, z3, rfl⟩ := hI
      rw [enum_len, hll]
      refine ⟨a, rfl, ?_⟩
      rw [updG_same]
      show Q (.lst _) (delG (updG G a _) a)
      rw [delG_updG na]
      exact q
end
namespace SX
structure Short (Y : Sys) (g : Int) (c : Nat → Nat) (q : Nat) : Prop where
  lt : q < Y.n
  pos : 0 < Y.L c g Y.m q
  first : ∀ j, j < q → Y.L c g Y.m j ≤ 0
structure Leave (Y : Sys) (g : Int) (c : Nat → Nat) (q p : Nat) : Prop where
  lt : p < Y.m
  pos : 0 < Y.L c g p q
  least : ∀ r, r < Y.m → 0 < Y.L c g r q → c p ≤ c r
theorem Short.uniq {Y : Sys} {g c q q'} (h : Short Y g c q) (h' : Short Y g c q') : q = q' := by
  rcases Nat.lt_trichotomy q q' with h1 | h1 | h1
  · have := h'.first q h1; have := h.pos; omega
  · exact h1
  · have := h.first q' h1; have := h'.pos; omega
theorem Leave.uniq {Y : Sys} {g c q p p'} (ho : Ok Y c g) (h : Leave Y g c q p) (h' : Leave Y g c q p') : p = p' :=
  c_inj ho (Nat.le_of_lt h.lt) (Nat.le_of_lt h'.lt) (Nat.le_antisymm (h.least _ h'.lt h'.pos) (h'.least _ h.lt h.pos))
inductive Out where
  | pt (c : Nat → Nat)
  | cl (c : Nat → Nat) (q : Nat)
open Classical in
noncomputable def go (Y : Sys) (g : Int) : Nat → (Nat → Nat) → Out
  | 0, c => .pt c
  | k + 1, c => if hq : ∃ q, Short Y g c q then (if hp : ∃ p, Leave Y g c hq.choose p then go Y g k (setN c hp.choose hq.choose) else .cl c hq.choose) else .pt c
theorem go_pt {Y : Sys} {g k c} (h : ∀ j, j < Y.n → Y.L c g Y.m j ≤ 0) : go Y g (k + 1) c = .pt c := by
  unfold go
  rw [dif_neg]
  rintro ⟨q, hq⟩
  have := h q hq.lt; have := hq.pos; omega
theorem go_cl {Y : Sys} {g k c q} (hq : Short Y g c q) (h : ∀ r, r < Y.m → Y.L c g r q ≤ 0) : go Y g (k + 1) c = .cl c q := by
  have hx : ∃ q, Short Y g c q := ⟨q, hq⟩
  have e : hx.choose = q := hx.choose_spec.uniq hq
  unfold go
  rw [dif_pos hx, dif_neg, e]
  rintro ⟨p, hp⟩
  rw [e] at hp
  have := h p hp.lt; have := hp.pos; omega
open Classical in
theorem go_step {Y : Sys} {g k c q p} (ho : Ok Y c g) (hq : Short Y g c q) (hp : Leave Y g c q p) : go Y g (k + 1) c = go Y g k (setN c p q) := by
  have hx : ∃ q, Short Y g c q := ⟨q, hq⟩
  have e : hx.choose = q := hx.choose_spec.uniq hq
  have hy : ∃ p, Leave Y g c hx.choose p := ⟨p, by rw [e]; exact hp⟩
  have e2 : hy.choose = p := Leave.uniq ho hy.choose_spec (by rw [e]; exact hp)
  rw [show go Y g (k + 1) c = (if hq : ∃ q, Short Y g c q then (if hp : ∃ p, Leave Y g c hq.choose p then go Y g k (setN c hp.choose hq.choose) else .cl c hq.choose) else .pt c) from rfl]
  rw [dif_pos hx, dif_pos hy, e2, e]
theorem step_of {Y : Sys} {g c q p} (hq : Short Y g c q) (hp : Leave Y g c q p) : Step Y g c p q := ⟨hp.lt, hq.lt, hq.pos, hq.first, hp.pos, hp.least⟩
/-- rows without a bound are empty -/
def Holds0 (Y : Sys) (c : Nat → Nat) (g : Int) (k : Nat) : Prop := ∀ i, i < k → Y.n ≤ c i → ∀ j, j < Y.n → Y.L c g i j = 0
theorem zero_keep {Y : Sys} {c g p q e i j} (h : Ok Y c g) (hp : p < Y.m) (hq : q < Y.n) (he : e * e = 1) (ht : 0 < e * Y.L c g p q) (hi : i < Y.m) (hip : i ≠ p) (hz : ∀ j, j < Y.n → Y.L c g i j = 0) (hj : j < Y.n) : Y.L (setN c p q) (e * g) i j = 0 := by
  have h1 := (L_step h hp hq e he ht).2.2.2 i j (by omega) hip
  rw [hz j hj, hz q hq, Int.zero_mul, Int.zero_mul] at h1
  have := h.pos
  rcases Int.mul_eq_zero.1 h1 with h2 | h2 <;> omega
theorem holds_keep {Y : Sys} {c g p q e k} (h : Ok Y c g) (hp : p < Y.m) (hq : q < Y.n) (he : e * e = 1) (ht : 0 < e * Y.L c g p q) (hk : k ≤ Y.m) (hz : Holds0 Y c g k) : Holds0 Y (setN c p q) (e * g) k := by
  intro i hi hci j hj
  by_cases hip : i = p
  · subst hip
    unfold setN at hci; rw [if_pos rfl] at hci; omega
  · refine zero_keep h hp hq he ht (by omega) hip (hz i hi ?_) hj
    unfold setN at hci; rw [if_neg hip] at hci; exact hci
def sgI (x : Int) : Int := if 0 < x then 1 else -1
theorem sgI_of {e x : Int} (he : e * e = 1) (h : 0 < e * x) : e = sgI x := by
  have h1 : e = 1 ∨ e = -1 := by
    have : e.natAbs * e.natAbs = 1 := by rw [← Int.natAbs_mul, he]; rfl
    have := Nat.eq_one_of_mul_eq_one_left this
    omega
  unfold sgI
  rcases h1 with h1 | h1
  · subst h1; rw [if_pos (by omega)]
  · subst h1; rw [if_neg (by omega)]
structure Put (Y : Sys) (s : (Nat → Nat) × Int) (r q : Nat) : Prop where
  lt : q < Y.n
  ne : Y.L s.1 s.2 r q ≠ 0
  first : ∀ j, j < q → Y.L s.1 s.2 r j = 0
theorem Put.uniq {Y : Sys} {s r q q'} (h : Put Y s r q) (h' : Put Y s r q') : q = q' := by
  rcases Nat.lt_trichotomy q q' with h1 | h1 | h1
  · exact absurd (h'.first q h1) h.ne
  · exact h1
  · exact absurd (h.first q' h1) h'.ne
open Classical in
noncomputable def ph (Y : Sys) : Nat → (Nat → Nat) × Int
  | 0 => (c0 Y, 1)
  | r + 1 => if h : ∃ q, Put Y (ph Y r) r q then (setN (ph Y r).1 r h.choose, sgI (Y.L (ph Y r).1 (ph Y r).2 r h.choose) * (ph Y r).2) else ph Y r
open Classical in
theorem ph_put {Y : Sys} {r q} (h : Put Y (ph Y r) r q) : ph Y (r + 1) = (setN (ph Y r).1 r q, sgI (Y.L (ph Y r).1 (ph Y r).2 r q) * (ph Y r).2) := by
  have hx : ∃ q, Put Y (ph Y r) r q := ⟨q, h⟩
  have e : hx.choose = q := hx.choose_spec.uniq h
  rw [show ph Y (r + 1) = (if h : ∃ q, Put Y (ph Y r) r q then (setN (ph Y r).1 r h.choose, sgI (Y.L (ph Y r).1 (ph Y r).2 r h.choose) * (ph Y r).2) else ph Y r) from rfl, dif_pos hx, e]
open Classical in
theorem ph_none {Y : Sys} {r} (h : ∀ j, j < Y.n → Y.L (ph Y r).1 (ph Y r).2 r j = 0) : ph Y (r + 1) = ph Y r := by
  rw [show ph Y (r + 1) = (if h : ∃ q, Put Y (ph Y r) r q then (setN (ph Y r).1 r h.choose, sgI (Y.L (ph Y r).1 (ph Y r).2 r h.choose) * (ph Y r).2) else ph Y r) from rfl, dif_neg]
  rintro ⟨q, hq⟩
  exact hq.ne (h q hq.lt)
/-- the end of it all -/
noncomputable def outOf (Y : Sys) : Out := go Y (ph Y Y.m).2 (2 ^ (Y.n + Y.m) + 1) (ph Y Y.m).1
/-- what an end is good for -/
structure EndPt (Y : Sys) (g : Int) (c : Nat → Nat) : Prop where
  ok : Ok Y c g
  all : ∀ j, j < Y.n → Y.L c g Y.m j ≤ 0
structure EndCl (Y : Sys) (g : Int) (c : Nat → Nat) (q : Nat) : Prop where
  ok : Ok Y c g
  h0 : Holds0 Y c g Y.m
  sh : Short Y g c q
  neg : ∀ r, r < Y.m → Y.L c g r q ≤ 0
end SX
def holds (b : Bool) (v : Int) : Bool := if b = true then decide (0 < v) else decide (0 ≤ v)
def dot (ns ms : List Int) : Int := ((ns.zip ms).map fun p => p.1 * p.2).sum
theorem low_mul (f : List Int) : ∃ g : Int, 0 < g ∧ f = (lowI f).map fun x => g * x := by
  unfold lowI
  by_cases c : 1 < gcdL f
  · refine ⟨gcdL f, by omega, ?_⟩
    rw [List.map_map]
    conv => lhs; rw [← List.map_id f]
    refine List.map_congr_left fun n hn => ?_
    show n = (gcdL f : Int) * (if 1 < gcdL f then n / (gcdL f : Int) else n)
    rw [if_pos c]
    have h1 : gcdL f ∣ n.natAbs := gcd_fold_dvd.2 n hn
    have h2 : (gcdL f : Int) ∣ n := Int.ofNat_dvd_left.mpr h1
    exact (Int.mul_ediv_cancel' h2).symm
  · refine ⟨1, by omega, ?_⟩
    rw [List.map_map]
    conv => lhs; rw [← List.map_id f]
    refine List.map_congr_left fun n hn => ?_
    show n = 1 * (if 1 < gcdL f then n / (gcdL f : Int) else n)
    rw [if_neg c, Int.one_mul]
theorem lowI_len (f : List Int) : (lowI f).length = f.length := List.length_map _
theorem lowI_bits {b : Nat} {f : List Int} (h : Bits b f) : Bits b (lowI f) := fun x hx => by
  unfold lowI at hx
  obtain ⟨n, hn, rfl⟩ := List.mem_map.1 hx
  have := h n hn
  show (if 1 < gcdL f then n / (gcdL f : Int) else n).natAbs < 2 ^ b
  split
  · exact Nat.lt_of_le_of_lt (Int.natAbs_ediv_le_natAbs n _) this
  · exact this
theorem sum_row (n : Nat) (f : Nat → Int) : (rowI n f).sum = SX.sumN n f := by
  unfold rowI
  induction n with
  | zero => rfl
  | succ n ih =>
    rw [List.range_succ, List.map_append, List.sum_append, ih]
    show SX.sumN n f + (f n + 0) = SX.sumN n f + f n
    omega
theorem row_of (ns : List Int) : ns = rowI ns.length (fun k => ns.getD k 0) := by
  refine List.ext_getElem? fun i => ?_
  rcases Nat.lt_or_ge i ns.length with h | h
  · rw [rowI_at h, List.getD_eq_getElem?_getD, List.getElem?_eq_getElem h]; rfl
  · rw [List.getElem?_eq_none h, List.getElem?_eq_none (by rw [rowI_len]; exact h)]
theorem dot_sumN {ns ms : List Int} {m : Nat} (h1 : ns.length = m) (h2 : ms.length = m) : dot ns ms = SX.sumN m (fun k => ns.getD k 0 * ms.getD k 0) := by
  rw [← sum_row]
  unfold dot
  congr 1
  refine List.ext_getElem? fun i => ?_
  rcases Nat.lt_or_ge i m with h | h
  · have hz : (ns.zip ms)[i]? = some (ns[i]'(by omega), ms[i]'(by omega)) := List.getElem?_zip_eq_some.2 ⟨List.getElem?_eq_getElem (by omega : i < ns.length), List.getElem?_eq_getElem (by omega : i < ms.length)⟩
    rw [rowI_at h, List.getElem?_map, hz, List.getD_eq_getElem?_getD, List.getD_eq_getElem?_getD, List.getElem?_eq_getElem (by omega : i < ns.length), List.getElem?_eq_getElem (by omega : i < ms.length)]; rfl
  · rw [List.getElem?_eq_none (by rw [List.length_map, List.length_zip]; omega), List.getElem?_eq_none (by rw [rowI_len]; exact h)]
theorem getD_map (f : Int → Int) (h0 : f 0 = 0) (ns : List Int) (k : Nat) : (ns.map f).getD k 0 = f (ns.getD k 0) := by
  rw [List.getD_eq_getElem?_getD, List.getD_eq_getElem?_getD, List.getElem?_map]
  cases ns[k]? with
  | none => exact h0.symm
  | some x => rfl
theorem dot_mulR {ns ms : List Int} (g : Int) (h : ns.length = ms.length) : dot ns (ms.map fun x => g * x) = g * dot ns ms := by
  rw [dot_sumN (m := ns.length) rfl (by rw [List.length_map]; exact h.symm), dot_sumN (m := ns.length) rfl h.symm, ← SX.sumN_mul]
  refine SX.sumN_congr _ fun k _ => ?_
  rw [getD_map _ (Int.mul_zero g), Int.mul_left_comm]
theorem row_getD {n k : Nat} {f : Nat → Int} (h : k < n) : (rowI n f).getD k 0 = f k := by
  rw [List.getD_eq_getElem?_getD, rowI_at h]; rfl
abbrev Bds := List (List Int × Bool)
def fsOf (bs : Bds) : List (List Int) := bs.map (·.1)
def gsOf (bs : Bds) : List Int := bs.map fun p => if p.2 = true then 1 else 0
def sysB (bs : Bds) (m : Nat) : SX.Sys := sysOf (fsOf bs) (gsOf bs) m
theorem fs_len (bs : Bds) : (fsOf bs).length = bs.length := List.length_map _
theorem sysB_n (bs : Bds) (m : Nat) : (sysB bs m).n = bs.length := fs_len bs
theorem sysB_f {bs : Bds} {m j k : Nat} {p} (hj : bs[j]? = some p) (hk : k < m) : (sysB bs m).b j k = p.1.getD k 0 := by
  have hl := (List.getElem?_eq_some_iff.1 hj).1
  show colB (fsOf bs) (gsOf bs) m j k = _
  rw [colB_f (by rw [fs_len]; exact hl) hk]
  unfold fsOf
  rw [List.getD_eq_getElem?_getD (l := List.map _ _), List.getElem?_map, hj]; rfl
theorem sysB_g {bs : Bds} {m j : Nat} {p} (hj : bs[j]? = some p) : (sysB bs m).b j m = if p.2 = true then 1 else 0 := by
  have hl := (List.getElem?_eq_some_iff.1 hj).1
  show colB (fsOf bs) (gsOf bs) m j m = _
  rw [colB_g (by rw [fs_len]; exact hl)]
  unfold gsOf
  rw [List.getD_eq_getElem?_getD, List.getElem?_map, hj]; rfl
structure PointOk (bs : Bds) (m : Nat) (xs : List Int) : Prop where
  len : xs.length = m
  all : ∀ p ∈ bs, holds p.2 (dot p.1 xs) = true
structure ClashOk (bs : Bds) (m : Nat) (ws : List Int) : Prop where
  len : ws.length = bs.length
  nn : ∀ x ∈ ws, 0 ≤ x
  zero : ∀ k, k < m → ((ws.zip bs).map fun p => p.1 * p.2.1.getD k 0).sum = 0
  strict : ∃ p ∈ ws.zip bs, p.2.2 = true ∧ 0 < p.1
def ptOf (bs : Bds) (m : Nat) (g : Int) (c : Nat → Nat) : List Int := rowI m fun k => - (sysB bs m).L c g m (bs.length + k)
theorem point_ok {bs : Bds} {m : Nat} {g c} (hb : ∀ p ∈ bs, p.1.length = m) (h : SX.EndPt (sysB bs m) g c) : PointOk bs m (lowI (ptOf bs m g c)) := by
  obtain ⟨G, hG, e⟩ := low_mul (ptOf bs m g c)
  refine ⟨by rw [lowI_len]; exact rowI_len _ _, fun p hp => ?_⟩
  obtain ⟨j, hj⟩ := List.mem_iff_getElem?.1 hp
  have hjl := (List.getElem?_eq_some_iff.1 hj).1
  have h1 := SX.point_right h.ok j (h.all j (by rw [sysB_n]; exact hjl))
  have hm : (sysB bs m).m = m := rfl
  rw [hm, sysB_g hj, sysB_n] at h1
  have h2 : dot p.1 (ptOf bs m g c) = SX.sumN m (fun k => (sysB bs m).b j k * -(sysB bs m).L c g m (bs.length + k)) := by
    rw [dot_sumN (hb p hp) (show (ptOf bs m g c).length = m from rowI_len _ _)]
    refine SX.sumN_congr _ fun k hk => ?_
    rw [sysB_f hj hk]; unfold ptOf; rw [row_getD hk]
  have h3 : dot p.1 (ptOf bs m g c) = G * dot p.1 (lowI (ptOf bs m g c)) := by
    conv => lhs; rw [e]
    rw [dot_mulR G (by rw [hb p hp, lowI_len]; exact (rowI_len _ _).symm)]
  rw [← h2, h3] at h1
  have hs := h.ok.pos
  unfold holds
  cases hp2 : p.2 with
  | true =>
    rw [if_pos rfl]
    rw [hp2, if_pos rfl] at h1
    refine decide_eq_true ?_
    rcases Int.lt_or_le 0 (dot p.1 (lowI (ptOf bs m g c))) with h4 | h4
    · exact h4
    · have := Int.mul_le_mul_of_nonneg_left h4 (Int.le_of_lt hG)
      rw [Int.mul_zero] at this; omega
  | false =>
    rw [if_neg (by decide)]
    rw [hp2, if_neg (by decide), Int.mul_zero] at h1
    refine decide_eq_true ?_
    rcases Int.lt_or_le (dot p.1 (lowI (ptOf bs m g c))) 0 with h4 | h4
    · have := Int.mul_neg_of_pos_of_neg hG h4
      omega
    · exact h4
theorem sum_zip {α : Type} {ws : List Int} {bs : List α} {n : Nat} (f : Int × α → Int) (F : Nat → Int) (h1 : ws.length = n) (h2 : bs.length = n) (hF : ∀ (j : Nat) p, j < n → bs[j]? = some p → F j = f (ws.getD j 0, p)) : ((ws.zip bs).map f).sum = SX.sumN n F := by
  rw [← sum_row]
  congr 1
  refine List.ext_getElem? fun i => ?_
  rcases Nat.lt_or_ge i n with h | h
  · have hb : bs[i]? = some (bs[i]'(by omega)) := List.getElem?_eq_getElem (by omega)
    have hz : (ws.zip bs)[i]? = some (ws[i]'(by omega), bs[i]'(by omega)) := List.getElem?_zip_eq_some.2 ⟨List.getElem?_eq_getElem (by omega : i < ws.length), hb⟩
    rw [rowI_at h, List.getElem?_map, hz, hF i _ h hb, List.getD_eq_getElem?_getD, List.getElem?_eq_getElem (by omega : i < ws.length)]; rfl
  · rw [List.getElem?_eq_none (by rw [List.length_map, List.length_zip]; omega), List.getElem?_eq_none (by rw [rowI_len]; exact h)]
theorem sumN_pos : ∀ (n : Nat) (f : Nat → Int), 0 < SX.sumN n f → ∃ j, j < n ∧ 0 < f j
  | 0, _, h => absurd h (by show ¬ (0 : Int) < 0; omega)
  | n + 1, f, h => by
    rcases Int.lt_or_le 0 (f n) with h1 | h1
    · exact ⟨n, by omega, h1⟩
    · have : 0 < SX.sumN n f := by
        have : SX.sumN (n + 1) f = SX.sumN n f + f n := rfl
        omega
      obtain ⟨j, hj, hf⟩ := sumN_pos n f this
      exact ⟨j, by omega, hf⟩
def wtOf (bs : Bds) (m : Nat) (g : Int) (c : Nat → Nat) (q : Nat) : List Int := rowI bs.length (SX.wAt (sysB bs m) c g q m)
theorem clash_ok {bs : Bds} {m : Nat} {g c q} (h : SX.EndCl (sysB bs m) g c q) : ClashOk bs m (lowI (wtOf bs m g c q)) := by
  obtain ⟨G, hG, e⟩ := low_mul (wtOf bs m g c q)
  have hl : (lowI (wtOf bs m g c q)).length = bs.length := by rw [lowI_len]; exact rowI_len _ _
  have hin : ∀ r, r < (sysB bs m).m → (sysB bs m).L c g r q < 0 → c r < (sysB bs m).n := fun r hr hneg => by
    rcases Nat.lt_or_ge (c r) (sysB bs m).n with h1 | h1
    · exact h1
    · have := h.h0 r hr h1 q h.sh.lt; omega
  obtain ⟨h1, h2⟩ := SX.clash_right h.ok h.sh.lt h.sh.pos h.neg hin
  have hm : (sysB bs m).m = m := rfl
  rw [hm, sysB_n] at h1 h2
  have hw : ∀ j, j < bs.length → SX.wAt (sysB bs m) c g q m j = G * (lowI (wtOf bs m g c q)).getD j 0 := fun j hj => by
    have : (wtOf bs m g c q).getD j 0 = SX.wAt (sysB bs m) c g q m j := row_getD hj
    rw [← this]
    conv => lhs; rw [e]
    rw [getD_map _ (Int.mul_zero G)]
  refine ⟨hl, fun x hx => ?_, fun k hk => ?_, ?_⟩
  · obtain ⟨j, hj⟩ := List.mem_iff_getElem?.1 hx
    have hjl := (List.getElem?_eq_some_iff.1 hj).1
    have h3 := hw j (by omega)
    rw [List.getD_eq_getElem?_getD, hj] at h3
    have h4 := SX.wAt_nonneg (q := q) h.ok m j
    rw [h3] at h4
    rcases Int.lt_or_le x 0 with h5 | h5
    · have := Int.mul_neg_of_pos_of_neg hG h5
      have h6 : 0 ≤ G * x := h4
      omega
    · exact h5
  · rw [sum_zip (n := bs.length) _ (fun j => (lowI (wtOf bs m g c q)).getD j 0 * (sysB bs m).b j k) hl rfl (fun j p _ hp => by rw [sysB_f hp hk])]
    have h3 := h1 k hk
    rw [SX.sumN_congr _ (fun j hj => by rw [hw j hj, Int.mul_assoc]), SX.sumN_mul] at h3
    rcases Int.mul_eq_zero.1 h3 with h4 | h4
    · omega
    · exact h4
  · obtain ⟨j, hj, hpos⟩ := sumN_pos _ _ h2
    have hjb : bs[j]? = some (bs[j]'hj) := List.getElem?_eq_getElem hj
    have hjw : (lowI (wtOf bs m g c q))[j]? = some ((lowI (wtOf bs m g c q))[j]'(by omega)) := List.getElem?_eq_getElem (by omega)
    refine ⟨((lowI (wtOf bs m g c q))[j]'(by omega), bs[j]'hj), List.mem_of_getElem? (List.getElem?_zip_eq_some.2 ⟨hjw, hjb⟩), ?_⟩
    rw [sysB_g hjb] at hpos
    have hw2 := hw j hj
    rw [List.getD_eq_getElem?_getD, hjw] at hw2
    cases hp2 : (bs[j]'hj).2 with
    | false => rw [hp2, if_neg (by decide), Int.mul_zero] at hpos; omega
    | true =>
      refine ⟨rfl, ?_⟩
      rw [hp2, if_pos rfl, Int.mul_one, hw2] at hpos
      show 0 < (lowI (wtOf bs m g c q))[j]'(by omega)
      rcases Int.lt_or_le 0 ((lowI (wtOf bs m g c q))[j]'(by omega)) with h5 | h5
      · exact h5
      · have h6 := Int.mul_le_mul_of_nonneg_left h5 (Int.le_of_lt hG)
        rw [Int.mul_zero] at h6
        have h7 : 0 < G * ((lowI (wtOf bs m g c q))[j]'(by omega)) := hpos
        omega
namespace SX
theorem least_or (p : Nat → Prop) : ∀ n, (∀ j, j < n → ¬ p j) ∨ ∃ q, q < n ∧ p q ∧ ∀ j, j < q → ¬ p j
  | 0 => .inl fun j h => absurd h (Nat.not_lt_zero _)
  | n + 1 => by
    rcases least_or p n with h | ⟨q, h1, h2, h3⟩
    · by_cases hp : p n
      · exact .inr ⟨n, Nat.lt_succ_self _, hp, h⟩
      · refine .inl fun j hj => ?_
        rcases Nat.lt_or_ge j n with h4 | h4
        · exact h j h4
        · have : j = n := by omega
          rw [this]; exact hp
    · exact .inr ⟨q, by omega, h2, h3⟩
theorem min_or (p : Nat → Prop) (c : Nat → Nat) : ∀ m, (∀ r, r < m → ¬ p r) ∨ ∃ q, q < m ∧ p q ∧ ∀ r, r < m → p r → c q ≤ c r
  | 0 => .inl fun j h => absurd h (Nat.not_lt_zero _)
  | m + 1 => by
    rcases min_or p c m with h | ⟨q, h1, h2, h3⟩
    · by_cases hp : p m
      · refine .inr ⟨m, Nat.lt_succ_self _, hp, fun r hr hpr => ?_⟩
        rcases Nat.lt_or_ge r m with h4 | h4
        · exact absurd hpr (h r h4)
        · have : r = m := by omega
          rw [this]; exact Nat.le_refl _
      · refine .inl fun j hj => ?_
        rcases Nat.lt_or_ge j m with h4 | h4
        · exact h j h4
        · have : j = m := by omega
          rw [this]; exact hp
    · by_cases hp : p m ∧ c m < c q
      · refine .inr ⟨m, Nat.lt_succ_self _, hp.1, fun r hr hpr => ?_⟩
        rcases Nat.lt_or_ge r m with h4 | h4
        · have := h3 r h4 hpr; have := hp.2; omega
        · have : r = m := by omega
          rw [this]; exact Nat.le_refl _
      · refine .inr ⟨q, by omega, h2, fun r hr hpr => ?_⟩
        rcases Nat.lt_or_ge r m with h4 | h4
        · exact h3 r h4 hpr
        · have : r = m := by omega
          subst this
          rcases Nat.lt_or_ge (c r) (c q) with h5 | h5
          · exact absurd ⟨hpr, h5⟩ hp
          · exact h5
theorem short_or (Y : Sys) (g : Int) (c : Nat → Nat) : (∀ j, j < Y.n → Y.L c g Y.m j ≤ 0) ∨ ∃ q, Short Y g c q := by
  rcases least_or (fun j => 0 < Y.L c g Y.m j) Y.n with h | ⟨q, h1, h2, h3⟩
  · exact .inl fun j hj => by have := h j hj; omega
  · exact .inr ⟨q, h1, h2, fun j hj => by have := h3 j hj; omega⟩
theorem leave_or (Y : Sys) (g : Int) (c : Nat → Nat) (q : Nat) : (∀ r, r < Y.m → Y.L c g r q ≤ 0) ∨ ∃ p, Leave Y g c q p := by
  rcases min_or (fun r => 0 < Y.L c g r q) c Y.m with h | ⟨p, h1, h2, h3⟩
  · exact .inl fun j hj => by have := h j hj; omega
  · exact .inr ⟨p, h1, h2, h3⟩
def OutOk (Y : Sys) (g : Int) : Out → Prop
  | .pt c => EndPt Y g c
  | .cl c q => EndCl Y g c q
theorem step_ok {Y : Sys} {g c q p} (ho : Ok Y c g) (h0 : Holds0 Y c g Y.m) (hq : Short Y g c q) (hp : Leave Y g c q p) : Ok Y (setN c p q) g ∧ Holds0 Y (setN c p q) g Y.m := by
  have h1 := L_step ho hp.lt hq.lt 1 rfl (by have := hp.pos; omega)
  have h2 := holds_keep (e := 1) ho hp.lt hq.lt rfl (by have := hp.pos; omega) (Nat.le_refl _) h0
  rw [Int.one_mul] at h1 h2
  exact ⟨h1.1, h2⟩
theorem go_ok {Y : Sys} {g : Int} : ∀ k c, Ends Y g k c → Ok Y c g → Holds0 Y c g Y.m → OutOk Y g (go Y g (k + 1) c)
  | 0, c, he, ho, _ => (ends_zero he ho).elim
  | k + 1, c, he, ho, h0 => by
    rcases short_or Y g c with h | ⟨q, hq⟩
    · rw [go_pt h]; exact ⟨ho, h⟩
    · rcases leave_or Y g c q with h | ⟨p, hp⟩
      · rw [go_cl hq h]; exact ⟨ho, h0, hq, h⟩
      · rw [go_step ho hq hp]
        obtain ⟨h1, h2⟩ := step_ok ho h0 hq hp
        exact go_ok k _ (ends_step he ho (step_of hq hp)) h1 h2
theorem put_or (Y : Sys) (s : (Nat → Nat) × Int) (r : Nat) : (∀ j, j < Y.n → Y.L s.1 s.2 r j = 0) ∨ ∃ q, Put Y s r q := by
  rcases least_or (fun j => Y.L s.1 s.2 r j ≠ 0) Y.n with h | ⟨q, h1, h2, h3⟩
  · exact .inl fun j hj => Classical.byContradiction (h j hj)
  · exact .inr ⟨q, h1, h2, fun j hj => Classical.byContradiction (h3 j hj)⟩
theorem sgI_sq (x : Int) : sgI x * sgI x = 1 := by unfold sgI; split <;> rfl
theorem sgI_pos {x : Int} (h : x ≠ 0) : 0 < sgI x * x := by unfold sgI; split <;> omega
theorem ph_ok (Y : Sys) : ∀ r, r ≤ Y.m → Ok Y (ph Y r).1 (ph Y r).2 ∧ Holds0 Y (ph Y r).1 (ph Y r).2 r
  | 0, _ => ⟨(ok0 Y).1, fun i hi => absurd hi (Nat.not_lt_zero _)⟩
  | r + 1, hr => by
    obtain ⟨h1, h2⟩ := ph_ok Y r (by omega)
    rcases put_or Y (ph Y r) r with h | ⟨q, hq⟩
    · rw [ph_none h]
      refine ⟨h1, fun i hi hc => ?_⟩
      rcases Nat.lt_or_ge i r with h4 | h4
      · exact h2 i h4 hc
      · have : i = r := by omega
        rw [this]; exact h
    · rw [ph_put hq]
      have hs := L_step h1 (show r < Y.m by omega) hq.lt _ (sgI_sq _) (sgI_pos hq.ne)
      have hk := holds_keep h1 (show r < Y.m by omega) hq.lt (sgI_sq _) (sgI_pos hq.ne) (show r ≤ Y.m by omega) h2
      refine ⟨hs.1, fun i hi hc => ?_⟩
      rcases Nat.lt_or_ge i r with h4 | h4
      · exact hk i h4 hc
      · have e : i = r := by omega
        subst e
        have : setN (ph Y i).1 i q i = q := by unfold setN; rw [if_pos rfl]
        have hc' : Y.n ≤ setN (ph Y i).1 i q i := hc
        rw [this] at hc'
        have := hq.lt; omega
theorem out_ok (Y : Sys) : OutOk Y (ph Y Y.m).2 (outOf Y) := by
  obtain ⟨h1, h2⟩ := ph_ok Y Y.m (Nat.le_refl _)
  exact go_ok _ _ (ends_all _) h1 h2
end SX
/-- what settled gives -/
noncomputable def ptL (bs : Bds) (m : Nat) (CP CC : Addr) : SX.Out → D
  | .pt c => .ins CP [("counts", intsD (lowI (ptOf bs m (SX.ph (sysB bs m) m).2 c)))]
  | .cl c q => .ins CC [("weights", intsD (lowI (wtOf bs m (SX.ph (sysB bs m) m).2 c q)))]
noncomputable def resD (CP CC : Addr) (bs : Bds) (m : Nat) : D := ptL bs m CP CC (SX.outOf (sysB bs m))
def ResOk (CP CC : Addr) (bs : Bds) (m : Nat) (d : D) : Prop :=
  (∃ xs, d = .ins CP [("counts", intsD xs)] ∧ PointOk bs m xs ∧ Bits 1900 xs) ∨ (∃ ws, d = .ins CC [("weights", intsD ws)] ∧ ClashOk bs m ws ∧ Bits 1900 ws)
structure GoodBs (bs : Bds) (m : Nat) : Prop where
  m8 : m ≤ 8
  n80 : bs.length ≤ 80
  len : ∀ p ∈ bs, p.1.length = m
  bits : ∀ p ∈ bs, ∀ x ∈ p.1, x.natAbs ≤ 2 ^ 200
theorem low8 {bs : Bds} {m : Nat} (h : GoodBs bs m) : SX.Low8 (sysB bs m) := by
  refine ⟨h.m8, by rw [sysB_n]; have := h.n80; omega, fun j k => ?_⟩
  have z : (0 : Int).natAbs ≤ 2 ^ 200 := Nat.zero_le _
  have o : (1 : Int).natAbs ≤ 2 ^ 200 := Nat.pow_le_pow_right (n := 2) (i := 0) (by decide) (by decide)
  rcases Nat.lt_or_ge j bs.length with hj | hj
  · have hjb : bs[j]? = some (bs[j]'hj) := List.getElem?_eq_getElem hj
    rcases Nat.lt_trichotomy k m with hk | hk | hk
    · rw [sysB_f hjb hk, List.getD_eq_getElem?_getD]
      cases e : (bs[j]'hj).1[k]? with
      | none => exact z
      | some x => exact h.bits _ (List.getElem_mem hj) x (List.mem_of_getElem? e)
    · rw [hk, sysB_g hjb]; split
      · exact o
      · exact z
    · rw [(sysB bs m).low j k (show m + 1 ≤ k by omega)]; exact z
  · show (colB (fsOf bs) (gsOf bs) m j k).natAbs ≤ _
    unfold colB
    rw [if_neg (by rw [fs_len]; omega)]; split
    · exact o
    · exact z
theorem pt_bits {bs : Bds} {m : Nat} (h : GoodBs bs m) {g c} (hg : g * g = 1) : Bits 1900 (ptOf bs m g c) := fun x hx => by
  unfold ptOf rowI at hx
  obtain ⟨j, _, rfl⟩ := List.mem_map.1 hx
  rw [Int.natAbs_neg]
  exact SX.L_low (low8 h) hg _ _
theorem wAt_low {Y : SX.Sys} (hl : SX.Low8 Y) {c g q} (hg : g * g = 1) : ∀ k j, (SX.wAt Y c g q k j).natAbs < 2 ^ 1900
  | 0, j => by
    unfold SX.wAt; split
    · exact SX.s_low hl hg
    · exact Nat.pow_pos (by decide)
  | k + 1, j => by
    unfold SX.wAt; split
    · rw [Int.natAbs_neg]; exact SX.L_low hl hg _ _
    · exact wAt_low hl hg k j
theorem wt_bits {bs : Bds} {m : Nat} (h : GoodBs bs m) {g c q} (hg : g * g = 1) : Bits 1900 (wtOf bs m g c q) := fun x hx => by
  unfold wtOf rowI at hx
  obtain ⟨j, _, rfl⟩ := List.mem_map.1 hx
  exact wAt_low (low8 h) hg _ _
theorem res_ok {CP CC : Addr} {bs : Bds} {m : Nat} (hb : GoodBs bs m) : ResOk CP CC bs m (resD CP CC bs m) := by
  have h := SX.out_ok (sysB bs m)
  have hg := (SX.ph_ok (sysB bs m) m (Nat.le_refl _)).1.g1
  unfold resD
  cases e : SX.outOf (sysB bs m) with
  | pt c => rw [e] at h; exact .inl ⟨_, rfl, point_ok hb.len h, lowI_bits (pt_bits hb hg)⟩
  | cl c q => rw [e] at h; exact .inr ⟨_, rfl, clash_ok h, lowI_bits (wt_bits hb hg)⟩
section
variable {P : Program} {w : World} {K : PySem.W.Frag} {mg : Str → Option Value} {base : Heap}
theorem paper_ok {C x : Addr} {f : Str} {G : Gm} {R : QD} {W : WD} {ns : List Int} (hl : ns.length ≤ 1000) (q : R .non (updG G x (.ins C [(f, intsD ns)]))) : paperInit C f [.adr x, intsD ns] (updG G x (.ins C [])) R W :=
  ⟨x, _, _, rfl, updG_same, cp_ints 2 hl, by rw [updG_updG]; exact q⟩
theorem ins_is {x C : Addr} {fs : List (Str × D)} {G : Gm} (hG : G x = some (.ins C fs)) : insD (.adr x) G = some (C, fs) := by
  show (match G x with | some (.ins C fs) => some (C, fs) | _ => none : Option (Addr × List (Str × D))) = _
  rw [hG]
theorem meth_rd {C x : Addr} {m : Str} {sp : SpD} {W : WD} {i : Nat} {t : TAD} {δ : SD} {G : Gm} {Q : QD} {fs : List (Str × D)} (h : δ[i]? = some (some (.adr x))) (hG : G x = some (.ins C fs)) (hf : fs.lookup m = none) (ht : t δ G fun ds G2 => sp (.adr x :: ds) G2 Q W) : dMeth C m sp W (dVar i) t δ G Q := by
  unfold dMeth
  refine var_rd h ?_
  rw [ins_is hG]
  exact ⟨rfl, hf, ht⟩
theorem short2 {CG x ph : Addr} {Y : SX.Sys} {c : Nat → Nat} {g : Int} {G : Gm} {Q : QD} {n : Int} (hg : GridOk CG Y c g G x ph) (hn : Y.n ≤ 200) (en : n = Y.n)
    (q : ∀ o, (o = none → ∀ j, j < Y.n → Y.L c g Y.m j ≤ 0) → (∀ q, o = some q → SX.Short Y g c q) → Q (foundD o) G) : ShortI CG [.adr x, .int n] G Q := by
  subst en
  exact ⟨x, ph, Y, c, g, rfl, hg, hn, fun q0 h1 h2 h3 => q (some q0) (fun e => (by cases e)) (fun q1 e => (by cases e; exact ⟨h1, h2, h3⟩)), fun h => q none (fun _ => h) (fun q1 e => (by cases e))⟩
theorem leaving2 {CG x ph : Addr} {Y : SX.Sys} {c : Nat → Nat} {g : Int} {G : Gm} {Q : QD} {q0 : Nat} (hg : GridOk CG Y c g G x ph) (hm : Y.m ≤ 8) (hq : q0 < Y.n) (h0 : SX.Holds0 Y c g Y.m)
    (q : ∀ o, (o = none → ∀ r, r < Y.m → Y.L c g r q0 ≤ 0) → (∀ p, o = some p → SX.Leave Y g c q0 p) → Q (foundD o) G) : LeaveI CG [.adr x, .int q0] G Q :=
  ⟨x, ph, Y, c, g, q0, rfl, hg, hm, hq, fun r hr hpos => (by
    rcases Nat.lt_or_ge (c r) Y.n with h1 | h1
    · exact h1
    · have := h0 r hr h1 q0 hq; omega), fun p h1 h2 h3 => q (some p) (fun e => (by cases e)) (fun p1 e => (by cases e; exact ⟨h1, h2, h3⟩)), fun h => q none (fun _ => h) (fun p1 e => (by cases e))⟩
theorem cut_row (n m : Nat) (f : Nat → Int) : cutD ((rowI (n + m) f).map D.int) (some (n : Int)) none = (rowI m (fun k => f (n + k))).map D.int := by
  have e0 : ((rowI (n + m) f).map D.int).length = n + m := by rw [List.length_map, rowI_len]
  unfold cutD
  rw [e0]
  have h0 : HT.sIx (n + m) 0 (some (n : Int)) = n := by simp [HT.sIx]; omega
  have h1 : HT.sIx (n + m) (n + m) none = n + m := by simp [HT.sIx]
  rw [h0, h1, row_split, List.map_append, Nat.add_sub_cancel_left, List.drop_left' (by rw [List.length_map, rowI_len])]
  exact List.take_of_length_le (by rw [List.length_map, rowI_len]; exact Nat.le_refl _)
def settledFX (CP CC : Addr) : SpD := fun ds G Q _ => ∃ (bs : Bds) (m : Nat), ds = [.lst ((fsOf bs).map intsD), lstI (gsOf bs), .int m] ∧ GoodBs bs m ∧ Q (resD CP CC bs m) G
theorem dok_settled_forms (T : Top K mg) : FnD P w K mg base 68 T.a_settled_forms T.d_settled_forms ["forms", "gains", "many"] (settledFX T.C_Point T.C_Clash) := by
  have G_Grid___init__ := (dok_Grid___init__ (P := P) (w := w) (base := base) T).mono (k := 65) (by decide)
  have G_short_place := (dok_short_place (P := P) (w := w) (base := base) T).mono (k := 65) (by decide)
  have G_Point___init__ := (dok_Point___init__ (P := P) (w := w) (base := base) T).mono (k := 65) (by decide)
  have G_first_place := (dok_first_place (P := P) (w := w) (base := base) T).mono (k := 65) (by decide)
  have G_leaving_line := (dok_leaving_line (P := P) (w := w) (base := base) T).mono (k := 65) (by decide)
  have G_lowest_terms := (dok_lowest_terms (P := P) (w := w) (base := base) T).mono (k := 65) (by decide)
  have G_Clash___init__ := (dok_Clash___init__ (P := P) (w := w) (base := base) T).mono (k := 65) (by decide)
  have G_clashing_weights := (dok_clashing_weights (P := P) (w := w) (base := base) T).mono (k := 65) (by decide)
  have G_Grid_exchange := (dok_Grid_exchange (P := P) (w := w) (base := base) T).mono (k := 65) (by decide)
  refine dfn (k := 67) T.F_settled_forms scsettled_forms (fun ds G Q W h => ?_) (fun cdv A outer s H E B W hr tk => have hx := hx_of tk; ⟨_, (db_cons (ds_set (i := 3) scsettled_forms.nd rfl (.inl rfl) (de_makeM T.mk_Grid T.gc_Grid G_Grid___init__ (hr.mono (by decide)) rfl T.g_Grid T.b_Grid___init__ hx (da_cons (dv 0) (da_cons (dv 1) (da_cons (dv 2) da_nil)))))
  (db_cons (ds_for (passes_of rfl) rfl (di_range1 (by rfl) T.z_range (da_cons (dv 2) da_nil)) (dg_name (i := 4) scsettled_forms.nd rfl (.inl rfl))
    (db_cons (ds_set (i := 5) scsettled_forms.nd rfl (.inl rfl) (de_call G_first_place (hr.mono (by decide)) (by rfl) T.g_first_place T.F_first_place.kp T.b_first_place hx (da_cons (de_ix ix_seq ix_A (de_fld (dv 3)) (dv 4) (fun _ _ => rfl)) (da_cons (de_callB call_len2 len_A (by rfl) T.z_len (by decide +kernel) (da_cons (dv 0) da_nil)) da_nil))))
  (db_one (ds_if (dt_cmp op_notN notN_A (dv 5) de_non (nomark _))
    (db_one (ds_expr (de_meth (dv 3) T.cl_Grid T.me_Grid_exchange G_Grid_exchange (hr.mono (by decide)) T.b_Grid_exchange hx (da_cons (dv 4) (da_cons (dv 5) da_nil)))))
    db_nil))))
  (db_cons (ds_set (i := 5) scsettled_forms.nd rfl (.inl rfl) (de_call G_short_place (hr.mono (by decide)) (by rfl) T.g_short_place T.F_short_place.kp T.b_short_place hx (da_cons (dv 3) (da_cons (de_callB call_len2 len_A (by rfl) T.z_len (by decide +kernel) (da_cons (dv 0) da_nil)) da_nil))))
  (db_cons (ds_while (passes_of rfl) (dt_cmp op_notN notN_A (dv 5) de_non (nomark _))
    (db_cons (ds_set (i := 4) scsettled_forms.nd rfl (.inl rfl) (de_call G_leaving_line (hr.mono (by decide)) (by rfl) T.g_leaving_line T.F_leaving_line.kp T.b_leaving_line hx (da_cons (dv 3) (da_cons (dv 5) da_nil))))
  (db_cons (ds_if (dt_cmp op_isN isN_A (dv 4) de_non (nomark _))
    (db_one (ds_ret (de_forget (de_forget (de_make T.mk_Clash T.gc_Clash G_Clash___init__ (hr.mono (by decide)) rfl T.g_Clash T.b_Clash___init__ hx (da_cons (de_call G_lowest_terms (hr.mono (by decide)) (by rfl) T.g_lowest_terms T.F_lowest_terms.kp T.b_lowest_terms hx (da_cons (de_call G_clashing_weights (hr.mono (by decide)) (by rfl) T.g_clashing_weights T.F_clashing_weights.kp T.b_clashing_weights hx (da_cons (dv 3) (da_cons (dv 5) (da_cons (de_callB call_len2 len_A (by rfl) T.z_len (by decide +kernel) (da_cons (dv 0) da_nil)) da_nil)))) da_nil)) da_nil))))))
    db_nil)
  (db_cons (ds_expr (de_meth (dv 3) T.cl_Grid T.me_Grid_exchange G_Grid_exchange (hr.mono (by decide)) T.b_Grid_exchange hx (da_cons (dv 4) (da_cons (dv 5) da_nil))))
  (db_one (ds_set (i := 5) scsettled_forms.nd rfl (.inl rfl) (de_call G_short_place (hr.mono (by decide)) (by rfl) T.g_short_place T.F_short_place.kp T.b_short_place hx (da_cons (dv 3) (da_cons (de_callB call_len2 len_A (by rfl) T.z_len (by decide +kernel) (da_cons (dv 0) da_nil)) da_nil)))))))))
  (db_one (ds_ret (de_forget (de_forget (de_make T.mk_Point T.gc_Point G_Point___init__ (hr.mono (by decide)) rfl T.g_Point T.b_Point___init__ hx (da_cons (de_call G_lowest_terms (hr.mono (by decide)) (by rfl) T.g_lowest_terms T.F_lowest_terms.kp T.b_lowest_terms hx (da_cons (de_lcF (own := [("gain", 6)]) (gV := gName 6) finA_l rfl scsettled_forms.nd (di_list (de_sl (de_fld (dv 3)) (do_some (de_callB call_len2 len_A (by rfl) T.z_len (by decide +kernel) (da_cons (dv 0) da_nil))) do_none)) (blkOk_by (own := [("gain", 6)]) (N := Nsettled_forms) (sc := defScope ssettled_forms) (by decide +kernel)) (cg_name (i := 6) (by decide)) (fun _ _ _ _ _ => (pg_name (i := 6) scsettled_forms.nd rfl (.inl rfl))) (fun _ _ _ _ _ _ => dts_nil) (fun _ _ _ _ _ _ => (de_neg (dv 6)))) da_nil)) da_nil)))))))))), fun ds G Q h => ?_⟩)
  · obtain ⟨_, _, rfl, _⟩ := h
    rfl
  · obtain ⟨bs, m, rfl, hgood, q⟩ := h
    have hlow := low8 hgood
    have hm8 := hgood.m8
    have hn80 := hgood.n80
    have hflen : ((fsOf bs).map intsD).length = bs.length := by rw [List.length_map, fs_len]
    refine fun x nx => ⟨x, fsOf bs, gsOf bs, m, rfl, updG_same, by rw [fs_len]; exact (List.length_map _).symm, fun f hf => ?_, hm8, by rw [fs_len]; omega, fun G1 hp hg0 nhp hsame => ?_⟩
    · obtain ⟨p, hp, rfl⟩ := List.mem_map.1 hf
      exact hgood.len p hp
    refine ⟨rfl, ?_⟩
    have hxp := hg0.ne
    have nhp0 : G hp = none := by rw [updG_ne hxp.symm] at nhp; exact nhp
    -- what is left at the end
    have hend : ∀ G' : Gm, (∀ a, a ≠ x → a ≠ hp → G' a = G a) → delG (delG G' x) hp = G := fun G' h => by
      funext a
      unfold delG
      by_cases e1 : a = hp
      · rw [if_pos e1, e1, nhp0]
      · rw [if_neg e1]
        by_cases e2 : a = x
        · rw [if_pos e2, e2, nx]
        · rw [if_neg e2, h a e2 e1]
    have hG1 : ∀ a, a ≠ x → a ≠ hp → G1 a = G a := fun a h1 h2 => by rw [hsame a h1 h2, updG_ne h1]
    refine ⟨⟨by omega, by omega⟩, ?_⟩
    rw [Int.toNat_natCast]
    refine for_at (fun j δ G' => GridOk T.C_Grid (sysB bs m) (SX.ph (sysB bs m) j).1 (SX.ph (sysB bs m) j).2 G' x hp ∧ (∀ a, a ≠ x → a ≠ hp → G' a = G a) ∧ ∃ z1 z2 z3, δ = [some (.lst ((fsOf bs).map intsD)), some (lstI (gsOf bs)), some (.int m), some (.adr x), z1, z2, z3]) (rangeD 0 m) (fun j δ G1 d N hd hI hN => ?_) (fun δ G1 hI => ?_) (rangeD 0 m) 0 _ _ (Nat.zero_le _) rfl ⟨hg0, hG1, _, _, _, rfl⟩
    · obtain ⟨hg, hG, z1, z2, z3, rfl⟩ := hI
      obtain ⟨hj, rfl⟩ := range_get hd
      obtain ⟨ls, hins, hll, hrow⟩ := hg.ins
      obtain ⟨ln, hln, hsl⟩ := hrow j hj
      obtain ⟨hok, h0⟩ := SX.ph_ok (sysB bs m) j (Nat.le_of_lt hj)
      show (match fldD (.adr x) G1 "lines" with | some y => _ | none => _)
      rw [fld_is hins rfl]
      show (match atI ls (j : Int) with | some d => _ | none => _)
      rw [atI_nat hln]
      refine ⟨ln, (sysB bs m).n + m, ((fsOf bs).map intsD).length, _, rfl, hsl, by rw [hflen, sysB_n]; omega, by rw [sysB_n]; omega, fun q0 hq hne hfirst => ?_, fun hz => ?_⟩
      · have hq' : q0 < (sysB bs m).n := by rw [sysB_n, ← hflen]; exact hq
        show dMeth T.C_Grid "exchange" (exchangeX T.C_Grid) W (dVar 3) (dCons (dVar 4) (dCons (dVar 5) dNil)) [some (.lst ((fsOf bs).map intsD)), some (lstI (gsOf bs)), some (.int m), some (.adr x), some (.int j), some (.int q0), z3] G1 _
        refine meth_rd rfl hins rfl ?_
        refine ⟨x, hp, sysB bs m, _, _, j, q0, rfl, hg, hok, hlow, hj, hq', hne, fun G' e he1 he2 _ hg' hG' => ?_⟩
        refine hN _ _ ⟨?_, fun a h1 h2 => by rw [hG' a h1 h2, hG a h1 h2], some (.int j), some (.int q0), z3, rfl⟩
        rw [SX.ph_put ⟨hq', hne, hfirst⟩, ← SX.sgI_of he1 he2]
        exact hg'
      · refine hN _ _ ⟨?_, hG, some (.int j), some .non, z3, rfl⟩
        rw [SX.ph_none (fun j hj => hz j (by rw [hflen]; rw [sysB_n] at hj; exact hj))]
        exact hg
    · obtain ⟨hg, hG, z1, z2, z3, rfl⟩ := hI
      rw [range_ln] at hg
      obtain ⟨hok, h0⟩ := SX.ph_ok (sysB bs m) m (Nat.le_refl _)
      have hends := SX.ends_all (Y := sysB bs m) (g := (SX.ph (sysB bs m) m).2) (SX.ph (sysB bs m) m).1
      have hres : Q (ptL bs m T.C_Point T.C_Clash (SX.go (sysB bs m) (SX.ph (sysB bs m) m).2 (2 ^ ((sysB bs m).n + (sysB bs m).m) + 1) (SX.ph (sysB bs m) m).1)) G := q
      have hnn : (sysB bs m).n ≤ 200 := by rw [sysB_n]; omega
      have hlen : ((((fsOf bs).map intsD).length : Nat) : Int) = (sysB bs m).n := by rw [hflen, sysB_n]
      clear q
      generalize 2 ^ ((sysB bs m).n + (sysB bs m).m) = k at hends hres
      show ShortI T.C_Grid [.adr x, .int ((((fsOf bs).map intsD).length : Nat) : Int)] G1 _
      refine short2 hg hnn hlen (fun o ho1 ho2 => ?_)
      refine ⟨k + 2, ?_⟩
      show whD _ _ _ (k + 2) [some (.lst ((fsOf bs).map intsD)), some (lstI (gsOf bs)), some (.int m), some (.adr x), z1, some (foundD o), z3] G1
      generalize hgg : (SX.ph (sysB bs m) m).2 = g at hg hok h0 hends hres ho1 ho2
      generalize (SX.ph (sysB bs m) m).1 = c at hg hok h0 hends hres ho1 ho2
      clear z2
      induction k generalizing c G1 o z1 z3 with
      | zero => exact (SX.ends_zero hends hok).elim
      | succ k ih =>
        obtain ⟨ls, hins, hll, hrow⟩ := hg.ins
        cases o with
        | none =>
          rw [SX.go_pt (ho1 rfl)] at hres
          show (match fldD (.adr x) G1 "gains" with | some y => _ | none => _)
          rw [fld_is hins rfl]
          show (cutD ((rowI ((sysB bs m).n + (sysB bs m).m) ((sysB bs m).L c g (sysB bs m).m)).map D.int) (some ((((fsOf bs).map intsD).length : Nat) : Int)) none).length < sizeLine ∧ lcD _ _ _ _ _ (cutD ((rowI ((sysB bs m).n + (sysB bs m).m) ((sysB bs m).L c g (sysB bs m).m)).map D.int) (some ((((fsOf bs).map intsD).length : Nat) : Int)) none) [] G1
          rw [hlen, cut_row]
          refine ⟨by rw [List.length_map, rowI_len]; exact small_size (by show m ≤ _; omega), lc_map (fun d => match d with | .int i => .int (-i) | _ => .non) _ [] (fun e me R hR => ?_) ?_⟩
          · obtain ⟨i, _, rfl⟩ := List.mem_map.1 me
            exact hR
          · have e1 : ([] ++ ((rowI (sysB bs m).m fun k => (sysB bs m).L c g (sysB bs m).m ((sysB bs m).n + k)).map D.int).map (fun d => match d with | .int i => .int (-i) | _ => .non)) = (ptOf bs m g c).map D.int := by
              rw [List.nil_append, List.map_map]
              unfold ptOf rowI
              rw [List.map_map, List.map_map, ← sysB_n bs m]; rfl
            rw [e1]
            refine ⟨ptOf bs m g c, lstI (ptOf bs m g c), rfl, .inr rfl, Nat.le_trans (Nat.le_of_eq (rowI_len _ _)) (by omega), pt_bits hgood hok.g1, fun x2 nx2 => paper_ok (by rw [lowI_len]; exact Nat.le_trans (Nat.le_of_eq (rowI_len _ _)) (by omega)) ⟨rfl, ?_⟩⟩
            show (match updG G1 x2 _ x2 with | some (.ins C' fs) => _ | _ => _)
            rw [updG_same]
            refine ⟨x, hp, ?_⟩
            show Q _ (delG (delG (delG (updG G1 x2 _) x2) x) hp)
            rw [delG_updG nx2, hend G1 hG, ← hgg]
            exact hres
        | some q0 =>
          have hsh := ho2 q0 rfl
          show LeaveI T.C_Grid [.adr x, .int q0] G1 _
          refine leaving2 hg hm8 hsh.lt h0 (fun o2 h21 h22 => ?_)
          cases o2 with
          | none =>
            rw [SX.go_cl hsh (h21 rfl)] at hres
            refine ⟨x, hp, sysB bs m, _, _, q0, ?_, hg, hm8, hsh.lt, hnn, fun r hr hneg => ?_, ?_⟩
            · show [D.adr x, D.int q0, D.int ((((fsOf bs).map intsD).length : Nat) : Int)] = _
              rw [hlen]
            · rcases Nat.lt_or_ge (c r) (sysB bs m).n with h1 | h1
              · exact h1
              · have := h0 r hr h1 q0 hsh.lt; omega
            · have e1 : rowI (sysB bs m).n (SX.wAt (sysB bs m) c g q0 (sysB bs m).m) = wtOf bs m g c q0 := by unfold wtOf; rw [sysB_n]; rfl
              rw [e1]
              refine ⟨wtOf bs m g c q0, lstI (wtOf bs m g c q0), rfl, .inr rfl, Nat.le_trans (Nat.le_of_eq (rowI_len _ _)) (by omega), wt_bits hgood hok.g1, fun x2 nx2 => paper_ok (by rw [lowI_len]; exact Nat.le_trans (Nat.le_of_eq (rowI_len _ _)) (by omega)) ⟨rfl, ?_⟩⟩
              show (match updG G1 x2 _ x2 with | some (.ins C' fs) => _ | _ => _)
              rw [updG_same]
              refine ⟨x, hp, ?_⟩
              show Q _ (delG (delG (delG (updG G1 x2 _) x2) x) hp)
              rw [delG_updG nx2, hend G1 hG]
              unfold ptL at hres
              rw [hgg] at hres
              exact hres
          | some p0 =>
            have hlv := h22 p0 rfl
            rw [SX.go_step hok hsh hlv] at hres
            obtain ⟨hok', h0'⟩ := SX.step_ok hok h0 hsh hlv
            show dMeth T.C_Grid "exchange" (exchangeX T.C_Grid) W (dVar 3) (dCons (dVar 4) (dCons (dVar 5) dNil)) [some (.lst ((fsOf bs).map intsD)), some (lstI (gsOf bs)), some (.int m), some (.adr x), some (.int p0), some (.int q0), z3] G1 _
            refine meth_rd rfl hins rfl ?_
            refine ⟨x, hp, sysB bs m, _, _, p0, q0, rfl, hg, hok, hlow, hlv.lt, hsh.lt, (by have := hlv.pos; omega), fun G' e he1 he2 he3 hg' hG' => ?_⟩
            rw [he3 hlv.pos, Int.one_mul] at hg'
            show ShortI T.C_Grid [.adr x, .int ((((fsOf bs).map intsD).length : Nat) : Int)] G' _
            refine short2 hg' hnn hlen (fun o3 h31 h32 => ?_)
            exact ih _ (fun a h1 h2 => by rw [hG' a h1 h2, hG a h1 h2]) _ _ _ _ hg' hok' h0' (SX.ends_step hends hok (SX.step_of hsh hlv)) hres h31 h32
end
section
variable {P : Program} {w : World} {K : PySem.W.Frag} {mg : Str → Option Value} {base : Heap}
def pocX (CB CP CC : Addr) : SpD := fun ds G Q _ => ∃ (d : D) (bs : Bds) (m : Nat), ds = [d, .int m] ∧ SeqB CB d bs ∧ GoodBs bs m ∧ Q (resD CP CC bs m) G
theorem dok_point_or_clash (T : Top K mg) : FnD P w K mg base 72 T.a_point_or_clash T.d_point_or_clash ["bounds", "many"] (pocX T.C_Bound T.C_Point T.C_Clash) := by
  have G_settled_forms := (dok_settled_forms (P := P) (w := w) (base := base) T).mono (k := 69) (by decide)
  refine dfn (k := 71) T.F_point_or_clash scpoint_or_clash (fun ds G Q W h => ?_) (fun cdv A outer s H E B W hr tk => have hx := hx_of tk; ⟨_, (db_one (ds_ret (de_call G_settled_forms (hr.mono (by decide)) (by rfl) T.g_settled_forms T.F_settled_forms.kp T.b_settled_forms hx (da_cons (de_lcF (own := [("bound", 2)]) (gV := gName 2) finA_l rfl scpoint_or_clash.nd (di_anyV (pv 0)) (blkOk_by (own := [("bound", 2)]) (N := Npoint_or_clash) (sc := defScope spoint_or_clash) (by decide +kernel)) (cg_name (i := 2) (by decide)) (fun _ _ _ _ _ => (pg_name (i := 2) scpoint_or_clash.nd rfl (.inl rfl))) (fun _ _ _ _ _ _ => dts_nil) (fun _ _ _ _ _ _ => (de_fld (dv 2)))) (da_cons (de_lcF (own := [("bound", 2)]) (gV := gName 2) finA_l rfl scpoint_or_clash.nd (di_anyV (pv 0)) (blkOk_by (own := [("bound", 2)]) (N := Npoint_or_clash) (sc := defScope spoint_or_clash) (by decide +kernel)) (cg_name (i := 2) (by decide)) (fun _ _ _ _ _ => (pg_name (i := 2) scpoint_or_clash.nd rfl (.inl rfl))) (fun _ _ _ _ _ _ => dts_nil) (fun _ _ _ _ _ _ => (de_if (dt_val (de_fld (dv 2))) de_int de_int))) (da_cons (dv 1) da_nil)))))), fun ds G Q h => ?_⟩)
  · obtain ⟨_, _, _, rfl, _⟩ := h
    rfl
  · obtain ⟨d, bs, m, rfl, hd, hg, q⟩ := h
    have hn := hg.n80
    rcases hd with rfl | rfl
    all_goals
      refine ⟨by rw [List.length_map]; exact small_size (by omega), lc_map (fun d => match d with | .ins _ [(_, f), _] => f | _ => .non) _ [] (fun e me R hR => ?_) ?_⟩
      · obtain ⟨p, _, rfl⟩ := List.mem_map.1 me
        exact hR
      have e1 : ([] ++ (bs.map fun p => bndD T.C_Bound p.1 p.2).map (fun d => match d with | .ins _ [(_, f), _] => f | _ => .non)) = (fsOf bs).map intsD := by
        rw [List.nil_append, List.map_map]; unfold fsOf; rw [List.map_map]; rfl
      rw [e1]
      refine ⟨by rw [List.length_map]; exact small_size (by omega), lc_map (fun d => match d with | .ins _ [_, (_, .bl b)] => .int (if b = true then 1 else 0) | _ => .non) _ [] (fun e me R hR => ?_) ?_⟩
      · obtain ⟨p, _, rfl⟩ := List.mem_map.1 me
        obtain ⟨f, b⟩ := p
        cases b <;> exact hR
      have e2 : ([] ++ (bs.map fun p => bndD T.C_Bound p.1 p.2).map (fun d => match d with | .ins _ [_, (_, .bl b)] => .int (if b = true then 1 else 0) | _ => .non)) = (gsOf bs).map D.int := by
        rw [List.nil_append, List.map_map]; unfold gsOf; rw [List.map_map]; rfl
      rw [e2]
      exact ⟨bs, m, rfl, hg, q⟩
theorem dok_settled (T : Top K mg) : FnD P w K mg base 76 T.a_settled T.d_settled ["bounds", "many"] (pocX T.C_Bound T.C_Point T.C_Clash) := by
  have G_check_bounds := (dok_check_bounds (P := P) (w := w) (base := base) T).mono (k := 73) (by decide)
  have G_point_or_clash := (dok_point_or_clash (P := P) (w := w) (base := base) T).mono (k := 73) (by decide)
  refine dfn (k := 75) T.F_settled scsettled (fun ds G Q W h => ?_) (fun cdv A outer s H E B W hr tk => have hx := hx_of tk; ⟨_, (db_cons (ds_expr (de_call G_check_bounds (hr.mono (by decide)) (by rfl) T.g_check_bounds T.F_check_bounds.kp T.b_check_bounds hx (da_cons (dv 0) (da_cons (dv 1) da_nil))))
  (db_one (ds_ret (de_call G_point_or_clash (hr.mono (by decide)) (by rfl) T.g_point_or_clash T.F_point_or_clash.kp T.b_point_or_clash hx (da_cons (dv 0) (da_cons (dv 1) da_nil)))))), fun ds G Q h => ?_⟩)
  · obtain ⟨_, _, _, rfl, _⟩ := h
    rfl
  · obtain ⟨d, bs, m, rfl, hd, hg, q⟩ := h
    exact ⟨d, bs, m, rfl, hd, hg.m8, hg.n80, hg.len, d, bs, m, rfl, hd, hg, q⟩
end
section
variable {P : Program} {w : World} {K : PySem.W.Frag} {mg : Str → Option Value} {base : Heap}
theorem zip_ints3 (ns ms : List Int) : zipD (ns.map .int) (ms.map .int) = (ns.zip ms).map fun p => .tup [.int p.1, .int p.2] := by
  unfold zipD
  rw [List.zip_map, List.map_map]
  rfl
def checkD : SpD := fun ds G Q _ => ∃ (ms : List Int) (d : D), ds = [d, .int ms.length] ∧ SeqI d ms ∧ ms.length ≤ 1000 ∧ Q .non G
theorem dok_check_numbers_of (T : Top K mg) : FnD P w K mg base 8 T.a_check_numbers_of T.d_check_numbers_of ["numbers", "many"] checkD := by
  have G_is_integer := (dok_is_integer (P := P) (w := w) (base := base) T).mono (k := 5) (by decide)
  refine dfn (k := 7) T.F_check_numbers_of sccheck_numbers_of (fun ds G Q W h => ?_) (fun cdv A outer s H E B W hr tk => have hx := hx_of tk; ⟨_, (db_cons (ds_if (dw_pt (dw_or (dt_not (dt_val (de_isKs (js := [.lst, .tup]) (by rfl) T.z_isinstance (by decide +kernel) (dv 0) (pa_tys_cons (pe_bltn (by rfl) T.z_list (by decide +kernel) rfl) (pa_tys_cons (pe_bltn (by rfl) T.z_tuple (by decide +kernel) rfl) pa_tys_nil)) (by decide)))) (dw_or1 (dt_cmp (op_neD (Room.units hr)) neI_A (de_callB call_len2 len_A (by rfl) T.z_len (by decide +kernel) (da_cons (dv 0) da_nil)) (dv 1) (nomark _)))))
    db_never
    db_nil)
  (db_one (ds_if (dt_not (dt_val (de_callB (cr_all rfl) all_A (by rfl) T.z_all (by decide +kernel) (da_cons (de_lcF (own := [("number", 2)]) (gV := gName 2) finA_l rfl sccheck_numbers_of.nd (di_anyV (pv 0)) (blkOk_by (own := [("number", 2)]) (N := Ncheck_numbers_of) (sc := defScope scheck_numbers_of) (by decide +kernel)) (cg_name (i := 2) (by decide)) (fun _ _ _ _ _ => (pg_name (i := 2) sccheck_numbers_of.nd rfl (.inl rfl))) (fun _ _ _ _ _ _ => dts_nil) (fun _ _ _ _ _ _ => (de_call G_is_integer (hr.mono (by decide)) (by rfl) T.g_is_integer T.F_is_integer.kp T.b_is_integer hx0 (da_cons (dv 2) da_nil)))) da_nil))))
    db_never
    db_nil))), fun ds G Q h => ?_⟩)
  · obtain ⟨n, _, rfl, _⟩ := h
    rfl
  · obtain ⟨ms, d, rfl, hd, hl, q⟩ := h
    rcases hd with rfl | rfl
    all_goals
      refine ⟨pl_int, pl_int, ?_⟩
      rw [eqvD_int, List.length_map, decide_eq_true rfl]
      refine ⟨by rw [List.length_map]; exact small_size (by omega), lc_map (fun d => .bl true) (ms.map .int) [] (fun e me Q hQ => ?_) ?_⟩
      · obtain ⟨x, mx, rfl⟩ := List.mem_map.mp me
        exact ⟨.int x, rfl, told_ki rfl, hQ⟩
      · refine ⟨ms.map fun _ => true, by rw [List.nil_append, List.map_map, List.map_map]; rfl, ?_⟩
        have : (ms.map fun _ => true).all id = true := by simp
        rw [this]
        exact q
def valueD : SpD := fun ds G Q _ => ∃ (ns ms : List Int) (d : D), ds = [intsD ns, d] ∧ SeqI d ms ∧ ns.length ≤ 1000 ∧ (∀ p ∈ ns.zip ms, CMulW p.1 p.2) ∧ Q (.int (dot ns ms)) G
theorem dok_value_of (T : Top K mg) : FnD P w K mg base 4 T.a_value_of T.d_value_of ["form", "numbers"] valueD := by
  refine dfn (k := 3) T.F_value_of scvalue_of (fun ds G Q W h => ?_) (fun cdv A outer s H E B W hr tk => have hx := hx_of tk; ⟨_, (db_one (ds_ret (de_callB (cr_sum rfl) sum_A (by rfl) T.z_sum (by decide +kernel) (da_cons (de_lcF (own := [("factor", 2), ("number", 3)]) (gV := gTup K 2 (gCons (gName 2) (gCons (gName 3) (gNil)))) finA_l rfl scvalue_of.nd (di_zip (by rfl) T.z_zip (da_cons (dv 0) (da_cons (dv 1) da_nil))) (blkOk_by (own := [("factor", 2), ("number", 3)]) (N := Nvalue_of) (sc := defScope svalue_of) (by decide +kernel)) (cg_tup (cg_cons (cg_name (i := 2) (by decide)) (cg_cons (cg_name (i := 3) (by decide)) cg_nil))) (fun _ _ _ _ _ => (pg_tup (by rfl) (pgs_cons (pg_name (i := 2) scvalue_of.nd rfl (.inl rfl)) (pgs_cons (pg_name (i := 3) scvalue_of.nd rfl (.inl rfl)) pgs_nil)))) (fun _ _ _ _ _ _ => dts_nil) (fun _ _ _ _ _ _ => (de_mul (dv 2) (dv 3)))) da_nil)))), fun ds G Q h => ?_⟩)
  · obtain ⟨ns, ms, d, rfl, _⟩ := h
    rfl
  · obtain ⟨ns, ms, d, rfl, hs, hl, hc, q⟩ := h
    unfold intsD
    show (match seqS (.tup (ns.map .int)), seqS d with | some xs, some ys => _ | _, _ => _)
    rw [seqI_len hs]
    show (zipD (ns.map .int) (ms.map .int)).length < sizeLine ∧ lcD _ _ _ _ _ (zipD (ns.map .int) (ms.map .int)) [] G
    rw [zip_ints3]
    refine ⟨by rw [List.length_map, List.length_zip]; exact small_size (by omega), lc_mapG (fun d => match d with | .tup [.int a, .int b] => .int (a * b) | _ => .non) _ [] (fun e me Q hQ => ?_) ?_⟩
    · obtain ⟨p, mp, rfl⟩ := List.mem_map.mp me
      exact ⟨rfl, hc p mp, hQ⟩
    · refine ⟨(ns.zip ms).map fun (p : Int × Int) => p.1 * p.2, ?_, (show Q (.int (dot ns ms)) G from q)⟩
      rw [List.nil_append, List.map_map, List.map_map]
      rfl
def callD (CB : Addr) : SpD := fun ds G Q _ => ∃ (ns ms : List Int) (b : Bool) (d : D), ds = [bndD CB ns b, d] ∧ SeqI d ms ∧ ns.length ≤ 1000 ∧ ms.length = ns.length ∧ (∀ p ∈ ns.zip ms, CMulW p.1 p.2) ∧ Q (.bl (holds b (dot ns ms))) G
theorem dok_Bound___call__ (T : Top K mg) : FnD P w K mg base 12 T.a_Bound___call__ T.d_Bound___call__ ["self", "numbers"] (callD T.C_Bound) := by
  have G_check_numbers_of := (dok_check_numbers_of (P := P) (w := w) (base := base) T).mono (k := 9) (by decide)
  have G_value_of := (dok_value_of (P := P) (w := w) (base := base) T).mono (k := 9) (by decide)
  refine dfn (k := 11) T.F_Bound___call__ scBound___call__ (fun ds G Q W h => ?_) (fun cdv A outer s H E B W hr tk => have hx := hx_of tk; ⟨_, (db_cons (ds_expr (de_call G_check_numbers_of (hr.mono (by decide)) (by rfl) T.g_check_numbers_of T.F_check_numbers_of.kp T.b_check_numbers_of hx (da_cons (dv 1) (da_cons (de_callB call_len2 len_A (by rfl) T.z_len (by decide +kernel) (da_cons (de_fld (dv 0)) da_nil)) da_nil))))
  (db_cons (ds_set (i := 2) scBound___call__.nd rfl (.inl rfl) (de_call G_value_of (hr.mono (by decide)) (by rfl) T.g_value_of T.F_value_of.kp T.b_value_of hx (da_cons (de_fld (dv 0)) (da_cons (dv 1) da_nil))))
  (db_one (ds_ret (de_if (dt_val (de_fld (dv 0))) (de_cmp op_gt gt_A (dv 2) de_int (nomark _)) (de_cmp op_ge ge_A (dv 2) de_int (nomark _))))))), fun ds G Q h => ?_⟩)
  · obtain ⟨ns, ms, b, d, rfl, _⟩ := h
    rfl
  · obtain ⟨ns, ms, b, d, rfl, hd, hl, hn, hc, q⟩ := h
    have e : (ns.map D.int).length = ms.length := by rw [List.length_map, hn]
    refine ⟨ms, d, ?_, hd, by omega, ns, ms, d, rfl, hd, hl, hc, ?_⟩
    · show [d, D.int ((ns.map D.int).length : Nat)] = _
      rw [e]
    · cases b <;> exact q
/-- the sum of two rows -/
def sumFD : SpD := fun ds G Q _ => ∃ (m : Nat) (a b : Nat → Int), ds = [intsD (rowI m a), intsD (rowI m b)] ∧ m ≤ 1000 ∧ Q (intsD (rowI m fun k => a k + b k)) G
theorem dok_sum_form (T : Top K mg) : FnD P w K mg base 4 T.a_sum_form T.d_sum_form ["one", "other"] sumFD := by
  refine dfn (k := 3) T.F_sum_form scsum_form (fun ds G Q W h => ?_) (fun cdv A outer s H E B W hr tk => have hx := hx_of tk; ⟨_, (db_one (ds_ret (de_callTy call_tuple_of tup_A (by rfl) T.z_tuple (by decide +kernel) (da_cons (de_lcF (own := [("factor", 2), ("more", 3)]) (gV := gTup K 2 (gCons (gName 2) (gCons (gName 3) (gNil)))) finA_l rfl scsum_form.nd (di_zip (by rfl) T.z_zip (da_cons (dv 0) (da_cons (dv 1) da_nil))) (blkOk_by (own := [("factor", 2), ("more", 3)]) (N := Nsum_form) (sc := defScope ssum_form) (by decide +kernel)) (cg_tup (cg_cons (cg_name (i := 2) (by decide)) (cg_cons (cg_name (i := 3) (by decide)) cg_nil))) (fun _ _ _ _ _ => (pg_tup (by rfl) (pgs_cons (pg_name (i := 2) scsum_form.nd rfl (.inl rfl)) (pgs_cons (pg_name (i := 3) scsum_form.nd rfl (.inl rfl)) pgs_nil)))) (fun _ _ _ _ _ _ => dts_nil) (fun _ _ _ _ _ _ => (de_add (dv 2) (dv 3)))) da_nil)))), fun ds G Q h => ?_⟩)
  · obtain ⟨_, _, _, rfl, _⟩ := h
    rfl
  · obtain ⟨m, a, b, rfl, hm, q⟩ := h
    show (zipD ((rowI m a).map .int) ((rowI m b).map .int)).length < sizeLine ∧ lcD _ _ _ _ _ (zipD ((rowI m a).map .int) ((rowI m b).map .int)) [] G
    rw [zip_row]
    refine ⟨by rw [List.length_map, List.length_range]; exact small_size (by omega), lc_f0 (fun j => D.tup [.int (a j), .int (b j)]) (fun j => .int (a j + b j)) (List.range m) [] (fun j _ N hN => ⟨rfl, hN⟩) ?_⟩
    have e : [] ++ (List.range m).map (fun j => D.int (a j + b j)) = (rowI m fun k => a k + b k).map D.int := by
      unfold rowI
      rw [List.nil_append, List.map_map]; rfl
    rw [e]
    exact q
def nghtD : SpD := fun ds G Q _ => ∃ ns : List Int, ds = [intsD ns] ∧ ns.length ≤ 1000 ∧ Q (.bl (ns.all fun x => decide (x = 0))) G
theorem dok_is_nought (T : Top K mg) : FnD P w K mg base 4 T.a_is_nought T.d_is_nought ["form"] nghtD := by
  refine dfn (k := 3) T.F_is_nought scis_nought (fun ds G Q W h => ?_) (fun cdv A outer s H E B W hr tk => have hx := hx_of tk; ⟨_, (db_one (ds_ret (de_callB (cr_all rfl) all_A (by rfl) T.z_all (by decide +kernel) (da_cons (de_lcF (own := [("factor", 1)]) (gV := gName 1) finA_l rfl scis_nought.nd (di_tup (dv 0)) (blkOk_by (own := [("factor", 1)]) (N := Nis_nought) (sc := defScope sis_nought) (by decide +kernel)) (cg_name (i := 1) (by decide)) (fun _ _ _ _ _ => (pg_name (i := 1) scis_nought.nd rfl (.inl rfl))) (fun _ _ _ _ _ _ => dts_nil) (fun _ _ _ _ _ _ => (de_cmp (op_eqD (Room.units hr)) eqI_A (dv 1) de_int (nomark _)))) da_nil)))), fun ds G Q h => ?_⟩)
  · obtain ⟨_, rfl, _⟩ := h
    rfl
  · obtain ⟨ns, rfl, hl, q⟩ := h
    refine ⟨by rw [List.length_map]; exact small_size (by omega), lc_f0 (fun x : Int => D.int x) (fun x => .bl (decide (x = 0))) ns [] (fun x _ N hN => ⟨pl_int, pl_int, by rw [eqvD_int]; exact hN⟩) ?_⟩
    refine ⟨ns.map fun x => decide (x = 0), by rw [List.nil_append, List.map_map]; rfl, ?_⟩
    have : (ns.map fun x => decide (x = 0)).all id = ns.all fun x => decide (x = 0) := by rw [List.all_map]; rfl
    rw [this]
    exact q
end
inductive Th where
  | pt (ns : List Int) | ptB (n : Nat) | ptL (ns : List Int) | ptN | ptS (xs : List Str) | cl (ws : List Int) | clB (n : Nat) | clL (ws : List Int) | clN | tup (ns : List Int) | non
def truesD (n : Nat) : D := .tup (List.replicate n (.bl true))
def thD (CP CC : Addr) : Th → D
  | .pt ns => .ins CP [("counts", intsD ns)]
  | .ptB n => .ins CP [("counts", truesD n)]
  | .ptL ns => .ins CP [("counts", lstI ns)]
  | .ptN => .ins CP [("counts", .non)]
  | .ptS xs => .ins CP [("counts", .tup (xs.map .str))]
  | .cl ws => .ins CC [("weights", intsD ws)]
  | .clB n => .ins CC [("weights", truesD n)]
  | .clL ws => .ins CC [("weights", lstI ws)]
  | .clN => .ins CC [("weights", .non)]
  | .tup ns => intsD ns
  | .non => .non
/-- not too big, and none that is empty and of an odd kind -/
def Th.ok : Th → Prop
  | .pt ns | .ptL ns | .cl ns | .clL ns | .tup ns => ns.length ≤ 100 ∧ Bits 1905 ns
  | .ptB n | .clB n => 1 ≤ n ∧ n ≤ 8
  | .ptS xs => xs ≠ [] ∧ xs.length ≤ 100
  | _ => True
def spT (bs : Bds) (m : Nat) : Th → Bool
  | .pt ns => decide (ns.length = m) && bs.all fun p => holds p.2 (dot p.1 ns)
  | _ => false
def zeroAt (bs : Bds) (ws : List Int) (k : Nat) : Int := SX.sumN bs.length fun i => ws.getD i 0 * (bs.getD i ([], false)).1.getD k 0
def clB (bs : Bds) (m : Nat) (ws : List Int) : Bool :=
  decide (ws.length = bs.length) && (ws.all fun x => decide (0 ≤ x)) && ((bs.zip ws).any fun p => p.1.2 && decide (0 < p.2)) && (List.range m).all fun k => decide (zeroAt bs ws k = 0)
def scT (bs : Bds) (m : Nat) : Th → Bool
  | .cl ws => clB bs m ws
  | _ => false
section
variable {P : Program} {w : World} {K : PySem.W.Frag} {mg : Str → Option Value} {base : Heap}
theorem cm_bits {a b : Nat} {ns ms : List Int} (h1 : Bits a ns) (h2 : Bits b ms) (ha : 0 < a) (hb : 0 < b) (h : a + b ≤ 1000000) : ∀ p ∈ ns.zip ms, CMulW p.1 p.2 := fun p hp => wide_mul (h1 _ (List.of_mem_zip hp).1) (h2 _ (List.of_mem_zip hp).2) ha hb h
theorem good_bits {bs : Bds} {m : Nat} (h : GoodBs bs m) {p} (hp : p ∈ bs) : Bits 201 p.1 := fun x hx => Nat.lt_of_le_of_lt (h.bits p hp x hx) (Nat.pow_lt_pow_right (by decide) (by decide))
def showsX (CB CP CC : Addr) (R : Bds → Nat → Th → Bool) : SpD := fun ds G Q _ => ∃ (bs : Bds) (m : Nat) (th : Th), ds = [bndsL CB bs, .int m, thD CP CC th] ∧ GoodBs bs m ∧ th.ok ∧ Q (.bl (R bs m th)) G
theorem all_false {α : Type} (n : Nat) (h : 1 ≤ n) (x : α) : (List.replicate n x).map (fun _ => D.bl false) = (List.replicate n false).map D.bl := by
  rw [List.map_replicate, List.map_replicate]
theorem rep_all {n : Nat} (h : 1 ≤ n) : (List.replicate n false).all id = false := by
  cases n with
  | zero => omega
  | succ n => rfl
theorem dok_shows_point (T : Top K mg) : FnD P w K mg base 16 T.a_shows_point T.d_shows_point ["bounds", "many", "value"] (showsX T.C_Bound T.C_Point T.C_Clash spT) := by
  have G_check_bounds := (dok_check_bounds (P := P) (w := w) (base := base) T).mono (k := 13) (by decide)
  have G_is_integer := (dok_is_integer (P := P) (w := w) (base := base) T).mono (k := 13) (by decide)
  have G_Bound___call__ := (dok_Bound___call__ (P := P) (w := w) (base := base) T).mono (k := 13) (by decide)
  refine dfn (k := 15) T.F_shows_point scshows_point (fun ds G Q W h => ?_) (fun cdv A outer s H E B W hr tk => have hx := hx_of tk; ⟨_, (db_cons (ds_expr (de_call G_check_bounds (hr.mono (by decide)) (by rfl) T.g_check_bounds T.F_check_bounds.kp T.b_check_bounds hx (da_cons (dv 0) (da_cons (dv 1) da_nil))))
  (db_cons (ds_if (dw_pt (dw_or (dt_not (dt_val (de_isCK (K := K) (C := T.C_Point) rfl (by rfl) T.z_isinstance (by decide +kernel) (dv 2) (pe_glob rfl T.g_Point rfl)))) (dw_or (dt_not (dt_val (de_isK (j := .tup) (by rfl) T.z_isinstance (by decide +kernel) (de_fld (dv 2)) (pe_bltn (by rfl) T.z_tuple (by decide +kernel) rfl)))) (dw_or1 (dt_cmp (op_neD (Room.units hr)) neI_A (de_callB call_len2 len_A (by rfl) T.z_len (by decide +kernel) (da_cons (de_fld (dv 2)) da_nil)) (dv 1) (nomark _))))))
    (db_one (ds_ret de_bl))
    db_nil)
  (db_cons (ds_if (dt_not (dt_val (de_callB (cr_all rfl) all_A (by rfl) T.z_all (by decide +kernel) (da_cons (de_lcF (own := [("count", 3)]) (gV := gName 3) finA_l rfl scshows_point.nd (di_tup (de_fld (dv 2))) (blkOk_by (own := [("count", 3)]) (N := Nshows_point) (sc := defScope sshows_point) (by decide +kernel)) (cg_name (i := 3) (by decide)) (fun _ _ _ _ _ => (pg_name (i := 3) scshows_point.nd rfl (.inl rfl))) (fun _ _ _ _ _ _ => dts_nil) (fun _ _ _ _ _ _ => (de_call G_is_integer (hr.mono (by decide)) (by rfl) T.g_is_integer T.F_is_integer.kp T.b_is_integer hx0 (da_cons (dv 3) da_nil)))) da_nil))))
    (db_one (ds_ret de_bl))
    db_nil)
  (db_one (ds_ret (de_callB (cr_all rfl) all_A (by rfl) T.z_all (by decide +kernel) (da_cons (de_lcF (own := [("bound", 4)]) (gV := gName 4) finA_l rfl scshows_point.nd (di_list (dv 0)) (blkOk_by (own := [("bound", 4)]) (N := Nshows_point) (sc := defScope sshows_point) (by decide +kernel)) (cg_name (i := 4) (by decide)) (fun _ _ _ _ _ => (pg_name (i := 4) scshows_point.nd rfl (.inl rfl))) (fun _ _ _ _ _ _ => dts_nil) (fun _ _ _ _ _ _ => (de_callO (dv 4) T.oc_Bound___call__ G_Bound___call__ (hr.mono (by decide)) T.b_Bound___call__ hx0 (da_cons (de_fld (dv 2)) da_nil)))) da_nil))))))), fun ds G Q h => ?_⟩)
  · obtain ⟨_, _, _, rfl, _⟩ := h
    rfl
  · obtain ⟨bs, m, th, rfl, hg, hth, q⟩ := h
    have hm := hg.m8
    have hn := hg.n80
    refine ⟨_, bs, m, rfl, .inl rfl, hm, hn, hg.len, ?_⟩
    cases th with
    | pt ns =>
      refine ⟨_, true, .ins rfl, T.ki_Point, ?_⟩
      refine ⟨pl_int, pl_int, ?_⟩
      rw [eqvD_int, List.length_map]
      show (match !decide ((ns.length : Int) = (m : Int)) with | true => _ | false => _)
      by_cases hl : ns.length = m
      · rw [decide_eq_true (show (ns.length : Int) = (m : Int) by omega)]
        refine ⟨by rw [List.length_map]; exact small_size (by have := hth.1; omega), lc_f0 (fun x : Int => D.int x) (fun _ => .bl true) ns [] (fun x _ N hN => ⟨.int x, rfl, told_ki rfl, hN⟩) ?_⟩
        refine ⟨ns.map fun _ => true, by rw [List.nil_append, List.map_map]; rfl, ?_⟩
        have e1 : (ns.map fun _ => true).all id = true := by simp
        rw [e1]
        refine ⟨by rw [List.length_map]; exact small_size (by omega), lc_f0 (fun p : List Int × Bool => bndD T.C_Bound p.1 p.2) (fun p => .bl (holds p.2 (dot p.1 ns))) bs [] (fun p hp N hN => ?_) ?_⟩
        · refine ⟨rfl, rfl, p.1, ns, p.2, intsD ns, rfl, .inl rfl, by rw [hg.len p hp]; omega, by rw [hg.len p hp]; exact hl, cm_bits (good_bits hg hp) hth.2 (by decide) (by decide) (by decide), hN⟩
        · refine ⟨bs.map fun p => holds p.2 (dot p.1 ns), by rw [List.nil_append, List.map_map]; rfl, ?_⟩
          have e2 : (bs.map fun p => holds p.2 (dot p.1 ns)).all id = spT bs m (.pt ns) := by
            show _ = (decide (ns.length = m) && _)
            rw [List.all_map, decide_eq_true hl]; rfl
          rw [e2]
          exact q
      · rw [decide_eq_false (show ¬ (ns.length : Int) = (m : Int) by omega)]
        have e2 : spT bs m (.pt ns) = false := by
          show (decide (ns.length = m) && _) = false
          rw [decide_eq_false hl]; rfl
        rw [e2] at q
        exact q
    | ptB n =>
      refine ⟨_, true, .ins rfl, T.ki_Point, ?_⟩
      refine ⟨pl_int, pl_int, ?_⟩
      rw [eqvD_int, List.length_replicate]
      show (match !decide ((n : Int) = (m : Int)) with | true => _ | false => _)
      by_cases hl : n = m
      · rw [decide_eq_true (show (n : Int) = (m : Int) by omega)]
        refine ⟨by rw [List.length_replicate]; exact small_size (by have := hth.2; omega), lc_map (fun _ => .bl false) (List.replicate n (.bl true)) [] (fun x hx N hN => by have e := (List.mem_replicate.1 hx).2; subst e; exact ⟨.bl true, rfl, told_ki rfl, hN⟩) ?_⟩
        refine ⟨List.replicate n false, by rw [List.nil_append, all_false n hth.1 _], ?_⟩
        rw [rep_all hth.1]
        exact q
      · rw [decide_eq_false (show ¬ (n : Int) = (m : Int) by omega)]
        exact q
    | ptS xs =>
      refine ⟨_, true, .ins rfl, T.ki_Point, ?_⟩
      refine ⟨pl_int, pl_int, ?_⟩
      rw [eqvD_int, List.length_map]
      show (match !decide ((xs.length : Int) = (m : Int)) with | true => _ | false => _)
      by_cases hl : xs.length = m
      · rw [decide_eq_true (show (xs.length : Int) = (m : Int) by omega)]
        refine ⟨by rw [List.length_map]; exact small_size (by have := hth.2; omega), lc_f0 (fun x : Str => D.str x) (fun _ => .bl false) xs [] (fun x _ N hN => ⟨.str x, rfl, told_ki rfl, hN⟩) ?_⟩
        refine ⟨xs.map fun _ => false, by rw [List.nil_append, List.map_map]; rfl, ?_⟩
        have e1 : (xs.map fun _ => false).all id = false := by
          cases xs with
          | nil => exact absurd rfl hth.1
          | cons x xs => rfl
        rw [e1]
        exact q
      · rw [decide_eq_false (show ¬ (xs.length : Int) = (m : Int) by omega)]
        exact q
    | ptL ns => exact ⟨_, true, .ins rfl, T.ki_Point, q⟩
    | ptN => exact ⟨_, true, .ins rfl, T.ki_Point, q⟩
    | cl ws => exact ⟨_, false, .ins rfl, T.kt_Clash_Point, q⟩
    | clB n => exact ⟨_, false, .ins rfl, T.kt_Clash_Point, q⟩
    | clL ws => exact ⟨_, false, .ins rfl, T.kt_Clash_Point, q⟩
    | clN => exact ⟨_, false, .ins rfl, T.kt_Clash_Point, q⟩
    | tup ns => exact ⟨_, false, .ki rfl, T.kn_tuple_Point, q⟩
    | non => exact ⟨_, false, .ki rfl, T.kn_NoneType_Point, q⟩
theorem any_zip (ws : List Int) (bs : Bds) : ((bs.zip ws).map fun p => p.1.2 && decide (0 < p.2)).any id = (bs.zip ws).any fun p => p.1.2 && decide (0 < p.2) := by rw [List.any_map]; rfl
def wD : Th → Option D
  | .cl ws => some (intsD ws) | .clB n => some (truesD n) | .clL ws => some (lstI ws) | .clN => some .non | _ => none
def clashX (CB : Addr) : SpD := fun ds G Q _ => ∃ (bs : Bds) (m : Nat) (th : Th) (d : D), ds = [bndsL CB bs, .int m, d] ∧ wD th = some d ∧ GoodBs bs m ∧ th.ok ∧ Q (.bl (scT bs m th)) G
theorem zero_step {bs : Bds} {ws : List Int} {i k : Nat} (hi : i < bs.length) : SX.sumN (i + 1) (fun i => ws.getD i 0 * (bs.getD i ([], false)).1.getD k 0) = SX.sumN i (fun i => ws.getD i 0 * (bs.getD i ([], false)).1.getD k 0) + ws.getD i 0 * (bs.getD i ([], false)).1.getD k 0 := rfl
theorem dok_are_clashing (T : Top K mg) : FnD P w K mg base 8 T.a_are_clashing T.d_are_clashing ["bounds", "many", "weights"] (clashX T.C_Bound) := by
  have G_nought_form := (dok_nought_form (P := P) (w := w) (base := base) T).mono (k := 5) (by decide)
  have G_is_nought := (dok_is_nought (P := P) (w := w) (base := base) T).mono (k := 5) (by decide)
  have G_sum_form := (dok_sum_form (P := P) (w := w) (base := base) T).mono (k := 5) (by decide)
  have G_times_form := (dok_times_form (P := P) (w := w) (base := base) T).mono (k := 5) (by decide)
  have G_is_integer := (dok_is_integer (P := P) (w := w) (base := base) T).mono (k := 5) (by decide)
  refine dfn (k := 7) T.F_are_clashing scare_clashing (fun ds G Q W h => ?_) (fun cdv A outer s H E B W hr tk => have hx := hx_of tk; ⟨_, (db_cons (ds_if (dw_pt (dw_or (dt_not (dt_val (de_isK (j := .tup) (by rfl) T.z_isinstance (by decide +kernel) (dv 2) (pe_bltn (by rfl) T.z_tuple (by decide +kernel) rfl)))) (dw_or1 (dt_cmp (op_neD (Room.units hr)) neI_A (de_callB call_len2 len_A (by rfl) T.z_len (by decide +kernel) (da_cons (dv 2) da_nil)) (de_callB call_len2 len_A (by rfl) T.z_len (by decide +kernel) (da_cons (dv 0) da_nil)) (nomark _)))))
    (db_one (ds_ret de_bl))
    db_nil)
  (db_cons (ds_if (dt_not (dt_val (de_callB (cr_all rfl) all_A (by rfl) T.z_all (by decide +kernel) (da_cons (de_lcF (own := [("weight", 5)]) (gV := gName 5) finA_l rfl scare_clashing.nd (di_tup (dv 2)) (blkOk_by (own := [("weight", 5)]) (N := Nare_clashing) (sc := defScope sare_clashing) (by decide +kernel)) (cg_name (i := 5) (by decide)) (fun _ _ _ _ _ => (pg_name (i := 5) scare_clashing.nd rfl (.inl rfl))) (fun _ _ _ _ _ _ => dts_nil) (fun _ _ _ _ _ _ => (de_and (de_call G_is_integer (hr.mono (by decide)) (by rfl) T.g_is_integer T.F_is_integer.kp T.b_is_integer hx0 (da_cons (dv 5) da_nil)) (de_one (de_cmp op_ge ge_A (dv 5) de_int (nomark _)))))) da_nil))))
    (db_one (ds_ret de_bl))
    db_nil)
  (db_cons (ds_if (dt_not (dt_val (de_callB (cr_any rfl) any_A (by rfl) T.z_any (by decide +kernel) (da_cons (de_lcF (own := [("bound", 4), ("weight", 5)]) (gV := gTup K 2 (gCons (gName 4) (gCons (gName 5) (gNil)))) finA_l rfl scare_clashing.nd (di_zip (by rfl) T.z_zip (da_cons (dv 0) (da_cons (dv 2) da_nil))) (blkOk_by (own := [("bound", 4), ("weight", 5)]) (N := Nare_clashing) (sc := defScope sare_clashing) (by decide +kernel)) (cg_tup (cg_cons (cg_name (i := 4) (by decide)) (cg_cons (cg_name (i := 5) (by decide)) cg_nil))) (fun _ _ _ _ _ => (pg_tup (by rfl) (pgs_cons (pg_name (i := 4) scare_clashing.nd rfl (.inl rfl)) (pgs_cons (pg_name (i := 5) scare_clashing.nd rfl (.inl rfl)) pgs_nil)))) (fun _ _ _ _ _ _ => dts_nil) (fun _ _ _ _ _ _ => (de_and (de_fld (dv 4)) (de_one (de_cmp op_gt gt_A (dv 5) de_int (nomark _)))))) da_nil))))
    (db_one (ds_ret de_bl))
    db_nil)
  (db_cons (ds_set (i := 3) scare_clashing.nd rfl (.inl rfl) (de_call G_nought_form (hr.mono (by decide)) (by rfl) T.g_nought_form T.F_nought_form.kp T.b_nought_form hx (da_cons (dv 1) da_nil)))
  (db_cons (ds_for (passes_of rfl) rfl (di_zip (by rfl) T.z_zip (da_cons (dv 0) (da_cons (dv 2) da_nil))) (dg_tup (by rfl) (dgs_cons (dg_name (i := 4) scare_clashing.nd rfl (.inl rfl)) (dgs_cons (dg_name (i := 5) scare_clashing.nd rfl (.inl rfl)) dgs_nil)))
    (db_one (ds_set (i := 3) scare_clashing.nd rfl (.inl rfl) (de_call G_sum_form (hr.mono (by decide)) (by rfl) T.g_sum_form T.F_sum_form.kp T.b_sum_form hx (da_cons (dv 3) (da_cons (de_call G_times_form (hr.mono (by decide)) (by rfl) T.g_times_form T.F_times_form.kp T.b_times_form hx (da_cons (dv 5) (da_cons (de_fld (dv 4)) da_nil))) da_nil))))))
  (db_one (ds_ret (de_call G_is_nought (hr.mono (by decide)) (by rfl) T.g_is_nought T.F_is_nought.kp T.b_is_nought hx (da_cons (dv 3) da_nil))))))))), fun ds G Q h => ?_⟩)
  · obtain ⟨_, _, _, _, rfl, _⟩ := h
    rfl
  · obtain ⟨bs, m, th, d, rfl, hd, hg, hth, q⟩ := h
    have hm := hg.m8
    have hn := hg.n80
    cases th <;> simp only [wD, Option.some.injEq, reduceCtorEq] at hd
    case clL ws => subst hd; exact q
    case clN => subst hd; exact q
    case clB n =>
      subst hd
      refine ⟨pl_int, pl_int, ?_⟩
      rw [eqvD_int, List.length_replicate, List.length_map]
      show (match !decide ((n : Int) = (bs.length : Int)) with | true => _ | false => _)
      by_cases hl : (n : Int) = (bs.length : Int)
      · rw [decide_eq_true hl]
        refine ⟨by rw [List.length_replicate]; exact small_size (by have := hth.2; omega), lc_map (fun _ => .bl false) (List.replicate n (.bl true)) [] (fun x hx N hN => by have e := (List.mem_replicate.1 hx).2; subst e; exact ⟨.bl true, rfl, told_ki rfl, hN⟩) ?_⟩
        refine ⟨List.replicate n false, by rw [List.nil_append, all_false n hth.1 _], ?_⟩
        rw [rep_all hth.1]
        exact q
      · rw [decide_eq_false hl]
        exact q
    case cl ws =>
      subst hd
      refine ⟨pl_int, pl_int, ?_⟩
      rw [eqvD_int, List.length_map, List.length_map]
      show (match !decide ((ws.length : Int) = (bs.length : Int)) with | true => _ | false => _)
      by_cases hl : ws.length = bs.length
      case neg =>
        rw [decide_eq_false (show ¬ (ws.length : Int) = (bs.length : Int) by omega)]
        have e : scT bs m (.cl ws) = false := by
          show clB bs m ws = false
          unfold clB
          rw [decide_eq_false hl]; rfl
        rw [e] at q
        exact q
      rw [decide_eq_true (show (ws.length : Int) = (bs.length : Int) by omega)]
      have q' : Q (.bl ((ws.all fun x => decide (0 ≤ x)) && ((bs.zip ws).any fun p => p.1.2 && decide (0 < p.2)) && (List.range m).all fun k => decide (zeroAt bs ws k = 0))) G := by
        have e : scT bs m (.cl ws) = ((ws.all fun x => decide (0 ≤ x)) && ((bs.zip ws).any fun p => p.1.2 && decide (0 < p.2)) && (List.range m).all fun k => decide (zeroAt bs ws k = 0)) := by
          show clB bs m ws = _
          unfold clB
          rw [decide_eq_true hl, Bool.true_and]
        rw [e] at q; exact q
      clear q
      refine ⟨by rw [List.length_map]; exact small_size (by omega), lc_f0 (fun x : Int => D.int x) (fun x => .bl (decide (0 ≤ x))) ws [] (fun x _ N hN => ⟨.int x, rfl, told_ki rfl, hN⟩) ?_⟩
      refine ⟨ws.map fun x => decide (0 ≤ x), by rw [List.nil_append, List.map_map]; rfl, ?_⟩
      have e1 : (ws.map fun x => decide (0 ≤ x)).all id = ws.all fun x => decide (0 ≤ x) := by rw [List.all_map]; rfl
      rw [e1]
      cases h1 : ws.all fun x => decide (0 ≤ x) with
      | false => rw [h1] at q'; exact q'
      | true =>
        rw [h1, Bool.true_and] at q'
        have hzip : zipD (bs.map fun p => bndD T.C_Bound p.1 p.2) (ws.map .int) = (bs.zip ws).map fun p => D.tup [bndD T.C_Bound p.1.1 p.1.2, .int p.2] := by
          unfold zipD
          rw [List.zip_map, List.map_map]; rfl
        have hzl : ((bs.zip ws).map fun p => D.tup [bndD T.C_Bound p.1.1 p.1.2, .int p.2]).length < sizeLine := by
          rw [List.length_map, List.length_zip]; exact small_size (by omega)
        show (zipD (bs.map fun p => bndD T.C_Bound p.1 p.2) (ws.map .int)).length < sizeLine ∧ lcD _ _ _ _ _ (zipD (bs.map fun p => bndD T.C_Bound p.1 p.2) (ws.map .int)) [] G
        rw [hzip]
        refine ⟨hzl, lc_f0 (fun p : (List Int × Bool) × Int => D.tup [bndD T.C_Bound p.1.1 p.1.2, .int p.2]) (fun p => .bl (p.1.2 && decide (0 < p.2))) (bs.zip ws) [] (fun p _ N hN => ?_) ?_⟩
        · obtain ⟨⟨f, b⟩, x⟩ := p
          refine ⟨rfl, ?_⟩
          cases b with
          | true => exact hN
          | false => exact hN
        refine ⟨(bs.zip ws).map fun p => p.1.2 && decide (0 < p.2), by rw [List.nil_append, List.map_map]; rfl, ?_⟩
        rw [any_zip]
        cases h2 : (bs.zip ws).any fun p => p.1.2 && decide (0 < p.2) with
        | false => rw [h2] at q'; exact q'
        | true =>
          rw [h2, Bool.true_and] at q'
          refine ⟨m, rfl, by omega, ?_⟩
          show (fun zs => forD _ _ _ zs _ G) (zipD (bs.map fun p => bndD T.C_Bound p.1 p.2) (ws.map .int))
          rw [hzip]
          have hbw := hth.2
          refine for_at (fun j δ G' => G' = G ∧ ∃ z1 z2, δ = [some (bndsL T.C_Bound bs), some (.int m), some (intsD ws), some (intsD (rowI m fun k => SX.sumN j (fun i => ws.getD i 0 * (bs.getD i ([], false)).1.getD k 0))), z1, z2]) ((bs.zip ws).map fun p => D.tup [bndD T.C_Bound p.1.1 p.1.2, .int p.2]) (fun j δ G1 e N he hI hN => ?_) (fun δ G1 hI => ?_) ((bs.zip ws).map fun p => D.tup [bndD T.C_Bound p.1.1 p.1.2, .int p.2]) 0 _ _ (Nat.zero_le _) rfl ⟨rfl, none, none, rfl⟩
          · obtain ⟨rfl, z1, z2, rfl⟩ := hI
            obtain ⟨p, hp, rfl⟩ := map_at2 he
            obtain ⟨⟨f, b⟩, x⟩ := p
            obtain ⟨hp1, hp2⟩ := List.getElem?_zip_eq_some.1 hp
            have hjl := (List.getElem?_eq_some_iff.1 hp1).1
            have hmem := List.mem_of_getElem? hp1
            have hfl : f.length = m := hg.len _ hmem
            have hfb : Bits 201 f := good_bits hg hmem
            have hxb : x.natAbs < 2 ^ 1905 := hbw x (List.mem_of_getElem? hp2)
            have ex : ws.getD j 0 = x := by rw [List.getD_eq_getElem?_getD, hp2]; rfl
            have ef : (bs.getD j ([], false)).1 = f := by rw [List.getD_eq_getElem?_getD, hp1]; rfl
            have efr : f.map (fun n => x * n) = rowI m fun k => x * f.getD k 0 := by
              conv => lhs; rw [row_of f]
              unfold rowI
              rw [hfl, List.map_map]; rfl
            refine ⟨rfl, x, intsD f, f, rfl, .inl rfl, by omega, fun n hn => wide_mul (a := 1905) (b := 201) hxb (hfb n hn) (by decide) (by decide) (by decide), ?_⟩
            rw [efr]
            refine ⟨m, _, _, rfl, by omega, ?_⟩
            refine hN _ _ ⟨rfl, some (bndD T.C_Bound f b), some (.int x), ?_⟩
            have e3 : (rowI m fun k => SX.sumN (j + 1) (fun i => ws.getD i 0 * (bs.getD i ([], false)).1.getD k 0)) = rowI m fun k => SX.sumN j (fun i => ws.getD i 0 * (bs.getD i ([], false)).1.getD k 0) + x * f.getD k 0 := rowI_congr fun k _ => by
              rw [zero_step hjl, ex, ef]
            rw [e3]
            rfl
          · obtain ⟨rfl, z1, z2, rfl⟩ := hI
            have hlz : ((bs.zip ws).map fun p => D.tup [bndD T.C_Bound p.1.1 p.1.2, .int p.2]).length = bs.length := by rw [List.length_map, List.length_zip]; omega
            rw [hlz]
            refine ⟨_, rfl, by rw [rowI_len]; omega, ?_⟩
            have e4 : ((rowI m fun k => SX.sumN bs.length (fun i => ws.getD i 0 * (bs.getD i ([], false)).1.getD k 0)).all fun x => decide (x = 0)) = (List.range m).all fun k => decide (zeroAt bs ws k = 0) := by
              unfold rowI
              rw [List.all_map]; rfl
            rw [e4]
            exact q'
end
section
variable {P : Program} {w : World} {K : PySem.W.Frag} {mg : Str → Option Value} {base : Heap}
def Tny (ns : List Int) : Prop := ∀ n ∈ ns, n.natAbs ≤ 20
theorem tny_bits {ms : List Int} (h : Tny ms) : Bits 1900 ms := fun x hx => Nat.lt_of_le_of_lt (h x hx) (Nat.lt_of_lt_of_le (by decide : 20 < 2 ^ 5) (Nat.pow_le_pow_right (by decide) (by decide)))
def pickD : SpD := fun ds G Q _ => ∃ (p : Addr) (xs : List D) (m : Nat), ds = [.adr p, .lst xs] ∧ G p = some (.pen m) ∧ xs ≠ [] ∧ xs.length ≤ 1000 ∧ m ≤ 2 ^ 20 ∧ ∀ x ∈ xs, Q x (updG G p (.pen (m + 1)))
theorem dok__law_pick (T : Top K mg) : FnD P w K mg base 5 T.a__law_pick T.d__law_pick ["_law_pen_here", "_law_some"] pickD := by
  have G__law_draw := (dok__law_draw (P := P) (w := w) (base := base) T).mono (k := 2) (by decide)
  refine dfn (k := 4) T.F__law_pick sc_law_pick (fun ds G Q W h => ?_) (fun cdv A outer s H E B W hr tk => have hx := hx_of tk; ⟨_, (db_one (ds_ret (de_ix ix_seq ix_A (dv 1) (de_call G__law_draw (hr.mono (by decide)) (by rfl) T.g__law_draw T.F__law_draw.kp T.b__law_draw hx (da_cons (dv 0) (da_cons (de_callB call_len2 len_A (by rfl) T.z_len (by decide +kernel) (da_cons (dv 1) da_nil)) da_nil))) (fun _ _ => rfl)))), fun ds G Q h => ?_⟩)
  · obtain ⟨p, xs, m, rfl, _⟩ := h
    rfl
  · obtain ⟨p, xs, m, rfl, hG, hne, hl, hm, q⟩ := h
    have pos := List.length_pos_iff.mpr hne
    refine ⟨p, xs.length, m, rfl, hG, by omega, by omega, hm, fun r r0 r1 => ?_⟩
    obtain ⟨k, rfl⟩ := Int.eq_ofNat_of_zero_le r0
    have hk : k < xs.length := by omega
    have e : atI xs (k : Int) = some xs[k] := atI_nat (List.getElem?_eq_getElem hk)
    show (match atI xs (k : Int) with | some d => _ | none => _)
    rw [e]
    exact q _ (List.getElem_mem hk)
def factorD : SpD := fun ds G Q _ => ∃ (p : Addr) (m : Nat), ds = [.adr p] ∧ G p = some (.pen m) ∧ m + 1 ≤ 2 ^ 20 ∧ ∀ r : Int, r.natAbs ≤ 20 → Q (.int r) (updG G p (.pen (m + 2)))
theorem dok__law_factor (T : Top K mg) : FnD P w K mg base 9 T.a__law_factor T.d__law_factor ["_law_pen_here"] factorD := by
  have G__law_pick := (dok__law_pick (P := P) (w := w) (base := base) T).mono (k := 6) (by decide)
  have G__law_draw := (dok__law_draw (P := P) (w := w) (base := base) T).mono (k := 6) (by decide)
  refine dfn (k := 8) T.F__law_factor sc_law_factor (fun ds G Q W h => ?_) (fun cdv A outer s H E B W hr tk => have hx := hx_of tk; ⟨_, (db_one (ds_ret (de_call G__law_pick (hr.mono (by decide)) (by rfl) T.g__law_pick T.F__law_pick.kp T.b__law_pick hx (da_cons (dv 0) (da_cons (de_lst (da_cons de_int (da_cons de_int (da_cons de_int (da_cons (de_neg de_int) (da_cons de_int (da_cons (de_neg de_int) (da_cons de_int (da_cons (de_neg de_int) (da_cons (de_sub (de_call G__law_draw (hr.mono (by decide)) (by rfl) T.g__law_draw T.F__law_draw.kp T.b__law_draw hx (da_cons (dv 0) (da_cons de_int da_nil))) de_int) da_nil)))))))))) da_nil))))), fun ds G Q h => ?_⟩)
  · obtain ⟨p, m, rfl, _⟩ := h
    rfl
  · obtain ⟨p, m, rfl, hG, hm, q⟩ := h
    refine ⟨p, 40, m, rfl, hG, by decide, by decide, by omega, fun r r0 r1 => ?_⟩
    refine ⟨(by show 9 ≤ sizeLine; decide), p, _, m + 1, rfl, updG_same, by simp, (by show 9 ≤ 1000; decide), hm, fun x hx => ?_⟩
    rw [updG_updG]
    have : ∃ r : Int, x = .int r ∧ r.natAbs ≤ 20 := by
      simp only [List.mem_cons, List.not_mem_nil, or_false] at hx
      rcases hx with rfl | rfl | rfl | rfl | rfl | rfl | rfl | rfl | rfl <;> refine ⟨_, rfl, ?_⟩ <;> omega
    obtain ⟨r, rfl, hr⟩ := this
    exact q r hr
theorem zip_ints2 (ns ms : List Int) : zipD (ns.map .int) (ms.map .int) = (ns.zip ms).map fun p => .tup [.int p.1, .int p.2] := by
  unfold zipD
  rw [List.zip_map, List.map_map]
  rfl
def lawValueD : SpD := fun ds G Q _ => ∃ (ns ms : List Int) (d : D), ds = [intsD ns, d] ∧ SeqI d ms ∧ ns.length ≤ 1000 ∧ (∀ p ∈ ns.zip ms, CMulW p.1 p.2) ∧ Q (.int (dot ns ms)) G
theorem dok__law_value (T : Top K mg) : FnD P w K mg base 4 T.a__law_value T.d__law_value ["_law_form_here", "_law_numbers"] lawValueD := by
  refine dfn (k := 3) T.F__law_value sc_law_value (fun ds G Q W h => ?_) (fun cdv A outer s H E B W hr tk => have hx := hx_of tk; ⟨_, (db_one (ds_ret (de_callB (cr_sum rfl) sum_A (by rfl) T.z_sum (by decide +kernel) (da_cons (de_lcF (own := [("_law_one", 2), ("_law_other", 3)]) (gV := gTup K 2 (gCons (gName 2) (gCons (gName 3) (gNil)))) finA_l rfl sc_law_value.nd (di_zip (by rfl) T.z_zip (da_cons (dv 0) (da_cons (dv 1) da_nil))) (blkOk_by (own := [("_law_one", 2), ("_law_other", 3)]) (N := N_law_value) (sc := defScope s_law_value) (by decide +kernel)) (cg_tup (cg_cons (cg_name (i := 2) (by decide)) (cg_cons (cg_name (i := 3) (by decide)) cg_nil))) (fun _ _ _ _ _ => (pg_tup (by rfl) (pgs_cons (pg_name (i := 2) sc_law_value.nd rfl (.inl rfl)) (pgs_cons (pg_name (i := 3) sc_law_value.nd rfl (.inl rfl)) pgs_nil)))) (fun _ _ _ _ _ _ => dts_nil) (fun _ _ _ _ _ _ => (de_callTy call_int1 int_A (by rfl) T.z_int (by decide +kernel) (da_cons (de_mul (dv 2) (dv 3)) da_nil)))) da_nil)))), fun ds G Q h => ?_⟩)
  · obtain ⟨ns, ms, d, rfl, _⟩ := h
    rfl
  · obtain ⟨ns, ms, d, rfl, hs, hl, hc, q⟩ := h
    unfold intsD
    show (match seqS (.tup (ns.map .int)), seqS d with | some xs, some ys => _ | _, _ => _)
    rw [seqI_len hs]
    show (zipD (ns.map .int) (ms.map .int)).length < sizeLine ∧ lcD _ _ _ _ _ (zipD (ns.map .int) (ms.map .int)) [] G
    rw [zip_ints2]
    refine ⟨by rw [List.length_map, List.length_zip]; exact small_size (by omega), lc_mapG (fun d => match d with | .tup [.int a, .int b] => .int (a * b) | _ => .non) _ [] (fun e me Q hQ => ?_) ?_⟩
    · obtain ⟨p, mp, rfl⟩ := List.mem_map.mp me
      exact ⟨rfl, hc p mp, hQ⟩
    · refine ⟨(ns.zip ms).map fun (p : Int × Int) => p.1 * p.2, ?_, (show Q (.int (dot ns ms)) G from q)⟩
      rw [List.nil_append, List.map_map, List.map_map]
      rfl
def pairD (p : List Int × Bool) : D := .tup [intsD p.1, .bl p.2]
def asBoundsD (CB : Addr) : SpD := fun ds G Q _ => ∃ bs : Bds, ds = [.lst (bs.map pairD)] ∧ bs.length ≤ 100 ∧ (∀ p ∈ bs, p.1.length ≤ 8) ∧ Q (bndsL CB bs) G
theorem make_ok {CB x : Addr} {G : Gm} {R : QD} {W : WD} {ns : List Int} {b : Bool} (hl : ns.length ≤ 8) (q : R .non (updG G x (.ins CB [("form", intsD ns), ("is_strict", .bl b)]))) : initD CB [.adr x, intsD ns, .bl b] (updG G x (.ins CB [])) R W :=
  ⟨x, ns, b, rfl, updG_same, hl, by rw [updG_updG]; exact q⟩
theorem dok__law_as_bounds (T : Top K mg) : FnD P w K mg base 16 T.a__law_as_bounds T.d__law_as_bounds ["_law_bounds"] (asBoundsD T.C_Bound) := by
  have G_Bound___init__ := (dok_Bound___init__ (P := P) (w := w) (base := base) T).mono (k := 13) (by decide)
  refine dfn (k := 15) T.F__law_as_bounds sc_law_as_bounds (fun ds G Q W h => ?_) (fun cdv A outer s H E B W hr tk => have hx := hx_of tk; ⟨_, (db_one (ds_ret (de_lcF (own := [("_law_form_here", 1), ("_law_is_so", 2)]) (gV := gTup K 2 (gCons (gName 1) (gCons (gName 2) (gNil)))) finA_l rfl sc_law_as_bounds.nd (di_list (dv 0)) (blkOk_by (own := [("_law_form_here", 1), ("_law_is_so", 2)]) (N := N_law_as_bounds) (sc := defScope s_law_as_bounds) (by decide +kernel)) (cg_tup (cg_cons (cg_name (i := 1) (by decide)) (cg_cons (cg_name (i := 2) (by decide)) cg_nil))) (fun _ _ _ _ _ => (pg_tup (by rfl) (pgs_cons (pg_name (i := 1) sc_law_as_bounds.nd rfl (.inl rfl)) (pgs_cons (pg_name (i := 2) sc_law_as_bounds.nd rfl (.inl rfl)) pgs_nil)))) (fun _ _ _ _ _ _ => dts_nil) (fun _ _ _ _ _ _ => (de_make T.mk_Bound T.gc_Bound G_Bound___init__ (hr.mono (by decide)) rfl T.g_Bound T.b_Bound___init__ hx0 (da_cons (dv 1) (da_cons (dv 2) da_nil))))))), fun ds G Q h => ?_⟩)
  · obtain ⟨_, rfl, _⟩ := h
    rfl
  · obtain ⟨bs, rfl, hn, hl, q⟩ := h
    refine ⟨by rw [List.length_map]; exact small_size (by omega), lc_mapG (fun d => match d with | .tup [f, b] => .ins T.C_Bound [("form", f), ("is_strict", b)] | _ => .non) _ [] (fun e me R hR => ?_) ?_⟩
    · obtain ⟨p, mp, rfl⟩ := List.mem_map.mp me
      refine ⟨rfl, fun x nx => make_ok (hl p mp) ⟨rfl, ?_⟩⟩
      show (match updG G x _ x with | some (.ins C' fs) => _ | _ => _)
      rw [updG_same, delG_updG nx]
      exact hR
    · have e : ([] ++ (bs.map pairD).map (fun d => match d with | .tup [f, b] => .ins T.C_Bound [("form", f), ("is_strict", b)] | _ => .non)) = bs.map fun p => bndD T.C_Bound p.1 p.2 := by
        rw [List.nil_append, List.map_map]; rfl
      rw [e]
      exact q
end
section
variable {P : Program} {w : World} {K : PySem.W.Frag} {mg : Str → Option Value} {base : Heap}
theorem dok_shows_clash (T : Top K mg) : FnD P w K mg base 12 T.a_shows_clash T.d_shows_clash ["bounds", "many", "value"] (showsX T.C_Bound T.C_Point T.C_Clash scT) := by
  have G_check_bounds := (dok_check_bounds (P := P) (w := w) (base := base) T).mono (k := 9) (by decide)
  have G_are_clashing := (dok_are_clashing (P := P) (w := w) (base := base) T).mono (k := 9) (by decide)
  refine dfn (k := 11) T.F_shows_clash scshows_clash (fun ds G Q W h => ?_) (fun cdv A outer s H E B W hr tk => have hx := hx_of tk; ⟨_, (db_cons (ds_expr (de_call G_check_bounds (hr.mono (by decide)) (by rfl) T.g_check_bounds T.F_check_bounds.kp T.b_check_bounds hx (da_cons (dv 0) (da_cons (dv 1) da_nil))))
  (db_one (ds_ret (de_and (de_isCK (K := K) (C := T.C_Clash) rfl (by rfl) T.z_isinstance (by decide +kernel) (dv 2) (pe_glob rfl T.g_Clash rfl)) (de_one (de_call G_are_clashing (hr.mono (by decide)) (by rfl) T.g_are_clashing T.F_are_clashing.kp T.b_are_clashing hx (da_cons (dv 0) (da_cons (dv 1) (da_cons (de_fld (dv 2)) da_nil))))))))), fun ds G Q h => ?_⟩)
  · obtain ⟨_, _, _, rfl, _⟩ := h
    rfl
  · obtain ⟨bs, m, th, rfl, hg, hth, q⟩ := h
    have hm := hg.m8
    have hn := hg.n80
    refine ⟨_, bs, m, rfl, .inl rfl, hm, hn, hg.len, ?_⟩
    cases th with
    | pt ns => exact ⟨_, false, .ins rfl, T.kt_Point_Clash, q⟩
    | ptB n => exact ⟨_, false, .ins rfl, T.kt_Point_Clash, q⟩
    | ptS xs => exact ⟨_, false, .ins rfl, T.kt_Point_Clash, q⟩
    | ptL ns => exact ⟨_, false, .ins rfl, T.kt_Point_Clash, q⟩
    | ptN => exact ⟨_, false, .ins rfl, T.kt_Point_Clash, q⟩
    | cl ws => exact ⟨_, true, .ins rfl, T.ki_Clash, bs, m, .cl ws, _, rfl, rfl, hg, hth, q⟩
    | clB n => exact ⟨_, true, .ins rfl, T.ki_Clash, bs, m, .clB n, _, rfl, rfl, hg, hth, q⟩
    | clL ws => exact ⟨_, true, .ins rfl, T.ki_Clash, bs, m, .clL ws, _, rfl, rfl, hg, hth, q⟩
    | clN => exact ⟨_, true, .ins rfl, T.ki_Clash, bs, m, .clN, _, rfl, rfl, hg, hth, q⟩
    | tup ns => exact ⟨_, false, .ki rfl, T.kn_tuple_Clash, q⟩
    | non => exact ⟨_, false, .ki rfl, T.kn_NoneType_Clash, q⟩
def lawFormD : SpD := fun ds G Q _ => ∃ (p : Addr) (n m : Nat), ds = [.adr p, .int n] ∧ G p = some (.pen m) ∧ n ≤ 100 ∧ m + 2 * n ≤ 2 ^ 20 ∧ ∀ ns : List Int, ns.length = n → Tny ns → Q (intsD ns) (updG G p (.pen (m + 2 * n)))
theorem dok__law_form (T : Top K mg) : FnD P w K mg base 13 T.a__law_form T.d__law_form ["_law_pen_here", "_law_many"] lawFormD := by
  have G__law_factor := (dok__law_factor (P := P) (w := w) (base := base) T).mono (k := 10) (by decide)
  refine dfn (k := 12) T.F__law_form sc_law_form (fun ds G Q W h => ?_) (fun cdv A outer s H E B W hr tk => have hx := hx_of tk; ⟨_, (db_one (ds_ret (de_callTy call_tuple_of tup_A (by rfl) T.z_tuple (by decide +kernel) (da_cons (de_lcF (own := [("_law_k", 2)]) (gV := gName 2) finA_l rfl sc_law_form.nd (di_range1 (by rfl) T.z_range (da_cons (dv 1) da_nil)) (blkOk_by (own := [("_law_k", 2)]) (N := N_law_form) (sc := defScope s_law_form) (by decide +kernel)) (cg_name (i := 2) (by decide)) (fun _ _ _ _ _ => (pg_name (i := 2) sc_law_form.nd rfl (.inl rfl))) (fun _ _ _ _ _ _ => dts_nil) (fun _ _ _ _ _ _ => (de_call G__law_factor (hr.mono (by decide)) (by rfl) T.g__law_factor T.F__law_factor.kp T.b__law_factor hx0 (da_cons (dv 0) da_nil)))) da_nil)))), fun ds G Q h => ?_⟩)
  · obtain ⟨p, n, m, rfl, _⟩ := h
    rfl
  · obtain ⟨p, n, m, rfl, hG, hn, hm, q⟩ := h
    have el : (rangeD 0 (n : Int).toNat).length = n := by simp [rangeD]
    refine ⟨⟨by omega, by omega⟩, by rw [el]; exact small_size (by omega), ?_⟩
    refine lc_inv' (fun j acc G' => ∃ ns : List Int, acc = ns.map .int ∧ ns.length = j ∧ Tny ns ∧ G' = updG G p (.pen (m + 2 * j))) (n := n) _ [] 0 G (by rw [Nat.zero_add]; exact el) (fun j acc G' d R hd hj hI hR => ?_) ⟨[], rfl, rfl, fun _ h => (by cases h), (updG_self hG).symm⟩ (fun acc G' hI => ?_)
    · obtain ⟨ns, rfl, hl, hs, rfl⟩ := hI
      refine ⟨p, m + 2 * j, rfl, updG_same, by omega, fun r hr => ?_⟩
      rw [updG_updG]
      refine hR _ _ ⟨ns ++ [r], by rw [List.map_append]; rfl, by rw [List.length_append, hl]; rfl, fun x hx => ?_, rfl⟩
      rcases List.mem_append.mp hx with hx | hx
      · exact hs x hx
      · rw [List.mem_singleton.mp hx]
        exact hr
    · obtain ⟨ns, rfl, hl, hs, rfl⟩ := hI
      exact q ns hl hs
def plainD : SpD := fun ds G Q _ => ∃ (p : Addr) (n k m : Nat), ds = [.adr p, .int n, .int k] ∧ G p = some (.pen m) ∧ n ≤ 8 ∧ k ≤ 20 ∧ m + 1 + (2 * n + 1) * k ≤ 2 ^ 20 ∧ ∀ (bs : Bds) (m' : Nat), bs.length ≤ k → (∀ b ∈ bs, b.1.length = n ∧ Tny b.1) → m' ≤ m + 1 + (2 * n + 1) * k → Q (.lst (bs.map pairD)) (updG G p (.pen m'))
theorem dok__law_plain_bounds (T : Top K mg) : FnD P w K mg base 17 T.a__law_plain_bounds T.d__law_plain_bounds ["_law_pen_here", "_law_many", "_law_most"] plainD := by
  have G__law_form := (dok__law_form (P := P) (w := w) (base := base) T).mono (k := 14) (by decide)
  have G__law_pick := (dok__law_pick (P := P) (w := w) (base := base) T).mono (k := 14) (by decide)
  have G__law_draw := (dok__law_draw (P := P) (w := w) (base := base) T).mono (k := 14) (by decide)
  refine dfn (k := 16) T.F__law_plain_bounds sc_law_plain_bounds (fun ds G Q W h => ?_) (fun cdv A outer s H E B W hr tk => have hx := hx_of tk; ⟨_, (db_one (ds_ret (de_lcF (own := [("_law_k", 3)]) (gV := gName 3) finA_l rfl sc_law_plain_bounds.nd (di_range1 (by rfl) T.z_range (da_cons (de_call G__law_draw (hr.mono (by decide)) (by rfl) T.g__law_draw T.F__law_draw.kp T.b__law_draw hx (da_cons (dv 0) (da_cons (de_add (dv 2) de_int) da_nil))) da_nil)) (blkOk_by (own := [("_law_k", 3)]) (N := N_law_plain_bounds) (sc := defScope s_law_plain_bounds) (by decide +kernel)) (cg_name (i := 3) (by decide)) (fun _ _ _ _ _ => (pg_name (i := 3) sc_law_plain_bounds.nd rfl (.inl rfl))) (fun _ _ _ _ _ _ => dts_nil) (fun _ _ _ _ _ _ => (de_tup (da_cons (de_call G__law_form (hr.mono (by decide)) (by rfl) T.g__law_form T.F__law_form.kp T.b__law_form hx0 (da_cons (dv 0) (da_cons (dv 1) da_nil))) (da_cons (de_call G__law_pick (hr.mono (by decide)) (by rfl) T.g__law_pick T.F__law_pick.kp T.b__law_pick hx0 (da_cons (dv 0) (da_cons (de_lst (da_cons de_bl (da_cons de_bl da_nil))) da_nil))) da_nil))))))), fun ds G Q h => ?_⟩)
  · obtain ⟨_, _, _, _, rfl, _⟩ := h
    rfl
  · obtain ⟨p, n, k, m, rfl, hG, hn, hk, hm, q⟩ := h
    refine ⟨p, k + 1, m, by rfl, hG, by omega, by omega, by omega, fun r r0 r1 => ?_⟩
    obtain ⟨t, rfl⟩ := Int.eq_ofNat_of_zero_le r0
    have ht : t ≤ k := by omega
    have hmul : (2 * n + 1) * t ≤ (2 * n + 1) * k := Nat.mul_le_mul_left _ ht
    have el : (rangeD 0 (t : Int).toNat).length = t := by simp [rangeD]
    refine ⟨⟨by omega, by omega⟩, by rw [el]; exact small_size (by omega), ?_⟩
    refine lc_inv' (fun j acc G' => ∃ bs : Bds, acc = bs.map pairD ∧ bs.length = j ∧ (∀ b ∈ bs, b.1.length = n ∧ Tny b.1) ∧ G' = updG G p (.pen (m + 1 + (2 * n + 1) * j))) (n := t) _ [] 0 _ (by rw [Nat.zero_add]; exact el) (fun j acc G' d R hd hj hI hR => ?_) ⟨[], rfl, rfl, fun _ h => (by cases h), rfl⟩ (fun acc G' hI => ?_)
    · obtain ⟨bs, rfl, hl, hb, rfl⟩ := hI
      have hmj : (2 * n + 1) * (j + 1) ≤ (2 * n + 1) * t := Nat.mul_le_mul_left _ hj
      have hmj2 : (2 * n + 1) * (j + 1) = (2 * n + 1) * j + (2 * n + 1) := Nat.mul_succ _ _
      refine ⟨p, n, _, rfl, updG_same, by omega, by omega, fun ns hns hnt => ?_⟩
      rw [updG_updG]
      refine ⟨small1000 (show 2 ≤ 1000 by decide), p, [.bl true, .bl false], m + 1 + (2 * n + 1) * j + 2 * n, rfl, updG_same, by simp, (show 2 ≤ 1000 by decide), by omega, fun x hx => ?_⟩
      rw [updG_updG]
      have hx2 : ∃ b, x = .bl b := by
        simp only [List.mem_cons, List.not_mem_nil, or_false] at hx
        rcases hx with rfl | rfl <;> exact ⟨_, rfl⟩
      obtain ⟨b, rfl⟩ := hx2
      refine ⟨small1000 (show 2 ≤ 1000 by decide), ?_⟩
      refine hR _ _ ⟨bs ++ [(ns, b)], by rw [List.map_append]; rfl, by rw [List.length_append, hl]; rfl, fun c hc => ?_, by rw [show m + 1 + (2 * n + 1) * j + 2 * n + 1 = m + 1 + (2 * n + 1) * (j + 1) by omega]⟩
      rcases List.mem_append.mp hc with hc | hc
      · exact hb c hc
      · rw [List.mem_singleton.mp hc]; exact ⟨hns, hnt⟩
    · obtain ⟨bs, rfl, hl, hb, rfl⟩ := hI
      exact q bs _ (by omega) hb (by omega)
end
section
variable {P : Program} {w : World} {K : PySem.W.Frag} {mg : Str → Option Value} {base : Heap}
theorem holds_rd (b : Bool) (v : Int) : holds b v = !(decide (v < 0) || (b && decide (v = 0))) := by
  unfold holds
  cases b with
  | true =>
    rw [if_pos rfl, Bool.true_and]
    by_cases h1 : v < 0
    · rw [decide_eq_true h1, decide_eq_false (by omega)]; rfl
    · by_cases h2 : v = 0
      · rw [decide_eq_true h2, decide_eq_false h1, decide_eq_false (by omega)]; rfl
      · rw [decide_eq_false h2, decide_eq_false h1, decide_eq_true (by omega)]; rfl
  | false =>
    rw [if_neg (by decide), Bool.false_and, Bool.or_false]
    by_cases h1 : v < 0
    · rw [decide_eq_true h1, decide_eq_false (by omega)]; rfl
    · rw [decide_eq_false h1, decide_eq_true (by omega)]; rfl
theorem sh_int {i : Int} (h : i.natAbs < 2 ^ 1905) : Sh (.int i) := by
  refine ⟨rfl, ?_, by simp only [toP, PyData.hasDict], by simp only [toP, PyData.depth]; omega, ?_⟩
  · simp only [toP, PyData.showable]
    refine decide_eq_true ?_
    rcases Nat.eq_zero_or_pos i.natAbs with h0 | h0
    · rw [h0]; decide
    · exact (Nat.log2_lt (by omega)).mpr (Nat.lt_of_lt_of_le h (Nat.pow_le_pow_right (by decide) (by decide)))
  · have h10 : i.natAbs < 10 ^ 600 := Nat.lt_of_lt_of_le h (by decide +kernel)
    have e := int_text_length_le10 (k := 600) (by decide) h10
    show (Str.ofString (toString i)).length ≤ sizeLine
    rw [PySem.ofString_length]
    exact Nat.le_trans e (by rw [sizeLine_eq]; decide)
def holdsD : SpD := fun ds G Q _ => ∃ (bs : Bds) (d : D) (xs : List Int), ds = [.lst (bs.map pairD), d] ∧ SeqI d xs ∧ bs.length ≤ 1000 ∧ (∀ p ∈ bs, p.1.length ≤ 1000 ∧ ∀ q ∈ p.1.zip xs, CMulW q.1 q.2) ∧ Q (.bl (bs.all fun p => holds p.2 (dot p.1 xs))) G
theorem dok__law_holds (T : Top K mg) : FnD P w K mg base 8 T.a__law_holds T.d__law_holds ["_law_bounds", "_law_numbers"] holdsD := by
  have G__law_value := (dok__law_value (P := P) (w := w) (base := base) T).mono (k := 5) (by decide)
  refine dfn (k := 7) T.F__law_holds sc_law_holds (fun ds G Q W h => ?_) (fun cdv A outer s H E B W hr tk => have hx := hx_of tk; ⟨_, (db_cons (ds_for (passes_of rfl) rfl (di_list (dv 0)) (dg_tup (by rfl) (dgs_cons (dg_name (i := 2) sc_law_holds.nd rfl (.inl rfl)) (dgs_cons (dg_name (i := 3) sc_law_holds.nd rfl (.inl rfl)) dgs_nil)))
    (db_cons (ds_set (i := 4) sc_law_holds.nd rfl (.inl rfl) (de_call G__law_value (hr.mono (by decide)) (by rfl) T.g__law_value T.F__law_value.kp T.b__law_value hx (da_cons (dv 2) (da_cons (dv 1) da_nil))))
  (db_one (ds_if (dw_pt (dw_or (dt_cmp op_lt lt_A (dv 4) de_int (nomark _)) (dw_or1 (dw_pt (dw_and (dt_val (dv 3)) (dw_and1 (dt_cmp (op_eqD (Room.units hr)) eqI_A (dv 4) de_int (nomark _))))))))
    (db_one (ds_ret de_bl))
    db_nil))))
  (db_one (ds_ret de_bl))), fun ds G Q h => ?_⟩)
  · obtain ⟨_, _, _, rfl, _⟩ := h
    rfl
  · obtain ⟨bs, d, xs, rfl, hd, hn, hc, q⟩ := h
    refine for_at (fun j δ G' => G' = G ∧ (∀ p ∈ bs.take j, holds p.2 (dot p.1 xs) = true) ∧ ∃ z1 z2 z3, δ = [some (.lst (bs.map pairD)), some d, z1, z2, z3]) (bs.map pairD) (fun j δ G1 e N he hI hN => ?_) (fun δ G1 hI => ?_) (bs.map pairD) 0 _ _ (Nat.zero_le _) rfl ⟨rfl, fun p hp => (by cases hp), none, none, none, rfl⟩
    · obtain ⟨rfl, hall, z1, z2, z3, rfl⟩ := hI
      obtain ⟨p, hp, rfl⟩ := map_at2 he
      obtain ⟨f, b⟩ := p
      have hmem := List.mem_of_getElem? hp
      refine ⟨rfl, f, xs, d, rfl, hd, (hc _ hmem).1, (hc _ hmem).2, ?_⟩
      have hr := holds_rd b (dot f xs)
      have hno : holds b (dot f xs) = false → (bs.all fun p => holds p.2 (dot p.1 xs)) = false := fun h => List.all_eq_false.2 ⟨(f, b), hmem, by rw [h]; decide⟩
      have hyes : holds b (dot f xs) = true → N [some (.lst (bs.map pairD)), some d, some (intsD f), some (.bl b), some (.int (dot f xs))] G1 := fun h => by
        refine hN _ _ ⟨rfl, fun p hp2 => ?_, _, _, _, rfl⟩
        rw [List.take_succ, hp] at hp2
        rcases List.mem_append.1 hp2 with h1 | h1
        · exact hall p h1
        · rw [List.mem_singleton.1 h1]; exact h
      show (match decide (dot f xs < 0) with | true => _ | false => _)
      by_cases h1 : dot f xs < 0
      · rw [decide_eq_true h1]
        rw [decide_eq_true h1, Bool.true_or] at hr
        rw [hno hr] at q
        exact q
      · rw [decide_eq_false h1]
        rw [decide_eq_false h1, Bool.false_or] at hr
        cases b with
        | true =>
          refine ⟨pl_int, pl_int, ?_⟩
          rw [eqvD_int]
          rw [Bool.true_and] at hr
          by_cases h2 : dot f xs = 0
          · rw [decide_eq_true h2]
            rw [decide_eq_true h2] at hr
            rw [hno hr] at q
            exact q
          · rw [decide_eq_false h2]
            rw [decide_eq_false h2] at hr
            exact hyes hr
        | false => exact hyes hr
    · obtain ⟨rfl, hall, z1, z2, z3, rfl⟩ := hI
      rw [List.length_map, List.take_length] at hall
      have : (bs.all fun p => holds p.2 (dot p.1 xs)) = true := List.all_eq_true.2 hall
      rw [this] at q
      exact q
def clashesD : SpD := fun ds G Q _ => ∃ (bs : Bds) (m : Nat) (ws : List Int), ds = [.lst (bs.map pairD), intsD ws] ∧ Bits 1905 ws ∧ ws.length ≤ 1000 ∧ (∀ p ∈ bs, p.1.length = m ∧ Bits 201 p.1) ∧ bs ≠ [] ∧ bs.length ≤ 1000 ∧ m ≤ 8 ∧ Q (.bl (clB bs m ws)) G
theorem any_swap (ws : List Int) : ∀ bs : Bds, ((bs.zip ws).any fun p => p.1.2 && decide (0 < p.2)) = (ws.zip bs).any fun p => p.2.2 && decide (0 < p.1) := by
  induction ws with
  | nil => intro bs; cases bs <;> rfl
  | cons x ws ih =>
    intro bs
    cases bs with
    | nil => rfl
    | cons b bs =>
      rw [List.zip_cons_cons, List.zip_cons_cons, List.any_cons, List.any_cons, ih]
theorem dok__law_clashes (T : Top K mg) : GnD P w K mg base 4 T.a__law_clashes T.d__law_clashes ["_law_bounds", "_law_weights"] clashesD := by
  refine dfg (k := 3) T.F__law_clashes sc_law_clashes (fun ds G Q W h => ?_) (fun cdv A outer s H E B hg hr => ⟨_, (db_cons (ds_if (dw_pt (dw_or (dt_not (dt_val (de_isK (j := .tup) (by rfl) T.z_isinstance (by decide +kernel) (dv 1) (pe_bltn (by rfl) T.z_tuple (by decide +kernel) rfl)))) (dw_or1 (dt_cmp (op_neD (Room.units hr)) neI_A (de_callB call_len2 len_A (by rfl) T.z_len (by decide +kernel) (da_cons (dv 1) da_nil)) (de_callB call_len2 len_A (by rfl) T.z_len (by decide +kernel) (da_cons (dv 0) da_nil)) (nomark _)))))
    (db_one (ds_ret de_bl))
    db_nil)
  (db_cons (ds_if (dt_cmp (op_neD (Room.units hr)) neI_A (de_lcF (own := [("_law_one", 4)]) (gV := gName 4) finA_l rfl sc_law_clashes.nd (di_tup (dv 1)) (blkOk_by (own := [("_law_one", 4)]) (N := N_law_clashes) (sc := defScope s_law_clashes) (by decide +kernel)) (cg_name (i := 4) (by decide)) (fun _ _ _ _ _ => (pg_name (i := 4) sc_law_clashes.nd rfl (.inl rfl))) (fun _ _ _ _ _ _ => (dts_one (dw_pt (dw_or (dt_cmp op_ne neSI_A (de_callB (call_repr hg (Room.units hr)) reprI_A (by rfl) T.z_repr (by decide +kernel) (da_cons (dv 4) da_nil)) (de_callB (call_repr hg (Room.units hr)) reprI_A (by rfl) T.z_repr (by decide +kernel) (da_cons (de_callTy call_int1 int_A (by rfl) T.z_int (by decide +kernel) (da_cons (dv 4) da_nil)) da_nil)) (nomark _)) (dw_or1 (dt_cmp op_lt lt_A (dv 4) de_int (nomark _))))))) (fun _ _ _ _ _ _ => (dv 4))) (de_lst da_nil) (nomark _))
    (db_one (ds_ret de_bl))
    db_nil)
  (db_cons (ds_set (i := 2) sc_law_clashes.nd rfl (.inl rfl) (de_if (dt_cmp (op_ne0 (Room.units0 hr)) ne0_A (dv 0) (de_lst da_nil) (nomark _)) (de_callB call_len2 len_A (by rfl) T.z_len (by decide +kernel) (da_cons (de_ix ix_seq ix_A (de_ix ix_seq ix_A (dv 0) de_int (fun _ _ => rfl)) de_int (fun _ _ => rfl)) da_nil)) de_int))
  (db_cons (ds_for PassesOwn.never rfl (di_range1 (by rfl) T.z_range (da_cons (dv 2) da_nil)) (dg_name (i := 3) sc_law_clashes.nd rfl (.inr rfl))
    (db_one (ds_if (dt_cmp (op_neD (Room.units hr)) neI_A (de_callB (cr_sum rfl) sum_A (by rfl) T.z_sum (by decide +kernel) (da_cons (de_lcF (own := [("_law_one", 4), ("_law_bound", 5)]) (gV := gTup K 2 (gCons (gName 4) (gCons (gName 5) (gNil)))) finA_l rfl sc_law_clashes.nd (di_zip (by rfl) T.z_zip (da_cons (dv 1) (da_cons (dv 0) da_nil))) (blkOk_by (own := [("_law_one", 4), ("_law_bound", 5)]) (N := N_law_clashes) (sc := defScope s_law_clashes) (by decide +kernel)) (cg_tup (cg_cons (cg_name (i := 4) (by decide)) (cg_cons (cg_name (i := 5) (by decide)) cg_nil))) (fun _ _ _ _ _ => (pg_tup (by rfl) (pgs_cons (pg_name (i := 4) sc_law_clashes.nd rfl (.inl rfl)) (pgs_cons (pg_name (i := 5) sc_law_clashes.nd rfl (.inl rfl)) pgs_nil)))) (fun _ _ _ _ _ _ => dts_nil) (fun _ _ _ _ _ _ => (de_callTy call_int1 int_A (by rfl) T.z_int (by decide +kernel) (da_cons (de_mul (dv 4) (de_ix ix_seq ix_A (de_ix ix_seq ix_A (dv 5) de_int (fun _ _ => rfl)) (dv 3) (fun _ _ => rfl))) da_nil)))) da_nil)) de_int (nomark _))
    (db_one (ds_ret de_bl))
    db_nil)))
  (db_one (ds_ret (de_cmp (op_neD (Room.units hr)) neI_A (de_lcF (own := [("_law_one", 4), ("_law_bound", 5)]) (gV := gTup K 2 (gCons (gName 4) (gCons (gName 5) (gNil)))) finA_l rfl sc_law_clashes.nd (di_zip (by rfl) T.z_zip (da_cons (dv 1) (da_cons (dv 0) da_nil))) (blkOk_by (own := [("_law_one", 4), ("_law_bound", 5)]) (N := N_law_clashes) (sc := defScope s_law_clashes) (by decide +kernel)) (cg_tup (cg_cons (cg_name (i := 4) (by decide)) (cg_cons (cg_name (i := 5) (by decide)) cg_nil))) (fun _ _ _ _ _ => (pg_tup (by rfl) (pgs_cons (pg_name (i := 4) sc_law_clashes.nd rfl (.inl rfl)) (pgs_cons (pg_name (i := 5) sc_law_clashes.nd rfl (.inl rfl)) pgs_nil)))) (fun _ _ _ _ _ _ => (dts_one (dw_pt (dw_and (dt_val (de_ix ix_seq ix_A (dv 5) de_int (fun _ _ => rfl))) (dw_and1 (dt_cmp op_gt gt_A (dv 4) de_int (nomark _))))))) (fun _ _ _ _ _ _ => de_int)) (de_lst da_nil) (nomark _)))))))), fun ds G Q W h => ?_⟩)
  · obtain ⟨_, _, _, rfl, _⟩ := h
    rfl
  · obtain ⟨bs, m, ws, rfl, hbw, hwn, hbs, hne, hn, hm, q⟩ := h
    refine ⟨pl_int, pl_int, ?_⟩
    rw [eqvD_int, List.length_map, List.length_map]
    show (match !decide ((ws.length : Int) = (bs.length : Int)) with | true => _ | false => _)
    by_cases hwl : ws.length = bs.length
    case neg =>
      rw [decide_eq_false (show ¬ (ws.length : Int) = (bs.length : Int) by omega)]
      have e : clB bs m ws = false := by
        unfold clB
        rw [decide_eq_false hwl]; rfl
      rw [e] at q
      exact q
    rw [decide_eq_true (show (ws.length : Int) = (bs.length : Int) by omega)]
    have q' : Q (.bl ((ws.all fun x => decide (0 ≤ x)) && ((ws.zip bs).any fun p => p.2.2 && decide (0 < p.1)) && (List.range m).all fun k => decide (zeroAt bs ws k = 0))) G := by
      have e : clB bs m ws = ((ws.all fun x => decide (0 ≤ x)) && ((ws.zip bs).any fun p => p.2.2 && decide (0 < p.1)) && (List.range m).all fun k => decide (zeroAt bs ws k = 0)) := by
        unfold clB
        rw [decide_eq_true hwl, Bool.true_and, any_swap]
      rw [e] at q; exact q
    clear q
    refine ⟨by rw [List.length_map]; exact small_size (by omega), lc_fm (fun x : Int => D.int x) (fun x => decide (x < 0)) (fun x => .int x) ws [] (fun x hx acc N2 h1 h2 => ?_) ?_⟩
    · refine reprI (sh_int (hbw x hx)) ?_
      refine reprI (sh_int (hbw x hx)) ?_
      refine neSI_self ?_
      show (match decide (x < 0) with | true => _ | false => _)
      by_cases hx0 : x < 0
      · rw [decide_eq_true hx0]; exact h1 (decide_eq_true hx0)
      · rw [decide_eq_false hx0]; exact h2 (decide_eq_false hx0)
    refine ⟨Nat.zero_le _, neI_l0 (fun d hd => ?_) ?_⟩
    · rw [List.nil_append] at hd
      obtain ⟨_, _, rfl⟩ := List.mem_map.1 hd
      exact pl_int
    by_cases h0 : (ws.all fun x => decide (0 ≤ x)) = true
    case neg =>
      have h0' : (ws.all fun x => decide (0 ≤ x)) = false := by simpa using h0
      rw [h0'] at q'
      have e : decide (([] : List D) ++ (ws.filter fun x => decide (x < 0)).map (fun x => D.int x) = []) = false := decide_eq_false fun z => by
        rw [List.nil_append, List.map_eq_nil_iff, List.filter_eq_nil_iff] at z
        refine h0 (List.all_eq_true.2 fun x hx => decide_eq_true ?_)
        have := z x hx
        simp only [decide_eq_true_eq] at this
        omega
      rw [e]
      exact q'
    rw [h0, Bool.true_and] at q'
    have e : decide (([] : List D) ++ (ws.filter fun x => decide (x < 0)).map (fun x => D.int x) = []) = true := decide_eq_true (by
      rw [List.nil_append, List.map_eq_nil_iff, List.filter_eq_nil_iff]
      intro x hx
      have := of_decide_eq_true (List.all_eq_true.1 h0 x hx)
      simp only [decide_eq_true_eq]
      omega)
    rw [e]
    refine ⟨Nat.zero_le _, bs.map pairD, rfl, rfl, ?_⟩
    obtain ⟨p0, rest, hb0⟩ : ∃ p0 rest, bs = p0 :: rest := by
      cases bs with
      | nil => exact absurd rfl hne
      | cons p0 rest => exact ⟨p0, rest, rfl⟩
    have hb0' : (bs.map pairD).isEmpty = false := by rw [hb0]; rfl
    show (match !(bs.map pairD).isEmpty with | true => _ | false => _)
    rw [hb0']
    have e0 : atI (bs.map pairD) 0 = some (pairD p0) := atI_nat (j := 0) (by rw [hb0]; rfl)
    show (match atI (bs.map pairD) 0 with | some d => _ | none => _)
    rw [e0]
    have hp0 : p0.1.length = m := (hbs p0 (by rw [hb0]; exact List.mem_cons_self)).1
    have el : (((p0.1.map D.int).length : Nat) : Int) = m := by rw [List.length_map, hp0]
    have hzip : ∀ (R : List D → Prop), R ((ws.zip bs).map fun p => .tup [.int p.1, pairD p.2]) → R (zipD (ws.map .int) (bs.map pairD)) := fun R h => by
      have : zipD (ws.map .int) (bs.map pairD) = (ws.zip bs).map fun p => D.tup [.int p.1, pairD p.2] := by
        unfold zipD
        rw [List.zip_map, List.map_map]; rfl
      rw [this]; exact h
    have hzl : ((ws.zip bs).map fun p => D.tup [.int p.1, pairD p.2]).length < sizeLine := by
      rw [List.length_map, List.length_zip]; exact small_size (by omega)
    have hsum : ∀ k, ((ws.zip bs).map fun p => p.1 * p.2.1.getD k 0).sum = zeroAt bs ws k := fun k => sum_zip (n := bs.length) _ _ hwl rfl (fun j p _ hp => by rw [List.getD_eq_getElem?_getD (l := bs), hp]; rfl)
    refine ⟨⟨by rw [el]; omega, by rw [el]; omega⟩, ?_⟩
    rw [el, Int.toNat_natCast]
    refine for_at (fun j δ G' => G' = G ∧ (∀ k, k < j → zeroAt bs ws k = 0) ∧ ∃ z1 z2 z3, δ = [some (.lst (bs.map pairD)), some (intsD ws), some (.int m), z1, z2, z3]) (rangeD 0 m) (fun j δ G1 e N he hI hN => ?_) (fun δ G1 hI => ?_) (rangeD 0 m) 0 _ _ (Nat.zero_le _) rfl ⟨rfl, fun k hk => absurd hk (Nat.not_lt_zero _), none, none, none, rfl⟩
    · obtain ⟨rfl, hz0, z1, z2, z3, rfl⟩ := hI
      obtain ⟨hj, rfl⟩ := range_get he
      show (zipD (ws.map .int) (bs.map pairD)).length < sizeLine ∧ lcD _ _ _ _ _ (zipD (ws.map .int) (bs.map pairD)) [] G1
      refine hzip (fun zs => zs.length < sizeLine ∧ lcD _ _ _ _ _ zs [] G1) ⟨hzl, ?_⟩
      refine lc_f0 (fun p => D.tup [.int p.1, pairD p.2]) (fun p => .int (p.1 * p.2.1.getD j 0)) (ws.zip bs) [] (fun p hp N2 hN2 => ?_) ?_
      · have hp2 := hbs p.2 (List.of_mem_zip hp).2
        have hw := hbw p.1 (List.of_mem_zip hp).1
        have hget : p.2.1[j]? = some (p.2.1[j]'(by omega)) := List.getElem?_eq_getElem (by omega)
        have ea : atI (p.2.1.map D.int) (j : Int) = some (.int (p.2.1.getD j 0)) := atI_nat (by rw [List.getElem?_map, List.getD_eq_getElem?_getD, hget]; rfl)
        have hbj : (p.2.1.getD j 0).natAbs < 2 ^ 201 := by
          rw [List.getD_eq_getElem?_getD, hget]
          exact hp2.2 _ (List.getElem_mem _)
        refine ⟨rfl, ?_⟩
        show (match atI (p.2.1.map D.int) (j : Int) with | some d => _ | none => _)
        rw [ea]
        exact ⟨wide_mul (a := 1905) (b := 201) hw hbj (by decide) (by decide) (by decide), hN2⟩
      · refine ⟨(ws.zip bs).map fun p => p.1 * p.2.1.getD j 0, by rw [List.nil_append, List.map_map]; rfl, ?_⟩
        rw [hsum j]
        refine ⟨pl_int, pl_int, ?_⟩
        rw [eqvD_int]
        by_cases hzj : zeroAt bs ws j = 0
        · rw [decide_eq_true hzj]
          refine hN _ _ ⟨rfl, fun k hk => ?_, some (.int j), z2, z3, rfl⟩
          rcases Nat.lt_or_ge k j with h1 | h1
          · exact hz0 k h1
          · have : k = j := by omega
            rw [this]; exact hzj
        · rw [decide_eq_false hzj]
          have e5 : ((List.range m).all fun k => decide (zeroAt bs ws k = 0)) = false := List.all_eq_false.2 ⟨j, List.mem_range.2 hj, by rw [decide_eq_false hzj]; decide⟩
          rw [e5, Bool.and_false] at q'
          exact q'
    · obtain ⟨rfl, hz0, z1, z2, z3, rfl⟩ := hI
      rw [range_ln] at hz0
      have e5 : ((List.range m).all fun k => decide (zeroAt bs ws k = 0)) = true := List.all_eq_true.2 fun k hk => decide_eq_true (hz0 k (List.mem_range.1 hk))
      rw [e5, Bool.and_true] at q'
      show (zipD (ws.map .int) (bs.map pairD)).length < sizeLine ∧ lcD _ _ _ _ _ (zipD (ws.map .int) (bs.map pairD)) [] G1
      refine hzip (fun zs => zs.length < sizeLine ∧ lcD _ _ _ _ _ zs [] G1) ⟨hzl, ?_⟩
      refine lc_fm (fun p => D.tup [.int p.1, pairD p.2]) (fun p => p.2.2 && decide (0 < p.1)) (fun _ => .int 1) (ws.zip bs) [] (fun p hp acc N2 h1 h2 => ?_) ?_
      · refine ⟨rfl, ?_⟩
        obtain ⟨x, f, b⟩ := p
        cases b with
        | false => exact h2 rfl
        | true =>
          show (match decide (0 < x) with | true => _ | false => _)
          by_cases hx : 0 < x
          · rw [decide_eq_true hx]; exact h1 (by show (true && decide (0 < x)) = true; rw [decide_eq_true hx]; rfl)
          · rw [decide_eq_false hx]; exact h2 (by show (true && decide (0 < x)) = false; rw [decide_eq_false hx]; rfl)
      · refine ⟨Nat.zero_le _, neI_l0 (fun d hd => ?_) ?_⟩
        · rw [List.nil_append] at hd
          obtain ⟨_, _, rfl⟩ := List.mem_map.1 hd
          exact pl_int
        · have e6 : (!decide (([] : List D) ++ ((ws.zip bs).filter fun p => p.2.2 && decide (0 < p.1)).map (fun _ => D.int 1) = [])) = (ws.zip bs).any fun p => p.2.2 && decide (0 < p.1) := by
            cases h7 : (ws.zip bs).any fun p => p.2.2 && decide (0 < p.1) with
            | true =>
              obtain ⟨p, hp, h8⟩ := List.any_eq_true.1 h7
              rw [decide_eq_false]; · rfl
              intro z
              rw [List.nil_append, List.map_eq_nil_iff, List.filter_eq_nil_iff] at z
              exact z p hp h8
            | false =>
              rw [decide_eq_true]; · rfl
              rw [List.nil_append, List.map_eq_nil_iff, List.filter_eq_nil_iff]
              intro p hp h8
              have := List.any_eq_false.1 h7 p hp
              exact this h8
          rw [e6]
          exact q'
end
section
variable {P : Program} {w : World} {K : PySem.W.Frag} {mg : Str → Option Value} {base : Heap}
mutual
/-- plain, nested no deeper than n -/
inductive Pn : Nat → D → Prop
  | flat {n : Nat} {d : D} : flatD d = true → Pl 60 d → Pn n d
  | tup {n : Nat} {ds : List D} : Pns n ds → ds.length ≤ 1000 → Pn (n + 1) (.tup ds)
inductive Pns : Nat → List D → Prop
  | nil {n : Nat} : Pns n []
  | cons {n : Nat} {d : D} {ds : List D} : Pn n d → Pns n ds → Pns n (d :: ds)
end
theorem pns_mem {n : Nat} : ∀ {ds : List D}, Pns n ds → ∀ d ∈ ds, Pn n d
  | _, .nil, _, h => by cases h
  | _, .cons r rs, d, h => by
    rcases List.mem_cons.mp h with rfl | h
    · exact r
    · exact pns_mem rs d h
theorem zip_self : ∀ ds : List D, zipD ds ds = ds.map fun d => D.tup [d, d]
  | [] => rfl
  | d :: ds => by
    rw [List.map_cons, ← zip_self ds]
    rfl
def sameX (n : Nat) : SpD := fun ds G Q _ => ∃ (m : Nat) (d e : D), ds = [d, e] ∧ m < n ∧ ((Pn m d ∧ e = d ∧ Q (.bl true) G) ∨ ∃ i j : Int, d = .int i ∧ e = .int j ∧ Q (.bl (decide (i = j))) G)
structure RecS (P : Program) (w : World) (K : PySem.W.Frag) (mg : Str → Option Value) (base : Heap) (T : Top K mg) (n : Nat) : Prop where
  G_same : FnD P w K mg base (8 * n + 20) T.a_same T.d_same ["one", "other"] (sameX n)
  G_has_same : FnD P w K mg base (8 * n + 20) T.a_has_same T.d_has_same ["table", "key", "value"] (fun _ _ _ _ => False)
theorem dok_same (T : Top K mg) (n : Nat) (R : RecS P w K mg base T n) : FnD P w K mg base (8 * (n + 1) + 20) T.a_same T.d_same ["one", "other"] (sameX (n + 1)) := by
  have G_has_same := R.G_has_same
  have G_same := R.G_same
  refine dfn (k := 8 * n + 27) T.F_same scsame (fun ds G Q W h => ?_) (fun cdv A outer s H E B W hr tk => have hx := hx_of tk; ⟨_, (db_cons (ds_if (dw_pt (dw_and (dt_val (de_isK (j := .dct) (by rfl) T.z_isinstance (by decide +kernel) (dv 0) (pe_bltn (by rfl) T.z_dict (by decide +kernel) rfl))) (dw_and1 (dt_val (de_isK (j := .dct) (by rfl) T.z_isinstance (by decide +kernel) (dv 1) (pe_bltn (by rfl) T.z_dict (by decide +kernel) rfl))))))
    (db_one (ds_ret (de_and (de_cmp (op_eqD (Room.units hr)) eqI_A (de_callB call_len2 len_A (by rfl) T.z_len (by decide +kernel) (da_cons (dv 0) da_nil)) (de_callB call_len2 len_A (by rfl) T.z_len (by decide +kernel) (da_cons (dv 1) da_nil)) (nomark _)) (de_one (de_callB (cr_all rfl) all_A (by rfl) T.z_all (by decide +kernel) (da_cons (de_lcF (own := [("key", 2)]) (gV := gName 2) finA_l rfl scsame.nd (di_anyV (pv 0)) (blkOk_by (own := [("key", 2)]) (N := Nsame) (sc := defScope ssame) (by decide +kernel)) (cg_name (i := 2) (by decide)) (fun _ _ _ _ _ => (pg_name (i := 2) scsame.nd rfl (.inl rfl))) (fun _ _ _ _ _ _ => dts_nil) (fun _ _ _ _ _ _ => (de_call G_has_same (hr.mono (by omega)) (by rfl) T.g_has_same T.F_has_same.kp T.b_has_same hx0 (da_cons (dv 1) (da_cons (dv 2) (da_cons (de_tgetF (Nat.lt_of_le_of_lt (Nat.add_le_add_left (by decide) _) (Room.units hr)) (dv 0) (dv 2) (fun _ _ => rfl)) da_nil)))))) da_nil))))))
    db_nil)
  (db_cons (ds_if (dw_pt (dw_or (dw_pt (dw_and (dt_val (de_isK (j := .tup) (by rfl) T.z_isinstance (by decide +kernel) (dv 0) (pe_bltn (by rfl) T.z_tuple (by decide +kernel) rfl))) (dw_and1 (dt_val (de_isK (j := .tup) (by rfl) T.z_isinstance (by decide +kernel) (dv 1) (pe_bltn (by rfl) T.z_tuple (by decide +kernel) rfl)))))) (dw_or1 (dw_pt (dw_and (dt_val (de_isK (j := .lst) (by rfl) T.z_isinstance (by decide +kernel) (dv 0) (pe_bltn (by rfl) T.z_list (by decide +kernel) rfl))) (dw_and1 (dt_val (de_isK (j := .lst) (by rfl) T.z_isinstance (by decide +kernel) (dv 1) (pe_bltn (by rfl) T.z_list (by decide +kernel) rfl)))))))))
    (db_one (ds_ret (de_and (de_cmp (op_eqD (Room.units hr)) eqI_A (de_callB call_len2 len_A (by rfl) T.z_len (by decide +kernel) (da_cons (dv 0) da_nil)) (de_callB call_len2 len_A (by rfl) T.z_len (by decide +kernel) (da_cons (dv 1) da_nil)) (nomark _)) (de_one (de_callB (cr_all rfl) all_A (by rfl) T.z_all (by decide +kernel) (da_cons (de_lcF (own := [("item", 3), ("against", 4)]) (gV := gTup K 2 (gCons (gName 3) (gCons (gName 4) (gNil)))) finA_l rfl scsame.nd (di_zip (by rfl) T.z_zip (da_cons (dv 0) (da_cons (dv 1) da_nil))) (blkOk_by (own := [("item", 3), ("against", 4)]) (N := Nsame) (sc := defScope ssame) (by decide +kernel)) (cg_tup (cg_cons (cg_name (i := 3) (by decide)) (cg_cons (cg_name (i := 4) (by decide)) cg_nil))) (fun _ _ _ _ _ => (pg_tup (by rfl) (pgs_cons (pg_name (i := 3) scsame.nd rfl (.inl rfl)) (pgs_cons (pg_name (i := 4) scsame.nd rfl (.inl rfl)) pgs_nil)))) (fun _ _ _ _ _ _ => dts_nil) (fun _ _ _ _ _ _ => (de_call G_same (hr.mono (by omega)) (by rfl) T.g_same T.F_same.kp T.b_same hx0 (da_cons (dv 3) (da_cons (dv 4) da_nil))))) da_nil))))))
    db_nil)
  (db_one (ds_ret (de_and (de_cmp (op_eqD (Room.units hr)) eqI_A (de_isK (j := .bl) (by rfl) T.z_isinstance (by decide +kernel) (dv 0) (pe_bltn (by rfl) T.z_bool (by decide +kernel) rfl)) (de_isK (j := .bl) (by rfl) T.z_isinstance (by decide +kernel) (dv 1) (pe_bltn (by rfl) T.z_bool (by decide +kernel) rfl)) (nomark _)) (de_one (de_callTy call_bool1 bool_A (by rfl) T.z_bool (by decide +kernel) (da_cons (de_cmp (op_eqD (Room.units hr)) eqI_A (dv 0) (dv 1) (nomark _)) da_nil)))))))), fun ds G Q h => ?_⟩)
  · obtain ⟨_, _, _, rfl, _⟩ := h
    rfl
  · obtain ⟨m, d, e, rfl, hm, h⟩ := h
    have hz := sizeLine_eq
    rcases h with ⟨hp, rfl, q⟩ | ⟨i, j, rfl, rfl, q⟩
    · cases hp with
      | flat hf hl =>
        cases e with
        | non => exact eqI_self pl_bl (eqI_self pl_non q)
        | int i => exact eqI_self pl_bl (eqI_self pl_int q)
        | bl b => exact eqI_self pl_bl (eqI_self pl_bl q)
        | str x => exact eqI_self pl_bl (eqI_self hl q)
        | _ => cases hf
      | tup hs hl =>
        rename_i n' ds
        refine eqI_self (d := .int ds.length) pl_int ?_
        refine ⟨by rw [zip_self, List.length_map]; omega, ?_⟩
        show lcD _ _ _ _ _ (zipD ds ds) [] G
        rw [zip_self]
        refine lc_f0 (fun d => D.tup [d, d]) (fun _ => .bl true) ds [] (fun d hd N hN => ?_) ?_
        · refine ⟨rfl, n', d, d, rfl, by omega, .inl ⟨pns_mem hs d hd, rfl, hN⟩⟩
        · refine ⟨ds.map fun _ => true, ?_, ?_⟩
          · rw [List.nil_append, List.map_map]
            rfl
          · rw [show (ds.map fun _ => true).all id = true by simp]
            exact q
    · refine eqI_self pl_bl ⟨pl_int, pl_int, ?_⟩
      rw [eqvD_int]
      exact q
theorem recS (T : Top K mg) : ∀ n, RecS P w K mg base T n
  | 0 => ⟨fnd_none fun ds G Q W ⟨_, _, _, _, h, _⟩ => Nat.not_lt_zero _ h, fnd_none fun _ _ _ _ h => h⟩
  | n + 1 => ⟨dok_same T n (recS T n), fnd_none fun _ _ _ _ h => h⟩
theorem pn_ints {ns : List Int} (h : ns.length ≤ 1000) : Pn 1 (intsD ns) := by
  have go : ∀ ns : List Int, Pns 0 (ns.map .int) := fun ns => by
    induction ns with
    | nil => exact .nil
    | cons x ns ih => exact .cons (.flat rfl pl_int) ih
  exact .tup (go ns) (by rw [List.length_map]; exact h)
def eqPX (C : Addr) (f : Str) : SpD := fun ds G Q _ => ∃ ns : List Int, ds = [.ins C [(f, intsD ns)], .ins C [(f, intsD ns)]] ∧ ns.length ≤ 1000 ∧ Q (.bl true) G
theorem dok_Point___eq__ (T : Top K mg) : FnD P w K mg base 64 T.a_Point___eq__ T.d_Point___eq__ ["self", "other"] (eqPX T.C_Point "counts") := by
  have G_same := (recS (P := P) (w := w) (mg := mg) (base := base) T 4).G_same.mono (k := 61) (by decide)
  refine dfn (k := 63) T.F_Point___eq__ scPoint___eq__ (fun ds G Q W h => ?_) (fun cdv A outer s H E B W hr tk => have hx := hx_of tk; ⟨_, (db_one (ds_ret (de_and (de_isCK (K := K) (C := T.C_Point) rfl (by rfl) T.z_isinstance (by decide +kernel) (dv 1) (pe_glob rfl T.g_Point rfl)) (de_one (de_call G_same (hr.mono (by decide)) (by rfl) T.g_same T.F_same.kp T.b_same hx (da_cons (de_fld (dv 0)) (da_cons (de_fld (dv 1)) da_nil))))))), fun ds G Q h => ?_⟩)
  · obtain ⟨_, rfl, _⟩ := h
    rfl
  · obtain ⟨ns, rfl, hl, q⟩ := h
    refine ⟨_, true, .ins rfl, T.ki_Point, ?_⟩
    exact ⟨1, intsD ns, intsD ns, rfl, by decide, .inl ⟨pn_ints hl, rfl, q⟩⟩
theorem dok_Clash___eq__ (T : Top K mg) : FnD P w K mg base 64 T.a_Clash___eq__ T.d_Clash___eq__ ["self", "other"] (eqPX T.C_Clash "weights") := by
  have G_same := (recS (P := P) (w := w) (mg := mg) (base := base) T 4).G_same.mono (k := 61) (by decide)
  refine dfn (k := 63) T.F_Clash___eq__ scClash___eq__ (fun ds G Q W h => ?_) (fun cdv A outer s H E B W hr tk => have hx := hx_of tk; ⟨_, (db_one (ds_ret (de_and (de_isCK (K := K) (C := T.C_Clash) rfl (by rfl) T.z_isinstance (by decide +kernel) (dv 1) (pe_glob rfl T.g_Clash rfl)) (de_one (de_call G_same (hr.mono (by decide)) (by rfl) T.g_same T.F_same.kp T.b_same hx (da_cons (de_fld (dv 0)) (da_cons (de_fld (dv 1)) da_nil))))))), fun ds G Q h => ?_⟩)
  · obtain ⟨_, rfl, _⟩ := h
    rfl
  · obtain ⟨ns, rfl, hl, q⟩ := h
    refine ⟨_, true, .ins rfl, T.ki_Clash, ?_⟩
    exact ⟨1, intsD ns, intsD ns, rfl, by decide, .inl ⟨pn_ints hl, rfl, q⟩⟩
def truX (b : Bool) : SpD := fun ds G Q _ => ∃ d, ds = [d] ∧ Q (.bl b) G
theorem dok_Point___bool__ (T : Top K mg) : FnD P w K mg base 4 T.a_Point___bool__ T.d_Point___bool__ ["self"] (truX true) := by
  refine dfn (k := 3) T.F_Point___bool__ scPoint___bool__ (fun ds G Q W h => ?_) (fun cdv A outer s H E B W hr tk => have hx := hx_of tk; ⟨_, (db_one (ds_ret de_bl)), fun ds G Q h => ?_⟩)
  · obtain ⟨_, rfl, _⟩ := h
    rfl
  · obtain ⟨_, rfl, q⟩ := h
    exact q
theorem dok_Clash___bool__ (T : Top K mg) : FnD P w K mg base 4 T.a_Clash___bool__ T.d_Clash___bool__ ["self"] (truX false) := by
  refine dfn (k := 3) T.F_Clash___bool__ scClash___bool__ (fun ds G Q W h => ?_) (fun cdv A outer s H E B W hr tk => have hx := hx_of tk; ⟨_, (db_one (ds_ret de_bl)), fun ds G Q h => ?_⟩)
  · obtain ⟨_, rfl, _⟩ := h
    rfl
  · obtain ⟨_, rfl, q⟩ := h
    exact q
theorem vok_Bound___eq__ (T : Top K mg) : FnOk P w K mg base CX0 (4 + 1) T.a_Bound___eq__ T.d_Bound___eq__ ["self", "other"] (spEq (pbR K T.C_Bound "form" "is_strict")) := by
  refine T.F_Bound___eq__.ok scBound___eq__ (fun vs H Q E h => ?_) (fun cdv A outer s H vs Q E hr h => ?_)
  · obtain ⟨a, b, rfl, _⟩ := h
    rfl
  · obtain ⟨a, b, rfl, ⟨dx, dy, fs, gs, x, y, t, h1, h2, l1, l2, l3, l4, he⟩, q⟩ := h
    refine ⟨_, (pss_one (ps_ret (pe_and (pe_callB call_isi (by rfl) T.z_isinstance (by decide +kernel) (pa_cons (pv 1) (pa_cons (pe_glob rfl T.g_Bound (show RelV (.ref T.C_Bound) _ from rfl)) pa_nil))) (pe_and (pe_cmpR (op_eqD (Room.units hr)) (pe_fld (pv 0) rfl) (pe_fld (pv 1) rfl) (nomark _)) (pe_one (pe_cmpR op_eq (pe_fld (pv 0) rfl) (pe_fld (pv 1) rfl) (nomark _))))))), ?_⟩
    have gc := T.gc_Bound
    refine ⟨.ref b, rfl, .ref b, .ref T.C_Bound, _, _, true, rfl, .own _, .base (.ins h2 gc.cl gc.ca gc.sg gc.tk gc.mr), T.ki_Bound, ?_⟩
    refine ⟨true, rfl, ite2 (fun _ => ?_) (fun e => absurd e (by decide))⟩
    refine ⟨.ref a, rfl, a, T.C_Bound, dx, _, x, rfl, h1, T.cl_Bound, T.na_Bound_form, l1, ?_⟩
    refine ⟨.ref b, rfl, b, T.C_Bound, dy, _, y, rfl, h2, T.cl_Bound, T.na_Bound_form, l2, ?_⟩
    refine he H _ Ext.rfl' ?_
    refine ⟨true, rfl, ite2 (fun _ => ?_) (fun e => absurd e (by decide))⟩
    refine ⟨.ref a, rfl, a, T.C_Bound, dx, _, .bl t, rfl, h1, T.cl_Bound, T.na_Bound_is_strict, l3, ?_⟩
    refine ⟨.ref b, rfl, b, T.C_Bound, dy, _, .bl t, rfl, h2, T.cl_Bound, T.na_Bound_is_strict, l4, ?_⟩
    refine ⟨rfl, ?_⟩
    rw [decide_eq_true (rfl : V.bl t = V.bl t)]
    exact q H Ext.rfl'
end
section
variable {P : Program} {w : World} {K : PySem.W.Frag} {mg : Str → Option Value} {base : Heap}
def KeptB (bs : Bds) (n : Nat) (xs : List Int) : Prop := xs.length = n ∧ ∀ p ∈ bs, holds p.2 (dot p.1 xs) = true
theorem holds_ge {b : Bool} {v : Int} (h : holds b v = true) : 0 ≤ v ∧ (b = true → 0 < v) := by
  unfold holds at h
  cases b with
  | true => rw [if_pos rfl] at h; have := of_decide_eq_true h; exact ⟨by omega, fun _ => this⟩
  | false => rw [if_neg (by decide)] at h; have := of_decide_eq_true h; exact ⟨this, fun e => by cases e⟩
theorem clash_no {bs : Bds} {n : Nat} {ws xs : List Int} (hl : ∀ p ∈ bs, p.1.length = n) (h : ClashOk bs n ws) (hx : KeptB bs n xs) : False := by
  have hwl := h.len
  -- the sum of all weighted values, told in two ways
  have e1 : SX.sumN bs.length (fun j => ws.getD j 0 * dot (bs.getD j ([], false)).1 xs) = 0 := by
    have e2 : ∀ j, j < bs.length → ws.getD j 0 * dot (bs.getD j ([], false)).1 xs = SX.sumN n (fun k => xs.getD k 0 * (ws.getD j 0 * (bs.getD j ([], false)).1.getD k 0)) := fun j hj => by
      have hjb : bs[j]? = some (bs[j]'hj) := List.getElem?_eq_getElem hj
      rw [dot_sumN (m := n) (by rw [List.getD_eq_getElem?_getD, hjb]; exact hl _ (List.getElem_mem hj)) hx.1, ← SX.sumN_mul]
      refine SX.sumN_congr _ fun k _ => ?_
      rw [← Int.mul_assoc, Int.mul_comm (xs.getD k 0)]
    have sw : ∀ (a b : Nat) (F : Nat → Nat → Int), SX.sumN a (fun j => SX.sumN b (fun k => F j k)) = SX.sumN b (fun k => SX.sumN a (fun j => F j k)) := by
      intro a b F
      induction a with
      | zero => exact (SX.sumN_zero b _ (fun _ _ => rfl)).symm
      | succ a ih =>
        show SX.sumN a (fun j => SX.sumN b (fun k => F j k)) + SX.sumN b (fun k => F a k) = SX.sumN b (fun k => SX.sumN a (fun j => F j k) + F a k)
        rw [ih, SX.sumN_add]
    rw [SX.sumN_congr _ e2, sw]
    refine SX.sumN_zero _ _ fun k hk => ?_
    rw [SX.sumN_mul]
    have := h.zero k hk
    rw [sum_zip (n := bs.length) _ (fun j => ws.getD j 0 * (bs.getD j ([], false)).1.getD k 0) hwl rfl (fun j p _ hp => by rw [List.getD_eq_getElem?_getD (l := bs), hp]; rfl)] at this
    rw [this, Int.mul_zero]
  obtain ⟨p, hp, hp1, hp2⟩ := h.strict
  obtain ⟨j, hj⟩ := List.mem_iff_getElem?.1 hp
  obtain ⟨h1, h2⟩ := List.getElem?_zip_eq_some.1 hj
  have hjl := (List.getElem?_eq_some_iff.1 h2).1
  have hnn : ∀ i, i < bs.length → 0 ≤ ws.getD i 0 * dot (bs.getD i ([], false)).1 xs := fun i hi => by
    have hb : bs[i]? = some (bs[i]'hi) := List.getElem?_eq_getElem hi
    have hw : ws[i]? = some (ws[i]'(by omega)) := List.getElem?_eq_getElem (by omega)
    rw [List.getD_eq_getElem?_getD, List.getD_eq_getElem?_getD (l := bs), hb, hw]
    exact Int.mul_nonneg (h.nn _ (List.getElem_mem _)) (holds_ge (hx.2 _ (List.getElem_mem hi))).1
  have hpos : 0 < ws.getD j 0 * dot (bs.getD j ([], false)).1 xs := by
    rw [List.getD_eq_getElem?_getD, List.getD_eq_getElem?_getD (l := bs), h1, h2]
    exact Int.mul_pos hp2 ((holds_ge (hx.2 _ (List.mem_of_getElem? h2))).2 hp1)
  have hge : ∀ (a : Nat) (F : Nat → Int), (∀ i, i < a → 0 ≤ F i) → 0 ≤ SX.sumN a F ∧ ∀ i, i < a → F i ≤ SX.sumN a F := by
    intro a F hF
    induction a with
    | zero => exact ⟨Int.le_refl _, fun i hi => absurd hi (Nat.not_lt_zero _)⟩
    | succ a ih =>
      obtain ⟨h3, h4⟩ := ih fun i hi => hF i (by omega)
      have h5 := hF a (by omega)
      have e : SX.sumN (a + 1) F = SX.sumN a F + F a := rfl
      refine ⟨by omega, fun i hi => ?_⟩
      rcases Nat.lt_or_ge i a with h6 | h6
      · have := h4 i h6; omega
      · have : i = a := by omega
        rw [this]; omega
  have := (hge _ _ hnn).2 j hjl
  rw [e1] at this
  omega
theorem dot_eq : ∀ {bs : Bds} {n : Nat} {ws : List Int}, ClashOk bs n ws → clB bs n ws = true := fun {bs n ws} h => by
  have h1 : (ws.all fun x => decide (0 ≤ x)) = true := List.all_eq_true.2 fun x hx => decide_eq_true (h.nn x hx)
  have h2 : ((bs.zip ws).any fun p => p.1.2 && decide (0 < p.2)) = true := by
    obtain ⟨p, hp, hp1, hp2⟩ := h.strict
    rw [any_swap]
    refine List.any_eq_true.2 ⟨p, hp, ?_⟩
    rw [hp1, decide_eq_true hp2]; rfl
  have h3 : ((List.range n).all fun k => decide (zeroAt bs ws k = 0)) = true := List.all_eq_true.2 fun k hk => decide_eq_true (by
    have := h.zero k (List.mem_range.1 hk)
    rw [sum_zip (n := bs.length) _ (fun j => ws.getD j 0 * (bs.getD j ([], false)).1.getD k 0) h.len rfl (fun j p _ hp => by rw [List.getD_eq_getElem?_getD (l := bs), hp]; rfl)] at this
    exact this)
  unfold clB
  rw [decide_eq_true h.len, h1, h2, h3]; rfl
theorem bnds_pairs {CB : Addr} {bs : Bds} (h : ∀ b ∈ bs, b.1.length ≤ 8) : ∀ (i : Nat) d e, (bs.map fun p => bndD CB p.1 p.2)[i]? = some d → (bs.map fun p => bndD CB p.1 p.2)[i]? = some e → pairPb CB "form" "is_strict" d e := fun i d e h1 h2 => by
  rw [h1] at h2
  cases h2
  obtain ⟨p, hp, rfl⟩ := map_at2 h1
  exact ⟨_, _, intsD p.1, p.2, rfl, rfl, (pl_tup (k := 0) pl_ints).mono (by decide), rfl, rfl, rfl, rfl⟩
def srX : SpD := fun ds G Q _ => ∃ (p : Addr) (bs : Bds) (n m : Nat), ds = [.adr p, .lst (bs.map pairD), .int n] ∧ G p = some (.pen m) ∧ n ≤ 5 ∧ bs.length ≤ 9 ∧ (∀ b ∈ bs, b.1.length = n ∧ Tny b.1) ∧ m + 200 ≤ 2 ^ 20 ∧ ∀ m', m' ≤ m + 200 → Q (.bl true) (updG G p (.pen m'))
theorem dok__law_settled_right (T : Top K mg) : GnD P w K mg base 80 T.a__law_settled_right T.d__law_settled_right ["_law_pen_here", "_law_bounds", "_law_many"] srX := by
  have G_settled := (dok_settled (P := P) (w := w) (base := base) T).mono (k := 77) (by decide)
  have G__law_as_bounds := (dok__law_as_bounds (P := P) (w := w) (base := base) T).mono (k := 77) (by decide)
  have G__law_holds := (dok__law_holds (P := P) (w := w) (base := base) T).mono (k := 77) (by decide)
  have G__law_draw := (dok__law_draw (P := P) (w := w) (base := base) T).mono (k := 77) (by decide)
  have G__law_clashes := (dok__law_clashes (P := P) (w := w) (base := base) T).mono (k := 77) (by decide)
  have G_shows_clash := (dok_shows_clash (P := P) (w := w) (base := base) T).mono (k := 77) (by decide)
  have G_shows_point := (dok_shows_point (P := P) (w := w) (base := base) T).mono (k := 77) (by decide)
  have G_Point___eq__ := (dok_Point___eq__ (P := P) (w := w) (base := base) T).mono (k := 77) (by decide)
  have G_Clash___eq__ := (dok_Clash___eq__ (P := P) (w := w) (base := base) T).mono (k := 77) (by decide)
  have G_Point___bool__ := (dok_Point___bool__ (P := P) (w := w) (base := base) T).mono (k := 77) (by decide)
  have G_Clash___bool__ := (dok_Clash___bool__ (P := P) (w := w) (base := base) T).mono (k := 77) (by decide)
  have V_Bound___eq__ := (vok_Bound___eq__ (P := P) (w := w) (base := base) T).mono (k := 77) (by decide)
  refine dfg (k := 79) T.F__law_settled_right sc_law_settled_right (fun ds G Q W h => ?_) (fun cdv A outer s H E B hg hr => ⟨_, (db_cons (ds_par (i := 3) (j := 4) (by rfl) sc_law_settled_right.nd rfl rfl (by decide) rfl rfl (da_cons (de_call G__law_as_bounds (hr.mono (by decide)) (by rfl) T.g__law_as_bounds T.F__law_as_bounds.kp T.b__law_as_bounds hx0 (da_cons (dv 1) da_nil)) (da_cons (de_call G__law_as_bounds (hr.mono (by decide)) (by rfl) T.g__law_as_bounds T.F__law_as_bounds.kp T.b__law_as_bounds hx0 (da_cons (dv 1) da_nil)) da_nil)) (by rfl))
  (db_cons (ds_set (i := 5) sc_law_settled_right.nd rfl (.inl rfl) (de_if (dt_cmp (op_eqD (Room.units hr)) eqI_A (de_call G__law_draw (hr.mono (by decide)) (by rfl) T.g__law_draw T.F__law_draw.kp T.b__law_draw hx0 (da_cons (dv 0) (da_cons de_int da_nil))) de_int (nomark _)) (de_callTy call_tuple_of tup_A (by rfl) T.z_tuple (by decide +kernel) (da_cons (dv 3) da_nil)) (dv 3)))
  (db_cons (ds_set (i := 6) sc_law_settled_right.nd rfl (.inl rfl) (de_call G_settled (hr.mono (by decide)) (by rfl) T.g_settled T.F_settled.kp T.b_settled hx0 (da_cons (dv 5) (da_cons (dv 2) da_nil))))
  (db_cons (ds_if (dw_pt (dw_or (dt_nePb V_Bound___eq__ T.om_Bound___eq__ T.b_Bound___eq__ (hr.mono (by decide)) pass0 (dv 3) (dv 4) (nomark _)) (dw_or (dt_orE (dt_neOK rfl T.om_Point___eq__ T.ne_Point T.mr_Point G_Point___eq__ T.b_Point___eq__ (hr.mono (by decide)) hx0 (de_call G_settled (hr.mono (by decide)) (by rfl) T.g_settled T.F_settled.kp T.b_settled hx0 (da_cons (dv 5) (da_cons (dv 2) da_nil))) (dv 6)) (dt_neOK rfl T.om_Clash___eq__ T.ne_Clash T.mr_Clash G_Clash___eq__ T.b_Clash___eq__ (hr.mono (by decide)) hx0 (de_call G_settled (hr.mono (by decide)) (by rfl) T.g_settled T.F_settled.kp T.b_settled hx0 (da_cons (dv 5) (da_cons (dv 2) da_nil))) (dv 6))) (dw_or1 (dt_nePb V_Bound___eq__ T.om_Bound___eq__ T.b_Bound___eq__ (hr.mono (by decide)) pass0 (dv 3) (dv 4) (nomark _))))))
    (db_one (ds_ret de_bl))
    db_nil)
  (db_cons (ds_if (dt_val (de_isCK (K := K) (C := T.C_Point) rfl (by rfl) T.z_isinstance (by decide +kernel) (dv 6) (pe_glob rfl T.g_Point rfl)))
    (db_cons (ds_if (dw_pt (dw_or (dt_not (dt_orE (dt_truO T.om_Point___bool__ G_Point___bool__ T.b_Point___bool__ (hr.mono (by decide)) hx0 (dv 6)) (dt_truO T.om_Clash___bool__ G_Clash___bool__ T.b_Clash___bool__ (hr.mono (by decide)) hx0 (dv 6)))) (dw_or (dt_not (dt_val (de_isK (j := .tup) (by rfl) T.z_isinstance (by decide +kernel) (de_fld (dv 6)) (pe_bltn (by rfl) T.z_tuple (by decide +kernel) rfl)))) (dw_or1 (dt_cmp (op_neD (Room.units hr)) neI_A (de_callB call_len2 len_A (by rfl) T.z_len (by decide +kernel) (da_cons (de_fld (dv 6)) da_nil)) (dv 2) (nomark _))))))
    (db_one (ds_ret de_bl))
    db_nil)
  (db_cons (ds_if (dw_pt (dw_or (dt_cmp (op_neD (Room.units hr)) neI_A (de_lcF (own := [("_law_one", 8)]) (gV := gName 8) finA_l rfl sc_law_settled_right.nd (di_tup (de_fld (dv 6))) (blkOk_by (own := [("_law_one", 8)]) (N := N_law_settled_right) (sc := defScope s_law_settled_right) (by decide +kernel)) (cg_name (i := 8) (by decide)) (fun _ _ _ _ _ => (pg_name (i := 8) sc_law_settled_right.nd rfl (.inl rfl))) (fun _ _ _ _ _ _ => (dts_one (dt_cmp op_ne neSI_A (de_callB (call_repr hg (Room.units hr)) reprI_A (by rfl) T.z_repr (by decide +kernel) (da_cons (dv 8) da_nil)) (de_callB (call_repr hg (Room.units hr)) reprI_A (by rfl) T.z_repr (by decide +kernel) (da_cons (de_callTy call_int1 int_A (by rfl) T.z_int (by decide +kernel) (da_cons (dv 8) da_nil)) da_nil)) (nomark _)))) (fun _ _ _ _ _ _ => (dv 8))) (de_lst da_nil) (nomark _)) (dw_or1 (dt_not (dt_val (de_call G__law_holds (hr.mono (by decide)) (by rfl) T.g__law_holds T.F__law_holds.kp T.b__law_holds hx0 (da_cons (dv 1) (da_cons (de_fld (dv 6)) da_nil))))))))
    (db_one (ds_ret de_bl))
    db_nil)
  (db_one (ds_ret (de_and (de_cmp op_isF isF_A (de_call G_shows_point (hr.mono (by decide)) (by rfl) T.g_shows_point T.F_shows_point.kp T.b_shows_point hx0 (da_cons (dv 3) (da_cons (dv 2) (da_cons (dv 6) da_nil)))) de_bl (nomark _)) (de_one (de_cmp op_isF isF_A (de_call G_shows_clash (hr.mono (by decide)) (by rfl) T.g_shows_clash T.F_shows_clash.kp T.b_shows_clash hx0 (da_cons (dv 3) (da_cons (dv 2) (da_cons (dv 6) da_nil)))) de_bl (nomark _))))))))
    db_nil)
  (db_cons (ds_if (dw_pt (dw_or (dt_not (dt_val (de_isCK (K := K) (C := T.C_Clash) rfl (by rfl) T.z_isinstance (by decide +kernel) (dv 6) (pe_glob rfl T.g_Clash rfl)))) (dw_or (dt_orE (dt_truO T.om_Point___bool__ G_Point___bool__ T.b_Point___bool__ (hr.mono (by decide)) hx0 (dv 6)) (dt_truO T.om_Clash___bool__ G_Clash___bool__ T.b_Clash___bool__ (hr.mono (by decide)) hx0 (dv 6))) (dw_or1 (dt_not (dt_val (de_g G__law_clashes hg (hr.mono (by decide)) (by rfl) T.g__law_clashes T.F__law_clashes.kp T.b__law_clashes (da_cons (dv 1) (da_cons (de_fld (dv 6)) da_nil)))))))))
    (db_one (ds_ret de_bl))
    db_nil)
  (db_cons (ds_for PassesOwn.never rfl (di_range1 (by rfl) T.z_range (da_cons de_int da_nil)) (dg_name (i := 7) sc_law_settled_right.nd rfl (.inl rfl))
    (db_one (ds_if (dt_val (de_call G__law_holds (hr.mono (by decide)) (by rfl) T.g__law_holds T.F__law_holds.kp T.b__law_holds hx0 (da_cons (dv 1) (da_cons (de_lcF (own := [("_law_k", 9)]) (gV := gName 9) finA_l rfl sc_law_settled_right.nd (di_range1 (by rfl) T.z_range (da_cons (dv 2) da_nil)) (blkOk_by (own := [("_law_k", 9)]) (N := N_law_settled_right) (sc := defScope s_law_settled_right) (by decide +kernel)) (cg_name (i := 9) (by decide)) (fun _ _ _ _ _ => (pg_name (i := 9) sc_law_settled_right.nd rfl (.inl rfl))) (fun _ _ _ _ _ _ => dts_nil) (fun _ _ _ _ _ _ => (de_sub (de_call G__law_draw (hr.mono (by decide)) (by rfl) T.g__law_draw T.F__law_draw.kp T.b__law_draw hx0 (da_cons (dv 0) (da_cons de_int da_nil))) de_int))) da_nil))))
    (db_one (ds_ret de_bl))
    db_nil)))
  (db_one (ds_ret (de_and (de_cmp op_isF isF_A (de_call G_shows_clash (hr.mono (by decide)) (by rfl) T.g_shows_clash T.F_shows_clash.kp T.b_shows_clash hx0 (da_cons (dv 3) (da_cons (dv 2) (da_cons (dv 6) da_nil)))) de_bl (nomark _)) (de_one (de_cmp op_isF isF_A (de_call G_shows_point (hr.mono (by decide)) (by rfl) T.g_shows_point T.F_shows_point.kp T.b_shows_point hx0 (da_cons (dv 3) (da_cons (dv 2) (da_cons (dv 6) da_nil)))) de_bl (nomark _))))))))))))), fun ds G Q W h => ?_⟩)
  · obtain ⟨_, _, _, _, rfl, _⟩ := h
    rfl
  · obtain ⟨p, bs, n, m, rfl, hG, hn, hl, hb, hm, q⟩ := h
    have hz := sizeLine_eq
    have hgood : GoodBs bs n := ⟨by omega, by omega, fun b hb' => (hb b hb').1, fun b hb' x hx => Nat.le_trans ((hb b hb').2 x hx) (by decide)⟩
    have h8 : ∀ b ∈ bs, b.1.length ≤ 8 := fun b hb' => by rw [(hb b hb').1]; omega
    have hpr := bnds_pairs (CB := T.C_Bound) h8
    refine ⟨bs, rfl, by omega, h8, ?_⟩
    refine ⟨bs, rfl, by omega, h8, ?_⟩
    refine ⟨p, 2, m, rfl, hG, by decide, by decide, by omega, fun r r0 r1 => ?_⟩
    refine ⟨pl_int, pl_int, ?_⟩
    rw [eqvD_int]
    have hlen : (bs.map fun p => bndD T.C_Bound p.1 p.2).length = (bs.map fun p => bndD T.C_Bound p.1 p.2).length := rfl
    generalize hG1 : updG G p (.pen (m + 1)) = G1
    by_cases h0 : r = 0
    all_goals first | rw [decide_eq_true h0] | rw [decide_eq_false h0]
    all_goals
      refine ⟨_, bs, n, rfl, (by first | exact .inl rfl | exact .inr rfl), hgood, ?_⟩
      refine ⟨_, _, rfl, rfl, rfl, hpr, ?_⟩
      rcases res_ok (CP := T.C_Point) (CC := T.C_Clash) hgood with ⟨xs, e, hxs, hxb⟩ | ⟨ws, e, hcl, hwb⟩
      · rw [e]
        have hxl := hxs.len
        replace hxb : Bits 1905 xs := fun x hx => Nat.lt_of_lt_of_le (hxb x hx) (Nat.pow_le_pow_right (by decide) (by decide))
        refine .inl ⟨_, bs, n, rfl, (by first | exact .inl rfl | exact .inr rfl), hgood, ?_⟩
        rw [e]
        refine ⟨rfl, ⟨_, .ins rfl, by simp [PySem.W.notFirst]⟩, xs, rfl, by omega, ?_⟩
        refine ⟨_, _, rfl, rfl, rfl, hpr, ?_⟩
        refine ⟨_, true, .ins rfl, T.ki_Point, ?_⟩
        refine .inl ⟨rfl, _, rfl, ?_⟩
        refine ⟨pl_int, pl_int, ?_⟩
        rw [eqvD_int, List.length_map]
        show (match !decide ((xs.length : Int) = (n : Int)) with | true => _ | false => _)
        rw [decide_eq_true (show (xs.length : Int) = (n : Int) by omega)]
        refine ⟨by rw [List.length_map]; exact small_size (by omega), lc_fm (fun x : Int => D.int x) (fun _ => false) (fun x => .int x) xs [] (fun x hx acc N2 h1 h2 => ?_) ?_⟩
        · refine reprI (sh_int (hxb x hx)) ?_
          refine reprI (sh_int (hxb x hx)) ?_
          refine neSI_self ?_
          exact h2 rfl
        refine ⟨Nat.zero_le _, neI_l0 (fun d hd => ?_) ?_⟩
        · rw [List.nil_append, show xs.filter (fun _ => false) = [] from by simp] at hd
          cases hd
        rw [decide_eq_true (show ([] : List D) ++ (xs.filter fun _ => false).map (fun x => D.int x) = [] by simp)]
        refine ⟨bs, _, xs, rfl, .inl rfl, by omega, fun p hp => ⟨by rw [hgood.len p hp]; omega, cm_bits (good_bits hgood hp) hxb (by decide) (by decide) (by decide)⟩, ?_⟩
        rw [List.all_eq_true.2 hxs.all]
        refine ⟨bs, n, .pt xs, rfl, hgood, ⟨by omega, hxb⟩, ?_⟩
        have e2 : spT bs n (.pt xs) = true := by
          show (decide (xs.length = n) && bs.all fun p => holds p.2 (dot p.1 xs)) = true
          rw [decide_eq_true hxl, List.all_eq_true.2 hxs.all]; rfl
        rw [e2]
        refine ⟨bs, n, .pt xs, rfl, hgood, ⟨by omega, hxb⟩, ?_⟩
        subst hG1
        exact q _ (by omega)
      · rw [e]
        have hwl := hcl.len
        replace hwb : Bits 1905 ws := fun x hx => Nat.lt_of_lt_of_le (hwb x hx) (Nat.pow_le_pow_right (by decide) (by decide))
        have hne : bs ≠ [] := fun z => by
          obtain ⟨p, hp, _⟩ := hcl.strict
          rw [z, List.zip_nil_right] at hp
          cases hp
        refine .inr ⟨_, bs, n, rfl, (by first | exact .inl rfl | exact .inr rfl), hgood, ?_⟩
        rw [e]
        refine ⟨rfl, ⟨_, .ins rfl, by simp [PySem.W.notFirst]⟩, ws, rfl, by omega, ?_⟩
        refine ⟨_, _, rfl, rfl, rfl, hpr, ?_⟩
        refine ⟨_, false, .ins rfl, T.kt_Clash_Point, ?_⟩
        refine ⟨_, true, .ins rfl, T.ki_Clash, ?_⟩
        refine .inr ⟨rfl, _, rfl, ?_⟩
        refine ⟨bs, n, ws, rfl, hwb, by omega, fun b hb' => ⟨(hb b hb').1, good_bits hgood hb'⟩, hne, by omega, by omega, ?_⟩
        rw [dot_eq hcl]
        refine ⟨⟨by decide, by decide⟩, ?_⟩
        refine for_inv (fun j δ G' => ∃ (z5 z7 z8 z9 : Option D) (m' : Nat), δ = [some (.adr p), some (.lst (bs.map pairD)), some (.int n), some (bndsL T.C_Bound bs), some (bndsL T.C_Bound bs), z5, some (.ins T.C_Clash [("weights", intsD ws)]), z7, z8, z9] ∧ m' ≤ m + 1 + 5 * j ∧ G' = updG G p (.pen m')) (n := 20) (rangeD 0 20) 0 _ _ rfl (fun j δ G2 d N hd hj hI hN => ?_) ⟨_, _, _, _, m + 1, rfl, by omega, hG1.symm⟩ (fun δ G2 hI => ?_)
        · obtain ⟨z5, z7, z8, z9, m', rfl, hm', rfl⟩ := hI
          have el : ∀ k : Nat, (rangeD 0 (k : Int).toNat).length = k := fun k => by simp [rangeD]
          refine ⟨⟨by omega, by omega⟩, by rw [el]; exact small_size (by omega), ?_⟩
          refine lc_inv' (fun j acc G' => ∃ ns : List Int, acc = ns.map .int ∧ ns.length = j ∧ Tny ns ∧ G' = updG G p (.pen (m' + j))) (n := n) _ [] 0 _ (by rw [Nat.zero_add]; exact el _) (fun j acc G' d R hd hj hI hR => ?_) ⟨[], rfl, rfl, (fun x hx => by cases hx), rfl⟩ (fun acc G' hI => ?_)
          · obtain ⟨ns, rfl, hl, hs, rfl⟩ := hI
            refine ⟨p, 13, m' + j, rfl, updG_same, by decide, by decide, by omega, fun r r0 r1 => ?_⟩
            rw [updG_updG]
            refine hR _ _ ⟨ns ++ [r - 6], by rw [List.map_append]; rfl, by rw [List.length_append, hl]; rfl, fun x hx => ?_, rfl⟩
            rcases List.mem_append.mp hx with hx | hx
            · exact hs x hx
            · rw [List.mem_singleton.mp hx]
              omega
          obtain ⟨ys, rfl, hyl, hys, rfl⟩ := hI
          refine ⟨bs, _, ys, rfl, .inr rfl, by omega, fun p hp => ⟨by rw [hgood.len p hp]; omega, cm_bits (good_bits hgood hp) (tny_bits hys) (by decide) (by decide) (by decide)⟩, ?_⟩
          have eno : (bs.all fun p => holds p.2 (dot p.1 ys)) = false := by
            cases ee : bs.all fun p => holds p.2 (dot p.1 ys) with
            | false => rfl
            | true => exact (clash_no hgood.len hcl ⟨hyl, List.all_eq_true.1 ee⟩).elim
          rw [eno]
          exact hN _ _ ⟨_, _, _, _, m' + n, rfl, by omega, rfl⟩
        · obtain ⟨z5, z7, z8, z9, m', rfl, hm', rfl⟩ := hI
          refine ⟨bs, n, .cl ws, rfl, hgood, ⟨by omega, hwb⟩, ?_⟩
          have e2 : scT bs n (.cl ws) = true := dot_eq hcl
          rw [e2]
          refine ⟨bs, n, .cl ws, rfl, hgood, ⟨by omega, hwb⟩, ?_⟩
          exact q _ (by omega)
end
section
variable {P : Program} {w : World} {K : PySem.W.Frag} {mg : Str → Option Value} {base : Heap}
theorem res_nil {CP CC : Addr} {n : Nat} (hn : n ≤ 8) : ∃ xs, resD CP CC [] n = .ins CP [("counts", intsD xs)] := by
  rcases res_ok (CP := CP) (CC := CC) (bs := []) (m := n) ⟨hn, by simp, fun b hb => (by cases hb), fun b hb => (by cases hb)⟩ with ⟨xs, e, _⟩ | ⟨ws, e, hcl, _⟩
  · exact ⟨xs, e⟩
  · obtain ⟨p, hp, _⟩ := hcl.strict
    rw [List.zip_nil_right] at hp
    cases hp
theorem res_one {CP CC : Addr} : ∃ ws, resD CP CC [([], true)] 0 = .ins CC [("weights", intsD ws)] := by
  rcases res_ok (CP := CP) (CC := CC) (bs := [([], true)]) (m := 0) ⟨by omega, by simp, fun b hb => (by rw [List.mem_singleton.1 hb]; rfl), fun b hb x hx => (by rw [List.mem_singleton.1 hb] at hx; cases hx)⟩ with ⟨xs, e, h, _⟩ | ⟨ws, e, _⟩
  · have h2 := h.all ([], true) List.mem_cons_self
    exfalso
    revert h2
    simp [holds, dot]
  · exact ⟨ws, e⟩
theorem dok_law (T : Top K mg) : GnD P w K mg base 84 T.a_law T.d_law ["_law_script"] lawD := by
  have G__law_pen := (dok__law_pen (P := P) (w := w) (base := base) T).mono (k := 81) (by decide)
  have G__law_draw := (dok__law_draw (P := P) (w := w) (base := base) T).mono (k := 81) (by decide)
  have G__law_plain_bounds := (dok__law_plain_bounds (P := P) (w := w) (base := base) T).mono (k := 81) (by decide)
  have G__law_settled_right := (dok__law_settled_right (P := P) (w := w) (base := base) T).mono (k := 81) (by decide)
  have G_settled := (dok_settled (P := P) (w := w) (base := base) T).mono (k := 81) (by decide)
  have G__law_as_bounds := (dok__law_as_bounds (P := P) (w := w) (base := base) T).mono (k := 81) (by decide)
  have G_Bound___init__ := (dok_Bound___init__ (P := P) (w := w) (base := base) T).mono (k := 81) (by decide)
  have G_Point___eq__ := (dok_Point___eq__ (P := P) (w := w) (base := base) T).mono (k := 81) (by decide)
  have G_Clash___eq__ := (dok_Clash___eq__ (P := P) (w := w) (base := base) T).mono (k := 81) (by decide)
  have G_Point___bool__ := (dok_Point___bool__ (P := P) (w := w) (base := base) T).mono (k := 81) (by decide)
  have G_Clash___bool__ := (dok_Clash___bool__ (P := P) (w := w) (base := base) T).mono (k := 81) (by decide)
  refine dfg (k := 83) T.F_law sclaw (fun ds G Q W h => ?_) (fun cdv A outer s H E B hg hr => ⟨_, (db_cons (ds_set (i := 1) sclaw.nd rfl (.inl rfl) (de_call G__law_pen (hr.mono (by decide)) (by rfl) T.g__law_pen T.F__law_pen.kp T.b__law_pen hx0 (da_cons (dv 0) da_nil)))
  (db_cons (ds_for PassesOwn.never rfl (di_range1 (by rfl) T.z_range (da_cons de_int da_nil)) (dg_name (i := 2) sclaw.nd rfl (.inl rfl))
    (db_cons (ds_set (i := 3) sclaw.nd rfl (.inl rfl) (de_call G__law_draw (hr.mono (by decide)) (by rfl) T.g__law_draw T.F__law_draw.kp T.b__law_draw hx0 (da_cons (dv 1) (da_cons de_int da_nil))))
  (db_cons (ds_set (i := 4) sclaw.nd rfl (.inl rfl) (de_call G__law_plain_bounds (hr.mono (by decide)) (by rfl) T.g__law_plain_bounds T.F__law_plain_bounds.kp T.b__law_plain_bounds hx0 (da_cons (dv 1) (da_cons (dv 3) (da_cons de_int da_nil)))))
  (db_cons (ds_if (dt_not (dt_val (de_g G__law_settled_right hg (hr.mono (by decide)) (by rfl) T.g__law_settled_right T.F__law_settled_right.kp T.b__law_settled_right (da_cons (dv 1) (da_cons (dv 4) (da_cons (dv 3) da_nil))))))
    (db_one (ds_ret de_bl))
    db_nil)
  (db_one (ds_if (dt_orE (dt_neOK rfl T.om_Point___eq__ T.ne_Point T.mr_Point G_Point___eq__ T.b_Point___eq__ (hr.mono (by decide)) hx0 (de_callK0 G_settled (hr.mono (by decide)) rfl T.g_settled T.F_settled.kp T.kb_settled_0 hx0 perm_ok (dk_cons (de_call G__law_as_bounds (hr.mono (by decide)) (by rfl) T.g__law_as_bounds T.F__law_as_bounds.kp T.b__law_as_bounds hx0 (da_cons (dv 4) da_nil)) (dk_cons (dv 3) dk_nil))) (de_call G_settled (hr.mono (by decide)) (by rfl) T.g_settled T.F_settled.kp T.b_settled hx0 (da_cons (de_call G__law_as_bounds (hr.mono (by decide)) (by rfl) T.g__law_as_bounds T.F__law_as_bounds.kp T.b__law_as_bounds hx0 (da_cons (dv 4) da_nil)) (da_cons (dv 3) da_nil)))) (dt_neOK rfl T.om_Clash___eq__ T.ne_Clash T.mr_Clash G_Clash___eq__ T.b_Clash___eq__ (hr.mono (by decide)) hx0 (de_callK0 G_settled (hr.mono (by decide)) rfl T.g_settled T.F_settled.kp T.kb_settled_0 hx0 perm_ok (dk_cons (de_call G__law_as_bounds (hr.mono (by decide)) (by rfl) T.g__law_as_bounds T.F__law_as_bounds.kp T.b__law_as_bounds hx0 (da_cons (dv 4) da_nil)) (dk_cons (dv 3) dk_nil))) (de_call G_settled (hr.mono (by decide)) (by rfl) T.g_settled T.F_settled.kp T.b_settled hx0 (da_cons (de_call G__law_as_bounds (hr.mono (by decide)) (by rfl) T.g__law_as_bounds T.F__law_as_bounds.kp T.b__law_as_bounds hx0 (da_cons (dv 4) da_nil)) (da_cons (dv 3) da_nil)))))
    (db_one (ds_ret de_bl))
    db_nil))))))
  (db_one (ds_ret (de_and (de_boolO T.om_Point___bool__ G_Point___bool__ T.b_Point___bool__ (hr.mono (by decide)) hx0 (by rfl) T.z_bool (by decide +kernel) (da_cons (de_call G_settled (hr.mono (by decide)) (by rfl) T.g_settled T.F_settled.kp T.b_settled hx0 (da_cons (de_lst da_nil) (da_cons de_int da_nil))) da_nil)) (de_and (de_boolO T.om_Point___bool__ G_Point___bool__ T.b_Point___bool__ (hr.mono (by decide)) hx0 (by rfl) T.z_bool (by decide +kernel) (da_cons (de_call G_settled (hr.mono (by decide)) (by rfl) T.g_settled T.F_settled.kp T.b_settled hx0 (da_cons (de_tup da_nil) (da_cons de_int da_nil))) da_nil)) (de_one (de_notO T.om_Clash___bool__ G_Clash___bool__ T.b_Clash___bool__ (hr.mono (by decide)) hx0 (de_call G_settled (hr.mono (by decide)) (by rfl) T.g_settled T.F_settled.kp T.b_settled hx0 (da_cons (de_lst (da_cons (de_make T.mk_Bound T.gc_Bound G_Bound___init__ (hr.mono (by decide)) rfl T.g_Bound T.b_Bound___init__ hx0 (da_cons (de_tup da_nil) (da_cons de_bl da_nil))) da_nil)) (da_cons de_int da_nil))))))))))), fun ds G Q W h => ?_⟩)
  · obtain ⟨ns, rfl, _⟩ := h
    rfl
  · obtain ⟨script, rfl, hl, hG, q⟩ := h
    have hz := sizeLine_eq
    refine ⟨script, rfl, hl, fun p hp => ?_⟩
    refine ⟨⟨by decide, by decide⟩, ?_⟩
    refine for_inv (fun j δ G' => ∃ (x0 x2 x3 x4 : Option D) (m : Nat), δ = [x0, some (.adr p), x2, x3, x4] ∧ m ≤ 400 * j ∧ G' = updG G p (.pen m)) (n := 9) (rangeD 0 9) 0 _ _ rfl (fun j δ G1 d N hd hj hI hN => ?_) ⟨_, _, _, _, 0, rfl, by omega, rfl⟩ (fun δ G1 hI => ?_)
    · obtain ⟨x0, x2, x3, x4, m, rfl, hm, rfl⟩ := hI
      clear hG hp
      refine ⟨p, 6, m, rfl, updG_same, by decide, by decide, by omega, fun r r0 r1 => ?_⟩
      rw [updG_updG]
      obtain ⟨n, hn⟩ := Int.eq_ofNat_of_zero_le r0
      rw [hn]
      have hn5 : n ≤ 5 := by omega
      clear hn r0 r1
      refine ⟨p, n, 9, m + 1, rfl, updG_same, by omega, by omega, by omega, fun bs m1 hbl hb hm1 => ?_⟩
      rw [updG_updG]
      refine ⟨p, bs, n, m1, rfl, updG_same, hn5, hbl, hb, by omega, fun m2 hm2 => ?_⟩
      rw [updG_updG]
      have hgood : GoodBs bs n := ⟨by omega, by omega, fun b hb' => (hb b hb').1, fun b hb' x hx => Nat.le_trans ((hb b hb').2 x hx) (by decide)⟩
      have h8 : ∀ b ∈ bs, b.1.length ≤ 8 := fun b hb' => by rw [(hb b hb').1]; omega
      rcases res_ok (CP := T.C_Point) (CC := T.C_Clash) hgood with ⟨xs, e, hxs, hxb⟩ | ⟨ws, e, hcl, hwb⟩
      · have hxl := hxs.len
        refine .inl ⟨bs, rfl, by omega, h8, ?_⟩
        refine ⟨_, bs, n, rfl, .inl rfl, hgood, ?_⟩
        rw [e]
        refine ⟨bs, rfl, by omega, h8, ?_⟩
        refine ⟨_, bs, n, rfl, .inl rfl, hgood, ?_⟩
        rw [e]
        refine ⟨rfl, ⟨_, .ins rfl, by simp [PySem.W.notFirst]⟩, xs, rfl, by omega, ?_⟩
        exact hN _ _ ⟨_, _, _, _, m2, rfl, by omega, rfl⟩
      · have hwl := hcl.len
        refine .inr ⟨bs, rfl, by omega, h8, ?_⟩
        refine ⟨_, bs, n, rfl, .inl rfl, hgood, ?_⟩
        rw [e]
        refine ⟨bs, rfl, by omega, h8, ?_⟩
        refine ⟨_, bs, n, rfl, .inl rfl, hgood, ?_⟩
        rw [e]
        refine ⟨rfl, ⟨_, .ins rfl, by simp [PySem.W.notFirst]⟩, ws, rfl, by omega, ?_⟩
        exact hN _ _ ⟨_, _, _, _, m2, rfl, by omega, rfl⟩
    · obtain ⟨x0, x2, x3, x4, m, rfl, hm, rfl⟩ := hI
      obtain ⟨a3, e3⟩ := res_nil (CP := T.C_Point) (CC := T.C_Clash) (n := 3) (by omega)
      obtain ⟨a0, e0⟩ := res_nil (CP := T.C_Point) (CC := T.C_Clash) (n := 0) (by omega)
      obtain ⟨a1, e1⟩ := res_one (CP := T.C_Point) (CC := T.C_Clash)
      refine ⟨Nat.zero_le _, ?_⟩
      refine ⟨_, [], 3, rfl, .inl rfl, ⟨by omega, by simp, fun b hb => (by cases hb), fun b hb => (by cases hb)⟩, ?_⟩
      rw [e3]
      refine ⟨rfl, _, rfl, ?_⟩
      refine ⟨Nat.zero_le _, ?_⟩
      refine ⟨_, [], 0, rfl, .inr rfl, ⟨by omega, by simp, fun b hb => (by cases hb), fun b hb => (by cases hb)⟩, ?_⟩
      rw [e0]
      refine ⟨rfl, _, rfl, ?_⟩
      refine ⟨Nat.zero_le _, ?_⟩
      generalize updG G p (.pen m) = G2
      refine fun x nx => make_ok (ns := []) (b := true) (by simp) ⟨rfl, ?_⟩
      show (match updG G2 x _ x with | some (.ins C' fs) => _ | _ => _)
      rw [updG_same, delG_updG nx]
      refine ⟨(by show 1 ≤ sizeLine; omega), ?_⟩
      refine ⟨_, [([], true)], 0, rfl, .inl rfl, ⟨by omega, by simp, fun b hb => (by rw [List.mem_singleton.1 hb]; rfl), fun b hb y hy => (by rw [List.mem_singleton.1 hb] at hy; cases hy)⟩, ?_⟩
      rw [e1]
      refine ⟨rfl, _, rfl, ?_⟩
      exact q _
end
end JP
namespace JP
open PySem PySem.Spec PyProof.Rows L2
theorem kit_self {K : PySem.W.Frag} {C : Addr} : PySem.W.kitOne K (.ref C) (.ref C) = some true := by
  unfold PySem.W.kitOne
  simp
theorem kit_no {K : PySem.W.Frag} {C : Addr} {t : String} {b : Bool} (h : PySem.W.subIn K (.ref C) (.type t) = some b) (hm : PySem.W.kitMeta t = true) : PySem.W.kitOne K (.ref C) (.type t) = some b := by
  unfold PySem.W.kitOne
  rw [if_neg (by simp)]
  show (if PySem.W.kitMeta t = true then PySem.W.subIn K (.ref C) (.type t) else none) = some b
  rw [if_pos hm, h]
def bsY (K : PySem.W.Frag) : List Bool := [
    decide (PySem.W.nsIn K mainGlobals "Bound" = some (some (.ref (He.ga K "Bound")))),
    decide (PySem.W.plainGet K (He.ga K "Bound") Str.empty = true),
    decide (PySem.W.hasDictIn K (He.ga K "Bound") = true),
    decide (PySem.W.plainOver K (He.ga K "Bound") = true),
    decide (PySem.W.findIn K (.ref (He.ga K "Bound")) "__setattr__" = some (some (.builtin "object.__setattr__"))),
    decide (PySem.W.keepIn K (.ref (He.ga K "Bound")) = true),
    decide (PySem.W.findIn K (.ref (He.ga K "Bound")) "form" = some none),
    decide (PySem.W.findIn K (.ref (He.ga K "Bound")) "is_strict" = some none),
    decide (PySem.W.findIn K (.ref (He.ga K "Bound")) "__ne__" = some (some (.builtin "object.__ne__"))),
    decide (PySem.W.mroIn K (He.ga K "Bound") (.type "object") = some true),
    decide (PySem.W.findIn K (.ref (He.ga K "Bound")) "__class__" = some (some (.builtin "object.__class__"))),
    decide (PySem.W.findIn K (.ref (He.ga K "Bound")) "__init__" = some (some (.ref (nsA K (He.ga K "Bound") "__init__")))),
    decide (PySem.W.isFn K (.ref (nsA K (He.ga K "Bound") "__init__")) = true),
    decide (PySem.W.makesIn K (He.ga K "Bound") = true),
    decide (PySem.W.findIn K (.ref (He.ga K "Bound")) "__call__" = some (some (.ref (nsA K (He.ga K "Bound") "__call__")))),
    decide (PySem.W.isFn K (.ref (nsA K (He.ga K "Bound") "__call__")) = true),
    decide (PySem.W.findIn K (.ref (He.ga K "Bound")) "__eq__" = some (some (.ref (nsA K (He.ga K "Bound") "__eq__")))),
    decide (PySem.W.isFn K (.ref (nsA K (He.ga K "Bound") "__eq__")) = true),
    decide (PySem.W.subIn K (.ref (He.ga K "Bound")) (.type "str") = some false),
    decide (PySem.W.nsIn K mainGlobals "Point" = some (some (.ref (He.ga K "Point")))),
    decide (PySem.W.plainGet K (He.ga K "Point") Str.empty = true),
    decide (PySem.W.hasDictIn K (He.ga K "Point") = true),
    decide (PySem.W.plainOver K (He.ga K "Point") = true),
    decide (PySem.W.findIn K (.ref (He.ga K "Point")) "__setattr__" = some (some (.builtin "object.__setattr__"))),
    decide (PySem.W.keepIn K (.ref (He.ga K "Point")) = true),
    decide (PySem.W.findIn K (.ref (He.ga K "Point")) "counts" = some none),
    decide (PySem.W.findIn K (.ref (He.ga K "Point")) "__ne__" = some (some (.builtin "object.__ne__"))),
    decide (PySem.W.mroIn K (He.ga K "Point") (.type "object") = some true),
    decide (PySem.W.findIn K (.ref (He.ga K "Point")) "__class__" = some (some (.builtin "object.__class__"))),
    decide (PySem.W.findIn K (.ref (He.ga K "Point")) "__init__" = some (some (.ref (nsA K (He.ga K "Point") "__init__")))),
    decide (PySem.W.isFn K (.ref (nsA K (He.ga K "Point") "__init__")) = true),
    decide (PySem.W.makesIn K (He.ga K "Point") = true),
    decide (PySem.W.findIn K (.ref (He.ga K "Point")) "__bool__" = some (some (.ref (nsA K (He.ga K "Point") "__bool__")))),
    decide (PySem.W.isFn K (.ref (nsA K (He.ga K "Point") "__bool__")) = true),
    decide (PySem.W.findIn K (.ref (He.ga K "Point")) "__eq__" = some (some (.ref (nsA K (He.ga K "Point") "__eq__")))),
    decide (PySem.W.isFn K (.ref (nsA K (He.ga K "Point") "__eq__")) = true),
    decide (PySem.W.subIn K (.ref (He.ga K "Point")) (.type "str") = some false),
    decide (PySem.W.nsIn K mainGlobals "Clash" = some (some (.ref (He.ga K "Clash")))),
    decide (PySem.W.plainGet K (He.ga K "Clash") Str.empty = true),
    decide (PySem.W.hasDictIn K (He.ga K "Clash") = true),
    decide (PySem.W.plainOver K (He.ga K "Clash") = true),
    decide (PySem.W.findIn K (.ref (He.ga K "Clash")) "__setattr__" = some (some (.builtin "object.__setattr__"))),
    decide (PySem.W.keepIn K (.ref (He.ga K "Clash")) = true),
    decide (PySem.W.findIn K (.ref (He.ga K "Clash")) "weights" = some none),
    decide (PySem.W.findIn K (.ref (He.ga K "Clash")) "__ne__" = some (some (.builtin "object.__ne__"))),
    decide (PySem.W.mroIn K (He.ga K "Clash") (.type "object") = some true),
    decide (PySem.W.findIn K (.ref (He.ga K "Clash")) "__class__" = some (some (.builtin "object.__class__"))),
    decide (PySem.W.findIn K (.ref (He.ga K "Clash")) "__init__" = some (some (.ref (nsA K (He.ga K "Clash") "__init__")))),
    decide (PySem.W.isFn K (.ref (nsA K (He.ga K "Clash") "__init__")) = true),
    decide (PySem.W.makesIn K (He.ga K "Clash") = true),
    decide (PySem.W.findIn K (.ref (He.ga K "Clash")) "__bool__" = some (some (.ref (nsA K (He.ga K "Clash") "__bool__")))),
    decide (PySem.W.isFn K (.ref (nsA K (He.ga K "Clash") "__bool__")) = true),
    decide (PySem.W.findIn K (.ref (He.ga K "Clash")) "__eq__" = some (some (.ref (nsA K (He.ga K "Clash") "__eq__")))),
    decide (PySem.W.isFn K (.ref (nsA K (He.ga K "Clash") "__eq__")) = true),
    decide (PySem.W.subIn K (.ref (He.ga K "Clash")) (.type "str") = some false),
    decide (PySem.W.nsIn K mainGlobals "Grid" = some (some (.ref (He.ga K "Grid")))),
    decide (PySem.W.plainGet K (He.ga K "Grid") Str.empty = true),
    decide (PySem.W.hasDictIn K (He.ga K "Grid") = true),
    decide (PySem.W.plainOver K (He.ga K "Grid") = true),
    decide (PySem.W.findIn K (.ref (He.ga K "Grid")) "__setattr__" = some (some (.builtin "object.__setattr__"))),
    decide (PySem.W.keepIn K (.ref (He.ga K "Grid")) = true),
    decide (PySem.W.findIn K (.ref (He.ga K "Grid")) "lines" = some none),
    decide (PySem.W.findIn K (.ref (He.ga K "Grid")) "gains" = some none),
    decide (PySem.W.findIn K (.ref (He.ga K "Grid")) "holders" = some none),
    decide (PySem.W.findIn K (.ref (He.ga K "Grid")) "scale" = some none),
    decide (PySem.W.findIn K (.ref (He.ga K "Grid")) "__ne__" = some (some (.builtin "object.__ne__"))),
    decide (PySem.W.mroIn K (He.ga K "Grid") (.type "object") = some true),
    decide (PySem.W.findIn K (.ref (He.ga K "Grid")) "__class__" = some (some (.builtin "object.__class__"))),
    decide (PySem.W.findIn K (.ref (He.ga K "Grid")) "__init__" = some (some (.ref (nsA K (He.ga K "Grid") "__init__")))),
    decide (PySem.W.isFn K (.ref (nsA K (He.ga K "Grid") "__init__")) = true),
    decide (PySem.W.makesIn K (He.ga K "Grid") = true),
    decide (PySem.W.findIn K (.ref (He.ga K "Grid")) "exchange" = some (some (.ref (nsA K (He.ga K "Grid") "exchange")))),
    decide (PySem.W.isFn K (.ref (nsA K (He.ga K "Grid") "exchange")) = true),
    decide (PySem.W.subIn K (.ref (He.ga K "Grid")) (.type "str") = some false),
    decide (PySem.W.specialIn K (.builtin "object.__class__") "__get__" = some (some (.builtin "getset_descriptor.__get__"))),
    decide (PySem.W.takesIn K (.builtin "object.__class__") = some true),
    decide (PySem.W.subIn K (.ref (He.ga K "Bound")) (.type "int") = some false),
    decide (PySem.W.subIn K (.ref (He.ga K "Bound")) (.type "bool") = some false),
    decide (PySem.W.subIn K (.ref (He.ga K "Bound")) (.type "list") = some false),
    decide (PySem.W.subIn K (.ref (He.ga K "Bound")) (.type "tuple") = some false),
    decide (PySem.W.subIn K (.ref (He.ga K "Bound")) (.type "dict") = some false),
    decide (PySem.W.subIn K (.ref (He.ga K "Bound")) (.type "set") = some false),
    decide (PySem.W.subIn K (.ref (He.ga K "Bound")) (.type "bytes") = some false),
    decide (PySem.W.subIn K (.ref (He.ga K "Bound")) (.type "float") = some false),
    decide (PySem.W.fnIn K (nsA K (He.ga K "Bound") "__call__") = true),
    decide (PySem.W.subIn K (.ref (He.ga K "Point")) (.type "int") = some false),
    decide (PySem.W.subIn K (.ref (He.ga K "Point")) (.type "bool") = some false),
    decide (PySem.W.subIn K (.ref (He.ga K "Point")) (.type "list") = some false),
    decide (PySem.W.subIn K (.ref (He.ga K "Point")) (.type "tuple") = some false),
    decide (PySem.W.subIn K (.ref (He.ga K "Point")) (.type "dict") = some false),
    decide (PySem.W.subIn K (.ref (He.ga K "Point")) (.type "set") = some false),
    decide (PySem.W.subIn K (.ref (He.ga K "Point")) (.type "bytes") = some false),
    decide (PySem.W.subIn K (.ref (He.ga K "Point")) (.type "float") = some false),
    decide (PySem.W.subIn K (.ref (He.ga K "Clash")) (.type "int") = some false),
    decide (PySem.W.subIn K (.ref (He.ga K "Clash")) (.type "bool") = some false),
    decide (PySem.W.subIn K (.ref (He.ga K "Clash")) (.type "list") = some false),
    decide (PySem.W.subIn K (.ref (He.ga K "Clash")) (.type "tuple") = some false),
    decide (PySem.W.subIn K (.ref (He.ga K "Clash")) (.type "dict") = some false),
    decide (PySem.W.subIn K (.ref (He.ga K "Clash")) (.type "set") = some false),
    decide (PySem.W.subIn K (.ref (He.ga K "Clash")) (.type "bytes") = some false),
    decide (PySem.W.subIn K (.ref (He.ga K "Clash")) (.type "float") = some false),
    decide (PySem.W.subIn K (.ref (He.ga K "Grid")) (.type "int") = some false),
    decide (PySem.W.subIn K (.ref (He.ga K "Grid")) (.type "bool") = some false),
    decide (PySem.W.subIn K (.ref (He.ga K "Grid")) (.type "list") = some false),
    decide (PySem.W.subIn K (.ref (He.ga K "Grid")) (.type "tuple") = some false),
    decide (PySem.W.subIn K (.ref (He.ga K "Grid")) (.type "dict") = some false),
    decide (PySem.W.subIn K (.ref (He.ga K "Grid")) (.type "set") = some false),
    decide (PySem.W.subIn K (.ref (He.ga K "Grid")) (.type "bytes") = some false),
    decide (PySem.W.subIn K (.ref (He.ga K "Grid")) (.type "float") = some false),
    decide (PySem.W.notFirst K (He.ga K "Point") (.type "tuple") = true),
    decide (PySem.W.kitOne K (.type "tuple") (.ref (He.ga K "Point")) = some false),
    decide (PySem.W.notFirst K (He.ga K "Point") (.type "NoneType") = true),
    decide (PySem.W.kitOne K (.type "NoneType") (.ref (He.ga K "Point")) = some false),
    decide (PySem.W.notFirst K (He.ga K "Clash") (.type "tuple") = true),
    decide (PySem.W.kitOne K (.type "tuple") (.ref (He.ga K "Clash")) = some false),
    decide (PySem.W.notFirst K (He.ga K "Clash") (.type "NoneType") = true),
    decide (PySem.W.kitOne K (.type "NoneType") (.ref (He.ga K "Clash")) = some false),
    decide (PySem.W.nsIn K mainGlobals "gcd" = some (some (.builtin "math.gcd"))),
    decide (PySem.W.kitOne K (.ref (He.ga K "Point")) (.ref (He.ga K "Clash")) = some false),
    decide (PySem.W.kitOne K (.ref (He.ga K "Clash")) (.ref (He.ga K "Point")) = some false),
    decide (PySem.W.nsIn K mainGlobals "is_integer" = some (some (.ref (He.ga K "is_integer")))),
    decide (PySem.W.nsIn K mainGlobals "own_copy" = some (some (.ref (He.ga K "own_copy")))),
    decide (PySem.W.nsIn K mainGlobals "same" = some (some (.ref (He.ga K "same")))),
    decide (PySem.W.nsIn K mainGlobals "has_same" = some (some (.ref (He.ga K "has_same")))),
    decide (PySem.W.nsIn K mainGlobals "lowest_terms" = some (some (.ref (He.ga K "lowest_terms")))),
    decide (PySem.W.nsIn K mainGlobals "is_form" = some (some (.ref (He.ga K "is_form")))),
    decide (PySem.W.nsIn K mainGlobals "is_bound_of" = some (some (.ref (He.ga K "is_bound_of")))),
    decide (PySem.W.nsIn K mainGlobals "nought_form" = some (some (.ref (He.ga K "nought_form")))),
    decide (PySem.W.nsIn K mainGlobals "unit_form" = some (some (.ref (He.ga K "unit_form")))),
    decide (PySem.W.nsIn K mainGlobals "times_form" = some (some (.ref (He.ga K "times_form")))),
    decide (PySem.W.nsIn K mainGlobals "is_nought" = some (some (.ref (He.ga K "is_nought")))),
    decide (PySem.W.nsIn K mainGlobals "check_numbers_of" = some (some (.ref (He.ga K "check_numbers_of")))),
    decide (PySem.W.nsIn K mainGlobals "value_of" = some (some (.ref (He.ga K "value_of")))),
    decide (PySem.W.nsIn K mainGlobals "sum_form" = some (some (.ref (He.ga K "sum_form")))),
    decide (PySem.W.nsIn K mainGlobals "shows_point" = some (some (.ref (He.ga K "shows_point")))),
    decide (PySem.W.nsIn K mainGlobals "shows_clash" = some (some (.ref (He.ga K "shows_clash")))),
    decide (PySem.W.nsIn K mainGlobals "are_clashing" = some (some (.ref (He.ga K "are_clashing")))),
    decide (PySem.W.nsIn K mainGlobals "settled" = some (some (.ref (He.ga K "settled")))),
    decide (PySem.W.nsIn K mainGlobals "check_bounds" = some (some (.ref (He.ga K "check_bounds")))),
    decide (PySem.W.nsIn K mainGlobals "reduced" = some (some (.ref (He.ga K "reduced")))),
    decide (PySem.W.nsIn K mainGlobals "point_or_clash" = some (some (.ref (He.ga K "point_or_clash")))),
    decide (PySem.W.nsIn K mainGlobals "settled_forms" = some (some (.ref (He.ga K "settled_forms")))),
    decide (PySem.W.nsIn K mainGlobals "first_place" = some (some (.ref (He.ga K "first_place")))),
    decide (PySem.W.nsIn K mainGlobals "short_place" = some (some (.ref (He.ga K "short_place")))),
    decide (PySem.W.nsIn K mainGlobals "leaving_line" = some (some (.ref (He.ga K "leaving_line")))),
    decide (PySem.W.nsIn K mainGlobals "clashing_weights" = some (some (.ref (He.ga K "clashing_weights")))),
    decide (PySem.W.nsIn K mainGlobals "_law_pen" = some (some (.ref (He.ga K "_law_pen")))),
    decide (PySem.W.nsIn K mainGlobals "_law_draw" = some (some (.ref (He.ga K "_law_draw")))),
    decide (PySem.W.nsIn K mainGlobals "_law_pick" = some (some (.ref (He.ga K "_law_pick")))),
    decide (PySem.W.nsIn K mainGlobals "_law_factor" = some (some (.ref (He.ga K "_law_factor")))),
    decide (PySem.W.nsIn K mainGlobals "_law_form" = some (some (.ref (He.ga K "_law_form")))),
    decide (PySem.W.nsIn K mainGlobals "_law_value" = some (some (.ref (He.ga K "_law_value")))),
    decide (PySem.W.nsIn K mainGlobals "_law_plain_bounds" = some (some (.ref (He.ga K "_law_plain_bounds")))),
    decide (PySem.W.nsIn K mainGlobals "_law_clashes" = some (some (.ref (He.ga K "_law_clashes")))),
    decide (PySem.W.nsIn K mainGlobals "_law_holds" = some (some (.ref (He.ga K "_law_holds")))),
    decide (PySem.W.nsIn K mainGlobals "_law_as_bounds" = some (some (.ref (He.ga K "_law_as_bounds")))),
    decide (PySem.W.nsIn K mainGlobals "_law_settled_right" = some (some (.ref (He.ga K "_law_settled_right")))),
    decide (PySem.W.nsIn K mainGlobals "law" = some (some (.ref (He.ga K "law")))),
    decide (PySem.W.nsIn K mainGlobals "abs" = some none),
    decide (PySem.W.nsIn K mainGlobals "all" = some none),
    decide (PySem.W.nsIn K mainGlobals "any" = some none),
    decide (PySem.W.nsIn K mainGlobals "bool" = some none),
    decide (PySem.W.nsIn K mainGlobals "dict" = some none),
    decide (PySem.W.nsIn K mainGlobals "enumerate" = some none),
    decide (PySem.W.nsIn K mainGlobals "int" = some none),
    decide (PySem.W.nsIn K mainGlobals "isinstance" = some none),
    decide (PySem.W.nsIn K mainGlobals "len" = some none),
    decide (PySem.W.nsIn K mainGlobals "list" = some none),
    decide (PySem.W.nsIn K mainGlobals "range" = some none),
    decide (PySem.W.nsIn K mainGlobals "repr" = some none),
    decide (PySem.W.nsIn K mainGlobals "sum" = some none),
    decide (PySem.W.nsIn K mainGlobals "tuple" = some none),
    decide (PySem.W.nsIn K mainGlobals "zip" = some none),
    decide ((He.Fa.int "MOST_FACTORS" 8).ok K = true),
    decide ((He.Fa.int "MOST_BOUNDS" 80).ok K = true)]
def fnsY : List DefY := [
    ⟨fun K => (He.ga K "is_integer"), "is_integer", "is_integer", sis_integer, []⟩,
    ⟨fun K => (He.ga K "own_copy"), "own_copy", "own_copy", sown_copy, []⟩,
    ⟨fun K => (He.ga K "same"), "same", "same", ssame, []⟩,
    ⟨fun K => (He.ga K "has_same"), "has_same", "has_same", shas_same, []⟩,
    ⟨fun K => (He.ga K "lowest_terms"), "lowest_terms", "lowest_terms", slowest_terms, []⟩,
    ⟨fun K => (He.ga K "is_form"), "is_form", "is_form", sis_form, []⟩,
    ⟨fun K => (He.ga K "is_bound_of"), "is_bound_of", "is_bound_of", sis_bound_of, []⟩,
    ⟨fun K => (He.ga K "nought_form"), "nought_form", "nought_form", snought_form, []⟩,
    ⟨fun K => (He.ga K "unit_form"), "unit_form", "unit_form", sunit_form, []⟩,
    ⟨fun K => (He.ga K "times_form"), "times_form", "times_form", stimes_form, []⟩,
    ⟨fun K => (He.ga K "is_nought"), "is_nought", "is_nought", sis_nought, []⟩,
    ⟨fun K => (He.ga K "check_numbers_of"), "check_numbers_of", "check_numbers_of", scheck_numbers_of, []⟩,
    ⟨fun K => (He.ga K "value_of"), "value_of", "value_of", svalue_of, []⟩,
    ⟨fun K => (He.ga K "sum_form"), "sum_form", "sum_form", ssum_form, []⟩,
    ⟨fun K => (He.ga K "shows_point"), "shows_point", "shows_point", sshows_point, []⟩,
    ⟨fun K => (He.ga K "shows_clash"), "shows_clash", "shows_clash", sshows_clash, []⟩,
    ⟨fun K => (He.ga K "are_clashing"), "are_clashing", "are_clashing", sare_clashing, []⟩,
    ⟨fun K => (He.ga K "settled"), "settled", "settled", ssettled, []⟩,
    ⟨fun K => (He.ga K "check_bounds"), "check_bounds", "check_bounds", scheck_bounds, []⟩,
    ⟨fun K => (He.ga K "reduced"), "reduced", "reduced", sreduced, []⟩,
    ⟨fun K => (He.ga K "point_or_clash"), "point_or_clash", "point_or_clash", spoint_or_clash, []⟩,
    ⟨fun K => (He.ga K "settled_forms"), "settled_forms", "settled_forms", ssettled_forms, []⟩,
    ⟨fun K => (He.ga K "first_place"), "first_place", "first_place", sfirst_place, []⟩,
    ⟨fun K => (He.ga K "short_place"), "short_place", "short_place", sshort_place, []⟩,
    ⟨fun K => (He.ga K "leaving_line"), "leaving_line", "leaving_line", sleaving_line, []⟩,
    ⟨fun K => (He.ga K "clashing_weights"), "clashing_weights", "clashing_weights", sclashing_weights, []⟩,
    ⟨fun K => (He.ga K "_law_pen"), "_law_pen", "_law_pen", s_law_pen, []⟩,
    ⟨fun K => (He.ga K "_law_draw"), "_law_draw", "_law_draw", s_law_draw, []⟩,
    ⟨fun K => (He.ga K "_law_pick"), "_law_pick", "_law_pick", s_law_pick, []⟩,
    ⟨fun K => (He.ga K "_law_factor"), "_law_factor", "_law_factor", s_law_factor, []⟩,
    ⟨fun K => (He.ga K "_law_form"), "_law_form", "_law_form", s_law_form, []⟩,
    ⟨fun K => (He.ga K "_law_value"), "_law_value", "_law_value", s_law_value, []⟩,
    ⟨fun K => (He.ga K "_law_plain_bounds"), "_law_plain_bounds", "_law_plain_bounds", s_law_plain_bounds, []⟩,
    ⟨fun K => (He.ga K "_law_clashes"), "_law_clashes", "_law_clashes", s_law_clashes, []⟩,
    ⟨fun K => (He.ga K "_law_holds"), "_law_holds", "_law_holds", s_law_holds, []⟩,
    ⟨fun K => (He.ga K "_law_as_bounds"), "_law_as_bounds", "_law_as_bounds", s_law_as_bounds, []⟩,
    ⟨fun K => (He.ga K "_law_settled_right"), "_law_settled_right", "_law_settled_right", s_law_settled_right, []⟩,
    ⟨fun K => (He.ga K "law"), "law", "law", slaw, []⟩,
    ⟨fun K => (nsA K (He.ga K "Bound") "__init__"), "__init__", "Bound.__init__", sBound___init__, [.bl false]⟩,
    ⟨fun K => (nsA K (He.ga K "Bound") "__call__"), "__call__", "Bound.__call__", sBound___call__, []⟩,
    ⟨fun K => (nsA K (He.ga K "Bound") "__eq__"), "__eq__", "Bound.__eq__", sBound___eq__, []⟩,
    ⟨fun K => (nsA K (He.ga K "Point") "__init__"), "__init__", "Point.__init__", sPoint___init__, []⟩,
    ⟨fun K => (nsA K (He.ga K "Point") "__bool__"), "__bool__", "Point.__bool__", sPoint___bool__, []⟩,
    ⟨fun K => (nsA K (He.ga K "Point") "__eq__"), "__eq__", "Point.__eq__", sPoint___eq__, []⟩,
    ⟨fun K => (nsA K (He.ga K "Clash") "__init__"), "__init__", "Clash.__init__", sClash___init__, []⟩,
    ⟨fun K => (nsA K (He.ga K "Clash") "__bool__"), "__bool__", "Clash.__bool__", sClash___bool__, []⟩,
    ⟨fun K => (nsA K (He.ga K "Clash") "__eq__"), "__eq__", "Clash.__eq__", sClash___eq__, []⟩,
    ⟨fun K => (nsA K (He.ga K "Grid") "__init__"), "__init__", "Grid.__init__", sGrid___init__, []⟩,
    ⟨fun K => (nsA K (He.ga K "Grid") "exchange"), "exchange", "Grid.exchange", sGrid_exchange, []⟩]
def tfY : List (PySem.W.Frag → Addr) := []
def tsY : List TabY := []
def asY : AsF := asZ ((["Bound", "Point", "Clash", "Grid"] : List Str))
    ((["__init__", "__call__", "__eq__", "__bool__", "exchange"] : List Str))
    ((["is_integer", "own_copy", "same", "has_same", "lowest_terms", "is_form", "is_bound_of", "nought_form", "unit_form", "times_form", "is_nought", "check_numbers_of"] : List Str) ++ (["value_of", "sum_form", "shows_point", "shows_clash", "are_clashing", "settled", "check_bounds", "reduced", "point_or_clash", "settled_forms", "first_place", "short_place"] : List Str) ++ (["leaving_line", "clashing_weights", "_law_pen", "_law_draw", "_law_pick", "_law_factor", "_law_form", "_law_value", "_law_plain_bounds", "_law_clashes", "_law_holds", "_law_as_bounds"] : List Str) ++ (["_law_settled_right", "law"] : List Str)) ([] : List Str)
abbrev hkY : PySem.W.Hook := hookZ asY bsY fnsY tfY tsY
theorem all_y {P : Program} {w : World} {K : PySem.W.Frag} {h : Heap} {mg : Str → Option Value} {fa : Addr} (G : h.Ns mainGlobals mg) (hfa : mg "law" = some (.ref fa)) (c : SaysY bsY fnsY tfY tsY w h K) :
    ∃ (fd : FuncData) (cs : List (Addr × Addr)) (sp : Sp), (∀ p ∈ cs, h.get? p.2 = some { cls := .none, data := .fields #[] }) ∧ (∀ p ∈ cs, K.lookup p.2 = none) ∧ (∀ p ∈ cs, PySem.W.CodeHd h p.1 p.2) ∧ (∀ (s : Shared) (u : Value), BindsTo s fd ⟨[u], []⟩ [("_law_script", u)]) ∧ (∀ (H : Hp) (a : Addr) (ns : List Int), ns.length ≤ 63 → OnlyT (cs.map Prod.snd) H → SqL K H a (ns.map V.int) → sp [.ref a] H (fun v _ => v = .bl true) fun _ _ _ => False) ∧
      ∀ base : Heap, K.In base → base.Ns mainGlobals mg → (∀ p ∈ cs, LamX.TabB base mg p.1 p.2) → GOk P w K mg base 84 fa fd ["_law_script"] sp := by
  have X := c.inK
  have gBound : PySem.W.nsIn K mainGlobals "Bound" = some (some (.ref (He.ga K "Bound"))) := c.fact 0
  have pgBound : PySem.W.plainGet K (He.ga K "Bound") Str.empty = true := c.fact 1
  have hdBound : PySem.W.hasDictIn K (He.ga K "Bound") = true := c.fact 2
  have poBound : PySem.W.plainOver K (He.ga K "Bound") = true := c.fact 3
  have saBound : PySem.W.findIn K (.ref (He.ga K "Bound")) "__setattr__" = some (some (.builtin "object.__setattr__")) := c.fact 4
  have kcBound : PySem.W.keepIn K (.ref (He.ga K "Bound")) = true := c.fact 5
  have naBound_form : PySem.W.findIn K (.ref (He.ga K "Bound")) "form" = some none := c.fact 6
  have naBound_is_strict : PySem.W.findIn K (.ref (He.ga K "Bound")) "is_strict" = some none := c.fact 7
  have neBound : PySem.W.findIn K (.ref (He.ga K "Bound")) "__ne__" = some (some (.builtin "object.__ne__")) := c.fact 8
  have mrBound : PySem.W.mroIn K (He.ga K "Bound") (.type "object") = some true := c.fact 9
  have caBound : PySem.W.findIn K (.ref (He.ga K "Bound")) "__class__" = some (some (.builtin "object.__class__")) := c.fact 10
  have atBound___init__ : PySem.W.findIn K (.ref (He.ga K "Bound")) "__init__" = some (some (.ref (nsA K (He.ga K "Bound") "__init__"))) := c.fact 11
  have fnBound___init__ : PySem.W.isFn K (.ref (nsA K (He.ga K "Bound") "__init__")) = true := c.fact 12
  have mkBound : PySem.W.makesIn K (He.ga K "Bound") = true := c.fact 13
  have atBound___call__ : PySem.W.findIn K (.ref (He.ga K "Bound")) "__call__" = some (some (.ref (nsA K (He.ga K "Bound") "__call__"))) := c.fact 14
  have fnBound___call__ : PySem.W.isFn K (.ref (nsA K (He.ga K "Bound") "__call__")) = true := c.fact 15
  have atBound___eq__ : PySem.W.findIn K (.ref (He.ga K "Bound")) "__eq__" = some (some (.ref (nsA K (He.ga K "Bound") "__eq__"))) := c.fact 16
  have fnBound___eq__ : PySem.W.isFn K (.ref (nsA K (He.ga K "Bound") "__eq__")) = true := c.fact 17
  have ksBound : PySem.W.subIn K (.ref (He.ga K "Bound")) (.type "str") = some false := c.fact 18
  have gPoint : PySem.W.nsIn K mainGlobals "Point" = some (some (.ref (He.ga K "Point"))) := c.fact 19
  have pgPoint : PySem.W.plainGet K (He.ga K "Point") Str.empty = true := c.fact 20
  have hdPoint : PySem.W.hasDictIn K (He.ga K "Point") = true := c.fact 21
  have poPoint : PySem.W.plainOver K (He.ga K "Point") = true := c.fact 22
  have saPoint : PySem.W.findIn K (.ref (He.ga K "Point")) "__setattr__" = some (some (.builtin "object.__setattr__")) := c.fact 23
  have kcPoint : PySem.W.keepIn K (.ref (He.ga K "Point")) = true := c.fact 24
  have naPoint_counts : PySem.W.findIn K (.ref (He.ga K "Point")) "counts" = some none := c.fact 25
  have nePoint : PySem.W.findIn K (.ref (He.ga K "Point")) "__ne__" = some (some (.builtin "object.__ne__")) := c.fact 26
  have mrPoint : PySem.W.mroIn K (He.ga K "Point") (.type "object") = some true := c.fact 27
  have caPoint : PySem.W.findIn K (.ref (He.ga K "Point")) "__class__" = some (some (.builtin "object.__class__")) := c.fact 28
  have atPoint___init__ : PySem.W.findIn K (.ref (He.ga K "Point")) "__init__" = some (some (.ref (nsA K (He.ga K "Point") "__init__"))) := c.fact 29
  have fnPoint___init__ : PySem.W.isFn K (.ref (nsA K (He.ga K "Point") "__init__")) = true := c.fact 30
  have mkPoint : PySem.W.makesIn K (He.ga K "Point") = true := c.fact 31
  have atPoint___bool__ : PySem.W.findIn K (.ref (He.ga K "Point")) "__bool__" = some (some (.ref (nsA K (He.ga K "Point") "__bool__"))) := c.fact 32
  have fnPoint___bool__ : PySem.W.isFn K (.ref (nsA K (He.ga K "Point") "__bool__")) = true := c.fact 33
  have atPoint___eq__ : PySem.W.findIn K (.ref (He.ga K "Point")) "__eq__" = some (some (.ref (nsA K (He.ga K "Point") "__eq__"))) := c.fact 34
  have fnPoint___eq__ : PySem.W.isFn K (.ref (nsA K (He.ga K "Point") "__eq__")) = true := c.fact 35
  have ksPoint : PySem.W.subIn K (.ref (He.ga K "Point")) (.type "str") = some false := c.fact 36
  have gClash : PySem.W.nsIn K mainGlobals "Clash" = some (some (.ref (He.ga K "Clash"))) := c.fact 37
  have pgClash : PySem.W.plainGet K (He.ga K "Clash") Str.empty = true := c.fact 38
  have hdClash : PySem.W.hasDictIn K (He.ga K "Clash") = true := c.fact 39
  have poClash : PySem.W.plainOver K (He.ga K "Clash") = true := c.fact 40
  have saClash : PySem.W.findIn K (.ref (He.ga K "Clash")) "__setattr__" = some (some (.builtin "object.__setattr__")) := c.fact 41
  have kcClash : PySem.W.keepIn K (.ref (He.ga K "Clash")) = true := c.fact 42
  have naClash_weights : PySem.W.findIn K (.ref (He.ga K "Clash")) "weights" = some none := c.fact 43
  have neClash : PySem.W.findIn K (.ref (He.ga K "Clash")) "__ne__" = some (some (.builtin "object.__ne__")) := c.fact 44
  have mrClash : PySem.W.mroIn K (He.ga K "Clash") (.type "object") = some true := c.fact 45
  have caClash : PySem.W.findIn K (.ref (He.ga K "Clash")) "__class__" = some (some (.builtin "object.__class__")) := c.fact 46
  have atClash___init__ : PySem.W.findIn K (.ref (He.ga K "Clash")) "__init__" = some (some (.ref (nsA K (He.ga K "Clash") "__init__"))) := c.fact 47
  have fnClash___init__ : PySem.W.isFn K (.ref (nsA K (He.ga K "Clash") "__init__")) = true := c.fact 48
  have mkClash : PySem.W.makesIn K (He.ga K "Clash") = true := c.fact 49
  have atClash___bool__ : PySem.W.findIn K (.ref (He.ga K "Clash")) "__bool__" = some (some (.ref (nsA K (He.ga K "Clash") "__bool__"))) := c.fact 50
  have fnClash___bool__ : PySem.W.isFn K (.ref (nsA K (He.ga K "Clash") "__bool__")) = true := c.fact 51
  have atClash___eq__ : PySem.W.findIn K (.ref (He.ga K "Clash")) "__eq__" = some (some (.ref (nsA K (He.ga K "Clash") "__eq__"))) := c.fact 52
  have fnClash___eq__ : PySem.W.isFn K (.ref (nsA K (He.ga K "Clash") "__eq__")) = true := c.fact 53
  have ksClash : PySem.W.subIn K (.ref (He.ga K "Clash")) (.type "str") = some false := c.fact 54
  have gGrid : PySem.W.nsIn K mainGlobals "Grid" = some (some (.ref (He.ga K "Grid"))) := c.fact 55
  have pgGrid : PySem.W.plainGet K (He.ga K "Grid") Str.empty = true := c.fact 56
  have hdGrid : PySem.W.hasDictIn K (He.ga K "Grid") = true := c.fact 57
  have poGrid : PySem.W.plainOver K (He.ga K "Grid") = true := c.fact 58
  have saGrid : PySem.W.findIn K (.ref (He.ga K "Grid")) "__setattr__" = some (some (.builtin "object.__setattr__")) := c.fact 59
  have kcGrid : PySem.W.keepIn K (.ref (He.ga K "Grid")) = true := c.fact 60
  have naGrid_lines : PySem.W.findIn K (.ref (He.ga K "Grid")) "lines" = some none := c.fact 61
  have naGrid_gains : PySem.W.findIn K (.ref (He.ga K "Grid")) "gains" = some none := c.fact 62
  have naGrid_holders : PySem.W.findIn K (.ref (He.ga K "Grid")) "holders" = some none := c.fact 63
  have naGrid_scale : PySem.W.findIn K (.ref (He.ga K "Grid")) "scale" = some none := c.fact 64
  have neGrid : PySem.W.findIn K (.ref (He.ga K "Grid")) "__ne__" = some (some (.builtin "object.__ne__")) := c.fact 65
  have mrGrid : PySem.W.mroIn K (He.ga K "Grid") (.type "object") = some true := c.fact 66
  have caGrid : PySem.W.findIn K (.ref (He.ga K "Grid")) "__class__" = some (some (.builtin "object.__class__")) := c.fact 67
  have atGrid___init__ : PySem.W.findIn K (.ref (He.ga K "Grid")) "__init__" = some (some (.ref (nsA K (He.ga K "Grid") "__init__"))) := c.fact 68
  have fnGrid___init__ : PySem.W.isFn K (.ref (nsA K (He.ga K "Grid") "__init__")) = true := c.fact 69
  have mkGrid : PySem.W.makesIn K (He.ga K "Grid") = true := c.fact 70
  have atGrid_exchange : PySem.W.findIn K (.ref (He.ga K "Grid")) "exchange" = some (some (.ref (nsA K (He.ga K "Grid") "exchange"))) := c.fact 71
  have fnGrid_exchange : PySem.W.isFn K (.ref (nsA K (He.ga K "Grid") "exchange")) = true := c.fact 72
  have ksGrid : PySem.W.subIn K (.ref (He.ga K "Grid")) (.type "str") = some false := c.fact 73
  have sg : PySem.W.specialIn K (.builtin "object.__class__") "__get__" = some (some (.builtin "getset_descriptor.__get__")) := c.fact 74
  have tk : PySem.W.takesIn K (.builtin "object.__class__") = some true := c.fact 75
  have ktint_Bound : PySem.W.subIn K (.ref (He.ga K "Bound")) (.type "int") = some false := c.fact 76
  have ktbool_Bound : PySem.W.subIn K (.ref (He.ga K "Bound")) (.type "bool") = some false := c.fact 77
  have ktlist_Bound : PySem.W.subIn K (.ref (He.ga K "Bound")) (.type "list") = some false := c.fact 78
  have kttuple_Bound : PySem.W.subIn K (.ref (He.ga K "Bound")) (.type "tuple") = some false := c.fact 79
  have ktdict_Bound : PySem.W.subIn K (.ref (He.ga K "Bound")) (.type "dict") = some false := c.fact 80
  have ktset_Bound : PySem.W.subIn K (.ref (He.ga K "Bound")) (.type "set") = some false := c.fact 81
  have ktbytes_Bound : PySem.W.subIn K (.ref (He.ga K "Bound")) (.type "bytes") = some false := c.fact 82
  have ktfloat_Bound : PySem.W.subIn K (.ref (He.ga K "Bound")) (.type "float") = some false := c.fact 83
  have fiBound___call__ : PySem.W.fnIn K (nsA K (He.ga K "Bound") "__call__") = true := c.fact 84
  have ktint_Point : PySem.W.subIn K (.ref (He.ga K "Point")) (.type "int") = some false := c.fact 85
  have ktbool_Point : PySem.W.subIn K (.ref (He.ga K "Point")) (.type "bool") = some false := c.fact 86
  have ktlist_Point : PySem.W.subIn K (.ref (He.ga K "Point")) (.type "list") = some false := c.fact 87
  have kttuple_Point : PySem.W.subIn K (.ref (He.ga K "Point")) (.type "tuple") = some false := c.fact 88
  have ktdict_Point : PySem.W.subIn K (.ref (He.ga K "Point")) (.type "dict") = some false := c.fact 89
  have ktset_Point : PySem.W.subIn K (.ref (He.ga K "Point")) (.type "set") = some false := c.fact 90
  have ktbytes_Point : PySem.W.subIn K (.ref (He.ga K "Point")) (.type "bytes") = some false := c.fact 91
  have ktfloat_Point : PySem.W.subIn K (.ref (He.ga K "Point")) (.type "float") = some false := c.fact 92
  have ktint_Clash : PySem.W.subIn K (.ref (He.ga K "Clash")) (.type "int") = some false := c.fact 93
  have ktbool_Clash : PySem.W.subIn K (.ref (He.ga K "Clash")) (.type "bool") = some false := c.fact 94
  have ktlist_Clash : PySem.W.subIn K (.ref (He.ga K "Clash")) (.type "list") = some false := c.fact 95
  have kttuple_Clash : PySem.W.subIn K (.ref (He.ga K "Clash")) (.type "tuple") = some false := c.fact 96
  have ktdict_Clash : PySem.W.subIn K (.ref (He.ga K "Clash")) (.type "dict") = some false := c.fact 97
  have ktset_Clash : PySem.W.subIn K (.ref (He.ga K "Clash")) (.type "set") = some false := c.fact 98
  have ktbytes_Clash : PySem.W.subIn K (.ref (He.ga K "Clash")) (.type "bytes") = some false := c.fact 99
  have ktfloat_Clash : PySem.W.subIn K (.ref (He.ga K "Clash")) (.type "float") = some false := c.fact 100
  have ktint_Grid : PySem.W.subIn K (.ref (He.ga K "Grid")) (.type "int") = some false := c.fact 101
  have ktbool_Grid : PySem.W.subIn K (.ref (He.ga K "Grid")) (.type "bool") = some false := c.fact 102
  have ktlist_Grid : PySem.W.subIn K (.ref (He.ga K "Grid")) (.type "list") = some false := c.fact 103
  have kttuple_Grid : PySem.W.subIn K (.ref (He.ga K "Grid")) (.type "tuple") = some false := c.fact 104
  have ktdict_Grid : PySem.W.subIn K (.ref (He.ga K "Grid")) (.type "dict") = some false := c.fact 105
  have ktset_Grid : PySem.W.subIn K (.ref (He.ga K "Grid")) (.type "set") = some false := c.fact 106
  have ktbytes_Grid : PySem.W.subIn K (.ref (He.ga K "Grid")) (.type "bytes") = some false := c.fact 107
  have ktfloat_Grid : PySem.W.subIn K (.ref (He.ga K "Grid")) (.type "float") = some false := c.fact 108
  have nftuple_Point : PySem.W.notFirst K (He.ga K "Point") (.type "tuple") = true := c.fact 109
  have kntuple_Point : PySem.W.kitOne K (.type "tuple") (.ref (He.ga K "Point")) = some false := c.fact 110
  have nfNoneType_Point : PySem.W.notFirst K (He.ga K "Point") (.type "NoneType") = true := c.fact 111
  have knNoneType_Point : PySem.W.kitOne K (.type "NoneType") (.ref (He.ga K "Point")) = some false := c.fact 112
  have nftuple_Clash : PySem.W.notFirst K (He.ga K "Clash") (.type "tuple") = true := c.fact 113
  have kntuple_Clash : PySem.W.kitOne K (.type "tuple") (.ref (He.ga K "Clash")) = some false := c.fact 114
  have nfNoneType_Clash : PySem.W.notFirst K (He.ga K "Clash") (.type "NoneType") = true := c.fact 115
  have knNoneType_Clash : PySem.W.kitOne K (.type "NoneType") (.ref (He.ga K "Clash")) = some false := c.fact 116
  have bfgcd : PySem.W.nsIn K mainGlobals "gcd" = some (some (.builtin "math.gcd")) := c.fact 117
  have ktPoint_Clash : PySem.W.kitOne K (.ref (He.ga K "Point")) (.ref (He.ga K "Clash")) = some false := c.fact 118
  have ktClash_Point : PySem.W.kitOne K (.ref (He.ga K "Clash")) (.ref (He.ga K "Point")) = some false := c.fact 119
  have ais_integer : PySem.W.nsIn K mainGlobals "is_integer" = some (some (.ref (He.ga K "is_integer"))) := c.fact 120
  have aown_copy : PySem.W.nsIn K mainGlobals "own_copy" = some (some (.ref (He.ga K "own_copy"))) := c.fact 121
  have asame : PySem.W.nsIn K mainGlobals "same" = some (some (.ref (He.ga K "same"))) := c.fact 122
  have ahas_same : PySem.W.nsIn K mainGlobals "has_same" = some (some (.ref (He.ga K "has_same"))) := c.fact 123
  have alowest_terms : PySem.W.nsIn K mainGlobals "lowest_terms" = some (some (.ref (He.ga K "lowest_terms"))) := c.fact 124
  have ais_form : PySem.W.nsIn K mainGlobals "is_form" = some (some (.ref (He.ga K "is_form"))) := c.fact 125
  have ais_bound_of : PySem.W.nsIn K mainGlobals "is_bound_of" = some (some (.ref (He.ga K "is_bound_of"))) := c.fact 126
  have anought_form : PySem.W.nsIn K mainGlobals "nought_form" = some (some (.ref (He.ga K "nought_form"))) := c.fact 127
  have aunit_form : PySem.W.nsIn K mainGlobals "unit_form" = some (some (.ref (He.ga K "unit_form"))) := c.fact 128
  have atimes_form : PySem.W.nsIn K mainGlobals "times_form" = some (some (.ref (He.ga K "times_form"))) := c.fact 129
  have ais_nought : PySem.W.nsIn K mainGlobals "is_nought" = some (some (.ref (He.ga K "is_nought"))) := c.fact 130
  have acheck_numbers_of : PySem.W.nsIn K mainGlobals "check_numbers_of" = some (some (.ref (He.ga K "check_numbers_of"))) := c.fact 131
  have avalue_of : PySem.W.nsIn K mainGlobals "value_of" = some (some (.ref (He.ga K "value_of"))) := c.fact 132
  have asum_form : PySem.W.nsIn K mainGlobals "sum_form" = some (some (.ref (He.ga K "sum_form"))) := c.fact 133
  have ashows_point : PySem.W.nsIn K mainGlobals "shows_point" = some (some (.ref (He.ga K "shows_point"))) := c.fact 134
  have ashows_clash : PySem.W.nsIn K mainGlobals "shows_clash" = some (some (.ref (He.ga K "shows_clash"))) := c.fact 135
  have aare_clashing : PySem.W.nsIn K mainGlobals "are_clashing" = some (some (.ref (He.ga K "are_clashing"))) := c.fact 136
  have asettled : PySem.W.nsIn K mainGlobals "settled" = some (some (.ref (He.ga K "settled"))) := c.fact 137
  have acheck_bounds : PySem.W.nsIn K mainGlobals "check_bounds" = some (some (.ref (He.ga K "check_bounds"))) := c.fact 138
  have areduced : PySem.W.nsIn K mainGlobals "reduced" = some (some (.ref (He.ga K "reduced"))) := c.fact 139
  have apoint_or_clash : PySem.W.nsIn K mainGlobals "point_or_clash" = some (some (.ref (He.ga K "point_or_clash"))) := c.fact 140
  have asettled_forms : PySem.W.nsIn K mainGlobals "settled_forms" = some (some (.ref (He.ga K "settled_forms"))) := c.fact 141
  have afirst_place : PySem.W.nsIn K mainGlobals "first_place" = some (some (.ref (He.ga K "first_place"))) := c.fact 142
  have ashort_place : PySem.W.nsIn K mainGlobals "short_place" = some (some (.ref (He.ga K "short_place"))) := c.fact 143
  have aleaving_line : PySem.W.nsIn K mainGlobals "leaving_line" = some (some (.ref (He.ga K "leaving_line"))) := c.fact 144
  have aclashing_weights : PySem.W.nsIn K mainGlobals "clashing_weights" = some (some (.ref (He.ga K "clashing_weights"))) := c.fact 145
  have a_law_pen : PySem.W.nsIn K mainGlobals "_law_pen" = some (some (.ref (He.ga K "_law_pen"))) := c.fact 146
  have a_law_draw : PySem.W.nsIn K mainGlobals "_law_draw" = some (some (.ref (He.ga K "_law_draw"))) := c.fact 147
  have a_law_pick : PySem.W.nsIn K mainGlobals "_law_pick" = some (some (.ref (He.ga K "_law_pick"))) := c.fact 148
  have a_law_factor : PySem.W.nsIn K mainGlobals "_law_factor" = some (some (.ref (He.ga K "_law_factor"))) := c.fact 149
  have a_law_form : PySem.W.nsIn K mainGlobals "_law_form" = some (some (.ref (He.ga K "_law_form"))) := c.fact 150
  have a_law_value : PySem.W.nsIn K mainGlobals "_law_value" = some (some (.ref (He.ga K "_law_value"))) := c.fact 151
  have a_law_plain_bounds : PySem.W.nsIn K mainGlobals "_law_plain_bounds" = some (some (.ref (He.ga K "_law_plain_bounds"))) := c.fact 152
  have a_law_clashes : PySem.W.nsIn K mainGlobals "_law_clashes" = some (some (.ref (He.ga K "_law_clashes"))) := c.fact 153
  have a_law_holds : PySem.W.nsIn K mainGlobals "_law_holds" = some (some (.ref (He.ga K "_law_holds"))) := c.fact 154
  have a_law_as_bounds : PySem.W.nsIn K mainGlobals "_law_as_bounds" = some (some (.ref (He.ga K "_law_as_bounds"))) := c.fact 155
  have a_law_settled_right : PySem.W.nsIn K mainGlobals "_law_settled_right" = some (some (.ref (He.ga K "_law_settled_right"))) := c.fact 156
  have alaw : PySem.W.nsIn K mainGlobals "law" = some (some (.ref (He.ga K "law"))) := c.fact 157
  have z_abs : PySem.W.nsIn K mainGlobals "abs" = some none := c.fact 158
  have z_all : PySem.W.nsIn K mainGlobals "all" = some none := c.fact 159
  have z_any : PySem.W.nsIn K mainGlobals "any" = some none := c.fact 160
  have z_bool : PySem.W.nsIn K mainGlobals "bool" = some none := c.fact 161
  have z_dict : PySem.W.nsIn K mainGlobals "dict" = some none := c.fact 162
  have z_enumerate : PySem.W.nsIn K mainGlobals "enumerate" = some none := c.fact 163
  have z_int : PySem.W.nsIn K mainGlobals "int" = some none := c.fact 164
  have z_isinstance : PySem.W.nsIn K mainGlobals "isinstance" = some none := c.fact 165
  have z_len : PySem.W.nsIn K mainGlobals "len" = some none := c.fact 166
  have z_list : PySem.W.nsIn K mainGlobals "list" = some none := c.fact 167
  have z_range : PySem.W.nsIn K mainGlobals "range" = some none := c.fact 168
  have z_repr : PySem.W.nsIn K mainGlobals "repr" = some none := c.fact 169
  have z_sum : PySem.W.nsIn K mainGlobals "sum" = some none := c.fact 170
  have z_tuple : PySem.W.nsIn K mainGlobals "tuple" = some none := c.fact 171
  have z_zip : PySem.W.nsIn K mainGlobals "zip" = some none := c.fact 172
  have i_MOST_FACTORS : (He.Fa.int "MOST_FACTORS" 8).ok K = true := c.fact 173
  obtain ⟨tc_MOST_FACTORS, ci_MOST_FACTORS⟩ := He.int_ok X G i_MOST_FACTORS
  have i_MOST_BOUNDS : (He.Fa.int "MOST_BOUNDS" 80).ok K = true := c.fact 174
  obtain ⟨tc_MOST_BOUNDS, ci_MOST_BOUNDS⟩ := He.int_ok X G i_MOST_BOUNDS
  obtain ⟨oc0, od0, sl0, dV0, kV0, dc0, pm0, an0, cd0, ct0, l0, c0, k0, v0⟩ := c.fn_at 0 rfl
  obtain rfl := dfl_none v0
  have kis_integer : PySem.W.keepIn K (.ref (He.ga K "is_integer")) = true := k0
  obtain ⟨oc1, od1, sl1, dV1, kV1, dc1, pm1, an1, cd1, ct1, l1, c1, k1, v1⟩ := c.fn_at 1 rfl
  obtain rfl := dfl_none v1
  have kown_copy : PySem.W.keepIn K (.ref (He.ga K "own_copy")) = true := k1
  obtain ⟨oc2, od2, sl2, dV2, kV2, dc2, pm2, an2, cd2, ct2, l2, c2, k2, v2⟩ := c.fn_at 2 rfl
  obtain rfl := dfl_none v2
  have ksame : PySem.W.keepIn K (.ref (He.ga K "same")) = true := k2
  obtain ⟨oc3, od3, sl3, dV3, kV3, dc3, pm3, an3, cd3, ct3, l3, c3, k3, v3⟩ := c.fn_at 3 rfl
  obtain rfl := dfl_none v3
  have khas_same : PySem.W.keepIn K (.ref (He.ga K "has_same")) = true := k3
  obtain ⟨oc4, od4, sl4, dV4, kV4, dc4, pm4, an4, cd4, ct4, l4, c4, k4, v4⟩ := c.fn_at 4 rfl
  obtain rfl := dfl_none v4
  have klowest_terms : PySem.W.keepIn K (.ref (He.ga K "lowest_terms")) = true := k4
  obtain ⟨oc5, od5, sl5, dV5, kV5, dc5, pm5, an5, cd5, ct5, l5, c5, k5, v5⟩ := c.fn_at 5 rfl
  obtain rfl := dfl_none v5
  have kis_form : PySem.W.keepIn K (.ref (He.ga K "is_form")) = true := k5
  obtain ⟨oc6, od6, sl6, dV6, kV6, dc6, pm6, an6, cd6, ct6, l6, c6, k6, v6⟩ := c.fn_at 6 rfl
  obtain rfl := dfl_none v6
  have kis_bound_of : PySem.W.keepIn K (.ref (He.ga K "is_bound_of")) = true := k6
  obtain ⟨oc7, od7, sl7, dV7, kV7, dc7, pm7, an7, cd7, ct7, l7, c7, k7, v7⟩ := c.fn_at 7 rfl
  obtain rfl := dfl_none v7
  have knought_form : PySem.W.keepIn K (.ref (He.ga K "nought_form")) = true := k7
  obtain ⟨oc8, od8, sl8, dV8, kV8, dc8, pm8, an8, cd8, ct8, l8, c8, k8, v8⟩ := c.fn_at 8 rfl
  obtain rfl := dfl_none v8
  have kunit_form : PySem.W.keepIn K (.ref (He.ga K "unit_form")) = true := k8
  obtain ⟨oc9, od9, sl9, dV9, kV9, dc9, pm9, an9, cd9, ct9, l9, c9, k9, v9⟩ := c.fn_at 9 rfl
  obtain rfl := dfl_none v9
  have ktimes_form : PySem.W.keepIn K (.ref (He.ga K "times_form")) = true := k9
  obtain ⟨oc10, od10, sl10, dV10, kV10, dc10, pm10, an10, cd10, ct10, l10, c10, k10, v10⟩ := c.fn_at 10 rfl
  obtain rfl := dfl_none v10
  have kis_nought : PySem.W.keepIn K (.ref (He.ga K "is_nought")) = true := k10
  obtain ⟨oc11, od11, sl11, dV11, kV11, dc11, pm11, an11, cd11, ct11, l11, c11, k11, v11⟩ := c.fn_at 11 rfl
  obtain rfl := dfl_none v11
  have kcheck_numbers_of : PySem.W.keepIn K (.ref (He.ga K "check_numbers_of")) = true := k11
  obtain ⟨oc12, od12, sl12, dV12, kV12, dc12, pm12, an12, cd12, ct12, l12, c12, k12, v12⟩ := c.fn_at 12 rfl
  obtain rfl := dfl_none v12
  have kvalue_of : PySem.W.keepIn K (.ref (He.ga K "value_of")) = true := k12
  obtain ⟨oc13, od13, sl13, dV13, kV13, dc13, pm13, an13, cd13, ct13, l13, c13, k13, v13⟩ := c.fn_at 13 rfl
  obtain rfl := dfl_none v13
  have ksum_form : PySem.W.keepIn K (.ref (He.ga K "sum_form")) = true := k13
  obtain ⟨oc14, od14, sl14, dV14, kV14, dc14, pm14, an14, cd14, ct14, l14, c14, k14, v14⟩ := c.fn_at 14 rfl
  obtain rfl := dfl_none v14
  have kshows_point : PySem.W.keepIn K (.ref (He.ga K "shows_point")) = true := k14
  obtain ⟨oc15, od15, sl15, dV15, kV15, dc15, pm15, an15, cd15, ct15, l15, c15, k15, v15⟩ := c.fn_at 15 rfl
  obtain rfl := dfl_none v15
  have kshows_clash : PySem.W.keepIn K (.ref (He.ga K "shows_clash")) = true := k15
  obtain ⟨oc16, od16, sl16, dV16, kV16, dc16, pm16, an16, cd16, ct16, l16, c16, k16, v16⟩ := c.fn_at 16 rfl
  obtain rfl := dfl_none v16
  have kare_clashing : PySem.W.keepIn K (.ref (He.ga K "are_clashing")) = true := k16
  obtain ⟨oc17, od17, sl17, dV17, kV17, dc17, pm17, an17, cd17, ct17, l17, c17, k17, v17⟩ := c.fn_at 17 rfl
  obtain rfl := dfl_none v17
  have ksettled : PySem.W.keepIn K (.ref (He.ga K "settled")) = true := k17
  obtain ⟨oc18, od18, sl18, dV18, kV18, dc18, pm18, an18, cd18, ct18, l18, c18, k18, v18⟩ := c.fn_at 18 rfl
  obtain rfl := dfl_none v18
  have kcheck_bounds : PySem.W.keepIn K (.ref (He.ga K "check_bounds")) = true := k18
  obtain ⟨oc19, od19, sl19, dV19, kV19, dc19, pm19, an19, cd19, ct19, l19, c19, k19, v19⟩ := c.fn_at 19 rfl
  obtain rfl := dfl_none v19
  have kreduced : PySem.W.keepIn K (.ref (He.ga K "reduced")) = true := k19
  obtain ⟨oc20, od20, sl20, dV20, kV20, dc20, pm20, an20, cd20, ct20, l20, c20, k20, v20⟩ := c.fn_at 20 rfl
  obtain rfl := dfl_none v20
  have kpoint_or_clash : PySem.W.keepIn K (.ref (He.ga K "point_or_clash")) = true := k20
  obtain ⟨oc21, od21, sl21, dV21, kV21, dc21, pm21, an21, cd21, ct21, l21, c21, k21, v21⟩ := c.fn_at 21 rfl
  obtain rfl := dfl_none v21
  have ksettled_forms : PySem.W.keepIn K (.ref (He.ga K "settled_forms")) = true := k21
  obtain ⟨oc22, od22, sl22, dV22, kV22, dc22, pm22, an22, cd22, ct22, l22, c22, k22, v22⟩ := c.fn_at 22 rfl
  obtain rfl := dfl_none v22
  have kfirst_place : PySem.W.keepIn K (.ref (He.ga K "first_place")) = true := k22
  obtain ⟨oc23, od23, sl23, dV23, kV23, dc23, pm23, an23, cd23, ct23, l23, c23, k23, v23⟩ := c.fn_at 23 rfl
  obtain rfl := dfl_none v23
  have kshort_place : PySem.W.keepIn K (.ref (He.ga K "short_place")) = true := k23
  obtain ⟨oc24, od24, sl24, dV24, kV24, dc24, pm24, an24, cd24, ct24, l24, c24, k24, v24⟩ := c.fn_at 24 rfl
  obtain rfl := dfl_none v24
  have kleaving_line : PySem.W.keepIn K (.ref (He.ga K "leaving_line")) = true := k24
  obtain ⟨oc25, od25, sl25, dV25, kV25, dc25, pm25, an25, cd25, ct25, l25, c25, k25, v25⟩ := c.fn_at 25 rfl
  obtain rfl := dfl_none v25
  have kclashing_weights : PySem.W.keepIn K (.ref (He.ga K "clashing_weights")) = true := k25
  obtain ⟨oc26, od26, sl26, dV26, kV26, dc26, pm26, an26, cd26, ct26, l26, c26, k26, v26⟩ := c.fn_at 26 rfl
  obtain rfl := dfl_none v26
  have k_law_pen : PySem.W.keepIn K (.ref (He.ga K "_law_pen")) = true := k26
  obtain ⟨oc27, od27, sl27, dV27, kV27, dc27, pm27, an27, cd27, ct27, l27, c27, k27, v27⟩ := c.fn_at 27 rfl
  obtain rfl := dfl_none v27
  have k_law_draw : PySem.W.keepIn K (.ref (He.ga K "_law_draw")) = true := k27
  obtain ⟨oc28, od28, sl28, dV28, kV28, dc28, pm28, an28, cd28, ct28, l28, c28, k28, v28⟩ := c.fn_at 28 rfl
  obtain rfl := dfl_none v28
  have k_law_pick : PySem.W.keepIn K (.ref (He.ga K "_law_pick")) = true := k28
  obtain ⟨oc29, od29, sl29, dV29, kV29, dc29, pm29, an29, cd29, ct29, l29, c29, k29, v29⟩ := c.fn_at 29 rfl
  obtain rfl := dfl_none v29
  have k_law_factor : PySem.W.keepIn K (.ref (He.ga K "_law_factor")) = true := k29
  obtain ⟨oc30, od30, sl30, dV30, kV30, dc30, pm30, an30, cd30, ct30, l30, c30, k30, v30⟩ := c.fn_at 30 rfl
  obtain rfl := dfl_none v30
  have k_law_form : PySem.W.keepIn K (.ref (He.ga K "_law_form")) = true := k30
  obtain ⟨oc31, od31, sl31, dV31, kV31, dc31, pm31, an31, cd31, ct31, l31, c31, k31, v31⟩ := c.fn_at 31 rfl
  obtain rfl := dfl_none v31
  have k_law_value : PySem.W.keepIn K (.ref (He.ga K "_law_value")) = true := k31
  obtain ⟨oc32, od32, sl32, dV32, kV32, dc32, pm32, an32, cd32, ct32, l32, c32, k32, v32⟩ := c.fn_at 32 rfl
  obtain rfl := dfl_none v32
  have k_law_plain_bounds : PySem.W.keepIn K (.ref (He.ga K "_law_plain_bounds")) = true := k32
  obtain ⟨oc33, od33, sl33, dV33, kV33, dc33, pm33, an33, cd33, ct33, l33, c33, k33, v33⟩ := c.fn_at 33 rfl
  obtain rfl := dfl_none v33
  have k_law_clashes : PySem.W.keepIn K (.ref (He.ga K "_law_clashes")) = true := k33
  obtain ⟨oc34, od34, sl34, dV34, kV34, dc34, pm34, an34, cd34, ct34, l34, c34, k34, v34⟩ := c.fn_at 34 rfl
  obtain rfl := dfl_none v34
  have k_law_holds : PySem.W.keepIn K (.ref (He.ga K "_law_holds")) = true := k34
  obtain ⟨oc35, od35, sl35, dV35, kV35, dc35, pm35, an35, cd35, ct35, l35, c35, k35, v35⟩ := c.fn_at 35 rfl
  obtain rfl := dfl_none v35
  have k_law_as_bounds : PySem.W.keepIn K (.ref (He.ga K "_law_as_bounds")) = true := k35
  obtain ⟨oc36, od36, sl36, dV36, kV36, dc36, pm36, an36, cd36, ct36, l36, c36, k36, v36⟩ := c.fn_at 36 rfl
  obtain rfl := dfl_none v36
  have k_law_settled_right : PySem.W.keepIn K (.ref (He.ga K "_law_settled_right")) = true := k36
  obtain ⟨oc37, od37, sl37, dV37, kV37, dc37, pm37, an37, cd37, ct37, l37, c37, k37, v37⟩ := c.fn_at 37 rfl
  obtain rfl := dfl_none v37
  have klaw : PySem.W.keepIn K (.ref (He.ga K "law")) = true := k37
  obtain ⟨oc38, od38, sl38, dV38, kV38, dc38, pm38, an38, cd38, ct38, l38, c38, k38, v38⟩ := c.fn_at 38 rfl
  have kBound___init__ : PySem.W.keepIn K (.ref (nsA K (He.ga K "Bound") "__init__")) = true := k38
  have FD38 : FunD K "__init__" "Bound.__init__" (defArgs sBound___init__) (defBody sBound___init__) (defScope sBound___init__) [.bl false] [] (nsA K (He.ga K "Bound") "__init__") (PySem.W.fnOf "__init__" "Bound.__init__" (defArgs sBound___init__) (defBody sBound___init__) (defScope sBound___init__) dV38 kV38 dc38 pm38 an38 cd38 ct38) := ⟨⟨oc38, od38, dV38, kV38, dc38, pm38, an38, cd38, ct38, sl38, rfl, l38, c38, v38, .inl rfl⟩, k38⟩
  have bA38 : Binds K (PySem.W.fnOf "__init__" "Bound.__init__" (defArgs sBound___init__) (defBody sBound___init__) (defScope sBound___init__) dV38 kV38 dc38 pm38 an38 cd38 ct38) ["self", "form", "is_strict"] [] := by { obtain ⟨ds, hv, hb⟩ := FunD.binds1 FD38 3 1 (by simp) rfl (ps := ["self", "form", "is_strict"]) (fun T kV doc pm an cdv ct us its h1 h2 => by { match us, its, h1, h2 with | [_, _, _], [_], _, _ => exact ⟨_, rfl, rfl⟩ }); cases hv; exact hb }
  have bD38 : Binds K (PySem.W.fnOf "__init__" "Bound.__init__" (defArgs sBound___init__) (defBody sBound___init__) (defScope sBound___init__) dV38 kV38 dc38 pm38 an38 cd38 ct38) ["self", "form", "is_strict"] [.bool false] := by { obtain ⟨ds, hv, hb⟩ := FunD.binds1 FD38 2 0 (by simp) rfl (ps := ["self", "form", "is_strict"]) (fun T kV doc pm an cdv ct us its h1 h2 => by { match us, its, h1, h2 with | [_, _], [_], _, _ => exact ⟨_, rfl, rfl⟩ }); cases hv with | cons h t => cases t; cases h; exact hb }
  obtain ⟨oc39, od39, sl39, dV39, kV39, dc39, pm39, an39, cd39, ct39, l39, c39, k39, v39⟩ := c.fn_at 39 rfl
  obtain rfl := dfl_none v39
  have kBound___call__ : PySem.W.keepIn K (.ref (nsA K (He.ga K "Bound") "__call__")) = true := k39
  obtain ⟨oc40, od40, sl40, dV40, kV40, dc40, pm40, an40, cd40, ct40, l40, c40, k40, v40⟩ := c.fn_at 40 rfl
  obtain rfl := dfl_none v40
  have kBound___eq__ : PySem.W.keepIn K (.ref (nsA K (He.ga K "Bound") "__eq__")) = true := k40
  obtain ⟨oc41, od41, sl41, dV41, kV41, dc41, pm41, an41, cd41, ct41, l41, c41, k41, v41⟩ := c.fn_at 41 rfl
  obtain rfl := dfl_none v41
  have kPoint___init__ : PySem.W.keepIn K (.ref (nsA K (He.ga K "Point") "__init__")) = true := k41
  obtain ⟨oc42, od42, sl42, dV42, kV42, dc42, pm42, an42, cd42, ct42, l42, c42, k42, v42⟩ := c.fn_at 42 rfl
  obtain rfl := dfl_none v42
  have kPoint___bool__ : PySem.W.keepIn K (.ref (nsA K (He.ga K "Point") "__bool__")) = true := k42
  obtain ⟨oc43, od43, sl43, dV43, kV43, dc43, pm43, an43, cd43, ct43, l43, c43, k43, v43⟩ := c.fn_at 43 rfl
  obtain rfl := dfl_none v43
  have kPoint___eq__ : PySem.W.keepIn K (.ref (nsA K (He.ga K "Point") "__eq__")) = true := k43
  obtain ⟨oc44, od44, sl44, dV44, kV44, dc44, pm44, an44, cd44, ct44, l44, c44, k44, v44⟩ := c.fn_at 44 rfl
  obtain rfl := dfl_none v44
  have kClash___init__ : PySem.W.keepIn K (.ref (nsA K (He.ga K "Clash") "__init__")) = true := k44
  obtain ⟨oc45, od45, sl45, dV45, kV45, dc45, pm45, an45, cd45, ct45, l45, c45, k45, v45⟩ := c.fn_at 45 rfl
  obtain rfl := dfl_none v45
  have kClash___bool__ : PySem.W.keepIn K (.ref (nsA K (He.ga K "Clash") "__bool__")) = true := k45
  obtain ⟨oc46, od46, sl46, dV46, kV46, dc46, pm46, an46, cd46, ct46, l46, c46, k46, v46⟩ := c.fn_at 46 rfl
  obtain rfl := dfl_none v46
  have kClash___eq__ : PySem.W.keepIn K (.ref (nsA K (He.ga K "Clash") "__eq__")) = true := k46
  obtain ⟨oc47, od47, sl47, dV47, kV47, dc47, pm47, an47, cd47, ct47, l47, c47, k47, v47⟩ := c.fn_at 47 rfl
  obtain rfl := dfl_none v47
  have kGrid___init__ : PySem.W.keepIn K (.ref (nsA K (He.ga K "Grid") "__init__")) = true := k47
  obtain ⟨oc48, od48, sl48, dV48, kV48, dc48, pm48, an48, cd48, ct48, l48, c48, k48, v48⟩ := c.fn_at 48 rfl
  obtain rfl := dfl_none v48
  have kGrid_exchange : PySem.W.keepIn K (.ref (nsA K (He.ga K "Grid") "exchange")) = true := k48
  let D0 : TopD0 := {
    a_is_integer := (He.ga K "is_integer"),
    d_is_integer := (PySem.W.fnOf "is_integer" "is_integer" (defArgs sis_integer) (defBody sis_integer) (defScope sis_integer) .none kV0 dc0 pm0 an0 cd0 ct0),
    a_own_copy := (He.ga K "own_copy"),
    d_own_copy := (PySem.W.fnOf "own_copy" "own_copy" (defArgs sown_copy) (defBody sown_copy) (defScope sown_copy) .none kV1 dc1 pm1 an1 cd1 ct1),
    a_same := (He.ga K "same"),
    d_same := (PySem.W.fnOf "same" "same" (defArgs ssame) (defBody ssame) (defScope ssame) .none kV2 dc2 pm2 an2 cd2 ct2),
    a_has_same := (He.ga K "has_same"),
    d_has_same := (PySem.W.fnOf "has_same" "has_same" (defArgs shas_same) (defBody shas_same) (defScope shas_same) .none kV3 dc3 pm3 an3 cd3 ct3),
    a_lowest_terms := (He.ga K "lowest_terms"),
    d_lowest_terms := (PySem.W.fnOf "lowest_terms" "lowest_terms" (defArgs slowest_terms) (defBody slowest_terms) (defScope slowest_terms) .none kV4 dc4 pm4 an4 cd4 ct4),
    a_is_form := (He.ga K "is_form"),
    d_is_form := (PySem.W.fnOf "is_form" "is_form" (defArgs sis_form) (defBody sis_form) (defScope sis_form) .none kV5 dc5 pm5 an5 cd5 ct5),
    a_is_bound_of := (He.ga K "is_bound_of"),
    d_is_bound_of := (PySem.W.fnOf "is_bound_of" "is_bound_of" (defArgs sis_bound_of) (defBody sis_bound_of) (defScope sis_bound_of) .none kV6 dc6 pm6 an6 cd6 ct6),
    a_nought_form := (He.ga K "nought_form"),
    d_nought_form := (PySem.W.fnOf "nought_form" "nought_form" (defArgs snought_form) (defBody snought_form) (defScope snought_form) .none kV7 dc7 pm7 an7 cd7 ct7),
    a_unit_form := (He.ga K "unit_form"),
    d_unit_form := (PySem.W.fnOf "unit_form" "unit_form" (defArgs sunit_form) (defBody sunit_form) (defScope sunit_form) .none kV8 dc8 pm8 an8 cd8 ct8),
    a_times_form := (He.ga K "times_form"),
    d_times_form := (PySem.W.fnOf "times_form" "times_form" (defArgs stimes_form) (defBody stimes_form) (defScope stimes_form) .none kV9 dc9 pm9 an9 cd9 ct9),
    a_is_nought := (He.ga K "is_nought"),
    d_is_nought := (PySem.W.fnOf "is_nought" "is_nought" (defArgs sis_nought) (defBody sis_nought) (defScope sis_nought) .none kV10 dc10 pm10 an10 cd10 ct10),
    a_check_numbers_of := (He.ga K "check_numbers_of"),
    d_check_numbers_of := (PySem.W.fnOf "check_numbers_of" "check_numbers_of" (defArgs scheck_numbers_of) (defBody scheck_numbers_of) (defScope scheck_numbers_of) .none kV11 dc11 pm11 an11 cd11 ct11),
    a_value_of := (He.ga K "value_of"),
    d_value_of := (PySem.W.fnOf "value_of" "value_of" (defArgs svalue_of) (defBody svalue_of) (defScope svalue_of) .none kV12 dc12 pm12 an12 cd12 ct12),
    a_sum_form := (He.ga K "sum_form"),
    d_sum_form := (PySem.W.fnOf "sum_form" "sum_form" (defArgs ssum_form) (defBody ssum_form) (defScope ssum_form) .none kV13 dc13 pm13 an13 cd13 ct13),
    a_shows_point := (He.ga K "shows_point"),
    d_shows_point := (PySem.W.fnOf "shows_point" "shows_point" (defArgs sshows_point) (defBody sshows_point) (defScope sshows_point) .none kV14 dc14 pm14 an14 cd14 ct14),
    a_shows_clash := (He.ga K "shows_clash"),
    d_shows_clash := (PySem.W.fnOf "shows_clash" "shows_clash" (defArgs sshows_clash) (defBody sshows_clash) (defScope sshows_clash) .none kV15 dc15 pm15 an15 cd15 ct15),
    a_are_clashing := (He.ga K "are_clashing"),
    d_are_clashing := (PySem.W.fnOf "are_clashing" "are_clashing" (defArgs sare_clashing) (defBody sare_clashing) (defScope sare_clashing) .none kV16 dc16 pm16 an16 cd16 ct16),
    a_settled := (He.ga K "settled"),
    d_settled := (PySem.W.fnOf "settled" "settled" (defArgs ssettled) (defBody ssettled) (defScope ssettled) .none kV17 dc17 pm17 an17 cd17 ct17),
    a_check_bounds := (He.ga K "check_bounds"),
    d_check_bounds := (PySem.W.fnOf "check_bounds" "check_bounds" (defArgs scheck_bounds) (defBody scheck_bounds) (defScope scheck_bounds) .none kV18 dc18 pm18 an18 cd18 ct18),
    a_reduced := (He.ga K "reduced"),
    d_reduced := (PySem.W.fnOf "reduced" "reduced" (defArgs sreduced) (defBody sreduced) (defScope sreduced) .none kV19 dc19 pm19 an19 cd19 ct19),
    a_point_or_clash := (He.ga K "point_or_clash"),
    d_point_or_clash := (PySem.W.fnOf "point_or_clash" "point_or_clash" (defArgs spoint_or_clash) (defBody spoint_or_clash) (defScope spoint_or_clash) .none kV20 dc20 pm20 an20 cd20 ct20),
    a_settled_forms := (He.ga K "settled_forms"),
    d_settled_forms := (PySem.W.fnOf "settled_forms" "settled_forms" (defArgs ssettled_forms) (defBody ssettled_forms) (defScope ssettled_forms) .none kV21 dc21 pm21 an21 cd21 ct21),
    a_first_place := (He.ga K "first_place"),
    d_first_place := (PySem.W.fnOf "first_place" "first_place" (defArgs sfirst_place) (defBody sfirst_place) (defScope sfirst_place) .none kV22 dc22 pm22 an22 cd22 ct22),
    a_short_place := (He.ga K "short_place"),
    d_short_place := (PySem.W.fnOf "short_place" "short_place" (defArgs sshort_place) (defBody sshort_place) (defScope sshort_place) .none kV23 dc23 pm23 an23 cd23 ct23),
    a_leaving_line := (He.ga K "leaving_line"),
    d_leaving_line := (PySem.W.fnOf "leaving_line" "leaving_line" (defArgs sleaving_line) (defBody sleaving_line) (defScope sleaving_line) .none kV24 dc24 pm24 an24 cd24 ct24),
    a_clashing_weights := (He.ga K "clashing_weights"),
    d_clashing_weights := (PySem.W.fnOf "clashing_weights" "clashing_weights" (defArgs sclashing_weights) (defBody sclashing_weights) (defScope sclashing_weights) .none kV25 dc25 pm25 an25 cd25 ct25),
    a__law_pen := (He.ga K "_law_pen"),
    d__law_pen := (PySem.W.fnOf "_law_pen" "_law_pen" (defArgs s_law_pen) (defBody s_law_pen) (defScope s_law_pen) .none kV26 dc26 pm26 an26 cd26 ct26),
    a__law_draw := (He.ga K "_law_draw"),
    d__law_draw := (PySem.W.fnOf "_law_draw" "_law_draw" (defArgs s_law_draw) (defBody s_law_draw) (defScope s_law_draw) .none kV27 dc27 pm27 an27 cd27 ct27),
    a__law_pick := (He.ga K "_law_pick"),
    d__law_pick := (PySem.W.fnOf "_law_pick" "_law_pick" (defArgs s_law_pick) (defBody s_law_pick) (defScope s_law_pick) .none kV28 dc28 pm28 an28 cd28 ct28),
    a__law_factor := (He.ga K "_law_factor"),
    d__law_factor := (PySem.W.fnOf "_law_factor" "_law_factor" (defArgs s_law_factor) (defBody s_law_factor) (defScope s_law_factor) .none kV29 dc29 pm29 an29 cd29 ct29) }
  let D1 : TopD1 := {
    a__law_form := (He.ga K "_law_form"),
    d__law_form := (PySem.W.fnOf "_law_form" "_law_form" (defArgs s_law_form) (defBody s_law_form) (defScope s_law_form) .none kV30 dc30 pm30 an30 cd30 ct30),
    a__law_value := (He.ga K "_law_value"),
    d__law_value := (PySem.W.fnOf "_law_value" "_law_value" (defArgs s_law_value) (defBody s_law_value) (defScope s_law_value) .none kV31 dc31 pm31 an31 cd31 ct31),
    a__law_plain_bounds := (He.ga K "_law_plain_bounds"),
    d__law_plain_bounds := (PySem.W.fnOf "_law_plain_bounds" "_law_plain_bounds" (defArgs s_law_plain_bounds) (defBody s_law_plain_bounds) (defScope s_law_plain_bounds) .none kV32 dc32 pm32 an32 cd32 ct32),
    a__law_clashes := (He.ga K "_law_clashes"),
    d__law_clashes := (PySem.W.fnOf "_law_clashes" "_law_clashes" (defArgs s_law_clashes) (defBody s_law_clashes) (defScope s_law_clashes) .none kV33 dc33 pm33 an33 cd33 ct33),
    a__law_holds := (He.ga K "_law_holds"),
    d__law_holds := (PySem.W.fnOf "_law_holds" "_law_holds" (defArgs s_law_holds) (defBody s_law_holds) (defScope s_law_holds) .none kV34 dc34 pm34 an34 cd34 ct34),
    a__law_as_bounds := (He.ga K "_law_as_bounds"),
    d__law_as_bounds := (PySem.W.fnOf "_law_as_bounds" "_law_as_bounds" (defArgs s_law_as_bounds) (defBody s_law_as_bounds) (defScope s_law_as_bounds) .none kV35 dc35 pm35 an35 cd35 ct35),
    a__law_settled_right := (He.ga K "_law_settled_right"),
    d__law_settled_right := (PySem.W.fnOf "_law_settled_right" "_law_settled_right" (defArgs s_law_settled_right) (defBody s_law_settled_right) (defScope s_law_settled_right) .none kV36 dc36 pm36 an36 cd36 ct36),
    a_law := (He.ga K "law"),
    d_law := (PySem.W.fnOf "law" "law" (defArgs slaw) (defBody slaw) (defScope slaw) .none kV37 dc37 pm37 an37 cd37 ct37),
    a_Bound___init__ := (nsA K (He.ga K "Bound") "__init__"),
    d_Bound___init__ := (PySem.W.fnOf "__init__" "Bound.__init__" (defArgs sBound___init__) (defBody sBound___init__) (defScope sBound___init__) dV38 kV38 dc38 pm38 an38 cd38 ct38),
    a_Bound___call__ := (nsA K (He.ga K "Bound") "__call__"),
    d_Bound___call__ := (PySem.W.fnOf "__call__" "Bound.__call__" (defArgs sBound___call__) (defBody sBound___call__) (defScope sBound___call__) .none kV39 dc39 pm39 an39 cd39 ct39),
    a_Bound___eq__ := (nsA K (He.ga K "Bound") "__eq__"),
    d_Bound___eq__ := (PySem.W.fnOf "__eq__" "Bound.__eq__" (defArgs sBound___eq__) (defBody sBound___eq__) (defScope sBound___eq__) .none kV40 dc40 pm40 an40 cd40 ct40),
    a_Point___init__ := (nsA K (He.ga K "Point") "__init__"),
    d_Point___init__ := (PySem.W.fnOf "__init__" "Point.__init__" (defArgs sPoint___init__) (defBody sPoint___init__) (defScope sPoint___init__) .none kV41 dc41 pm41 an41 cd41 ct41),
    a_Point___bool__ := (nsA K (He.ga K "Point") "__bool__"),
    d_Point___bool__ := (PySem.W.fnOf "__bool__" "Point.__bool__" (defArgs sPoint___bool__) (defBody sPoint___bool__) (defScope sPoint___bool__) .none kV42 dc42 pm42 an42 cd42 ct42),
    a_Point___eq__ := (nsA K (He.ga K "Point") "__eq__"),
    d_Point___eq__ := (PySem.W.fnOf "__eq__" "Point.__eq__" (defArgs sPoint___eq__) (defBody sPoint___eq__) (defScope sPoint___eq__) .none kV43 dc43 pm43 an43 cd43 ct43),
    a_Clash___init__ := (nsA K (He.ga K "Clash") "__init__"),
    d_Clash___init__ := (PySem.W.fnOf "__init__" "Clash.__init__" (defArgs sClash___init__) (defBody sClash___init__) (defScope sClash___init__) .none kV44 dc44 pm44 an44 cd44 ct44),
    a_Clash___bool__ := (nsA K (He.ga K "Clash") "__bool__"),
    d_Clash___bool__ := (PySem.W.fnOf "__bool__" "Clash.__bool__" (defArgs sClash___bool__) (defBody sClash___bool__) (defScope sClash___bool__) .none kV45 dc45 pm45 an45 cd45 ct45),
    a_Clash___eq__ := (nsA K (He.ga K "Clash") "__eq__"),
    d_Clash___eq__ := (PySem.W.fnOf "__eq__" "Clash.__eq__" (defArgs sClash___eq__) (defBody sClash___eq__) (defScope sClash___eq__) .none kV46 dc46 pm46 an46 cd46 ct46),
    a_Grid___init__ := (nsA K (He.ga K "Grid") "__init__"),
    d_Grid___init__ := (PySem.W.fnOf "__init__" "Grid.__init__" (defArgs sGrid___init__) (defBody sGrid___init__) (defScope sGrid___init__) .none kV47 dc47 pm47 an47 cd47 ct47),
    a_Grid_exchange := (nsA K (He.ga K "Grid") "exchange"),
    d_Grid_exchange := (PySem.W.fnOf "exchange" "Grid.exchange" (defArgs sGrid_exchange) (defBody sGrid_exchange) (defScope sGrid_exchange) .none kV48 dc48 pm48 an48 cd48 ct48),
    C_Bound := (He.ga K "Bound"),
    C_Point := (He.ga K "Point"),
    C_Clash := (He.ga K "Clash"),
    C_Grid := (He.ga K "Grid"),
    t_MOST_FACTORS := tc_MOST_FACTORS,
    t_MOST_BOUNDS := tc_MOST_BOUNDS }
  let D : TopD := ⟨D0, D1⟩
  let f0 : TopF0 K mg D := {
    F_is_integer := fun_mk (st := sis_integer) l0 c0 k0,
    b_is_integer := (fun_mk (st := sis_integer) l0 c0 k0).binds (ps := ["value"]) fun _ _ _ _ _ _ us hl => match us, hl with | [_], _ => rfl,
    g_is_integer := PySem.W.mg_of X G ais_integer,
    F_own_copy := fun_mk (st := sown_copy) l1 c1 k1,
    b_own_copy := (fun_mk (st := sown_copy) l1 c1 k1).binds (ps := ["value"]) fun _ _ _ _ _ _ us hl => match us, hl with | [_], _ => rfl,
    g_own_copy := PySem.W.mg_of X G aown_copy,
    F_same := fun_mk (st := ssame) l2 c2 k2,
    b_same := (fun_mk (st := ssame) l2 c2 k2).binds (ps := ["one", "other"]) fun _ _ _ _ _ _ us hl => match us, hl with | [_, _], _ => rfl,
    g_same := PySem.W.mg_of X G asame,
    F_has_same := fun_mk (st := shas_same) l3 c3 k3,
    b_has_same := (fun_mk (st := shas_same) l3 c3 k3).binds (ps := ["table", "key", "value"]) fun _ _ _ _ _ _ us hl => match us, hl with | [_, _, _], _ => rfl,
    g_has_same := PySem.W.mg_of X G ahas_same,
    F_lowest_terms := fun_mk (st := slowest_terms) l4 c4 k4,
    b_lowest_terms := (fun_mk (st := slowest_terms) l4 c4 k4).binds (ps := ["numbers"]) fun _ _ _ _ _ _ us hl => match us, hl with | [_], _ => rfl,
    g_lowest_terms := PySem.W.mg_of X G alowest_terms,
    F_is_form := fun_mk (st := sis_form) l5 c5 k5,
    b_is_form := (fun_mk (st := sis_form) l5 c5 k5).binds (ps := ["value"]) fun _ _ _ _ _ _ us hl => match us, hl with | [_], _ => rfl,
    g_is_form := PySem.W.mg_of X G ais_form,
    F_is_bound_of := fun_mk (st := sis_bound_of) l6 c6 k6,
    b_is_bound_of := (fun_mk (st := sis_bound_of) l6 c6 k6).binds (ps := ["value", "many"]) fun _ _ _ _ _ _ us hl => match us, hl with | [_, _], _ => rfl,
    g_is_bound_of := PySem.W.mg_of X G ais_bound_of,
    F_nought_form := fun_mk (st := snought_form) l7 c7 k7,
    b_nought_form := (fun_mk (st := snought_form) l7 c7 k7).binds (ps := ["many"]) fun _ _ _ _ _ _ us hl => match us, hl with | [_], _ => rfl,
    g_nought_form := PySem.W.mg_of X G anought_form,
    F_unit_form := fun_mk (st := sunit_form) l8 c8 k8,
    b_unit_form := (fun_mk (st := sunit_form) l8 c8 k8).binds (ps := ["at", "many"]) fun _ _ _ _ _ _ us hl => match us, hl with | [_, _], _ => rfl,
    g_unit_form := PySem.W.mg_of X G aunit_form,
    F_times_form := fun_mk (st := stimes_form) l9 c9 k9,
    b_times_form := (fun_mk (st := stimes_form) l9 c9 k9).binds (ps := ["number", "form"]) fun _ _ _ _ _ _ us hl => match us, hl with | [_, _], _ => rfl,
    g_times_form := PySem.W.mg_of X G atimes_form,
    F_is_nought := fun_mk (st := sis_nought) l10 c10 k10,
    b_is_nought := (fun_mk (st := sis_nought) l10 c10 k10).binds (ps := ["form"]) fun _ _ _ _ _ _ us hl => match us, hl with | [_], _ => rfl,
    g_is_nought := PySem.W.mg_of X G ais_nought,
    F_check_numbers_of := fun_mk (st := scheck_numbers_of) l11 c11 k11,
    b_check_numbers_of := (fun_mk (st := scheck_numbers_of) l11 c11 k11).binds (ps := ["numbers", "many"]) fun _ _ _ _ _ _ us hl => match us, hl with | [_, _], _ => rfl,
    g_check_numbers_of := PySem.W.mg_of X G acheck_numbers_of,
    F_value_of := fun_mk (st := svalue_of) l12 c12 k12,
    b_value_of := (fun_mk (st := svalue_of) l12 c12 k12).binds (ps := ["form", "numbers"]) fun _ _ _ _ _ _ us hl => match us, hl with | [_, _], _ => rfl,
    g_value_of := PySem.W.mg_of X G avalue_of,
    F_sum_form := fun_mk (st := ssum_form) l13 c13 k13,
    b_sum_form := (fun_mk (st := ssum_form) l13 c13 k13).binds (ps := ["one", "other"]) fun _ _ _ _ _ _ us hl => match us, hl with | [_, _], _ => rfl,
    g_sum_form := PySem.W.mg_of X G asum_form,
    F_shows_point := fun_mk (st := sshows_point) l14 c14 k14,
    b_shows_point := (fun_mk (st := sshows_point) l14 c14 k14).binds (ps := ["bounds", "many", "value"]) fun _ _ _ _ _ _ us hl => match us, hl with | [_, _, _], _ => rfl,
    g_shows_point := PySem.W.mg_of X G ashows_point,
    F_shows_clash := fun_mk (st := sshows_clash) l15 c15 k15,
    b_shows_clash := (fun_mk (st := sshows_clash) l15 c15 k15).binds (ps := ["bounds", "many", "value"]) fun _ _ _ _ _ _ us hl => match us, hl with | [_, _, _], _ => rfl,
    g_shows_clash := PySem.W.mg_of X G ashows_clash,
    F_are_clashing := fun_mk (st := sare_clashing) l16 c16 k16,
    b_are_clashing := (fun_mk (st := sare_clashing) l16 c16 k16).binds (ps := ["bounds", "many", "weights"]) fun _ _ _ _ _ _ us hl => match us, hl with | [_, _, _], _ => rfl,
    g_are_clashing := PySem.W.mg_of X G aare_clashing,
    F_settled := fun_mk (st := ssettled) l17 c17 k17,
    b_settled := (fun_mk (st := ssettled) l17 c17 k17).binds (ps := ["bounds", "many"]) fun _ _ _ _ _ _ us hl => match us, hl with | [_, _], _ => rfl,
    g_settled := PySem.W.mg_of X G asettled,
    F_check_bounds := fun_mk (st := scheck_bounds) l18 c18 k18,
    b_check_bounds := (fun_mk (st := scheck_bounds) l18 c18 k18).binds (ps := ["bounds", "many"]) fun _ _ _ _ _ _ us hl => match us, hl with | [_, _], _ => rfl,
    g_check_bounds := PySem.W.mg_of X G acheck_bounds,
    F_reduced := fun_mk (st := sreduced) l19 c19 k19,
    b_reduced := (fun_mk (st := sreduced) l19 c19 k19).binds (ps := ["line", "held", "place", "scale"]) fun _ _ _ _ _ _ us hl => match us, hl with | [_, _, _, _], _ => rfl,
    g_reduced := PySem.W.mg_of X G areduced }
  let f1 : TopF1 K mg D := {
    F_point_or_clash := fun_mk (st := spoint_or_clash) l20 c20 k20,
    b_point_or_clash := (fun_mk (st := spoint_or_clash) l20 c20 k20).binds (ps := ["bounds", "many"]) fun _ _ _ _ _ _ us hl => match us, hl with | [_, _], _ => rfl,
    g_point_or_clash := PySem.W.mg_of X G apoint_or_clash,
    F_settled_forms := fun_mk (st := ssettled_forms) l21 c21 k21,
    b_settled_forms := (fun_mk (st := ssettled_forms) l21 c21 k21).binds (ps := ["forms", "gains", "many"]) fun _ _ _ _ _ _ us hl => match us, hl with | [_, _, _], _ => rfl,
    g_settled_forms := PySem.W.mg_of X G asettled_forms,
    F_first_place := fun_mk (st := sfirst_place) l22 c22 k22,
    b_first_place := (fun_mk (st := sfirst_place) l22 c22 k22).binds (ps := ["line", "many"]) fun _ _ _ _ _ _ us hl => match us, hl with | [_, _], _ => rfl,
    g_first_place := PySem.W.mg_of X G afirst_place,
    F_short_place := fun_mk (st := sshort_place) l23 c23 k23,
    b_short_place := (fun_mk (st := sshort_place) l23 c23 k23).binds (ps := ["grid", "many"]) fun _ _ _ _ _ _ us hl => match us, hl with | [_, _], _ => rfl,
    g_short_place := PySem.W.mg_of X G ashort_place,
    F_leaving_line := fun_mk (st := sleaving_line) l24 c24 k24,
    b_leaving_line := (fun_mk (st := sleaving_line) l24 c24 k24).binds (ps := ["grid", "place"]) fun _ _ _ _ _ _ us hl => match us, hl with | [_, _], _ => rfl,
    g_leaving_line := PySem.W.mg_of X G aleaving_line,
    F_clashing_weights := fun_mk (st := sclashing_weights) l25 c25 k25,
    b_clashing_weights := (fun_mk (st := sclashing_weights) l25 c25 k25).binds (ps := ["grid", "place", "many"]) fun _ _ _ _ _ _ us hl => match us, hl with | [_, _, _], _ => rfl,
    g_clashing_weights := PySem.W.mg_of X G aclashing_weights,
    F__law_pen := fun_mk (st := s_law_pen) l26 c26 k26,
    b__law_pen := (fun_mk (st := s_law_pen) l26 c26 k26).binds (ps := ["_law_script"]) fun _ _ _ _ _ _ us hl => match us, hl with | [_], _ => rfl,
    g__law_pen := PySem.W.mg_of X G a_law_pen,
    F__law_draw := fun_mk (st := s_law_draw) l27 c27 k27,
    b__law_draw := (fun_mk (st := s_law_draw) l27 c27 k27).binds (ps := ["_law_pen_here", "_law_many"]) fun _ _ _ _ _ _ us hl => match us, hl with | [_, _], _ => rfl,
    g__law_draw := PySem.W.mg_of X G a_law_draw,
    F__law_pick := fun_mk (st := s_law_pick) l28 c28 k28,
    b__law_pick := (fun_mk (st := s_law_pick) l28 c28 k28).binds (ps := ["_law_pen_here", "_law_some"]) fun _ _ _ _ _ _ us hl => match us, hl with | [_, _], _ => rfl,
    g__law_pick := PySem.W.mg_of X G a_law_pick,
    F__law_factor := fun_mk (st := s_law_factor) l29 c29 k29,
    b__law_factor := (fun_mk (st := s_law_factor) l29 c29 k29).binds (ps := ["_law_pen_here"]) fun _ _ _ _ _ _ us hl => match us, hl with | [_], _ => rfl,
    g__law_factor := PySem.W.mg_of X G a_law_factor,
    F__law_form := fun_mk (st := s_law_form) l30 c30 k30,
    b__law_form := (fun_mk (st := s_law_form) l30 c30 k30).binds (ps := ["_law_pen_here", "_law_many"]) fun _ _ _ _ _ _ us hl => match us, hl with | [_, _], _ => rfl,
    g__law_form := PySem.W.mg_of X G a_law_form,
    F__law_value := fun_mk (st := s_law_value) l31 c31 k31,
    b__law_value := (fun_mk (st := s_law_value) l31 c31 k31).binds (ps := ["_law_form_here", "_law_numbers"]) fun _ _ _ _ _ _ us hl => match us, hl with | [_, _], _ => rfl,
    g__law_value := PySem.W.mg_of X G a_law_value,
    F__law_plain_bounds := fun_mk (st := s_law_plain_bounds) l32 c32 k32,
    b__law_plain_bounds := (fun_mk (st := s_law_plain_bounds) l32 c32 k32).binds (ps := ["_law_pen_here", "_law_many", "_law_most"]) fun _ _ _ _ _ _ us hl => match us, hl with | [_, _, _], _ => rfl,
    g__law_plain_bounds := PySem.W.mg_of X G a_law_plain_bounds,
    F__law_clashes := fun_mk (st := s_law_clashes) l33 c33 k33,
    b__law_clashes := (fun_mk (st := s_law_clashes) l33 c33 k33).binds (ps := ["_law_bounds", "_law_weights"]) fun _ _ _ _ _ _ us hl => match us, hl with | [_, _], _ => rfl,
    g__law_clashes := PySem.W.mg_of X G a_law_clashes,
    F__law_holds := fun_mk (st := s_law_holds) l34 c34 k34,
    b__law_holds := (fun_mk (st := s_law_holds) l34 c34 k34).binds (ps := ["_law_bounds", "_law_numbers"]) fun _ _ _ _ _ _ us hl => match us, hl with | [_, _], _ => rfl,
    g__law_holds := PySem.W.mg_of X G a_law_holds,
    F__law_as_bounds := fun_mk (st := s_law_as_bounds) l35 c35 k35,
    b__law_as_bounds := (fun_mk (st := s_law_as_bounds) l35 c35 k35).binds (ps := ["_law_bounds"]) fun _ _ _ _ _ _ us hl => match us, hl with | [_], _ => rfl,
    g__law_as_bounds := PySem.W.mg_of X G a_law_as_bounds,
    F__law_settled_right := fun_mk (st := s_law_settled_right) l36 c36 k36,
    b__law_settled_right := (fun_mk (st := s_law_settled_right) l36 c36 k36).binds (ps := ["_law_pen_here", "_law_bounds", "_law_many"]) fun _ _ _ _ _ _ us hl => match us, hl with | [_, _, _], _ => rfl,
    g__law_settled_right := PySem.W.mg_of X G a_law_settled_right,
    F_law := fun_mk (st := slaw) l37 c37 k37,
    b_law := (fun_mk (st := slaw) l37 c37 k37).binds (ps := ["_law_script"]) fun _ _ _ _ _ _ us hl => match us, hl with | [_], _ => rfl,
    g_law := PySem.W.mg_of X G alaw,
    F_Bound___init__ := FD38,
    b_Bound___init__ := bA38,
    F_Bound___call__ := fun_mk (st := sBound___call__) l39 c39 k39,
    b_Bound___call__ := (fun_mk (st := sBound___call__) l39 c39 k39).binds (ps := ["self", "numbers"]) fun _ _ _ _ _ _ us hl => match us, hl with | [_, _], _ => rfl,
    F_Bound___eq__ := fun_mk (st := sBound___eq__) l40 c40 k40,
    b_Bound___eq__ := (fun_mk (st := sBound___eq__) l40 c40 k40).binds (ps := ["self", "other"]) fun _ _ _ _ _ _ us hl => match us, hl with | [_, _], _ => rfl }
  let f2 : TopF2 K mg D := {
    F_Point___init__ := fun_mk (st := sPoint___init__) l41 c41 k41,
    b_Point___init__ := (fun_mk (st := sPoint___init__) l41 c41 k41).binds (ps := ["self", "counts"]) fun _ _ _ _ _ _ us hl => match us, hl with | [_, _], _ => rfl,
    F_Point___bool__ := fun_mk (st := sPoint___bool__) l42 c42 k42,
    b_Point___bool__ := (fun_mk (st := sPoint___bool__) l42 c42 k42).binds (ps := ["self"]) fun _ _ _ _ _ _ us hl => match us, hl with | [_], _ => rfl,
    F_Point___eq__ := fun_mk (st := sPoint___eq__) l43 c43 k43,
    b_Point___eq__ := (fun_mk (st := sPoint___eq__) l43 c43 k43).binds (ps := ["self", "other"]) fun _ _ _ _ _ _ us hl => match us, hl with | [_, _], _ => rfl,
    F_Clash___init__ := fun_mk (st := sClash___init__) l44 c44 k44,
    b_Clash___init__ := (fun_mk (st := sClash___init__) l44 c44 k44).binds (ps := ["self", "weights"]) fun _ _ _ _ _ _ us hl => match us, hl with | [_, _], _ => rfl,
    F_Clash___bool__ := fun_mk (st := sClash___bool__) l45 c45 k45,
    b_Clash___bool__ := (fun_mk (st := sClash___bool__) l45 c45 k45).binds (ps := ["self"]) fun _ _ _ _ _ _ us hl => match us, hl with | [_], _ => rfl,
    F_Clash___eq__ := fun_mk (st := sClash___eq__) l46 c46 k46,
    b_Clash___eq__ := (fun_mk (st := sClash___eq__) l46 c46 k46).binds (ps := ["self", "other"]) fun _ _ _ _ _ _ us hl => match us, hl with | [_, _], _ => rfl,
    F_Grid___init__ := fun_mk (st := sGrid___init__) l47 c47 k47,
    b_Grid___init__ := (fun_mk (st := sGrid___init__) l47 c47 k47).binds (ps := ["self", "forms", "gains", "many"]) fun _ _ _ _ _ _ us hl => match us, hl with | [_, _, _, _], _ => rfl,
    F_Grid_exchange := fun_mk (st := sGrid_exchange) l48 c48 k48,
    b_Grid_exchange := (fun_mk (st := sGrid_exchange) l48 c48 k48).binds (ps := ["self", "at", "place"]) fun _ _ _ _ _ _ us hl => match us, hl with | [_, _, _], _ => rfl,
    g_Bound := PySem.W.mg_of X G gBound,
    cl_Bound := ⟨pgBound, hdBound, poBound, saBound⟩,
    kc_Bound := kcBound,
    na_Bound_form := naBound_form,
    na_Bound_is_strict := naBound_is_strict,
    ne_Bound := neBound,
    mr_Bound := mrBound,
    ca_Bound := caBound,
    om_Bound___init__ := ⟨atBound___init__, fnBound___init__⟩,
    mk_Bound := ⟨mkBound, atBound___init__, fnBound___init__, kcBound⟩,
    om_Bound___call__ := ⟨atBound___call__, fnBound___call__⟩,
    om_Bound___eq__ := ⟨atBound___eq__, fnBound___eq__⟩,
    ki_Bound := kit_self,
    ks_Bound := kit_no ksBound (by decide +kernel),
    g_Point := PySem.W.mg_of X G gPoint,
    cl_Point := ⟨pgPoint, hdPoint, poPoint, saPoint⟩,
    kc_Point := kcPoint,
    na_Point_counts := naPoint_counts,
    ne_Point := nePoint,
    mr_Point := mrPoint,
    ca_Point := caPoint,
    om_Point___init__ := ⟨atPoint___init__, fnPoint___init__⟩,
    mk_Point := ⟨mkPoint, atPoint___init__, fnPoint___init__, kcPoint⟩,
    om_Point___bool__ := ⟨atPoint___bool__, fnPoint___bool__⟩,
    om_Point___eq__ := ⟨atPoint___eq__, fnPoint___eq__⟩,
    ki_Point := kit_self,
    ks_Point := kit_no ksPoint (by decide +kernel),
    g_Clash := PySem.W.mg_of X G gClash,
    cl_Clash := ⟨pgClash, hdClash, poClash, saClash⟩,
    kc_Clash := kcClash,
    na_Clash_weights := naClash_weights,
    ne_Clash := neClash,
    mr_Clash := mrClash,
    ca_Clash := caClash,
    om_Clash___init__ := ⟨atClash___init__, fnClash___init__⟩,
    mk_Clash := ⟨mkClash, atClash___init__, fnClash___init__, kcClash⟩,
    om_Clash___bool__ := ⟨atClash___bool__, fnClash___bool__⟩,
    om_Clash___eq__ := ⟨atClash___eq__, fnClash___eq__⟩,
    ki_Clash := kit_self,
    ks_Clash := kit_no ksClash (by decide +kernel),
    g_Grid := PySem.W.mg_of X G gGrid,
    cl_Grid := ⟨pgGrid, hdGrid, poGrid, saGrid⟩,
    kc_Grid := kcGrid,
    na_Grid_lines := naGrid_lines }
  let f3 : TopF3 K mg D := {
    na_Grid_gains := naGrid_gains,
    na_Grid_holders := naGrid_holders,
    na_Grid_scale := naGrid_scale,
    ne_Grid := neGrid,
    mr_Grid := mrGrid,
    ca_Grid := caGrid,
    om_Grid___init__ := ⟨atGrid___init__, fnGrid___init__⟩,
    mk_Grid := ⟨mkGrid, atGrid___init__, fnGrid___init__, kcGrid⟩,
    om_Grid_exchange := ⟨atGrid_exchange, fnGrid_exchange⟩,
    ki_Grid := kit_self,
    ks_Grid := kit_no ksGrid (by decide +kernel),
    sg := sg,
    tk := tk,
    gc_Bound := ⟨⟨pgBound, hdBound, poBound, saBound⟩, caBound, sg, tk, mrBound, gc_kt (kit_no ktint_Bound (by decide +kernel)) (kit_no ksBound (by decide +kernel)) (kit_no ktbool_Bound (by decide +kernel)) (kit_no ktlist_Bound (by decide +kernel)) (kit_no kttuple_Bound (by decide +kernel)) (kit_no ktdict_Bound (by decide +kernel)) (kit_no ktset_Bound (by decide +kernel)) (kit_no ktbytes_Bound (by decide +kernel)) (kit_no ktfloat_Bound (by decide +kernel))⟩,
    me_Bound___init__ := ⟨atBound___init__, fnBound___init__, kBound___init__⟩,
    oc_Bound___call__ := ⟨atBound___call__, fnBound___call__, fiBound___call__⟩,
    me_Bound___eq__ := ⟨atBound___eq__, fnBound___eq__, kBound___eq__⟩,
    gc_Point := ⟨⟨pgPoint, hdPoint, poPoint, saPoint⟩, caPoint, sg, tk, mrPoint, gc_kt (kit_no ktint_Point (by decide +kernel)) (kit_no ksPoint (by decide +kernel)) (kit_no ktbool_Point (by decide +kernel)) (kit_no ktlist_Point (by decide +kernel)) (kit_no kttuple_Point (by decide +kernel)) (kit_no ktdict_Point (by decide +kernel)) (kit_no ktset_Point (by decide +kernel)) (kit_no ktbytes_Point (by decide +kernel)) (kit_no ktfloat_Point (by decide +kernel))⟩,
    me_Point___init__ := ⟨atPoint___init__, fnPoint___init__, kPoint___init__⟩,
    me_Point___bool__ := ⟨atPoint___bool__, fnPoint___bool__, kPoint___bool__⟩,
    me_Point___eq__ := ⟨atPoint___eq__, fnPoint___eq__, kPoint___eq__⟩,
    gc_Clash := ⟨⟨pgClash, hdClash, poClash, saClash⟩, caClash, sg, tk, mrClash, gc_kt (kit_no ktint_Clash (by decide +kernel)) (kit_no ksClash (by decide +kernel)) (kit_no ktbool_Clash (by decide +kernel)) (kit_no ktlist_Clash (by decide +kernel)) (kit_no kttuple_Clash (by decide +kernel)) (kit_no ktdict_Clash (by decide +kernel)) (kit_no ktset_Clash (by decide +kernel)) (kit_no ktbytes_Clash (by decide +kernel)) (kit_no ktfloat_Clash (by decide +kernel))⟩,
    me_Clash___init__ := ⟨atClash___init__, fnClash___init__, kClash___init__⟩,
    me_Clash___bool__ := ⟨atClash___bool__, fnClash___bool__, kClash___bool__⟩,
    me_Clash___eq__ := ⟨atClash___eq__, fnClash___eq__, kClash___eq__⟩,
    gc_Grid := ⟨⟨pgGrid, hdGrid, poGrid, saGrid⟩, caGrid, sg, tk, mrGrid, gc_kt (kit_no ktint_Grid (by decide +kernel)) (kit_no ksGrid (by decide +kernel)) (kit_no ktbool_Grid (by decide +kernel)) (kit_no ktlist_Grid (by decide +kernel)) (kit_no kttuple_Grid (by decide +kernel)) (kit_no ktdict_Grid (by decide +kernel)) (kit_no ktset_Grid (by decide +kernel)) (kit_no ktbytes_Grid (by decide +kernel)) (kit_no ktfloat_Grid (by decide +kernel))⟩,
    me_Grid___init__ := ⟨atGrid___init__, fnGrid___init__, kGrid___init__⟩,
    me_Grid_exchange := ⟨atGrid_exchange, fnGrid_exchange, kGrid_exchange⟩,
    nf_tuple_Point := nftuple_Point,
    kn_tuple_Point := kntuple_Point,
    nf_NoneType_Point := nfNoneType_Point,
    kn_NoneType_Point := knNoneType_Point,
    nf_tuple_Clash := nftuple_Clash,
    kn_tuple_Clash := kntuple_Clash,
    nf_NoneType_Clash := nfNoneType_Clash,
    kn_NoneType_Clash := knNoneType_Clash,
    bf_gcd := PySem.W.mg_of X G bfgcd,
    kt_Point_Clash := ktPoint_Clash,
    kt_Clash_Point := ktClash_Point,
    kb_settled_0 := { to := fun s us ws _ hl => by { obtain ⟨h1, h2⟩ := gPerm_len hl (by decide); match us, ws, h1, h2 with | [], [_, _], _, _ => exact .of_eq rfl }, rel := fun r q => gPerm_rel r q },
    e_law := fun s v => .of_eq rfl,
    z_abs := PySem.W.mg_none_of X G z_abs,
    z_all := PySem.W.mg_none_of X G z_all,
    z_any := PySem.W.mg_none_of X G z_any,
    z_bool := PySem.W.mg_none_of X G z_bool,
    z_dict := PySem.W.mg_none_of X G z_dict,
    z_enumerate := PySem.W.mg_none_of X G z_enumerate,
    z_int := PySem.W.mg_none_of X G z_int,
    z_isinstance := PySem.W.mg_none_of X G z_isinstance,
    z_len := PySem.W.mg_none_of X G z_len,
    z_list := PySem.W.mg_none_of X G z_list,
    z_range := PySem.W.mg_none_of X G z_range,
    z_repr := PySem.W.mg_none_of X G z_repr,
    z_sum := PySem.W.mg_none_of X G z_sum,
    z_tuple := PySem.W.mg_none_of X G z_tuple,
    z_zip := PySem.W.mg_none_of X G z_zip,
    c_MOST_FACTORS := ci_MOST_FACTORS,
    c_MOST_BOUNDS := ci_MOST_BOUNDS,
    bd_Bound___init__ := bD38 }
  let T : Top K mg := ⟨D, f0, f1, f2, f3⟩
  have e : Value.ref fa = .ref T.a_law := Option.some.inj (hfa.symm.trans T.g_law)
  injection e with e
  subst e
  exact ⟨T.d_law, [], lowSp K lawD, fun p hp => (by cases hp), fun p hp => (by cases hp), fun p hp => (by cases hp), T.e_law, fun H a ns hl o hS => law_sat hl (fun b => (o b).2 (by simp)) hS, fun base _ _ _ => dok_law (P := P) (w := w) T⟩
end JP
open PySem PySem.W PySem.Calls PyProof.Rows
set_option maxRecDepth 100000 in
set_option maxHeartbeats 0 in
theorem PySem.Challenge.cw_rowcounts_k35_whole_points_or_clashes_holds : PySem.Challenge.rw_rowcounts_k35_whole_points_or_clashes.Holds := by
  w_on; o_law
  o_head JP.hkY
  case hw => w_witness2
  case hc =>
    refine JP.walk_gt (l := PySem.Challenge.rw_rowcounts_k35_whole_points_or_clashes) (n := 63) (k := 84) (x := "_law_script") rfl (by decide) (by kernel_rfl) ⟨rfl, by decide, by decide⟩ ?F
    intro w mg fa h Y G hmg0
    obtain ⟨K, c⟩ := Y
    have hmg : mg ("law" : PySem.Str) = some (.ref fa) := by
      have e : (HandSHeadRun.topDef (OpenLaw.row PySem.Challenge.rw_rowcounts_k35_whole_points_or_clashes).prog 65).name = ("law" : PySem.Str) := by kernel_rfl
      rw [← e]
      exact hmg0
    obtain ⟨fd, cs, sp, h1, h2, h3, h4, h5, h6⟩ := JP.all_y (P := (PySem.Challenge.rw_rowcounts_k35_whole_points_or_clashes).prog) (w := w) G hmg c
    exact ⟨K, fd, cs, sp, c.inK, h1, h2, h3, h4, h5, h6⟩
