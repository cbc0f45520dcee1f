import PyProof.Rows.All
import Wide.All
import OpenK.AllK
import Wide.FinOn
import HandS.ForMost
import HandS.IsInst
import PyProof.ReprRoads
import PyProof.ReprText
import HandS.Wide
import HandS.Walk
import HandS.Zip
import KE.KEqSeq
import HandS.TupMul
import KE.GoesEnum
import KE.GoesMore
import KE.KEqDeep
import OpenK.KMore
import HandS.Exc
import HandS.ExcInit
import HandS.ExcField
import HandS.ExcIs
import HandS.TryOnly
import HandS.ClsMeth
import HandS.Defaults
import HandS.MakeKw
import HandS.Text
import HandS.StrMore
import HandS.Flow
import HandS.SlotsOwn
import HandS.ExcOwn
import KE.KCallOwn
import KE.KExcIs
import KE.KFmtOwn
import PyProof.InstEq
import HandS.Star
import HandS.WordsExc
import KE.IntTextLaws
import HandS.Lambda
import KE.GoesZip
import HandS.DictComp
import KE.KOpsOwn
import PyProof.ListStr
import PyProof.Rows.StrComp
import HandS.RaiseMore
import HandS.ExcValue
import HandS.MakeKwOnly
import PyProof.RowDictHeap
import KE.KDictCopyH
import HandS.DictTup
import HandS.Conv
import HandS.TupLen
import HandS.Property
import HandS.Gcd
import HandS.Style
import HandS.OwnIter
import HandS.IterVal
import PyProof.WalksMore
import HandS.NoneIn
import KE.KDictKeyed
import KE.KEqDict
import KE.KDictPairs
import KE.KDictDisplayH
import PyProof.StrOps2
import PyProof.ListMulRoad
import HandS.OwnEq
import PyProof.NeKinds
import OpenK.KMeth
import KE.KRevSl
import KE.LtSeq
import KE.LtData
import HandS.FStr
import KE.KNestM
import HandS.EndTab
import HandS.HeadWalk
import HandS.Head2
import HandS.Head3
import HandS.HeadHook3
import HandS.HeadHook4
import PySem.Challenge.RW_rowcounts_k08_conditions_and_their_truth
set_option Elab.async false
set_option linter.all false
set_option maxRecDepth 100000
set_option maxHeartbeats 4000000
namespace JP
open PySem PySem.Spec PyProof.Rows L2
/-- a promise that is kept wherever no guard is on the stack -/
structure GOk (P : Program) (w : World) (K : PySem.W.Frag) (mg : Str → Option Value) (base : Heap) (k : Nat) (f : Addr) (fd : FuncData) (ps : List Str) (sp : Sp) : Prop where
  arity : ∀ vs H Q E, sp vs H Q E → vs.length = ps.length
  kept : ∀ (A : Around) (outer : List Env) (s : Shared) (H : Hp) (args : Args) (us : List Value) (vs : List V) (Q : VK) (E : XK), A.guards = some [] → Room k A →
    Env0 P w K mg base A outer s H → BindsTo s fd args (ps.zip us) → Vals vs us → sp vs H Q E → codeAny (model P w) A (.call (.ref f) args) (CR CX0 outer P w H s Q E) s
section
variable {P : Program} {w : World} {K : PySem.W.Frag} {mg : Str → Option Value} {base : Heap} {j k : Nat} {f : Addr} {fd : FuncData} {ps N : List Str} {sp : Sp}
theorem GOk.mono (F : GOk P w K mg base j f fd ps sp) (h : j ≤ k) : GOk P w K mg base k f fd ps sp :=
  ⟨F.arity, fun A outer s H args us vs Q E g hr e0 hb hv hs => F.kept A outer s H args us vs Q E g (hr.mono h) e0 hb hv hs⟩
/-- a def of the text by its body; g: no guard around the body -/
theorem gok {x qual : Str} {st : Stmt} (F : Fun K x qual st f fd) (S : FnScope N ps (defScope st)) (len : ∀ vs H Q E, sp vs H Q E → vs.length = ps.length)
    (body : ∀ (cdv : Value) (A : Around) (outer : List Env) (s : Shared) (H : Hp) (vs : List V) (Q : VK) (E : XK), A.guards = some [] →
      Room k (A.deeper (envOfC qual (defScope st) s.heap.objs.size f cdv)) → sp vs H Q E →
      ∃ t, PSs (cxOf CX0 P w K mg base N qual (defScope st) f cdv A outer s H E).nox (defBody st) t ∧ t { nx := fun _ H' => Q .non H', rt := Q } (start N vs) H) :
    GOk P w K mg base (k + 1) f fd ps sp := by
  obtain ⟨oc, od, kV, doc, pm, an, cdv, ct, osl, rfl, lk, hcd⟩ := F.ex
  constructor
  · exact len
  intro A outer s H args us vs Q E g hr e0 hb r hs
  have hl := len vs H Q E hs
  have inK : K.In s.heap := e0.mod.kin.keeps fun b o q => (e0.bs b o q).1
  have nl : s.heap.NoLimit := e0.mod.nolimit.keeps fun b o q => (e0.bs b o q).1
  have kinds : ∀ y ∈ ps.zip us, (defScope st).names.lookup y.1 = some .local ∨ ((defScope st).names.lookup y.1 = some .cell ∧ ((cellsFrom (s.heap.objs.size + 1) (defScope st).names []).lookup y.1).isSome = true) := by
    intro y hy
    obtain ⟨n, v⟩ := y
    cases S.par n (List.of_mem_zip hy).1 with
    | inl q => exact Or.inl q
    | inr q => exact Or.inr (And.intro q (PySem.W.cellsFrom_some _ _ _ (Or.inl q)))
  apply codeAny_call_function hr.depth (inK _ _ lk) rfl S.co S.gen rfl (PySem.W.codeRec_of inK hcd)
  apply hb
  apply wpAny_newFunctionEnv_cells S.kind kinds
  intro env he s1 x1
  subst he
  refine And.intro (nl.keeps x1.toInCall.keep) (codeAny_func ?_)
  obtain ⟨t, ht, hq⟩ := body cdv A outer s H vs Q E g (hr.deeper _) hs
  have I : Inv (cxOf CX0 P w K mg base N qual (defScope st) f cdv A outer s H E) [] (start N vs) H s1 := inv_start S hr.hd e0 hl r x1
  apply wpAny_mono (ht.nox.run [] s1 (start N vs) H _ I hq)
  · intro fl s' q
    match fl, q with
    | .ret u, ⟨v, _, H', J, rv, z⟩ => exact ⟨v, H', J.os, J.bare, J.base, J.hok, rv, z⟩
    | .next, ⟨_, H', J, z⟩ => exact ⟨.non, H', J.os, J.bare, J.base, J.hok, rfl, z⟩
    | .brk, ⟨_, _, _, z⟩ => exact z.elim
    | .cont, ⟨_, _, _, z⟩ => exact z.elim
  · exact fun _ _ q => q
end
section
variable {X : Cx} {k : Nat} {f : Addr} {fd : FuncData} {ps : List Str} {sp : Sp} {x : Str} {p pos : Pos} {e : Expr} {es : List Expr} {t : TA} {dvs : List V} {ds : List Value} {E : XK}
theorem run_g {pins : List (Addr × Obj)} {σ : L2.St} {H : Hp} {s : Shared} {Q : VK} {us : List Value} {vs : List V} (F : GOk X.prog X.w X.K X.mg X.base k f fd ps sp) (g : X.A.guards = some []) (hr : Room k X.A)
    (hb : Binds X.K fd ps ds) (hd : Vals dvs ds) (I : Inv X pins σ H s) (r : Vals vs us) (h : sp (vs ++ dvs) H Q E) : wpAny (model X.prog X.w) X.A (call (.ref f) us) (EP X pins σ Q) X.xe s := by
  have r' := Vals.append r hd
  have n : (us ++ ds).length = ps.length := r'.length.symm.trans (F.arity _ _ _ _ h)
  apply wpAny_call
  apply codeAny_mono (F.kept X.A X.stack s H ⟨us, []⟩ (us ++ ds) (vs ++ dvs) Q E g hr I.env0 (hb s us I.kIn n) r' h)
  intro res s' q
  match res, q with
  | .ok (.ret u), q => exact I.after q
  | .ok .next, q => exact q.elim
  | .ok .brk, q => exact q.elim
  | .ok .cont, q => exact q.elim
  | .error _, q => exact False.elim q
/-- a call of such a def, by position -/
theorem pe_g (F : GOk X.prog X.w X.K X.mg X.base k f fd ps sp) (g : X.A.guards = some []) (hr : Room k X.A) (hg : Gl X x) (hm : X.mg x = some (.ref f)) (hk : PySem.W.keepIn X.K (.ref f) = true)
    (hb : Binds X.K fd ps ds) (hd : Vals dvs ds) (ha : PA X (e :: es) t) (hdb : (x == ("__debug__" : Str)) = false := by decide)
    (he : starEach (e :: es) X.env = (false, eval e X.env) :: starEach es X.env := by rfl) (hpl : (backTo pos (starEach es X.env)).any (·.1) = false := by rfl) :
    PE X (.Call (.Name x p) (e :: es) [] pos) (tCall sp dvs E t) := by
  constructor
  intro pins s σ H Q I h
  apply wpAny_Call_Name_kw
  apply ld_glob I hg hm _ hdb
  exact PySem.W.callWith_K (h₀ := X.base) I.ok.mod.kin hk (thn (ha.run pos pins s σ H _ I h) fun us s1 ⟨vs, H1, I1, r, q⟩ => ⟨I1.kIn, run_g F g hr hb hd I1 r q⟩) he hpl
end
section
variable {X : Cx}
/-- repr(x) of such data -/
def rRepr (K : PySem.W.Frag) : List V → Hp → VK → Prop := fun xs H Q => ∃ x d, xs = [x] ∧ Dp K H x d ∧ d.showable = true ∧ d.hasDict = false ∧ d.depth ≤ 60 ∧ d.shown.length ≤ sizeLine ∧ Q (.str d.shown) H
theorem call_repr (g : X.A.guards = some []) (hu : X.A.units + 64 < cLine) : CallR X (.builtin "repr") (rRepr X.K) := by
  intro pins s σ H xs us Q I r h
  obtain ⟨x, d, rfl, hd, sh, nd, dp, sz, q⟩ := h
  obtain ⟨u, rfl, rv⟩ := vals1 r
  obtain ⟨as, rd⟩ := Dp.reads I d x u hd rv
  cases hd with
  | non =>
    cases rv
    refine PySem.P.repr_of_none ⟨.str _, H, I.tok _, ⟨_, rfl⟩, ?_⟩
    rw [PyData.shown_none] at q
    exact q
  | bl b =>
    cases rv
    refine PySem.P.repr_of_bool ⟨.str _, H, I.tok _, ⟨_, rfl⟩, ?_⟩
    rw [PyData.shown_bool] at q
    exact q
  | int i =>
    obtain ⟨t, rfl⟩ := rv
    refine PySem.P.repr_of_int (by simpa [PyData.showable] using sh) ⟨.str _, H, I.tok _, ⟨_, rfl⟩, ?_⟩
    rw [PyData.shown_int] at q
    exact q
  | str y =>
    obtain ⟨t, rfl⟩ := rv
    rw [PyData.shown_str] at q sz
    exact PySem.P.repr_of_str ⟨.str _, H, I.tok _, ⟨_, rfl⟩, q⟩ sz
  | lst a b =>
    cases rv
    exact repr_of_reads' rd sh (by rw [nd]; intro z; cases z) g (by omega) (fun _ _ e => e) (fun h' u tk k => ⟨.str _, H, I.kept k, ⟨_, rfl⟩, q⟩) sz
  | tup a b =>
    cases rv
    exact repr_of_reads' rd sh (by rw [nd]; intro z; cases z) g (by omega) (fun _ _ e => e) (fun h' u tk k => ⟨.str _, H, I.kept k, ⟨_, rfl⟩, q⟩) sz
end
end JP
namespace JP
open PySem PySem.Spec PySem.W PySem.Calls PyProof.Rows L2
/-- the abstract heap at the law's call: the script at most -/
def scriptHp (K : PySem.W.Frag) (a : Addr) (o : Obj) (xs : List V) : Hp := fun b => if b = a ∧ K.lookup a = none then some (.frz o (.lst xs)) else none
section
variable {P : Program} {w : World} {K : PySem.W.Frag} {a b : Addr} {o : Obj} {xs : List V} {h : Heap}
theorem scriptHp_cases (b : Addr) : scriptHp K a o xs b = none ∨ (b = a ∧ K.lookup a = none ∧ scriptHp K a o xs b = some (.frz o (.lst xs))) := by
  unfold scriptHp
  by_cases c : b = a ∧ K.lookup a = none
  · right
    exact ⟨c.1, c.2, if_pos c⟩
  · left
    exact if_neg c
theorem scriptHp_some {u : HO} (e : scriptHp K a o xs b = some u) : b = a ∧ K.lookup a = none ∧ u = .frz o (.lst xs) := by
  rcases scriptHp_cases (K := K) (a := a) (o := o) (xs := xs) b with n | ⟨h1, h2, h3⟩
  · rw [n] at e
    cases e
  · rw [h3] at e
    exact ⟨h1, h2, (Option.some.inj e).symm⟩
theorem scriptHp_only : Only (scriptHp K a o xs) := fun b => by
  rcases scriptHp_cases (K := K) (a := a) (o := o) (xs := xs) b with n | ⟨_, _, e⟩
  · exact .inl n
  · exact .inr ⟨o, xs, e⟩
end
end JP
namespace JP
open PySem PySem.Spec PyProof.Rows L2
def Pen (H : Hp) (p c : Addr) (m : Nat) : Prop := ∃ (ns : List Int) (n g : Int), H p = some (.lst [.ref c, .int n, .int g]) ∧ H c = some (.lst (ns.map V.int)) ∧ c ≠ p ∧ ns.length ≤ 63 ∧ 0 ≤ n ∧ n ≤ m ∧ 0 ≤ g
/-- all but the pen is as it was -/
def But (p : Addr) (H H' : Hp) : Prop := ∀ b o, b ≠ p → H b = some o → H' b = some o
theorem fmod_lo (x : Int) {y : Int} (h : 1 ≤ y) : 0 ≤ x.fmod y := by
  rw [Int.fmod_eq_emod_of_nonneg x (by omega)]
  exact Int.emod_nonneg x (by omega)
theorem fmod_lt (x : Int) {y : Int} (h : 1 ≤ y) : x.fmod y < y := by
  rw [Int.fmod_eq_emod_of_nonneg x (by omega)]
  exact Int.emod_lt_of_pos x (by omega)
theorem fmod_32 {x C : Int} (h1 : 1 ≤ C) (h2 : C ≤ 2 ^ 32) : x.fmod C < 2 ^ 32 := by
  have := fmod_lt x h1
  omega
theorem fmod_64 {x C : Int} (h1 : 1 ≤ C) (h2 : C ≤ 2 ^ 32) : -(2 ^ 64) < x.fmod C ∧ x.fmod C < 2 ^ 64 := by
  have := fmod_lt x h1
  have := fmod_lo x h1
  omega
theorem mix_bound {x C D E n : Int} {m : Nat} (h1 : 1 ≤ C) (h2 : C ≤ 2 ^ 32) (h3 : 0 ≤ D) (h4 : D ≤ 2 ^ 20) (h5 : 0 ≤ E) (h6 : E ≤ 2 ^ 20) (n0 : 0 ≤ n) (nm : n ≤ m) (hm : m ≤ 2 ^ 20) : (x.fmod C + D * n + E).natAbs < 2 ^ 64 := by
  have a := fmod_lo x h1
  have b := fmod_lt x h1
  have c : D * n ≤ 2 ^ 20 * 2 ^ 20 := Int.mul_le_mul h4 (by omega) n0 (by decide)
  have d : 0 ≤ D * n := Int.mul_nonneg h3 n0
  omega
theorem mix_bound2 {x C D E n : Int} {m : Nat} (h1 : 0 ≤ C) (h2 : C ≤ 2 ^ 20) (h3 : 0 ≤ D) (h4 : D ≤ 2 ^ 20) (h5 : 0 ≤ E) (h6 : E ≤ 2 ^ 20) (x0 : 0 ≤ x) (x1 : x < 2 ^ 32) (n0 : 0 ≤ n) (nm : n ≤ m) (hm : m ≤ 2 ^ 20) : (x * (2 * n + C) + D * n * n + E).natAbs < 2 ^ 64 := by
  have c : D * n ≤ 2 ^ 20 * 2 ^ 20 := Int.mul_le_mul h4 (by omega) n0 (by decide)
  have d : 0 ≤ D * n := Int.mul_nonneg h3 n0
  have c2 : D * n * n ≤ (2 ^ 20 * 2 ^ 20) * 2 ^ 20 := Int.mul_le_mul c (by omega) n0 (by decide)
  have d2 : 0 ≤ D * n * n := Int.mul_nonneg d n0
  have c3 : x * (2 * n + C) ≤ 2 ^ 32 * 2 ^ 22 := Int.mul_le_mul (by omega) (by omega) (by omega) (by decide)
  have d3 : 0 ≤ x * (2 * n + C) := Int.mul_nonneg x0 (by omega)
  omega
theorem but_upd {H : Hp} (p : Addr) (o : HO) : But p H (upd H p o) := fun b u n e => by
  rw [upd_ne n]
  exact e
theorem But.trans {p : Addr} {H H1 H2 : Hp} (a : But p H H1) (b : But p H1 H2) : But p H H2 := fun c o n e => b c o n (a c o n e)
theorem But.of_same {p : Addr} {H H1 : Hp} (a : Same H H1) : But p H H1 := fun c o _ e => a c o e
theorem but_new {H : Hp} {p a : Addr} {o : HO} (h : H a = none) : But p H (upd H a o) := fun b u _ e => by
  rw [upd_ne (ne_of_none e h)]
  exact e
theorem pen_set {H : Hp} {p c : Addr} {ns : List Int} {n g n' g' : Int} {m : Nat} (hp : H p = some (.lst [.ref c, .int n, .int g])) (hc : H c = some (.lst (ns.map V.int))) (ncp : c ≠ p) (hl : ns.length ≤ 63) (h0 : 0 ≤ n') (h1 : n' ≤ m) (h2 : 0 ≤ g') :
    Pen (upd H p (.lst [.ref c, .int n', .int g'])) p c m :=
  ⟨ns, n', g', upd_same, by
    rw [upd_ne ncp]
    exact hc, ncp, hl, h0, h1, h2⟩
theorem dp_ints {K : PySem.W.Frag} {H : Hp} : ∀ ns : List Int, DpAll K H (ns.map V.int) (ns.map PyData.int)
  | [] => .nil
  | n :: ns => .cons (.int n) (dp_ints ns)
theorem Pen.mono {H : Hp} {p c : Addr} {m n : Nat} (h : Pen H p c m) (k : m ≤ n) : Pen H p c n := by
  obtain ⟨ns, x, g, h1, h2, h3, h4, h5, h6, h7⟩ := h
  exact ⟨ns, x, g, h1, h2, h3, h4, h5, by omega, h7⟩
theorem Pen.same {H H' : Hp} {p c : Addr} {m : Nat} (h : Pen H p c m) (k : Same H H') : Pen H' p c m := by
  obtain ⟨ns, x, g, h1, h2, h3⟩ := h
  exact ⟨ns, x, g, k _ _ h1, k _ _ h2, h3⟩
theorem Pen.at_ {H : Hp} {p c : Addr} {m : Nat} (h : Pen H p c m) : ∃ xs, H p = some (.lst xs) := by
  obtain ⟨ns, x, g, h1, _⟩ := h
  exact ⟨_, h1⟩
theorem same_new {H : Hp} {a : Addr} {o : HO} (h : H a = none) : Same H (upd H a o) := fun b u e => by
  rw [upd_ne (ne_of_none e h)]
  exact e
theorem same_seqT {K : PySem.W.Frag} {a : Addr} {H H' : Hp} {xs : List V} (e : Same H H') (h : SqT K H a xs) : SqT K H' a xs := by
  rcases h with (h | ⟨o, h⟩) | h
  · exact .inl (.inl (e _ _ h))
  · exact .inl (.inr ⟨o, e _ _ h⟩)
  · exact .inr h
theorem But.refl (p : Addr) (H : Hp) : But p H H := fun _ _ _ e => e
theorem cut_all (xs : List V) {n : Nat} (h : xs.length ≤ n) : cutV xs none (some (n : Int)) = xs := by
  unfold cutV
  rw [show HT.sIx xs.length xs.length (some (n : Int)) = min n xs.length from HT.sIx_nat xs.length xs.length n, HT.sIx_none, Nat.min_eq_right h]
  simp
end JP
namespace JP
open PySem PySem.Spec PyProof.Rows L2
inductive Ki where
  | non | bl | int | str | lst | tup | dct
  deriving DecidableEq
def Ki.name : Ki → String
  | .non => "NoneType" | .bl => "bool" | .int => "int" | .str => "str" | .lst => "list" | .tup => "tuple" | .dct => "dict"
/-- x is of kind k in H -/
def IsKi (H : Hp) (x : V) : Ki → Prop
  | .non => x = .non
  | .bl => ∃ b, x = .bl b
  | .int => ∃ i, x = .int i
  | .str => ∃ s, x = .str s
  | .lst => ∃ a xs, x = .ref a ∧ H a = some (.lst xs)
  | .tup => ∃ a xs, x = .ref a ∧ H a = some (.tup xs)
  | .dct => ∃ a kvs, x = .ref a ∧ H a = some (.dK kvs)
theorem IsKi.ty {K : PySem.W.Frag} {H : Hp} {x : V} : ∀ {k : Ki}, IsKi H x k → TyX K H x (.type k.name)
  | .non, h => by
    cases h
    exact .base .non
  | .bl, h => by
    obtain ⟨b, rfl⟩ := h
    exact .base (.bl b)
  | .int, h => by
    obtain ⟨b, rfl⟩ := h
    exact .base (.int b)
  | .str, h => by
    obtain ⟨b, rfl⟩ := h
    exact .base (.str b)
  | .lst, h => by
    obtain ⟨a, xs, rfl, e⟩ := h
    exact .base (.lst e)
  | .tup, h => by
    obtain ⟨a, xs, rfl, e⟩ := h
    exact .base (.tup e)
  | .dct, h => by
    obtain ⟨a, xs, rfl, e⟩ := h
    exact .base (.dK e)
def Ki.below : Ki → Ki → Bool
  | .bl, .int => true
  | a, b => decide (a = b)
theorem ki_kit {K : PySem.W.Frag} : ∀ a b : Ki, PySem.W.kitOne K (.type a.name) (.type b.name) = some (a.below b) := by
  intro a b
  apply kit_ty
  cases a <;> cases b <;> decide +kernel
theorem IsKi.same {H H' : Hp} (s : Same H H') {x : V} : ∀ {k : Ki}, IsKi H x k → IsKi H' x k
  | .non, h => h
  | .bl, h => h
  | .int, h => h
  | .str, h => h
  | .lst, ⟨a, xs, e, h⟩ => ⟨a, xs, e, s _ _ h⟩
  | .tup, ⟨a, xs, e, h⟩ => ⟨a, xs, e, s _ _ h⟩
  | .dct, ⟨a, xs, e, h⟩ => ⟨a, xs, e, s _ _ h⟩
end JP
namespace JP
open PySem PySem.Spec PyProof.Rows L2
open AutoSeq1 (wpAny_loadPart')
section
variable {X : Cx}
/-- t + u, any tuples -/
def rCat2 : R2 := fun x y H Q => ∃ a b xs ys, x = .ref a ∧ y = .ref b ∧ H a = some (.tup xs) ∧ H b = some (.tup ys) ∧ xs.length + ys.length ≤ sizeLine ∧
  ∀ p H', Same H H' → H' p = some (.tup (xs ++ ys)) → Q (.ref p) H'
theorem op_cat2 : OpR X (binaryOp .Add) rCat2 := by
  intro pins s σ H x y v u Q I rx ry h
  obtain ⟨a, b, xs, ys, rfl, rfl, ha, hb, hz, q⟩ := h
  cases rx
  cases ry
  by_cases hx : xs = []
  · subst hx
    obtain ⟨its, r1, p1, _⟩ := I.tuple (SqT.of ha)
    obtain ⟨its2, r2, p2, _⟩ := I.tuple (SqT.of hb)
    cases r1
    obtain ⟨⟨cls, dd, data, sl⟩, ho, hc, n, hd⟩ := id p1
    obtain ⟨⟨cls2, dd2, data2, sl2⟩, ho2, hc2, n2, hd2⟩ := id p2
    simp only at hc hd hc2 hd2
    subst hc hd hc2 hd2
    exact concat_meets ⟨_, ho, rfl⟩ ⟨_, ho2, rfl⟩ noFill_tuple_add seq_tuple_add PySem.F.slot_tuple_add PySem.F.entry_tuple_add (PySem.F.args_tuple_add_2 _ _)
      (tuple_addW0 a b _ _ n n2 dd dd2 sl sl2 (by rfl)) ⟨ho, ho2, ⟨.ref b, H, I.tok _, rfl, q b H (.refl H) (by rw [List.nil_append]; exact hb)⟩⟩
  · refine op_catT pins s σ H (.ref a) (.ref b) _ _ Q I rfl rfl ⟨a, b, xs, ys, rfl, rfl, .of ha, .of hb, hx, hz, fun e => ?_, fun _ p hp => ?_⟩
    · subst e
      exact q a H (.refl H) (by rw [List.append_nil]; exact ha)
    · exact q p _ (same_new hp) upd_same
/-- t * k, k from 1 on -/
def rRep2 : R2 := fun x y H Q => ∃ l k xs, x = .ref l ∧ y = .int k ∧ H l = some (.tup xs) ∧ xs ≠ [] ∧ 1 ≤ k ∧ k ≤ 1000 ∧ xs.length ≤ 1000 ∧ ∀ p H', Same H H' → H' p = some (.tup (List.replicate k.toNat xs).flatten) → Q (.ref p) H'
theorem tuple_mulW1 (l : Addr) (items : Array Value) (n : Nat) (dd : Option Addr) (sl : Array (Option Value)) (u : Tok) :
    Meets (Builtin.«tuple.__mul__» ⟨[.ref l, .int 1 u], []⟩) (fun _ R s => s.heap.get? l = some { cls := .type "tuple", dict := dd, data := .seq items n, slots := sl } ∧
      R (.ok (.ret (Value.ref l))) { s with heap := s.heap, toks := s.toks }) :=
  .of_wp fun prog w A R s h => by
    obtain ⟨hp, g, d, tk, os⟩ := s
    obtain ⟨hl, h⟩ := h
    have f1 := AutoSeq1.idx_int
    have c1 : (items.isEmpty || (1 : Int) == 1) = true := by simp
    have c0 : (decide ((1 : Int) < -(2 ^ 63)) || decide ((1 : Int) ≥ 2 ^ 63)) = false := by decide
    wp_walk using wpAny_loadPart' hl
    repeat (first
      | (refine wpAny_ite_false (decide_eq_false (by rw [c0]; exact Bool.false_ne_true)) ?_; wp_walk using wpAny_loadPart' hl)
      | (refine wpAny_ite_true (decide_eq_true c1) ?_; wp_walk using wpAny_loadPart' hl))
    all_goals first | exact ⟨_, rfl, h⟩ | skip
theorem op_rep2 : OpR X (binaryOp .Mult) rRep2 := by
  intro pins s σ H x y v u Q I rx ry h
  obtain ⟨l, k, xs, rfl, rfl, hT, hne, h1, h2, hz, q⟩ := h
  by_cases hk : k = 1
  · subst hk
    cases rx
    obtain ⟨t, rfl⟩ := ry
    obtain ⟨its, r, ⟨⟨cls, dd, data, sl⟩, ho, hc, n, hd⟩, hs⟩ := I.tuple (SqT.of hT)
    simp only at hc hd
    subst hc hd
    refine wpAny_binaryOp_repeat_ref (T := "tuple") (U := "int") (by decide) ⟨_, ho, rfl⟩ (fun s' => typeIs_int s' 1 t) noFill_tuple_mul F.fills_int_mul F.slot_int_rmul repeat_tuple F.slot_int_index.lookup
      (call_meets F.slot_int_rmul (typeIs_int s 1 t) F.entry_int_rmul (F.args_int_rmul_2 _ _) (int_rmul_tuple 1 t l its.toArray n dd sl)
        ⟨ho, rfl, ⟨_, ho, rfl⟩, call_meets F.slot_tuple_mul ⟨_, ho, rfl⟩ F.entry_tuple_mul (F.args_tuple_mul_2 _ _) (tuple_mulW1 l its.toArray n dd sl t) ⟨ho, ?_⟩⟩)
    refine ⟨.ref l, H, I.tok _, rfl, q l H (.refl H) ?_⟩
    simpa using hT
  · exact op_repT pins s σ H (.ref l) (.int k) v u Q I rx ry ⟨l, k, xs, rfl, rfl, .of hT, hne, by omega, h2, hz, fun p hp => q p _ (same_new hp) upd_same⟩
end
end JP
namespace JP
open PySem PySem.Spec PyProof.Rows L2
/-- the list of a comprehension at D: what is made so far, and P of the turn, of it, of the heap -/
def AccP (D : Addr) (P : Nat → List V → Hp → Prop) (i : Nat) (H : Hp) : Prop := ∃ acc, H D = some (.lst acc) ∧ acc.length ≤ i ∧ P i acc H
theorem AccP.zero {D : Addr} {P : Nat → List V → Hp → Prop} {H : Hp} (h : P 0 [] (upd H D (.lst []))) : AccP D P 0 (upd H D (.lst [])) := ⟨[], upd_same, Nat.le_refl _, h⟩
theorem AccP.put {D : Addr} {P : Nat → List V → Hp → Prop} {H : Hp} {i : Nat} {acc : List V} {y : V} (hn : i < sizeLine) (e : H D = some (.lst acc)) (l : acc.length ≤ i) (p : P (i + 1) (acc ++ [y]) (upd H D (.lst (acc ++ [y])))) :
    ∃ acc, H D = some (.lst acc) ∧ acc.length < sizeLine ∧ AccP D P (i + 1) (upd H D (.lst (acc ++ [y]))) :=
  ⟨acc, e, by omega, acc ++ [y], upd_same, by simp; omega, p⟩
theorem small_size {n : Nat} (h : n ≤ 1000) : n < sizeLine := by
  rw [sizeLine_eq]
  omega
theorem take_next {α : Type} {xs : List α} {i : Nat} {x : α} (h : xs[i]? = some x) : xs.take (i + 1) = xs.take i ++ [x] := by
  rw [List.take_succ, h]
  rfl
theorem ixL {X : Cx} {K : PySem.W.Frag} (h : X.K = K) : IxR X (rIxL K) := h ▸ ix_list
theorem But.tup {p c a : Addr} {m : Nat} {H H' : Hp} {xs : List V} (b : But p H H') (hP : Pen H p c m) (h : H a = some (.tup xs)) : H' a = some (.tup xs) := by
  obtain ⟨ys, e⟩ := hP.at_
  exact b a _ (ne_of h e (by intro z; cases z)) h
end JP
namespace JP
open PySem PySem.Spec PyProof.Rows L2
/-- the arguments in the parameters' order, told by their places among all arguments -/
def gPerm {α : Type} (np nk : Nat) (ix : List Nat) (us ws : List α) : List α := if us.length = np ∧ ws.length = nk then ix.filterMap (fun i => (us ++ ws)[i]?) else []
theorem gPerm_rel {np nk : Nat} {ix : List Nat} {vs zs : List V} {us ws : List Value} (r : Vals vs us) (q : Vals zs ws) : Vals (gPerm np nk ix vs zs) (gPerm np nk ix us ws) := by
  unfold gPerm
  rw [r.length, q.length]
  split
  · have a := Vals.append r q
    clear r q
    generalize vs ++ zs = xs at a
    generalize us ++ ws = ys at a
    induction ix with
    | nil => exact .nil
    | cons i ix ih =>
      rw [List.filterMap_cons, List.filterMap_cons]
      cases e : xs[i]? with
      | none => rw [a.none_of e]; exact ih
      | some x =>
        obtain ⟨u, hu, ru⟩ := a.get e
        rw [hu]
        exact .cons ru ih
  · exact .nil
theorem same_seqL' {K : PySem.W.Frag} {a : Addr} {H H' : Hp} {xs : List V} (e : Same H H') (h : SqL K H a xs) : SqL K H' a xs := by
  rcases h with (h | ⟨o, h⟩) | h
  · exact .inl (.inl (e _ _ h))
  · exact .inl (.inr ⟨o, e _ _ h⟩)
  · exact .inr h
end JP
namespace JP
open PySem PySem.Spec PyProof.Rows L2
/-- at a: an exception of the class cls, its dict d -/
def xo (a : Addr) (cls : Value) (d : Option Addr) : HO := .ext fun h => ∃ oe, h.get? a = some oe ∧ Zc cls d oe ∧ ∃ vs, oe.data = .fields vs
theorem xo_ok {P : Program} {w : World} {H : Hp} {h : Heap} {a : Addr} {cls : Value} {d : Option Addr} {oe : Obj} (e : h.get? a = some oe) (z : Zc cls d oe) (f : ∃ vs, oe.data = .fields vs) : ObjOk P w H h a (xo a cls d) :=
  ⟨⟨oe, e, z, f⟩, ⟨oe, e⟩, fun _ _ ⟨o, e1, r⟩ k => ⟨o, k o e1, r⟩⟩
theorem xo_at {P : Program} {w : World} {H : Hp} {h : Heap} {a : Addr} {cls : Value} {d : Option Addr} (k : HOk P w H h) (e : H a = some (xo a cls d)) : ∃ oe, h.get? a = some oe ∧ Zc cls d oe ∧ ∃ vs, oe.data = .fields vs := by
  have x : ObjOk P w H h a (.ext fun h => ∃ oe, h.get? a = some oe ∧ Zc cls d oe ∧ ∃ vs, oe.data = .fields vs) := k a _ e
  exact x.1
section
variable {X : Cx} {pins : List (Addr × Obj)} {σ : L2.St} {H : Hp} {s : Shared}
/-- an object that is known by a pin, new since the def was entered, is tracked from now on -/
theorem track {a : Addr} {oe : Obj} {cls : Value} {d : Option Addr} (I : Inv X ((a, oe) :: pins) σ H s) (z : Zc cls d oe) (f : ∃ vs, oe.data = .fields vs) (np : ∀ p ∈ X.pn ++ pins, p.1 ≠ a) (n0 : X.s_0.heap.get? a = none) :
    Inv X pins σ (upd H a (xo a cls d)) s := by
  obtain ⟨e, n, nl, nf, nc⟩ := I.pin (a, oe) (List.mem_append_right _ List.mem_cons_self)
  have old : ∀ {b : Addr} {o : Obj}, X.s_0.heap.get? b = some o → b ≠ a := fun {b o} q w => by
    rw [w, n0] at q
    cases q
  have no : ∀ {b : Addr} {o : HO}, H b = some o → b ≠ a := fun q => ne_of_none q n
  refine ⟨I.ok, I.os, I.bare, ⟨I.base.keep, I.base.slot, fun b o q m hx => ?_, I.base.there, fun b xs q => ?_, fun b o u q => ?_, fun b ps q => ?_⟩, I.loc, I.cell, ?_, fun x c q => ?_, fun p hp => ?_, fun b u q => ?_, I.len⟩
  · rw [upd_ne (old q)]
    exact I.base.free b o q m hx
  · have := I.base.tups b xs q
    rw [upd_ne (no this)]
    exact this
  · have := I.base.frzs b o u q
    rw [upd_ne (no this)]
    exact this
  · obtain ⟨more, this⟩ := I.base.tbls b ps q
    exact ⟨more, (upd_ne (no this)).trans this⟩
  · rw [upd_ne nl.symm]
    exact I.free
  · have : c ≠ a := fun w => by
      obtain ⟨v, o, ho, hd⟩ := I.cell x c q
      rw [w, show s.heap.get? a = some oe from e] at ho
      cases ho
      exact nc v hd
    rw [upd_ne this]
    exact I.freeC x c q
  · obtain ⟨p1, p2, p3⟩ := I.pin p (by
      rcases List.mem_append.mp hp with w | w
      · exact List.mem_append_left _ w
      · exact List.mem_append_right _ (List.mem_cons_of_mem _ w))
    exact ⟨p1, (upd_ne (np p hp)).trans p2, p3⟩
  · by_cases hb : b = a
    · subst hb
      rw [upd_same] at q
      cases q
      exact xo_ok e z f
    · rw [upd_ne hb] at q
      exact (I.hok b u q).stay (fun _ _ _ y => y) (fun c y => (upd_ne (no y)).trans y) fun c xs y => (upd_ne (no y)).trans y
theorem unsuiteP {a : Addr} {oe : Obj} (I : Inv (X.suite a ((a, oe) :: (X.pn ++ pins))) [] σ H s) (ok : X.Ok) : Inv X ((a, oe) :: pins) σ H s :=
  ⟨ok, I.os, I.bare, I.base, I.loc, I.cell, I.free, I.freeC, fun p hp => I.pin p (by
    rw [List.append_nil]
    rcases List.mem_append.mp hp with w | w
    · exact List.mem_cons_of_mem _ (List.mem_append_left _ w)
    · rcases List.mem_cons.mp w with w | w
      · rw [w]
        exact List.mem_cons_self
      · exact List.mem_cons_of_mem _ (List.mem_append_right _ w)), I.hok, I.len⟩
end
/-- what 'except x as n: suite' wishes of an exception of the body, where the suite runs through and the exception is kept -/
def wHeld (K : PySem.W.Frag) (c : Value) (i : Nat) (ts : Addr → Value → Option Addr → TS) (Wout : WX) (D : Ends) : WX := fun cls d σ H =>
  ∃ b, PySem.W.exmOne K cls c = some b ∧ (b = true → ∀ a, H a = none → ts a cls d { nx := fun σ' H' => D.nx (σ'.set i none) (upd H' a (xo a cls d)), rt := fun _ _ => False, bk := fun _ _ => False, ct := fun _ _ => False } (σ.set i (some (.ref a))) H) ∧
    (b = false → Wout cls d σ H)
section
variable {X : Cx} {x n : Str} {c : Value} {i : Nat} {body suite : List Stmt} {b₀ : Stmt} {np pos pos' : Pos} {tb : WX → TS} {ts : Addr → Value → Option Addr → TS} {Wout : WX}
theorem ps_try_held (hs : X.stack = X.env :: X.outer) (hf : X.env.frame = some X.env.locals) (hex : X.ex = []) (hN : X.N.Nodup) (hi : X.N[i]? = some n) (hln : X.env.kindOf n = some .local) (hc : Names X x c) (tk : Takes X Wout)
    (hb : ∀ (W : WX) (pn : List (Addr × Obj)) (xe : Value → Shared → Prop), Takes (X.tr pn xe) W → PassesOwn (model X.prog X.w) X.A X.env xe → PSs (X.tr pn xe) body (tb W))
    (hsu : ∀ (a : Addr) (oe : Obj) (cls : Value) (d : Option Addr) (pn : List (Addr × Obj)), Zc cls d oe → (∃ vs, oe.data = .fields vs) → PSs (X.suite a ((a, oe) :: pn)) (b₀ :: suite) (ts a cls d)) :
    PS X (.Try body [.ExceptHandler (some (.Name x np)) (some n) (b₀ :: suite) pos'] [] [] pos) (fun D σ H => tb (wHeld X.K c i ts Wout D) D σ H) := by
  constructor
  intro pins s σ H D I h
  have ok := I.ok
  have hfr : X.A.frames = some (X.env :: X.outer) := ok.frames.trans (congrArg some hs)
  have frsE : frs X.stack = X.env.locals :: X.fs := by
    rw [hs]
    show (X.env :: X.outer).filterMap _ = _
    rw [List.filterMap_cons, hf]
    rfl
  apply wpAny_Try_except
  refine wpAny_mono ((hb (wHeld X.K c i ts Wout D) (X.pn ++ pins)
    (fun e t => wpAny (model X.prog X.w) X.A (noteFrame e X.env) (fun _ t => wpAny (model X.prog X.w) X.A (setFlight e none) (fun _ t => wpAny (model X.prog X.w) X.A
      (handleBy e X.env [.ExceptHandler (some (.Name x np)) (some n) (b₀ :: suite) pos']) (SP X pins D) X.xe t) X.xe t) X.xe t)
    (fun u s' xx => ?ctch) PassesOwn.looking).run [] s σ H D (I.toTry _) h) (fun f s1 hsp => ?thru) (fun e s1 he => he)
  case thru =>
    cases f with
    | next => exact let ⟨_, _, J, q⟩ := hsp; wpAny_execs_nil ⟨_, _, J.ofTry ok, q⟩
    | brk => exact let ⟨_, _, J, q⟩ := hsp; ⟨_, _, J.ofTry ok, q⟩
    | cont => exact let ⟨_, _, J, q⟩ := hsp; ⟨_, _, J.ofTry ok, q⟩
    | ret u => exact let ⟨_, _, _, J, r, q⟩ := hsp; ⟨_, _, _, J.ofTry ok, r, q⟩
  case ctch =>
    obtain ⟨a, B, sI, pins', σ', H', cls, d, rfl, J', nb, up, sky, na, os, ag, b, hb1, hyes, hno⟩ := xx
    have J := J'.ofTry ok
    show wpAny (model X.prog X.w) X.A (noteFrame (.ref a) X.env) _ _ _
    refine Sky.land Zc.steady hfr hf (hs ▸ sky) fun h3 fl3 up3 => ?_
    have J3 := J.landed (s' := { s' with heap := h3 }) nb fl3.1 (up.trans up3) os ag
    obtain ⟨oe3, vs3, he3, hz3, hd3⟩ := fl3.there
    have nfr : a ∉ frs (X.env :: X.outer) := fun hm => by
      obtain ⟨_, o', e', hnf⟩ := fl3.2.2.1.mem hm
      rw [he3] at e'
      cases e'
      exact hnf _ hd3
    have nfs : a ∉ X.env.locals :: X.fs := by rwa [← frsE, hs]
    have nL : a ≠ X.env.locals := fun z => nfs (z ▸ List.mem_cons_self)
    have nF : a ∉ X.fs := fun z => nfs (List.mem_cons_of_mem _ z)
    have nB : B.get? a = none := fl3.2.1
    have inB : ∀ b o, sI.heap.get? b = some o → b ∉ X.env.locals :: X.fs → b ≠ a := fun b o e nm z => by
      have := nb b o e (by rw [frsE]; exact nm)
      rw [z, nB] at this
      cases this
    have pinsNot : ∀ p ∈ X.pn ++ pins, p.1 ≠ a := fun p hp => by
      obtain ⟨p1, _, p3, p4, _⟩ := J.pin p hp
      exact inB p.1 _ p1 fun hm => by
        rcases List.mem_cons.mp hm with w | w
        · exact p3 w
        · exact p4 w
    have new0 : X.s_0.heap.get? a = none := by
      cases e : X.s_0.heap.get? a with
      | none => rfl
      | some o =>
        obtain ⟨o', e'⟩ := J.base.there a o e (by rw [hex]; exact List.not_mem_nil)
        exact absurd rfl (inB a o' e' nfs)
    have S3 := J3.suite he3 hd3 na nL nF
    refine wpAny_handleBy_cons (codeAny_handlers_test ?_) (by intro q; cases q)
    have LT : PySem.W.Looks (model X.prog X.w) h3 (typeOf (.ref a)) cls := fun A Q E s k q => wpAny_typeOf_ref (k _ _ he3) (by rw [hz3.1]; exact q)
    have LM := PySem.W.exm_one (M := model X.prog X.w) (J3.kIn) LT hb1
    have test : ∀ {Q : Value → Shared → Prop} {E : Value → Shared → Prop}, Q c { s' with heap := h3 } → wpAny (model X.prog X.w) (X.A.mark (some (.ref a))) (eval (.Name x np) X.env) Q E { s' with heap := h3 } := fun {Q E} q => by
      rcases hc with ⟨hg, hdbg, hm | ⟨hm, hv, hnn⟩⟩
      · exact ld_glob (X := X.suite a ((a, oe3) :: (X.pn ++ pins))) S3 hg hm q hdbg
      · exact ld_blt (X := X.suite a ((a, oe3) :: (X.pn ++ pins))) S3 hg hm hv q hnn hdbg
    refine test (LM.here ?_)
    cases b with
    | true =>
      refine codeAny_handlers_suite_as ?_
      refine HandSPX.lands_againZ fl3 fun h4 fl4 up4 => ?_
      have J4 := J.landed (s' := { s' with heap := h4 }) nb fl4.1 ((up.trans up3).trans up4) os ag
      obtain ⟨oe4, vs4, he4, hz4, hd4⟩ := fl4.there
      refine store_ok (X := X.suite a ((a, oe4) :: (X.pn ++ pins))) (v := .ref a) (J4.suite he4 hd4 na nL nF) hN hi (.inl hln) rfl (fun s5 S5 => ?_) (.inr hln)
      refine wpAny_mono ((hsu a oe4 cls d (X.pn ++ pins) hz4 ⟨_, hd4⟩).run [] s5 _ H' _ S5 (hyes rfl a na)) (fun f s6 hsp => ?_) (fun _ _ z => z.elim)
      cases f with
      | next =>
        obtain ⟨σ6, H6, S6, q6⟩ := hsp
        exact gone_ok (unsuiteP S6 ok) hN hi hln fun s7 J7 => ⟨_, _, track J7 hz4 ⟨_, hd4⟩ pinsNot new0, q6⟩
      | brk => exact let ⟨_, _, _, q⟩ := hsp; q.elim
      | cont => exact let ⟨_, _, _, q⟩ := hsp; q.elim
      | ret u => exact let ⟨_, _, _, _, _, q⟩ := hsp; q.elim
    | false =>
      show wpAny _ X.A (handleBy (.ref a) X.env []) _ _ _
      refine wpAny_handleBy_nil ?_
      obtain ⟨k1, k2, k3, oe, vs, T, oT, ts', he, hz, hd, h1, hr⟩ := id fl3
      unfold PySem.passOn
      refine wpAny_bind (wpAny_field he hd h1 ?_)
      rw [if_neg (show ¬ ((Value.ref T == Value.none) = true) from by simp)]
      have fin : wpAny (model X.prog X.w) X.A (setFlight (.ref a) X.env.frame) (fun _ s4 => wpAny (model X.prog X.w) X.A (throw (.ref a) : Sem Flow) (SP X pins D) X.xe s4) X.xe { s' with heap := h3 } := by
        rw [hf]
        refine HandSPX.setFlight_upZ fl3 fun h4 hh4 up4 => wpAny_throw (tk _ _ ?_)
        exact ⟨a, B, sI, pins, σ', H', cls, d, rfl, J, nb, (up.trans up3).trans up4, .inr (.inr (by rw [hs]; exact hh4)), na, os, ag, hno rfl⟩
      first
        | exact wpAny_bind (wpAny_pure (wpAny_bind fin))
        | exact wpAny_bind fin
end
end JP
namespace JP
open PySem PySem.Spec PyProof.Rows L2
/-- an exception of the class at C, held at a, with the fields fs -/
def Held (H : Hp) (a C : Addr) (fs : List (Str × V)) : Prop := (∃ d, H a = some (xo a (.ref C) (some d)) ∧ H d = some (.xd fs)) ∨ (fs = [] ∧ H a = some (xo a (.ref C) none))
section
variable {X : Cx} {pins : List (Addr × Obj)} {σ : L2.St} {H : Hp} {s : Shared}
theorem held_inst {a C : Addr} {fs : List (Str × V)} (I : Inv X pins σ H s) (h : ∃ d, H a = some (xo a (.ref C) (some d)) ∧ H d = some (.xd fs)) : ∃ (oe : Obj) (od : Obj) (mA : Str → Option Value), PySem.W.InstAt s.heap a oe C (some od) ∧ (∀ f, RelO (fs.lookup f) (mA f)) ∧ ∀ f : Str, PySem.W.lookIn f od = some (mA f) := by
  obtain ⟨d, ha, hd⟩ := h
  obtain ⟨oe, ho, hz, vs, hv⟩ := xo_at I.hok ha
  obtain ⟨mA, hns, hr⟩ := (show ObjOk X.prog X.w H s.heap d (.xd fs) from I.hok d _ hd)
  obtain ⟨od, ho2, hl⟩ := lookIn_ns hns
  exact ⟨oe, od, mA, ⟨ho, hz.1, by unfold PySem.W.notCls; rw [hv] <;> rfl, by rw [hz.2]; exact ho2⟩, hr, hl⟩
theorem held_inst0 {a C : Addr} {fs : List (Str × V)} (I : Inv X pins σ H s) (h : Held H a C fs) : ∃ (oe : Obj) (od : Option Obj), PySem.W.InstAt s.heap a oe C od := by
  rcases h with h | ⟨_, ha⟩
  · obtain ⟨oe, od, _, J, _⟩ := held_inst I h
    exact ⟨oe, some od, J⟩
  · obtain ⟨oe, ho, hz, vs, hv⟩ := xo_at I.hok ha
    exact ⟨oe, none, ⟨ho, hz.1, by unfold PySem.W.notCls; rw [hv] <;> rfl, by rw [hz.2]; trivial⟩⟩
/-- e.f, e such an exception -/
def tXa (K : PySem.W.Frag) (f : Str) (te : TE) : TE := fun σ H Q => te σ H fun x H1 => ∃ a C fs v, x = .ref a ∧ XfC K C ∧ PySem.W.findIn K (.ref C) f = some none ∧ Held H1 a C fs ∧ fs.lookup f = some v ∧ Q v H1
theorem pe_xa {e : Expr} {te : TE} {pos : Pos} {n : Str} (he : PE X e te) (hb : attributeBase e n X.env (eval e X.env) = eval e X.env := by rfl) : PE X (.Attribute e n pos) (tXa X.K n te) := by
  refine ⟨fun pins s σ H Q I h => ?_⟩
  refine attr_of hb (thn (he.run pins s σ H _ I h) fun u s1 hh => ?_)
  obtain ⟨x, H1, I1, rx, a, C, fs, v, rfl, T, hno, hx, l, q⟩ := hh
  cases rx
  rcases hx with hx | ⟨rfl, _⟩
  case inr => cases l
  obtain ⟨oe, od, mA, J, hr, hl⟩ := held_inst I1 hx
  obtain ⟨u, hu, ru⟩ := RelO.some_of (v := v) (o := mA n) (by rw [← l]; exact hr n)
  exact HandSPX.exc_get I1.kIn J T.ga T.gg T.exC (PySem.W.findObj_own T.hdC hno rfl (by rw [hl, hu])) (handed_of ru) ⟨v, H1, I1.tok _, ru, q⟩
/-- isinstance(e, c), e such an exception -/
def rIsX (K : PySem.W.Frag) : List V → Hp → VK → Prop := fun xs H Q => ∃ (a C : Addr) (fs : List (Str × V)) (c : V) (cv : Value) (b : Bool), xs = [.ref a, c] ∧ ClsV c cv ∧ ExcC K C ∧ Held H a C fs ∧ PySem.W.kitOne K (.ref C) cv = some b ∧ Q (.bl b) H
theorem call_isX : CallR X (.builtin "isinstance") (rIsX X.K) := by
  intro pins s σ H xs us Q I r h
  obtain ⟨a, C, fs, c, cv, b, rfl, k, T, hx, e, q⟩ := h
  obtain ⟨u1, u2, rfl, r1, r2⟩ := vals2 r
  have e2 := k.eq r2
  subst e2
  cases r1
  obtain ⟨oe, od, J⟩ := held_inst0 I hx
  obtain ⟨cd, hc, _⟩ := PySem.W.any_some T.hd
  exact PySem.W.kia_one (PySem.W.kitx_exc (by rw [hc]; rfl) T.hg T.hk T.hs T.ha T.hn T.ht T.hm) I.kIn J e (fun z => nomatch z) fun tk => ⟨.bl b, H, I.tok tk, rfl, q⟩
end
section
variable {X : Cx} {CX : CXT} {k : Nat} {C g : Addr} {fd : FuncData} {ps : List Str} {sp : Sp} {E : XK}
/-- C's own m stands at g -/
structure OwnM (K : PySem.W.Frag) (C : Addr) (m : Str) (g : Addr) : Prop where
  at_ : PySem.W.findIn K (.ref C) m = some (some (.ref g))
  fn : PySem.W.isFn K (.ref g) = true
theorem ins_inst {pins : List (Addr × Obj)} {σ : L2.St} {H : Hp} {s : Shared} {a dx : Addr} {fs : List (Str × V)} (I : Inv X pins σ H s) (h : H a = some (.ins C dx fs)) : ∃ ox od, PySem.W.InstAt s.heap a ox C od := by
  obtain ⟨mA, O, _⟩ := ins_get I.hok h
  obtain ⟨od, J, _⟩ := O.look
  exact ⟨_, _, J⟩
theorem call_at {A : Around} {pins : List (Addr × Obj)} {σ : L2.St} {H : Hp} {s : Shared} {us : List Value} {vs : List V} {Q : VK} (F : FnOk X.prog X.w X.K X.mg X.base CX k g fd ps sp) (hb : Binds X.K fd ps []) (hr : Room k A) (hx : Passes CX X E) (I : Inv X pins σ H s) (e0 : Env0 X.prog X.w X.K X.mg X.base A X.stack s H) (r : Vals vs us) (h : sp vs H Q E) :
    wpAny (model X.prog X.w) A (call (.ref g) us) (EP X pins σ Q) X.xe s := by
  have n : us.length = ps.length := r.length.symm.trans (F.len _ _ _ _ h)
  refine wpAny_call (codeAny_mono (F.run A X.stack s H ⟨us, []⟩ us vs Q E hr e0 (by
    have := hb s us I.kIn (by rw [List.append_nil]; exact n)
    rw [List.append_nil] at this
    exact this) r h) fun r s' hq => ?_)
  cases r with
  | error e => exact hx pins σ H s e s' I hq
  | ok fl =>
    cases fl with
    | ret u => exact I.after hq
    | next => exact False.elim hq
    | brk => exact False.elim hq
    | cont => exact False.elim hq
/-- str(x) -/
def rStrO (C : Addr) (sp : Sp) (E : XK) : List V → Hp → VK → Prop := fun xs H Q => ∃ a dx fs, xs = [.ref a] ∧ H a = some (.ins C dx fs) ∧ sp [.ref a] H (fun z H' => ∃ y, z = .str y ∧ Q z H') E
theorem call_strO (M : OwnM X.K C "__str__" g) (F : FnOk X.prog X.w X.K X.mg X.base CX k g fd ps sp) (hb : Binds X.K fd ps []) (hr : Room (k + 2) X.A) (hx : Passes CX X E) : CallR X (.type "str") (rStrO C sp E) := by
  intro pins s σ H xs us Q I r h
  obtain ⟨a, dx, fs, rfl, ha, q⟩ := h
  obtain ⟨u, rfl, ru⟩ := vals1 r
  cases ru
  obtain ⟨ox, od, J⟩ := ins_inst I ha
  have hr2 : Room k X.A.in1.in1 := (show Room (k + 1) X.A.in1 from Room.in1 hr).in1
  refine PySem.W.kso_call hr2.units0 I.kIn J M.at_ M.fn (wpAny_mono (call_at (us := [.ref a]) (vs := [.ref a]) F hb hr2 hx I I.env0.in1.in1 (.cons rfl .nil) q) (fun w s' z => ?_) fun _ _ x => x)
  obtain ⟨z', H', I', rz, y, ey, qz⟩ := z
  subst ey
  obtain ⟨t, e⟩ := (show ∃ t, w = Value.str y t from rz)
  subst e
  exact ⟨.str y, H', I', ⟨t, rfl⟩, qz⟩
/-- what stands on the right of a comparison: of a class that is not below C -/
structure RightOf (K : PySem.W.Frag) (H : Hp) (C : Addr) (y : V) : Prop where
  ty : ∃ t, TyX K H y t ∧ PySem.W.notFirst K C t = true
/-- x == y, x != y -/
def rEqO (C : Addr) (sp : Sp) (E : XK) (K : PySem.W.Frag) (neg : Bool) : R2 := fun x y H Q => ∃ a dx fs, x = .ref a ∧ H a = some (.ins C dx fs) ∧ RightOf K H C y ∧ sp [.ref a, y] H (fun z H' => ∃ b, z = .bl b ∧ Q (.bl (if neg then !b else b)) H') E
theorem op_eqO (M : OwnM X.K C "__eq__" g) (F : FnOk X.prog X.w X.K X.mg X.base CX k g fd ps sp) (hb : Binds X.K fd ps []) (hr : Room k X.A) (hx : Passes CX X E) : OpR X (compareOp .Eq) (rEqO C sp E X.K false) := by
  intro pins s σ H x y v u Q I rx ry h
  obtain ⟨a, dx, fs, rfl, ha, ⟨t, ty, hn⟩, q⟩ := h
  cases rx
  obtain ⟨ox, od, J⟩ := ins_inst I ha
  obtain ⟨P, Z, p, _⟩ := kit_of I ry ty
  obtain ⟨m, hF⟩ := I.fr
  show wpAny _ _ (richCompare .Eq _ _) _ _ _
  refine PySem.W.cmp_K (op := .Eq) hr.units0 hF I.ok.mod.kin J (Z.ty _ _ I.kIn p) hn M.at_ M.fn ?_
  refine wpAny_mono (call_at (us := [.ref a, u]) (vs := [.ref a, y]) F hb hr hx I I.env0 (.cons rfl (.cons ry .nil)) q) (fun w s' z => ?_) fun _ _ x => x
  obtain ⟨z', H', I', rz, b, eb, qz⟩ := z
  subst eb
  cases (show w = Value.bool b from rz)
  exact ⟨.bl b, H', I', rfl, qz⟩
end
section
variable {X : Cx} {CX : CXT} {k : Nat} {C p g : Addr} {mc : Value} {fd : FuncData} {ps ks : List Str} {sp : Sp} {E : XK} {o e : Expr} {es : List Expr} {kws : List Keyword} {m : Str} {pos apos : Pos} {ta : TE} {t tk : TA} {pl : Sem Bool} {gg : List Value → List Value → List Value} {gV : List V → List V → List V}
def tSMeth (C : Addr) (sp : Sp) (E : L2.St → XK) (ta : TE) (t : TA) : TE := fun σ H Q => ta σ H fun x H1 => x = .ref C ∧ t σ H1 fun vs H2 => sp vs H2 Q (E σ)
/-- what is not raised passes -/
theorem takesN {X : Cx} : Takes X (fun _ _ _ _ => False) := fun _ _ x => by
  obtain ⟨_, _, _, _, _, _, _, _, _, _, _, _, _, _, _, _, z⟩ := x
  exact z.elim
end
end JP
namespace JP
open PySem PySem.Spec PyProof.Rows L2 TL
theorem op_mulS {X : Cx} : OpR X (binaryOp .Mult) (fun x y H Q => ∃ a n, x = .str a ∧ y = .int n ∧ MulOk a n ∧ Q (.str (Txt.mul a n)) H) := by
  intro pins s σ H x y v u Q I rx ry h
  obtain ⟨a, n, rfl, rfl, hz, q⟩ := h
  obtain ⟨t, rfl⟩ := rx
  obtain ⟨t', rfl⟩ := ry
  exact SB.mul hz (fun t' k => ⟨.str (Txt.mul a n), H, I.tok _, ⟨_, rfl⟩, q⟩)
abbrev numS (n : Int) : Str := Str.ofString (toString n)
theorem tl_num0 (m : Nat) : tl (numS (m : Int)) = numL m := tl_num m
theorem tl_numN (m : Nat) : tl (numS (Int.negSucc m)) = 45 :: numL (m + 1) := by
  have e : toString (Int.negSucc m) = "-" ++ toString (m + 1) := rfl
  rw [numS, e, tl_ofString, String.toList_append, List.map_append]
  have z := tl_num (m + 1)
  rw [tl_ofString] at z
  show [45] ++ _ = _
  rw [show (toString (m + 1) : String) = toString ((m + 1 : Nat) : Int) from rfl, z]
  rfl
/-- whether a word is an integer as it is written, of at most 60 digits -/
def isIntW (w : Str) : Bool :=
  if (decide ((60 : Int) < (Txt.removeprefix w "-").length) || !Txt.isascii (Txt.removeprefix w "-") || !Txt.isdigit (Txt.removeprefix w "-")) = true then false
  else (decide (V.str w = V.str "0") || !Txt.startswith (Txt.removeprefix w "-") "0")
theorem allS (x : Str) (p : Nat → Bool) : x.cps.all p = (tl x).all p := by
  rw [Array.all_toList] <;> rfl
theorem len_num {n : Int} (h : n.natAbs < 10 ^ 60) : (numS n).length ≤ 61 := by
  rw [len_tl]
  cases n with
  | ofNat m =>
    rw [show (Int.ofNat m) = (m : Int) from rfl, tl_num0]
    have := numL_len (n := m) (k := 60) (by decide) h
    omega
  | negSucc m =>
    rw [tl_numN, List.length_cons]
    have := numL_len (n := m + 1) (k := 60) (by decide) h
    omega
theorem log_num {n : Int} (h : n.natAbs < 10 ^ 60) : n.natAbs.log2 < 1920 := by
  by_cases h0 : n.natAbs = 0
  · rw [h0]
    decide
  · exact (Nat.log2_lt h0).mpr (Nat.lt_of_lt_of_le h (by decide +kernel))
/-- how many words from the first one on are integers, at most k -/
def lead : Nat → List Str → Nat
  | 0, _ => 0
  | _, [] => 0
  | k + 1, w :: ws => if isIntW w = true then lead k ws + 1 else 0
/-- the word at a place; behind the last one the empty word -/
abbrev wd (ws : List Str) (k : Nat) : Str := ws.getD k ""
def isSign (w : Str) : Bool := decide (V.str w = V.str ">=") || decide (V.str w = V.str ">")
/-- the first word that cannot stand -/
def rdErr (ws : List Str) : Option Nat :=
  if isSign (wd ws (lead 8 ws)) = false then some (lead 8 ws)
  else if decide (V.str (wd ws (lead 8 ws + 1)) = V.str "0") = false then some (lead 8 ws + 1)
  else if lead 8 ws + 2 < ws.length then some (lead 8 ws + 2)
  else none
theorem lead_app : ∀ (k : Nat) (us r : List Str), (∀ u ∈ us, isIntW u = true) → us.length ≤ k → (us.length = k ∨ ∀ w r', r = w :: r' → isIntW w = false) → lead k (us ++ r) = us.length
  | 0, [], r, _, _, _ => rfl
  | 0, _ :: _, _, _, h, _ => absurd h (by simp)
  | k + 1, [], [], _, _, _ => rfl
  | k + 1, [], w :: r, _, _, h => by
    rcases h with h | h
    · simp at h
    · show lead (k + 1) (w :: r) = 0
      unfold lead
      rw [if_neg (by rw [h w r rfl]; exact Bool.false_ne_true)]
  | k + 1, u :: us, r, hu, hl, h => by
    show lead (k + 1) (u :: (us ++ r)) = _
    unfold lead
    rw [if_pos (hu u List.mem_cons_self), lead_app k us r (fun x hx => hu x (List.mem_cons_of_mem _ hx)) (by simpa using hl) (h.imp (fun z => by simpa using z) id)]
    rfl
theorem wd_app (us r : List Str) (k : Nat) : wd (us ++ r) (us.length + k) = wd r k := by
  show (us ++ r).getD (us.length + k) "" = r.getD k ""
  rw [List.getD_eq_getElem?_getD, List.getD_eq_getElem?_getD, List.getElem?_append_right (Nat.le_add_right _ _), Nat.add_sub_cancel_left]
end JP
namespace JP
open PySem PySem.Spec PyProof.Rows L2 TL
def Word (v : Str) : Prop := v.length ≤ 100 ∧ 32 ∉ tl v
instance (v : Str) : Decidable (Word v) := by unfold Word; infer_instance
section
variable {us r : List Str}
def Stop (us r : List Str) : Prop := (∀ u ∈ us, isIntW u = true) ∧ us.length ≤ 8 ∧ (us.length = 8 ∨ ∀ w r', r = w :: r' → isIntW w = false)
theorem Stop.lead (h : Stop us r) : lead 8 (us ++ r) = us.length := lead_app 8 us r h.1 h.2.1 h.2.2
theorem Stop.wd0 (h : Stop us r) : wd (us ++ r) us.length = wd r 0 := wd_app us r 0
theorem Stop.b (h : Stop us r) (s : isSign (wd r 0) = true) (z : decide (V.str (wd r 1) = V.str "0") = false) : rdErr (us ++ r) = some (us.length + 1) := by
  unfold rdErr
  rw [h.lead, h.wd0, wd_app us r 1, if_neg (by rw [s]; simp), if_pos z]
end
def LS (H : Hp) (a : Addr) (ws : List Str) : Prop := H a = some (.lst (ws.map V.str))
theorem LS.but {p a : Addr} {H H' : Hp} {ws : List Str} (h : LS H a ws) (b : But p H H') (n : a ≠ p) : LS H' a ws := b a _ n h
theorem LS.same {a : Addr} {H H' : Hp} {ws : List Str} (h : LS H a ws) (s : Same H H') : LS H' a ws := s _ _ h
theorem LS.seq {K : PySem.W.Frag} {a : Addr} {H : Hp} {ws : List Str} (h : LS H a ws) : SqL K H a (ws.map V.str) := .of h
theorem tk2 (us : List Str) (s z : Str) : (us ++ [s, z]).take ((us ++ [s, z]).length - 2) = us := by
  rw [List.length_append]
  exact List.take_left
/-- a pair of a list of words and the place where reading them stops -/
def It (H : Hp) (x : V) : Prop := ∃ (t a : Addr) (ws : List Str) (k : Nat), x = .ref t ∧ H t = some (.tup [.ref a, .int k]) ∧ LS H a ws ∧ ws ≠ [] ∧ ws.length ≤ 20 ∧ (∀ v ∈ ws, Word v) ∧ rdErr ws = some k
theorem It.same {H H' : Hp} {x : V} (s : Same H H') (h : It H x) : It H' x := by
  obtain ⟨t, a, ws, k, e, h1, h2, r⟩ := h
  exact ⟨t, a, ws, k, e, s _ _ h1, h2.same s, r⟩
/-- what is known while the pairs are made -/
structure Bd (H0 : Hp) (p c : Addr) (m : Nat) (l : Addr) (W : List Str) (xs : List V) (H : Hp) : Prop where
  pen : Pen H p c m
  but : But p H0 H
  lst : LS H l W
  its : ∀ x ∈ xs, It H x
theorem Bd.same {H0 H H' : Hp} {p c l : Addr} {m : Nat} {W : List Str} {xs : List V} (h : Bd H0 p c m l W xs H) (s : Same H H') : Bd H0 p c m l W xs H' :=
  ⟨h.pen.same s, h.but.trans (.of_same s), h.lst.same s, fun x hx => (h.its x hx).same s⟩
/-- a new pair -/
theorem It.mk {H : Hp} {a t : Addr} {ws : List Str} {k : Nat} (n : H t = none) (h : LS H a ws) (h1 : ws ≠ []) (h2 : ws.length ≤ 20) (h3 : ∀ v ∈ ws, Word v) (h4 : rdErr ws = some k) : It (upd H t (.tup [.ref a, .int k])) (.ref t) :=
  ⟨t, a, ws, k, rfl, upd_same, h.same (same_new n), h1, h2, h3, h4⟩
end JP
namespace JP
open PySem PySem.Spec PyProof.Rows L2
/-- all but the one at p and the tables of code objects stay -/
def ButN (p : Addr) (H H' : Hp) : Prop := ∀ b o, b ≠ p → H b = some o → (∀ ps, o ≠ .tbl ps) → H' b = some o
theorem ButN.trans {p : Addr} {H H1 H2 : Hp} (a : ButN p H H1) (b : ButN p H1 H2) : ButN p H H2 := fun c o n e t => b c o n (a c o n e t) t
theorem Pen.ext {H H' : Hp} {p c : Addr} {m : Nat} (h : Pen H p c m) (k : LamX.ExtN H H') : Pen H' p c m := by
  obtain ⟨ns, n, g, h1, h2, r⟩ := h
  exact ⟨ns, n, g, k _ _ h1 (by intro ps z; cases z), k _ _ h2 (by intro ps z; cases z), r⟩
def wLen (n : Nat) (W : WX) : WX := fun cls d σ H => σ.length = n → W cls d σ H
theorem takesLen {X : Cx} {W : WX} (tk : Takes X W) : Takes X (wLen X.N.length W) := fun e s x => by
  obtain ⟨a, B, sI, pins', σ', H', cls, d, e1, J, nb, up, sky, na, os, ag, hw⟩ := x
  exact tk e s ⟨a, B, sI, pins', σ', H', cls, d, e1, J, nb, up, sky, na, os, ag, hw J.len⟩
section
variable {X : Cx} {x n : Str} {c : Value} {i : Nat} {body suite : List Stmt} {b₀ : Stmt} {np pos pos' : Pos} {tb : WX → TS} {ts : Addr → Value → Option Addr → TS} {Wout : WX}
theorem ps_try_heldL (hs : X.stack = X.env :: X.outer) (hf : X.env.frame = some X.env.locals) (hex : X.ex = []) (hN : X.N.Nodup) (hi : X.N[i]? = some n) (hln : X.env.kindOf n = some .local) (hc : Names X x c) (tk : Takes X Wout)
    (hb : ∀ (W : WX) (pn : List (Addr × Obj)) (xe : Value → Shared → Prop), Takes (X.tr pn xe) W → PassesOwn (model X.prog X.w) X.A X.env xe → PSs (X.tr pn xe) body (tb W))
    (hsu : ∀ (a : Addr) (oe : Obj) (cls : Value) (d : Option Addr) (pn : List (Addr × Obj)), Zc cls d oe → (∃ vs, oe.data = .fields vs) → PSs (X.suite a ((a, oe) :: pn)) (b₀ :: suite) (ts a cls d)) :
    PS X (.Try body [.ExceptHandler (some (.Name x np)) (some n) (b₀ :: suite) pos'] [] [] pos) (fun D σ H => tb (wLen X.N.length (wHeld X.K c i ts Wout D)) D σ H) :=
  ps_try_held (tb := fun W => tb (wLen X.N.length W)) hs hf hex hN hi hln hc tk (fun W pn xe tk' po => hb _ pn xe (takesLen tk') po) hsu
end
def iAnyV (K : PySem.W.Frag) (i : Nat) : TI := fun σ H R => ∃ a, σ[i]? = some (some (.ref a)) ∧ (((∃ xs, SqL K H a xs) ∧ R (Itl K a) H) ∨ ((∃ xs, SqT K H a xs) ∧ R (Itt K a) H))
theorem pi_anyV {X : Cx} {tg l : Expr} {i : Nat} (hl : PE X l (tVar i)) : PI X tg l (iAnyV X.K i) := ⟨fun pins s σ H R I h => by
  obtain ⟨a, e, ⟨hx, r⟩ | ⟨hx, r⟩⟩ := h
  · exact (pi_list hl).run pins s σ H R I ⟨.ref a, e, a, rfl, hx, r⟩
  · exact (pi_tup hl).run pins s σ H R I ⟨.ref a, e, a, rfl, hx, r⟩⟩
end JP
namespace JP
open PySem PySem.Spec PyProof.Rows L2
def spCopyF : Sp := fun vs H Q _ => ∃ y, vs = [y] ∧ flatV y = true ∧ Q y H
theorem flat_ki {y : V} (h : flatV y = true) (H : Hp) : ∃ k, IsKi H y k ∧ k.below .tup = false ∧ k.below .lst = false ∧ k.below .dct = false := by
  cases y with
  | non => exact ⟨.non, rfl, rfl, rfl, rfl⟩
  | bl b => exact ⟨.bl, ⟨b, rfl⟩, rfl, rfl, rfl⟩
  | int i => exact ⟨.int, ⟨i, rfl⟩, rfl, rfl, rfl⟩
  | str x => exact ⟨.str, ⟨x, rfl⟩, rfl, rfl, rfl⟩
  | _ => cases h
end JP
namespace JP
open PySem PySem.Spec PyProof.Rows L2
def isV : V → V → Option Bool
  | .non, .non => some true
  | .bl a, .bl b => some (decide (a = b))
  | .non, .bl _ => some false
  | .bl _, .non => some false
  | _, _ => none
def rIsF (neg : Bool) : R2 := fun x y H Q => ∃ b, isV x y = some b ∧ Q (.bl (if neg then !b else b)) H
theorem op_isF {X : Cx} : OpR X (compareOp .Is) (rIsF false) := by
  intro pins s σ H x y v u Q I rx ry h
  obtain ⟨b, e, q⟩ := h
  have fin : ∀ {c : Bool}, Q (.bl c) H → EP X pins σ Q (.bool c) s := fun q => ⟨.bl _, H, I, rfl, q⟩
  unfold isV at e
  split at e
  · cases e
    cases (show v = Value.none from rx)
    cases (show u = Value.none from ry)
    exact wpAny_is_self rfl (fin q)
  · rename_i a c
    cases e
    cases (show v = Value.bool a from rx)
    cases (show u = Value.bool c from ry)
    by_cases z : a = c
    · subst z
      exact wpAny_is_self rfl (fin (by simpa using q))
    · exact wpAny_is_other rfl (fun t => z (Value.bool.inj t)) (fin (by simpa [z] using q))
  · cases e
    cases (show v = Value.none from rx)
    cases (show u = Value.bool _ from ry)
    exact wpAny_is_other rfl (fun t => nomatch t) (fin q)
  · cases e
    cases (show v = Value.bool _ from rx)
    cases (show u = Value.none from ry)
    exact wpAny_is_other rfl (fun t => nomatch t) (fin q)
  · cases e
end JP
namespace PySem
end PySem
namespace PySem
end PySem
namespace JP
open PySem PySem.Spec PyProof.Rows L2
def CpIn (H : Hp) (y : V) : Prop := flatV y = true ∨ (∃ a xs, y = .ref a ∧ H a = some (.tup xs) ∧ (∀ x ∈ xs, flatV x = true) ∧ xs.length ≤ 1000) ∨ (∃ a xs, y = .ref a ∧ H a = some (.lst xs) ∧ (∀ x ∈ xs, flatV x = true) ∧ xs.length ≤ 1000) ∨
  (∃ a kvs, y = .ref a ∧ Rd H a (.dK kvs) ∧ (kvs = [] ∨ ∃ k v, kvs = [(k, v)] ∧ flatV v = true))
def CpOut (H H1 : Hp) (y z : V) : Prop := (flatV y = true ∧ z = y ∧ H1 = H) ∨ (∃ a xs p, y = .ref a ∧ H a = some (.tup xs) ∧ z = .ref p ∧ Same H H1 ∧ H p = none ∧ H1 p = some (.tup xs)) ∨ (∃ a xs p, y = .ref a ∧ H a = some (.lst xs) ∧ z = .ref p ∧ Same H H1 ∧ H p = none ∧ H1 p = some (.lst xs)) ∨
  (∃ a kvs p, y = .ref a ∧ Rd H a (.dK kvs) ∧ z = .ref p ∧ Same H H1 ∧ H p = none ∧ H1 p = some (.dK kvs))
theorem CpOut.same {H H1 : Hp} {y z : V} (h : CpOut H H1 y z) : Same H H1 := by
  rcases h with ⟨_, _, rfl⟩ | ⟨_, _, _, _, _, _, s, _⟩ | ⟨_, _, _, _, _, _, s, _⟩ | ⟨_, _, _, _, _, _, s, _⟩
  · exact .refl _
  · exact s
  · exact s
  · exact s
def spCopyC : Sp := fun vs H Q _ => ∃ y, vs = [y] ∧ CpIn H y ∧ ∀ H1 z, CpOut H H1 y z → Q z H1
def spE1C (C : Addr) (f : Str) : Sp := fun vs H Q _ => ∃ a y, vs = [.ref a, y] ∧ H a = some (exo a C none) ∧ CpIn H y ∧ ∀ H1 z, CpOut H H1 y z → ∀ d, H1 d = none → d ≠ a → Q .non (upd (upd H1 d (exd d [(f, z)])) a (exo a C (some d)))
/-- what may be copied may be so behind changes of the exception that is made -/
theorem CpIn.over {H H' : Hp} {y : V} (h : CpIn H y) (s : ∀ b o, H b = some o → (∀ φ, o ≠ .ext φ) → H' b = some o) : CpIn H' y := by
  rcases h with h | ⟨a, xs, e, ha, hf, hl⟩ | ⟨a, xs, e, ha, hf, hl⟩ | ⟨a, kvs, e, ha, hk⟩
  · exact .inl h
  · exact .inr (.inl ⟨a, xs, e, s _ _ ha (fun φ z => by cases z), hf, hl⟩)
  · exact .inr (.inr (.inl ⟨a, xs, e, s _ _ ha (fun φ z => by cases z), hf, hl⟩))
  · refine .inr (.inr (.inr ⟨a, kvs, e, ?_, hk⟩))
    rcases ha with ha | ⟨o, ha⟩
    · exact .inl (s _ _ ha (fun φ z => by cases z))
    · exact .inr ⟨o, s _ _ ha (fun φ z => by cases z)⟩
end JP
namespace JP
open PySem PySem.Spec PyProof.Rows L2
def kP : Key → PyData
  | .inl i => .int i
  | .inr x => .str x
/-- a flat value as data -/
def vP : V → PyData
  | .bl b => .bool b
  | .int i => .int i
  | .str x => .str x
  | _ => .none
/-- what is shown: plain data, or a dict of one at most -/
inductive Sho (K : PySem.W.Frag) (H : Hp) : V → PyData → Prop
  | plain {v : V} {d : PyData} : Dp K H v d → d.hasDict = false → Sho K H v d
  | dic {a : Addr} {kvs : List (Key × V)} : Rd H a (.dK kvs) → (∀ p ∈ kvs, flatV p.2 = true) → Sho K H (.ref a) (.dict (kvs.map fun p => (kP p.1, vP p.2)))
inductive ShoAll (K : PySem.W.Frag) (H : Hp) : List V → List PyData → Prop
  | nil : ShoAll K H [] []
  | cons {v : V} {vs : List V} {d : PyData} {ds : List PyData} : Sho K H v d → ShoAll K H vs ds → ShoAll K H (v :: vs) (d :: ds)
theorem flat_reads {h : Heap} {v : V} {u : Value} (f : flatV v = true) (r : RelV v u) : Reads h u (vP v) [] := by
  cases v with
  | non => cases r; exact .none
  | bl b => cases r; exact .bool b
  | int i => obtain ⟨t, rfl⟩ := r; exact .int i t
  | str x => obtain ⟨t, rfl⟩ := r; exact .str x t
  | _ => cases f
theorem keys_reads {h : Heap} : ∀ (k : Key) (key : Value), keyIs k key = true → Reads h key (kP k) [] := fun k key e => by
  rcases keyIs_shape e with ⟨i, t, rfl, rfl⟩ | ⟨x, t, rfl, rfl⟩
  · exact .int i t
  · exact .str x t
theorem pairs_reads {h : Heap} : ∀ {kvs : List (Key × V)} {vs : List (Key × Value)}, KV kvs vs → (∀ p ∈ kvs, flatV p.2 = true) → PyProof.V.PairsRead h kP vs (kvs.map fun p => (kP p.1, vP p.2)) [] := by
  intro kvs vs r
  unfold KV at r
  induction r with
  | nil => intro _; exact .nil
  | @cons p q ps qs e t ih =>
    intro hf
    obtain ⟨k, v⟩ := p
    obtain ⟨k', u⟩ := q
    obtain ⟨e1, e2⟩ := e
    dsimp only at e1 e2
    subst e1
    exact .cons (as := []) (bs := []) (flat_reads (hf _ List.mem_cons_self) e2) (ih fun p hp => hf p (List.mem_cons_of_mem _ hp))
section
variable {X : Cx} {pins : List (Addr × Obj)} {σ : L2.St} {H : Hp} {s : Shared}
theorem Sho.reads {v : V} {u : Value} {d : PyData} (I : Inv X pins σ H s) (h : Sho X.K H v d) (r : RelV v u) : ∃ as, Reads s.heap u d as ∧ (d.hasDict = true → sysModules ∉ as) := by
  cases h with
  | plain h n =>
    obtain ⟨as, q⟩ := Dp.reads I d v u h r
    exact ⟨as, q, fun z => by rw [n] at z; cases z⟩
  | @dic a kvs h f =>
    cases r
    obtain ⟨_, hd, vs, rel, dd⟩ := dk_rd I.hok h
    refine ⟨[a], PyProof.V.reads_dictOf (enc := kP) keys_reads dd (pairs_reads rel f), fun _ hm => ?_⟩
    rw [List.mem_singleton.mp hm] at hd
    exact absurd hd (by simp)
theorem ShoAll.shows : ∀ {vs : List V} {us : List Value} {ds : List PyData}, Inv X pins σ H s → ShoAll X.K H vs ds → Vals vs us → PyData.showableAll ds = true → (∀ t ∈ PyData.shownAll ds, t.length ≤ sizeLine) →
    ∃ as bs, ReadsAll s.heap us ds as ∧ ReadAtMost s.heap (PyData.depthAll ds) bs ∧ ReprAllK X.prog X.w bs s.heap (PyData.depthAll ds) us (PyData.shownAll ds)
  | _, _, _, I, .nil, .nil, _, _ => ⟨[], [], .nil, (fun b hb => by cases hb), by simp only [PyData.shownAll]; exact .nil⟩
  | _, _, _, I, .cons (d := d) (ds := ds) h t, .cons r rs, hs, hz => by
    simp only [PyData.showableAll, Bool.and_eq_true] at hs
    obtain ⟨as, q, hno⟩ := h.reads I r
    obtain ⟨b1, hb1, k1⟩ := ReprK.of_reads (prog := X.prog) (w := X.w) q hs.1 hno (hz _ (by simp only [PyData.shownAll]; exact List.mem_cons_self ..))
    obtain ⟨cs, b2, q2, hb2, k2⟩ := t.shows I rs hs.2 fun x hx => hz x (by simp only [PyData.shownAll]; exact List.mem_cons_of_mem _ hx)
    refine ⟨as ++ cs, b1 ++ b2, .cons q q2, ?_, ?_⟩
    · simp only [PyData.depthAll]
      exact (hb1.mono (Nat.le_max_left _ _)).append (hb2.mono (Nat.le_max_right _ _))
    · simp only [PyData.depthAll, PyData.shownAll]
      exact .cons ((k1.more fun b hb => List.mem_append_left _ hb).level_le (Nat.le_max_left _ _)) (k2.more_le (fun b hb => List.mem_append_right _ hb) (Nat.le_max_right _ _))
end
/-- repr(x) of such -/
def rReprX (K : PySem.W.Frag) : List V → Hp → VK → Prop := fun xs H Q => ∃ x d, xs = [x] ∧ (Sho K H x d ∨ ∃ (a : Addr) (ys : List V) (ds : List PyData), x = .ref a ∧ H a = some (.lst ys) ∧ ShoAll K H ys ds ∧ d = .list ds) ∧ d.showable = true ∧ d.depth ≤ 60 ∧ d.shown.length ≤ sizeLine ∧ Q (.str d.shown) H
theorem call_reprX {X : Cx} (g : X.A.guards = some []) (hu : X.A.units + 64 < cLine) : CallR X (.builtin "repr") (rReprX X.K) := by
  intro pins s σ H xs us Q I r h
  obtain ⟨x, d, rfl, hd, sh, dp, sz, q⟩ := h
  obtain ⟨u, rfl, rv⟩ := vals1 r
  rcases hd with hd | ⟨a, ys, ds, rfl, ha, hy, rfl⟩
  · cases hd with
    | plain hd nd => exact call_repr g hu pins s σ H [x] [u] Q I r ⟨x, d, rfl, hd, sh, nd, dp, sz, q⟩
    | @dic a kvs hr hf =>
      cases rv
      obtain ⟨as, rd, hno⟩ := (Sho.dic (K := X.K) hr hf).reads I (show RelV (.ref a) (.ref a) from rfl)
      exact repr_of_reads' rd sh hno g (by omega) (fun _ _ e => e) (fun h' u tk k => ⟨.str _, H, I.kept k, ⟨_, rfl⟩, q⟩) sz
  · cases rv
    obtain ⟨its, rv, ⟨o, n, ho, hc, _, hdt⟩, _⟩ := I.list (show SqL X.K H a ys from .of ha)
    have hs' : PyData.showableAll ds = true := by simpa [PyData.showable] using sh
    have hz' : (listText (PyData.shownAll ds)).length ≤ sizeLine := by simpa only [PyData.shown] using sz
    obtain ⟨as, bs, h4, hb, hk⟩ := hy.shows I rv hs' fun t ht => Nat.le_trans (listText_mem_le ht) hz'
    have hR : Reads s.heap (.ref a) (.list ds) (a :: as) := .list ho hc hdt h4
    have out : a ∉ bs := not_mem_of_deeper hR (by simp only [PyData.depth]; omega) hb
    have dp' : PyData.depthAll ds + 1 ≤ 60 := by simpa only [PyData.depth] using dp
    have fin : ∀ h' (u : Tok) tk, (∀ b o, s.heap.get? b = some o → h'.get? b = some o) → EP X pins σ Q (.str (listText (PyData.shownAll ds)) u) { s with heap := h', toks := tk } := fun h' u tk k => ⟨.str _, H, I.kept k, ⟨_, rfl⟩, by simpa only [PyData.shown] using q⟩
    refine call_repr_slot (by omega) ⟨o, ho, hc⟩ PySem.F.slot_list_repr.toG ?_
    have hu1 : X.A.in1.units + (PyData.depthAll ds + 1) < cLine := by show X.A.units + 1 + _ < cLine; omega
    cases its with
    | nil =>
      cases h4
      simp only [PyData.shownAll, listText_nil] at fin
      exact wpAny_mono (call_list_repr_empty ⟨o, ho, hc⟩ ho hdt (show ∃ x t, Value.str "[]" _ = Value.str x t ∧ EP X pins σ Q (.str "[]" _) _ from ⟨_, _, rfl, fin s.heap _ _ fun _ _ e => e⟩)) (fun v s' h => h) fun _ _ e => e
    | cons x l =>
      exact call_list_reprK ho hc hdt out (by simpa using hk.length_eq) (fun i y e => hk.item i y (by simpa using e)) g (fun b _ => Clear.nil b) hu1 (fun _ _ e => e) (fun h' u tk k => ⟨_, _, rfl, fin h' u tk k⟩) hz'
end JP
namespace JP
open PySem PySem.Spec PyProof.Rows L2
def tLockO (t : TE) : TE := fun σ H Q => t σ H Q ∨ tLockE t σ H Q
theorem pe_lockO {X : Cx} {e : Expr} {t : TE} (h : PE X e t) : PE X e (tLockO t) := ⟨fun pins s σ H Q I q => q.elim (h.run pins s σ H Q I) ((pe_lock h).run pins s σ H Q I)⟩
/-- a dict of one at most, made anew by its keys -/
theorem dc_copy {d : Addr} {o : Obj} {kvs : List (Key × V)} {g : TG} {tt : TT} {tk tv : TE} {vs : List Nat} {σ : L2.St} {H1 : Hp} {D : Addr} {Qd : Hp → Prop} (hk : kvs = [] ∨ ∃ k v, kvs = [(k, v)]) (hd : H1 d = some (.frz o (.dK kvs))) (nD : H1 D = none)
    (hs : ∀ k v, kvs = [(k, v)] → ∀ N : Hp → Prop, N (upd H1 D (.dK [(k, v)])) → g (kV k) (wipe σ vs) (upd H1 D (.dK [])) fun σ2 H2 => wipe σ2 vs = wipe σ vs ∧ tt σ2 H2 fun b H3 =>
      if b = true then tk σ2 H3 fun y H4 => tv σ2 H4 fun z H5 => ∃ kvs k, y = kV k ∧ H5 D = some (.dK kvs) ∧ kvs.length < sizeLine ∧ N (upd H5 D (.dK (putK kvs k z))) else N H3) (hq : Qd (upd H1 D (.dK kvs))) :
    ∃ W : Nat → Nat → Hp → Prop, (∃ m, W 0 m (upd H1 D (.dK []))) ∧ ∀ i m H, W i m H →
      ((Itk d o kvs).stop i H ∧ Qd H) ∨ ((Itk d o kvs).go i H ∧ ∃ Nx : Hp → Prop, (∀ H', Nx H' → ∃ m', m' < m ∧ W (i + 1) m' H') ∧ ∀ x H', (Itk d o kvs).yld i H x H' → g x (wipe σ vs) H' fun σ2 H2 => wipe σ2 vs = wipe σ vs ∧ tt σ2 H2 fun b H3 =>
        if b = true then tk σ2 H3 fun y H4 => tv σ2 H4 fun z H5 => ∃ kvs k, y = kV k ∧ H5 D = some (.dK kvs) ∧ kvs.length < sizeLine ∧ Nx (upd H5 D (.dK (putK kvs k z))) else Nx H3) := by
  have hdD : d ≠ D := ne_of_none hd nD
  refine ⟨fun i m H => m + i = kvs.length ∧ H = upd H1 D (.dK (kvs.take i)), ⟨kvs.length, rfl, by rw [List.take_zero]⟩, ?_⟩
  rintro i m H ⟨hm, rfl⟩
  have hd' : ∀ u, upd H1 D u d = some (.frz o (.dK kvs)) := fun u => (upd_ne hdD).trans hd
  rcases hk with rfl | ⟨k, v, rfl⟩
  · obtain rfl : i = 0 := by
      have : m + i = 0 := hm
      omega
    exact .inl ⟨⟨hd' _, Nat.le_refl _⟩, hq⟩
  · have hm1 : m + i = 1 := hm
    rcases Nat.lt_or_ge i 1 with hi | hi
    · obtain rfl : i = 0 := by omega
      obtain rfl : m = 1 := by omega
      refine .inr ⟨⟨hd' _, Nat.zero_lt_one⟩, fun H' => H' = upd H1 D (.dK [(k, v)]), fun H' e => ⟨0, Nat.zero_lt_one, rfl, e⟩, fun x H' y => ?_⟩
      obtain ⟨rfl, k', v', e, rfl⟩ := y
      cases (Option.some.inj e : (k, v) = (k', v'))
      exact hs k v rfl _ rfl
    · obtain rfl : i = 1 := by omega
      exact .inl ⟨⟨hd' _, Nat.le_refl _⟩, hq⟩
end JP
namespace JP
open PySem PySem.Spec PyProof.Rows L2
abbrev Row := List PySem.Leaf
def lV : PySem.Leaf → V
  | .none => .non
  | .num i => .int i
  | .text x => .str x
/-- key, the key's tuple, value -/
abbrev EntN := List (Row × Addr × V)
abbrev RelN : EntN → List (Row × Addr × Value) → Prop := Paired fun p q => p.1 = q.1 ∧ p.2.1 = q.2.1 ∧ RelV p.2.2 q.2.2
/-- at d stands such a dict -/
def dnO (hf : Row → Int) (d : Addr) (es : EntN) : HO := .ext fun h => es.length ≤ sizeLine ∧ (d == sysModules) = false ∧ (es.map (·.1)).Nodup ∧
  ∃ xs, RelN es xs ∧ ∃ o ents ep, h.get? d = some o ∧ o.ExactDict ∧ o.data = .dict ents ep ∧ ents.toList = xs.map fun x => (⟨hf x.1, .ref x.2.1, x.2.2⟩ : DictEntry)
/-- the keys' tuples stand where they are told -/
def KsN (H : Hp) (es : EntN) : Prop := ∀ p ∈ es, H p.2.1 = some (.tup (p.1.map lV))
theorem KsN.same {H H' : Hp} {es : EntN} (s : Same H H') (k : KsN H es) : KsN H' es := fun p hp => s _ _ (k p hp)
def valN (es : EntN) (k : Row) : Option V := (es.find? fun p => decide (p.1 = k)).map (·.2.2)
section
variable {P : Program} {w : World} {H : Hp} {h : Heap} {d a : Addr} {es : EntN} {xs : List (Row × Addr × Value)} {k : Row}
theorem RelN.val (r : RelN es xs) (k : Row) : RelO (valN es k) ((atKey xs k).map (·.2)) := by
  induction r with
  | nil => exact True.intro
  | @cons p q ps qs h t ih =>
    obtain ⟨h1, _, h2⟩ := h
    by_cases e : p.1 = k
    · have e' : q.1 = k := h1.symm.trans e
      have b1 : valN (p :: ps) k = some p.2.2 := by simp [valN, List.find?_cons, e]
      have b2 : atKey (q :: qs) k = some q.2 := by simp [atKey, List.find?_cons, e']
      rw [b1, b2]
      exact h2
    · have e' : ¬ q.1 = k := fun z => e (h1.trans z)
      have b1 : valN (p :: ps) k = valN ps k := by simp [valN, List.find?_cons, e]
      have b2 : atKey (q :: qs) k = atKey qs k := by simp [atKey, List.find?_cons, e']
      rw [b1, b2]
      exact ih
end
end JP
namespace JP
open PySem PySem.Spec PyProof.Rows L2
section
variable {X : Cx} {o i e f value : Expr} {pos pos' tpos apos cpos : Pos} {td ty tv tx : TE}
/-- what is made stays as it is: it is read, never written -/
theorem pe_frz {t : TE} (h : PE X e t) : PE X e (fun σ H Q => t σ H fun x H1 => ∃ a u, x = .ref a ∧ H1 a = some u ∧ Mut (some u) ∧ ∀ o, Q x (upd H1 a (.frz o u))) := by
  refine ⟨fun pins s σ H Q I hw => ?_⟩
  refine thn (h.run pins s σ _ _ I hw) fun v s1 ⟨x, H1, I2, r, a, u, ex, ha, mu, q⟩ => ?_
  obtain ⟨o, I3⟩ := I2.lock ha mu
  exact ⟨x, _, I3, r, q o⟩
end
end JP
namespace JP
open PySem PySem.Spec PyProof.Rows L2
inductive D where
  | non | bl (b : Bool) | int (i : Int) | str (x : Str) | ty (n : String) | adr (a : Addr)
  | tup (ds : List D) | lst (ds : List D) | scr (ns : List Int) | ins (C : Addr) (fs : List (Str × D)) | exc (C : Addr) (fs : List (Str × D)) | dic (kvs : List (D × D)) | dit (kvs : List (D × D)) | dif (kvs : List (D × D)) | dln (hf : Row → Int) (kvs : List (Row × D))
instance : Inhabited D := ⟨.non⟩
def kD : Key → D
  | .inl i => .int i
  | .inr x => .str x
def tyNames : List String := ["int", "str", "bool", "list", "tuple", "dict", "set", "bytes", "float"]
/-- an own class whose instances are told apart -/
structure GoodC (K : PySem.W.Frag) (C : Addr) : Prop where
  cl : Cls K C
  ca : PySem.W.findIn K (.ref C) "__class__" = some (some (.builtin "object.__class__"))
  sg : PySem.W.specialIn K (.builtin "object.__class__") "__get__" = some (some (.builtin "getset_descriptor.__get__"))
  tk : PySem.W.takesIn K (.builtin "object.__class__") = some true
  mr : PySem.W.mroIn K C (.type "object") = some true
  kt : ∀ n ∈ tyNames, PySem.W.kitOne K (.ref C) (.type n) = some false
mutual
/-- the value v stands for d in the part F of the heap that stays -/
inductive Rep (K : PySem.W.Frag) (F : Hp) : V → D → Prop
  | non : Rep K F .non .non
  | bl (b : Bool) : Rep K F (.bl b) (.bl b)
  | int (i : Int) : Rep K F (.int i) (.int i)
  | str (x : Str) : Rep K F (.str x) (.str x)
  | ty (n : String) : Rep K F (.ty n) (.ty n)
  | adr (a : Addr) : Rep K F (.ref a) (.adr a)
  | tup {a : Addr} {xs : List V} {ds : List D} : F a = some (.tup xs) → RepAll K F xs ds → Rep K F (.ref a) (.tup ds)
  | lst {a : Addr} {xs : List V} {ds : List D} : F a = some (.lst xs) → RepAll K F xs ds → Rep K F (.ref a) (.lst ds)
  | scr {a : Addr} {ns : List Int} : SqL K F a (ns.map V.int) → Rep K F (.ref a) (.scr ns)
  | ins {a C dx : Addr} {fs : List (Str × V)} {ds : List (Str × D)} : F a = some (.ins C dx fs) → GoodC K C → (∀ p ∈ ds, NoAttr K C p.1) → RepF K F fs ds → Rep K F (.ref a) (.ins C ds)
  | exc {a C : Addr} {fs : List (Str × V)} {ds : List (Str × D)} : Held F a C fs → ExcC K C → RepF K F fs ds → Rep K F (.ref a) (.exc C ds)
  | dk {a : Addr} {kvs : List (Key × V)} {ds : List (D × D)} : Rd F a (.dK kvs) → RepK K F kvs ds → Rep K F (.ref a) (.dic ds)
  | dt {a : Addr} {kvs : List (List Key × V)} {ds : List (D × D)} : F a = some (.dT kvs) → RepT K F kvs ds → Rep K F (.ref a) (.dit ds)
  | df {a : Addr} {o : Obj} {kvs : List (Key × V)} {ds : List (D × D)} : F a = some (.frz o (.dK kvs)) → RepK K F kvs ds → Rep K F (.ref a) (.dif ds)
  | dn {a : Addr} {o : Obj} {hf : Row → Int} {es : EntN} {ds : List (Row × D)} : F a = some (.frz o (dnO hf a es)) → KsN F es → RepN K F es ds → Rep K F (.ref a) (.dln hf ds)
inductive RepAll (K : PySem.W.Frag) (F : Hp) : List V → List D → Prop
  | nil : RepAll K F [] []
  | cons {v : V} {vs : List V} {d : D} {ds : List D} : Rep K F v d → RepAll K F vs ds → RepAll K F (v :: vs) (d :: ds)
inductive RepF (K : PySem.W.Frag) (F : Hp) : List (Str × V) → List (Str × D) → Prop
  | nil : RepF K F [] []
  | cons {f : Str} {v : V} {vs : List (Str × V)} {d : D} {ds : List (Str × D)} : Rep K F v d → RepF K F vs ds → RepF K F ((f, v) :: vs) ((f, d) :: ds)
inductive RepK (K : PySem.W.Frag) (F : Hp) : List (Key × V) → List (D × D) → Prop
  | nil : RepK K F [] []
  | cons {k : Key} {v : V} {vs : List (Key × V)} {d : D} {ds : List (D × D)} : Rep K F v d → RepK K F vs ds → RepK K F ((k, v) :: vs) ((kD k, d) :: ds)
inductive RepT (K : PySem.W.Frag) (F : Hp) : List (List Key × V) → List (D × D) → Prop
  | nil : RepT K F [] []
  | cons {k : List Key} {v : V} {vs : List (List Key × V)} {d : D} {ds : List (D × D)} : Rep K F v d → RepT K F vs ds → RepT K F ((k, v) :: vs) ((.tup (k.map kD), d) :: ds)
inductive RepN (K : PySem.W.Frag) (F : Hp) : EntN → List (Row × D) → Prop
  | nil : RepN K F [] []
  | cons {k : Row} {b : Addr} {v : V} {vs : EntN} {d : D} {ds : List (Row × D)} : Rep K F v d → RepN K F vs ds → RepN K F ((k, b, v) :: vs) ((k, d) :: ds)
end
section
variable {K : PySem.W.Frag} {F F' : Hp}
theorem Held.same {F F' : Hp} {a C : Addr} {fs : List (Str × V)} (s : Same F F') (h : Held F a C fs) : Held F' a C fs := by
  rcases h with ⟨d, h1, h2⟩ | ⟨e, h1⟩
  · exact .inl ⟨d, s _ _ h1, s _ _ h2⟩
  · exact .inr ⟨e, s _ _ h1⟩
theorem Rd.same {F F' : Hp} {a : Addr} {u : HO} (s : Same F F') (h : Rd F a u) : Rd F' a u := by
  rcases h with h | ⟨o, h⟩
  · exact .inl (s _ _ h)
  · exact .inr ⟨o, s _ _ h⟩
mutual
theorem Rep.mono (s : Same F F') : ∀ {v : V} {d : D}, Rep K F v d → Rep K F' v d
  | _, _, .non => .non
  | _, _, .bl b => .bl b
  | _, _, .int i => .int i
  | _, _, .str x => .str x
  | _, _, .ty n => .ty n
  | _, _, .adr a => .adr a
  | _, _, .tup h r => .tup (s _ _ h) (RepAll.mono s r)
  | _, _, .lst h r => .lst (s _ _ h) (RepAll.mono s r)
  | _, _, .scr h => .scr (same_seqL' s h)
  | _, _, .ins h g n r => .ins (s _ _ h) g n (RepF.mono s r)
  | _, _, .exc h g r => .exc (h.same s) g (RepF.mono s r)
  | _, _, .dk h r => .dk (Rd.same s h) (RepK.mono s r)
  | _, _, .dt h r => .dt (s _ _ h) (RepT.mono s r)
  | _, _, .df h r => .df (s _ _ h) (RepK.mono s r)
  | _, _, .dn h k r => .dn (s _ _ h) (k.same s) (RepN.mono s r)
theorem RepAll.mono (s : Same F F') : ∀ {vs : List V} {ds : List D}, RepAll K F vs ds → RepAll K F' vs ds
  | _, _, .nil => .nil
  | _, _, .cons h r => .cons (Rep.mono s h) (RepAll.mono s r)
theorem RepF.mono (s : Same F F') : ∀ {vs : List (Str × V)} {ds : List (Str × D)}, RepF K F vs ds → RepF K F' vs ds
  | _, _, .nil => .nil
  | _, _, .cons h r => .cons (Rep.mono s h) (RepF.mono s r)
theorem RepK.mono (s : Same F F') : ∀ {vs : List (Key × V)} {ds : List (D × D)}, RepK K F vs ds → RepK K F' vs ds
  | _, _, .nil => .nil
  | _, _, .cons h r => .cons (Rep.mono s h) (RepK.mono s r)
theorem RepT.mono (s : Same F F') : ∀ {vs : List (List Key × V)} {ds : List (D × D)}, RepT K F vs ds → RepT K F' vs ds
  | _, _, .nil => .nil
  | _, _, .cons h r => .cons (Rep.mono s h) (RepT.mono s r)
theorem RepN.mono (s : Same F F') : ∀ {vs : EntN} {ds : List (Row × D)}, RepN K F vs ds → RepN K F' vs ds
  | _, _, .nil => .nil
  | _, _, .cons h r => .cons (Rep.mono s h) (RepN.mono s r)
end
theorem RepAll.length : ∀ {vs : List V} {ds : List D}, RepAll K F vs ds → vs.length = ds.length
  | _, _, .nil => rfl
  | _, _, .cons _ r => congrArg (· + 1) (RepAll.length r)
theorem RepAll.append : ∀ {vs us : List V} {ds es : List D}, RepAll K F vs ds → RepAll K F us es → RepAll K F (vs ++ us) (ds ++ es)
  | _, _, _, _, .nil, q => q
  | _, _, _, _, .cons h r, q => .cons h (RepAll.append r q)
theorem RepAll.get : ∀ {vs : List V} {ds : List D} {i : Nat} {d : D}, RepAll K F vs ds → ds[i]? = some d → ∃ v, vs[i]? = some v ∧ Rep K F v d
  | _, _, _, _, .nil, e => by simp at e
  | _, _, 0, _, .cons h _, e => by
    cases e
    exact ⟨_, rfl, h⟩
  | _, _, i + 1, _, .cons _ r, e => RepAll.get (i := i) r e
theorem RepAll.get' : ∀ {vs : List V} {ds : List D} {i : Nat} {v : V}, RepAll K F vs ds → vs[i]? = some v → ∃ d, ds[i]? = some d ∧ Rep K F v d
  | _, _, _, _, .nil, e => by simp at e
  | _, _, 0, _, .cons h _, e => by
    cases e
    exact ⟨_, rfl, h⟩
  | _, _, i + 1, _, .cons _ r, e => RepAll.get' (i := i) r e
theorem RepAll.take : ∀ {vs : List V} {ds : List D} (n : Nat), RepAll K F vs ds → RepAll K F (vs.take n) (ds.take n)
  | _, _, 0, _ => .nil
  | _, _, _ + 1, .nil => .nil
  | _, _, n + 1, .cons h r => .cons h (RepAll.take n r)
theorem RepAll.drop : ∀ {vs : List V} {ds : List D} (n : Nat), RepAll K F vs ds → RepAll K F (vs.drop n) (ds.drop n)
  | _, _, 0, r => r
  | _, _, _ + 1, .nil => .nil
  | _, _, n + 1, .cons _ r => RepAll.drop n r
theorem RepF.look : ∀ {vs : List (Str × V)} {ds : List (Str × D)} {f : Str} {d : D}, RepF K F vs ds → ds.lookup f = some d → ∃ v, vs.lookup f = some v ∧ Rep K F v d
  | _, _, _, _, .nil, e => by simp at e
  | _, _, g, _, .cons (f := f) h r, e => by
    rw [List.lookup_cons] at e ⊢
    cases q : g == f with
    | true =>
      rw [q] at e
      cases e
      exact ⟨_, rfl, h⟩
    | false =>
      rw [q] at e
      exact RepF.look r e
theorem RepF.lookN : ∀ {vs : List (Str × V)} {ds : List (Str × D)} {f : Str}, RepF K F vs ds → ds.lookup f = none → vs.lookup f = none
  | _, _, _, .nil, _ => rfl
  | _, _, g, .cons (f := f) h r, e => by
    rw [List.lookup_cons] at e ⊢
    cases q : g == f with
    | true =>
      rw [q] at e
      cases e
    | false =>
      rw [q] at e
      exact RepF.lookN r e
theorem RepF.length : ∀ {vs : List (Str × V)} {ds : List (Str × D)}, RepF K F vs ds → vs.length = ds.length
  | _, _, .nil => rfl
  | _, _, .cons _ r => congrArg (· + 1) (RepF.length r)
/-- a field is stored -/
def putD (f : Str) (d : D) : List (Str × D) → List (Str × D)
  | [] => [(f, d)]
  | (g, e) :: r => if g = f then (f, d) :: r else (g, e) :: putD f d r
end
inductive MO where
  | lst (ds : List D) | ins (C : Addr) (fs : List (Str × D)) | dic (kvs : List (D × D)) | dln (hf : Row → Int) (kvs : List (Row × D)) | pen (m : Nat)
abbrev Gm := Addr → Option MO
def updG (G : Gm) (a : Addr) (m : MO) : Gm := fun b => if b = a then some m else G b
def delG (G : Gm) (a : Addr) : Gm := fun b => if b = a then none else G b
theorem updG_same {G : Gm} {a : Addr} {m : MO} : updG G a m a = some m := by unfold updG; rw [if_pos rfl]
theorem updG_ne {G : Gm} {a b : Addr} {m : MO} (h : b ≠ a) : updG G a m b = G b := by unfold updG; rw [if_neg h]
theorem updG_updG {G : Gm} {a : Addr} {m n : MO} : updG (updG G a m) a n = updG G a n := by
  funext b; unfold updG; split <;> rfl
theorem delG_same {G : Gm} {a : Addr} : delG G a a = none := by unfold delG; rw [if_pos rfl]
theorem delG_ne {G : Gm} {a b : Addr} (h : b ≠ a) : delG G a b = G b := by unfold delG; rw [if_neg h]
theorem delG_updG {G : Gm} {a : Addr} {m : MO} (h : G a = none) : delG (updG G a m) a = G := by
  funext b; unfold delG updG; split
  · rename_i e; rw [e, h]
  · rfl
def MRep (K : PySem.W.Frag) (F H : Hp) (a : Addr) : MO → Prop
  | .lst ds => ∃ xs, H a = some (.lst xs) ∧ RepAll K F xs ds
  | .ins C fs => ∃ dx fv, H a = some (.ins C dx fv) ∧ GoodC K C ∧ (∀ p ∈ fs, NoAttr K C p.1) ∧ RepF K F fv fs
  | .dic kvs => ∃ ks, H a = some (.dK ks) ∧ RepK K F ks kvs
  | .dln hf kvs => ∃ es, H a = some (dnO hf a es) ∧ KsN F es ∧ RepN K F es kvs
  | .pen m => ∃ (c : Addr) (ns : List Int) (n g : Int), H a = some (.lst [.ref c, .int n, .int g]) ∧ F c = some (.lst (ns.map V.int)) ∧ ns.length ≤ 63 ∧ 0 ≤ n ∧ n ≤ m ∧ 0 ≤ g
/-- a heap of one kind of object alone -/
theorem heap_of (o : Obj) (nf : ∀ a, (({ objs := #[] } : Heap).push o).get? a = some o → True) : ∀ n : Nat, ∃ h : Heap, h.objs.size = n ∧ ∀ b u, h.get? b = some u → u = o
  | 0 => ⟨{ objs := #[] }, rfl, fun b u e => by simp [Heap.get?] at e⟩
  | n + 1 => by
    obtain ⟨h, e, k⟩ := heap_of o nf n
    refine ⟨h.push o, (Heap.size_push ..).trans (by rw [e]), fun b u q => ?_⟩
    rcases Heap.get?_push_cases q with ⟨_, q⟩ | q
    · exact q
    · exact k b u q
/-- what is true of a heap without dicts is not what a dict's place tells -/
theorem not_dn {φ : Heap → Prop} {hf : Row → Int} {d : Addr} {es : EntN} (c : Addr) (o : Obj) (nf : o.isFreed = false) (nd : ∀ e p, o.data ≠ .dict e p) (hφ : ∀ h : Heap, h.get? c = some o → φ h) : HO.ext φ ≠ dnO hf d es := fun z => by
  obtain ⟨h, hz, hk⟩ := heap_of o (fun _ _ => trivial) c
  have hc : (h.push o).get? c = some o := by
    rw [← hz]
    exact Heap.get?_push_size _ nf
  have hall : ∀ b u, (h.push o).get? b = some u → u = o := fun b u q => by
    rcases Heap.get?_push_cases q with ⟨_, q⟩ | q
    · exact q
    · exact hk b u q
  have e : φ = fun h => es.length ≤ sizeLine ∧ (d == sysModules) = false ∧ (es.map (·.1)).Nodup ∧
      ∃ xs, RelN es xs ∧ ∃ o ents ep, h.get? d = some o ∧ o.ExactDict ∧ o.data = .dict ents ep ∧ ents.toList = xs.map fun x => (⟨hf x.1, .ref x.2.1, x.2.2⟩ : DictEntry) := by
    unfold dnO at z
    injection z
  have t := hφ (h.push o) hc
  rw [e] at t
  obtain ⟨_, _, _, xs, _, o', ents, ep, q1, _, q2, _⟩ := t
  rw [hall _ _ q1] at q2
  exact nd _ _ q2
def mutO : HO → Prop
  | .lst _ => True
  | .ins _ _ _ => True
  | .dK _ => True
  | .dT _ => True
  | .ext φ => ∃ hf d es, HO.ext φ = dnO hf d es
  | _ => False
theorem codeO_notM {c : Addr} {q : Str} : ¬ mutO (LamX.CodeO c q) := fun h => by
  obtain ⟨hf, d, es, e⟩ := (show ∃ hf d es, LamX.CodeO c q = dnO hf d es from h)
  exact not_dn c { cls := .none, data := .fields #[.none, .str q 1] } rfl (fun _ _ z => by cases z) (fun h hc => ⟨_, _, 1, hc, rfl, rfl⟩) e
theorem mut_dn {hf : Row → Int} {d : Addr} {es : EntN} : mutO (dnO hf d es) := ⟨hf, d, es, rfl⟩
def notT : HO → Prop
  | .tbl _ => False
  | _ => True
theorem _root_.LamX.Tabs.but {T : List (Addr × Str)} {H : Hp} {o : HO} (t : LamX.Tabs T H) (a : Addr) (h : ∀ ps, H a = some (.tbl ps) → False) (h2 : ∀ c q, H a = some (LamX.CodeO c q) → False) : LamX.Tabs T (upd H a o) := fun p hp => by
  obtain ⟨ps, h1, h3, h4⟩ := t p hp
  have n1 : p.1 ≠ a := fun e => h ps (by rw [← e]; exact h1)
  refine ⟨ps, (upd_ne n1).trans h1, h3, fun pos cv hc => ?_⟩
  obtain ⟨c, e1, e2⟩ := h4 pos cv hc
  have n2 : c ≠ a := fun e => h2 _ _ (by rw [← e]; exact e2)
  exact ⟨c, e1, (upd_ne n2).trans e2⟩
section
variable {K : PySem.W.Frag} {Tb : List (Addr × Str)} {F F' H H' Z : Hp} {G : Gm} {a : Addr} {m : MO}
theorem MRep.at_ (h : MRep K F H a m) : ∃ o, H a = some o ∧ mutO o := by
  cases m with
  | lst ds => obtain ⟨xs, e, _⟩ := h; exact ⟨_, e, trivial⟩
  | ins C fs => obtain ⟨dx, fv, e, _⟩ := h; exact ⟨_, e, trivial⟩
  | dic kvs => obtain ⟨ks, e, _⟩ := h; exact ⟨_, e, trivial⟩
  | dln hf kvs => obtain ⟨es, e, _⟩ := h; exact ⟨_, e, mut_dn⟩
  | pen m => obtain ⟨c, ns, n, g, e, _⟩ := h; exact ⟨_, e, trivial⟩
theorem MRep.mono (s : Same F F') (e : ∀ o, H a = some o → H' a = some o) (h : MRep K F H a m) : MRep K F' H' a m := by
  cases m with
  | lst ds => obtain ⟨xs, q, r⟩ := h; exact ⟨xs, e _ q, r.mono s⟩
  | ins C fs => obtain ⟨dx, fv, q, g, n, r⟩ := h; exact ⟨dx, fv, e _ q, g, n, r.mono s⟩
  | dic kvs => obtain ⟨ks, q, r⟩ := h; exact ⟨ks, e _ q, r.mono s⟩
  | dln hf kvs => obtain ⟨es, q, k, r⟩ := h; exact ⟨es, e _ q, k.same s, r.mono s⟩
  | pen m => obtain ⟨c, ns, n, g, q, r, t⟩ := h; exact ⟨c, ns, n, g, e _ q, s _ _ r, t⟩
/-- the heap: F stays, G may change, Z is the callers' own that may change but not here; Tb: tables of code objects that grow -/
structure DS (K : PySem.W.Frag) (Tb : List (Addr × Str)) (F H : Hp) (G : Gm) (Z : Hp) : Prop where
  sub : Same F H
  mu : ∀ a m, G a = some m → F a = none ∧ MRep K F H a m
  zub : Same Z H
  zf : ∀ a o, Z a = some o → F a = none ∧ G a = none ∧ mutO o
  ft : ∀ a o, F a = some o → notT o
  tab : LamX.Tabs Tb H
theorem DS.same (d : DS K Tb F H G Z) (s : Same H H') : DS K Tb F H' G Z :=
  ⟨d.sub.trans s, fun a m e => ⟨(d.mu a m e).1, (d.mu a m e).2.mono (.refl F) fun o q => s _ _ q⟩, d.zub.trans s, d.zf, d.ft, d.tab.ext s⟩
theorem DS.frz {o : HO} (d : DS K Tb F H G Z) (h : H a = some o) (g : G a = none) (z : Z a = none) (nt : notT o := by exact trivial) : DS K Tb (upd F a o) H G Z ∧ Same F (upd F a o) := by
  have s : Same F (upd F a o) := fun b u e => by
    by_cases c : b = a
    · subst c
      have := d.sub _ _ e
      rw [h] at this
      cases this
      exact upd_same
    · rw [upd_ne c]
      exact e
  refine ⟨⟨fun b u e => ?_, fun b m e => ?_, d.zub, fun b u e => ?_, fun b u e => ?_, d.tab⟩, s⟩
  · by_cases c : b = a
    · subst c
      rw [upd_same] at e
      cases e
      exact h
    · rw [upd_ne c] at e
      exact d.sub _ _ e
  · have c : b ≠ a := fun c => by rw [c, g] at e; cases e
    exact ⟨(upd_ne c).trans (d.mu b m e).1, (d.mu b m e).2.mono s fun o q => q⟩
  · have c : b ≠ a := fun c => by rw [c, z] at e; cases e
    exact ⟨(upd_ne c).trans (d.zf b u e).1, (d.zf b u e).2⟩
  · by_cases c : b = a
    · subst c
      rw [upd_same] at e
      cases e
      exact nt
    · rw [upd_ne c] at e
      exact d.ft b u e
theorem DS.noG (d : DS K Tb F H G Z) (h : H a = none) : G a = none := by
  cases e : G a with
  | none => rfl
  | some m =>
    obtain ⟨o, q, _⟩ := (d.mu a m e).2.at_
    rw [h] at q
    cases q
theorem DS.noZ (d : DS K Tb F H G Z) (h : H a = none) : Z a = none := by
  cases e : Z a with
  | none => rfl
  | some m =>
    have := d.zub a m e
    rw [h] at this
    cases this
theorem DS.noF (d : DS K Tb F H G Z) (h : H a = none) : F a = none := by
  cases e : F a with
  | none => rfl
  | some m =>
    have := d.sub a m e
    rw [h] at this
    cases this
theorem DS.notM (d : DS K Tb F H G Z) {o : HO} (h : H a = some o) (n : ¬ mutO o) : G a = none ∧ Z a = none := by
  constructor
  · cases e : G a with
    | none => rfl
    | some m =>
      obtain ⟨u, q, k⟩ := (d.mu a m e).2.at_
      rw [h] at q
      cases q
      exact absurd k n
  · cases e : Z a with
    | none => rfl
    | some u =>
      have := d.zub a u e
      rw [h] at this
      cases this
      exact absurd (d.zf a _ e).2.2 n
/-- a new thing that stays -/
theorem DS.new {o : HO} (d : DS K Tb F H G Z) (n : H a = none) (nt : notT o := by exact trivial) : DS K Tb (upd F a o) (upd H a o) G Z ∧ Same F (upd F a o) :=
  (d.same (same_new n)).frz upd_same (d.noG n) (d.noZ n) nt
/-- a thing that was got, new or not -/
theorem DS.got {o : HO} (d : DS K Tb F H G Z) (s : Same H H') (h : H' a = some o) (n : ¬ mutO o) (nt : notT o := by exact trivial) : DS K Tb (upd F a o) H' G Z ∧ Same F (upd F a o) :=
  have d' := d.same s
  d'.frz h (d'.notM h n).1 (d'.notM h n).2 nt
/-- a new thing that may change -/
theorem DS.open {o : HO} (d : DS K Tb F H G Z) (n : H a = none) (r : MRep K F (upd H a o) a m) : DS K Tb F (upd H a o) (updG G a m) Z := by
  have d' := d.same (same_new (o := o) n)
  refine ⟨d'.sub, fun b k e => ?_, d'.zub, fun b u e => ?_, d.ft, d'.tab⟩
  · by_cases c : b = a
    · subst c
      rw [updG_same] at e
      cases e
      exact ⟨d.noF n, r⟩
    · rw [updG_ne c] at e
      exact d'.mu b k e
  · have c : b ≠ a := fun c => by rw [c, d.noZ n] at e; cases e
    exact ⟨(d.zf b u e).1, (updG_ne c).trans (d.zf b u e).2.1, (d.zf b u e).2.2⟩
/-- it is written -/
theorem DS.write {o : HO} {m' : MO} (d : DS K Tb F H G Z) (g : G a = some m) (r : MRep K F (upd H a o) a m') : DS K Tb F (upd H a o) (updG G a m') Z := by
  have hf := (d.mu a m g).1
  have hz : Z a = none := by
    cases e : Z a with
    | none => rfl
    | some u =>
      have := (d.zf a u e).2.1
      rw [g] at this
      cases this
  have keep : ∀ b u, b ≠ a → H b = some u → upd H a o b = some u := fun b u n e => (upd_ne n).trans e
  refine ⟨fun b u e => ?_, fun b k e => ?_, fun b u e => ?_, fun b u e => ?_, d.ft, d.tab.but a (fun ps q => ?_) (fun c0 q0 q => ?_)⟩
  · exact keep b u (fun c => by rw [c, hf] at e; cases e) (d.sub b u e)
  · by_cases c : b = a
    · subst c
      rw [updG_same] at e
      cases e
      exact ⟨hf, r⟩
    · rw [updG_ne c] at e
      exact ⟨(d.mu b k e).1, (d.mu b k e).2.mono (.refl F) fun u q => keep b u c q⟩
  · exact keep b u (fun c => by rw [c, hz] at e; cases e) (d.zub b u e)
  · have c : b ≠ a := fun c => by rw [c, hz] at e; cases e
    exact ⟨(d.zf b u e).1, (updG_ne c).trans (d.zf b u e).2.1, (d.zf b u e).2.2⟩
  · obtain ⟨u, q', k⟩ := (d.mu a m g).2.at_
    rw [q] at q'
    cases q'
    exact k
  · obtain ⟨u, q', k⟩ := (d.mu a m g).2.at_
    rw [q] at q'
    obtain rfl := Option.some.inj q'
    exact codeO_notM k
/-- it is not changed any more -/
theorem DS.close {o : HO} (d : DS K Tb F H G Z) (g : G a = some m) (h : H a = some o) (nt : notT o := by exact trivial) : DS K Tb (upd F a o) H (delG G a) Z ∧ Same F (upd F a o) := by
  have hz : Z a = none := by
    cases e : Z a with
    | none => rfl
    | some u =>
      have := (d.zf a u e).2.1
      rw [g] at this
      cases this
  have d' : DS K Tb F H (delG G a) Z := ⟨d.sub, fun b k e => by
    by_cases c : b = a
    · rw [c, delG_same] at e
      cases e
    · rw [delG_ne c] at e
      exact d.mu b k e, d.zub, fun b u e => by
    have c : b ≠ a := fun c => by rw [c, hz] at e; cases e
    exact ⟨(d.zf b u e).1, (delG_ne c).trans (d.zf b u e).2.1, (d.zf b u e).2.2⟩, d.ft, d.tab⟩
  exact d'.frz h delG_same hz nt
/-- a further thing that is to stay as it is, for a while -/
theorem DS.zadd {o : HO} (d : DS K Tb F H G Z) (h : H a = some o) (f : F a = none) (g : G a = none) (n : mutO o) : DS K Tb F H G (upd Z a o) :=
  ⟨d.sub, d.mu, fun b u e => by
    by_cases c : b = a
    · subst c
      rw [upd_same] at e
      cases e
      exact h
    · rw [upd_ne c] at e
      exact d.zub b u e, fun b u e => by
    by_cases c : b = a
    · subst c
      rw [upd_same] at e
      cases e
      exact ⟨f, g, n⟩
    · rw [upd_ne c] at e
      exact d.zf b u e, d.ft, d.tab⟩
theorem DS.zdel {o : HO} (d : DS K Tb F H G (upd Z a o)) (n : Z a = none) : DS K Tb F H G Z ∧ H a = some o ∧ F a = none ∧ G a = none :=
  have k : ∀ b u, Z b = some u → upd Z a o b = some u := fun b u e => by
    have c : b ≠ a := fun c => by rw [c, n] at e; cases e
    rw [upd_ne c]
    exact e
  ⟨⟨d.sub, d.mu, fun b u e => d.zub b u (k b u e), fun b u e => d.zf b u (k b u e), d.ft, d.tab⟩, d.zub a o upd_same, (d.zf a o upd_same).1, (d.zf a o upd_same).2.1⟩
/-- a thing that nobody knows of is written -/
theorem DS.other {o u : HO} (d : DS K Tb F H G Z) (h : H a = some u) (f : F a = none) (g : G a = none) (z : Z a = none) (mu : mutO u := by exact trivial) : DS K Tb F (upd H a o) G Z :=
  have ne : ∀ {b : Addr} {Y : Hp} {q : HO}, Y a = none → Y b = some q → b ≠ a := fun y e c => by rw [c, y] at e; cases e
  ⟨fun b q e => (upd_ne (ne f e)).trans (d.sub b q e), fun b m e => ⟨(d.mu b m e).1, (d.mu b m e).2.mono (.refl F) fun q t => by
    have c : b ≠ a := fun c => by rw [c, g] at e; cases e
    exact (upd_ne c).trans t⟩, fun b q e => (upd_ne (ne z e)).trans (d.zub b q e), d.zf, d.ft, d.tab.but a (fun ps q => by rw [h] at q; cases q; exact mu) (fun c0 q0 q => by rw [h] at q; obtain rfl := Option.some.inj q; exact codeO_notM mu)⟩
end
abbrev SD := List (Option D)
abbrev QD := D → Gm → Prop
abbrev TED := SD → Gm → QD → Prop
abbrev TTD := SD → Gm → (Bool → Gm → Prop) → Prop
abbrev TAD := SD → Gm → (List D → Gm → Prop) → Prop
/-- the slots -/
structure Sl (K : PySem.W.Frag) (F : Hp) (σ : L2.St) (δ : SD) : Prop where
  len : δ.length = σ.length
  get : ∀ (i : Nat) (d : D), δ[i]? = some (some d) → ∃ v : V, σ[i]? = some (some v) ∧ Rep K F v d
theorem Sl.mono {K : PySem.W.Frag} {F F' : Hp} {σ : L2.St} {δ : SD} (s : Same F F') (h : Sl K F σ δ) : Sl K F' σ δ :=
  ⟨h.len, fun i d e => let ⟨v, e', r⟩ := h.get i d e; ⟨v, e', r.mono s⟩⟩
theorem Sl.set {K : PySem.W.Frag} {F : Hp} {σ : L2.St} {δ : SD} {v : V} {d : D} (h : Sl K F σ δ) (i : Nat) (r : Rep K F v d) : Sl K F (σ.set i (some v)) (δ.set i (some d)) := by
  refine ⟨by simp [h.len], fun j e q => ?_⟩
  rw [List.getElem?_set] at q
  rw [List.getElem?_set]
  by_cases c : i = j
  · subst c
    rw [if_pos rfl] at q ⊢
    split at q
    · rename_i l
      cases q
      rw [if_pos (by rw [← h.len]; exact l)]
      exact ⟨v, rfl, r⟩
    · cases q
  · rw [if_neg c] at q ⊢
    exact h.get j e q
theorem Sl.drop {K : PySem.W.Frag} {F : Hp} {σ : L2.St} {δ : SD} (h : Sl K F σ δ) (i : Nat) (o : Option V) : Sl K F (σ.set i o) (δ.set i none) := by
  refine ⟨by simp [h.len], fun j e q => ?_⟩
  rw [List.getElem?_set] at q
  rw [List.getElem?_set]
  by_cases c : i = j
  · subst c
    rw [if_pos rfl] at q
    split at q <;> cases q
  · rw [if_neg c] at q ⊢
    exact h.get j e q
/-- where the code stands: what stood at the entry, and what is to stay -/
structure Bs where
  F : Hp
  Z : Hp
  T : List (Addr × Str)
/-- the state at δ, G -/
structure Sit (K : PySem.W.Frag) (B : Bs) (σ : L2.St) (H : Hp) (F : Hp) (δ : SD) (G : Gm) : Prop where
  ds : DS K B.T F H G B.Z
  gr : Same B.F F
  sl : Sl K F σ δ
theorem Sit.same {K : PySem.W.Frag} {B : Bs} {σ : L2.St} {H H' F : Hp} {δ : SD} {G : Gm} (S : Sit K B σ H F δ G) (s : Same H H') : Sit K B σ H' F δ G := ⟨S.ds.same s, S.gr, S.sl⟩
/-- behind an expression -/
def Beh (K : PySem.W.Frag) (B : Bs) (σ : L2.St) (F : Hp) (δ : SD) (Qd : QD) (v : V) (H' : Hp) : Prop :=
  ∃ F' G' d, Same F F' ∧ Sit K B σ H' F' δ G' ∧ Rep K F' v d ∧ Qd d G'
def up (K : PySem.W.Frag) (B : Bs) (T : TED) : TE := fun σ H Q => ∃ F G δ Qd, Sit K B σ H F δ G ∧ T δ G Qd ∧ ∀ v H', Beh K B σ F δ Qd v H' → Q v H'
def upT (K : PySem.W.Frag) (B : Bs) (T : TTD) : TT := fun σ H Q => ∃ F G δ Qd, Sit K B σ H F δ G ∧ T δ G Qd ∧ ∀ b H', (∃ F' G', Same F F' ∧ Sit K B σ H' F' δ G' ∧ Qd b G') → Q b H'
def upA (K : PySem.W.Frag) (B : Bs) (T : TAD) : TA := fun σ H Q => ∃ F G δ Qd, Sit K B σ H F δ G ∧ T δ G Qd ∧ ∀ vs H', (∃ F' G' ds, Same F F' ∧ Sit K B σ H' F' δ G' ∧ RepAll K F' vs ds ∧ Qd ds G') → Q vs H'
def DE (X : Cx) (B : Bs) (e : Expr) (T : TED) : Prop := PE X e (up X.K B T)
def DT (X : Cx) (B : Bs) (e : Expr) (T : TTD) : Prop := PT X e (upT X.K B T)
def DW (X : Cx) (B : Bs) (e : Expr) (T : TTD) : Prop := PW X e (upT X.K B T)
def DA (X : Cx) (B : Bs) (es : List Expr) (T : TAD) : Prop := PA X es (upA X.K B T)
section
variable {X : Cx} {B : Bs} {K : PySem.W.Frag}
theorem PE.weak {e : Expr} {t t' : TE} (h : PE X e t) (w : ∀ σ H Q, t' σ H Q → t σ H Q) : PE X e t' := ⟨fun pins s σ H Q I q => h.run pins s σ H Q I (w _ _ _ q)⟩
theorem PT.weak {e : Expr} {t t' : TT} (h : PT X e t) (w : ∀ σ H Q, t' σ H Q → t σ H Q) : PT X e t' := ⟨fun pins s σ H Q I q => h.run pins s σ H Q I (w _ _ _ q)⟩
theorem PW.weak {e : Expr} {t t' : TT} (h : PW X e t) (w : ∀ σ H Q, t' σ H Q → t σ H Q) : PW X e t' := ⟨fun wh pins s σ H Q I q => h.run wh pins s σ H Q I (w _ _ _ q)⟩
theorem PA.weak {e : List Expr} {t t' : TA} (h : PA X e t) (w : ∀ σ H Q, t' σ H Q → t σ H Q) : PA X e t' := ⟨fun pos pins s σ H Q I q => h.run pos pins s σ H Q I (w _ _ _ q)⟩
/-- two in a row -/
theorem up2 {ta tb : TED} {R : D → D → Gm → Prop} {RV : V → V → Hp → Prop} {σ : L2.St} {H F : Hp} {δ : SD} {G : Gm} (S : Sit K B σ H F δ G) (h : ta δ G fun x G1 => tb δ G1 fun y G2 => R x y G2)
    (k : ∀ x y H2 F2 G2 a b, Same F F2 → Sit K B σ H2 F2 δ G2 → Rep K F2 x a → Rep K F2 y b → R a b G2 → RV x y H2) : up K B ta σ H fun x H1 => up K B tb σ H1 fun y H2 => RV x y H2 :=
  ⟨F, G, δ, _, S, h, fun x H1 ⟨F1, G1, a, s1, S1, r1, h1⟩ => ⟨F1, G1, δ, _, S1, h1, fun y H2 ⟨F2, G2, b, s2, S2, r2, h2⟩ => k x y H2 F2 G2 a b (s1.trans s2) S2 (r1.mono s2) r2 h2⟩⟩
/-- the same thing again -/
theorem Beh.end_ {σ : L2.St} {H F F' : Hp} {δ : SD} {G' : Gm} {Qd : QD} {v : V} {d : D} (s : Same F F') (S : Sit K B σ H F' δ G') (r : Rep K F' v d) (q : Qd d G') : Beh K B σ F δ Qd v H := ⟨F', G', d, s, S, r, q⟩
def dVar (i : Nat) : TED := fun δ G Q => match δ[i]? with | some (some d) => Q d G | _ => False
def dC (d : D) : TED := fun _ G Q => Q d G
theorem de_var {i : Nat} {x : Str} {pos : Pos} (hN : X.N[i]? = some x) (hv : Vis X.env.scope x) (hd : (x == ("__debug__" : Str)) = false := by decide) (hcd : (x == ("__classdict__" : Str)) = false := by decide) : DE X B (.Name x pos) (dVar i) :=
  PE.weak (pe_var hN hv hd hcd) fun σ H Q ⟨F, G, δ, Qd, S, h, k⟩ => by
    unfold dVar at h
    split at h
    · rename_i d e
      obtain ⟨v, e', r⟩ := S.sl.get i d e
      exact ⟨v, e', k v H (.end_ (.refl F) S r h)⟩
    · exact h.elim
theorem de_c {e : Expr} {v : V} {d : D} (h : PE X e (tC v)) (r : ∀ F, Rep X.K F v d) : DE X B e (dC d) :=
  PE.weak h fun σ H Q ⟨F, G, δ, Qd, S, h, k⟩ => k v H (.end_ (.refl F) S (r F) h)
theorem de_int {i j pos} : DE X B (.Constant (.int i) j pos) (dC (.int i)) := de_c pe_int fun _ => .int i
theorem de_bl {b j pos} : DE X B (.Constant (.bool b) j pos) (dC (.bl b)) := de_c pe_bl fun _ => .bl b
theorem de_non {j pos} : DE X B (.Constant .none j pos) (dC .non) := de_c pe_non fun _ => .non
theorem de_str {x j pos} : DE X B (.Constant (.str x) j pos) (dC (.str x)) := de_c pe_str fun _ => .str x
theorem de_gint {x : Str} {i : Int} {u : Value} {pos : Pos} (hg : Gl X x) (hm : X.mg x = some u) (r : RelV (.int i) u) (hd : (x == ("__debug__" : Str)) = false := by decide) : DE X B (.Name x pos) (dC (.int i)) := de_c (pe_glob hg hm r hd) fun _ => .int i
theorem de_gadr {x : Str} {a : Addr} {pos : Pos} (hg : Gl X x) (hm : X.mg x = some (.ref a)) (hd : (x == ("__debug__" : Str)) = false := by decide) : DE X B (.Name x pos) (dC (.adr a)) := de_c (pe_glob hg hm (show RelV (.ref a) _ from rfl) hd) fun _ => .adr a
abbrev R2D := D → D → Gm → QD → Prop
abbrev R1D := D → Gm → QD → Prop
def dOp (r : R2D) (ta tb : TED) : TED := fun δ G Q => ta δ G fun x G1 => tb δ G1 fun y G2 => r x y G2 Q
def dUn (r : R1D) (ta : TED) : TED := fun δ G Q => ta δ G fun x G1 => r x G1 Q
/-- an operator by the heap's own and by trees -/
def OpA (K : PySem.W.Frag) (rv : R2) (r : R2D) : Prop := ∀ (B : Bs) (σ : L2.St) (δ : SD) (H F : Hp) (G : Gm) (x y : V) (a b : D) (Qd : QD) (Q : VK), Sit K B σ H F δ G → Rep K F x a → Rep K F y b → r a b G Qd → (∀ v H', Beh K B σ F δ Qd v H' → Q v H') → rv x y H Q
theorem de_op {op : Operator} {rv : R2} {r : R2D} {a b : Expr} {ta tb : TED} {pos : Pos} (ho : OpR X (binaryOp op) rv) (hA : OpA X.K rv r) (ha : DE X B a ta) (hb : DE X B b tb) : DE X B (.BinOp a op b pos) (dOp r ta tb) :=
  PE.weak (pe_op ho ha hb) fun σ H Q ⟨F, G, δ, Qd, S, h, k⟩ => up2 S h fun x y H2 F2 G2 d e s2 S2 r1 r2 h2 => hA B σ δ H2 F2 G2 x y d e Qd Q S2 r1 r2 h2 fun v H' ⟨F', G', d', s', S', r', q'⟩ => k v H' ⟨F', G', d', s2.trans s', S', r', q'⟩
theorem de_cmp {op : CmpOp} {rv : R2} {r : R2D} {a b : Expr} {ta tb : TED} {pos : Pos} (ho : OpR X (compareOp op) rv) (hA : OpA X.K rv r) (ha : DE X B a ta) (hb : DE X B b tb) (hm : behindInMarks op b = false) : DE X B (.Compare a [op] [b] pos) (dOp r ta tb) :=
  PE.weak (pe_cmpR ho ha hb hm) fun σ H Q ⟨F, G, δ, Qd, S, h, k⟩ => up2 S h fun x y H2 F2 G2 d e s2 S2 r1 r2 h2 => hA B σ δ H2 F2 G2 x y d e Qd Q S2 r1 r2 h2 fun v H' ⟨F', G', d', s', S', r', q'⟩ => k v H' ⟨F', G', d', s2.trans s', S', r', q'⟩
theorem de_ix {rv : R2} {r : R2D} {a b : Expr} {ta tb : TED} {pos : Pos} (ho : IxR X rv) (hA : OpA X.K rv r) (ha : DE X B a ta) (hb : DE X B b tb) (hs : PlainIx b) : DE X B (.Subscript a b pos) (dOp r ta tb) :=
  PE.weak (pe_ix ho ha hb hs) fun σ H Q ⟨F, G, δ, Qd, S, h, k⟩ => up2 S h fun x y H2 F2 G2 d e s2 S2 r1 r2 h2 => hA B σ δ H2 F2 G2 x y d e Qd Q S2 r1 r2 h2 fun v H' ⟨F', G', d', s', S', r', q'⟩ => k v H' ⟨F', G', d', s2.trans s', S', r', q'⟩
/-- a test out of a value -/
def dTest (t : TED) : TTD := fun δ G Q => t δ G fun x G' => match x with | .bl b => Q b G' | _ => False
theorem rep_bl {F : Hp} {v : V} {b : Bool} (r : Rep K F v (.bl b)) : v = .bl b := by cases r; rfl
theorem rep_int {F : Hp} {v : V} {b : Int} (r : Rep K F v (.int b)) : v = .int b := by cases r; rfl
theorem rep_str {F : Hp} {v : V} {b : Str} (r : Rep K F v (.str b)) : v = .str b := by cases r; rfl
theorem rep_non {F : Hp} {v : V} (r : Rep K F v .non) : v = .non := by cases r; rfl
theorem up_test {t : TED} {σ : L2.St} {H : Hp} {Q : Bool → Hp → Prop} (h : upT K B (dTest t) σ H Q) : up K B t σ H fun x H' => ∃ k, x = .bl k ∧ Q k H' := by
  obtain ⟨F, G, δ, Qd, S, h, k⟩ := h
  refine ⟨F, G, δ, _, S, h, fun v H' ⟨F', G', d, s, S', r, q⟩ => ?_⟩
  cases d with
  | bl b =>
    cases r
    exact ⟨b, rfl, k b H' ⟨F', G', s, S', q⟩⟩
  | _ => exact q.elim
theorem dt_val {e : Expr} {t : TED} (h : DE X B e t) (he : ∀ whole, isTrue e X.env whole = (do let v ← whole; standAt e.pos; holding [v] (truthy v)) := by intro _; rfl) : DT X B e (dTest t) :=
  PT.weak (pt_val h he) fun σ H Q q => up_test q
theorem dt_cmp {op : CmpOp} {rv : R2} {r : R2D} {a b : Expr} {ta tb : TED} {pos : Pos} (ho : OpR X (compareOp op) rv) (hA : OpA X.K rv r) (ha : DE X B a ta) (hb : DE X B b tb) (hm : behindInMarks op b = false) : DT X B (.Compare a [op] [b] pos) (dTest (dOp r ta tb)) :=
  PT.weak (pt_cmpR ho ha hb hm) fun σ H Q q => by
    obtain ⟨F, G, δ, Qd, S, h, k⟩ := q
    refine up2 S h fun x y H2 F2 G2 d e s2 S2 r1 r2 h2 => hA B σ δ H2 F2 G2 x y d e _ _ S2 r1 r2 h2 fun v H' ⟨F', G', d', s', S', r', q'⟩ => ?_
    cases d' with
    | bl b =>
      cases r'
      exact ⟨b, rfl, k b H' ⟨F', G', s2.trans s', S', q'⟩⟩
    | _ => exact q'.elim
end
end JP
namespace JP
open PySem PySem.Spec PyProof.Rows L2
section
variable {X : Cx} {B : Bs} {K : PySem.W.Frag} {a b c : Expr} {rest : List Expr} {ta tb : TED} {pos : Pos}
def dAnd (ta tb : TED) : TED := fun δ G Q => ta δ G fun x G1 => match x with | .bl true => tb δ G1 Q | .bl false => Q (.bl false) G1 | _ => False
def dOr (ta tb : TED) : TED := fun δ G Q => ta δ G fun x G1 => match x with | .bl true => Q (.bl true) G1 | .bl false => tb δ G1 Q | _ => False
def dNot (ta : TED) : TED := fun δ G Q => ta δ G fun x G1 => match x with | .bl c => Q (.bl (!c)) G1 | _ => False
theorem de_one {op} {t : TED} (h : DE X B a t) : DE X B (.BoolOp op [a] pos) t := pe_one h
theorem de_and (ha : DE X B a ta) (hb : DE X B (.BoolOp .And (b :: rest) pos) tb) : DE X B (.BoolOp .And (a :: b :: rest) pos) (dAnd ta tb) :=
  PE.weak (pe_and ha hb) fun σ H Q ⟨F, G, δ, Qd, S, h, k⟩ => ⟨F, G, δ, _, S, h, fun v H1 ⟨F1, G1, d, s1, S1, r1, h1⟩ => by
    cases d with
    | bl c =>
      cases r1
      cases c with
      | true => exact ⟨true, rfl, F1, G1, δ, Qd, S1, h1, fun v H' ⟨F', G', d', s', S', r', q'⟩ => k v H' ⟨F', G', d', s1.trans s', S', r', q'⟩⟩
      | false => exact ⟨false, rfl, k _ _ ⟨F1, G1, _, s1, S1, .bl false, h1⟩⟩
    | _ => exact h1.elim⟩
theorem de_or (ha : DE X B a ta) (hb : DE X B (.BoolOp .Or (b :: rest) pos) tb) : DE X B (.BoolOp .Or (a :: b :: rest) pos) (dOr ta tb) :=
  PE.weak (pe_or ha hb) fun σ H Q ⟨F, G, δ, Qd, S, h, k⟩ => ⟨F, G, δ, _, S, h, fun v H1 ⟨F1, G1, d, s1, S1, r1, h1⟩ => by
    cases d with
    | bl c =>
      cases r1
      cases c with
      | false => exact ⟨false, rfl, F1, G1, δ, Qd, S1, h1, fun v H' ⟨F', G', d', s', S', r', q'⟩ => k v H' ⟨F', G', d', s1.trans s', S', r', q'⟩⟩
      | true => exact ⟨true, rfl, k _ _ ⟨F1, G1, _, s1, S1, .bl true, h1⟩⟩
    | _ => exact h1.elim⟩
theorem de_not (ha : DE X B a ta) : DE X B (.UnaryOp .Not a pos) (dNot ta) :=
  PE.weak (pe_not ha) fun σ H Q ⟨F, G, δ, Qd, S, h, k⟩ => ⟨F, G, δ, _, S, h, fun v H1 ⟨F1, G1, d, s1, S1, r1, h1⟩ => by
    cases d with
    | bl c =>
      cases r1
      exact ⟨c, rfl, k _ _ ⟨F1, G1, _, s1, S1, .bl _, h1⟩⟩
    | _ => exact h1.elim⟩
/-- tests -/
def dAndT (t u : TTD) : TTD := fun δ G Q => t δ G fun c G1 => match c with | true => u δ G1 Q | false => Q false G1
def dOrT (t u : TTD) : TTD := fun δ G Q => t δ G fun c G1 => match c with | true => Q true G1 | false => u δ G1 Q
def dNotT (t : TTD) : TTD := fun δ G Q => t δ G fun c G1 => Q (!c) G1
variable {tA tB' : TTD}
theorem dw_pt {e : Expr} {t : TTD} (h : DW X B e t) : DT X B e t := PW.pt h
theorem dw_and1 (ha : DT X B a tA) : DW X B (.BoolOp .And [a] pos) tA := pw_and1 ha
theorem dw_or1 (ha : DT X B a tA) : DW X B (.BoolOp .Or [a] pos) tA := pw_or1 ha
theorem dw_and (ha : DT X B a tA) (hb : DW X B (.BoolOp .And (b :: rest) pos) tB') : DW X B (.BoolOp .And (a :: b :: rest) pos) (dAndT tA tB') :=
  PW.weak (pw_and ha hb) fun σ H Q ⟨F, G, δ, Qd, S, h, k⟩ => ⟨F, G, δ, _, S, h, fun c H1 ⟨F1, G1, s1, S1, h1⟩ => by
    cases c with
    | true => exact ⟨F1, G1, δ, Qd, S1, h1, fun v H' ⟨F', G', s', S', q'⟩ => k v H' ⟨F', G', s1.trans s', S', q'⟩⟩
    | false => exact k _ _ ⟨F1, G1, s1, S1, h1⟩⟩
theorem dw_or (ha : DT X B a tA) (hb : DW X B (.BoolOp .Or (b :: rest) pos) tB') : DW X B (.BoolOp .Or (a :: b :: rest) pos) (dOrT tA tB') :=
  PW.weak (pw_or ha hb) fun σ H Q ⟨F, G, δ, Qd, S, h, k⟩ => ⟨F, G, δ, _, S, h, fun c H1 ⟨F1, G1, s1, S1, h1⟩ => by
    cases c with
    | false => exact ⟨F1, G1, δ, Qd, S1, h1, fun v H' ⟨F', G', s', S', q'⟩ => k v H' ⟨F', G', s1.trans s', S', q'⟩⟩
    | true => exact k _ _ ⟨F1, G1, s1, S1, h1⟩⟩
theorem dt_not (ha : DT X B a tA) : DT X B (.UnaryOp .Not a pos) (dNotT tA) :=
  PT.weak (pt_not ha) fun σ H Q ⟨F, G, δ, Qd, S, h, k⟩ => ⟨F, G, δ, _, S, h, fun c H1 ⟨F1, G1, s1, S1, h1⟩ => k _ _ ⟨F1, G1, s1, S1, h1⟩⟩
def dIf (t : TTD) (ta tb : TED) : TED := fun δ G Q => t δ G fun c G1 => match c with | true => ta δ G1 Q | false => tb δ G1 Q
theorem de_if (hc : DT X B c tA) (ha : DE X B a ta) (hb : DE X B b tb) : DE X B (.IfExp c a b pos) (dIf tA ta tb) :=
  PE.weak (pe_ifExp hc ha hb) fun σ H Q ⟨F, G, δ, Qd, S, h, k⟩ => ⟨F, G, δ, _, S, h, fun c H1 ⟨F1, G1, s1, S1, h1⟩ => by
    cases c with
    | true => exact ⟨F1, G1, δ, Qd, S1, h1, fun v H' ⟨F', G', d', s', S', r', q'⟩ => k v H' ⟨F', G', d', s1.trans s', S', r', q'⟩⟩
    | false => exact ⟨F1, G1, δ, Qd, S1, h1, fun v H' ⟨F', G', d', s', S', r', q'⟩ => k v H' ⟨F', G', d', s1.trans s', S', r', q'⟩⟩⟩
end
section
variable {X : Cx} {B : Bs} {K : PySem.W.Frag} {e : Expr} {es : List Expr} {te : TED} {t : TAD} {pos : Pos}
def dNil : TAD := fun _ G Q => Q [] G
def dCons (te : TED) (tr : TAD) : TAD := fun δ G Q => te δ G fun d G1 => tr δ G1 fun ds G2 => Q (d :: ds) G2
theorem da_nil : DA X B [] dNil := PA.weak pa_nil fun σ H Q ⟨F, G, δ, Qd, S, h, k⟩ => k [] H ⟨F, G, [], .refl F, S, .nil, h⟩
theorem da_cons (ha : DE X B e te) (hr : DA X B es t) (hs : starEach (e :: es) X.env = (false, eval e X.env) :: starEach es X.env := by rfl) : DA X B (e :: es) (dCons te t) :=
  PA.weak (pa_cons ha hr hs) fun σ H Q ⟨F, G, δ, Qd, S, h, k⟩ => ⟨F, G, δ, _, S, h, fun v H1 ⟨F1, G1, d, s1, S1, r1, h1⟩ => ⟨F1, G1, δ, _, S1, h1, fun vs H2 ⟨F2, G2, ds, s2, S2, r2, h2⟩ =>
    k _ H2 ⟨F2, G2, d :: ds, s1.trans s2, S2, .cons (r1.mono s2) r2, h2⟩⟩⟩
def dTup (t : TAD) : TED := fun δ G Q => t δ G fun ds G1 => ds.length ≤ sizeLine ∧ Q (.tup ds) G1
def dLst (t : TAD) : TED := fun δ G Q => t δ G fun ds G1 => ds.length ≤ sizeLine ∧ Q (.lst ds) G1
/-- a new thing in the heap, that stays -/
theorem Beh.new {σ : L2.St} {H F F1 : Hp} {δ : SD} {G : Gm} {Qd : QD} {p : Addr} {o : HO} {d : D} (S : Sit K B σ H F1 δ G) (s : Same F F1) (n : H p = none) (r : Rep K (upd F1 p o) (.ref p) d) (q : Qd d G) (nt : notT o := by exact trivial) : Beh K B σ F δ Qd (.ref p) (upd H p o) :=
  have ⟨d1, s1⟩ := S.ds.new (o := o) n nt
  ⟨upd F1 p o, G, d, s.trans s1, ⟨d1, S.gr.trans s1, S.sl.mono s1⟩, r, q⟩
theorem rep_tup_new {F1 : Hp} {p : Addr} {vs : List V} {ds : List D} (n : F1 p = none) (r : RepAll K F1 vs ds) : Rep K (upd F1 p (.tup vs)) (.ref p) (.tup ds) := .tup upd_same (r.mono (same_new n))
theorem rep_lst_new {F1 : Hp} {p : Addr} {vs : List V} {ds : List D} (n : F1 p = none) (r : RepAll K F1 vs ds) : Rep K (upd F1 p (.lst vs)) (.ref p) (.lst ds) := .lst upd_same (r.mono (same_new n))
theorem de_tup {x1} (h : DA X B es t) : DE X B (.Tuple es x1 pos) (dTup t) :=
  PE.weak (pe_tup h) fun σ H Q ⟨F, G, δ, Qd, S, q, k⟩ => ⟨F, G, δ, _, S, q, fun vs H1 ⟨F1, G1, ds, s1, S1, r1, l, h1⟩ => ⟨by rw [r1.length]; exact l, fun p n =>
    k _ _ (.new S1 s1 n (rep_tup_new (S1.ds.noF n) r1) h1)⟩⟩
theorem de_lst (h : DA X B es t) : DE X B (.List es pos) (dLst t) :=
  PE.weak (pe_lst h) fun σ H Q ⟨F, G, δ, Qd, S, q, k⟩ => ⟨F, G, δ, _, S, q, fun vs H1 ⟨F1, G1, ds, s1, S1, r1, l, h1⟩ => ⟨by rw [r1.length]; exact l, fun p n =>
    k _ _ (.new S1 s1 n (rep_lst_new (S1.ds.noF n) r1) h1)⟩⟩
/-- a list that will be changed -/
def dLstM (t : TAD) : TED := fun δ G Q => t δ G fun ds G1 => ds.length ≤ sizeLine ∧ ∀ p, G1 p = none → Q (.adr p) (updG G1 p (.lst ds))
theorem Beh.open {σ : L2.St} {H F F1 : Hp} {δ : SD} {G : Gm} {Qd : QD} {p : Addr} {o : HO} {m : MO} (S : Sit K B σ H F1 δ G) (s : Same F F1) (n : H p = none) (r : MRep K F1 (upd H p o) p m) (q : Qd (.adr p) (updG G p m)) : Beh K B σ F δ Qd (.ref p) (upd H p o) :=
  ⟨F1, updG G p m, .adr p, s, ⟨S.ds.open n r, S.gr, S.sl⟩, .adr p, q⟩
theorem de_lstM (h : DA X B es t) : DE X B (.List es pos) (dLstM t) :=
  PE.weak (pe_lst h) fun σ H Q ⟨F, G, δ, Qd, S, q, k⟩ => ⟨F, G, δ, _, S, q, fun vs H1 ⟨F1, G1, ds, s1, S1, r1, l, h1⟩ => ⟨by rw [r1.length]; exact l, fun p n =>
    k _ _ (.open (m := .lst ds) S1 s1 n ⟨vs, upd_same, r1⟩ (h1 p (S1.ds.noG n)))⟩⟩
/-- what was changed and is so no more: it is read as what it is worth -/
def dClose (t : TED) : TED := fun δ G Q => t δ G fun d G1 => ∃ a, d = .adr a ∧ match G1 a with | some (.lst ds) => Q (.lst ds) (delG G1 a) | some (.ins C fs) => Q (.ins C fs) (delG G1 a) | some (.dic kvs) => Q (.dic kvs) (delG G1 a) | _ => False
theorem Sit.close {σ : L2.St} {H F : Hp} {δ : SD} {G : Gm} {a : Addr} {m : MO} {o : HO} (S : Sit K B σ H F δ G) (g : G a = some m) (h : H a = some o) (nt : notT o := by exact trivial) : Sit K B σ H (upd F a o) δ (delG G a) ∧ Same F (upd F a o) :=
  have ⟨d1, s1⟩ := S.ds.close g h nt
  ⟨⟨d1, S.gr.trans s1, S.sl.mono s1⟩, s1⟩
theorem de_close (h : DE X B e te) : DE X B e (dClose te) :=
  PE.weak h fun σ H Q ⟨F, G, δ, Qd, S, q, k⟩ => ⟨F, G, δ, _, S, q, fun v H1 ⟨F1, G1, d, s1, S1, r1, a, ea, h1⟩ => by
    subst ea
    cases r1
    cases g : G1 a with
    | none =>
      rw [g] at h1
      exact h1.elim
    | some m =>
      rw [g] at h1
      have r := (S1.ds.mu a m g).2
      cases m with
      | lst ds =>
        obtain ⟨xs, e, r⟩ := r
        obtain ⟨S2, s2⟩ := S1.close g e
        exact k _ _ ⟨_, _, _, s1.trans s2, S2, .lst upd_same (r.mono s2), h1⟩
      | ins C fs =>
        obtain ⟨dx, fv, e, gc, na, r⟩ := r
        obtain ⟨S2, s2⟩ := S1.close g e
        exact k _ _ ⟨_, _, _, s1.trans s2, S2, .ins upd_same gc na (r.mono s2), h1⟩
      | dic kvs =>
        obtain ⟨ks, e, r⟩ := r
        obtain ⟨S2, s2⟩ := S1.close g e
        exact k _ _ ⟨_, _, _, s1.trans s2, S2, .dk (.of upd_same) (r.mono s2), h1⟩
      | dln hf kvs => exact h1.elim
      | pen m => exact h1.elim⟩
end
structure EndsD where
  nx : SD → Gm → Prop
  rt : QD
  bk : SD → Gm → Prop := fun _ _ => False
  ct : SD → Gm → Prop := fun _ _ => False
abbrev TSD := EndsD → SD → Gm → Prop
def BehS (K : PySem.W.Frag) (B : Bs) (F : Hp) (q : SD → Gm → Prop) (σ : L2.St) (H : Hp) : Prop := ∃ F' G' δ', Same F F' ∧ Sit K B σ H F' δ' G' ∧ q δ' G'
def BehR (K : PySem.W.Frag) (B : Bs) (F : Hp) (q : QD) (v : V) (H : Hp) : Prop := ∃ F' G' d, Same F F' ∧ DS K B.T F' H G' B.Z ∧ Same B.F F' ∧ Rep K F' v d ∧ q d G'
structure Low (K : PySem.W.Frag) (B : Bs) (F : Hp) (E : EndsD) (D : Ends) : Prop where
  nx : ∀ σ H, BehS K B F E.nx σ H → D.nx σ H
  rt : ∀ v H, BehR K B F E.rt v H → D.rt v H
  bk : ∀ σ H, BehS K B F E.bk σ H → D.bk σ H
  ct : ∀ σ H, BehS K B F E.ct σ H → D.ct σ H
section
variable {X : Cx} {B : Bs} {K : PySem.W.Frag}
theorem BehS.mono {F F' : Hp} {q : SD → Gm → Prop} {σ : L2.St} {H : Hp} (s : Same F F') (h : BehS K B F' q σ H) : BehS K B F q σ H := let ⟨F1, G, δ, s1, r⟩ := h; ⟨F1, G, δ, s.trans s1, r⟩
theorem BehR.mono {F F' : Hp} {q : QD} {v : V} {H : Hp} (s : Same F F') (h : BehR K B F' q v H) : BehR K B F q v H := let ⟨F1, G, δ, s1, r⟩ := h; ⟨F1, G, δ, s.trans s1, r⟩
theorem Low.mono {F F' : Hp} {E : EndsD} {D : Ends} (s : Same F F') (h : Low K B F E D) : Low K B F' E D :=
  ⟨fun σ H q => h.nx σ H (q.mono s), fun σ H q => h.rt σ H (q.mono s), fun σ H q => h.bk σ H (q.mono s), fun σ H q => h.ct σ H (q.mono s)⟩
def upS (K : PySem.W.Frag) (B : Bs) (T : TSD) : TS := fun D σ H => ∃ F G δ E, Sit K B σ H F δ G ∧ T E δ G ∧ Low K B F E D
def DSt (X : Cx) (B : Bs) (st : Stmt) (T : TSD) : Prop := PS X st (upS X.K B T)
def DB (X : Cx) (B : Bs) (st : List Stmt) (T : TSD) : Prop := PSs X st (upS X.K B T)
theorem PS.weak {e : Stmt} {t t' : TS} (h : PS X e t) (w : ∀ D σ H, t' D σ H → t D σ H) : PS X e t' := ⟨fun pins s σ H D I q => h.run pins s σ H D I (w _ _ _ q)⟩
theorem PSs.weak {e : List Stmt} {t t' : TS} (h : PSs X e t) (w : ∀ D σ H, t' D σ H → t D σ H) : PSs X e t' := ⟨fun pins s σ H D I q => h.run pins s σ H D I (w _ _ _ q)⟩
variable {st : Stmt} {rest : List Stmt} {t u : TSD} {e : Expr} {te : TED} {pos : Pos}
def dNext : TSD := fun E δ G => E.nx δ G
def dSeq (t u : TSD) : TSD := fun E δ G => t { E with nx := u E } δ G
theorem db_nil : DB X B [] dNext := PSs.weak pss_nil fun D σ H ⟨F, G, δ, E, S, h, L⟩ => L.nx σ H ⟨F, G, δ, .refl F, S, h⟩
theorem db_cons (h1 : DSt X B st t) (h2 : DB X B rest u) : DB X B (st :: rest) (dSeq t u) :=
  PSs.weak (pss_cons h1 h2) fun D σ H ⟨F, G, δ, E, S, h, L⟩ => ⟨F, G, δ, _, S, h, ⟨fun σ' H' ⟨F', G', δ', s', S', q'⟩ => ⟨F', G', δ', E, S', q', L.mono s'⟩, L.rt, L.bk, L.ct⟩⟩
theorem db_one (h1 : DSt X B st t) : DB X B [st] t := pss_one h1
def dDrop (te : TED) : TSD := fun E δ G => te δ G fun _ G1 => E.nx δ G1
theorem ds_expr (he : DE X B e te) (hs : swapsWith e none pos.line X.env = pure false := by rfl) : DSt X B (.Expr e pos) (dDrop te) :=
  PS.weak (ps_expr he hs) fun D σ H ⟨F, G, δ, E, S, h, L⟩ => ⟨F, G, δ, _, S, h, fun v H' ⟨F', G', d, s', S', r', q'⟩ => L.nx σ H' ⟨F', G', δ, s', S', q'⟩⟩
def dRet (te : TED) : TSD := fun E δ G => te δ G E.rt
theorem ds_ret (he : DE X B e te) : DSt X B (.Return (some e) pos) (dRet te) :=
  PS.weak (ps_ret he) fun D σ H ⟨F, G, δ, E, S, h, L⟩ => ⟨F, G, δ, _, S, h, fun v H' ⟨F', G', d, s', S', r', q'⟩ => L.rt v H' ⟨F', G', d, s', S'.ds, S'.gr, r', q'⟩⟩
def dIfS (c : TTD) (t u : TSD) : TSD := fun E δ G => c δ G fun b G1 => match b with | true => t E δ G1 | false => u E δ G1
theorem ds_if {c : Expr} {a b : List Stmt} {tc : TTD} (hc : DT X B c tc) (ha : DB X B a t) (hb : DB X B b u) : DSt X B (.If c a b pos) (dIfS tc t u) :=
  PS.weak (ps_if hc ha hb) fun D σ H ⟨F, G, δ, E, S, h, L⟩ => ⟨F, G, δ, _, S, h, fun b H' ⟨F', G', s', S', q'⟩ => by
    cases b with
    | true => exact ⟨F', G', δ, E, S', q', L.mono s'⟩
    | false => exact ⟨F', G', δ, E, S', q', L.mono s'⟩⟩
/-- targets -/
abbrev TGD := D → SD → Gm → (SD → Gm → Prop) → Prop
def upG (K : PySem.W.Frag) (B : Bs) (T : TGD) : TG := fun v σ H Q => ∃ F G δ d Qd, Sit K B σ H F δ G ∧ Rep K F v d ∧ T d δ G Qd ∧ ∀ σ' H', BehS K B F Qd σ' H' → Q σ' H'
def DG (X : Cx) (B : Bs) (tg : Expr) (T : TGD) : Prop := PG X tg (upG X.K B T)
theorem PG.weak {e : Expr} {t t' : TG} (h : PG X e t) (w : ∀ v σ H Q, t' v σ H Q → t v σ H Q) : PG X e t' := ⟨fun pins s σ H v u Q I r q => h.run pins s σ H v u Q I r (w _ _ _ _ q)⟩
def gNameD (i : Nat) : TGD := fun d δ G Q => Q (δ.set i (some d)) G
theorem Sit.set {σ : L2.St} {H F : Hp} {δ : SD} {G : Gm} {v : V} {d : D} (S : Sit K B σ H F δ G) (i : Nat) (r : Rep K F v d) : Sit K B (σ.set i (some v)) H F (δ.set i (some d)) G := ⟨S.ds, S.gr, S.sl.set i r⟩
theorem dg_name {i : Nat} {x : Str} (hN : X.N.Nodup) (hi : X.N[i]? = some x) (hx : Loc X.env.scope x) (hf : X.fn x = true ∨ X.env.scope.names.lookup x = some .local := by first | exact .inl rfl | exact .inr rfl | assumption) : DG X B (.Name x pos) (gNameD i) :=
  PG.weak (pg_name hN hi hx hf) fun v σ H Q ⟨F, G, δ, d, Qd, S, r, h, k⟩ => k _ _ ⟨F, G, _, .refl F, S.set i r, h⟩
def dAsg (te : TED) (g : TGD) : TSD := fun E δ G => te δ G fun d G1 => g d δ G1 E.nx
end
end JP
namespace JP
open PySem PySem.Spec PyProof.Rows L2
section
variable {X : Cx} {B : Bs} {K : PySem.W.Frag} {e : Expr} {te : TED} {pos : Pos}
theorem ds_set {i : Nat} {x : Str} {pos' : Pos} (hN : X.N.Nodup) (hi : X.N[i]? = some x) (hx : Loc X.env.scope x) (he : DE X B e te) (hs : swapsWith e (some (.Name x pos')) pos.line X.env = pure false := by rfl) (hf : X.fn x = true ∨ X.env.scope.names.lookup x = some .local := by first | exact .inl rfl | exact .inr rfl | assumption) :
    DSt X B (.Assign [.Name x pos'] e pos) (dAsg te (gNameD i)) :=
  PS.weak (ps_set hN hi hx he hs hf) fun D σ H ⟨F, G, δ, E, S, h, L⟩ => ⟨F, G, δ, _, S, h, fun v H' ⟨F', G', d, s', S', r', q'⟩ => L.nx _ _ ⟨F', G', _, s', S'.set i r', q'⟩⟩
structure ItD (K : PySem.W.Frag) (F : Hp) (J : L2.It) (ds : List D) : Prop where
  go : ∀ i H, i < ds.length → Same F H → J.go i H
  stop : ∀ H, Same F H → J.stop ds.length H
  yld : ∀ i H x H', i < ds.length → Same F H → J.yld i H x H' → ∀ (B : Bs) σ δ G F1, Sit K B σ H F1 δ G → Same F F1 → ∃ F2 d, Same F1 F2 ∧ Sit K B σ H' F2 δ G ∧ ds[i]? = some d ∧ Rep K F2 x d
abbrev TID := SD → Gm → (List D → Gm → Prop) → Prop
def upI (K : PySem.W.Frag) (B : Bs) (T : TID) : TI := fun σ H R => ∃ F G δ Qd, Sit K B σ H F δ G ∧ T δ G Qd ∧ ∀ J H', (∃ F' G' ds, Same F F' ∧ Sit K B σ H' F' δ G' ∧ ItD K F' J ds ∧ Qd ds G') → R J H'
def DI (X : Cx) (B : Bs) (tg iter : Expr) (T : TID) : Prop := PI X tg iter (upI X.K B T)
theorem PI.weak {tg e : Expr} {t t' : TI} (h : PI X tg e t) (w : ∀ σ H Q, t' σ H Q → t σ H Q) : PI X tg e t' := ⟨fun pins s σ H Q I q => h.run pins s σ H Q I (w _ _ _ q)⟩
theorem itD_list {F : Hp} {a : Addr} {xs : List V} {ds : List D} (h : SqL K F a xs) (r : RepAll K F xs ds) : ItD K F (Itl K a) ds :=
  ⟨fun i H hi s => by
    have l := r.length
    exact ⟨xs, xs[i]'(by omega), same_seqL' s h, by simp [show i < xs.length by omega]⟩, fun H s => ⟨xs, same_seqL' s h, by rw [r.length]; exact Nat.le_refl _⟩, fun i H x H' hi s y B σ δ G F1 S s1 => by
    obtain ⟨rfl, y⟩ := y
    obtain ⟨d, hd, rd⟩ := r.get' (y xs (same_seqL' s h))
    exact ⟨F1, d, .refl F1, S, hd, rd.mono s1⟩⟩
theorem itD_tup {F : Hp} {a : Addr} {xs : List V} {ds : List D} (h : SqT K F a xs) (r : RepAll K F xs ds) : ItD K F (Itt K a) ds :=
  ⟨fun i H hi s => by
    have l := r.length
    exact ⟨xs, xs[i]'(by omega), same_seqT s h, by simp [show i < xs.length by omega]⟩, fun H s => ⟨xs, same_seqT s h, by rw [r.length]; exact Nat.le_refl _⟩, fun i H x H' hi s y B σ δ G F1 S s1 => by
    obtain ⟨rfl, y⟩ := y
    obtain ⟨d, hd, rd⟩ := r.get' (y xs (same_seqT s h))
    exact ⟨F1, d, .refl F1, S, hd, rd.mono s1⟩⟩
def iListD (te : TED) : TID := fun δ G R => te δ G fun d G1 => match d with | .lst ds => R ds G1 | _ => False
def iTupD (te : TED) : TID := fun δ G R => te δ G fun d G1 => match d with | .tup ds => R ds G1 | _ => False
theorem di_list {tg : Expr} (h : DE X B e te) : DI X B tg e (iListD te) :=
  PI.weak (pi_list h) fun σ H R ⟨F, G, δ, Qd, S, h, k⟩ => ⟨F, G, δ, _, S, h, fun v H1 ⟨F1, G1, d, s1, S1, r1, h1⟩ => by
    cases d with
    | lst ds =>
      cases r1 with
      | lst hq ra => exact ⟨_, rfl, ⟨_, SqL.of (S1.ds.sub _ _ hq)⟩, k _ _ ⟨F1, G1, ds, s1, S1, itD_list (.of hq) ra, h1⟩⟩
    | _ => exact h1.elim⟩
theorem di_tup {tg : Expr} (h : DE X B e te) : DI X B tg e (iTupD te) :=
  PI.weak (pi_tup h) fun σ H R ⟨F, G, δ, Qd, S, h, k⟩ => ⟨F, G, δ, _, S, h, fun v H1 ⟨F1, G1, d, s1, S1, r1, h1⟩ => by
    cases d with
    | tup ds =>
      cases r1 with
      | tup hq ra => exact ⟨_, rfl, ⟨_, SqT.of (S1.ds.sub _ _ hq)⟩, k _ _ ⟨F1, G1, ds, s1, S1, itD_tup (.of hq) ra, h1⟩⟩
    | _ => exact h1.elim⟩
def rangeD (lo : Int) (n : Nat) : List D := (List.range n).map fun (i : Nat) => .int (lo + i)
theorem itD_range {F : Hp} (lo : Int) (n : Nat) : ItD K F (Itr lo n) (rangeD lo n) := by
  have l : (rangeD lo n).length = n := by simp [rangeD]
  refine ⟨fun i H hi _ => by rw [l] at hi; exact hi, fun H _ => by rw [l]; exact Nat.le_refl n, fun i H x H' hi s y B σ δ G F1 S s1 => ?_⟩
  obtain ⟨rfl, rfl⟩ := y
  rw [l] at hi
  exact ⟨F1, .int (lo + i), .refl F1, S, by simp [rangeD, hi], .int _⟩
def iRange1D (ta : TAD) : TID := fun δ G R => ta δ G fun ds G1 => match ds with | [.int j] => (-(2 ^ 62) ≤ j ∧ j < 2 ^ 62) ∧ R (rangeD 0 j.toNat) G1 | _ => False
theorem di_range1 {tg a : Expr} {ta : TAD} {p pos : Pos} (hg : Gl X "range") (hm : X.mg "range" = none) (ha : DA X B [a] ta) (hs : starEach [a] X.env = [(false, eval a X.env)] := by rfl) : DI X B tg (.Call (.Name "range" p) [a] [] pos) (iRange1D ta) :=
  PI.weak (pi_range1 hg hm ha hs) fun σ H R ⟨F, G, δ, Qd, S, h, k⟩ => ⟨F, G, δ, _, S, h, fun vs H1 ⟨F1, G1, ds, s1, S1, r1, h1⟩ => by
    match ds, r1, h1 with
    | [.int j], .cons r .nil, h1 =>
      cases r
      exact ⟨j, rfl, h1.1.1, h1.1.2, k _ _ ⟨F1, G1, _, s1, S1, itD_range 0 _, h1.2⟩⟩⟩
def forD (g : TGD) (tb : TSD) (E : EndsD) : List D → SD → Gm → Prop
  | [] => fun δ G => E.nx δ G
  | d :: ds => fun δ G => g d δ G fun δ1 G1 => tb { nx := forD g tb E ds, rt := E.rt, bk := E.nx, ct := forD g tb E ds } δ1 G1
def dFor (ti : TID) (g : TGD) (tb : TSD) : TSD := fun E δ G => ti δ G fun ds G1 => forD g tb E ds δ G1
theorem drop_get {α : Type} {ds : List α} {i : Nat} {d : α} (h : ds[i]? = some d) : ds.drop i = d :: ds.drop (i + 1) := by
  have hi : i < ds.length := (List.getElem?_eq_some_iff.mp h).1
  rw [List.drop_eq_getElem_cons hi]
  rw [List.getElem?_eq_getElem hi] at h
  cases h
  rfl
theorem ds_for {tg iter : Expr} {body : List Stmt} {ti : TID} {g : TGD} {tb : TSD} (hp : PassesOwn (model X.prog X.w) X.A X.env X.xe) (hc : X.calm = true) (hi : DI X B tg iter ti) (hg : DG X B tg g) (hb : DB X B body tb)
    (hs : ∀ x, foldedSetIterable iter X.env x = pure x := by intro _; rfl) : DSt X B (.For tg iter body [] pos) (dFor ti g tb) :=
  PS.weak (ps_for hp hc hi hg hb hs) fun D σ H ⟨F, G, δ, E, S, h, L⟩ => ⟨F, G, δ, _, S, h, fun J H1 ⟨F1, G1, ds, s1, S1, it, h1⟩ => by
    refine ⟨fun i m σ' H' => m = ds.length - i ∧ i ≤ ds.length ∧ ∃ F' G' δ', Same F1 F' ∧ Sit X.K B σ' H' F' δ' G' ∧ forD g tb E (ds.drop i) δ' G', ⟨ds.length, by simp, Nat.zero_le _, F1, G1, δ, .refl F1, S1, h1⟩, ?_⟩
    rintro i m σ2 H2 ⟨rfl, hi, F2, G2, δ2, s2, S2, h2⟩
    have sh : Same F1 H2 := s2.trans S2.ds.sub
    rcases Nat.lt_or_ge i ds.length with hlt | hge
    · refine .inr ⟨it.go i H2 hlt sh, fun σ' H' => ∃ F' G' δ', Same F1 F' ∧ Sit X.K B σ' H' F' δ' G' ∧ forD g tb E (ds.drop (i + 1)) δ' G', fun σ' H' q => ⟨ds.length - (i + 1), by omega, rfl, hlt, q⟩, fun x H3 y => ?_⟩
      obtain ⟨F3, d, s3, S3, hd, rd⟩ := it.yld i H2 x H3 hlt sh y B σ2 δ2 G2 F2 S2 s2
      rw [drop_get hd] at h2
      refine ⟨F3, G2, δ2, d, _, S3, rd, h2, fun σ4 H4 ⟨F4, G4, δ4, s4, S4, h4⟩ => ⟨F4, G4, δ4, _, S4, h4, ?_⟩⟩
      have st : Same F1 F4 := (s2.trans s3).trans s4
      exact ⟨fun σ' H' ⟨F', G', δ', s', S', q⟩ => ⟨F', G', δ', st.trans s', S', q⟩, fun v H' q => L.rt v H' (q.mono (s1.trans st)), fun σ' H' q => L.nx σ' H' (BehS.mono (s1.trans st) q), fun σ' H' ⟨F', G', δ', s', S', q⟩ => ⟨F', G', δ', st.trans s', S', q⟩⟩
    · have e : i = ds.length := by omega
      subst e
      rw [List.drop_length] at h2
      exact .inl ⟨it.stop H2 sh, L.nx _ _ ⟨F2, G2, δ2, s1.trans s2, S2, h2⟩⟩⟩
def wipeD (δ : SD) : List Nat → SD
  | [] => δ
  | v :: vs => (wipeD δ vs).set v none
theorem Sl.wipe {F : Hp} {σ : L2.St} {δ : SD} (h : Sl K F σ δ) : ∀ vs : List Nat, Sl K F (wipe σ vs) (wipeD δ vs)
  | [] => h
  | v :: vs => (Sl.wipe h vs).drop v none
/-- a target within a comprehension -/
def CG (K : PySem.W.Frag) (vs : List Nat) (g : TG) (gD : TGD) : Prop := ∀ (B : Bs) (σ : L2.St) (H F : Hp) (δ : SD) (G : Gm) (v : V) (d : D) (Qd : SD → Gm → Prop) (Q : L2.St → Hp → Prop), Sit K B σ H F δ G → Rep K F v d → gD d δ G Qd →
  (∀ σ' δ', wipe σ' vs = wipe σ vs → Sit K B σ' H F δ' G → Qd δ' G → Q σ' H) → g v σ H Q
theorem wipe_set {i : Nat} {o : Option V} : ∀ {vs : List Nat} {σ : L2.St}, i ∈ vs → wipe (σ.set i o) vs = wipe σ vs
  | [], _, h => by simp at h
  | v :: vs, σ, h => by
    by_cases c : i ∈ vs
    · show (wipe (σ.set i o) vs).set v none = (wipe σ vs).set v none
      rw [wipe_set c]
    · have e : i = v := by
        rcases List.mem_cons.mp h with h | h
        · exact h
        · exact absurd h c
      subst e
      have : ∀ {us : List Nat}, i ∉ us → wipe (σ.set i o) us = (wipe σ us).set i o := by
        intro us
        induction us with
        | nil => intro _; rfl
        | cons u us ih =>
          intro hu
          have h1 : i ≠ u := fun z => hu (z ▸ List.mem_cons_self)
          have h2 : i ∉ us := fun z => hu (List.mem_cons_of_mem _ z)
          show (wipe (σ.set i o) us).set u none = ((wipe σ us).set u none).set i o
          rw [ih h2, List.set_comm _ _ h1]
      show (wipe (σ.set i o) vs).set i none = (wipe σ vs).set i none
      rw [this c, List.set_set]
theorem cg_name {vs : List Nat} {i : Nat} (h : i ∈ vs) : CG K vs (gName i) (gNameD i) := fun B σ H F δ G v d Qd Q S r q k => k _ _ (wipe_set h) (S.set i r) q
def lcD (g : TGD) (tt : TTD) (te : TED) (Fin : List D → Gm → Prop) (δ : SD) : List D → List D → Gm → Prop
  | [], acc, G => Fin acc G
  | d :: ds, acc, G => g d δ G fun δ1 G1 => tt δ1 G1 fun b G2 => match b with | true => te δ1 G2 fun y G3 => lcD g tt te Fin δ ds (acc ++ [y]) G3 | false => lcD g tt te Fin δ ds acc G2
/-- one more, all of it within what a list holds -/
def dLcF (ti : TID) (g : TGD) (tt : TTD) (te : TED) (vs : List Nat) (Fin : QD → List D → Gm → Prop) : TED := fun δ G Q => ti δ G fun ds G1 => ds.length < sizeLine ∧ lcD g tt te (Fin Q) (wipeD δ vs) ds [] G1
abbrev finL : QD → List D → Gm → Prop := fun Q acc G => Q (.lst acc) G
/-- what is made of the list in the end -/
def FinA (K : PySem.W.Frag) (Fin : QD → List D → Gm → Prop) : Prop := ∀ (B : Bs) (σ : L2.St) (δ : SD) (F F3 H3 : Hp) (G3 : Gm) (acc : List D) (av : List V) (D : Addr) (Qd : QD), Same F F3 → Sit K B σ H3 F3 δ G3 → H3 D = some (.lst av) → F3 D = none → G3 D = none → B.Z D = none → RepAll K F3 av acc → Fin Qd acc G3 → Beh K B σ F δ Qd (.ref D) H3
theorem finA_l : FinA K finL := fun B σ δ F F3 H3 G3 acc av D Qd s S h f g z ra q => by
  obtain ⟨d3, s3⟩ := S.ds.frz h g z
  exact ⟨_, G3, .lst acc, s.trans s3, ⟨d3, S.gr.trans s3, S.sl.mono s3⟩, .lst upd_same (ra.mono s3), q⟩
def dYes : TTD := fun _ G Q => Q true G
def DTs (X : Cx) (B : Bs) (ifs : List Expr) (T : TTD) : Prop := PTs X ifs (upT X.K B T)
theorem dts_nil : DTs X B [] dYes := ⟨fun pins s σ H Q I h => pts_nil.run pins s σ H Q I (let ⟨F, G, δ, Qd, S, h, k⟩ := h; k true H ⟨F, G, .refl F, S, h⟩)⟩
def upU (K : PySem.W.Frag) (T : TED) : TE := fun σ H Q => ∃ B, up K B T σ H Q
def upTU (K : PySem.W.Frag) (T : TTD) : TT := fun σ H Q => ∃ B, upT K B T σ H Q
/-- what a comprehension's reading comes to -/
theorem lc_adeq {ti : TID} {gV : TG} {g : TGD} {tt : TTD} {te : TED} {vs : List Nat} {Fin : QD → List D → Gm → Prop} (fin : FinA K Fin) (hg : CG K vs gV g) (σ : L2.St) (H : Hp) (Q : VK) (h : up K B (dLcF ti g tt te vs Fin) σ H Q) : tLc (upI K B ti) gV (upTU K tt) (upU K te) vs σ H Q := by
  obtain ⟨F, G, δ, Qd, S, h, k⟩ := h
  refine ⟨F, G, δ, _, S, h, fun J H1 ⟨F1, G1, ds, s1, S1, it, hz, h1⟩ D nD => ?_⟩
  have fD : F1 D = none := S1.ds.noF nD
  have zD : B.Z D = none := S1.ds.noZ nD
  refine ⟨fun i m H' => m = ds.length - i ∧ i ≤ ds.length ∧ ∃ F' G' acc av, Same F1 F' ∧ F' D = none ∧ G' D = none ∧ H' D = some (.lst av) ∧ RepAll K F' av acc ∧ acc.length ≤ i ∧ Sit K B σ H' F' δ G' ∧ lcD g tt te (Fin Qd) (wipeD δ vs) (ds.drop i) acc G',
    ⟨ds.length, by simp, Nat.zero_le _, F1, G1, [], [], .refl F1, fD, S1.ds.noG nD, upd_same, .nil, Nat.le_refl _, S1.same (same_new nD), h1⟩, ?_⟩
  rintro i m H2 ⟨rfl, hi, F2, G2, acc, av, s2, f2, g2, h2D, ra, la, S2, h2⟩
  have sh : Same F1 H2 := s2.trans S2.ds.sub
  rcases Nat.lt_or_ge i ds.length with hlt | hge
  · refine .inr ⟨it.go i H2 hlt sh, fun H' => ∃ F' G' acc av, Same F1 F' ∧ F' D = none ∧ G' D = none ∧ H' D = some (.lst av) ∧ RepAll K F' av acc ∧ acc.length ≤ i + 1 ∧ Sit K B σ H' F' δ G' ∧ lcD g tt te (Fin Qd) (wipeD δ vs) (ds.drop (i + 1)) acc G', fun H' q => ⟨ds.length - (i + 1), by omega, rfl, hlt, q⟩, fun x H3 y => ?_⟩
    -- the new list stays through the turn
    obtain ⟨F3, d, s3, S3, hd, rd⟩ := it.yld i H2 x H3 hlt sh y ⟨F1, upd B.Z D (.lst av), B.T⟩ σ δ G2 F2 ⟨S2.ds.zadd h2D f2 g2 trivial, s2, S2.sl⟩ s2
    rw [drop_get hd] at h2
    have Sw : Sit K ⟨F1, upd B.Z D (.lst av), B.T⟩ (wipe σ vs) H3 F3 (wipeD δ vs) G2 := ⟨S3.ds, S3.gr, S3.sl.wipe vs⟩
    refine hg _ _ _ _ _ _ _ _ _ _ Sw rd h2 fun σ4 δ4 e4 S4 h4 => ⟨?_, ⟨F1, upd B.Z D (.lst av), B.T⟩, F3, G2, δ4, _, S4, h4, fun b H5 ⟨F5, G5, s5, S5, h5⟩ => ?_⟩
    · have ww : ∀ (us : List Nat) (σ : L2.St), (∀ u ∈ us, u ∈ vs) → wipe (wipe σ us) vs = wipe σ vs := by
        intro us
        induction us with
        | nil => intro σ _; rfl
        | cons u us ih =>
          intro σ hu
          show wipe ((wipe σ us).set u none) vs = wipe σ vs
          rw [wipe_set (hu u List.mem_cons_self)]
          exact ih σ fun v hv => hu v (List.mem_cons_of_mem _ hv)
      exact e4.trans (ww vs σ fun u hu => hu)
    · cases b with
      | false =>
        obtain ⟨d5, h5D, f5, g5⟩ := S5.ds.zdel zD
        exact ⟨F5, G5, acc, av, (s2.trans s3).trans s5, f5, g5, h5D, ra.mono (s3.trans s5), by omega, ⟨d5, S2.gr.trans (s3.trans s5), S2.sl.mono (s3.trans s5)⟩, h5⟩
      | true =>
        refine ⟨⟨F1, upd B.Z D (.lst av), B.T⟩, F5, G5, δ4, _, S5, h5, fun y H6 ⟨F6, G6, dy, s6, S6, r6, h6⟩ => ?_⟩
        obtain ⟨d6, h6D, f6, g6⟩ := S6.ds.zdel zD
        have st := (s3.trans s5).trans s6
        refine ⟨av, h6D, by rw [ra.length]; omega, F6, G6, acc ++ [dy], av ++ [y], s2.trans st, f6, g6, upd_same, (ra.mono st).append (.cons r6 .nil), by simp; omega, ⟨d6.other h6D f6 g6 zD, S2.gr.trans st, S2.sl.mono st⟩, h6⟩
  · have e : i = ds.length := by omega
    subst e
    rw [List.drop_length] at h2
    exact .inl ⟨it.stop H2 sh, k _ _ (fin B σ δ F F2 H2 G2 acc av D Qd (s1.trans s2) S2 h2D f2 g2 zD ra h2)⟩
section
variable {elt tg iter : Expr} {ifs : List Expr} {scope : Scope} {own : List (Str × Nat)} {ti : TID} {gV : TG} {g : TGD} {tt : TTD} {te : TED}
theorem de_lcF {Fin : QD → List D → Gm → Prop} (fin : FinA X.K Fin) (hc : X.calm = true) (hN : X.N.Nodup) (hi : DI X B tg iter ti) (ok : BlkOk X.N X.env.scope scope own)
    (hcg : CG X.K (own.map (·.2)) gV g)
    (hg : ∀ (s : Shared) (H : Hp) (C : Addr) (cl : List (Str × Addr)) (fp : List Addr), PG (X.blk s H scope (compEnvC scope cl C X.env) fp) tg gV)
    (ht : ∀ (s : Shared) (H : Hp) (C : Addr) (cl : List (Str × Addr)) (fp : List Addr) (B : Bs), DTs (X.blk s H scope (compEnvC scope cl C X.env) fp) B ifs tt)
    (he : ∀ (s : Shared) (H : Hp) (C : Addr) (cl : List (Str × Addr)) (fp : List Addr) (B : Bs), DE (X.blk s H scope (compEnvC scope cl C X.env) fp) B elt te) (hs : ∀ x, foldedSetIterable iter X.env x = pure x := by intro _; rfl) :
    DE X B (.ListComp elt [⟨tg, iter, ifs, 0⟩] scope pos) (dLcF ti g tt te (own.map (·.2)) Fin) :=
  PE.weak (pe_lc hc hN hi ok hg (fun s H C cl fp => ⟨fun pins s σ H Q I ⟨B, h⟩ => (ht _ _ C cl fp B).run pins s σ H Q I h⟩) (fun s H C cl fp => ⟨fun pins s σ H Q I ⟨B, h⟩ => (he _ _ C cl fp B).run pins s σ H Q I h⟩) hs) fun σ H Q h => lc_adeq fin hcg σ H Q h
theorem ds_setLcF {Fin : QD → List D → Gm → Prop} (fin : FinA X.K Fin) {i : Nat} {y : Str} {py spos : Pos} (hc : X.calm = true) (hN : X.N.Nodup) (hy : X.N[i]? = some y) (hyl : X.env.scope.names.lookup y = some .local)
    (hsw : swapsWith (.ListComp elt [⟨tg, iter, ifs, 0⟩] scope pos) (some (.Name y py)) spos.line X.env = pure true) (hi : DI X B tg iter ti) (ok : BlkOk X.N X.env.scope scope own)
    (hcg : CG X.K (own.map (·.2)) gV g)
    (hg : ∀ (s : Shared) (H : Hp) (C : Addr) (cl : List (Str × Addr)) (fp : List Addr), PG (X.blk s H scope (compEnvC scope cl C X.env) fp) tg gV)
    (ht : ∀ (s : Shared) (H : Hp) (C : Addr) (cl : List (Str × Addr)) (fp : List Addr) (B : Bs), DTs (X.blk s H scope (compEnvC scope cl C X.env) fp) B ifs tt)
    (he : ∀ (s : Shared) (H : Hp) (C : Addr) (cl : List (Str × Addr)) (fp : List Addr) (B : Bs), DE (X.blk s H scope (compEnvC scope cl C X.env) fp) B elt te) (hs : ∀ x, foldedSetIterable iter X.env x = pure x := by intro _; rfl) :
    DSt X B (.Assign [.Name y py] (.ListComp elt [⟨tg, iter, ifs, 0⟩] scope pos) spos) (dAsg (dLcF ti g tt te (own.map (·.2)) Fin) (gNameD i)) :=
  PS.weak (ps_setLc hc hN hy hyl hsw hi ok hg (fun s H C cl fp => ⟨fun pins s σ H Q I ⟨B, h⟩ => (ht _ _ C cl fp B).run pins s σ H Q I h⟩) (fun s H C cl fp => ⟨fun pins s σ H Q I ⟨B, h⟩ => (he _ _ C cl fp B).run pins s σ H Q I h⟩) hs) fun D σ H ⟨F, G, δ, E, S, h, L⟩ =>
    lc_adeq fin hcg σ H _ ⟨F, G, δ, _, S, h, fun v H' ⟨F', G', d, s', S', r', q'⟩ => L.nx _ _ ⟨F', G', _, s', S'.set i r', q'⟩⟩
end
end
end JP
namespace JP
open PySem PySem.Spec PyProof.Rows L2
/-- what is wished of an exception: its class, its fields -/
abbrev WD := Addr → List (Str × D) → Gm → Prop
abbrev WN : WD := fun _ _ _ => False
abbrev SpD := List D → Gm → QD → WD → Prop
def XRep (K : PySem.W.Frag) (F : Hp) (dd : Option Addr) (fs : List (Str × D)) : Prop := (dd = none ∧ fs = []) ∨ ∃ a fv, dd = some a ∧ F a = some (.xd fv) ∧ RepF K F fv fs
def XW (K : PySem.W.Frag) (B : Bs) (W : WD) : XK := fun cls dd H => ∃ F G C fs, cls = .ref C ∧ Same B.F F ∧ DS K B.T F H G B.Z ∧ XRep K F dd fs ∧ W C fs G
def lowSp (K : PySem.W.Frag) (sp : SpD) : Sp := fun vs H Q E => ∃ (B : Bs) (G : Gm) (ds : List D) (Qd : QD) (W : WD), DS K B.T B.F H G B.Z ∧ RepAll K B.F vs ds ∧ sp ds G Qd W ∧ (∀ v H', BehR K B B.F Qd v H' → Q v H') ∧ (∀ cls dd H', XW K B W cls dd H' → E cls dd H')
abbrev FnD (P : Program) (w : World) (K : PySem.W.Frag) (mg : Str → Option Value) (base : Heap) (k : Nat) (f : Addr) (fd : FuncData) (ps : List Str) (sp : SpD) : Prop := FnOk P w K mg base (L2.CX P w) k f fd ps (lowSp K sp)
abbrev GnD (P : Program) (w : World) (K : PySem.W.Frag) (mg : Str → Option Value) (base : Heap) (k : Nat) (f : Addr) (fd : FuncData) (ps : List Str) (sp : SpD) : Prop := GOk P w K mg base k f fd ps (lowSp K sp)
def startD (N : List Str) (ds : List D) : SD := ds.map some ++ List.replicate (N.length - ds.length) none
theorem sl_start {K : PySem.W.Frag} {F : Hp} {N : List Str} {vs : List V} {ds : List D} (r : RepAll K F vs ds) : Sl K F (L2.start N vs) (startD N ds) := by
  have l := r.length
  refine ⟨by simp [L2.start, startD, l], fun i d e => ?_⟩
  unfold startD at e
  unfold L2.start
  rcases Nat.lt_or_ge i ds.length with h | h
  · rw [List.getElem?_append_left (by simpa using h), List.getElem?_map] at e
    obtain ⟨d', e1, e2⟩ := Option.map_eq_some_iff.mp e
    cases e2
    obtain ⟨v, ev, rv⟩ := r.get e1
    exact ⟨v, by rw [List.getElem?_append_left (by simp; omega), List.getElem?_map, ev]; rfl, rv⟩
  · rw [List.getElem?_append_right (by simpa using h)] at e
    rw [List.getElem?_replicate] at e
    split at e <;> cases e
section
variable {P : Program} {w : World} {K : PySem.W.Frag} {mg : Str → Option Value} {base : Heap} {k : Nat} {f : Addr} {fd : FuncData} {ps N : List Str} {sp : SpD}
theorem FnD.arity (F : FnD P w K mg base k f fd ps sp) {ds : List D} {G : Gm} {Q : QD} {W : WD} {B : Bs} {H : Hp} {vs : List V} (d : DS K B.T B.F H G B.Z) (r : RepAll K B.F vs ds) (h : sp ds G Q W) : vs.length = ps.length :=
  F.len vs H (fun _ _ => True) (fun _ _ _ => True) ⟨B, G, ds, Q, W, d, r, h, fun _ _ _ => trivial, fun _ _ _ _ => trivial⟩
/-- a def of the text by its body -/
theorem dfn {x qual : Str} {st : Stmt} (F : Fun K x qual st f fd) (S : FnScope N ps (defScope st)) (len : ∀ ds G Q W, sp ds G Q W → ds.length = ps.length)
    (body : ∀ (cdv : Value) (A : Around) (outer : List Env) (s : Shared) (H : Hp) (E : XK) (B : Bs) (W : WD), Room k (A.deeper (envOfC qual (defScope st) s.heap.objs.size f cdv)) →
      Takes (cxOf (L2.CX P w) P w K mg base N qual (defScope st) f cdv A outer s H E) (fun cls d _ H => XW K B W cls d H) →
      ∃ T, DB (cxOf (L2.CX P w) P w K mg base N qual (defScope st) f cdv A outer s H E) B (defBody st) T ∧ ∀ ds G Q, sp ds G Q W → T { nx := fun _ G => Q .non G, rt := Q } (startD N ds) G) :
    FnD P w K mg base (k + 1) f fd ps sp :=
  F.okX S (fun vs H Q E ⟨B, G, ds, Qd, W, d, r, h, _, _⟩ => r.length.trans (len ds G Qd W h)) fun cdv A outer s H vs Q E hr ⟨B, G, ds, Qd, W, d, r, h, kq, ke⟩ => by
    obtain ⟨T, hT, hq⟩ := body cdv A outer s H E B W hr ((takes_of rfl rfl rfl rfl).imp fun c d _ H q => ke c d H q)
    refine ⟨upS K B T, hT, B.F, G, startD N ds, _, ⟨d, .refl B.F, sl_start r⟩, hq ds G Qd h, ⟨fun σ H' ⟨F', G', δ', s', S', q⟩ => kq _ _ ⟨F', G', .non, s', S'.ds, S'.gr, .non, q⟩, fun v H' q => kq v H' q, fun _ _ ⟨_, _, _, _, _, q⟩ => q.elim, fun _ _ ⟨_, _, _, _, _, q⟩ => q.elim⟩⟩
/-- with defaults -/
theorem dfnD {x qual : Str} {pm : Arguments} {bd : List Stmt} {sc : Scope} {dvs : List V} {kws : List (Str × V)} (F : FunD K x qual pm bd sc dvs kws f fd) (S : FnScope N ps sc) (len : ∀ ds G Q W, sp ds G Q W → ds.length = ps.length)
    (body : ∀ (cdv : Value) (A : Around) (outer : List Env) (s : Shared) (H : Hp) (E : XK) (B : Bs) (W : WD), Room k (A.deeper (envOfC qual sc s.heap.objs.size f cdv)) →
      Takes (cxOf (L2.CX P w) P w K mg base N qual sc f cdv A outer s H E) (fun cls d _ H => XW K B W cls d H) →
      ∃ T, DB (cxOf (L2.CX P w) P w K mg base N qual sc f cdv A outer s H E) B bd T ∧ ∀ ds G Q, sp ds G Q W → T { nx := fun _ G => Q .non G, rt := Q } (startD N ds) G) :
    FnD P w K mg base (k + 1) f fd ps sp :=
  F.ok (CX := L2.CX P w) S (fun vs H Q E ⟨B, G, ds, Qd, W, d, r, h, _, _⟩ => r.length.trans (len ds G Qd W h)) fun cdv A outer s H vs Q E hr ⟨B, G, ds, Qd, W, d, r, h, kq, ke⟩ => by
    obtain ⟨T, hT, hq⟩ := body cdv A outer s H E B W hr ((takes_of rfl rfl rfl rfl).imp fun c d _ H q => ke c d H q)
    refine ⟨upS K B T, hT, B.F, G, startD N ds, _, ⟨d, .refl B.F, sl_start r⟩, hq ds G Qd h, ⟨fun σ H' ⟨F', G', δ', s', S', q⟩ => kq _ _ ⟨F', G', .non, s', S'.ds, S'.gr, .non, q⟩, fun v H' q => kq v H' q, fun _ _ ⟨_, _, _, _, _, q⟩ => q.elim, fun _ _ ⟨_, _, _, _, _, q⟩ => q.elim⟩⟩
/-- a def that is called where no repr goes on, and lets nothing out -/
theorem dfg {x qual : Str} {st : Stmt} (F : Fun K x qual st f fd) (S : FnScope N ps (defScope st)) (len : ∀ ds G Q W, sp ds G Q W → ds.length = ps.length)
    (body : ∀ (cdv : Value) (A : Around) (outer : List Env) (s : Shared) (H : Hp) (E : XK) (B : Bs), A.guards = some [] → Room k (A.deeper (envOfC qual (defScope st) s.heap.objs.size f cdv)) →
      ∃ T, DB (cxOf CX0 P w K mg base N qual (defScope st) f cdv A outer s H E).nox B (defBody st) T ∧ ∀ ds G Q W, sp ds G Q W → T { nx := fun _ G => Q .non G, rt := Q } (startD N ds) G) :
    GnD P w K mg base (k + 1) f fd ps sp :=
  gok F S (fun vs H Q E ⟨B, G, ds, Qd, W, d, r, h, _, _⟩ => r.length.trans (len ds G Qd W h)) fun cdv A outer s H vs Q E g hr ⟨B, G, ds, Qd, W, d, r, h, kq, ke⟩ => by
    obtain ⟨T, hT, hq⟩ := body cdv A outer s H E B g hr
    refine ⟨upS K B T, hT, B.F, G, startD N ds, _, ⟨d, .refl B.F, sl_start r⟩, hq ds G Qd W h, ⟨fun σ H' ⟨F', G', δ', s', S', q⟩ => kq _ _ ⟨F', G', .non, s', S'.ds, S'.gr, .non, q⟩, fun v H' q => kq v H' q, fun _ _ ⟨_, _, _, _, _, q⟩ => q.elim, fun _ _ ⟨_, _, _, _, _, q⟩ => q.elim⟩⟩
end
section
variable {X : Cx} {B : Bs} {K : PySem.W.Frag} {W : WD}
/-- what a callee may let out is taken -/
theorem hx_of (tk : Takes X fun cls d _ H => XW X.K B W cls d H) : Passes (L2.CX X.prog X.w) X (XW X.K B W) := passes_call tk fun _ _ _ _ h => h
theorem hx0 : Passes (L2.CX X.prog X.w) X (XW X.K B WN) := passes_call takesN fun cls d σ H ⟨_, _, _, _, _, _, _, _, h⟩ => h.elim
def dCall (sp : SpD) (W : WD) (t : TAD) : TED := fun δ G Q => t δ G fun ds G1 => sp ds G1 Q W
variable {k : Nat} {f C : Addr} {fd : FuncData} {ps : List Str} {sp : SpD} {x m : Str} {p pos apos : Pos} {e o : Expr} {es : List Expr} {te : TED} {t : TAD} {σ : L2.St} {H F : Hp} {δ : SD} {G : Gm}
/-- into a call: what it wants of trees is had of the heap -/
theorem low_of {Q : VK} {Qd : QD} {vs : List V} {ds : List D} {F1 : Hp} {G1 : Gm} (kk : ∀ v H', Beh K B σ F δ Qd v H' → Q v H') (s1 : Same F F1) (S1 : Sit K B σ H F1 δ G1) (r : RepAll K F1 vs ds) (h : sp ds G1 Qd W) : lowSp K sp vs H Q (XW K B W) :=
  ⟨⟨F1, B.Z, B.T⟩, G1, ds, Qd, W, S1.ds, r, h, fun v H' ⟨F', G', d, s', ds', _, r', q'⟩ => kk v H' ⟨F', G', d, s1.trans s', ⟨ds', S1.gr.trans s', S1.sl.mono s'⟩, r', q'⟩,
    fun cls dd H' ⟨F', G', C, fs, e, s', ds', xr, w⟩ => ⟨F', G', C, fs, e, S1.gr.trans s', ds', xr, w⟩⟩
theorem de_call (Fn : FnD X.prog X.w X.K X.mg X.base k f fd ps sp) (hr : Room k X.A) (hg : Gl X x) (hm : X.mg x = some (.ref f)) (hk : PySem.W.keepIn X.K (.ref f) = true) (hb : Binds X.K fd ps []) (hx : Passes (L2.CX X.prog X.w) X (XW X.K B W))
    (ha : DA X B (e :: es) t) (hdb : (x == ("__debug__" : Str)) = false := by decide) (he : starEach (e :: es) X.env = (false, eval e X.env) :: starEach es X.env := by rfl) (hpl : (backTo pos (starEach es X.env)).any (·.1) = false := by rfl) :
    DE X B (.Call (.Name x p) (e :: es) [] pos) (dCall sp W t) :=
  PE.weak (pe_call Fn hr hg hm hk hb .nil hx ha hdb he hpl) fun σ H Q ⟨F, G, δ, Qd, S, h, kk⟩ => ⟨F, G, δ, _, S, h, fun vs H1 ⟨F1, G1, ds, s1, S1, r1, h1⟩ => by
    show lowSp X.K sp (vs ++ []) H1 Q _
    rw [List.append_nil]
    exact low_of kk s1 S1 r1 h1⟩
theorem de_g (Fn : GnD X.prog X.w X.K X.mg X.base k f fd ps sp) (g : X.A.guards = some []) (hr : Room k X.A) (hg : Gl X x) (hm : X.mg x = some (.ref f)) (hk : PySem.W.keepIn X.K (.ref f) = true) (hb : Binds X.K fd ps [])
    (ha : DA X B (e :: es) t) (hdb : (x == ("__debug__" : Str)) = false := by decide) (he : starEach (e :: es) X.env = (false, eval e X.env) :: starEach es X.env := by rfl) (hpl : (backTo pos (starEach es X.env)).any (·.1) = false := by rfl) :
    DE X B (.Call (.Name x p) (e :: es) [] pos) (dCall sp WN t) :=
  PE.weak (pe_g (E := XW X.K B WN) Fn g hr hg hm hk hb .nil ha hdb he hpl) fun σ H Q ⟨F, G, δ, Qd, S, h, kk⟩ => ⟨F, G, δ, _, S, h, fun vs H1 ⟨F1, G1, ds, s1, S1, r1, h1⟩ => by
    show lowSp X.K sp (vs ++ []) H1 Q _
    rw [List.append_nil]
    exact low_of kk s1 S1 r1 h1⟩
def DK (X : Cx) (B : Bs) (kws : List Keyword) (T : TAD) : Prop := PK X kws (upA X.K B T)
theorem dk_nil : DK X B [] dNil := ⟨fun pos pins s σ H Q I ⟨F, G, δ, Qd, S, h, k⟩ => pk_nil.run pos pins s σ H Q I (k [] H ⟨F, G, [], .refl F, S, .nil, h⟩)⟩
theorem dk_cons {nm : Option Str} {kpos : Pos} {kws : List Keyword} (ha : DE X B e te) (hr : DK X B kws t) : DK X B (⟨nm, e, kpos⟩ :: kws) (dCons te t) :=
  ⟨fun pos pins s σ H Q I ⟨F, G, δ, Qd, S, h, k⟩ => (pk_cons ha hr).run pos pins s σ H Q I ⟨F, G, δ, _, S, h, fun v H1 ⟨F1, G1, d, s1, S1, r1, h1⟩ => ⟨F1, G1, δ, _, S1, h1, fun vs H2 ⟨F2, G2, ds, s2, S2, r2, h2⟩ =>
    k _ H2 ⟨F2, G2, d :: ds, s1.trans s2, S2, .cons (r1.mono s2) r2, h2⟩⟩⟩⟩
def PermOk (gV : List V → List V → List V) (gD : List D → List D → List D) : Prop := ∀ (K : PySem.W.Frag) (F : Hp) (vs zs : List V) (ds es : List D), RepAll K F vs ds → RepAll K F zs es → RepAll K F (gV vs zs) (gD ds es)
theorem perm_ok {np nk : Nat} {ix : List Nat} : PermOk (gPerm np nk ix) (gPerm np nk ix) := fun K F vs zs ds es r q => by
  unfold gPerm
  rw [r.length, q.length]
  split
  · have a := r.append q
    generalize vs ++ zs = xs at a
    generalize ds ++ es = ys at a
    clear r q
    induction ix with
    | nil => exact .nil
    | cons i ix ih =>
      rw [List.filterMap_cons, List.filterMap_cons]
      cases e : ys[i]? with
      | none =>
        have : xs[i]? = none := by
          rw [List.getElem?_eq_none_iff] at e ⊢
          rw [a.length]
          exact e
        rw [this]
        exact ih
      | some d =>
        obtain ⟨v, ev, rv⟩ := a.get e
        rw [ev]
        exact .cons rv ih
  · exact .nil
variable {kws : List Keyword} {tk : TAD} {ks : List Str} {gg : List Value → List Value → List Value} {gV : List V → List V → List V} {gD : List D → List D → List D}
/-- the instance and its attributes, changeable or not -/
def insD (d : D) (G : Gm) : Option (Addr × List (Str × D)) := match d with
  | .ins C fs => some (C, fs)
  | .adr a => match G a with | some (.ins C fs) => some (C, fs) | _ => none
  | _ => none
theorem ins_rep {v : V} {d : D} {C : Addr} {fs : List (Str × D)} (S : Sit K B σ H F δ G) (r : Rep K F v d) (h : insD d G = some (C, fs)) : ∃ a dx fv, v = .ref a ∧ H a = some (.ins C dx fv) ∧ GoodC K C ∧ (∀ p ∈ fs, NoAttr K C p.1) ∧ RepF K F fv fs := by
  cases d with
  | ins C' fs' =>
    cases h
    cases r with
    | ins e g n rf => exact ⟨_, _, _, rfl, S.ds.sub _ _ e, g, n, rf⟩
  | adr a =>
    cases r
    cases g : G a with
    | none => simp [insD, g] at h
    | some mo =>
      cases mo with
      | ins C' fs' =>
        simp only [insD, g, Option.some.injEq, Prod.mk.injEq] at h
        obtain ⟨rfl, rfl⟩ := h
        obtain ⟨dx, fv, e, gc, n, rf⟩ := (S.ds.mu a _ g).2
        exact ⟨a, dx, fv, rfl, e, gc, n, rf⟩
      | _ => simp [insD, g] at h
  | _ => simp [insD] at h
theorem look_mem {f : Str} {y : D} : ∀ {fs : List (Str × D)}, fs.lookup f = some y → (f, y) ∈ fs
  | [], h => by cases h
  | (g, e) :: r, h => by
    rw [List.lookup_cons] at h
    cases q : f == g with
    | true =>
      rw [q] at h
      cases h
      rw [beq_iff_eq] at q
      subst q
      exact List.mem_cons_self
    | false =>
      rw [q] at h
      exact List.mem_cons_of_mem _ (look_mem h)
def fldD (d : D) (G : Gm) (f : Str) : Option D := (insD d G).bind fun p => p.2.lookup f
def dFld (te : TED) (f : Str) : TED := fun δ G Q => te δ G fun d G1 => match fldD d G1 f with | some y => Q y G1 | none => False
theorem de_fld {f : Str} (he : DE X B e te) (hb : attributeBase e f X.env (eval e X.env) = eval e X.env := by rfl) : DE X B (.Attribute e f pos) (dFld te f) :=
  PE.weak (pe_fld he hb) fun σ H Q ⟨F, G, δ, Qd, S, h, kk⟩ => ⟨F, G, δ, _, S, h, fun v H1 ⟨F1, G1, d, s1, S1, r1, h1⟩ => by
    cases q : insD d G1 with
    | none => simp [fldD, q] at h1
    | some cf =>
      obtain ⟨C, fs⟩ := cf
      obtain ⟨a, dx, fv, rfl, e, gc, na, rf⟩ := ins_rep S1 r1 q
      cases l : fs.lookup f with
      | none => simp [fldD, q, l] at h1
      | some y =>
        simp only [fldD, q, Option.bind_some, l] at h1
        obtain ⟨u, lu, ru⟩ := rf.look l
        exact ⟨a, C, dx, fv, u, rfl, e, gc.cl, na _ (look_mem l), lu, kk _ _ ⟨F1, G1, y, s1, S1, ru, h1⟩⟩⟩
theorem repF_put {f : Str} {v : V} {d : D} (r : Rep K F v d) : ∀ {fv : List (Str × V)} {fs : List (Str × D)}, RepF K F fv fs → RepF K F (putF f v fv) (putD f d fs)
  | _, _, .nil => .cons r .nil
  | _, _, .cons (f := g) h q => by
    by_cases c : g = f
    · subst c
      unfold putF putD
      rw [if_pos rfl, if_pos rfl]
      exact .cons r q
    · unfold putF putD
      rw [if_neg c, if_neg c]
      exact .cons h (repF_put r q)
theorem putD_mem {f : Str} {d : D} : ∀ {fs : List (Str × D)} {p : Str × D}, p ∈ putD f d fs → p = (f, d) ∨ p ∈ fs
  | [], p, h => by
    rcases List.mem_cons.mp h with h | h
    · exact .inl h
    · cases h
  | (g, e) :: r, p, h => by
    unfold putD at h
    split at h
    · rcases List.mem_cons.mp h with h | h
      · exact .inl h
      · exact .inr (List.mem_cons_of_mem _ h)
    · rcases List.mem_cons.mp h with h | h
      · exact .inr (h ▸ List.mem_cons_self)
      · rcases putD_mem h with h | h
        · exact .inl h
        · exact .inr (List.mem_cons_of_mem _ h)
/-- o.f = e, o what may change -/
def dSetF (C : Addr) (to te : TED) (f : Str) : TSD := fun E δ G => te δ G fun y G1 => to δ G1 fun d G2 => match d with
  | .adr a => (match G2 a with | some (.ins C' fs) => C' = C ∧ fs.length < 1000 ∧ E.nx δ (updG G2 a (.ins C (putD f y fs))) | _ => False)
  | _ => False
theorem ds_fld {f : Str} {to : TED} {value : Expr} {tv : TED} {pos' : Pos} (na : NoAttr X.K C f) (ho : DE X B o to) (hv : DE X B value tv) (hs : swapsWith value (some (.Attribute o f pos')) pos.line X.env = pure false := by rfl) : DSt X B (.Assign [.Attribute o f pos'] value pos) (dSetF C to tv f) :=
  PS.weak (ps_fld ho hv hs) fun D σ H ⟨F, G, δ, E, S, h, L⟩ => ⟨F, G, δ, _, S, h, fun y H1 ⟨F1, G1, dy, s1, S1, r1, h1⟩ => ⟨F1, G1, δ, _, S1, h1, fun x H2 ⟨F2, G2, d, s2, S2, r2, h2⟩ => by
    cases d with
    | adr a =>
      cases r2
      cases g : G2 a with
      | none =>
        simp only [g] at h2
      | some mo =>
        cases mo with
        | ins C' fs =>
          simp only [g] at h2
          obtain ⟨rfl, hl, q⟩ := h2
          obtain ⟨dx, fv, e, gc, n, rf⟩ := (S2.ds.mu a _ g).2
          refine ⟨a, C', dx, fv, rfl, e, gc.cl, na, by rw [rf.length]; exact hl, L.nx _ _ ⟨F2, _, δ, s1.trans s2, ⟨S2.ds.write (m' := .ins C' (putD f dy fs)) g ⟨dx, _, upd_same, gc, fun p hp => ?_, repF_put (r1.mono s2) rf⟩, S2.gr, S2.sl⟩, q⟩⟩
          rcases putD_mem hp with hp | hp
          · rw [hp]
            exact na
          · exact n p hp
        | _ => simp only [g] at h2
    | _ => exact h2.elim⟩⟩
/-- C(..): made, its __init__ called, then it changes no more -/
def dMake (C : Addr) (sp : SpD) (W : WD) (t : TAD) : TED := fun δ G Q => t δ G fun ds G1 => ∀ x, G1 x = none →
  sp (.adr x :: ds) (updG G1 x (.ins C [])) (fun d G2 => d = .non ∧ match G2 x with | some (.ins C' fs) => Q (.ins C' fs) (delG G2 x) | _ => False) (fun C' fs G2 => W C' fs (delG G2 x))
theorem DS.forget {K : PySem.W.Frag} {Tb : List (Addr × Str)} {F H Z : Hp} {G : Gm} {a : Addr} (d : DS K Tb F H G Z) : DS K Tb F H (delG G a) Z := ⟨d.sub, fun b m e => by
    by_cases c : b = a
    · rw [c, delG_same] at e
      cases e
    · rw [delG_ne c] at e
      exact d.mu b m e, d.zub, fun b u e => ⟨(d.zf b u e).1, by
      have := (d.zf b u e).2.1
      by_cases c : b = a
      · rw [c, delG_same]
      · rw [delG_ne c]
        exact this, (d.zf b u e).2.2⟩, d.ft, d.tab⟩
/-- what a making comes to -/
theorem low_make {vs : List V} {ds : List D} {F1 : Hp} {G1 : Gm} {Q : VK} {Qd : QD} (gc : GoodC K C) (kk : ∀ v H', Beh K B σ F δ Qd v H' → Q v H') (s1 : Same F F1) (S1 : Sit K B σ H F1 δ G1) (r1 : RepAll K F1 vs ds)
    (h1 : ∀ x, G1 x = none → sp (.adr x :: ds) (updG G1 x (.ins C [])) (fun d G2 => d = .non ∧ match G2 x with | some (.ins C' fs) => Qd (.ins C' fs) (delG G2 x) | _ => False) (fun C' fs G2 => W C' fs (delG G2 x))) :
    ∀ x dx, H x = none → H dx = none → dx ≠ x → lowSp K sp (.ref x :: vs) (upd (upd H dx (.own x)) x (.ins C dx [])) (fun v H2 => v = .non ∧ Q (.ref x) H2) (XW K B W) := fun x dx nx ndx ne => by
  have sa : Same H (upd H dx (.own x)) := same_new ndx
  have S2 := S1.same sa
  have nx2 : upd H dx (.own x) x = none := by rw [upd_ne ne.symm]; exact nx
  have d3 := S2.ds.open (o := .ins C dx []) (m := .ins C []) nx2 ⟨dx, [], upd_same, gc, fun p hp => (by cases hp), .nil⟩
  refine ⟨⟨F1, B.Z, B.T⟩, _, _, _, _, d3, .cons (.adr x) r1, h1 x (S1.ds.noG nx), fun v H' ⟨F', G', d, s', ds', _, r', e, q'⟩ => ?_, fun cls dd H' ⟨F', G', C', fs, e, s', ds', xr, w⟩ => ⟨F', _, C', fs, e, S1.gr.trans s', ds'.forget, xr, w⟩⟩
  subst e
  refine ⟨rep_non r', ?_⟩
  cases g : G' x with
  | none => simp only [g] at q'
  | some mo =>
    cases mo with
    | ins C' fs =>
      simp only [g] at q'
      obtain ⟨dx', fv, e, gc', na, rf⟩ := (ds'.mu x _ g).2
      obtain ⟨d4, s4⟩ := ds'.close g e
      exact kk _ _ ⟨_, _, _, (s1.trans s').trans s4, ⟨d4, S1.gr.trans (s'.trans s4), S1.sl.mono (s'.trans s4)⟩, .ins upd_same gc' na (rf.mono s4), q'⟩
    | _ => simp only [g] at q'
theorem de_make (M : Mk X.K C f) (gc : GoodC X.K C) (Fn : FnD X.prog X.w X.K X.mg X.base k f fd ps sp) (hr : Room (k + 1) X.A) (hg : Gl X x) (hm : X.mg x = some (.ref C)) (hb : Binds X.K fd ps []) (hx : Passes (L2.CX X.prog X.w) X (XW X.K B W)) (ha : DA X B (e :: es) t)
    (hdb : (x == ("__debug__" : Str)) = false := by decide) (he : starEach (e :: es) X.env = (false, eval e X.env) :: starEach es X.env := by rfl) (hpl : (backTo pos (starEach es X.env)).any (·.1) = false := by rfl) :
    DE X B (.Call (.Name x p) (e :: es) [] pos) (dMake C sp W t) :=
  PE.weak (pe_make M Fn hr hg hm hb .nil hx ha hdb he hpl) fun σ H Q ⟨F, G, δ, Qd, S, h, kk⟩ => ⟨F, G, δ, _, S, h, fun vs H1 ⟨F1, G1, ds, s1, S1, r1, h1⟩ => by
    show ∀ x dx, _ → _ → _ → lowSp X.K sp (.ref x :: (vs ++ [])) _ _ _
    rw [List.append_nil]
    exact low_make gc kk s1 S1 r1 h1⟩
/-- o.m(..) -/
def dMeth (C : Addr) (m : Str) (sp : SpD) (W : WD) (to : TED) (t : TAD) : TED := fun δ G Q => to δ G fun d G1 => match insD d G1 with | some (C', fs) => C' = C ∧ fs.lookup m = none ∧ t δ G1 fun ds G2 => sp (d :: ds) G2 Q W | none => False
theorem de_meth {pl : Sem Bool} {to : TED} (he : DE X B o to) (c : Cls X.K C) (hm : Meth X.K C m f) (Fn : FnD X.prog X.w X.K X.mg X.base k f fd ps sp) (hr : Room k X.A) (hb : Binds X.K fd ps []) (hx : Passes (L2.CX X.prog X.w) X (XW X.K B W)) (ha : DA X B (e :: es) t)
    (hst : starEach (e :: es) X.env = (false, eval e X.env) :: starEach es X.env := by rfl) (hpl : (backTo pos (starEach es X.env)).any (·.1) = false := by rfl)
    (ht : eval (.Call (.Attribute o m apos) (e :: es) [] pos) X.env = (do
      let ov ← eval o X.env
      standAt apos.atName
      let (f, first) ← holding [ov] (getMethod ov m pl)
      callWith pos f first (backTo pos (starEach (e :: es) X.env)) (backToKw pos (keywordEach [] X.env))) := by rfl) :
    DE X B (.Call (.Attribute o m apos) (e :: es) [] pos) (dMeth C m sp W to t) :=
  PE.weak (pe_meth he c hm Fn hr hb .nil hx ha hst hpl ht) fun σ H Q ⟨F, G, δ, Qd, S, h, kk⟩ => ⟨F, G, δ, _, S, h, fun v H1 ⟨F1, G1, d, s1, S1, r1, h1⟩ => by
    cases q : insD d G1 with
    | none =>
      simp only [q] at h1
    | some cf =>
      obtain ⟨C', fs⟩ := cf
      simp only [q] at h1
      obtain ⟨rfl, hl, h1⟩ := h1
      obtain ⟨a, dx, fv, rfl, e, gc, na, rf⟩ := ins_rep S1 r1 q
      refine ⟨a, dx, fv, rfl, e, rf.lookN hl, F1, G1, δ, _, S1, h1, fun vs H2 ⟨F2, G2, ds, s2, S2, r2, h2⟩ => ?_⟩
      show lowSp X.K sp (.ref a :: (vs ++ [])) H2 Q _
      rw [List.append_nil]
      exact low_of kk (s1.trans s2) S2 (.cons (r1.mono s2) r2) h2⟩
/-- o.f, a property -/
def dProp (C : Addr) (sp : SpD) (to : TED) : TED := fun δ G Q => to δ G fun d G1 => match insD d G1 with | some (C', _) => C' = C ∧ sp [d] G1 Q WN | none => False
theorem de_prop {f' : Str} {pa : Addr} {to : TED} (he : DE X B o to) (c : Cls X.K C) (hp : PropOf X.K C f' pa f) (Fn : FnD X.prog X.w X.K X.mg X.base k f fd ps sp) (hr : Room (k + 1) X.A) (hb : Binds X.K fd ps [])
    (hab : attributeBase o f' X.env (eval o X.env) = eval o X.env := by rfl) : DE X B (.Attribute o f' pos) (dProp C sp to) :=
  PE.weak (pe_prop he c hp Fn hr hb .nil (E := XW X.K B WN) (fun pins σ H s e s' I c => (hx0 (X := X.nox) (B := B)) pins σ H s e s' I c) hab) fun σ H Q ⟨F, G, δ, Qd, S, h, kk⟩ => ⟨F, G, δ, _, S, h, fun v H1 ⟨F1, G1, d, s1, S1, r1, h1⟩ => by
    cases q : insD d G1 with
    | none =>
      simp only [q] at h1
    | some cf =>
      obtain ⟨C', fs⟩ := cf
      simp only [q] at h1
      obtain ⟨rfl, h1⟩ := h1
      obtain ⟨a, dx, fv, rfl, e, gc, na, rf⟩ := ins_rep S1 r1 q
      exact ⟨a, dx, fv, rfl, e, low_of kk s1 S1 (.cons r1 .nil) h1⟩⟩
end
end JP
namespace JP
open PySem PySem.Spec PyProof.Rows L2
theorem tuple_mulW00 (l : Addr) (its : List Value) (n : Nat) (dd : Option Addr) (sl : Array (Option Value)) (u : Tok) (hne : its ≠ []) :
    Meets (Builtin.«tuple.__mul__» ⟨[.ref l, .int 0 u], []⟩) (fun _ R s => s.heap.get? l = some { cls := .type "tuple", dict := dd, data := .seq its.toArray n, slots := sl } ∧
      R (.ok (.ret (Value.ref s.heap.objs.size))) { s with heap := s.heap.push { cls := .type "tuple", data := .seq #[] }, toks := s.toks }) :=
  .of_wp fun prog w A R s h => by
    obtain ⟨hp, g, d, tk, os⟩ := s
    obtain ⟨hl, h⟩ := h
    have f1 := AutoSeq1.idx_int
    have e0 : its.toArray.isEmpty = false := by cases its with | nil => exact absurd rfl hne | cons _ _ => rfl
    have c1 : (its.toArray.isEmpty || (0 : Int) == 1) = false := by rw [e0]; rfl
    have c2 : (decide ((0 : Int) ≤ 0) || its.toArray.isEmpty) = true := by simp
    have c0 : (decide ((0 : Int) < -(2 ^ 63)) || decide ((0 : Int) ≥ 2 ^ 63)) = false := by decide
    wp_walk using AutoSeq1.wpAny_loadPart' hl
    repeat (first
      | (refine wpAny_ite_false (decide_eq_false (by rw [c0]; exact Bool.false_ne_true)) ?_; wp_walk using AutoSeq1.wpAny_loadPart' hl)
      | (refine wpAny_ite_false (decide_eq_false (by rw [c1]; exact Bool.false_ne_true)) ?_; wp_walk using AutoSeq1.wpAny_loadPart' hl)
      | (refine wpAny_ite_true (decide_eq_true c2) ?_; wp_walk using AutoSeq1.wpAny_loadPart' hl))
    all_goals first | exact ⟨_, rfl, h⟩ | skip
/-- t * 0 -/
def rRep0 : R2 := fun x y H Q => ∃ l xs, x = .ref l ∧ y = .int 0 ∧ H l = some (.tup xs) ∧ xs ≠ [] ∧ ∀ p, H p = none → Q (.ref p) (upd H p (.tup []))
theorem op_rep0 {X : Cx} : OpR X (binaryOp .Mult) rRep0 := by
  intro pins s σ H x y v u Q I rx ry h
  obtain ⟨l, xs, rfl, rfl, hT, hne, q⟩ := h
  cases rx
  obtain ⟨t, rfl⟩ := ry
  obtain ⟨its, r, ⟨⟨cls, dd, data, sl⟩, ho, hc, n, hd⟩, hs⟩ := I.tuple (SqT.of hT)
  simp only at hc hd
  subst hc hd
  have hi : its ≠ [] := fun z => hne (by
    have := r.length
    rw [z] at this
    exact List.length_eq_zero_iff.mp this)
  refine wpAny_binaryOp_repeat_ref (T := "tuple") (U := "int") (by decide) ⟨_, ho, rfl⟩ (fun s' => typeIs_int s' 0 t) noFill_tuple_mul F.fills_int_mul F.slot_int_rmul repeat_tuple F.slot_int_index.lookup
    (call_meets F.slot_int_rmul (typeIs_int s 0 t) F.entry_int_rmul (F.args_int_rmul_2 _ _) (int_rmul_tuple 0 t l its.toArray n dd sl)
      ⟨ho, rfl, ⟨_, ho, rfl⟩, call_meets F.slot_tuple_mul ⟨_, ho, rfl⟩ F.entry_tuple_mul (F.args_tuple_mul_2 _ _) (tuple_mulW00 l its n dd sl t hi) ⟨ho, ?_⟩⟩)
  refine ⟨.ref s.heap.objs.size, _, I.laid (o := .tup []) (t' := s.toks) (fun b o e => Heap.get?_push_of_some _ e) (Nat.le_refl _) ⟨Nat.zero_le _, [], .nil, ⟨_, Heap.get?_push_size _ rfl, rfl, 0, rfl⟩⟩, rfl, q _ (I.hok.fresh (Nat.le_refl _))⟩
section
variable {X : Cx} {B : Bs} {K : PySem.W.Frag} {a b : Expr} {ta tb : TED} {pos : Pos}
variable {σ : L2.St} {H F : Hp} {δ : SD} {G : Gm}
theorem rep_tup {v : V} {ds : List D} (r : Rep K F v (.tup ds)) : ∃ p xs, v = .ref p ∧ F p = some (.tup xs) ∧ RepAll K F xs ds := by
  cases r with
  | tup h r => exact ⟨_, _, rfl, h, r⟩
theorem rep_lst {v : V} {ds : List D} (r : Rep K F v (.lst ds)) : ∃ p xs, v = .ref p ∧ F p = some (.lst xs) ∧ RepAll K F xs ds := by
  cases r with
  | lst h r => exact ⟨_, _, rfl, h, r⟩
/-- got: a tuple that stands behind -/
theorem Beh.gotT {H' : Hp} {Qd : QD} {p : Addr} {xs : List V} {ds : List D} (S : Sit K B σ H F δ G) (s : Same H H') (h : H' p = some (.tup xs)) (r : RepAll K F xs ds) (q : Qd (.tup ds) G) : Beh K B σ F δ Qd (.ref p) H' :=
  have ⟨d1, s1⟩ := S.ds.got s h (by intro z; exact z)
  ⟨_, G, _, s1, ⟨d1, S.gr.trans s1, S.sl.mono s1⟩, .tup upd_same (r.mono s1), q⟩
theorem Beh.newL {Qd : QD} {p : Addr} {xs : List V} {ds : List D} (S : Sit K B σ H F δ G) (n : H p = none) (r : RepAll K F xs ds) (q : Qd (.lst ds) G) : Beh K B σ F δ Qd (.ref p) (upd H p (.lst xs)) :=
  .new S (.refl F) n (rep_lst_new (S.ds.noF n) r) q
theorem Beh.val {Qd : QD} {v : V} {d : D} (S : Sit K B σ H F δ G) (r : Rep K F v d) (q : Qd d G) : Beh K B σ F δ Qd v H := ⟨F, G, d, .refl F, S, r, q⟩
/-- + -/
def addD : R2D := fun a b G Q => match a, b with
  | .int i, .int j => Q (.int (i + j)) G
  | .int i, .bl k => Q (.int (i + b2i k)) G
  | .str x, .str y => x.length + y.length ≤ sizeLine ∧ Q (.str (x ++ y)) G
  | .lst xs, .lst ys => xs.length + ys.length ≤ sizeLine ∧ Q (.lst (xs ++ ys)) G
  | .tup xs, .tup ys => xs.length + ys.length ≤ sizeLine ∧ Q (.tup (xs ++ ys)) G
  | _, _ => False
theorem de_add (ha : DE X B a ta) (hb : DE X B b tb) : DE X B (.BinOp a .Add b pos) (dOp addD ta tb) :=
  de_op (op_add.or (op_add_ib.or (op_add_str.or (op_cat.or op_cat2)))) (fun B σ δ H F G x y a b Qd Q S r1 r2 h k => by
    unfold addD at h
    split at h
    · rw [rep_int r1, rep_int r2]
      exact .inl ⟨_, _, rfl, rfl, k _ _ (.val S (.int _) h)⟩
    · rw [rep_int r1, rep_bl r2]
      exact .inr (.inl ⟨_, _, rfl, rfl, k _ _ (.val S (.int _) h)⟩)
    · rw [rep_str r1, rep_str r2]
      exact .inr (.inr (.inl ⟨_, _, rfl, rfl, h.1, k _ _ (.val S (.str _) h.2)⟩))
    · obtain ⟨p, us, rfl, e1, q1⟩ := rep_lst r1
      obtain ⟨p2, us2, rfl, e2, q2⟩ := rep_lst r2
      exact .inr (.inr (.inr (.inl ⟨p, p2, us, us2, rfl, rfl, S.ds.sub _ _ e1, S.ds.sub _ _ e2, by rw [q1.length, q2.length]; exact h.1, fun l nl => k _ _ (.newL S nl (q1.append q2) h.2)⟩)))
    · obtain ⟨p, us, rfl, e1, q1⟩ := rep_tup r1
      obtain ⟨p2, us2, rfl, e2, q2⟩ := rep_tup r2
      exact .inr (.inr (.inr (.inr ⟨p, p2, us, us2, rfl, rfl, S.ds.sub _ _ e1, S.ds.sub _ _ e2, by rw [q1.length, q2.length]; exact h.1, fun l H' s e => k _ _ (.gotT S s e (q1.append q2) h.2)⟩)))
    · exact h.elim) ha hb
def subD : R2D := fun a b G Q => match a, b with | .int i, .int j => Q (.int (i - j)) G | _, _ => False
theorem de_sub (ha : DE X B a ta) (hb : DE X B b tb) : DE X B (.BinOp a .Sub b pos) (dOp subD ta tb) :=
  de_op op_sub (fun B σ δ H F G x y a b Qd Q S r1 r2 h k => by
    unfold subD at h
    split at h
    · rw [rep_int r1, rep_int r2]
      exact ⟨_, _, rfl, rfl, k _ _ (.val S (.int _) h)⟩
    · exact h.elim) ha hb
/-- *: within what is reckoned -/
def mulD : R2D := fun a b G Q => match a, b with
  | .int i, .int j => CMulW i j ∧ Q (.int (i * j)) G
  | .str x, .int n => MulOk x n ∧ Q (.str (Txt.mul x n)) G
  | .lst xs, .int n => (-(2 ^ 63) ≤ n ∧ n < 2 ^ 63 ∧ xs.length * n.toNat ≤ sizeLine) ∧ Q (.lst (List.replicate n.toNat xs).flatten) G
  | .tup xs, .int n => (xs ≠ [] ∧ 0 ≤ n ∧ n ≤ 1000 ∧ xs.length ≤ 1000) ∧ Q (.tup (List.replicate n.toNat xs).flatten) G
  | _, _ => False
theorem RepAll.rep {F : Hp} {vs : List V} {ds : List D} (r : RepAll K F vs ds) : ∀ n : Nat, RepAll K F (List.replicate n vs).flatten (List.replicate n ds).flatten
  | 0 => .nil
  | n + 1 => by
    rw [List.replicate_succ, List.replicate_succ, List.flatten_cons, List.flatten_cons]
    exact r.append (RepAll.rep r n)
theorem de_mul (ha : DE X B a ta) (hb : DE X B b tb) : DE X B (.BinOp a .Mult b pos) (dOp mulD ta tb) :=
  de_op (op_mulW.or (op_mulS.or (op_rep.or (op_rep2.or op_rep0)))) (fun B σ δ H F G x y a b Qd Q S r1 r2 h k => by
    unfold mulD at h
    split at h
    · rw [rep_int r1, rep_int r2]
      exact .inl ⟨_, _, rfl, rfl, h.1, k _ _ (.val S (.int _) h.2)⟩
    · rw [rep_str r1, rep_int r2]
      exact .inr (.inl ⟨_, _, rfl, rfl, h.1, k _ _ (.val S (.str _) h.2)⟩)
    · obtain ⟨p, us, rfl, e1, q1⟩ := rep_lst r1
      rw [rep_int r2]
      exact .inr (.inr (.inl ⟨p, _, us, rfl, rfl, S.ds.sub _ _ e1, h.1.1, h.1.2.1, by rw [q1.length]; exact h.1.2.2, fun l nl => k _ _ (.newL S nl (q1.rep _) h.2)⟩))
    · rename_i ds n
      obtain ⟨p, us, rfl, e1, q1⟩ := rep_tup r1
      rw [rep_int r2]
      have l := q1.length
      obtain ⟨⟨h1, h2, h3, h4⟩, hq⟩ := h
      have hne : us ≠ [] := fun z => h1 (by rw [z] at l; exact List.length_eq_zero_iff.mp l.symm)
      by_cases c : n = 0
      · subst c
        exact .inr (.inr (.inr (.inr ⟨p, us, rfl, rfl, S.ds.sub _ _ e1, hne, fun l nl => k _ _ (.gotT S (same_new nl) upd_same .nil hq)⟩)))
      · exact .inr (.inr (.inr (.inl ⟨p, n, us, rfl, rfl, S.ds.sub _ _ e1, hne, by omega, h3, by omega, fun l H' s e => k _ _ (.gotT S s e (q1.rep _) hq)⟩)))
    · exact h.elim) ha hb
def powD : R2D := fun a b G Q => match a, b with | .int i, .int j => CPow i j ∧ Q (.int (i ^ j.toNat)) G | _, _ => False
theorem de_pow (ha : DE X B a ta) (hb : DE X B b tb) : DE X B (.BinOp a .Pow b pos) (dOp powD ta tb) :=
  de_op op_pow (fun B σ δ H F G x y a b Qd Q S r1 r2 h k => by
    unfold powD at h
    split at h
    · rw [rep_int r1, rep_int r2]
      exact ⟨_, _, rfl, rfl, h.1, k _ _ (.val S (.int _) h.2)⟩
    · exact h.elim) ha hb
def negD : R1D := fun a G Q => match a with | .int i => Q (.int (-i)) G | _ => False
theorem de_neg (ha : DE X B a ta) : DE X B (.UnaryOp .USub a pos) (dUn negD ta) :=
  PE.weak (pe_un un_neg ha) fun σ H Q ⟨F, G, δ, Qd, S, h, k⟩ => ⟨F, G, δ, _, S, h, fun v H1 ⟨F1, G1, d, s1, S1, r1, h1⟩ => by
    cases d with
    | int i =>
      cases r1
      exact ⟨i, rfl, k _ _ ⟨F1, G1, _, s1, S1, .int _, h1⟩⟩
    | _ => exact h1.elim⟩
/-- comparisons of ints, of texts -/
def cmpD (p : Int → Int → Bool) : R2D := fun a b G Q => match a, b with | .int i, .int j => Q (.bl (p i j)) G | _, _ => False
theorem cmp_A {p : Int → Int → Bool} : OpA K (rI0 fun i j => .bl (p i j)) (cmpD p) := fun B σ δ H F G x y a b Qd Q S r1 r2 h k => by
  unfold cmpD at h
  split at h
  · rw [rep_int r1, rep_int r2]
    exact ⟨_, _, rfl, rfl, k _ _ (.val S (.bl _) h)⟩
  · exact h.elim
abbrev ltD : R2D := cmpD fun i j => decide (i < j)
abbrev leD : R2D := cmpD fun i j => decide (i ≤ j)
abbrev gtD : R2D := cmpD fun i j => decide (j < i)
abbrev geD : R2D := cmpD fun i j => decide (j ≤ i)
theorem lt_A : OpA K (rI0 fun i j => .bl (decide (i < j))) ltD := cmp_A
theorem le_A : OpA K (rI0 fun i j => .bl (decide (i ≤ j))) leD := cmp_A
theorem gt_A : OpA K (rI0 fun i j => .bl (decide (j < i))) gtD := cmp_A
theorem ge_A : OpA K (rI0 fun i j => .bl (decide (j ≤ i))) geD := cmp_A
def isNon : D → Bool
  | .non => true
  | _ => false
def isND : R2D := fun a b G Q => match b with | .non => Q (.bl (isNon a)) G | _ => False
def notND : R2D := fun a b G Q => match b with | .non => Q (.bl (!isNon a)) G | _ => False
theorem rep_isnon {F : Hp} {v : V} {d : D} (r : Rep K F v d) : decide (v = .non) = isNon d := by
  cases r <;> rfl
theorem isN_A : OpA K (fun x y H Q => y = .non ∧ Q (.bl (decide (x = .non))) H) isND := fun B σ δ H F G x y a b Qd Q S r1 r2 h k => by
  unfold isND at h
  split at h
  · refine ⟨rep_non r2, k _ _ (.val S (.bl _) ?_)⟩
    rw [rep_isnon r1]
    exact h
  · exact h.elim
theorem notN_A : OpA K (fun x y H Q => y = .non ∧ Q (.bl (!decide (x = .non))) H) notND := fun B σ δ H F G x y a b Qd Q S r1 r2 h k => by
  unfold notND at h
  split at h
  · refine ⟨rep_non r2, k _ _ (.val S (.bl _) ?_)⟩
    rw [rep_isnon r1]
    exact h
  · exact h.elim
mutual
inductive DP : D → PyData → Prop
  | non : DP .non .none
  | bl (b : Bool) : DP (.bl b) (.bool b)
  | int (i : Int) : DP (.int i) (.int i)
  | str (x : Str) : DP (.str x) (.str x)
  | lst {ds : List D} {ps : List PyData} : DPs ds ps → DP (.lst ds) (.list ps)
  | tup {ds : List D} {ps : List PyData} : DPs ds ps → DP (.tup ds) (.tuple ps)
inductive DPs : List D → List PyData → Prop
  | nil : DPs [] []
  | cons {d : D} {ds : List D} {p : PyData} {ps : List PyData} : DP d p → DPs ds ps → DPs (d :: ds) (p :: ps)
end
mutual
theorem DP.rep (s : Same F H) : ∀ {d : D} {p : PyData} {v : V}, DP d p → Rep K F v d → Dp K H v p
  | _, _, _, .non, r => by cases r; exact .non
  | _, _, _, .bl b, r => by cases r; exact .bl b
  | _, _, _, .int i, r => by cases r; exact .int i
  | _, _, _, .str x, r => by cases r; exact .str x
  | _, _, _, .lst h, r => by
    cases r with
    | lst e q => exact .lst (.of (s _ _ e)) (DPs.rep s h q)
  | _, _, _, .tup h, r => by
    cases r with
    | tup e q => exact .tup (.of (s _ _ e)) (DPs.rep s h q)
theorem DPs.rep (s : Same F H) : ∀ {d : List D} {p : List PyData} {v : List V}, DPs d p → RepAll K F v d → DpAll K H v p
  | _, _, _, .nil, r => by cases r; exact .nil
  | _, _, _, .cons h t, r => by
    cases r with
    | cons r q => exact .cons (DP.rep s h r) (DPs.rep s t q)
end
def eqD2 : R2D := fun a b G Q => ∃ p q, DP a p ∧ DP b q ∧ SeqAt.shaped p = true ∧ SeqAt.shaped q = true ∧ Q (.bl (PyData.eqv p q)) G
def neD2 : R2D := fun a b G Q => ∃ p q, DP a p ∧ DP b q ∧ SeqAt.shaped p = true ∧ SeqAt.shaped q = true ∧ Q (.bl (!PyData.eqv p q)) G
theorem eq_A : OpA K (rEqD K) eqD2 := fun B σ δ H F G x y a b Qd Q S r1 r2 ⟨p, q, hp, hq, s1, s2, h⟩ k => ⟨p, q, hp.rep S.ds.sub r1, hq.rep S.ds.sub r2, s1, s2, k _ _ (.val S (.bl _) h)⟩
theorem ne_A : OpA K (rNeD K) neD2 := fun B σ δ H F G x y a b Qd Q S r1 r2 ⟨p, q, hp, hq, s1, s2, h⟩ k => ⟨p, q, hp.rep S.ds.sub r1, hq.rep S.ds.sub r2, s1, s2, k _ _ (.val S (.bl _) h)⟩
/-- in a list or a tuple of plain things -/
inductive Fl : V → D → Prop
  | non : Fl .non .non | bl (b : Bool) : Fl (.bl b) (.bl b) | int (i : Int) : Fl (.int i) (.int i) | str (x : Str) : Fl (.str x) (.str x)
theorem Fl.rep {F : Hp} {v u : V} {d : D} (f : Fl v d) (r : Rep K F u d) : u = v ∧ flatV v = true := by
  cases f <;> cases r <;> exact ⟨rfl, rfl⟩
def seqD (d : D) (G : Gm) : Option (List D) := match d with
  | .lst ds => some ds
  | .tup ds => some ds
  | .adr a => match G a with | some (.lst ds) => some ds | _ => none
  | _ => none
theorem seq_rep {v : V} {d : D} {ds : List D} (S : Sit K B σ H F δ G) (r : Rep K F v d) (h : seqD d G = some ds) : ∃ p xs, v = .ref p ∧ (SqL K H p xs ∨ SqT K H p xs) ∧ RepAll K F xs ds := by
  cases d with
  | lst es =>
    cases h
    obtain ⟨p, xs, e, h1, h2⟩ := rep_lst r
    exact ⟨p, xs, e, .inl (.of (S.ds.sub _ _ h1)), h2⟩
  | tup es =>
    cases h
    obtain ⟨p, xs, e, h1, h2⟩ := rep_tup r
    exact ⟨p, xs, e, .inr (.of (S.ds.sub _ _ h1)), h2⟩
  | adr a =>
    cases r
    cases g : G a with
    | none => simp [seqD, g] at h
    | some mo =>
      cases mo with
      | lst es =>
        simp only [seqD, g, Option.some.injEq] at h
        subst h
        obtain ⟨xs, e, q⟩ := (S.ds.mu a _ g).2
        exact ⟨a, xs, rfl, .inl (.of e), q⟩
      | _ => simp [seqD, g] at h
  | _ => simp [seqD] at h
/-- d[i] -/
def ixD : R2D := fun a b G Q => match b with
  | .int i => (match a with
    | .str z => z.length ≤ sizeLine ∧ (match atI z.cps.toList i with | some c => Q (.str ⟨#[c]⟩) G | none => False)
    | _ => match seqD a G with | some ds => (match atI ds i with | some d => Q d G | none => False) | none => False)
  | _ => False
theorem atI_rep {F : Hp} {xs : List V} {ds : List D} {i : Int} {d : D} (r : RepAll K F xs ds) (h : atI ds i = some d) : ∃ v, atI xs i = some v ∧ Rep K F v d := by
  unfold atI at h ⊢
  rw [r.length]
  cases e : ixN ds.length i with
  | none => rw [e] at h; cases h
  | some j =>
    rw [e] at h
    exact r.get h
theorem ix_A : OpA K (rIx K) ixD := fun B σ δ H F G x y a b Qd Q S r1 r2 h k => by
  cases b with
  | int i =>
    cases r2
    have main : ∀ {ds : List D} {d : D}, seqD a G = some ds → atI ds i = some d → Qd d G → rIx K x (.int i) H Q := fun {ds d} e1 e2 q => by
      obtain ⟨p, xs, rfl, hs, ra⟩ := seq_rep S r1 e1
      obtain ⟨v, ev, rv⟩ := atI_rep ra e2
      rcases hs with hs | hs
      · exact .inl ⟨p, xs, i, v, rfl, rfl, hs, ev, k _ _ (.val S rv q)⟩
      · exact .inr (.inl ⟨p, xs, i, v, rfl, rfl, hs, ev, k _ _ (.val S rv q)⟩)
    have tail : (match seqD a G with | some ds => (match atI ds i with | some d => Qd d G | none => False) | none => False) → rIx K x (.int i) H Q := fun h => by
      cases e : seqD a G with
      | none => simp only [e] at h
      | some ds =>
        simp only [e] at h
        cases e2 : atI ds i with
        | none => simp only [e2] at h
        | some d =>
          simp only [e2] at h
          exact main e e2 h
    cases a with
    | str z =>
      cases r1
      obtain ⟨h1, h2⟩ := h
      cases e : atI z.cps.toList i with
      | none => simp only [e] at h2
      | some c =>
        simp only [e] at h2
        exact .inr (.inr ⟨z, i, c, rfl, rfl, h1, e, k _ _ (.val S (.str _) h2)⟩)
    | _ => exact tail h
  | _ => exact h.elim
end
end JP
namespace JP
open PySem PySem.Spec PyProof.Rows L2
section
variable {X : Cx} {B : Bs} {K : PySem.W.Frag} {a b e : Expr} {es : List Expr} {ta tb te : TED} {t : TAD} {pos p : Pos}
variable {σ : L2.St} {H F : Hp} {δ : SD} {G : Gm} {W : WD}
def kiD : D → Option Ki
  | .non => some .non | .bl _ => some .bl | .int _ => some .int | .str _ => some .str | .lst _ => some .lst | .tup _ => some .tup | .dic _ => some .dct | .dit _ => some .dct | .dif _ => some .dct
  | _ => none
inductive TyD (K : PySem.W.Frag) (d : D) (G : Gm) : Value → Prop
  | ki {k : Ki} : kiD d = some k → TyD K d G (.type k.name)
  | ins {C : Addr} {fs : List (Str × D)} : insD d G = some (C, fs) → TyD K d G (.ref C)
theorem ki_ty {v : V} {d : D} {k : Ki} (S : Same F H) (r : Rep K F v d) (h : kiD d = some k) : TyX K H v (.type k.name) := by
  cases r with
  | dk q r =>
    cases h
    rcases q with q | ⟨o, q⟩
    · exact .base (.dK (S _ _ q))
    · exact .fDict (S _ _ q)
  | dt q r => cases h; exact .base (.dT (S _ _ q))
  | df q r => cases h; exact .fDict (S _ _ q)
  | tup q r => cases h; exact .base (.tup (S _ _ q))
  | lst q r => cases h; exact .base (.lst (S _ _ q))
  | non => cases h; exact .base .non
  | bl b => cases h; exact .base (.bl b)
  | int b => cases h; exact .base (.int b)
  | str b => cases h; exact .base (.str b)
  | _ => cases h
theorem tyD_ty {v : V} {d : D} {t : Value} (S : Sit K B σ H F δ G) (r : Rep K F v d) (h : TyD K d G t) : TyX K H v t := by
  cases h with
  | ki h => exact ki_ty S.ds.sub r h
  | ins h =>
    obtain ⟨a, dx, fv, rfl, e, gc, _, _⟩ := ins_rep S r h
    exact .base (.ins e gc.cl gc.ca gc.sg gc.tk gc.mr)
theorem mem_ty : ∀ j : Ki, j = .non ∨ j.name ∈ tyNames := by intro j; cases j <;> first | exact .inl rfl | (right; simp [Ki.name, tyNames])
/-- isinstance(x, T), T built-in -/
def isK (d : D) (G : Gm) (j : Ki) : Option Bool := match kiD d with
  | some k => some (k.below j)
  | none => match insD d G with | some _ => (if j = .non then none else some false) | none => none
def dIsK (j : Ki) (te : TED) : TED := fun δ G Q => te δ G fun d G1 => match isK d G1 j with | some b => Q (.bl b) G1 | none => False
theorem isK_ty {v : V} {d : D} {j : Ki} {b : Bool} (S : Sit K B σ H F δ G) (r : Rep K F v d) (h : isK d G j = some b) : ∃ t, TyX K H v t ∧ PySem.W.kitOne K t (.type j.name) = some b := by
  cases q : kiD d with
  | some k =>
    simp only [isK, q, Option.some.injEq] at h
    subst h
    exact ⟨_, ki_ty S.ds.sub r q, ki_kit k j⟩
  | none =>
    cases i : insD d G with
    | none => simp [isK, q, i] at h
    | some cf =>
      obtain ⟨C, fs⟩ := cf
      simp only [isK, q, i] at h
      split at h
      · cases h
      · rename_i nj
        cases h
        obtain ⟨a, dx, fv, rfl, e, gc, _, _⟩ := ins_rep S r i
        exact ⟨.ref C, .base (.ins e gc.cl gc.ca gc.sg gc.tk gc.mr), gc.kt _ ((mem_ty j).resolve_left nj)⟩
theorem de_isK {c : Expr} {j : Ki} (hg : Gl X "isinstance") (hm : X.mg "isinstance" = none) (hv : bootBuiltins "isinstance" = some (.builtin "isinstance")) (ha : DE X B e te) (hc : PE X c (tC (.ty j.name)))
    (h1 : starEach [e, c] X.env = (false, eval e X.env) :: starEach [c] X.env := by rfl) (h2 : starEach [c] X.env = (false, eval c X.env) :: starEach [] X.env := by rfl) (hpl : (backTo pos (starEach [c] X.env)).any (·.1) = false := by rfl) :
    DE X B (.Call (.Name "isinstance" p) [e, c] [] pos) (dIsK j te) :=
  PE.weak (pe_callB call_isi hg hm hv (pa_cons ha (pa_cons hc pa_nil h2) h1) (he := h1) (hpl := hpl)) fun σ H Q ⟨F, G, δ, Qd, S, h, k⟩ => ⟨F, G, δ, _, S, h, fun v H1 ⟨F1, G1, d, s1, S1, r1, h1⟩ => by
    cases q : isK d G1 j with
    | none => simp only [q] at h1
    | some b =>
      simp only [q] at h1
      obtain ⟨t, ty, kt⟩ := isK_ty S1 r1 q
      exact ⟨v, .ty _, t, _, b, rfl, .ty _, ty, kt, k _ _ ⟨F1, G1, _, s1, S1, .bl b, h1⟩⟩⟩
/-- isinstance(x, C), C an own class -/
def dIsC (K : PySem.W.Frag) (C : Addr) (te : TED) : TED := fun δ G Q => te δ G fun d G1 => ∃ t b, TyD K d G1 t ∧ PySem.W.kitOne K t (.ref C) = some b ∧ Q (.bl b) G1
theorem de_isC {c : Expr} {C : Addr} (hg : Gl X "isinstance") (hm : X.mg "isinstance" = none) (hv : bootBuiltins "isinstance" = some (.builtin "isinstance")) (ha : DE X B e te) (hc : PE X c (tC (.ref C)))
    (h1 : starEach [e, c] X.env = (false, eval e X.env) :: starEach [c] X.env := by rfl) (h2 : starEach [c] X.env = (false, eval c X.env) :: starEach [] X.env := by rfl) (hpl : (backTo pos (starEach [c] X.env)).any (·.1) = false := by rfl) :
    DE X B (.Call (.Name "isinstance" p) [e, c] [] pos) (dIsC X.K C te) :=
  PE.weak (pe_callB call_isi hg hm hv (pa_cons ha (pa_cons hc pa_nil h2) h1) (he := h1) (hpl := hpl)) fun σ H Q ⟨F, G, δ, Qd, S, h, k⟩ => ⟨F, G, δ, _, S, h, fun v H1 ⟨F1, G1, d, s1, S1, r1, t, b, ty, kt, h1⟩ =>
    ⟨v, .ref C, t, _, b, rfl, .own C, tyD_ty S1 r1 ty, kt, k _ _ ⟨F1, G1, _, s1, S1, .bl b, h1⟩⟩⟩
/-- isinstance(e, C), e a caught exception -/
def dIsX (K : PySem.W.Frag) (C : Addr) (te : TED) : TED := fun δ G Q => te δ G fun d G1 => match d with | .exc A _ => ∃ b, PySem.W.kitOne K (.ref A) (.ref C) = some b ∧ Q (.bl b) G1 | _ => False
theorem de_isX {c : Expr} {C : Addr} (hg : Gl X "isinstance") (hm : X.mg "isinstance" = none) (hv : bootBuiltins "isinstance" = some (.builtin "isinstance")) (ha : DE X B e te) (hc : PE X c (tC (.ref C)))
    (h1 : starEach [e, c] X.env = (false, eval e X.env) :: starEach [c] X.env := by rfl) (h2 : starEach [c] X.env = (false, eval c X.env) :: starEach [] X.env := by rfl) (hpl : (backTo pos (starEach [c] X.env)).any (·.1) = false := by rfl) :
    DE X B (.Call (.Name "isinstance" p) [e, c] [] pos) (dIsX X.K C te) :=
  PE.weak (pe_callB call_isX hg hm hv (pa_cons ha (pa_cons hc pa_nil h2) h1) (he := h1) (hpl := hpl)) fun σ H Q ⟨F, G, δ, Qd, S, h, k⟩ => ⟨F, G, δ, _, S, h, fun v H1 ⟨F1, G1, d, s1, S1, r1, h1⟩ => by
    cases d with
    | exc A fs =>
      obtain ⟨b, kt, h1⟩ := h1
      cases r1 with
      | exc hx g rf => exact ⟨_, A, _, .ref C, _, b, rfl, .own C, g, hx.same S1.ds.sub, kt, k _ _ ⟨F1, G1, _, s1, S1, .bl b, h1⟩⟩
    | _ => exact h1.elim⟩
/-- e.f, e a caught exception -/
def dXa (K : PySem.W.Frag) (f : Str) (te : TED) : TED := fun δ G Q => te δ G fun d G1 => match d with | .exc C fs => XfC K C ∧ PySem.W.findIn K (.ref C) f = some none ∧ (match fs.lookup f with | some y => Q y G1 | none => False) | _ => False
theorem de_xa {n : Str} (he : DE X B e te) (hb : attributeBase e n X.env (eval e X.env) = eval e X.env := by rfl) : DE X B (.Attribute e n pos) (dXa X.K n te) :=
  PE.weak (pe_xa he hb) fun σ H Q ⟨F, G, δ, Qd, S, h, k⟩ => ⟨F, G, δ, _, S, h, fun v H1 ⟨F1, G1, d, s1, S1, r1, h1⟩ => by
    cases d with
    | exc C fs =>
      obtain ⟨xf, no, h1⟩ := h1
      cases l : fs.lookup n with
      | none => simp only [l] at h1
      | some y =>
        simp only [l] at h1
        cases r1 with
        | exc hx g rf =>
          obtain ⟨u, lu, ru⟩ := rf.look l
          exact ⟨_, C, _, u, rfl, xf, no, hx.same S1.ds.sub, lu, k _ _ ⟨F1, G1, _, s1, S1, ru, h1⟩⟩
    | _ => exact h1.elim⟩
def CallA (K : PySem.W.Frag) (rv : List V → Hp → VK → Prop) (r : List D → Gm → QD → Prop) : Prop := ∀ (B : Bs) (σ : L2.St) (δ : SD) (H F : Hp) (G : Gm) (xs : List V) (ds : List D) (Qd : QD) (Q : VK), Sit K B σ H F δ G → RepAll K F xs ds → r ds G Qd → (∀ v H', Beh K B σ F δ Qd v H' → Q v H') → rv xs H Q
def dCB (r : List D → Gm → QD → Prop) (t : TAD) : TED := fun δ G Q => t δ G fun ds G1 => r ds G1 Q
theorem cb_adeq {rv : List V → Hp → VK → Prop} {r : List D → Gm → QD → Prop} (hA : CallA K rv r) {Q : VK} (h : up K B (dCB r t) σ H Q) : tCB rv (upA K B t) σ H Q := by
  obtain ⟨F, G, δ, Qd, S, h, k⟩ := h
  exact ⟨F, G, δ, _, S, h, fun vs H1 ⟨F1, G1, ds, s1, S1, r1, h1⟩ => hA B σ δ H1 F1 G1 vs ds Qd Q S1 r1 h1 fun v H' ⟨F', G', d, s', S', r', q'⟩ => k v H' ⟨F', G', d, s1.trans s', S', r', q'⟩⟩
theorem de_callB {id : String} {x : Str} {rv : List V → Hp → VK → Prop} {r : List D → Gm → QD → Prop} (hc : CallR X (.builtin id) rv) (hA : CallA X.K rv r) (hg : Gl X x) (hm : X.mg x = none) (hv : bootBuiltins x = some (.builtin id)) (ha : DA X B (e :: es) t) (hn : x ≠ "__name__" := by decide) (hdb : (x == ("__debug__" : Str)) = false := by decide)
    (he : starEach (e :: es) X.env = (false, eval e X.env) :: starEach es X.env := by rfl) (hpl : (backTo pos (starEach es X.env)).any (·.1) = false := by rfl) : DE X B (.Call (.Name x p) (e :: es) [] pos) (dCB r t) :=
  PE.weak (pe_callB hc hg hm hv ha (hn := hn) (hdb := hdb) (he := he) (hpl := hpl)) fun σ H Q h => cb_adeq hA h
theorem de_callTy {T : String} {x : Str} {rv : List V → Hp → VK → Prop} {r : List D → Gm → QD → Prop} (hc : CallR X (.type T) rv) (hA : CallA X.K rv r) (hg : Gl X x) (hm : X.mg x = none) (hv : bootBuiltins x = some (.type T)) (ha : DA X B (e :: es) t) (hn : x ≠ "__name__" := by decide) (hdb : (x == ("__debug__" : Str)) = false := by decide)
    (he : starEach (e :: es) X.env = (false, eval e X.env) :: starEach es X.env := by rfl) (hpl : (backTo pos (starEach es X.env)).any (·.1) = false := by rfl) : DE X B (.Call (.Name x p) (e :: es) [] pos) (dCB r t) :=
  PE.weak (pe_callTy hc hg hm hv ha (hn := hn) (hdb := hdb) (he := he) (hpl := hpl)) fun σ H Q h => cb_adeq hA h
theorem repAll1 {vs : List V} {d : D} (r : RepAll K F vs [d]) : ∃ v, vs = [v] ∧ Rep K F v d := by
  cases r with
  | cons h t => cases t; exact ⟨_, rfl, h⟩
theorem repAll2 {vs : List V} {d d' : D} (r : RepAll K F vs [d, d']) : ∃ v u, vs = [v, u] ∧ Rep K F v d ∧ Rep K F u d' := by
  cases r with
  | cons h t =>
    obtain ⟨u, rfl, h2⟩ := repAll1 t
    exact ⟨_, u, rfl, h, h2⟩
abbrev LD := List D → Gm → QD → Prop
/-- len -/
def lenD : LD := fun ds G Q => match ds with
  | [.str z] => z.length ≤ sizeLine ∧ Q (.int z.length) G
  | [d] => (match seqD d G with | some es => Q (.int es.length) G | none => False)
  | _ => False
abbrev rLen2 (K : PySem.W.Frag) : List V → Hp → VK → Prop := fun xs H Q => (∃ p ys, xs = [.ref p] ∧ (SqL K H p ys ∨ SqT K H p ys) ∧ Q (.int ys.length) H) ∨ (∃ z, xs = [.str z] ∧ z.length ≤ sizeLine ∧ Q (.int z.length) H)
theorem call_len2 : CallR X (.builtin "len") (rLen2 X.K) := call_len_seq.or call_len_str
theorem len_A : CallA K (rLen2 K) lenD := fun B σ δ H F G xs ds Qd Q S r h k => by
  have main : ∀ {d : D}, ds = [d] → (match seqD d G with | some es => Qd (.int es.length) G | none => False) → rLen2 K xs H Q := fun {d} ed hh => by
    subst ed
    obtain ⟨v, rfl, rv⟩ := repAll1 r
    cases e : seqD d G with
    | none =>
      rw [e] at hh
      exact hh.elim
    | some es =>
      rw [e] at hh
      obtain ⟨p, xs, rfl, hs, ra⟩ := seq_rep S rv e
      exact .inl ⟨p, xs, rfl, hs, k _ _ (.val S (.int _) (by rw [ra.length]; exact hh))⟩
  unfold lenD at h
  split at h
  · obtain ⟨v, rfl, rv⟩ := repAll1 r
    rw [rep_str rv]
    exact .inr ⟨_, rfl, h.1, k _ _ (.val S (.int _) h.2)⟩
  · exact main rfl h
  · exact h.elim
theorem rep_bls {xs : List V} : ∀ {ns : List Bool}, RepAll K F xs (ns.map .bl) → xs = ns.map V.bl := by
  intro ns
  induction ns generalizing xs with
  | nil => intro r; cases r; rfl
  | cons n ns ih => intro r; cases r with | cons h t => cases h; rw [ih t]; rfl
def allD : LD := fun ds G Q => ∃ bs : List Bool, ds = [.lst (bs.map .bl)] ∧ Q (.bl (bs.all id)) G
theorem all_A : CallA K (rAll K) allD := fun B σ δ H F G xs ds Qd Q S r ⟨ns, e, h⟩ k => by
  subst e
  obtain ⟨v, rfl, rv⟩ := repAll1 r
  obtain ⟨p, us, rfl, e1, q1⟩ := rep_lst rv
  exact ⟨p, ns, rfl, .of (by rw [← rep_bls q1]; exact S.ds.sub _ _ e1), k _ _ (.val S (.bl _) h)⟩
end
end JP
namespace JP
open PySem PySem.Spec PyProof.Rows L2
section
variable {X : Cx} {B : Bs} {K : PySem.W.Frag} {a b e o : Expr} {es : List Expr} {ta tb te to : TED} {t : TAD} {pos p apos : Pos}
variable {σ : L2.St} {H F : Hp} {δ : SD} {G : Gm} {W : WD}
def lsM (d : D) (G : Gm) : Option (Addr × List D) := match d with
  | .adr a => match G a with | some (.lst ds) => some (a, ds) | _ => none
  | _ => none
theorem lsM_rep {v : V} {d : D} {a : Addr} {ds : List D} (S : Sit K B σ H F δ G) (r : Rep K F v d) (h : lsM d G = some (a, ds)) : d = .adr a ∧ v = .ref a ∧ G a = some (.lst ds) ∧ ∃ xs, H a = some (.lst xs) ∧ RepAll K F xs ds := by
  cases d with
  | adr a' =>
    cases r
    cases g : G a' with
    | none => simp [lsM, g] at h
    | some mo =>
      cases mo with
      | lst es =>
        simp only [lsM, g, Option.some.injEq, Prod.mk.injEq] at h
        obtain ⟨rfl, rfl⟩ := h
        obtain ⟨xs, e, q⟩ := (S.ds.mu _ _ g).2
        exact ⟨rfl, rfl, g, xs, e, q⟩
      | _ => simp [lsM, g] at h
  | _ => simp [lsM] at h
def dApp (to te : TED) : TED := fun δ G Q => to δ G fun d G1 => match lsM d G1 with
  | some _ => te δ G1 fun y G2 => (match lsM d G2 with | some (a, ds) => ds.length < sizeLine ∧ Q .non (updG G2 a (.lst (ds ++ [y]))) | none => False)
  | none => False
theorem de_append (ho : DE X B o to) (he : DE X B e te)
    (hbase : attributeBase o (Str.ofString "append") X.env (eval o X.env) = eval o X.env := by rfl)
    (hfew : ((backTo pos (starEach (e :: []) X.env)).all (fun x => !x.1) && (backToKw pos (keywordEach [] X.env)).all (fun x => x.1.isSome)
      && decide ((e :: ([] : List Expr)).length + ([] : List Keyword).length + (if ([] : List Keyword).isEmpty then 0 else 1) < 30)) = true := by rfl)
    (hline : (apos.endLine == pos.line) = true := by rfl) (hs : starEach (e :: []) X.env = (false, eval e X.env) :: starEach [] X.env := by rfl) (hplain : (backTo pos (starEach [] X.env)).any (·.1) = false := by rfl) :
    DE X B (.Call (.Attribute o (Str.ofString "append") apos) [e] [] pos) (dApp to te) :=
  PE.weak (pe_bm PySem.F.plainAttrs_list PySem.F.slot_list_append PySem.F.type_list_append mt_append ho (pa_cons he pa_nil hs) (hbase := hbase) (hfew := hfew) (hline := hline) (hs := hs) (hplain := hplain)) fun σ H Q ⟨F, G, δ, Qd, S, h, k⟩ => ⟨F, G, δ, _, S, h, fun v H1 ⟨F1, G1, d, s1, S1, r1, h1⟩ => by
    cases q : lsM d G1 with
    | none => simp only [q] at h1
    | some ad =>
      obtain ⟨a, ds⟩ := ad
      simp only [q] at h1
      obtain ⟨rfl, rfl, g, xs, e1, ra⟩ := lsM_rep S1 r1 q
      refine ⟨.inl ⟨rfl, xs, .of e1⟩, F1, G1, δ, _, S1, h1, fun y H2 ⟨F2, G2, dy, s2, S2, r2, h2⟩ => ?_⟩
      cases q2 : lsM (.adr a) G2 with
      | none => simp only [q2] at h2
      | some ad2 =>
        obtain ⟨a2, ds2⟩ := ad2
        simp only [q2] at h2
        obtain ⟨e3, e4, g2, xs2, e5, ra2⟩ := lsM_rep S2 (.adr a) q2
        cases e4
        refine ⟨a, xs2, y, rfl, rfl, e5, by rw [ra2.length]; exact h2.1, k _ _ ⟨F2, _, .non, s1.trans s2, ⟨S2.ds.write (m' := .lst (ds2 ++ [dy])) g2 ⟨_, upd_same, ra2.append (.cons r2 .nil)⟩, S2.gr, S2.sl⟩, .non, h2.2⟩⟩⟩
section
variable {k : Nat} {f C pa : Addr} {mc : Value} {fd : FuncData} {ps ks : List Str} {sp : SpD} {x m : Str} {kws : List Keyword} {tk : TAD} {gg : List Value → List Value → List Value} {gV : List V → List V → List V} {gD : List D → List D → List D}
/-- into a def from a state, its end to be looked at -/
theorem low_at {Qd : QD} {Q : VK} {vs : List V} {ds : List D} (S : Sit K B σ H F δ G) (r : RepAll K F vs ds) (h : sp ds G Qd W) (kk : ∀ v H', Beh K B σ F δ Qd v H' → Q v H') : lowSp K sp vs H Q (XW K B W) := low_of kk (.refl F) S r h
def strOD (C : Addr) (sp : SpD) (W : WD) : LD := fun ds G Q => match ds with
  | [d] => (match insD d G with | some (C', _) => C' = C ∧ sp [d] G (fun z G1 => match z with | .str n => Q (.str n) G1 | _ => False) W | none => False)
  | _ => False
theorem de_strO (M : OwnM X.K C "__str__" f) (Fn : FnD X.prog X.w X.K X.mg X.base k f fd ps sp) (hb : Binds X.K fd ps []) (hr : Room (k + 2) X.A) (hx : Passes (L2.CX X.prog X.w) X (XW X.K B W)) (hg : Gl X "str") (hm : X.mg "str" = none) (hv : bootBuiltins "str" = some (.type "str")) (ha : DA X B [e] t)
    (he : starEach [e] X.env = (false, eval e X.env) :: starEach [] X.env := by rfl) (hpl : (backTo pos (starEach [] X.env)).any (·.1) = false := by rfl) : DE X B (.Call (.Name "str" p) [e] [] pos) (dCB (strOD C sp W) t) :=
  PE.weak (pe_callTy (call_strO M Fn hb hr hx) hg hm hv ha (he := he) (hpl := hpl)) fun σ H Q ⟨F, G, δ, Qd, S, h, kk⟩ => ⟨F, G, δ, _, S, h, fun vs H1 ⟨F1, G1, ds, s1, S1, r1, h1⟩ => by
    unfold strOD at h1
    split at h1
    case h_2 => exact h1.elim
    case h_1 d =>
      obtain ⟨v, rfl, r⟩ := repAll1 r1
      cases q : insD d G1 with
      | none => simp only [q] at h1
      | some cf =>
        obtain ⟨C', fs⟩ := cf
        simp only [q] at h1
        obtain ⟨rfl, h2⟩ := h1
        obtain ⟨a, dx, fv, rfl, e1, gc, na, rf⟩ := ins_rep S1 r q
        refine ⟨a, dx, fv, rfl, e1, low_at S1 (.cons r .nil) h2 fun v H' ⟨F', G', d', s', S', r', q'⟩ => ?_⟩
        cases d' with
        | str n =>
          cases r'
          exact ⟨n, rfl, kk _ _ ⟨F', G', _, s1.trans s', S', .str _, q'⟩⟩
        | _ => exact q'.elim⟩
/-- x == y, x != y, x of the class C -/
def eqOD (K : PySem.W.Frag) (C : Addr) (sp : SpD) (W : WD) (neg : Bool) : R2D := fun a b G Q => match insD a G with
  | some (C', _) => C' = C ∧ (∃ t, TyD K b G t ∧ PySem.W.notFirst K C t = true) ∧ sp [a, b] G (fun z G1 => match z with | .bl c => Q (.bl (if neg then !c else c)) G1 | _ => False) W
  | none => False
theorem eqO_A {B : Bs} {σ : L2.St} {δ : SD} {H F : Hp} {G : Gm} {x y : V} {a b : D} {neg : Bool} {Qd : QD} {Q : VK} (S : Sit K B σ H F δ G) (r1 : Rep K F x a) (r2 : Rep K F y b) (h : eqOD K C sp W neg a b G Qd) (kk : ∀ v H', Beh K B σ F δ Qd v H' → Q v H') : rEqO C (lowSp K sp) (XW K B W) K neg x y H Q := by
  unfold eqOD at h
  cases q : insD a G with
  | none => simp only [q] at h
  | some cf =>
    obtain ⟨C', fs⟩ := cf
    simp only [q] at h
    obtain ⟨rfl, ⟨t, ty, nf⟩, h⟩ := h
    obtain ⟨ad, dx, fv, rfl, e1, gc, na, rf⟩ := ins_rep S r1 q
    refine ⟨ad, dx, fv, rfl, e1, ⟨t, tyD_ty S r2 ty, nf⟩, low_at S (.cons r1 (.cons r2 .nil)) h fun v H' ⟨F', G', d', s', S', r', q'⟩ => ?_⟩
    cases d' with
    | bl c =>
      cases r'
      exact ⟨c, rfl, kk _ _ ⟨F', G', _, s', S', .bl _, q'⟩⟩
    | _ => exact q'.elim
theorem de_eqO (M : OwnM X.K C "__eq__" f) (Fn : FnD X.prog X.w X.K X.mg X.base k f fd ps sp) (hb : Binds X.K fd ps []) (hr : Room k X.A) (hx : Passes (L2.CX X.prog X.w) X (XW X.K B W)) (ha : DE X B a ta) (hb2 : DE X B b tb) : DE X B (.Compare a [.Eq] [b] pos) (dOp (eqOD X.K C sp W false) ta tb) :=
  PE.weak (pe_cmpR (op_eqO M Fn hb hr hx) ha hb2 (nomark _)) fun σ H Q ⟨F, G, δ, Qd, S, h, k⟩ => up2 S h fun x y H2 F2 G2 d e s2 S2 r1 r2 h2 => eqO_A S2 r1 r2 h2 fun v H' ⟨F', G', d', s', S', r', q'⟩ => k v H' ⟨F', G', d', s2.trans s', S', r', q'⟩
theorem dt_eqO (M : OwnM X.K C "__eq__" f) (Fn : FnD X.prog X.w X.K X.mg X.base k f fd ps sp) (hb : Binds X.K fd ps []) (hr : Room k X.A) (hx : Passes (L2.CX X.prog X.w) X (XW X.K B W)) (ha : DE X B a ta) (hb2 : DE X B b tb) : DT X B (.Compare a [.Eq] [b] pos) (dTest (dOp (eqOD X.K C sp W false) ta tb)) :=
  PT.weak (pt_cmpR (op_eqO M Fn hb hr hx) ha hb2 (nomark _)) fun σ H Q q => by
    obtain ⟨F, G, δ, Qd, S, h, k⟩ := q
    refine up2 S h fun x y H2 F2 G2 d e s2 S2 r1 r2 h2 => eqO_A S2 r1 r2 h2 fun v H' ⟨F', G', d', s', S', r', q'⟩ => ?_
    cases d' with
    | bl b =>
      cases r'
      exact ⟨b, rfl, k b H' ⟨F', G', s2.trans s', S', q'⟩⟩
    | _ => exact q'.elim
/-- x(..), x an instance of C -/
def isO : D → Bool
  | .ins _ _ => true
  | .adr _ => true
  | _ => false
theorem isO_ref {v : V} {d : D} (r : Rep K F v d) (h : isO d = true) : ∃ a, v = .ref a := by
  cases r <;> first | exact ⟨_, rfl⟩ | cases h
def dCallO (C : Addr) (sp : SpD) (W : WD) (tf : TED) (t : TAD) : TED := fun δ G Q => tf δ G fun d G1 => isO d = true ∧ t δ G1 fun ds G2 => match insD d G2 with | some (C', _) => C' = C ∧ sp (d :: ds) G2 Q W | none => False
end
end
end JP
namespace JP
open PySem PySem.Spec PyProof.Rows L2
section
variable {X : Cx} {B : Bs} {K : PySem.W.Frag} {e : Expr} {te : TED} {pos p : Pos}
theorem dv (i : Nat) {x : Str} {pos : Pos} (hN : X.N[i]? = some x := by rfl) (hv : Vis X.env.scope x := by first | exact Or.inl rfl | exact Or.inr (Or.inl rfl) | exact Or.inr (Or.inr rfl)) (hd : (x == ("__debug__" : Str)) = false := by decide)
    (hcd : (x == ("__classdict__" : Str)) = false := by decide) : DE X B (.Name x pos) (dVar i) := de_var hN hv hd hcd
theorem de_dict0 : DE X B (.Dict [] [] pos) (dC (.dic [])) :=
  PE.weak pe_dnewK fun σ H Q ⟨F, G, δ, Qd, S, h, k⟩ => fun p n => k _ _ (.new S (.refl F) n (.dk (.of upd_same) .nil) h)
theorem de_isCK {c : Expr} {C : Addr} (hK : X.K = K) (hg : Gl X "isinstance") (hm : X.mg "isinstance" = none) (hv : bootBuiltins "isinstance" = some (.builtin "isinstance")) (ha : DE X B e te) (hc : PE X c (tC (.ref C)))
    (h1 : starEach [e, c] X.env = (false, eval e X.env) :: starEach [c] X.env := by rfl) (h2 : starEach [c] X.env = (false, eval c X.env) :: starEach [] X.env := by rfl) (hpl : (backTo pos (starEach [c] X.env)).any (·.1) = false := by rfl) :
    DE X B (.Call (.Name "isinstance" p) [e, c] [] pos) (dIsC K C te) := hK ▸ de_isC hg hm hv ha hc h1 h2 hpl
theorem de_isXK {c : Expr} {C : Addr} (hK : X.K = K) (hg : Gl X "isinstance") (hm : X.mg "isinstance" = none) (hv : bootBuiltins "isinstance" = some (.builtin "isinstance")) (ha : DE X B e te) (hc : PE X c (tC (.ref C)))
    (h1 : starEach [e, c] X.env = (false, eval e X.env) :: starEach [c] X.env := by rfl) (h2 : starEach [c] X.env = (false, eval c X.env) :: starEach [] X.env := by rfl) (hpl : (backTo pos (starEach [c] X.env)).any (·.1) = false := by rfl) :
    DE X B (.Call (.Name "isinstance" p) [e, c] [] pos) (dIsX K C te) := hK ▸ de_isX hg hm hv ha hc h1 h2 hpl
theorem de_xaK {n : Str} (hK : X.K = K) (he : DE X B e te) (hb : attributeBase e n X.env (eval e X.env) = eval e X.env := by rfl) : DE X B (.Attribute e n pos) (dXa K n te) := hK ▸ de_xa he hb
end
section
variable {P : Program} {w : World} {K : PySem.W.Frag} {mg : Str → Option Value} {base : Heap} {k : Nat} {f : Addr} {fd : FuncData} {ps : List Str}
theorem fn_any {CX : CXT} {sp : Sp} (F : FnOk P w K mg base CX0 k f fd ps sp) : FnOk P w K mg base CX k f fd ps sp :=
  ⟨F.len, fun A outer s H args us vs Q E hr e0 hb r h => codeAny_mono (F.run A outer s H args us vs Q E hr e0 hb r h) fun r s' q => by
    cases r with
    | error e => exact (show False from q).elim
    | ok fl => cases fl <;> exact q⟩
theorem DS.but {Tb : List (Addr × Str)} {F H H' Z : Hp} {G : Gm} {p : Addr} {m m' : MO} (d : DS K Tb F H G Z) (g : G p = some m) (b : But p H H') (r : MRep K F H' p m') : DS K Tb F H' (updG G p m') Z := by
  have hf := (d.mu p m g).1
  obtain ⟨u, hu, mu⟩ := (d.mu p m g).2.at_
  have hz : Z p = none := by
    cases e : Z p with
    | none => rfl
    | some u =>
      have := (d.zf p u e).2.1
      rw [g] at this
      cases this
  refine ⟨fun a o e => b a o (fun c => by rw [c, hf] at e; cases e) (d.sub a o e), fun a n e => ?_, fun a o e => b a o (fun c => by rw [c, hz] at e; cases e) (d.zub a o e), fun a o e => ?_, d.ft, fun q hq => ?_⟩
  · by_cases c : a = p
    · subst c
      rw [updG_same] at e
      cases e
      exact ⟨hf, r⟩
    · rw [updG_ne c] at e
      exact ⟨(d.mu a n e).1, (d.mu a n e).2.mono (.refl F) fun o q => b a o c q⟩
  · have c : a ≠ p := fun c => by rw [c, hz] at e; cases e
    exact ⟨(d.zf a o e).1, (updG_ne c).trans (d.zf a o e).2.1, (d.zf a o e).2.2⟩
  · obtain ⟨ps, h1, h3, h4⟩ := d.tab q hq
    refine ⟨ps, b _ _ (fun c => ?_) h1, h3, fun pos cv hc => ?_⟩
    · rw [c, hu] at h1
      cases h1
      exact mu
    · obtain ⟨c, e1, e2⟩ := h4 pos cv hc
      refine ⟨c, e1, b _ _ (fun c' => ?_) e2⟩
      rw [c', hu] at e2
      have e3 : u = LamX.CodeO _ q.2 := Option.some.inj e2
      rw [e3] at mu
      exact codeO_notM mu
def spDraw : Sp := fun vs H Q _ => ∃ (p c : Addr) (many : Int) (m : Nat), vs = [.ref p, .int many] ∧ Pen H p c m ∧ 1 ≤ many ∧ many < 2 ^ 60 ∧ m ≤ 2 ^ 20 ∧
  ∀ (r : Int) (H' : Hp), 0 ≤ r → r < many → Pen H' p c (m + 1) → But p H H' → Q (.int r) H'
def spPen (K : PySem.W.Frag) : Sp := fun vs H Q _ => ∃ (a : Addr) (ns : List Int), vs = [.ref a] ∧ SqL K H a (ns.map V.int) ∧ ns.length ≤ 63 ∧
  ∀ (p c : Addr) (H' : Hp), Same H H' → H p = none → H c = none → Pen H' p c 0 → Q (.ref p) H'
/-- a draw: any number below, one step of the pen -/
def drawD : SpD := fun ds G Q _ => ∃ (p : Addr) (n : Int) (m : Nat), ds = [.adr p, .int n] ∧ G p = some (.pen m) ∧ 1 ≤ n ∧ n < 2 ^ 60 ∧ m ≤ 2 ^ 20 ∧ ∀ r, 0 ≤ r → r < n → Q (.int r) (updG G p (.pen (m + 1)))
theorem draw_of (Fn : FnOk P w K mg base CX0 k f fd ps spDraw) : FnD P w K mg base k f fd ps drawD :=
  (fn_any Fn).imp fun vs H Q E ⟨B, G, ds, Qd, W, d, r, ⟨p, n, m, ed, g, n1, n2, hm, q⟩, kq, ke⟩ => by
    subst ed
    obtain ⟨v, u, rfl, r1, r2⟩ := repAll2 r
    cases r1
    cases r2
    obtain ⟨fp, c, ns, j, gg, h1, h2, h3, h4, h5, h6⟩ := d.mu p _ g
    have ncp : c ≠ p := fun e => by rw [e, fp] at h2; cases h2
    have hP : Pen H p c m := ⟨ns, j, gg, h1, d.sub _ _ h2, ncp, h3, h4, h5, h6⟩
    refine ⟨p, c, n, m, rfl, hP, n1, n2, hm, fun r H' r0 r1 hP' hB => kq _ _ ⟨B.F, _, .int r, .refl _, d.but g hB (m' := .pen (m + 1)) ?_, .refl _, .int r, q r r0 r1⟩⟩
    obtain ⟨ns', j', g', q1, q2, q3, q4, q5, q6, q7⟩ := hP'
    have e2 := hB c _ ncp (d.sub _ _ h2)
    rw [q2] at e2
    have e3 : ns'.map V.int = ns.map V.int := by injection Option.some.inj e2
    exact ⟨c, ns', j', g', q1, by rw [e3]; exact h2, q4, q5, q6, q7⟩
/-- the pen -/
def penD : SpD := fun ds G Q _ => ∃ ns, ds = [.scr ns] ∧ ns.length ≤ 63 ∧ ∀ p, G p = none → Q (.adr p) (updG G p (.pen 0))
theorem pen_of (Fn : FnOk P w K mg base CX0 k f fd ps (spPen K)) : FnD P w K mg base k f fd ps penD :=
  (fn_any Fn).imp fun vs H Q E ⟨B, G, ds, Qd, W, d, r, ⟨ns, ed, hl, q⟩, kq, ke⟩ => by
    subst ed
    obtain ⟨v, rfl, r1⟩ := repAll1 r
    cases r1 with
    | scr hs =>
      refine ⟨_, ns, rfl, same_seqL' d.sub hs, hl, fun p c H' s np nc hP => ?_⟩
      obtain ⟨ns', j', g', q1, q2, q3, q4, q5, q6, q7⟩ := hP
      have d1 := d.same s
      obtain ⟨d2, s2⟩ := d1.frz q2 (d.noG nc) (d.noZ nc)
      refine kq _ _ ⟨upd B.F c (.lst (ns'.map V.int)), updG G p (.pen 0), .adr p, s2, ⟨d2.sub, fun a n e => ?_, d2.zub, fun a o e => ?_, d2.ft, d2.tab⟩, s2, .adr p, q p (d.noG np)⟩
      · by_cases c' : a = p
        · subst c'
          rw [updG_same] at e
          cases e
          exact ⟨(upd_ne q3.symm).trans (d.noF np), c, ns', j', g', q1, upd_same, q4, q5, q6, q7⟩
        · rw [updG_ne c'] at e
          exact d2.mu a n e
      · have c' : a ≠ p := fun c => by rw [c, d.noZ np] at e; cases e
        exact ⟨(d2.zf a o e).1, (updG_ne c').trans (d2.zf a o e).2.1, (d2.zf a o e).2.2⟩
/-- the law: from the script to True -/
def lawD : SpD := fun ds G Q _ => ∃ ns, ds = [.scr ns] ∧ ns.length ≤ 63 ∧ (∀ a, G a = none) ∧ ∀ G', Q (.bl true) G'
end
end JP
namespace JP
open PySem PySem.Spec PyProof.Rows L2
/-- a thing whose type is told -/
def Told (d : D) (G : Gm) : Prop := (kiD d).isSome = true ∨ (insD d G).isSome = true
def isB (d : D) (j : Ki) : Bool := match kiD d with
  | some k => k.below j
  | none => false
theorem told_is {d : D} {G : Gm} (h : Told d G) {j : Ki} (hj : j ≠ .non) : isK d G j = some (isB d j) := by
  unfold isK isB
  cases q : kiD d with
  | some k => rfl
  | none =>
    rcases h with h | h
    · rw [q] at h; cases h
    · cases i : insD d G with
      | none => rw [i] at h; cases h
      | some _ => simp [hj]
theorem told_ki {d : D} {G : Gm} {k : Ki} (h : kiD d = some k) : Told d G := .inl (by rw [h]; rfl)
/-- for, by a word; each turn is told of any end -/
theorem for_inv {g : TGD} {tb : TSD} {E : EndsD} (I : Nat → SD → Gm → Prop) {n : Nat} : ∀ (ds : List D) (j : Nat) (δ : SD) (G : Gm), j + ds.length = n →
    (∀ j δ G d (N : SD → Gm → Prop), d ∈ ds → j < n → I j δ G → (∀ δ' G', I (j + 1) δ' G' → N δ' G') → g d δ G fun δ1 G1 => tb { nx := N, rt := E.rt, bk := E.nx, ct := N } δ1 G1) → I j δ G → (∀ δ G, I n δ G → E.nx δ G) → forD g tb E ds δ G
  | [], j, δ, G, hj, _, h, hF => by
    have e : j = n := by simpa using hj
    subst e
    exact hF δ G h
  | d :: ds, j, δ, G, hj, hs, h, hF =>
    hs j δ G d _ List.mem_cons_self (by rw [List.length_cons] at hj; omega) h fun δ' G' q => for_inv I ds (j + 1) δ' G' (by rw [List.length_cons] at hj; omega) (fun j δ G e N he => hs j δ G e N (List.mem_cons_of_mem _ he)) q hF
theorem small1000 {n : Nat} (h : n ≤ 1000) : n ≤ sizeLine := by
  rw [sizeLine_eq]
  omega
/-- the class facts that GoodC wants -/
theorem gc_kt {K : PySem.W.Frag} {C : Addr} (h1 : PySem.W.kitOne K (.ref C) (.type "int") = some false) (h2 : PySem.W.kitOne K (.ref C) (.type "str") = some false) (h3 : PySem.W.kitOne K (.ref C) (.type "bool") = some false) (h4 : PySem.W.kitOne K (.ref C) (.type "list") = some false)
    (h5 : PySem.W.kitOne K (.ref C) (.type "tuple") = some false) (h6 : PySem.W.kitOne K (.ref C) (.type "dict") = some false) (h7 : PySem.W.kitOne K (.ref C) (.type "set") = some false) (h8 : PySem.W.kitOne K (.ref C) (.type "bytes") = some false) (h9 : PySem.W.kitOne K (.ref C) (.type "float") = some false) :
    ∀ n ∈ tyNames, PySem.W.kitOne K (.ref C) (.type n) = some false := by
  intro n hn
  simp only [tyNames, List.mem_cons, List.not_mem_nil, or_false] at hn
  rcases hn with rfl | rfl | rfl | rfl | rfl | rfl | rfl | rfl | rfl <;> assumption
end JP
namespace JP
open PySem PySem.Spec PyProof.Rows L2
section
variable {K : PySem.W.Frag} {Tb : List (Addr × Str)} {F F' H H' Z : Hp} {G : Gm}
theorem DS.extN (d : DS K Tb F H G Z) (s : LamX.ExtN H H') (t : LamX.Tabs Tb H') : DS K Tb F H' G Z :=
  ⟨fun a o e => s _ _ (d.sub a o e) fun ps z => by
      subst z
      exact d.ft a _ e,
    fun a m e => ⟨(d.mu a m e).1, (d.mu a m e).2.mono (.refl F) fun o q => s _ _ q fun ps z => by
      subst z
      obtain ⟨o', q', mu⟩ := (d.mu a m e).2.at_
      rw [q] at q'
      cases q'
      exact mu⟩,
    fun a o e => s _ _ (d.zub a o e) fun ps z => by
      subst z
      exact (d.zf a _ e).2.2,
    d.zf, d.ft, t⟩
/-- a reading of the lambda's call, by trees -/
abbrev CallD := WD → Gm → QD → Prop
def tlD (K : PySem.W.Frag) (B : Bs) (F0 : Hp) (tl : XK → Hp → VK → Prop) : CallD := fun W G Qd => ∀ (F H : Hp) (E : XK) (Q : VK), Same F0 F → DS K B.T F H G B.Z →
  (∀ cls dd H', XW K ⟨F, B.Z, B.T⟩ W cls dd H' → E cls dd H') → (∀ v H', BehR K ⟨F, B.Z, B.T⟩ F Qd v H' → Q v H') → tl E H Q
abbrev HearD := CallD → Gm → QD → Prop
def TTH (K : PySem.W.Frag) (B : Bs) (hd : HearD) : (XK → Hp → VK → Prop) → Hp → VK → Prop := fun tl H Q =>
  ∃ F G Qd, Same B.F F ∧ DS K B.T F H G B.Z ∧ (∀ v H', BehR K B F Qd v H' → Q v H') ∧ hd (tlD K B F tl) G Qd
def dLam (hd : HearD) (T : WD → TED) : TED := fun δ G Qd => hd (fun W G' Q' => T W δ G' Q') G Qd
def MonoH (hd : HearD) : Prop := ∀ (c c' : CallD) (G : Gm) (Q : QD), (∀ W G Q, c W G Q → c' W G Q) → hd c G Q → hd c' G Q
end
section
variable {X : Cx} {B : Bs}
theorem de_lam {hd : HearD} {x a : Str} {g c P : Addr} {k : Nat} {pg : Arguments} {bg : List Stmt} {sg : Scope} {dV kV doc pm cdv ct oc : Value} {an od : Option Addr} {osl : Array (Option Value)} {Ng : List Str}
    {params : Arguments} {body : Expr} {scope : Scope} {T : WD → TED} {p lpos pos : Pos} (mono : MonoH hd) (hg : Gl X x) (hm : X.mg x = some (.ref g)) (hk : PySem.W.keepIn X.K (.ref g) = true)
    (lk : X.K.lookup g = some ⟨oc, od, .func (PySem.W.fnOf x x pg bg sg dV kV doc pm an cdv ct), osl⟩) (hcg : PySem.W.codeIn X.K cdv x = true) (hb : L2.Binds X.K (PySem.W.fnOf x x pg bg sg dV kV doc pm an cdv ct) [a] []) (Sg : FnScope Ng [a] sg) (hNg : Ng[0]? = some a) (hva : Vis sg a)
    (hG : LamX.GivesTo X Ng x sg g cdv bg a (X.env.qual ++ "<lambda>") (TTH X.K B hd))
    (TB : LamX.TabB X.base X.mg c P) (hcode : X.env.code = .ref c) (hmT : (P, X.env.qual ++ "<lambda>") ∈ B.T) (hu : ∀ p ∈ B.T, p.1 = P → p.2 = X.env.qual ++ "<lambda>") (hr : Room (k + 2) X.A) (L : LamX.LamS X.env.scope scope) (hdef : defaultsOf params X.env = ([], []))
    (hbind : ∀ (q : Str) (cl : List (Str × Addr)) (pm cv ctv : Value), bindArgs (PySem.W.kla_fn "<lambda>" q params body scope cl pm cv ctv) ⟨[], []⟩ = pure [])
    (hbody : ∀ (A : Around) (outer : List Env) (s : Shared) (H : Hp) (E : XK) (f c' : Addr) (B' : Bs) (W : WD), B'.T = B.T → B'.Z = B.Z → Room k (A.deeper (LamX.lamEnv X scope s.heap.objs.size f c')) →
      Takes (LamX.lamCx X A outer s H E scope f c') (fun cls d _ H => XW X.K B' W cls d H) → DE (LamX.lamCx X A outer s H E scope f c') B' body (T W))
    (hdb : (x == ("__debug__" : Str)) = false := by decide) (hd1 : (a == ("__debug__" : Str)) = false := by decide) (hcd : (a == ("__classdict__" : Str)) = false := by decide) :
    DE X B (.Call (.Name x p) [.Lambda params body scope lpos] [] pos) (dLam hd T) :=
  PE.weak (LamX.pe_lamcall (T := B.T) (t := fun E σ H Q => ∃ (B' : Bs) (W : WD), B'.T = B.T ∧ B'.Z = B.Z ∧ (∀ cls dd H', XW X.K B' W cls dd H' → E cls dd H') ∧ up X.K B' (T W) σ H Q) hg hm hk lk hcg hb Sg hNg hva hG TB hcode hmT hu hr L hdef hbind
    (fun A outer s H E f c' hr' => ⟨fun pins s' σ H' Q I ⟨B', W, e1, e2, hE, h⟩ => (hbody A outer s H E f c' B' W e1 e2 hr' ((takes_of rfl rfl rfl rfl).imp fun cls d _ H q => hE cls d H q)).run pins s' σ H' Q I h⟩) hdb hd1 hcd)
    fun σ H Q ⟨F, G, δ, Qd, S, h, kk⟩ => ⟨S.ds.tab, fun H1 e1 t1 => ⟨F, G, Qd, S.gr, S.ds.extN e1 t1, fun v H' ⟨F', G', d, s', ds', gr', r', q'⟩ => kk v H' ⟨F', G', d, s', ⟨ds', gr', S.sl.mono s'⟩, r', q'⟩,
      mono _ _ _ _ (fun W G' Q' hT F2 H2 E Q2 s2 d2 xe kq => ⟨⟨F2, B.Z, B.T⟩, W, rfl, rfl, xe, F2, G', δ, Q', ⟨d2, .refl F2, S.sl.mono s2⟩, hT, fun v H' ⟨F', G'', d, s', S', r', q'⟩ => kq v H' ⟨F', G'', d, s', S'.ds, s', r', q'⟩⟩) h⟩⟩
def dAct (f : Addr) (hc : CallD) (W : WD) : TED := fun δ G Q => (match δ[0]? with | some (some (D.adr f')) => f' = f | _ => False) ∧ hc W G Q
theorem codeO_notT {c : Addr} {q : Str} : notT (LamX.CodeO c q) := trivial
abbrev hearCx (X : Cx) (Ng : List Str) (x : Str) (sg : Scope) (g : Addr) (cdg : Value) (s : Shared) (H : Hp) : Cx := cxOf C8.CX0 X.prog X.w X.K X.mg X.base Ng x sg g cdg X.A X.stack s H C8.E0
def MonoC (hc : CallD) : Prop := ∀ (W W' : WD) (G : Gm) (Q Q' : QD), (∀ C fs G, W C fs G → W' C fs G) → (∀ d G, Q d G → Q' d G) → hc W G Q → hc W' G Q'
theorem gives_of {hd : HearD} {x a q : Str} {g : Addr} {cdg : Value} {bg : List Stmt} {sg : Scope} {Ng : List Str}
    (h : ∀ (f : Addr) (s : Shared) (H : Hp) (B' : Bs) (hc : CallD), MonoC hc →
      (∀ (B2 : Bs) (W : WD) (pn : List (Addr × Obj)) (xe : Value → Shared → Prop) (p1 p2 : Pos), Same B'.F B2.F → B2.T = B'.T → B2.Z = B'.Z → Takes ((hearCx X Ng x sg g cdg s H).tr pn xe) (fun cls d _ H => XW X.K B2 W cls d H) →
        DE ((hearCx X Ng x sg g cdg s H).tr pn xe) B2 (.Call (.Name a p1) [] [] p2) (dAct f hc W)) →
      ∃ T, DB (hearCx X Ng x sg g cdg s H).nox B' bg T ∧ ∀ G Qd, hd hc G Qd → T { nx := fun _ G => Qd .non G, rt := Qd } (startD Ng [.adr f]) G) :
    LamX.GivesTo X Ng x sg g cdg bg a q (TTH X.K B hd) := by
  rintro f c' s H Q tl act hc ⟨F, G, Qd, sF, ds, kq, hh⟩
  obtain ⟨d1, s1⟩ := ds.frz hc (ds.notM hc codeO_notM).1 (ds.notM hc codeO_notM).2 codeO_notT
  obtain ⟨T, hT, hq⟩ := h f s H ⟨upd F c' (LamX.CodeO c' q), B.Z, B.T⟩ (tlD X.K B F tl) (fun W W' G Q Q' hW hQ q F2 H2 E2 Q2 s2 d2 xe kq => q F2 H2 E2 Q2 s2 d2 (fun cls dd H' ⟨F', G', C, fs, e, s', ds', xr, w⟩ => xe cls dd H' ⟨F', G', C, fs, e, s', ds', xr, hW _ _ _ w⟩) fun v H' ⟨F', G', d, s', ds', gr', r', q'⟩ => kq v H' ⟨F', G', d, s', ds', gr', r', hQ _ _ q'⟩) (fun B2 W pn xe p1 p2 sB eT eZ tk => by
    refine PE.weak (act (fun cls d _ H => XW X.K B2 W cls d H) pn xe (XW X.K B2 W) p1 p2 tk (fun _ _ _ _ z => z)) fun σ2 H2 Q2 ⟨F2, G2, δ2, Qd2, S2, ⟨h0, h1⟩, kk⟩ => ?_
    obtain ⟨BF, BZ, BT⟩ := B2
    obtain rfl : BT = B.T := eT
    obtain rfl : BZ = B.Z := eZ
    refine ⟨?_, S2.ds.sub _ _ (S2.gr _ _ (sB _ _ upd_same)), h1 F2 H2 _ _ (s1.trans (sB.trans S2.gr)) S2.ds (fun cls dd H' ⟨F', G', C, fs, e, s', ds', xr, w⟩ => ⟨F', G', C, fs, e, S2.gr.trans s', ds', xr, w⟩) fun v H' ⟨F', G', d, s', ds', gr', r', q'⟩ => kk v H' ⟨F', G', d, s', ⟨ds', S2.gr.trans s', S2.sl.mono s'⟩, r', q'⟩⟩
    cases e0 : δ2[0]? with
    | none => rw [e0] at h0; exact h0.elim
    | some o =>
      cases o with
      | none => rw [e0] at h0; exact h0.elim
      | some d =>
        rw [e0] at h0
        cases d with
        | adr f' =>
          obtain rfl : f' = f := h0
          obtain ⟨v, ev, rv⟩ := S2.sl.get 0 _ e0
          cases rv
          exact ev
        | _ => exact h0.elim)
  refine ⟨upS X.K _ T, hT, upd F c' (LamX.CodeO c' q), G, startD Ng [.adr f], _, ⟨d1, .refl _, sl_start (.cons (.adr f) .nil)⟩, hq G Qd hh, ?_⟩
  have kq' : ∀ v H', BehR X.K ⟨upd F c' (LamX.CodeO c' q), B.Z, B.T⟩ (upd F c' (LamX.CodeO c' q)) Qd v H' → Q v H' := fun v H' ⟨F', G', d, s', ds', gr', r', q'⟩ => kq v H' ⟨F', G', d, s1.trans s', ds', sF.trans (s1.trans s'), r', q'⟩
  exact ⟨fun σ H' ⟨F', G', δ', s', S', q'⟩ => kq' _ _ ⟨F', G', .non, s', S'.ds, S'.gr, .non, q'⟩, fun v H' q' => kq' v H' q', fun _ _ ⟨_, _, _, _, _, q'⟩ => q'.elim, fun _ _ ⟨_, _, _, _, _, q'⟩ => q'.elim⟩
theorem db_never {ss : List Stmt} : DB X B ss (fun _ _ _ => False) := PSs.weak pss_never fun D σ H ⟨F, G, δ, E, S, h, L⟩ => h
def tryHD (K : PySem.W.Frag) (C : Addr) (n j : Nat) (T : WD → TSD) : TSD := fun E δ G =>
  T (fun C' fs G' => fs ≠ [] ∧ ExcC K C' ∧ PySem.W.exmOne K (.ref C') (.ref C) = some true ∧ E.nx ((List.replicate n none).set j (some (.exc C' fs))) G') E δ G
theorem ds_tryH {x n m : Str} {C : Addr} {i j : Nat} {body : List Stmt} {np mp np' ap pos' pos : Pos} {T : WD → TSD}
    (hs : X.stack = X.env :: X.outer) (hf : X.env.frame = some X.env.locals) (hex : X.ex = []) (hN : X.N.Nodup) (hi : X.N[i]? = some n) (hj : X.N[j]? = some m) (hij : i ≠ j) (hln : X.env.kindOf n = some .local) (hc : Names X x (.ref C))
    (hsu : ∀ (a : Addr) (oe : Obj) (cls : Value) (d : Option Addr) (pn : List (Addr × Obj)), PSs (X.suite a ((a, oe) :: pn)) [.Assign [.Name m mp] (.Name n np') ap] (tAsg (tVar i) (gName j)))
    (hb : ∀ (B' : Bs) (W : WD) (pn : List (Addr × Obj)) (xe : Value → Shared → Prop), Same B.F B'.F → B'.T = B.T → B'.Z = B.Z → Takes (X.tr pn xe) (fun cls d _ H => XW X.K B' W cls d H) → DB (X.tr pn xe) B' body (T W)) :
    DSt X B (.Try body [.ExceptHandler (some (.Name x np)) (some n) [.Assign [.Name m mp] (.Name n np') ap] pos'] [] [] pos) (tryHD X.K C X.N.length j T) :=
  PS.weak (ps_try_heldL (tb := fun Wx D σ H => ∃ (B' : Bs) (W : WD), Same B.F B'.F ∧ B'.T = B.T ∧ B'.Z = B.Z ∧ (∀ cls d σ' H', XW X.K B' W cls d H' → Wx cls d σ' H') ∧ upS X.K B' (T W) D σ H) hs hf hex hN hi hln hc takesN
    (fun Wx pn xe tk po => ⟨fun pins s σ H D I ⟨B', W, e0, e1, e2, hW, h⟩ => (hb B' W pn xe e0 e1 e2 (tk.imp fun c d σ H q => hW c d σ H q)).run pins s σ H D I h⟩)
    (fun a oe cls d pn _ _ => hsu a oe cls d pn)) fun D σ H ⟨F, G, δ, E, S, h, L⟩ => by
    refine ⟨⟨F, B.Z, B.T⟩, _, S.gr, rfl, rfl, ?_, F, G, δ, E, ⟨S.ds, .refl F, S.sl⟩, h, ⟨fun σ' H' ⟨F', G', δ', s', S', q'⟩ => L.nx σ' H' ⟨F', G', δ', s', ⟨S'.ds, S.gr.trans s', S'.sl⟩, q'⟩, fun v H' ⟨F', G', d, s', ds', gr', r', q'⟩ => L.rt v H' ⟨F', G', d, s', ds', S.gr.trans s', r', q'⟩,
      fun σ' H' ⟨F', G', δ', s', S', q'⟩ => L.bk σ' H' ⟨F', G', δ', s', ⟨S'.ds, S.gr.trans s', S'.sl⟩, q'⟩, fun σ' H' ⟨F', G', δ', s', S', q'⟩ => L.ct σ' H' ⟨F', G', δ', s', ⟨S'.ds, S.gr.trans s', S'.sl⟩, q'⟩⟩⟩
    rintro cls dd σ' H' ⟨F', G', C', fs, rfl, s', ds', xr, ne, ec, em, q⟩ hlen
    refine ⟨true, em, fun _ a na => ?_, fun z => by cases z⟩
    rcases xr with ⟨_, z⟩ | ⟨a', fv, rfl, hx, rf⟩
    · exact absurd z ne
    have hil : i < σ'.length := by rw [hlen]; exact (List.getElem?_eq_some_iff.mp hi).1
    have hjl : j < σ'.length := by rw [hlen]; exact (List.getElem?_eq_some_iff.mp hj).1
    obtain ⟨d2, s2⟩ := ds'.new (o := xo a (.ref C') (some a')) na trivial
    refine ⟨.ref a, by rw [List.getElem?_set_self hil], ?_⟩
    refine L.nx _ _ ⟨_, G', _, s'.trans s2, ⟨d2, (S.gr.trans s').trans s2, ⟨by simp [hlen], fun k d e => ?_⟩⟩, q⟩
    rw [List.getElem?_set] at e
    split at e
    · rename_i ek
      subst ek
      split at e
      · cases e
        refine ⟨.ref a, ?_, .exc (.inl ⟨a', upd_same, s2 _ _ hx⟩) ec (rf.mono s2)⟩
        rw [List.getElem?_set_ne hij, List.getElem?_set_self (by simpa using hjl)]
      · cases e
    · rw [List.getElem?_replicate] at e
      split at e <;> cases e
end
def lowSpT (K : PySem.W.Frag) (Tb : List (Addr × Str)) (sp : SpD) : Sp := fun vs H Q E => ∃ (B : Bs) (G : Gm) (ds : List D) (Qd : QD) (W : WD), B.T = Tb ∧ DS K B.T B.F H G B.Z ∧ RepAll K B.F vs ds ∧ sp ds G Qd W ∧ (∀ v H', BehR K B B.F Qd v H' → Q v H') ∧ (∀ cls dd H', XW K B W cls dd H' → E cls dd H')
abbrev GnT (P : Program) (w : World) (K : PySem.W.Frag) (mg : Str → Option Value) (base : Heap) (Tb : List (Addr × Str)) (k : Nat) (f : Addr) (fd : FuncData) (ps : List Str) (sp : SpD) : Prop := GOk P w K mg base k f fd ps (lowSpT K Tb sp)
section
variable {P : Program} {w : World} {K : PySem.W.Frag} {mg : Str → Option Value} {base : Heap} {Tb : List (Addr × Str)} {k : Nat} {f : Addr} {fd : FuncData} {ps N : List Str} {sp : SpD}
theorem dfgT {x qual : Str} {st : Stmt} {c : Addr} (F : Fun K x qual st f fd) (hc : fd.code = .ref c) (S : FnScope N ps (defScope st)) (len : ∀ ds G Q W, sp ds G Q W → ds.length = ps.length)
    (body : ∀ (A : Around) (outer : List Env) (s : Shared) (H : Hp) (E : XK) (B : Bs), B.T = Tb → A.guards = some [] → Room k (A.deeper (envOfC qual (defScope st) s.heap.objs.size f (.ref c))) →
      ∃ T, DB (cxOf CX0 P w K mg base N qual (defScope st) f (.ref c) A outer s H E).nox B (defBody st) T ∧ ∀ ds G Q W, sp ds G Q W → T { nx := fun _ G => Q .non G, rt := Q } (startD N ds) G) :
    GnT P w K mg base Tb (k + 1) f fd ps sp := by
  obtain ⟨oc, od, kV, doc, pm, an, cdv, ct, osl, rfl, lk, hcd⟩ := F.ex
  obtain rfl : cdv = .ref c := hc
  refine ⟨fun vs H Q E ⟨B, G, ds, Qd, W, _, d, r, h, _, _⟩ => r.length.trans (len ds G Qd W h), fun A outer s H args us vs Q E g hr e0 hb rv ⟨B, G, ds, Qd, W, eT, d, r, h, kq, ke⟩ => ?_⟩
  refine LamX.run_ofS lk hcd S hr e0 hb rv (r.length.trans (len ds G Qd W h)) fun hr' => ?_
  obtain ⟨T, hT, hq⟩ := body A outer s H E B eT g hr'
  exact ⟨upS K B T, PSs.nox hT, B.F, G, startD N ds, _, ⟨d, .refl B.F, sl_start r⟩, hq ds G Qd W h, ⟨fun σ H' ⟨F', G', δ', s', S', q⟩ => kq _ _ ⟨F', G', .non, s', S'.ds, S'.gr, .non, q⟩, fun v H' q => kq v H' q, fun _ _ ⟨_, _, _, _, _, q⟩ => q.elim, fun _ _ ⟨_, _, _, _, _, q⟩ => q.elim⟩⟩
end
end JP
namespace JP
open PySem PySem.Spec PyProof.Rows L2
section
variable {X : Cx} {B : Bs} {K : PySem.W.Frag} {a b : Expr} {ta tb : TED} {pos : Pos} {W : WD} {k : Nat} {f C : Addr} {fd : FuncData} {ps : List Str} {sp : SpD}
theorem de_eqOK (hK : X.K = K) (M : OwnM X.K C "__eq__" f) (Fn : FnD X.prog X.w X.K X.mg X.base k f fd ps sp) (hb : Binds X.K fd ps []) (hr : Room k X.A) (hx : Passes (L2.CX X.prog X.w) X (XW X.K B W)) (ha : DE X B a ta) (hb2 : DE X B b tb) : DE X B (.Compare a [.Eq] [b] pos) (dOp (eqOD K C sp W false) ta tb) := hK ▸ de_eqO M Fn hb hr hx ha hb2
theorem dt_eqOK (hK : X.K = K) (M : OwnM X.K C "__eq__" f) (Fn : FnD X.prog X.w X.K X.mg X.base k f fd ps sp) (hb : Binds X.K fd ps []) (hr : Room k X.A) (hx : Passes (L2.CX X.prog X.w) X (XW X.K B W)) (ha : DE X B a ta) (hb2 : DE X B b tb) : DT X B (.Compare a [.Eq] [b] pos) (dTest (dOp (eqOD K C sp W false) ta tb)) := hK ▸ dt_eqO M Fn hb hr hx ha hb2
end
end JP
namespace JP
open PySem PySem.Spec PyProof.Rows L2
def flatD : D → Bool
  | .non => true
  | .bl _ => true
  | .int _ => true
  | .str _ => true
  | _ => false
theorem flatD_V {K : PySem.W.Frag} {F : Hp} {v : V} {d : D} (r : Rep K F v d) (h : flatD d = true) : flatV v = true := by
  cases d with
  | non => cases r; rfl
  | bl b => cases r; rfl
  | int b => cases r; rfl
  | str b => cases r; rfl
  | _ => cases h
end JP
namespace JP
open PySem PySem.Spec PyProof.Rows L2
section
variable {X : Cx} {B : Bs} {K : PySem.W.Frag} {k : Nat} {C g : Addr} {fd : FuncData} {ps : List Str} {sp : SpD} {W : WD} {op : Operator} {a b e : Expr} {ta tb te : TED} {pos : Pos}
variable {σ : L2.St} {H F : Hp} {δ : SD} {G : Gm}
def isFD (neg : Bool) : R2D := fun a b G Q => match a, b with
  | .non, .non => Q (.bl (if neg then false else true)) G
  | .bl a, .bl b => Q (.bl (if neg then !decide (a = b) else decide (a = b))) G
  | .non, .bl _ => Q (.bl (if neg then true else false)) G
  | .bl _, .non => Q (.bl (if neg then true else false)) G
  | _, _ => False
theorem isF_A {neg : Bool} : OpA K (rIsF neg) (isFD neg) := fun B σ δ H F G x y a b Qd Q S r1 r2 h k => by
  unfold isFD at h
  split at h
  · rw [rep_non r1, rep_non r2]
    exact ⟨true, rfl, k _ _ (.val S (.bl _) h)⟩
  · rw [rep_bl r1, rep_bl r2]
    exact ⟨_, rfl, k _ _ (.val S (.bl _) h)⟩
  · rw [rep_non r1, rep_bl r2]
    exact ⟨false, rfl, k _ _ (.val S (.bl _) (by cases neg <;> exact h))⟩
  · rw [rep_bl r1, rep_non r2]
    exact ⟨false, rfl, k _ _ (.val S (.bl _) (by cases neg <;> exact h))⟩
  · exact h.elim
end
end JP
namespace JP
open PySem PySem.Spec PyProof.Rows L2
abbrev EntL := List (List Key × D)
def hasL (es : EntL) (ks : List Key) : Bool := es.any fun p => decide (p.1 = ks)
inductive RepL (K : PySem.W.Frag) (F : Hp) : List (List Key × V) → EntL → Prop
  | nil : RepL K F [] []
  | cons {k : List Key} {v : V} {vs : List (List Key × V)} {d : D} {ds : EntL} : Rep K F v d → RepL K F vs ds → RepL K F ((k, v) :: vs) ((k, d) :: ds)
section
variable {K : PySem.W.Frag} {F F' : Hp}
theorem RepL.mono (s : Same F F') : ∀ {vs : List (List Key × V)} {ds : EntL}, RepL K F vs ds → RepL K F' vs ds
  | _, _, .nil => .nil
  | _, _, .cons h r => .cons (h.mono s) (RepL.mono s r)
theorem RepL.len : ∀ {vs : List (List Key × V)} {ds : EntL}, RepL K F vs ds → vs.length = ds.length
  | _, _, .nil => rfl
  | _, _, .cons _ r => congrArg (· + 1) (RepL.len r)
theorem RepL.any {ks : List Key} : ∀ {vs : List (List Key × V)} {ds : EntL}, RepL K F vs ds → (vs.any fun kv => decide (kv.1 = ks)) = hasL ds ks
  | _, _, .nil => rfl
  | _, _, .cons _ r => by
    unfold hasL
    rw [List.any_cons, List.any_cons, RepL.any r]
    rfl
theorem RepL.map {ks : List Key} {z : V} {d : D} (rz : Rep K F z d) : ∀ {vs : List (List Key × V)} {ds : EntL}, RepL K F vs ds → RepL K F (vs.map fun kv => if kv.1 = ks then (kv.1, z) else kv) (ds.map fun p => if p.1 = ks then (p.1, d) else p)
  | _, _, .nil => .nil
  | _, _, .cons (k := k) h r => by
    rw [List.map_cons, List.map_cons]
    by_cases c : k = ks
    · subst c
      simp only [if_true]
      exact .cons rz (RepL.map rz r)
    · simp only [c, if_false]
      exact .cons h (RepL.map rz r)
theorem RepL.append : ∀ {vs us : List (List Key × V)} {ds es : EntL}, RepL K F vs ds → RepL K F us es → RepL K F (vs ++ us) (ds ++ es)
  | _, _, _, _, .nil, q => q
  | _, _, _, _, .cons h r, q => .cons h (RepL.append r q)
end
end JP
namespace JP
open PySem PySem.Spec PyProof.Rows L2
section
variable {X : Cx} {B : Bs} {K : PySem.W.Frag} {o e : Expr} {es : List Expr} {te to : TED} {t : TAD} {pos apos : Pos}
variable {σ : L2.St} {H F : Hp} {δ : SD} {G : Gm}
/-- x.isascii() and so on -/
def dM0 (g : Str → Bool) (to : TED) : TED := fun δ G Q => to δ G fun d G1 => match d with | .str x => Q (.bl (g x)) G1 | _ => False
theorem de_m0 {id : String} {name : Str} {g : Str → Bool} (slot : Slot "str" name id) (ty : typeOf (.builtin id) = pure (.type "method_descriptor")) (rule : MtR X id (fun x xs H Q => ∃ a, x = .str a ∧ xs = [] ∧ True ∧ Q (.bl (g a)) H)) (ho : DE X B o to)
    (hbase : attributeBase o name X.env (eval o X.env) = eval o X.env := by rfl) (hline : (apos.endLine == pos.line) = true := by rfl) : DE X B (.Call (.Attribute o name apos) [] [] pos) (dM0 g to) :=
  PE.weak (pe_m0 slot ty rule ho hbase hline) fun σ H Q ⟨F, G, δ, Qd, S, h, k⟩ => ⟨F, G, δ, _, S, h, fun v H1 ⟨F1, G1, d, s1, S1, r1, h1⟩ => by
    cases d with
    | str x => cases r1; exact ⟨⟨x, rfl⟩, x, rfl, rfl, trivial, k _ _ ⟨F1, G1, _, s1, S1, .bl _, h1⟩⟩
    | _ => exact h1.elim⟩
/-- text not in a dict of the top -/
def ninD (K : PySem.W.Frag) (c : Addr) : R2D := fun a b G Q => match a, b with | .str x, .adr c' => c' = c ∧ ∃ r, PySem.W.nsIn K c x = some r ∧ Q (.bl (!r.isSome)) G | _, _ => False
theorem nin_A {c : Addr} : OpA K (fun x y H Q => ∃ (z : Str) (r : Option Value), x = .str z ∧ y = .ref c ∧ PySem.W.nsIn K c z = some r ∧ Q (.bl (!r.isSome)) H) (ninD K c) := fun B σ δ H F G x y a b Qd Q S r1 r2 h k => by
  unfold ninD at h
  split at h
  · obtain ⟨rfl, r, e, q⟩ := h
    cases r1
    cases r2
    exact ⟨_, r, rfl, rfl, e, k _ _ (.val S (.bl _) q)⟩
  · exact h.elim
variable {x : Str} {p : Pos}
def strSD : LD := fun ds G Q => match ds with | [.str a] => Q (.str a) G | _ => False
theorem strS_A : CallA K (fun xs H Q => ∃ a, xs = [V.str a] ∧ Q (.str a) H) strSD := fun B σ δ H F G xs ds Qd Q S r h k => by
  unfold strSD at h
  split at h
  · obtain ⟨v, rfl, r1⟩ := repAll1 r
    cases r1
    exact ⟨_, rfl, k _ _ (.val S (.str _) h)⟩
  · exact h.elim
end
end JP
namespace JP
open PySem PySem.Spec PyProof.Rows L2
section
variable {X : Cx} {B : Bs} {CX : CXT} {k : Nat} {f C : Addr} {fd : FuncData} {ps ks : List Str} {o : Expr} {m : Str} {apos pos : Pos} {kws : List Keyword} {g : List Value → List Value → List Value} {gV : List V → List V → List V} {gD : List D → List D → List D}
def tMethKw (C : Addr) (m : Str) (n : Nat) (sp : Sp) (gV : List V → List V → List V) (E : XK) (ta : TE) (tk : TA) : TE := fun σ H Q => ta σ H fun x H1 => ∃ a dx fs, x = V.ref a ∧ H1 a = some (.ins C dx fs) ∧ fs.lookup m = none ∧ tk σ H1 fun zs H2 => zs.length = n ∧ sp (gV [.ref a] zs) H2 Q E
theorem pe_methKw {pl : Sem Bool} {sp : Sp} {E : XK} {ta : TE} {tk : TA} (he : PE X o ta) (c : Cls X.K C) (hm : Meth X.K C m f) (F : FnOk X.prog X.w X.K X.mg X.base CX k f fd ps sp) (hr : Room k X.A) (hb : KBn X.K fd ps 1 ks g gV) (hx : Passes CX X E) (hkw : PK X kws tk)
    (hall : (backToKw pos (keywordEach kws X.env)).all (·.1.isSome) = true := by rfl) (hks : (backToKw pos (keywordEach kws X.env)).filterMap (·.1) = ks := by rfl)
    (hpl : ((backTo pos (starEach [] X.env)).any (·.1) || (backToKw pos (keywordEach kws X.env)).any (·.1.isNone)) = false := by rfl)
    (ht : eval (.Call (.Attribute o m apos) [] kws pos) X.env = (do
      let ov ← eval o X.env
      standAt apos.atName
      let (f, first) ← holding [ov] (getMethod ov m pl)
      callWith pos f first (backTo pos (starEach [] X.env)) (backToKw pos (keywordEach kws X.env))) := by rfl) :
    PE X (.Call (.Attribute o m apos) [] kws pos) (tMethKw C m ks.length sp gV E ta tk) := by
  refine ⟨fun pins s σ H Q I h => ?_⟩
  refine PySem.W.methodCall_KW (pl := pl) (thn (he.run pins s σ H _ I h) fun u s1 ⟨x, H1, I1, rx, a, dx, fs, ex, ea, l, q⟩ => ?_) ht
  subst ex
  obtain rfl : u = Value.ref a := rx
  refine getmeth_ok I1 ea c hm l ?_
  refine PySem.W.callWith_KW0 (first := [.ref a]) (h₀ := X.base) I.ok.mod.kin hm.kp hall (thn (hkw.run pos pins s1 σ H1 _ I1 q) fun ws s2 ⟨zs, H2, I2, rz, lz, q2⟩ => ⟨I2.kIn, ?_⟩) hpl
  rw [hks]
  have r1 : Vals [V.ref a] [Value.ref a] := .cons rfl .nil
  refine wpAny_call (codeAny_mono (F.run X.A X.stack s2 H2 ⟨[.ref a] ++ [], ks.zip ws⟩ (g [.ref a] ws) (gV [.ref a] zs) Q E hr I2.env0 (hb.to s2 [.ref a] ws I2.kIn rfl (rz.length.symm.trans lz)) (hb.rel r1 rz) q2) fun r s' hq => ?_)
  match r, hq with
  | .error e, hq => exact hx pins σ H2 s2 e s' I2 hq
  | .ok (.ret u), hq => exact I2.after hq
  | .ok .next, hq => exact hq.elim
  | .ok .brk, hq => exact hq.elim
  | .ok .cont, hq => exact hq.elim
def dMethKw (C : Addr) (m : Str) (n : Nat) (sp : SpD) (gD : List D → List D → List D) (W : WD) (to : TED) (tk : TAD) : TED := fun δ G Q => to δ G fun d G1 => match insD d G1 with | some (C', fs) => C' = C ∧ fs.lookup m = none ∧ tk δ G1 fun ds G2 => ds.length = n ∧ sp (gD [d] ds) G2 Q W | none => False
theorem de_methKw {pl : Sem Bool} {sp : SpD} {W : WD} {to : TED} {tk : TAD} (he : DE X B o to) (c : Cls X.K C) (hm : Meth X.K C m f) (Fn : FnD X.prog X.w X.K X.mg X.base k f fd ps sp) (hr : Room k X.A) (hb : KBn X.K fd ps 1 ks g gV) (hx : Passes (L2.CX X.prog X.w) X (XW X.K B W)) (hp : PermOk gV gD) (hkw : DK X B kws tk)
    (hall : (backToKw pos (keywordEach kws X.env)).all (·.1.isSome) = true := by rfl) (hks : (backToKw pos (keywordEach kws X.env)).filterMap (·.1) = ks := by rfl)
    (hpl : ((backTo pos (starEach [] X.env)).any (·.1) || (backToKw pos (keywordEach kws X.env)).any (·.1.isNone)) = false := by rfl)
    (ht : eval (.Call (.Attribute o m apos) [] kws pos) X.env = (do
      let ov ← eval o X.env
      standAt apos.atName
      let (f, first) ← holding [ov] (getMethod ov m pl)
      callWith pos f first (backTo pos (starEach [] X.env)) (backToKw pos (keywordEach kws X.env))) := by rfl) :
    DE X B (.Call (.Attribute o m apos) [] kws pos) (dMethKw C m ks.length sp gD W to tk) :=
  PE.weak (pe_methKw he c hm Fn hr hb hx hkw hall hks hpl ht) fun σ H Q ⟨F, G, δ, Qd, S, h, kk⟩ => ⟨F, G, δ, _, S, h, fun v H1 ⟨F1, G1, d, s1, S1, r1, h1⟩ => by
    cases q : insD d G1 with
    | none =>
      simp only [q] at h1
    | some cf =>
      obtain ⟨C', fs⟩ := cf
      simp only [q] at h1
      obtain ⟨rfl, hl, h1⟩ := h1
      obtain ⟨a, dx, fv, rfl, e, gc, na, rf⟩ := ins_rep S1 r1 q
      exact ⟨a, dx, fv, rfl, e, rf.lookN hl, F1, G1, δ, _, S1, h1, fun zs H2 ⟨F2, G2, ds, s2, S2, r2, hl2, h2⟩ => ⟨r2.length.trans hl2, low_of kk (s1.trans s2) S2 (hp _ _ _ _ _ _ (.cons (r1.mono s2) .nil) r2) h2⟩⟩⟩
end
end JP
namespace JP
open PySem PySem.Spec PyProof.Rows L2
mutual
def toP : D → PyData
  | .bl b => .bool b
  | .int i => .int i
  | .str x => .str x
  | .tup ds => .tuple (toPs ds)
  | .lst ds => .list (toPs ds)
  | .non | .ty _ | .adr _ | .scr _ | .ins _ _ | .exc _ _ | .dic _ | .dit _ | .dif _ | .dln _ _ => .none
def toPs : List D → List PyData
  | [] => []
  | d :: ds => toP d :: toPs ds
end
mutual
def isP : D → Bool
  | .non | .bl _ | .int _ | .str _ => true
  | .tup ds => isPs ds
  | .lst ds => isPs ds
  | .ty _ | .adr _ | .scr _ | .ins _ _ | .exc _ _ | .dic _ | .dit _ | .dif _ | .dln _ _ => false
def isPs : List D → Bool
  | [] => true
  | d :: ds => isP d && isPs ds
end
mutual
theorem dp_toP : ∀ {d : D}, isP d = true → DP d (toP d)
  | .non, _ => by simp only [toP]; exact .non
  | .bl b, _ => by simp only [toP]; exact .bl b
  | .int i, _ => by simp only [toP]; exact .int i
  | .str x, _ => by simp only [toP]; exact .str x
  | .tup ds, h => by simp only [toP]; exact .tup (dps_toP (by simpa only [isP] using h))
  | .lst ds, h => by simp only [toP]; exact .lst (dps_toP (by simpa only [isP] using h))
  | .ty _, h | .adr _, h | .scr _, h | .ins _ _, h | .exc _ _, h | .dic _, h | .dit _, h | .dif _, h | .dln _ _, h => by simp only [isP] at h; cases h
theorem dps_toP : ∀ {ds : List D}, isPs ds = true → DPs ds (toPs ds)
  | [], _ => by simp only [toPs]; exact .nil
  | d :: ds, h => by
    simp only [isPs, Bool.and_eq_true] at h
    simp only [toPs]
    exact .cons (dp_toP h.1) (dps_toP h.2)
end
/-- plain, of such a depth -/
structure Pl (k : Nat) (d : D) : Prop where
  p : isP d = true
  l : (toP d).canLay0 = true
  h : (toP d).depth ≤ k
theorem Pl.mono {k m : Nat} {d : D} (h : Pl k d) (hk : k ≤ m) : Pl m d := ⟨h.p, h.l, Nat.le_trans h.h hk⟩
theorem pl_bl {k : Nat} {b : Bool} : Pl k (.bl b) := ⟨by simp only [isP], by simp only [toP, PyData.canLay0], by simp only [toP, PyData.depth]; exact Nat.zero_le _⟩
theorem pl_int {k : Nat} {i : Int} : Pl k (.int i) := ⟨by simp only [isP], by simp only [toP, PyData.canLay0], by simp only [toP, PyData.depth]; exact Nat.zero_le _⟩
theorem pl_str {k : Nat} {x : Str} (h : PyData.strOk x = true) : Pl k (.str x) := ⟨by simp only [isP], by simp only [toP, PyData.canLay0]; exact h, by simp only [toP, PyData.depth]; exact Nat.zero_le _⟩
theorem pls {k : Nat} : ∀ {ds : List D}, (∀ d ∈ ds, Pl k d) → isPs ds = true ∧ PyData.canLayAll0 (toPs ds) = true ∧ PyData.depthAll (toPs ds) ≤ k
  | [], _ => by simp only [isPs, toPs, PyData.canLayAll0, PyData.depthAll]; exact ⟨trivial, trivial, Nat.zero_le _⟩
  | d :: ds, h => by
    obtain ⟨a, b, c⟩ := pls (ds := ds) fun e he => h e (List.mem_cons_of_mem _ he)
    obtain ⟨x, y, z⟩ := h d List.mem_cons_self
    simp only [isPs, toPs, PyData.canLayAll0, PyData.depthAll, Bool.and_eq_true]
    exact ⟨⟨x, a⟩, ⟨y, b⟩, Nat.max_le.mpr ⟨z, c⟩⟩
theorem pl_tup {k : Nat} {ds : List D} (h : ∀ d ∈ ds, Pl k d) : Pl (k + 1) (.tup ds) := by
  obtain ⟨a, b, c⟩ := pls h
  exact ⟨by simp only [isP]; exact a, by simp only [toP, PyData.canLay0]; exact b, by simp only [toP, PyData.depth]; omega⟩
theorem pl_lst {k : Nat} {ds : List D} (h : ∀ d ∈ ds, Pl k d) : Pl (k + 1) (.lst ds) := by
  obtain ⟨a, b, c⟩ := pls h
  exact ⟨by simp only [isP]; exact a, by simp only [toP, PyData.canLay0]; exact b, by simp only [toP, PyData.depth]; omega⟩
theorem pl_map {α : Type} {k : Nat} {f : α → D} {xs : List α} (h : ∀ x ∈ xs, Pl k (f x)) : ∀ d ∈ xs.map f, Pl k d := fun d hd => by
  obtain ⟨x, mx, rfl⟩ := List.mem_map.mp hd
  exact h x mx
theorem pl_nil {k : Nat} : ∀ d ∈ ([] : List D), Pl k d := fun d h => by cases h
theorem pl_cons {k : Nat} {d : D} {ds : List D} (h : Pl k d) (t : ∀ e ∈ ds, Pl k e) : ∀ e ∈ d :: ds, Pl k e := fun e he => by
  rcases List.mem_cons.mp he with rfl | he
  · exact h
  · exact t e he
theorem Pl.sh {d : D} (h : Pl 60 d) : SeqAt.shaped (toP d) = true := by
  unfold SeqAt.shaped
  rw [h.l, Bool.true_and]
  have := h.h
  exact decide_eq_true (by omega)
/-- == of plain things -/
def eqvD (a b : D) : Bool := PyData.eqv (toP a) (toP b)
theorem eq_pl {a b : D} {G : Gm} {Q : QD} (ha : Pl 60 a) (hb : Pl 60 b) (q : Q (.bl (eqvD a b)) G) : eqD2 a b G Q := ⟨toP a, toP b, dp_toP ha.p, dp_toP hb.p, ha.sh, hb.sh, q⟩
theorem ne_pl {a b : D} {G : Gm} {Q : QD} (ha : Pl 60 a) (hb : Pl 60 b) (q : Q (.bl (!eqvD a b)) G) : neD2 a b G Q := ⟨toP a, toP b, dp_toP ha.p, dp_toP hb.p, ha.sh, hb.sh, q⟩
theorem eqvD_int {i j : Int} : eqvD (.int i) (.int j) = decide (i = j) := by simp only [eqvD, toP, PyData.eqv]; rfl
theorem eqvD_str {i j : Str} : eqvD (.str i) (.str j) = decide (i = j) := by
  simp only [eqvD, toP, PyData.eqv]
  rw [Bool.eq_iff_iff]
  simp
mutual
theorem eqv_refl : ∀ p : PyData, p.canLay0 = true → PyData.eqv p p = true
  | .none, _ => by simp only [PyData.eqv]
  | .bool b, _ => by simp [PyData.eqv]
  | .int i, _ => by simp [PyData.eqv]
  | .str x, _ => by simp [PyData.eqv]
  | .list ps, h => by simp only [PyData.eqv]; exact eqvAll_refl ps (by simpa only [PyData.canLay0] using h)
  | .tuple ps, h => by simp only [PyData.eqv]; exact eqvAll_refl ps (by simpa only [PyData.canLay0] using h)
  | .dict _, h => by simp only [PyData.canLay0] at h; cases h
theorem eqvAll_refl : ∀ ps : List PyData, PyData.canLayAll0 ps = true → PyData.eqvAll ps ps = true
  | [], _ => by simp only [PyData.eqvAll]
  | p :: ps, h => by
    simp only [PyData.canLayAll0, Bool.and_eq_true] at h
    simp only [PyData.eqvAll, eqv_refl p h.1, eqvAll_refl ps h.2, Bool.and_self]
end
theorem eqvD_self {k : Nat} {d : D} (h : Pl k d) : eqvD d d = true := eqv_refl _ h.l
def scalD : D → D → Bool
  | .non, .non => true | .non, .int _ => true | .int _, .non => true | .non, .bl _ => true | .bl _, .non => true | .non, .str _ => true | .str _, .non => true
  | .int _, .int _ => true | .bl _, .bl _ => true | .str _, .str _ => true
  | .int _, .str _ => true | .str _, .int _ => true | .bl _, .str _ => true | .str _, .bl _ => true
  | _, _ => false
def sameD : D → D → Bool
  | .non, .non => true
  | .int i, .int j => decide (i = j)
  | .bl i, .bl j => decide (i = j)
  | .str i, .str j => decide (i = j)
  | _, _ => false
def eqSD : R2D := fun a b G Q => scalD a b = true ∧ Q (.bl (sameD a b)) G
section
variable {K : PySem.W.Frag}
theorem scal_rep {F : Hp} {x y : V} {a b : D} (r1 : Rep K F x a) (r2 : Rep K F y b) (h : scalD a b = true) : scal x y = true ∧ decide (x = y) = sameD a b := by
  cases a <;> cases b <;> first | (cases h; done) | skip
  all_goals
    cases r1
    cases r2
    first | exact ⟨rfl, by decide⟩ | exact ⟨rfl, by simp [sameD]⟩
theorem eqS_A : OpA K rEq eqSD := fun B σ δ H F G x y a b Qd Q S r1 r2 h k => by
  obtain ⟨h1, h2⟩ := scal_rep r1 r2 h.1
  exact ⟨h1, by rw [h2]; exact k _ _ (.val S (.bl _) h.2)⟩
end
inductive EqI (a b : D) (G : Gm) (Q : QD) : Prop
  | mk (ha : Pl 60 a) (hb : Pl 60 b) (q : Q (.bl (eqvD a b)) G) : EqI a b G Q
inductive NeI (a b : D) (G : Gm) (Q : QD) : Prop
  | mk (ha : Pl 60 a) (hb : Pl 60 b) (q : Q (.bl (!eqvD a b)) G) : NeI a b G Q
inductive EqSI (a b : D) (G : Gm) (Q : QD) : Prop
  | mk (h : scalD a b = true) (q : Q (.bl (sameD a b)) G) : EqSI a b G Q
section
variable {K : PySem.W.Frag}
theorem eqI_A : OpA K (rEqD K) EqI := fun B σ δ H F G x y a b Qd Q S r1 r2 ⟨ha, hb, q⟩ k => eq_A B σ δ H F G x y a b Qd Q S r1 r2 (eq_pl ha hb q) k
theorem neI_A : OpA K (rNeD K) NeI := fun B σ δ H F G x y a b Qd Q S r1 r2 ⟨ha, hb, q⟩ k => ne_A B σ δ H F G x y a b Qd Q S r1 r2 (ne_pl ha hb q) k
theorem eqSI_A : OpA K rEq EqSI := fun B σ δ H F G x y a b Qd Q S r1 r2 ⟨h, q⟩ k => eqS_A B σ δ H F G x y a b Qd Q S r1 r2 ⟨h, q⟩ k
end
theorem neI_self {d : D} {G : Gm} {Q : QD} (h : Pl 60 d) (q : Q (.bl false) G) : NeI d d G Q := ⟨h, h, by rw [eqvD_self h]; exact q⟩
theorem lsM_at {G : Gm} {a : Addr} {l : List D} (h : G a = some (.lst l)) : lsM (.adr a) G = some (a, l) := by
  show (match G a with | some (.lst ds) => some (a, ds) | _ => none) = _
  rw [h]
theorem range_len (n : Nat) : (rangeD 0 n).length = n := by simp [rangeD]
/-- the same, all being taken -/
theorem lc_f0 {α : Type} {g : TGD} {te : TED} {Fin : List D → Gm → Prop} {δ : SD} {G : Gm} (e : α → D) (f : α → D) : ∀ (xs : List α) (acc : List D),
    (∀ x ∈ xs, ∀ (N : D → Gm → Prop), N (f x) G → g (e x) δ G fun δ1 G1 => te δ1 G1 N) →
    Fin (acc ++ xs.map f) G → lcD g dYes te Fin δ (xs.map e) acc G
  | [], acc, _, h => by
    rw [List.map_nil, List.append_nil] at h
    exact h
  | x :: xs, acc, hs, h => by
    refine hs x List.mem_cons_self (fun y G' => lcD g dYes te Fin δ (xs.map e) (acc ++ [y]) G') ?_
    refine lc_f0 e f xs _ (fun y hy => hs y (List.mem_cons_of_mem _ hy)) ?_
    rw [List.map_cons] at h
    rw [List.append_assoc]
    exact h
end JP
namespace JP
open PySem PySem.Spec PyProof.Rows L2
/-- what own_copy copies: flat values, tuples and lists of such, dicts of one at most -/
def cpD : D → Bool
  | .tup ds => ds.all flatD && decide (ds.length ≤ 1000)
  | .lst ds => ds.all flatD && decide (ds.length ≤ 1000)
  | .dic [] => true
  | .dic [(_, v)] => flatD v
  | d => flatD d
section
variable {K : PySem.W.Frag} {F H : Hp}
theorem flats_V : ∀ {vs : List V} {ds : List D}, RepAll K F vs ds → ds.all flatD = true → ∀ x ∈ vs, flatV x = true
  | _, _, .nil, _ => fun x hx => by cases hx
  | _, _, .cons r rs, h => fun x hx => by
    rw [List.all_cons, Bool.and_eq_true] at h
    rcases List.mem_cons.mp hx with rfl | hx
    · exact flatD_V r h.1
    · exact flats_V rs h.2 x hx
theorem cp_in {y : V} {d : D} (s : Same F H) (r : Rep K F y d) (h : cpD d = true) : CpIn H y := by
  cases d with
  | tup ds =>
    cases r with
    | tup e ra =>
      have h' : (ds.all flatD && decide (ds.length ≤ 1000)) = true := h
      rw [Bool.and_eq_true] at h'
      exact .inr (.inl ⟨_, _, rfl, s _ _ e, flats_V ra h'.1, ra.length ▸ of_decide_eq_true h'.2⟩)
  | lst ds =>
    cases r with
    | lst e ra =>
      have h' : (ds.all flatD && decide (ds.length ≤ 1000)) = true := h
      rw [Bool.and_eq_true] at h'
      exact .inr (.inr (.inl ⟨_, _, rfl, s _ _ e, flats_V ra h'.1, ra.length ▸ of_decide_eq_true h'.2⟩))
  | dic kvs =>
    cases r with
    | dk e rk =>
      refine .inr (.inr (.inr ⟨_, _, rfl, Rd.same s e, ?_⟩))
      match kvs, rk, h with
      | [], .nil, _ => exact .inl rfl
      | [(_, v)], .cons rv .nil, h => exact .inr ⟨_, _, rfl, flatD_V rv h⟩
  | _ => first | exact .inl (flatD_V r h) | (cases h; done)
/-- the copy reads as what it is a copy of -/
theorem cp_out {H1 : Hp} {y z : V} {d : D} (s : Same F H) (r : Rep K F y d) (h : cpD d = true) (o : CpOut H H1 y z) :
    Rep K F z d ∨ ∃ p u, H p = none ∧ H1 p = some u ∧ notT u ∧ ∀ F', Same F F' → F' p = some u → Rep K F' z d := by
  rcases o with ⟨_, rfl, _⟩ | ⟨a, xs, p, rfl, ha, rfl, _, np, hp⟩ | ⟨a, xs, p, rfl, ha, rfl, _, np, hp⟩ | ⟨a, kvs, p, rfl, ha, rfl, _, np, hp⟩
  · exact .inl r
  · right
    refine ⟨p, _, np, hp, trivial, fun F' s' e => ?_⟩
    cases d with
    | tup ds =>
      cases r with
      | tup e2 ra =>
        rw [s _ _ e2] at ha
        cases ha
        exact .tup e (ra.mono s')
    | lst ds =>
      cases r with
      | lst e2 ra =>
        rw [s _ _ e2] at ha
        cases ha
    | dic ds =>
      cases r with
      | dk e2 ra =>
        rcases e2 with e2 | ⟨o, e2⟩ <;> (rw [s _ _ e2] at ha; cases ha)
    | _ => first | (cases h; done) | (cases r; done)
  · right
    refine ⟨p, _, np, hp, trivial, fun F' s' e => ?_⟩
    cases d with
    | tup ds =>
      cases r with
      | tup e2 ra =>
        rw [s _ _ e2] at ha
        cases ha
    | lst ds =>
      cases r with
      | lst e2 ra =>
        rw [s _ _ e2] at ha
        cases ha
        exact .lst e (ra.mono s')
    | dic ds =>
      cases r with
      | dk e2 ra =>
        rcases e2 with e2 | ⟨o, e2⟩ <;> (rw [s _ _ e2] at ha; cases ha)
    | _ => first | (cases h; done) | (cases r; done)
  · right
    refine ⟨p, _, np, hp, trivial, fun F' s' e => ?_⟩
    cases d with
    | tup ds =>
      cases r with
      | tup e2 ra =>
        rcases ha with ha | ⟨o, ha⟩ <;> (rw [s _ _ e2] at ha; cases ha)
    | lst ds =>
      cases r with
      | lst e2 ra =>
        rcases ha with ha | ⟨o, ha⟩ <;> (rw [s _ _ e2] at ha; cases ha)
    | dic ds =>
      cases r with
      | @dk _ kvs2 _ e2 ra =>
        have ek : kvs2 = kvs := by
          rcases e2 with e2 | ⟨o, e2⟩ <;> rcases ha with ha | ⟨o2, ha⟩ <;> (rw [s _ _ e2] at ha; cases ha) <;> rfl
        subst ek
        exact .dk (.inl e) (ra.mono s')
    | _ => first | (cases h; done) | (cases r; done)
end
/-- what is shown as p -/
inductive ShD : D → PyData → Prop
  | plain {d : D} : isP d = true → (toP d).hasDict = false → ShD d (toP d)
  | dic {kvs : List (D × D)} : (∀ q ∈ kvs, flatD q.2 = true) → ShD (.dic kvs) (.dict (kvs.map fun q => (toP q.1, toP q.2)))
inductive ShDs : List D → List PyData → Prop
  | nil : ShDs [] []
  | cons {d : D} {p : PyData} {ds : List D} {ps : List PyData} : ShD d p → ShDs ds ps → ShDs (d :: ds) (p :: ps)
inductive ReprX (ds : List D) (G : Gm) (Q : QD) : Prop
  | mk (d : D) (p : PyData) (e : ds = [d]) (h : ShD d p ∨ ∃ es qs, d = .lst es ∧ p = .list qs ∧ ShDs es qs) (s : p.showable = true) (k : p.depth ≤ 60) (l : p.shown.length ≤ sizeLine) (q : Q (.str p.shown) G) : ReprX ds G Q
section
variable {K : PySem.W.Frag} {F H : Hp}
theorem flat_P {v : V} {d : D} (r : Rep K F v d) (h : flatD d = true) : vP v = toP d := by
  cases d with
  | non => cases r; simp only [vP, toP]
  | bl b => cases r; simp only [vP, toP]
  | int b => cases r; simp only [vP, toP]
  | str b => cases r; simp only [vP, toP]
  | _ => cases h
theorem kvs_P : ∀ {vs : List (Key × V)} {ds : List (D × D)}, RepK K F vs ds → (∀ q ∈ ds, flatD q.2 = true) → (∀ p ∈ vs, flatV p.2 = true) ∧ (vs.map fun p => (kP p.1, vP p.2)) = ds.map fun q => (toP q.1, toP q.2)
  | _, _, .nil, _ => ⟨fun p hp => (by cases hp), rfl⟩
  | _, _, .cons (k := k) r rs, h => by
    obtain ⟨a, b⟩ := kvs_P rs fun q hq => h q (List.mem_cons_of_mem _ hq)
    have hf := h _ List.mem_cons_self
    refine ⟨fun p hp => ?_, ?_⟩
    · rcases List.mem_cons.mp hp with rfl | hp
      · exact flatD_V r hf
      · exact a p hp
    · rw [List.map_cons, List.map_cons, b, flat_P r hf]
      cases k <;> simp only [kP, kD, toP]
theorem shD_V {v : V} {d : D} {p : PyData} (s : Same F H) (r : Rep K F v d) (h : ShD d p) : Sho K H v p := by
  cases h with
  | plain h n => exact .plain ((dp_toP h).rep s r) n
  | dic h =>
    cases r with
    | dk e rk =>
      obtain ⟨a, b⟩ := kvs_P rk h
      rw [← b]
      exact .dic (Rd.same s e) a
theorem shDs_V {vs : List V} {ds : List D} {ps : List PyData} (s : Same F H) (r : RepAll K F vs ds) (h : ShDs ds ps) : ShoAll K H vs ps := by
  induction h generalizing vs with
  | nil => cases r; exact .nil
  | cons h _ ih =>
    cases r with
    | cons r rs => exact .cons (shD_V s r h) (ih rs)
theorem reprX_A : CallA K (rReprX K) ReprX := fun B σ δ H F G xs ds Qd Q S r ⟨d, p, e, h, h1, h2, h3, q⟩ k => by
  subst e
  obtain ⟨v, rfl, rv⟩ := repAll1 r
  refine ⟨v, p, rfl, ?_, h1, h2, h3, k _ _ (.val S (.str _) q)⟩
  rcases h with h | ⟨es, qs, rfl, rfl, h⟩
  · exact .inl (shD_V S.ds.sub rv h)
  · cases rv with
    | lst e ra => exact .inr ⟨_, _, qs, rfl, S.ds.sub _ _ e, shDs_V S.ds.sub ra h, rfl⟩
end
end JP
namespace JP
open PySem PySem.Spec PyProof.Rows L2
abbrev KvN := List (Row × D)
def getR (kvs : KvN) (k : Row) : Option D := (kvs.find? fun p => decide (p.1 = k)).map (·.2)
section
variable {K : PySem.W.Frag} {F : Hp}
theorem RepN.len : ∀ {es : EntN} {ds : KvN}, RepN K F es ds → es.length = ds.length
  | _, _, .nil => rfl
  | _, _, .cons _ r => congrArg (· + 1) (RepN.len r)
theorem RepN.has {k : Row} : ∀ {es : EntN} {ds : KvN}, RepN K F es ds → (valN es k).isSome = (getR ds k).isSome
  | _, _, .nil => rfl
  | _, _, .cons (k := k') (vs := vs) (ds := ds) _ r => by
    have ih := RepN.has (k := k) r
    by_cases e : k' = k
    · simp [valN, getR, List.find?_cons, e]
    · simpa [valN, getR, List.find?_cons, e] using ih
theorem RepN.get {k : Row} {d : D} : ∀ {es : EntN} {ds : KvN}, RepN K F es ds → getR ds k = some d → ∃ v, valN es k = some v ∧ Rep K F v d
  | _, _, .nil, h => by cases h
  | _, _, .cons (k := k') (v := v) (d := d') rv r, h => by
    by_cases e : k' = k
    · have h' : some d' = some d := by simpa [getR, List.find?_cons, e] using h
      cases h'
      exact ⟨v, by simp [valN, List.find?_cons, e], rv⟩
    · obtain ⟨v', a, b⟩ := RepN.get (k := k) r (by simpa [getR, List.find?_cons, e] using h)
      exact ⟨v', by simpa [valN, List.find?_cons, e] using a, b⟩
theorem RepN.getD {k : Row} {d : D} {x : V} {es : EntN} {ds : KvN} (r : RepN K F es ds) (rx : Rep K F x d) : Rep K F ((valN es k).getD x) ((getR ds k).getD d) := by
  cases e : getR ds k with
  | none =>
    have h := r.has (k := k)
    rw [e] at h
    have : valN es k = none := by
      cases q : valN es k with
      | none => rfl
      | some v => rw [q] at h; cases h
    rw [this]
    exact rx
  | some d' =>
    obtain ⟨v, a, b⟩ := r.get e
    rw [a]
    exact b
end
end JP
namespace JP
open PySem PySem.Spec PyProof.Rows L2
abbrev tiObj (t : Addr) (i : Nat) : Obj := { cls := .type "tuple_iterator", data := .fields #[.ref t, .int i 0] }
def TiO (t it : Addr) (i : Nat) : HO := .ext fun h => h.get? it = some (tiObj t i)
end JP
namespace JP
open PySem PySem.Spec PyProof.Rows L2
/-- what __iter__ promises: a new walk of the tuple in a field -/
def spIterS (K : PySem.W.Frag) (C : Addr) (f : Str) : Shared → Sp := fun s vs H Q _ => ∃ a dx fs t xs, vs = [.ref a] ∧ H a = some (.ins C dx fs) ∧ fs.lookup f = some (.ref t) ∧ SqT K H t xs ∧ ∀ it, H it = none → s.heap.objs.size ≤ it → Q (.ref it) (upd H it (TiO t it 0))
/-- the def keeps it -/
def IterS (P : Program) (w : World) (K : PySem.W.Frag) (mg : Str → Option Value) (base : Heap) (C : Addr) (f : Str) (k : Nat) (g : Addr) : Prop := ∀ (A : Around) (outer : List Env) (s : Shared) (H : Hp) (us : List Value) (vs : List V) (Q : VK) (E : XK), Room k A → Env0 P w K mg base A outer s H → Vals vs us → spIterS K C f s vs H Q E →
  codeAny (model P w) A (.call (.ref g) ⟨us, []⟩) (CR CX0 outer P w H s Q E) s
theorem IterS.mono {P : Program} {w : World} {K : PySem.W.Frag} {mg : Str → Option Value} {base : Heap} {C : Addr} {f : Str} {j k : Nat} {g : Addr} (F : IterS P w K mg base C f j g) (h : j ≤ k) : IterS P w K mg base C f k g := fun A outer s H us vs Q E hr => F A outer s H us vs Q E (hr.mono h)
end JP
namespace JP
open PySem PySem.Spec PyProof.Rows L2
section
variable {X : Cx} {B : Bs} {K : PySem.W.Frag} {e : Expr} {es : List Expr} {t : TAD} {pos p apos : Pos} {W : WD}
variable {k : Nat} {f C : Addr} {fI : Addr} {fd : FuncData} {ps : List Str} {x f1 : Str} {σ : L2.St} {H F : Hp} {δ : SD} {G : Gm}
theorem del_ne {H : Hp} {a b : Addr} (h : b ≠ a) : del H a b = H b := by
  unfold del
  rw [if_neg h]
theorem mkE1C {H1 F1 : Hp} {G1 : Gm} {f : Str} {y : V} {d : D} {E : XK} (s1 : Same F F1) (S1 : Sit K B σ H1 F1 δ G1) (r : Rep K F1 y d) (hc : cpD d = true) (q : W C [(f, d)] G1) :
    [y].length ≤ 1000 ∧ ∀ a, H1 a = none → spE1C C f (.ref a :: ([y] ++ [])) (upd H1 a (exo a C none))
      (fun v H2 => v = .non ∧ ∃ (dd : Addr) (fs : List (Str × V)), H2 a = some (exo a C (some dd)) ∧ H2 dd = some (exd dd fs) ∧ H1 dd = none ∧ XW K B W (.ref C) (some dd) (upd (del H2 a) dd (.xd fs))) E := by
  refine ⟨(show 1 ≤ 1000 by decide), fun a na => ⟨a, y, rfl, upd_same, (cp_in S1.ds.sub r hc).over fun b u e _ => (upd_ne (ne_of_none e na)).trans e, fun H2 z o dd nd nda => ?_⟩⟩
  have s2 := o.same
  have nd1 : H1 dd = none := by
    cases e : H1 dd with
    | none => rfl
    | some u =>
      have := s2 _ _ ((upd_ne (a := a) nda).trans e)
      rw [nd] at this
      cases this
  refine ⟨rfl, dd, [(f, z)], upd_same, by rw [upd_ne nda, upd_same], nd1, ?_⟩
  generalize hHf : upd (del (upd (upd H2 dd (exd dd [(f, z)])) a (exo a C (some dd))) a) dd (.xd [(f, z)]) = Hf
  have ed : Hf dd = some (.xd [(f, z)]) := by rw [← hHf, upd_same]
  have eo : ∀ b, b ≠ a → b ≠ dd → Hf b = H2 b := fun b h1 h2 => by rw [← hHf, upd_ne h2, del_ne h1, upd_ne h1, upd_ne h2]
  have sf : Same H1 Hf := fun b u e => by
    have n1 : b ≠ a := ne_of_none e na
    have n2 : b ≠ dd := ne_of_none e nd1
    rw [eo b n1 n2]
    exact s2 _ _ ((upd_ne n1).trans e)
  obtain ⟨D3, s4⟩ := (S1.ds.same sf).frz ed (S1.ds.noG nd1) (S1.ds.noZ nd1)
  have sH : Same F1 (upd H1 a (exo a C none)) := S1.ds.sub.trans (same_new na)
  rcases cp_out sH r hc o with q' | ⟨p, u, np, hp, nt, q'⟩
  · exact ⟨_, G1, C, _, rfl, S1.gr.trans s4, D3, .inr ⟨dd, _, rfl, upd_same, .cons (q'.mono s4) .nil⟩, q⟩
  · have npa : p ≠ a := fun e => by rw [e, upd_same] at np; cases np
    have npd : p ≠ dd := fun e => by rw [e, nd] at hp; cases hp
    have np1 : H1 p = none := (upd_ne npa).symm.trans np
    obtain ⟨D4, s5⟩ := D3.frz ((eo p npa npd).trans hp) (S1.ds.noG np1) (S1.ds.noZ np1) nt
    exact ⟨_, G1, C, _, rfl, S1.gr.trans (s4.trans s5), D4, .inr ⟨dd, _, rfl, s5 _ _ upd_same, .cons (q' _ (s4.trans s5) upd_same) .nil⟩, q⟩
def dRaiseC (W : WD) (C : Addr) (f : Str) (t : TAD) : TSD := fun E δ G => t δ G fun ds G1 => ∃ d, ds = [d] ∧ cpD d = true ∧ W C [(f, d)] G1
theorem ds_raise1C (hc : X.calm = true) (tk : Takes X fun cls d _ H => XW X.K B W cls d H) (T : OexC X.K C) (iC : PySem.W.findIn X.K (.ref C) "__init__" = some (some (.ref fI))) (tI : PySem.W.typeIn X.K (.ref fI) = some (.type "function"))
    (F1 : FnOk X.prog X.w X.K X.mg X.base CX0 k fI fd ps (spE1C C f1)) (hr : Room (k + 1) X.A) (hb : Binds X.K fd ps []) (hg : Gl X x) (hm : X.mg x = some (.ref C)) (ha : DA X B (e :: es) t)
    (hdb : (x == ("__debug__" : Str)) = false := by decide) (he : starEach (e :: es) X.env = (false, eval e X.env) :: starEach es X.env := by rfl) (hpl : (backTo pos (starEach es X.env)).any (·.1) = false := by rfl) :
    DSt X B (.Raise (some (.Call (.Name x p) (e :: es) [] pos)) none apos) (dRaiseC W C f1 t) :=
  PS.weak (ps_raise hc tk (pmk_oex T iC tI F1 hr hb .nil pass0 hg hm ha hdb he hpl)) fun D σ H ⟨F, G, δ, E, S, h, L⟩ => ⟨F, G, δ, _, S, h, fun vs H1 ⟨F1, G1, ds, s1, S1, r1, d, ed, hc, h1⟩ => by
    subst ed
    obtain ⟨y, rfl, r⟩ := repAll1 r1
    exact mkE1C s1 S1 r hc h1⟩
end
end JP
namespace JP
open PySem PySem.Spec PyProof.Rows L2
section
variable {X : Cx} {B : Bs} {K : PySem.W.Frag} {k : Nat} {C g : Addr} {fd : FuncData} {ps : List Str} {f : Str} {a b e : Expr} {ta tb te : TED} {t : TAD} {pos p2 : Pos}
variable {σ : L2.St} {H F : Hp} {δ : SD} {G : Gm}
def noG : Gm := fun _ => none
end
end JP
namespace JP
open PySem PySem.Spec PyProof.Rows L2
section
variable {X : Cx} {B : Bs} {K : PySem.W.Frag} {o e : Expr} {es : List Expr} {te to : TED} {t : TAD} {pos p2 apos : Pos}
variable {σ : L2.St} {H F : Hp} {δ : SD} {G : Gm}
def strID : LD := fun ds G Q => match ds with | [.int i] => i.natAbs.log2 < 1920 ∧ Q (.str (numS i)) G | _ => False
theorem strI_A : CallA K (fun xs H Q => ∃ i, xs = [.int i] ∧ i.natAbs.log2 < 1920 ∧ Q (.str (toString i)) H) strID := fun B σ δ H F G xs ds Qd Q S r h k => by
  unfold strID at h
  split at h
  · obtain ⟨v, rfl, r1⟩ := repAll1 r
    cases r1
    exact ⟨_, rfl, h.1, k _ _ (.val S (.str _) h.2)⟩
  · exact h.elim
def dFmt (te : TED) : TED := fun δ G Q => te δ G fun d G1 => match d with | .str y => y.length ≤ sizeLine ∧ Q (.str y) G1 | .int i => i.natAbs.log2 < 1920 ∧ Q (.str (numS i)) G1 | _ => False
theorem de_fmt (he : DE X B e te) : DE X B (.FormattedValue e (-1) none pos) (dFmt te) :=
  PE.weak (pe_fmt he) fun σ H Q ⟨F, G, δ, Qd, S, h, k⟩ => ⟨F, G, δ, _, S, h, fun v H1 ⟨F1, G1, d, s1, S1, r1, h1⟩ => by
    cases d with
    | str y =>
      cases r1
      exact .inl ⟨y, rfl, h1.1, k _ _ ⟨F1, G1, _, s1, S1, .str _, h1.2⟩⟩
    | int i =>
      cases r1
      exact .inr ⟨i, rfl, h1.1, k _ _ ⟨F1, G1, _, s1, S1, .str _, h1.2⟩⟩
    | _ => exact h1.elim⟩
def dJs : List TED → Str → SD → Gm → (Str → Gm → Prop) → Prop
  | [], acc, _, G, Q => Q acc G
  | t :: ts, acc, δ, G, Q => t δ G fun d G1 => ∃ y : Str, d = .str y ∧ (acc ++ y).length ≤ sizeLine ∧ dJs ts (acc ++ y) δ G1 Q
def DJ (X : Cx) (B : Bs) (es : List Expr) (ts : List TED) : Prop := PJ X es (ts.map (up X.K B))
theorem dj_nil : DJ X B [] [] := .nil
theorem dj_cons {ts : List TED} (h : DE X B e te) (r : DJ X B es ts) : DJ X B (e :: es) (te :: ts) := .cons h r
theorem js_adeq : ∀ (ts : List TED) (acc : Str) (σ : L2.St) (H F : Hp) (G : Gm) (δ : SD) (Qd : Str → Gm → Prop) (Q : Str → Hp → Prop), Sit K B σ H F δ G → dJs ts acc δ G Qd → (∀ y H' F' G', Same F F' → Sit K B σ H' F' δ G' → Qd y G' → Q y H') → tJs (ts.map (up K B)) acc σ H Q
  | [], acc, σ, H, F, G, δ, Qd, Q, S, h, k => k acc H F G (.refl F) S h
  | t :: ts, acc, σ, H, F, G, δ, Qd, Q, S, h, k => ⟨F, G, δ, _, S, h, fun v H1 ⟨F1, G1, d, s1, S1, r1, y, ed, hz, h1⟩ => by
    subst ed
    cases r1
    exact ⟨y, rfl, hz, js_adeq ts _ σ H1 F1 G1 δ Qd Q S1 h1 fun y H' F' G' s' S' q => k y H' F' G' (s1.trans s') S' q⟩⟩
def dJoined (ts : List TED) : TED := fun δ G Q => dJs ts Str.empty δ G fun y G' => Q (.str y) G'
theorem de_joined {v1 v2 : Expr} {rest : List Expr} {ts : List TED} (h : DJ X B (v1 :: v2 :: rest) ts) : DE X B (.JoinedStr (v1 :: v2 :: rest) pos) (dJoined ts) :=
  PE.weak (pe_joined h) fun σ H Q ⟨F, G, δ, Qd, S, h, k⟩ => js_adeq ts _ σ H F G δ _ _ S h fun y H' F' G' s' S' q => k _ _ ⟨F', G', _, s', S', .str _, q⟩
end
end JP
namespace JP
open PySem PySem.Spec PyProof.Rows L2
structure FMet (K : PySem.W.Frag) (C : Addr) (mc : Value) (m : Str) (g : Addr) : Prop where
  rd : PySem.W.readsIn K C mc = true
  ga : PySem.W.specialIn K (.ref C) "__getattribute__" = some (some (.builtin "type.__getattribute__"))
  at_ : PySem.W.findCls K (.ref C) mc m = some (.val (.ref g))
  kp : PySem.W.keepIn K (.ref g) = true
section
variable {X : Cx} {CX : CXT} {k : Nat} {C g : Addr} {mc : Value} {fd : FuncData} {ps : List Str} {sp : Sp} {E : XK} {o e : Expr} {es : List Expr} {m : Str} {pos apos : Pos} {ta : TE} {t : TA} {pl : Sem Bool}
theorem getfm {pins : List (Addr × Obj)} {σ : L2.St} {H : Hp} {s : Shared} {A : Around} {E : Value → Shared → Prop} {Q : Value × List Value → Shared → Prop} (I : Inv X pins σ H s) (c : FMet X.K C mc m g) (h : ∀ s', Inv X pins σ H s' → Q (.ref g, []) s') : wpAny (model X.prog X.w) A (getMethod (.ref C) m pl) Q E s :=
  PySem.W.method_cls I.kIn c.ga (PySem.W.cls_value I.kIn c.rd c.at_ rfl (h _ (I.tok _)))
theorem pe_fmeth {E : L2.St → XK} (he : PE X o ta) (c : FMet X.K C mc m g) (F : FnOk X.prog X.w X.K X.mg X.base CX k g fd ps sp) (hr : Room k X.A) (hb : Binds X.K fd ps []) (hx : ∀ σ, PassesAt CX X σ (E σ)) (ha : PA X (e :: es) t)
    (hst : starEach (e :: es) X.env = (false, eval e X.env) :: starEach es X.env := by rfl) (hpl : (backTo pos (starEach es X.env)).any (·.1) = false := by rfl)
    (ht : eval (.Call (.Attribute o m apos) (e :: es) [] pos) X.env = (do
      let ov ← eval o X.env
      standAt apos.atName
      let (f, first) ← holding [ov] (getMethod ov m pl)
      callWith pos f first (backTo pos (starEach (e :: es) X.env)) (backToKw pos (keywordEach [] X.env))) := by rfl) :
    PE X (.Call (.Attribute o m apos) (e :: es) [] pos) (tSMeth C sp E ta t) := by
  refine ⟨fun pins s σ H Q I h => ?_⟩
  refine PySem.W.methodCall_KW (pl := pl) (thn (he.run pins s σ H _ I h) fun u s1 ⟨x, H1, I1, rx, ex, q⟩ => ?_) ht
  subst ex
  cases (show u = Value.ref C from rx)
  refine getfm I1 c fun s2 I2 => ?_
  exact PySem.W.callWith_K (first := []) (h₀ := X.base) I.ok.mod.kin c.kp (thn (ha.run pos pins s2 σ H1 _ I2 q) fun us s3 ⟨vs, H2, I3, r, q2⟩ => ⟨I3.kIn, run_fnS (us := us) (vs := vs) F hr hb (hx σ) I3 r q2⟩) hst hpl
end
end JP
namespace JP
open PySem PySem.Spec PyProof.Rows L2
section
variable {X : Cx} {B : Bs} {K : PySem.W.Frag} {F H : Hp} {σ : L2.St} {δ : SD} {G : Gm} {C f : Addr} {mc : Value} {k : Nat} {fd : FuncData} {ps ks : List Str} {sp : SpD} {W : WD} {x m : Str} {p pos apos : Pos} {o e : Expr} {es : List Expr} {kws : List Keyword} {t tk : TAD} {gg : List Value → List Value → List Value} {gV : List V → List V → List V} {gD : List D → List D → List D}
theorem de_fmeth {pl : Sem Bool} (hx : Passes (L2.CX X.prog X.w) X (XW X.K B W)) (he : PE X o (tC (.ref C))) (c : FMet X.K C mc m f) (Fn : FnD X.prog X.w X.K X.mg X.base k f fd ps sp) (hr : Room k X.A) (hb : Binds X.K fd ps []) (ha : DA X B (e :: es) t)
    (hst : starEach (e :: es) X.env = (false, eval e X.env) :: starEach es X.env := by rfl) (hpl : (backTo pos (starEach es X.env)).any (·.1) = false := by rfl)
    (ht : eval (.Call (.Attribute o m apos) (e :: es) [] pos) X.env = (do
      let ov ← eval o X.env
      standAt apos.atName
      let (f, first) ← holding [ov] (getMethod ov m pl)
      callWith pos f first (backTo pos (starEach (e :: es) X.env)) (backToKw pos (keywordEach [] X.env))) := by rfl) :
    DE X B (.Call (.Attribute o m apos) (e :: es) [] pos) (dCall sp W t) :=
  PE.weak (pe_fmeth (E := fun _ => XW X.K B W) he c Fn hr hb (fun σ pins H s e s' I c => hx pins σ H s e s' I c) ha hst hpl ht) fun σ H Q ⟨F, G, δ, Qd, S, h, kk⟩ => ⟨rfl, F, G, δ, _, S, h, fun vs H1 ⟨F1, G1, ds, s1, S1, r1, h1⟩ => low_of kk s1 S1 r1 h1⟩
theorem low_makeM {vs zs : List V} {ds es : List D} {F1 : Hp} {G1 : Gm} {Q : VK} {Qd : QD} (hp : PermOk gV gD) (gc : GoodC K C) (kk : ∀ v H', Beh K B σ F δ Qd v H' → Q v H') (s1 : Same F F1) (S1 : Sit K B σ H F1 δ G1) (r1 : RepAll K F1 vs ds) (r2 : RepAll K F1 zs es)
    (h1 : ∀ x, G1 x = none → sp (gD (.adr x :: ds) es) (updG G1 x (.ins C [])) (fun d G2 => d = .non ∧ Qd (.adr x) G2) (fun C' fs G2 => W C' fs (delG G2 x))) :
    ∀ x dx, H x = none → H dx = none → dx ≠ x → lowSp K sp (gV (.ref x :: vs) zs) (upd (upd H dx (.own x)) x (.ins C dx [])) (fun v H2 => v = .non ∧ Q (.ref x) H2) (XW K B W) := fun x dx nx ndx ne => by
  have sa : Same H (upd H dx (.own x)) := same_new ndx
  have S2 := S1.same sa
  have nx2 : upd H dx (.own x) x = none := by rw [upd_ne ne.symm]; exact nx
  have d3 := S2.ds.open (o := .ins C dx []) (m := .ins C []) nx2 ⟨dx, [], upd_same, gc, fun p hp => (by cases hp), .nil⟩
  refine ⟨⟨F1, B.Z, B.T⟩, _, _, _, _, d3, hp _ _ _ _ _ _ (.cons (.adr x) r1) r2, h1 x (S1.ds.noG nx), fun v H' ⟨F', G', d, s', ds', _, r', e, q'⟩ => ?_, fun cls dd H' ⟨F', G', C', fs, e, s', ds', xr, w⟩ => ⟨F', _, C', fs, e, S1.gr.trans s', ds'.forget, xr, w⟩⟩
  subst e
  refine ⟨rep_non r', ?_⟩
  exact kk _ _ ⟨F', G', _, s1.trans s', ⟨ds', S1.gr.trans s', S1.sl.mono s'⟩, .adr x, q'⟩
def dMakeKM (C : Addr) (n m : Nat) (sp : SpD) (gD : List D → List D → List D) (W : WD) (t tk : TAD) : TED := fun δ G Q => t δ G fun ds G1 => tk δ G1 fun es G2 => ds.length = n ∧ es.length = m ∧ ∀ x, G2 x = none →
  sp (gD (.adr x :: ds) es) (updG G2 x (.ins C [])) (fun d G3 => d = .non ∧ Q (.adr x) G3) (fun C' fs G3 => W C' fs (delG G3 x))
theorem de_makeK0M (M : Mk X.K C f) (gc : GoodC X.K C) (Fn : FnD X.prog X.w X.K X.mg X.base k f fd ps sp) (hr : Room (k + 1) X.A) (hg : Gl X x) (hm : X.mg x = some (.ref C)) (hb : KBn X.K fd ps 1 ks gg gV) (hx : Passes (L2.CX X.prog X.w) X (XW X.K B W)) (hp : PermOk gV gD) (hkw : DK X B kws tk)
    (hall : (backToKw pos (keywordEach kws X.env)).all (·.1.isSome) = true := by rfl) (hks : (backToKw pos (keywordEach kws X.env)).filterMap (·.1) = ks := by rfl) (hdb : (x == ("__debug__" : Str)) = false := by decide)
    (hpl : ((backTo pos (starEach [] X.env)).any (·.1) || (backToKw pos (keywordEach kws X.env)).any (·.1.isNone)) = false := by rfl) :
    DE X B (.Call (.Name x p) [] kws pos) (dMakeKM C 0 ks.length sp gD W dNil tk) :=
  PE.weak (pe_makeK0 M Fn hr hg hm hb hx hkw hall hks hdb hpl) fun σ H Q ⟨F, G, δ, Qd, S, h, kk⟩ => ⟨F, G, δ, _, S, h, fun zs H1 ⟨F1, G1, es, s1, S1, r1, h1⟩ => ⟨rfl, r1.length.trans h1.2.1, low_makeM hp gc kk s1 S1 .nil r1 h1.2.2⟩⟩
def dOrE (t1 t2 : TED) : TED := fun δ G Q => t1 δ G Q ∨ t2 δ G Q
theorem de_orE {t1 t2 : TED} (h1 : DE X B e t1) (h2 : DE X B e t2) : DE X B e (dOrE t1 t2) := ⟨fun pins s σ H Q I ⟨F, G, δ, Qd, S, h, k⟩ => by
  rcases h with h | h
  · exact h1.run pins s σ H Q I ⟨F, G, δ, Qd, S, h, k⟩
  · exact h2.run pins s σ H Q I ⟨F, G, δ, Qd, S, h, k⟩⟩
theorem de_any {ι : Type} {Pr : ι → Prop} {r : ι → TED} (h : ∀ i, Pr i → DE X B e (r i)) : DE X B e (fun δ G Q => ∃ i, Pr i ∧ r i δ G Q) := ⟨fun pins s σ H Q I ⟨F, G, δ, Qd, S, ⟨i, hi, q⟩, k⟩ => (h i hi).run pins s σ H Q I ⟨F, G, δ, Qd, S, q, k⟩⟩
theorem dt_any {ι : Type} {Pr : ι → Prop} {r : ι → TTD} (h : ∀ i, Pr i → DT X B e (r i)) : DT X B e (fun δ G Q => ∃ i, Pr i ∧ r i δ G Q) := ⟨fun pins s σ H Q I ⟨F, G, δ, Qd, S, ⟨i, hi, q⟩, k⟩ => (h i hi).run pins s σ H Q I ⟨F, G, δ, Qd, S, q, k⟩⟩
theorem ds_any {st : Stmt} {ι : Type} {Pr : ι → Prop} {r : ι → TSD} (h : ∀ i, Pr i → DSt X B st (r i)) : DSt X B st (fun E δ G => ∃ i, Pr i ∧ r i E δ G) := ⟨fun pins s σ H D I ⟨F, G, δ, E, S, ⟨i, hi, q⟩, L⟩ => (h i hi).run pins s σ H D I ⟨F, G, δ, E, S, q, L⟩⟩
end
end JP
namespace JP
open PySem PySem.Spec PyProof.Rows L2
section
variable {X : Cx} {B : Bs} {K : PySem.W.Frag} {F H : Hp} {σ : L2.St} {δ : SD} {G : Gm} {k1 k2 v1 v2 o i : Expr} {tk tv tk2 tv2 to ti : TED} {pos : Pos}
theorem merge2 {x y : Str} (h : x ≠ y) (a b : V) : mergeK [] [((.inr x : Key), a), ((.inr y : Key), b)] = [(.inr x, a), (.inr y, b)] := by
  have ne : ¬ ((Sum.inr x : Key) = .inr y) := fun e => h (by injection e)
  simp [mergeK, putK, ne]
theorem txt_look {x : Str} : ∀ {kvs : List (Str × D)} {ks : List (Key × V)}, RepK K F ks (kvs.map fun p => (D.str p.1, p.2)) → (∀ d, kvs.lookup x = some d → ∃ v, valV ks (.inr x) = some v ∧ Rep K F v d) ∧ (kvs.lookup x = none → valV ks (.inr x) = none)
  | [], ks, r => by
    cases r
    exact ⟨(fun d h => by cases h), fun _ => rfl⟩
  | (y, d0) :: kvs, ks, r => by
    have r' : RepK K F ks ((D.str y, d0) :: kvs.map fun p => (D.str p.1, p.2)) := r
    generalize hk : D.str y = dk at r'
    cases r' with
    | @cons k v vs d ds rv rr =>
      cases k with
      | inl n => cases hk
      | inr z =>
        have ez : y = z := by injection hk
        subst ez
        obtain ⟨h1, h2⟩ := txt_look (x := x) rr
        by_cases c : x = y
        · subst c
          have e : valV ((Sum.inr x, v) :: vs) (.inr x : Key) = some v := valV_pos rfl
          refine ⟨fun d h => ?_, fun h => ?_⟩
          · rw [List.lookup_cons_self] at h
            cases h
            exact ⟨v, e, rv⟩
          · rw [List.lookup_cons_self] at h
            cases h
        · have e : valV ((Sum.inr y, v) :: vs) (.inr x : Key) = valV vs (.inr x) := by
            have ne : ¬ ((Sum.inr y : Key) = .inr x) := fun z => c (by injection z with z; exact z.symm)
            simp [valV, List.find?_cons, ne]
          have el : ((y, d0) :: kvs).lookup x = kvs.lookup x := by
            rw [List.lookup_cons]
            have : (x == y) = false := by simpa using c
            rw [this]
          rw [e, el]
          exact ⟨h1, h2⟩
theorem txt_some {x : Str} {kvs : List (Str × D)} {ks : List (Key × V)} (r : RepK K F ks (kvs.map fun p => (D.str p.1, p.2))) : (valV ks (.inr x : Key)).isSome = (kvs.lookup x).isSome := by
  obtain ⟨h1, h2⟩ := txt_look (x := x) r
  cases e : kvs.lookup x with
  | none => rw [h2 e]; rfl
  | some d =>
    obtain ⟨v, ev, _⟩ := h1 d e
    rw [ev]
    rfl
end
theorem DS.closeK {K : PySem.W.Frag} {Tb : List (Addr × Str)} {F H Z : Hp} {G : Gm} {a : Addr} {kvs : List (D × D)} {ks : List (Key × V)} {o : Obj} (d : DS K Tb F H G Z) (g : G a = some (.dic kvs)) (h : H a = some (.dK ks)) :
    DS K Tb (upd F a (.frz o (.dK ks))) (upd H a (.frz o (.dK ks))) (delG G a) Z ∧ Same F (upd F a (.frz o (.dK ks))) := by
  have hF := (d.mu a _ g).1
  have hZ : Z a = none := by
    cases e : Z a with
    | none => rfl
    | some u =>
      have := (d.zf a u e).2.1
      rw [g] at this
      cases this
  have s : Same F (upd F a (.frz o (.dK ks))) := same_new hF
  refine ⟨⟨fun b u e => ?_, fun b m e => ?_, fun b u e => ?_, fun b u e => ?_, fun b u e => ?_, ?_⟩, s⟩
  · by_cases c : b = a
    · subst c
      rw [upd_same] at e ⊢
      exact e
    · rw [upd_ne c] at e ⊢
      exact d.sub _ _ e
  · have c : b ≠ a := fun c => by rw [c, delG_same] at e; cases e
    rw [delG_ne c] at e
    refine ⟨(upd_ne c).trans (d.mu b m e).1, (d.mu b m e).2.mono s fun q t => (upd_ne c).trans t⟩
  · have c : b ≠ a := fun c => by rw [c, hZ] at e; cases e
    exact (upd_ne c).trans (d.zub _ _ e)
  · have c : b ≠ a := fun c => by rw [c, hZ] at e; cases e
    exact ⟨(upd_ne c).trans (d.zf b u e).1, (delG_ne c).trans (d.zf b u e).2.1, (d.zf b u e).2.2⟩
  · by_cases c : b = a
    · subst c
      rw [upd_same] at e
      cases e
      trivial
    · rw [upd_ne c] at e
      exact d.ft _ _ e
  · refine d.tab.but a (fun ps q => ?_) (fun c q z => ?_)
    · rw [h] at q
      cases q
    · rw [h] at z
      exact codeO_notM ((Option.some.inj z) ▸ (show mutO (HO.dK ks) from trivial))
section
variable {X : Cx} {B : Bs} {K : PySem.W.Frag} {F H : Hp} {σ : L2.St} {δ : SD} {G : Gm} {k1 k2 v1 v2 o i e : Expr} {tk tv tk2 tv2 to ti te : TED} {pos : Pos}
def txtF (kvs : List (Str × D)) : D := .dif (kvs.map fun p => (.str p.1, p.2))
theorem de_frzG {d' : List (D × D) → D} (hd : ∀ kvs, d' kvs = .dif kvs) (h : DE X B e te) : DE X B e (fun δ G Q => te δ G fun d G1 => ∃ a, d = .adr a ∧ match G1 a with | some (.dic kvs) => Q (d' kvs) (delG G1 a) | _ => False) :=
  PE.weak (pe_frz h) fun σ H Q ⟨F, G, δ, Qd, S, q, k⟩ => ⟨F, G, δ, _, S, q, fun v H1 ⟨F1, G1, d, s1, S1, r1, a, ea, h1⟩ => by
    subst ea
    cases r1
    cases g : G1 a with
    | none => rw [g] at h1; exact h1.elim
    | some m =>
      rw [g] at h1
      cases m <;> first | (exact h1.elim) | skip
      obtain ⟨ks, e, rk⟩ := (S1.ds.mu a _ g).2
      refine ⟨a, _, rfl, e, trivial, fun o => ?_⟩
      obtain ⟨D2, s2⟩ := S1.ds.closeK (o := o) g e
      exact k _ _ ⟨_, _, _, s1.trans s2, ⟨D2, S1.gr.trans s2, S1.sl.mono s2⟩, by rw [hd]; exact .df upd_same (rk.mono s2), h1⟩⟩
def dFrzT (te : TED) : TED := fun δ G Q => te δ G fun d G1 => ∃ a, d = .adr a ∧ match G1 a with | some (.dic kvs) => Q (.dif kvs) (delG G1 a) | _ => False
theorem de_frzT (h : DE X B e te) : DE X B e (dFrzT te) := de_frzG (d' := fun kvs => .dif kvs) (fun _ => rfl) h
/-- displays that stay open -/
theorem beh_dispM {F2 H2 : Hp} {G2 : Gm} {p : Addr} {kv : List (Key × V)} {kd : List (D × D)} {Q : VK} {Qd : QD} (kk : ∀ v H', Beh K B σ F δ Qd v H' → Q v H') (s : Same F F2) (S2 : Sit K B σ H2 F2 δ G2) (g2 : G2 p = some (.dic [])) (r : RepK K F2 kv kd) (q : Qd (.adr p) (updG G2 p (.dic kd))) :
    H2 p = some (.dK []) ∧ Q (.ref p) (upd H2 p (.dK kv)) := by
  obtain ⟨ks, e, rk⟩ := (S2.ds.mu p _ g2).2
  cases rk
  exact ⟨e, kk _ _ ⟨F2, _, .adr p, s, ⟨S2.ds.write (m' := .dic kd) g2 ⟨kv, upd_same, r⟩, S2.gr, S2.sl⟩, .adr p, q⟩⟩
def kdT (kvs : List (Str × D)) : List (D × D) := kvs.map fun p => (.str p.1, p.2)
def dDisp1M (tk tv : TED) : TED := fun δ G Q => ∀ p, G p = none → tk δ (updG G p (.dic [])) fun k G1 => tv δ G1 fun v G2 => ∃ x, k = .str x ∧ G2 p = some (.dic []) ∧ Q (.adr p) (updG G2 p (.dic (kdT [(x, v)])))
theorem de_disp1M (hk : DE X B k1 tk) (hv : DE X B v1 tv) : DE X B (.Dict [some k1] [v1] pos) (dDisp1M tk tv) :=
  PE.weak (pe_disp (pps_cons hk hv pps_nil) rfl rfl (by simp) (show 1 ≤ 15 by decide)) fun σ H Q ⟨F, G, δ, Qd, S, h, kk⟩ => fun p n =>
    ⟨F, updG G p (.dic []), δ, _, ⟨S.ds.open (m := .dic []) n ⟨[], upd_same, .nil⟩, S.gr, S.sl⟩, h p (S.ds.noG n), fun x H1 ⟨F1, G1, dk, s1, S1, r1, h1⟩ => ⟨F1, G1, δ, _, S1, h1, fun y H2 ⟨F2, G2, dv, s2, S2, r2, x', ek, g2, h2⟩ => by
      subst ek
      cases r1
      have ⟨e, q⟩ := beh_dispM (kv := [(.inr x', y)]) kk (s1.trans s2) S2 g2 (.cons (k := .inr x') r2 .nil) h2
      exact ⟨e, [(.inr x', y)], rfl, (show 1 ≤ 15 by decide), q⟩⟩⟩
def dDisp2M (tk tv tk2 tv2 : TED) : TED := fun δ G Q => ∀ p, G p = none → tk δ (updG G p (.dic [])) fun k G1 => tv δ G1 fun v G2 => tk2 δ G2 fun k2 G3 => tv2 δ G3 fun v2 G4 => ∃ x y, k = .str x ∧ k2 = .str y ∧ x ≠ y ∧ G4 p = some (.dic []) ∧ Q (.adr p) (updG G4 p (.dic (kdT [(x, v), (y, v2)])))
theorem de_disp2M (hk : DE X B k1 tk) (hv : DE X B v1 tv) (hk2 : DE X B k2 tk2) (hv2 : DE X B v2 tv2) : DE X B (.Dict [some k1, some k2] [v1, v2] pos) (dDisp2M tk tv tk2 tv2) :=
  PE.weak (pe_disp (pps_cons hk hv (pps_cons hk2 hv2 pps_nil)) rfl rfl (by simp) (show 2 ≤ 15 by decide)) fun σ H Q ⟨F, G, δ, Qd, S, h, kk⟩ => fun p n =>
    ⟨F, updG G p (.dic []), δ, _, ⟨S.ds.open (m := .dic []) n ⟨[], upd_same, .nil⟩, S.gr, S.sl⟩, h p (S.ds.noG n), fun x H1 ⟨F1, G1, dk, s1, S1, r1, h1⟩ => ⟨F1, G1, δ, _, S1, h1, fun y H2 ⟨F2, G2, dv, s2, S2, r2, h2⟩ =>
      ⟨F2, G2, δ, _, S2, h2, fun x2 H3 ⟨F3, G3, dk2, s3, S3, r3, h3⟩ => ⟨F3, G3, δ, _, S3, h3, fun y2 H4 ⟨F4, G4, dv2, s4, S4, r4, a, b, ea, eb, ne, g4, h4⟩ => by
        subst ea eb
        cases r1
        cases r3
        have ⟨e, q⟩ := beh_dispM (kv := [(.inr a, y), (.inr b, y2)]) kk (((s1.trans s2).trans s3).trans s4) S4 g4 (.cons (k := .inr a) (r2.mono (s3.trans s4)) (.cons (k := .inr b) r4 .nil)) h4
        exact ⟨e, [(.inr a, y), (.inr b, y2)], rfl, (show 2 ≤ 15 by decide), by rw [merge2 ne]; exact q⟩⟩⟩⟩⟩
/-- {}, closed -/
theorem de_dict0F : DE X B (.Dict [] [] pos) (dC (txtF [])) := by
  have h : DE X B (.Dict [] [] pos) (fun _ G Q => ∀ p, G p = none → Q (.adr p) (updG G p (.dic []))) := PE.weak pe_dnewK fun σ H Q ⟨F, G, δ, Qd, S, h, k⟩ => fun p n =>
    k _ _ (.open (m := .dic []) S (.refl F) n ⟨[], upd_same, .nil⟩ (h p (S.ds.noG n)))
  exact PE.weak (de_frzT h) fun σ H Q ⟨F, G, δ, Qd, S, q, k⟩ => ⟨F, G, δ, Qd, S, fun p np => ⟨p, rfl, by
    rw [updG_same]
    show Qd (.dif []) (delG (updG G p _) p)
    rw [delG_updG np]
    exact q⟩, k⟩
def dTGetF (to ti : TED) : TED := fun δ G Q => to δ G fun d G1 => ti δ G1 fun k G2 => ∃ kvs x v, d = txtF kvs ∧ k = .str x ∧ kvs.lookup x = some v ∧ Q v G2
theorem de_tgetF (hu : X.A.units + 1 < cLine) (ho : DE X B o to) (hi : DE X B i ti) (hs : NoSl i) : DE X B (.Subscript o i pos) (dTGetF to ti) :=
  PE.weak (pe_dget hu ho hi hs) fun σ H Q ⟨F, G, δ, Qd, S, h, kk⟩ => ⟨F, G, δ, _, S, h, fun x H1 ⟨F1, G1, d, s1, S1, r1, h1⟩ => ⟨F1, G1, δ, _, S1, h1, fun y H2 ⟨F2, G2, k, s2, S2, r2, kvs, z, v, ed, ek, hl, q⟩ => by
    subst ed ek
    cases r2
    cases r1 with
    | df rd rk =>
      obtain ⟨v', e, rv⟩ := (txt_look (x := z) (rk.mono s2)).1 v hl
      exact ⟨_, v', rfl, .inl ⟨_, .inr z, .inr ⟨_, S2.ds.sub _ _ (s2 _ _ rd)⟩, rfl, e.symm⟩, kk _ _ ⟨F2, G2, _, s1.trans s2, S2, rv, q⟩⟩⟩⟩
def dTNotInF (ti to : TED) : TED := fun δ G Q => ti δ G fun k G1 => to δ G1 fun d G2 => ∃ kvs x, d = txtF kvs ∧ k = .str x ∧ Q (.bl (!(kvs.lookup x).isSome)) G2
theorem tnotin_low {ti' to' : TE} {Q : VK} (e1 : ti' = up K B ti) (e2 : to' = up K B to) (h : up K B (dTNotInF ti to) σ H Q) : tDNotIn ti' to' σ H Q := by
  subst e1 e2
  obtain ⟨F, G, δ, Qd, S, h, kk⟩ := h
  exact ⟨F, G, δ, _, S, h, fun x H1 ⟨F1, G1, k, s1, S1, r1, h1⟩ => ⟨F1, G1, δ, _, S1, h1, fun y H2 ⟨F2, G2, d, s2, S2, r2, kvs, z, ed, ek, q⟩ => by
    subst ed ek
    cases r1
    cases r2 with
    | df rd rk => exact ⟨_, _, rfl, .inl ⟨_, .inr z, .inr ⟨_, S2.ds.sub _ _ rd⟩, rfl, rfl⟩, kk _ _ ⟨F2, G2, _, s1.trans s2, S2, by rw [txt_some rk]; exact .bl _, q⟩⟩⟩⟩
theorem dt_tnotinF (hu : X.A.units + 1 < cLine) (hi : DE X B i ti) (ho : DE X B o to) (hm : behindInMarks .NotIn o = false) : DT X B (.Compare i [.NotIn] [o] pos) (dTest (dTNotInF ti to)) :=
  PT.weak (pt_cmp (pc_dnotin hu hi ho) hm) fun σ H Q ⟨F, G, δ, Qd, S, h, k⟩ => tnotin_low rfl rfl ⟨F, G, δ, _, S, h, fun v H' ⟨F', G', d', s', S', r', q'⟩ => by
    cases d' with
    | bl b =>
      cases r'
      exact ⟨b, rfl, k b H' ⟨F', G', s', S', q'⟩⟩
    | _ => exact q'.elim⟩
theorem txt_keys : ∀ {kvs : List (Str × D)} {ks : List (Key × V)}, RepK K F ks (kvs.map fun p => (D.str p.1, p.2)) → ks.map (·.1) = kvs.map fun p => (.inr p.1 : Key)
  | [], ks, r => by cases r; rfl
  | (y, d0) :: kvs, ks, r => by
    have r' : RepK K F ks ((D.str y, d0) :: kvs.map fun p => (D.str p.1, p.2)) := r
    generalize hk : D.str y = dk at r'
    cases r' with
    | @cons k v vs d ds rv rr =>
      cases k with
      | inl n => cases hk
      | inr z =>
        have ez : y = z := by injection hk
        subst ez
        have := txt_keys rr
        rw [List.map_cons, this]
        rfl
theorem itD_txt {d : Addr} {o : Obj} {kvs : List (Str × D)} {ks : List (Key × V)} (h : F d = some (.frz o (.dK ks))) (r : RepK K F ks (kvs.map fun p => (D.str p.1, p.2))) : ItD K F (Itk d o ks) (kvs.map fun p => .str p.1) := by
  have e := txt_keys r
  have l : ks.length = kvs.length := by
    have := congrArg List.length e
    rw [List.length_map, List.length_map] at this
    exact this
  refine ⟨fun i H hi s => ⟨s _ _ h, by rw [l]; simpa using hi⟩, fun H s => ⟨s _ _ h, by rw [l]; simp⟩, fun i H x H' hi s y B σ δ G F1 S s1 => ?_⟩
  obtain ⟨rfl, k, v, hk, rfl⟩ := y
  have hk2 : (ks.map (·.1))[i]? = some k := by rw [List.getElem?_map, hk]; rfl
  rw [e, List.getElem?_map] at hk2
  cases hp : kvs[i]? with
  | none => rw [hp] at hk2; cases hk2
  | some p =>
    rw [hp] at hk2
    cases hk2
    exact ⟨F1, .str p.1, .refl F1, S, by rw [List.getElem?_map, hp]; rfl, .str _⟩
def iKeysT (te : TED) : TID := fun δ G R => te δ G fun d G1 => ∃ kvs, d = txtF kvs ∧ R (kvs.map fun p => .str p.1) G1
theorem di_keysT {tg : Expr} (h : DE X B e te) : DI X B tg e (iKeysT te) :=
  PI.weak (pi_keys h) fun σ H R ⟨F, G, δ, Qd, S, h, k⟩ => ⟨F, G, δ, _, S, h, fun v H1 ⟨F1, G1, d, s1, S1, r1, kvs, ed, h1⟩ => by
    subst ed
    cases r1 with
    | df rd rk => exact ⟨_, _, rfl, .inl ⟨_, S1.ds.sub _ _ rd, k _ _ ⟨F1, G1, _, s1, S1, itD_txt rd rk, h1⟩⟩⟩⟩
end
section
variable {X : Cx} {B : Bs} {C f : Addr} {k : Nat} {fd : FuncData} {ps : List Str} {sp : SpD} {W : WD} {m : Str} {pos apos : Pos} {o e : Expr} {es : List Expr} {t : TAD} {dvs : List V} {dds : List D} {dus : List Value}
theorem de_methDf {pl : Sem Bool} {to : TED} (rd : ∀ F, RepAll X.K F dvs dds) (hdv : Vals dvs dus) (he : DE X B o to) (c : Cls X.K C) (hm : Meth X.K C m f) (Fn : FnD X.prog X.w X.K X.mg X.base k f fd ps sp) (hr : Room k X.A) (hb : Binds X.K fd ps dus) (hx : Passes (L2.CX X.prog X.w) X (XW X.K B W)) (ha : DA X B (e :: es) t)
    (hst : starEach (e :: es) X.env = (false, eval e X.env) :: starEach es X.env := by rfl) (hpl : (backTo pos (starEach es X.env)).any (·.1) = false := by rfl)
    (ht : eval (.Call (.Attribute o m apos) (e :: es) [] pos) X.env = (do
      let ov ← eval o X.env
      standAt apos.atName
      let (f, first) ← holding [ov] (getMethod ov m pl)
      callWith pos f first (backTo pos (starEach (e :: es) X.env)) (backToKw pos (keywordEach [] X.env))) := by rfl) :
    DE X B (.Call (.Attribute o m apos) (e :: es) [] pos) (dMeth C m sp W to fun δ G Q => t δ G fun ds G1 => Q (ds ++ dds) G1) :=
  PE.weak (pe_meth he c hm Fn hr hb hdv hx ha hst hpl ht) fun σ H Q ⟨F, G, δ, Qd, S, h, kk⟩ => ⟨F, G, δ, _, S, h, fun v H1 ⟨F1, G1, d, s1, S1, r1, h1⟩ => by
    cases q : insD d G1 with
    | none =>
      simp only [q] at h1
    | some cf =>
      obtain ⟨C', fs⟩ := cf
      simp only [q] at h1
      obtain ⟨rfl, hl, h1⟩ := h1
      obtain ⟨a, dx, fv, rfl, e, gc, na, rf⟩ := ins_rep S1 r1 q
      refine ⟨a, dx, fv, rfl, e, rf.lookN hl, F1, G1, δ, _, S1, h1, fun vs H2 ⟨F2, G2, ds, s2, S2, r2, h2⟩ => ?_⟩
      exact low_of kk (s1.trans s2) S2 (.cons (r1.mono s2) (r2.append (rd F2))) h2⟩
theorem de_callODf {tf : TED} {fe : Expr} (rd : ∀ F, RepAll X.K F dvs dds) (hdv : Vals dvs dus) (hf : DE X B fe tf) (c : StX.CallO X.K C f) (Fn : FnD X.prog X.w X.K X.mg X.base k f fd ps sp) (hr : Room k X.A) (hb : Binds X.K fd ps dus) (hx : Passes (L2.CX X.prog X.w) X (XW X.K B W)) (ha : DA X B (e :: es) t)
    (ht : eval (.Call fe (e :: es) [] pos) X.env = (do callWith pos (← eval fe X.env) [] (backTo pos (starEach (e :: es) X.env)) (backToKw pos (keywordEach [] X.env))) := by rfl)
    (he : starEach (e :: es) X.env = (false, eval e X.env) :: starEach es X.env := by rfl) (hpl : (backTo pos (starEach es X.env)).any (·.1) = false := by rfl) : DE X B (.Call fe (e :: es) [] pos) (dCallO C sp W tf fun δ G Q => t δ G fun ds G1 => Q (ds ++ dds) G1) :=
  PE.weak (StX.pe_callO hf c (FnOk.raw Fn hb hdv) hr hx ha ht he hpl) fun σ H Q ⟨F, G, δ, Qd, S, h, kk⟩ => ⟨F, G, δ, _, S, h, fun v H1 ⟨F1, G1, d, s1, S1, r1, ho, h1⟩ => by
    obtain ⟨a, rfl⟩ := isO_ref r1 ho
    refine ⟨a, rfl, F1, G1, δ, _, S1, h1, fun vs H2 ⟨F2, G2, ds, s2, S2, r2, h2⟩ => ?_⟩
    cases q : insD d G2 with
    | none => simp only [q] at h2
    | some cf =>
      obtain ⟨C', fs⟩ := cf
      simp only [q] at h2
      obtain ⟨rfl, h3⟩ := h2
      have r3 := r1.mono s2
      obtain ⟨a', dx, fv, ea, e1, gc, na, rf⟩ := ins_rep S2 r3 q
      cases ea
      refine ⟨.inr ⟨dx, fv, e1⟩, ?_⟩
      show lowSp X.K sp ((V.ref a :: vs) ++ dvs) H2 Q _
      exact low_of kk (s1.trans s2) S2 (.cons r3 (r2.append (rd F2))) h3⟩
end
end JP
namespace JP
open PySem PySem.Spec PyProof.Rows L2
section
variable {X : Cx} {K : PySem.W.Frag} {F : Hp}
def rEqSame (K : PySem.W.Frag) : R2 := fun x y H Q => ∃ a b, ∃ xs : List Addr, x = .ref a ∧ y = .ref b ∧ SqT K H a (xs.map V.ref) ∧ SqT K H b (xs.map V.ref) ∧ Q (.bl true) H
theorem vals_refs : ∀ {xs : List Addr} {its : List Value}, Vals (xs.map V.ref) its → its = xs.map Value.ref
  | [], _, .nil => rfl
  | _ :: _, _, .cons h t => by
    cases h
    rw [vals_refs t]
    rfl
theorem op_eqSame (hu : X.A.units + 64 < cLine) : OpR X (compareOp .Eq) (rEqSame X.K) := by
  intro pins s σ H x y v u Q I rx ry h
  obtain ⟨a, b, xs, rfl, rfl, ha, hb, q⟩ := h
  cases rx
  cases ry
  obtain ⟨its, r, e, z⟩ := I.tuple ha
  obtain ⟨its2, r2, e2, z2⟩ := I.tuple hb
  have h1 := vals_refs r
  have h2 := vals_refs r2
  subst h1 h2
  refine GQ.rc_tupG rfl (show X.A.units < cLine by omega) (fun _ s' => s' = s) e e2 (fun i h1 h2 s' q => ?_) (fun s' q' => ?_) rfl
  · exact SeqAt.EqAt.same (A := X.A.in1) (s := s') _ X.prog X.w X.xe _ ⟨rfl, q⟩
  · subst q'
    exact ⟨.bl true, H, I, rfl, q⟩
def eqSameD : R2D := fun a b G Q => ∃ xs : List Addr, a = .tup (xs.map D.adr) ∧ b = .tup (xs.map D.adr) ∧ Q (.bl true) G
theorem rep_adrs : ∀ {xs : List Addr} {vs : List V}, RepAll K F vs (xs.map D.adr) → vs = xs.map V.ref
  | [], _, .nil => rfl
  | _ :: _, _, .cons h t => by
    cases h
    rw [rep_adrs t]
    rfl
theorem eqSame_A : OpA K (rEqSame K) eqSameD := fun B σ δ H F G x y a b Qd Q S r1 r2 ⟨xs, ea, eb, h⟩ k => by
  subst ea eb
  cases r1 with
  | tup h1 ra =>
    cases r2 with
    | tup h2 rb =>
      have e1 := rep_adrs ra
      have e2 := rep_adrs rb
      subst e1 e2
      exact ⟨_, _, xs, rfl, rfl, .inl (.inl (S.ds.sub _ _ h1)), .inl (.inl (S.ds.sub _ _ h2)), k _ _ (.val S (.bl _) h)⟩
end
end JP
namespace JP
open PySem PySem.Spec PySem.W PyProof.Rows L2
/-- a def: where its function object is, what the text says of it, its defaults -/
structure DefY where
  ad : Frag → Addr
  nm : Str
  qual : Str
  st : Stmt
  dfl : List V
/-- the address behind a class's name in a table -/
def nsA (K : Frag) (C : Addr) (x : Str) : Addr := match findIn K (.ref C) x with
  | some (some (.ref a)) => a
  | _ => 0
/-- what a staticmethod, a property holds first -/
def fstA (K : Frag) (c : String) (p : Addr) : Addr := match recIn K p c with
  | some (.ref a :: _) => a
  | _ => 0
def fnY (K : Frag) (d : DefY) : He.FnW := match K.lookup (d.ad K) with
  | some ⟨_, _, .func fd, _⟩ => some (fd.name, fd.qualname, fd.params, fd.body, fd.scope, fd.globals, fd.closure, fd.builtins)
  | _ => none
def valOf (d : DefY) : He.FnW := some (d.nm, d.qual, defArgs d.st, .stmts (defBody d.st), defScope d.st, mainGlobals, [], builtinsNs)
def okY (K : Frag) (d : DefY) : Bool := keepIn K (.ref (d.ad K)) && match K.lookup (d.ad K) with
  | some ⟨_, _, .func fd, _⟩ => codeIn K fd.code d.qual && He.dflB K fd.defaults d.dfl
  | _ => false
/-- the code object of the function at a -/
def codeAt (K : Frag) (a : Addr) : Addr := match K.lookup a with
  | some ⟨_, _, .func fd, _⟩ => (match fd.code with
    | .ref c => c
    | _ => 0)
  | _ => 0
def tabAt (K : Frag) (a : Addr) : Addr × Addr := (codeAt K a, He.tabOf K (codeAt K a))
def tabsOk (g : Addr → Option Obj) (K : Frag) (tf : List (Frag → Addr)) : Bool := tf.all fun f => codeHdIn K (tabAt K (f K)).1 (tabAt K (f K)).2 && match g (tabAt K (f K)).2 with
  | some o => He.emptyTab o
  | none => false
/-- a dict of the top with text keys: where, its keys in order -/
abbrev TabY : Type := (Frag → Addr) × List Str
abbrev ObY : Type := Bool × List He.FnW × List (Option (List (Option (Str × Int))))
def lookY (n : Nat) (bs : Frag → List Bool) (fn : List DefY) (tf : List (Frag → Addr)) (ts : List TabY) (g : Addr → Option Obj) : ObY :=
  ((bs (He.frT g (PySem.cStatics :: He.asD g n))).all id && ((fn.all (okY (He.frT g (PySem.cStatics :: He.asD g n)))) && tabsOk g (He.frT g (PySem.cStatics :: He.asD g n)) tf), fn.map (fnY (He.frT g (PySem.cStatics :: He.asD g n))), ts.map fun t => He.dicW (He.frT g (PySem.cStatics :: He.asD g n)) (t.1 (He.frT g (PySem.cStatics :: He.asD g n))))
structure SaysY (bs : Frag → List Bool) (fn : List DefY) (tf : List (Frag → Addr)) (ts : List TabY) (w : World) (h : Heap) (K : Frag) : Prop where
  inK : K.In h
  bools : (bs K).all id = true
  oks : fn.all (okY K) = true
  fns : fn.map (fnY K) = fn.map valOf
  tabs : ts.map (fun t => He.dicW K (t.1 K)) = ts.map fun t => some (He.keysIn w.params t.2)
  hd : ∀ f ∈ tf, codeHdIn K (tabAt K (f K)).1 (tabAt K (f K)).2 = true
  out : ∀ f ∈ tf, K.lookup (tabAt K (f K)).2 = none
  mt : ∀ f ∈ tf, h.get? (tabAt K (f K)).2 = some { cls := .none, data := .fields #[] }
theorem saysY_of {n : Nat} {bs : Frag → List Bool} {fn : List DefY} {tf : List (Frag → Addr)} {ts : List TabY} {w : World} {h : Heap} (e : lookY n bs fn tf ts h.get? = (true, fn.map valOf, ts.map fun t => some (He.keysIn w.params t.2))) : SaysY bs fn tf ts w h (He.frT h.get? (PySem.cStatics :: He.asD h.get? n)) := by
  generalize hK : He.frT h.get? (PySem.cStatics :: He.asD h.get? n) = K at *
  have e' : ((bs K).all id && (fn.all (okY K) && tabsOk h.get? K tf), fn.map (fnY K), ts.map fun t => He.dicW K (t.1 K)) = ((true, fn.map valOf, ts.map fun t => some (He.keysIn w.params t.2)) : ObY) := by rw [← hK]; exact e
  injection e' with e1 e23
  injection e23 with e2 e3
  rw [Bool.and_eq_true, Bool.and_eq_true] at e1
  obtain ⟨b1, b2, b3⟩ := e1
  have each : ∀ f ∈ tf, codeHdIn K (tabAt K (f K)).1 (tabAt K (f K)).2 = true ∧ ∃ o, h.get? (tabAt K (f K)).2 = some o ∧ He.emptyTab o = true := by
    intro f hf
    have z := List.all_eq_true.mp b3 f hf
    rw [Bool.and_eq_true] at z
    refine ⟨z.1, ?_⟩
    cases q : h.get? (tabAt K (f K)).2 with
    | none => rw [q] at z; cases z.2
    | some o => rw [q] at z; exact ⟨o, rfl, z.2⟩
  refine ⟨hK ▸ He.frT_in, b1, b2, e2, e3, fun f hf => (each f hf).1, fun f hf => ?_, fun f hf => ?_⟩
  · obtain ⟨_, o, q, z⟩ := each f hf
    have := He.frT_none (as := PySem.cStatics :: He.asD h.get? n) q z
    rw [hK] at this
    exact this
  · obtain ⟨_, o, q, z⟩ := each f hf
    rw [q, He.emptyTab_eq z]
def hookY (n : Nat) (bs : Frag → List Bool) (fn : List DefY) (tf : List (Frag → Addr)) (ts : List TabY) : Hook where
  α := ObY
  obs := fun s => lookY n bs fn tf ts s.heap.get?
  val := fun w => (true, fn.map valOf, ts.map fun t => some (He.keysIn w.params t.2))
  says := fun w h => ∃ K : Frag, SaysY bs fn tf ts w h K
  of := fun _ _ e => ⟨_, saysY_of e⟩
  keeps := fun _ _ _ ⟨K, c⟩ k => ⟨K, ⟨Frag.In.keeps c.inK k, c.bools, c.oks, c.fns, c.tabs, c.hd, c.out, fun f hf => k _ _ (c.mt f hf)⟩⟩
theorem lookY_eq {n : Nat} {bs : Frag → List Bool} {fn : List DefY} {tf : List (Frag → Addr)} {ts : List TabY} {g : Addr → Option Obj} {s : Shared} (h : ∀ a, g a = s.heap.get? a) : lookY n bs fn tf ts g = (hookY n bs fn tf ts).obs s := by
  obtain rfl : g = s.heap.get? := funext h
  rfl
section
variable {bs : Frag → List Bool} {fn : List DefY} {tf : List (Frag → Addr)} {ts : List TabY} {w : World} {h : Heap} {K : Frag}
theorem SaysY.bit (c : SaysY bs fn tf ts w h K) (i : Nat) {b : Bool} (e : (bs K)[i]? = some b) : b = true := List.all_eq_true.mp c.bools b (List.mem_of_getElem? e)
theorem SaysY.tab (c : SaysY bs fn tf ts w h K) (i : Nat) {t : TabY} (e : ts[i]? = some t := by rfl) : ∃ es n, L2.KDict K w (t.1 K) es n := by
  have e2 : (ts.map fun t => He.dicW K (t.1 K))[i]? = (ts.map fun t => some (He.keysIn w.params t.2))[i]? := by rw [c.tabs]
  rw [List.getElem?_map, List.getElem?_map, e] at e2
  exact He.dicW_ok (Option.some.inj e2)
theorem SaysY.fn_at (c : SaysY bs fn tf ts w h K) (i : Nat) {d : DefY} (e : fn[i]? = some d) :
    ∃ oc od osl dV kV doc pm an cdv ct, K.lookup (d.ad K) = some ⟨oc, od, .func (fnOf d.nm d.qual (defArgs d.st) (defBody d.st) (defScope d.st) dV kV doc pm an cdv ct), osl⟩ ∧ codeIn K cdv d.qual = true ∧ keepIn K (.ref (d.ad K)) = true ∧ DflV K dV d.dfl := by
  have ok := List.all_eq_true.mp c.oks d (List.mem_of_getElem? e)
  have val : fnY K d = valOf d := by
    have := congrArg (fun z : List He.FnW => z[i]?) c.fns
    simp only [List.getElem?_map, e, Option.map_some, Option.some.injEq] at this
    exact this
  unfold okY at ok
  unfold fnY at val
  rw [Bool.and_eq_true] at ok
  obtain ⟨k1, k2⟩ := ok
  cases q : K.lookup (d.ad K) with
  | none => rw [q] at k2; cases k2
  | some o =>
    obtain ⟨oc, od, dt, osl⟩ := o
    rw [q] at k2 val
    cases dt with
    | func fd =>
      obtain ⟨n1, n2, n3, n4, n5, n6, n7, n8, n9, n10, n11, n12, n13, n14, n15⟩ := fd
      rw [Bool.and_eq_true] at k2
      have v : (some (n1, n2, n3, n4, n5, n6, n7, n15) : He.FnW) = valOf d := val
      simp only [valOf, Option.some.injEq, Prod.mk.injEq] at v
      obtain ⟨rfl, rfl, rfl, rfl, rfl, rfl, rfl, rfl⟩ := v
      exact ⟨oc, od, osl, _, _, _, _, _, _, _, rfl, k2.1, k1, He.dflB_ok k2.2⟩
    | _ => cases k2
end
end JP
namespace JP
open PySem PySem.Spec PySem.W PySem.Calls PyProof.Rows L2
/-- the abstract heap at the law's call: the empty tables, the script at most -/
def endHp (K : Frag) (ts : List Addr) (a : Addr) (o : Obj) (xs : List V) : Hp := fun b => if b ∈ ts then some (.tbl #[]) else scriptHp K a o xs b
/-- so it looks -/
def OnlyT (ts : List Addr) (H : Hp) : Prop := ∀ b, (b ∈ ts → H b = some (.tbl #[])) ∧ (b ∉ ts → H b = none ∨ ∃ o xs, H b = some (.frz o (.lst xs)))
section
variable {K : Frag} {ts : List Addr} {a b : Addr} {o : Obj} {xs : List V}
theorem endHp_tab (h : b ∈ ts) : endHp K ts a o xs b = some (.tbl #[]) := if_pos h
theorem endHp_not (h : b ∉ ts) : endHp K ts a o xs b = scriptHp K a o xs b := if_neg h
theorem endHp_only : OnlyT ts (endHp K ts a o xs) := fun b => ⟨endHp_tab, fun h => by
  rw [endHp_not h]
  exact scriptHp_only b⟩
end
theorem law_gt {P : Program} {w : World} {K : Frag} {mg mb : Str → Option Value} {k : Nat} {fa a : Addr} {fd : FuncData} {x : Str} {sp : Sp} {s : Shared} {vs : List Value} {ns : List Int} {cs : List (Addr × Addr)}
    (inK : K.In s.heap) (gl : s.heap.Ns mainGlobals mg) (bl : s.heap.Ns builtinsNs mb) (blt : ∀ x : Str, x ≠ "__name__" → mb x = bootBuiltins x) (nl : s.heap.NoLimit) (gens : s.gens = #[])
    (mt : ∀ p ∈ cs, s.heap.get? p.2 = some { cls := .none, data := .fields #[] }) (out : ∀ p ∈ cs, K.lookup p.2 = none) (hds : ∀ p ∈ cs, CodeHd s.heap p.1 p.2)
    (main : ∃ (bm : Addr) (ob : Obj), mg "__builtins__" = some (.ref bm) ∧ bm ≠ builtinsNs ∧ s.heap.get? bm = some ob ∧ ob.cls = .type "module" ∧ ob.dict = some builtinsNs ∧ ob.data = .plain)
    (obj : s.heap.get? a = some { cls := .type "list", data := .seq vs.toArray }) (hnum : IntsAre vs ns) (small : ns.length ≤ sizeLine) (room : Room k callerA)
    (F : ∀ base : Heap, K.In base → base.Ns mainGlobals mg → (∀ p ∈ cs, LamX.TabB base mg p.1 p.2) → GOk P w K mg base k fa fd [x] sp) (bind : ∀ (s : Shared) (u : Value), BindsTo s fd ⟨[u], []⟩ [(x, u)])
    (sat : ∀ H : Hp, OnlyT (cs.map Prod.snd) H → SqL K H a (ns.map V.int) → sp [.ref a] H (fun v _ => v = .bl true) fun _ _ _ => False) :
    codeAny (model P w) callerA (.call (.ref fa) ⟨[.ref a], []⟩) (fun r s' => r = .ok (.ret (.bool true)) ∧ OldK s.heap s'.heap ∧ s'.os = s.os ∧ AllBare s'.gens) s := by
  have rel := vals_ints hnum
  have wide : (ns.map V.int).length ≤ sizeLine := by
    rw [List.length_map]
    exact small
  generalize hts : cs.map Prod.snd = ts at sat
  have tab_at : ∀ {b : Addr}, b ∈ ts → s.heap.get? b = some { cls := .none, data := .fields #[] } := by
    intro b hb
    rw [← hts] at hb
    obtain ⟨p, hp, rfl⟩ := List.mem_map.mp hb
    exact mt p hp
  have tab_K : ∀ {b : Addr}, b ∈ ts → K.lookup b = none := by
    intro b hb
    rw [← hts] at hb
    obtain ⟨p, hp, rfl⟩ := List.mem_map.mp hb
    exact out p hp
  have a_ts : a ∉ ts := by
    intro hb
    have q := tab_at hb
    rw [obj] at q
    cases q
  generalize hH : endHp K ts a { cls := .type "list", data := .seq vs.toArray } (ns.map V.int) = H
  have only : OnlyT ts H := hH ▸ endHp_only
  have kinds : ∀ {b : Addr} {u : HO}, H b = some u → (b ∈ ts ∧ u = .tbl #[]) ∨ (b ∉ ts ∧ b = a ∧ K.lookup a = none ∧ u = .frz { cls := .type "list", data := .seq vs.toArray } (.lst (ns.map V.int))) := by
    intro b u e
    by_cases hb : b ∈ ts
    · rw [(only b).1 hb] at e
      exact .inl ⟨hb, (Option.some.inj e).symm⟩
    · rw [← hH, endHp_not hb] at e
      obtain ⟨q1, q2, q3⟩ := scriptHp_some e
      exact .inr ⟨hb, q1, q2, q3⟩
  have held : HOk P w H s.heap := by
    intro b u e
    rcases kinds e with ⟨hb, rfl⟩ | ⟨_, rfl, _, rfl⟩
    · exact tab_at hb
    · exact ⟨obj, wide, vs, _, rel, obj⟩
  have seq : SqL K H a (ns.map V.int) := by
    cases q : K.lookup a with
    | none =>
      refine .inl (.inr ⟨{ cls := .type "list", data := .seq vs.toArray }, ?_⟩)
      rw [← hH, endHp_not a_ts]
      exact if_pos ⟨rfl, q⟩
    | some o =>
      have e := inK a o q
      rw [obj] at e
      cases e
      exact .inr ⟨_, vs.toArray, _, q, rfl, rfl, rfl, by
        rw [List.size_toArray, hnum.length]
        exact small, by simpa using rel⟩
  have free : ∀ {b : Addr} {ob : Obj}, s.heap.get? b = some ob → (∀ its n, ob.data ≠ .seq its n) → ob.data ≠ .fields #[] → H b = none := by
    intro b ob e d1 d2
    cases q : H b with
    | none => rfl
    | some u =>
      rcases kinds q with ⟨hb, _⟩ | ⟨_, rfl, _, _⟩
      · rw [tab_at hb] at e
        cases e
        exact absurd rfl d2
      · rw [obj] at e
        cases e
        exact absurd rfl (d1 _ _)
  have nsOk : ∀ {b : Addr} {m : Str → Option Value}, s.heap.Ns b m → (hidT s.heap H).Ns b m := by
    intro b m z
    obtain ⟨ob, es, ep, e, d, r⟩ := z
    exact ⟨ob, es, ep, hidT_get e (free e (by intro its n z; rw [d] at z; cases z) (by intro z; rw [d] at z; cases z)), d, r⟩
  have inB : K.In (hidT s.heap H) := by
    intro b ob e
    refine hidT_get (inK b ob e) ?_
    cases q : H b with
    | none => rfl
    | some u =>
      rcases kinds q with ⟨hb, _⟩ | ⟨_, rfl, z, _⟩
      · rw [tab_K hb] at e
        cases e
      · rw [z] at e
        cases e
  have mods : Mod K mg (hidT s.heap H) := by
    obtain ⟨mc, h1, h2⟩ := nl
    exact ⟨inB, nsOk gl, ⟨mb, nsOk bl, blt⟩, mc, nsOk h1, h2⟩
  have tabB : ∀ p ∈ cs, LamX.TabB (hidT s.heap H) mg p.1 p.2 := by
    intro p hp
    have here := mt p hp
    constructor
    · obtain ⟨ob, fs, y1, y2, y3, y4, y5, y6, y7, got, cl, da, p11, rest⟩ := hds p hp
      refine ⟨ob, fs, y1, y2, y3, y4, y5, y6, y7, hidT_get got (free got ?_ ?_), cl, da, p11, rest⟩
      · intro its n z
        rw [da] at z
        cases z
      · intro z
        rw [da] at z
        cases z
        cases p11
    · obtain ⟨bm, ob, b1, b2, b3, b4, b5, b6⟩ := main
      refine ⟨bm, ob, b1, b2, ?_, ?_, hidT_get b3 (free b3 ?_ ?_), b4, b5, b6⟩
      · intro q
        obtain ⟨o', es, ep, e, hd, _⟩ := gl
        rw [q, e] at b3
        cases b3
        rw [hd] at b6
        cases b6
      · intro q
        rw [q, here] at b3
        cases b3
        cases b6
      · intro its n z
        rw [b6] at z
        cases z
      · intro z
        rw [b6] at z
        cases z
    · intro z
      obtain ⟨o', es, ep, e, hd, _⟩ := gl
      rw [z, here] at e
      cases e
      cases hd
  have e0 : Env0 P w K mg (hidT s.heap H) callerA [] s H :=
    { frames := rfl, mod := mods, bs := fun b o e => of_hidT e, bsz := Nat.le_of_eq (hidT_size _ _), funs := trivial, frf := fun b z => (List.not_mem_nil z).elim, hok := held, bare := .of_eq gens }
  apply codeAny_mono ((F _ inB (nsOk gl) tabB).kept callerA [] s H ⟨[.ref a], []⟩ [.ref a] [.ref a] _ _ rfl room e0 (bind s (.ref a)) (.cons rfl .nil) (sat H only seq))
  intro r s' z
  match r, z with
  | .error _, z => exact z.elim
  | .ok .next, z => exact z.elim
  | .ok .brk, z => exact z.elim
  | .ok .cont, z => exact z.elim
  | .ok (.ret u), ⟨v, H', os, bare, un, held', rv, z⟩ =>
    have ev : v = .bl true := z
    subst ev
    have eu : u = Value.bool true := rv
    subst eu
    have stays : ∀ b ob, b ∉ ts → s.heap.get? b = some ob → s'.heap.get? b = some ob := by
      intro b ob hb e
      cases q : H b with
      | none => exact un.keep b ob e q List.not_mem_nil List.not_mem_nil
      | some u =>
        rcases kinds q with ⟨hb', _⟩ | ⟨_, rfl, _, rfl⟩
        · exact absurd hb' hb
        · have e1 := (held' _ _ (un.frzs _ _ _ q)).1
          rw [obj] at e
          cases e
          exact e1
    have grows : ∀ p ∈ cs, ∃ more : Array Value, s'.heap.get? p.2 = some { cls := .none, data := .fields more } := by
      intro p hp
      have mem : p.2 ∈ ts := hts ▸ List.mem_map.mpr ⟨p, hp, rfl⟩
      obtain ⟨more, q⟩ := un.tbls p.2 #[] ((only p.2).1 mem)
      exact ⟨_, held' p.2 _ q⟩
    have isTab : ∀ {b : Addr}, b ∈ ts → ∃ p ∈ cs, p.2 = b := by
      intro b hb
      rw [← hts] at hb
      obtain ⟨p, hp, e⟩ := List.mem_map.mp hb
      exact ⟨p, hp, e⟩
    refine ⟨rfl, ⟨?_, ?_⟩, os, bare⟩
    · intro b ob e
      by_cases hb : b ∈ ts
      · right; left
        obtain ⟨p, hp, rfl⟩ := isTab hb
        obtain ⟨more, hm⟩ := grows p hp
        rw [mt p hp] at e
        cases e
        refine ⟨((hds p hp).tab (mt p hp)).isCodeTable, rfl, #[], more, rfl, ?_⟩
        rw [hm, Array.empty_append]
      · left
        exact stays b ob hb e
    · intro b ob e
      by_cases hb : b ∈ ts
      · obtain ⟨p, hp, rfl⟩ := isTab hb
        obtain ⟨more, hm⟩ := grows p hp
        exact ⟨_, hm⟩
      · exact ⟨ob, stays b ob hb e⟩
/-- the law by what the head says of it -/
theorem walk_gt {l : OpenLaw} {n k : Nat} {q : Program} {loose : List Str} {XP : (Str → Option Value) → Heap → Prop} {YP : World → Heap → Prop} {d : DefRec} {x : Str}
    (most : l.most = some n) (small : n ≤ sizeLine) (nodef : d.params.defaults = []) (room : Room k callerA)
    (F : ∀ (w : World) (mg : Str → Option Value) (fa : Addr) (h : Heap), YP w h → h.Ns mainGlobals mg → mg d.name = some (.ref fa) →
      ∃ (K : Frag) (fd : FuncData) (cs : List (Addr × Addr)) (sp : Sp), K.In h ∧ (∀ p ∈ cs, h.get? p.2 = some { cls := .none, data := .fields #[] }) ∧ (∀ p ∈ cs, K.lookup p.2 = none) ∧ (∀ p ∈ cs, CodeHd h p.1 p.2) ∧
        (∀ (s : Shared) (u : Value), BindsTo s fd ⟨[u], []⟩ [(x, u)]) ∧ (∀ (H : Hp) (a : Addr) (ns : List Int), ns.length ≤ n → OnlyT (cs.map Prod.snd) H → SqL K H a (ns.map V.int) → sp [.ref a] H (fun v _ => v = .bl true) fun _ _ _ => False) ∧
        ∀ base : Heap, K.In base → base.Ns mainGlobals mg → (∀ p ∈ cs, LamX.TabB base mg p.1 p.2) → GOk l.prog w K mg base k fa fd [x] sp) :
    WalkO q loose XP YP l.row.toRowW d [] (fun f vs => PySem.call f vs) := by
  apply Att.attach_callB most nodef
  intro w s₀ s mg mb fa o pm cd doc a vs ns G Y ho hd hcd hmg obj hnum len bits gens
  obtain ⟨K, fd, cs, sp, inK, mt, out, hds, hb, sat, hF⟩ := F w mg fa _ Y G.T.g hmg
  exact law_gt inK G.T.g G.T.b G.T.builtins G.T.nolimit gens mt out hds G.T.bmain obj hnum (Nat.le_trans len small) room hF hb fun H hO hS => sat H a ns len hO hS
/-- what is to be shown of a law that says how it draws -/
theorem law_satT {K : Frag} {Tb : List (Addr × Str)} {a : Addr} {ns : List Int} {H : Hp} {ts : List Addr} (hT : ∀ p ∈ Tb, p.1 ∈ ts) (hl : ns.length ≤ 63) (o : OnlyT ts H) (s : SqL K H a (ns.map V.int)) : lowSpT K Tb lawD [.ref a] H (fun v _ => v = .bl true) fun _ _ _ => False := by
  refine ⟨⟨fun b => if b ∈ ts then none else H b, fun _ => none, Tb⟩, fun _ => none, [.scr ns], fun d _ => d = .bl true, WN, rfl, ⟨?_, ?_, ?_, ?_, ?_, ?_⟩, .cons (.scr ?_) .nil, ⟨ns, rfl, hl, fun _ => rfl, fun _ => rfl⟩, ?_, ?_⟩
  · intro b u e
    change (if b ∈ ts then none else H b) = some u at e
    by_cases hb : b ∈ ts
    · rw [if_pos hb] at e
      cases e
    · rw [if_neg hb] at e
      exact e
  · intro _ _ e
    cases e
  · intro _ _ e
    cases e
  · intro _ _ e
    cases e
  · intro b u e
    change (if b ∈ ts then none else H b) = some u at e
    by_cases hb : b ∈ ts
    · rw [if_pos hb] at e
      cases e
    · rw [if_neg hb] at e
      rcases (o b).2 hb with z | ⟨ob, xs, z⟩
      · rw [z] at e
        cases e
      · rw [z] at e
        cases e
        trivial
  · intro p hp
    exact .nil ((o p.1).1 (hT p hp))
  · rcases s with (s | ⟨ob, s⟩) | s
    · have ha : a ∉ ts := fun z => by rw [(o a).1 z] at s; cases s
      exact .inl (.inl ((if_neg ha).trans s))
    · have ha : a ∉ ts := fun z => by rw [(o a).1 z] at s; cases s
      exact .inl (.inr ⟨ob, (if_neg ha).trans s⟩)
    · exact .inr s
  · rintro v H' ⟨_, _, _, _, _, _, r, e⟩
    subst e
    exact rep_bl r
  · rintro _ _ _ ⟨_, _, _, _, _, _, _, _, w⟩
    exact w
end JP
namespace JP
open PySem PySem.Spec PySem.W PySem.Calls PyProof.Rows L2
/-- an own error class with an own __init__ -/
def oexB (K : Frag) (C : Addr) : Bool := match K.lookup C with
  | some ⟨.type "type", _, .cls cd, sl⟩ => (match cd.mro, sl.toList with
    | .ref D :: up, [_, _, _, _, some (.builtin made), _] => decide (D = C) && (decide (made = "ValueError.__new__") && (cd.hasDict && (!cd.hasDel && PySem.HandSPX.refsVE up)))
    | _, _ => false)
  | _ => false
theorem oexB_cls {K : Frag} {C : Addr} (e : oexB K C = true) : ∃ nm q N bs bm sn sub ab col dd k0 k1 k2 k3 k5, K.lookup C = some (excClassObj nm q C N bs bm true sn sub ab col dd k0 k1 k2 k3 k5 "ValueError.__new__") ∧ PySem.HandSPX.refsVE bm = true := by
  unfold oexB at e
  cases q : K.lookup C with
  | none =>
    rw [q] at e
    cases e
  | some o =>
    rw [q] at e
    split at e
    · rename_i dd cd sl ho
      injection ho with ho
      subst ho
      split at e
      · rename_i D up s0 s1 s2 s3 made s5 hm hs
        rw [Bool.and_eq_true, Bool.and_eq_true, Bool.and_eq_true, Bool.and_eq_true] at e
        obtain ⟨e1, e2, e3, e4, e5⟩ := e
        obtain rfl := of_decide_eq_true e1
        obtain rfl := of_decide_eq_true e2
        obtain ⟨nm, bs, mro, ns, qn, hd, sn, sub, ab, col, del⟩ := cd
        have hm' : mro = .ref D :: up := hm
        have e3' : hd = true := e3
        have e4' : del = false := by simpa using e4
        subst hm' e3' e4'
        obtain ⟨l⟩ := sl
        have hs' : l = [s0, s1, s2, s3, some (.builtin "ValueError.__new__"), s5] := hs
        subst hs'
        exact ⟨nm, qn, ns, bs, up, sn, sub, ab, col, dd, s0, s1, s2, s3, s5, rfl, e5⟩
      · cases e
    · cases e
theorem codeAt_is {K : Frag} {a : Addr} {oc : Value} {od : Option Addr} {osl : Array (Option Value)} {fd : FuncData} {q : Str} (lk : K.lookup a = some ⟨oc, od, .func fd, osl⟩) (hq : codeIn K fd.code q = true) : fd.code = .ref (codeAt K a) := by
  obtain ⟨c, e⟩ := He.codeIn_ref hq
  rw [e]
  unfold codeAt
  rw [lk]
  show Value.ref c = .ref (match fd.code with | .ref c => c | _ => 0)
  rw [e]
theorem dfl_none {K : Frag} {dV : Value} (h : DflV K dV []) : dV = .none := by
  rcases h with ⟨_, e⟩ | ⟨e, _⟩
  · exact e
  · exact absurd rfl e
/-- what stands behind the first -/
def rstA (K : Frag) (c : String) (p : Addr) : List Value := match recIn K p c with
  | some (_ :: r) => r
  | _ => []
section
variable {bs : Frag → List Bool} {fn : List DefY} {tf : List (Frag → Addr)} {ts : List TabY} {w : World} {h : Heap} {K : Frag}
theorem SaysY.fact (c : SaysY bs fn tf ts w h K) (i : Nat) {p : Prop} [Decidable p] (e : (bs K)[i]? = some (decide p) := by rfl) : p := of_decide_eq_true (c.bit i e)
theorem SaysY.mts (c : SaysY bs fn tf ts w h K) : ∀ p ∈ tf.map (fun f => tabAt K (f K)), h.get? p.2 = some { cls := .none, data := .fields #[] } := fun p hp => by
  obtain ⟨f, hf, rfl⟩ := List.mem_map.mp hp
  exact c.mt f hf
theorem SaysY.outs (c : SaysY bs fn tf ts w h K) : ∀ p ∈ tf.map (fun f => tabAt K (f K)), K.lookup p.2 = none := fun p hp => by
  obtain ⟨f, hf, rfl⟩ := List.mem_map.mp hp
  exact c.out f hf
theorem SaysY.hds (c : SaysY bs fn tf ts w h K) : ∀ p ∈ tf.map (fun f => tabAt K (f K)), CodeHd h p.1 p.2 := fun p hp => by
  obtain ⟨f, hf, rfl⟩ := List.mem_map.mp hp
  exact codeHd_of_K c.inK (c.hd f hf)
end
end JP
namespace JP
open PySem PySem.Spec PyProof.Rows L2
def topS (i : Nat) : Stmt := PySem.Challenge.pw_rowcounts_k08_conditions_and_their_truth.main.body.getD i (.Pass ⟨0, 0, 0, 0⟩)
def poolN : List Str := ["x", "y", "col", "abcdefgh", "in", "z", "other", "a"]
abbrev sis_integer : Stmt := topS 4
abbrev Nis_integer : List Str := ["value"]
theorem scis_integer : FnScope Nis_integer ["value"] (defScope sis_integer) := ⟨rfl, rfl, rfl, by decide +kernel, rfl, by decide +kernel, by decide +kernel⟩
abbrev sis_value : Stmt := topS 5
abbrev Nis_value : List Str := ["value"]
theorem scis_value : FnScope Nis_value ["value"] (defScope sis_value) := ⟨rfl, rfl, rfl, by decide +kernel, rfl, by decide +kernel, by decide +kernel⟩
abbrev sis_name : Stmt := topS 6
abbrev Nis_name : List Str := ["value"]
theorem scis_name : FnScope Nis_name ["value"] (defScope sis_name) := ⟨rfl, rfl, rfl, by decide +kernel, rfl, by decide +kernel, by decide +kernel⟩
abbrev sown_copy : Stmt := topS 10
abbrev Nown_copy : List Str := ["value", "item", "key"]
theorem scown_copy : FnScope Nown_copy ["value"] (defScope sown_copy) := ⟨rfl, rfl, rfl, by decide +kernel, rfl, by decide +kernel, by decide +kernel⟩
abbrev scheck_comparison : Stmt := topS 37
abbrev Ncheck_comparison : List Str := ["column", "number"]
theorem sccheck_comparison : FnScope Ncheck_comparison ["column", "number"] (defScope scheck_comparison) := ⟨rfl, rfl, rfl, by decide +kernel, rfl, by decide +kernel, by decide +kernel⟩
abbrev scheck_told : Stmt := topS 39
abbrev Ncheck_told : List Str := ["asked", "values", "counts", "column", "name"]
theorem sccheck_told : FnScope Ncheck_told ["asked", "values", "counts"] (defScope scheck_told) := ⟨rfl, rfl, rfl, by decide +kernel, rfl, by decide +kernel, by decide +kernel⟩
abbrev sare_values : Stmt := topS 40
abbrev Nare_values : List Str := ["value", "column"]
theorem scare_values : FnScope Nare_values ["value"] (defScope sare_values) := ⟨rfl, rfl, rfl, by decide +kernel, rfl, by decide +kernel, by decide +kernel⟩
abbrev sare_counts : Stmt := topS 41
abbrev Nare_counts : List Str := ["value", "name"]
theorem scare_counts : FnScope Nare_counts ["value"] (defScope sare_counts) := ⟨rfl, rfl, rfl, by decide +kernel, rfl, by decide +kernel, by decide +kernel⟩
abbrev s_law_pen : Stmt := topS 43
abbrev N_law_pen : List Str := ["_law_script"]
theorem sc_law_pen : FnScope N_law_pen ["_law_script"] (defScope s_law_pen) := ⟨rfl, rfl, rfl, by decide +kernel, rfl, by decide +kernel, by decide +kernel⟩
abbrev s_law_draw : Stmt := topS 44
abbrev N_law_draw : List Str := ["_law_pen_here", "_law_many", "_law_digit", "_law_at", "_law_cell", "_law_great", "_law_mixed"]
theorem sc_law_draw : FnScope N_law_draw ["_law_pen_here", "_law_many"] (defScope s_law_draw) := ⟨rfl, rfl, rfl, by decide +kernel, rfl, by decide +kernel, by decide +kernel⟩
abbrev s_law_pick : Stmt := topS 45
abbrev N_law_pick : List Str := ["_law_pen_here", "_law_some"]
theorem sc_law_pick : FnScope N_law_pick ["_law_pen_here", "_law_some"] (defScope s_law_pick) := ⟨rfl, rfl, rfl, by decide +kernel, rfl, by decide +kernel, by decide +kernel⟩
abbrev s_law_heard : Stmt := topS 46
abbrev N_law_heard : List Str := ["_law_ask", "_law_caught", "error"]
theorem sc_law_heard : FnScope N_law_heard ["_law_ask"] (defScope s_law_heard) := ⟨rfl, rfl, rfl, by decide +kernel, rfl, by decide +kernel, by decide +kernel⟩
abbrev s_law_one_right : Stmt := topS 47
abbrev N_law_one_right : List Str := ["_law_pen_here", "_law_word", "_law_title", "_law_number_so", "_law_made", "_law_text_so", "_law_value", "_law_due", "_law_told"]
theorem sc_law_one_right : FnScope N_law_one_right ["_law_pen_here", "_law_word", "_law_title", "_law_number_so"] (defScope s_law_one_right) := ⟨rfl, rfl, rfl, by decide +kernel, rfl, by decide +kernel, by decide +kernel⟩
abbrev slaw : Stmt := topS 48
abbrev Nlaw : List Str := ["_law_script", "_law_pen_here", "_law_lap", "_law_title", "_law_number_so", "_law_word", "_law_some", "_law_again", "_law_due", "_law_odd", "_law_bad", "_law_heard_here", "_law_at", "_law_spot", "_law_one", "_law_other"]
theorem sclaw : FnScope Nlaw ["_law_script"] (defScope slaw) := ⟨rfl, rfl, rfl, by decide +kernel, rfl, by decide +kernel, by decide +kernel⟩
abbrev sTest___init__ : Stmt := inClass (topS 23) 0
abbrev NTest___init__ : List Str := ["self", "text", "size", "columns", "names", "conditions"]
theorem scTest___init__ : FnScope NTest___init__ ["self", "text", "size", "columns", "names", "conditions"] (defScope sTest___init__) := ⟨rfl, rfl, rfl, by decide +kernel, rfl, by decide +kernel, by decide +kernel⟩
abbrev sTest_truth : Stmt := inClass (topS 23) 5
abbrev NTest_truth : List Str := ["self", "values", "counts"]
theorem scTest_truth : FnScope NTest_truth ["self", "values", "counts"] (defScope sTest_truth) := ⟨rfl, rfl, rfl, by decide +kernel, rfl, by decide +kernel, by decide +kernel⟩
abbrev sTest___call__ : Stmt := inClass (topS 23) 6
abbrev NTest___call__ : List Str := ["self", "values", "counts"]
theorem scTest___call__ : FnScope NTest___call__ ["self", "values", "counts"] (defScope sTest___call__) := ⟨rfl, rfl, rfl, by decide +kernel, rfl, by decide +kernel, by decide +kernel⟩
abbrev sTest_columns : Stmt := inClass (topS 23) 1
abbrev NTest_columns : List Str := ["self"]
theorem scTest_columns : FnScope NTest_columns ["self"] (defScope sTest_columns) := ⟨rfl, rfl, rfl, by decide +kernel, rfl, by decide +kernel, by decide +kernel⟩
abbrev sTest_names : Stmt := inClass (topS 23) 2
abbrev NTest_names : List Str := ["self"]
theorem scTest_names : FnScope NTest_names ["self"] (defScope sTest_names) := ⟨rfl, rfl, rfl, by decide +kernel, rfl, by decide +kernel, by decide +kernel⟩
abbrev sTest_size : Stmt := inClass (topS 23) 4
abbrev NTest_size : List Str := ["self"]
theorem scTest_size : FnScope NTest_size ["self"] (defScope sTest_size) := ⟨rfl, rfl, rfl, by decide +kernel, rfl, by decide +kernel, by decide +kernel⟩
abbrev sTest_conditions : Stmt := inClass (topS 23) 3
abbrev NTest_conditions : List Str := ["self"]
theorem scTest_conditions : FnScope NTest_conditions ["self"] (defScope sTest_conditions) := ⟨rfl, rfl, rfl, by decide +kernel, rfl, by decide +kernel, by decide +kernel⟩
abbrev sTest___eq__ : Stmt := inClass (topS 23) 10
abbrev NTest___eq__ : List Str := ["self", "other"]
theorem scTest___eq__ : FnScope NTest___eq__ ["self", "other"] (defScope sTest___eq__) := ⟨rfl, rfl, rfl, by decide +kernel, rfl, by decide +kernel, by decide +kernel⟩
abbrev sTest___str__ : Stmt := inClass (topS 23) 11
abbrev NTest___str__ : List Str := ["self"]
theorem scTest___str__ : FnScope NTest___str__ ["self"] (defScope sTest___str__) := ⟨rfl, rfl, rfl, by decide +kernel, rfl, by decide +kernel, by decide +kernel⟩
abbrev sCondition___init__ : Stmt := inClass (topS 24) 0
abbrev NCondition___init__ : List Str := ["self", "column", "text"]
theorem scCondition___init__ : FnScope NCondition___init__ ["self", "column", "text"] (defScope sCondition___init__) := ⟨rfl, rfl, rfl, by decide +kernel, rfl, by decide +kernel, by decide +kernel⟩
abbrev sBelow___init__ : Stmt := inClass (topS 25) 0
abbrev NBelow___init__ : List Str := ["self", "column", "number"]
theorem scBelow___init__ : FnScope NBelow___init__ ["self", "column", "number"] (defScope sBelow___init__) := ⟨rfl, rfl, rfl, by decide +kernel, rfl, by decide +kernel, by decide +kernel⟩
abbrev sBelow_known : Stmt := inClass (topS 25) 1
abbrev NBelow_known : List Str := ["self", "values", "counts", "value"]
theorem scBelow_known : FnScope NBelow_known ["self", "values", "counts"] (defScope sBelow_known) := ⟨rfl, rfl, rfl, by decide +kernel, rfl, by decide +kernel, by decide +kernel⟩
abbrev sUpTo___init__ : Stmt := inClass (topS 26) 0
abbrev NUpTo___init__ : List Str := ["self", "column", "number"]
theorem scUpTo___init__ : FnScope NUpTo___init__ ["self", "column", "number"] (defScope sUpTo___init__) := ⟨rfl, rfl, rfl, by decide +kernel, rfl, by decide +kernel, by decide +kernel⟩
abbrev sUpTo_known : Stmt := inClass (topS 26) 1
abbrev NUpTo_known : List Str := ["self", "values", "counts", "value"]
theorem scUpTo_known : FnScope NUpTo_known ["self", "values", "counts"] (defScope sUpTo_known) := ⟨rfl, rfl, rfl, by decide +kernel, rfl, by decide +kernel, by decide +kernel⟩
abbrev sEquals___init__ : Stmt := inClass (topS 27) 0
abbrev NEquals___init__ : List Str := ["self", "column", "number"]
theorem scEquals___init__ : FnScope NEquals___init__ ["self", "column", "number"] (defScope sEquals___init__) := ⟨rfl, rfl, rfl, by decide +kernel, rfl, by decide +kernel, by decide +kernel⟩
abbrev sEquals_known : Stmt := inClass (topS 27) 1
abbrev NEquals_known : List Str := ["self", "values", "counts", "value"]
theorem scEquals_known : FnScope NEquals_known ["self", "values", "counts"] (defScope sEquals_known) := ⟨rfl, rfl, rfl, by decide +kernel, rfl, by decide +kernel, by decide +kernel⟩
abbrev sMissing___init__ : Stmt := inClass (topS 28) 0
abbrev NMissing___init__ : List Str := ["self", "column"]
theorem scMissing___init__ : FnScope NMissing___init__ ["self", "column"] (defScope sMissing___init__) := ⟨rfl, rfl, rfl, by decide +kernel, rfl, by decide +kernel, by decide +kernel⟩
abbrev sMissing_known : Stmt := inClass (topS 28) 1
abbrev NMissing_known : List Str := ["self", "values", "counts"]
theorem scMissing_known : FnScope NMissing_known ["self", "values", "counts"] (defScope sMissing_known) := ⟨rfl, rfl, rfl, by decide +kernel, rfl, by decide +kernel, by decide +kernel⟩
abbrev sBadName___init__ : Stmt := inClass (topS 16) 0
abbrev NBadName___init__ : List Str := ["self", "value"]
theorem scBadName___init__ : FnScope NBadName___init__ ["self", "value"] (defScope sBadName___init__) := ⟨rfl, rfl, rfl, by decide +kernel, rfl, by decide +kernel, by decide +kernel⟩
abbrev sBadNumber___init__ : Stmt := inClass (topS 17) 0
abbrev NBadNumber___init__ : List Str := ["self", "value"]
theorem scBadNumber___init__ : FnScope NBadNumber___init__ ["self", "value"] (defScope sBadNumber___init__) := ⟨rfl, rfl, rfl, by decide +kernel, rfl, by decide +kernel, by decide +kernel⟩
structure Top (K : PySem.W.Frag) (mg : Str → Option Value) (w : World) where
  a_is_integer : Addr
  d_is_integer : FuncData
  F_is_integer : Fun K "is_integer" "is_integer" sis_integer a_is_integer d_is_integer
  b_is_integer : Binds K d_is_integer ["value"] []
  g_is_integer : mg "is_integer" = some (.ref a_is_integer)
  a_is_value : Addr
  d_is_value : FuncData
  F_is_value : Fun K "is_value" "is_value" sis_value a_is_value d_is_value
  b_is_value : Binds K d_is_value ["value"] []
  g_is_value : mg "is_value" = some (.ref a_is_value)
  a_is_name : Addr
  d_is_name : FuncData
  F_is_name : Fun K "is_name" "is_name" sis_name a_is_name d_is_name
  b_is_name : Binds K d_is_name ["value"] []
  g_is_name : mg "is_name" = some (.ref a_is_name)
  a_own_copy : Addr
  d_own_copy : FuncData
  F_own_copy : Fun K "own_copy" "own_copy" sown_copy a_own_copy d_own_copy
  b_own_copy : Binds K d_own_copy ["value"] []
  g_own_copy : mg "own_copy" = some (.ref a_own_copy)
  a_check_comparison : Addr
  d_check_comparison : FuncData
  F_check_comparison : Fun K "check_comparison" "check_comparison" scheck_comparison a_check_comparison d_check_comparison
  b_check_comparison : Binds K d_check_comparison ["column", "number"] []
  g_check_comparison : mg "check_comparison" = some (.ref a_check_comparison)
  a_check_told : Addr
  d_check_told : FuncData
  F_check_told : Fun K "check_told" "check_told" scheck_told a_check_told d_check_told
  b_check_told : Binds K d_check_told ["asked", "values", "counts"] []
  g_check_told : mg "check_told" = some (.ref a_check_told)
  a_are_values : Addr
  d_are_values : FuncData
  F_are_values : Fun K "are_values" "are_values" sare_values a_are_values d_are_values
  b_are_values : Binds K d_are_values ["value"] []
  g_are_values : mg "are_values" = some (.ref a_are_values)
  a_are_counts : Addr
  d_are_counts : FuncData
  F_are_counts : Fun K "are_counts" "are_counts" sare_counts a_are_counts d_are_counts
  b_are_counts : Binds K d_are_counts ["value"] []
  g_are_counts : mg "are_counts" = some (.ref a_are_counts)
  a__law_pen : Addr
  d__law_pen : FuncData
  F__law_pen : Fun K "_law_pen" "_law_pen" s_law_pen a__law_pen d__law_pen
  b__law_pen : Binds K d__law_pen ["_law_script"] []
  g__law_pen : mg "_law_pen" = some (.ref a__law_pen)
  a__law_draw : Addr
  d__law_draw : FuncData
  F__law_draw : Fun K "_law_draw" "_law_draw" s_law_draw a__law_draw d__law_draw
  b__law_draw : Binds K d__law_draw ["_law_pen_here", "_law_many"] []
  g__law_draw : mg "_law_draw" = some (.ref a__law_draw)
  a__law_pick : Addr
  d__law_pick : FuncData
  F__law_pick : Fun K "_law_pick" "_law_pick" s_law_pick a__law_pick d__law_pick
  b__law_pick : Binds K d__law_pick ["_law_pen_here", "_law_some"] []
  g__law_pick : mg "_law_pick" = some (.ref a__law_pick)
  a__law_heard : Addr
  d__law_heard : FuncData
  F__law_heard : Fun K "_law_heard" "_law_heard" s_law_heard a__law_heard d__law_heard
  b__law_heard : Binds K d__law_heard ["_law_ask"] []
  g__law_heard : mg "_law_heard" = some (.ref a__law_heard)
  a__law_one_right : Addr
  d__law_one_right : FuncData
  F__law_one_right : Fun K "_law_one_right" "_law_one_right" s_law_one_right a__law_one_right d__law_one_right
  b__law_one_right : Binds K d__law_one_right ["_law_pen_here", "_law_word", "_law_title", "_law_number_so"] []
  g__law_one_right : mg "_law_one_right" = some (.ref a__law_one_right)
  a_law : Addr
  d_law : FuncData
  F_law : Fun K "law" "law" slaw a_law d_law
  b_law : Binds K d_law ["_law_script"] []
  g_law : mg "law" = some (.ref a_law)
  a_Test___init__ : Addr
  d_Test___init__ : FuncData
  F_Test___init__ : Fun K "__init__" "Test.__init__" sTest___init__ a_Test___init__ d_Test___init__
  b_Test___init__ : Binds K d_Test___init__ ["self", "text", "size", "columns", "names", "conditions"] []
  a_Test_truth : Addr
  d_Test_truth : FuncData
  F_Test_truth : FunD K "truth" "Test.truth" (defArgs sTest_truth) (defBody sTest_truth) (defScope sTest_truth) [.non] [] a_Test_truth d_Test_truth
  b_Test_truth : Binds K d_Test_truth ["self", "values", "counts"] []
  a_Test___call__ : Addr
  d_Test___call__ : FuncData
  F_Test___call__ : FunD K "__call__" "Test.__call__" (defArgs sTest___call__) (defBody sTest___call__) (defScope sTest___call__) [.non] [] a_Test___call__ d_Test___call__
  b_Test___call__ : Binds K d_Test___call__ ["self", "values", "counts"] []
  a_Test_columns : Addr
  d_Test_columns : FuncData
  F_Test_columns : Fun K "columns" "Test.columns" sTest_columns a_Test_columns d_Test_columns
  b_Test_columns : Binds K d_Test_columns ["self"] []
  a_Test_names : Addr
  d_Test_names : FuncData
  F_Test_names : Fun K "names" "Test.names" sTest_names a_Test_names d_Test_names
  b_Test_names : Binds K d_Test_names ["self"] []
  a_Test_size : Addr
  d_Test_size : FuncData
  F_Test_size : Fun K "size" "Test.size" sTest_size a_Test_size d_Test_size
  b_Test_size : Binds K d_Test_size ["self"] []
  a_Test_conditions : Addr
  d_Test_conditions : FuncData
  F_Test_conditions : Fun K "conditions" "Test.conditions" sTest_conditions a_Test_conditions d_Test_conditions
  b_Test_conditions : Binds K d_Test_conditions ["self"] []
  a_Test___eq__ : Addr
  d_Test___eq__ : FuncData
  F_Test___eq__ : Fun K "__eq__" "Test.__eq__" sTest___eq__ a_Test___eq__ d_Test___eq__
  b_Test___eq__ : Binds K d_Test___eq__ ["self", "other"] []
  a_Test___str__ : Addr
  d_Test___str__ : FuncData
  F_Test___str__ : Fun K "__str__" "Test.__str__" sTest___str__ a_Test___str__ d_Test___str__
  b_Test___str__ : Binds K d_Test___str__ ["self"] []
  a_Condition___init__ : Addr
  d_Condition___init__ : FuncData
  F_Condition___init__ : Fun K "__init__" "Condition.__init__" sCondition___init__ a_Condition___init__ d_Condition___init__
  b_Condition___init__ : Binds K d_Condition___init__ ["self", "column", "text"] []
  a_Below___init__ : Addr
  d_Below___init__ : FuncData
  F_Below___init__ : Fun K "__init__" "Below.__init__" sBelow___init__ a_Below___init__ d_Below___init__
  b_Below___init__ : Binds K d_Below___init__ ["self", "column", "number"] []
  a_Below_known : Addr
  d_Below_known : FuncData
  F_Below_known : Fun K "known" "Below.known" sBelow_known a_Below_known d_Below_known
  b_Below_known : Binds K d_Below_known ["self", "values", "counts"] []
  a_UpTo___init__ : Addr
  d_UpTo___init__ : FuncData
  F_UpTo___init__ : Fun K "__init__" "UpTo.__init__" sUpTo___init__ a_UpTo___init__ d_UpTo___init__
  b_UpTo___init__ : Binds K d_UpTo___init__ ["self", "column", "number"] []
  a_UpTo_known : Addr
  d_UpTo_known : FuncData
  F_UpTo_known : Fun K "known" "UpTo.known" sUpTo_known a_UpTo_known d_UpTo_known
  b_UpTo_known : Binds K d_UpTo_known ["self", "values", "counts"] []
  a_Equals___init__ : Addr
  d_Equals___init__ : FuncData
  F_Equals___init__ : Fun K "__init__" "Equals.__init__" sEquals___init__ a_Equals___init__ d_Equals___init__
  b_Equals___init__ : Binds K d_Equals___init__ ["self", "column", "number"] []
  a_Equals_known : Addr
  d_Equals_known : FuncData
  F_Equals_known : Fun K "known" "Equals.known" sEquals_known a_Equals_known d_Equals_known
  b_Equals_known : Binds K d_Equals_known ["self", "values", "counts"] []
  a_Missing___init__ : Addr
  d_Missing___init__ : FuncData
  F_Missing___init__ : Fun K "__init__" "Missing.__init__" sMissing___init__ a_Missing___init__ d_Missing___init__
  b_Missing___init__ : Binds K d_Missing___init__ ["self", "column"] []
  a_Missing_known : Addr
  d_Missing_known : FuncData
  F_Missing_known : Fun K "known" "Missing.known" sMissing_known a_Missing_known d_Missing_known
  b_Missing_known : Binds K d_Missing_known ["self", "values", "counts"] []
  a_BadName___init__ : Addr
  d_BadName___init__ : FuncData
  F_BadName___init__ : Fun K "__init__" "BadName.__init__" sBadName___init__ a_BadName___init__ d_BadName___init__
  b_BadName___init__ : Binds K d_BadName___init__ ["self", "value"] []
  a_BadNumber___init__ : Addr
  d_BadNumber___init__ : FuncData
  F_BadNumber___init__ : Fun K "__init__" "BadNumber.__init__" sBadNumber___init__ a_BadNumber___init__ d_BadNumber___init__
  b_BadNumber___init__ : Binds K d_BadNumber___init__ ["self", "value"] []
  C_Test : Addr
  g_Test : mg "Test" = some (.ref C_Test)
  cl_Test : Cls K C_Test
  kc_Test : PySem.W.keepIn K (.ref C_Test) = true
  ne_Test : PySem.W.findIn K (.ref C_Test) "__ne__" = some (some (.builtin "object.__ne__"))
  mr_Test : PySem.W.mroIn K C_Test (.type "object") = some true
  ca_Test : PySem.W.findIn K (.ref C_Test) "__class__" = some (some (.builtin "object.__class__"))
  mc_Test___init__ : Value
  fm_Test___init__ : FMet K C_Test mc_Test___init__ "__init__" a_Test___init__
  om_Test_truth : OwnM K C_Test "truth" a_Test_truth
  om_Test___call__ : OwnM K C_Test "__call__" a_Test___call__
  om_Test___eq__ : OwnM K C_Test "__eq__" a_Test___eq__
  om_Test___str__ : OwnM K C_Test "__str__" a_Test___str__
  ki_Test : PySem.W.kitOne K (.ref C_Test) (.ref C_Test) = some true
  ks_Test : PySem.W.kitOne K (.ref C_Test) (.type "str") = some false
  C_Condition : Addr
  g_Condition : mg "Condition" = some (.ref C_Condition)
  cl_Condition : Cls K C_Condition
  kc_Condition : PySem.W.keepIn K (.ref C_Condition) = true
  ne_Condition : PySem.W.findIn K (.ref C_Condition) "__ne__" = some (some (.builtin "object.__ne__"))
  mr_Condition : PySem.W.mroIn K C_Condition (.type "object") = some true
  ca_Condition : PySem.W.findIn K (.ref C_Condition) "__class__" = some (some (.builtin "object.__class__"))
  mc_Condition___init__ : Value
  fm_Condition___init__ : FMet K C_Condition mc_Condition___init__ "__init__" a_Condition___init__
  kb_Condition_Test : PySem.W.kitOne K (.ref C_Condition) (.ref C_Test) = some true
  ki_Condition : PySem.W.kitOne K (.ref C_Condition) (.ref C_Condition) = some true
  ks_Condition : PySem.W.kitOne K (.ref C_Condition) (.type "str") = some false
  C_Below : Addr
  g_Below : mg "Below" = some (.ref C_Below)
  cl_Below : Cls K C_Below
  kc_Below : PySem.W.keepIn K (.ref C_Below) = true
  na_Below__text : NoAttr K C_Below "_text"
  na_Below__size : NoAttr K C_Below "_size"
  na_Below__columns : NoAttr K C_Below "_columns"
  na_Below__names : NoAttr K C_Below "_names"
  na_Below__conditions : NoAttr K C_Below "_conditions"
  na_Below_column : NoAttr K C_Below "column"
  na_Below_number : NoAttr K C_Below "number"
  ne_Below : PySem.W.findIn K (.ref C_Below) "__ne__" = some (some (.builtin "object.__ne__"))
  mr_Below : PySem.W.mroIn K C_Below (.type "object") = some true
  ca_Below : PySem.W.findIn K (.ref C_Below) "__class__" = some (some (.builtin "object.__class__"))
  om_Below___init__ : OwnM K C_Below "__init__" a_Below___init__
  mk_Below : Mk K C_Below a_Below___init__
  om_Below_known : OwnM K C_Below "known" a_Below_known
  om_Below_truth : OwnM K C_Below "truth" a_Test_truth
  om_Below___call__ : OwnM K C_Below "__call__" a_Test___call__
  om_Below___eq__ : OwnM K C_Below "__eq__" a_Test___eq__
  om_Below___str__ : OwnM K C_Below "__str__" a_Test___str__
  kb_Below_Condition : PySem.W.kitOne K (.ref C_Below) (.ref C_Condition) = some true
  kb_Below_Test : PySem.W.kitOne K (.ref C_Below) (.ref C_Test) = some true
  ki_Below : PySem.W.kitOne K (.ref C_Below) (.ref C_Below) = some true
  ks_Below : PySem.W.kitOne K (.ref C_Below) (.type "str") = some false
  C_UpTo : Addr
  g_UpTo : mg "UpTo" = some (.ref C_UpTo)
  cl_UpTo : Cls K C_UpTo
  kc_UpTo : PySem.W.keepIn K (.ref C_UpTo) = true
  na_UpTo__text : NoAttr K C_UpTo "_text"
  na_UpTo__size : NoAttr K C_UpTo "_size"
  na_UpTo__columns : NoAttr K C_UpTo "_columns"
  na_UpTo__names : NoAttr K C_UpTo "_names"
  na_UpTo__conditions : NoAttr K C_UpTo "_conditions"
  na_UpTo_column : NoAttr K C_UpTo "column"
  na_UpTo_number : NoAttr K C_UpTo "number"
  ne_UpTo : PySem.W.findIn K (.ref C_UpTo) "__ne__" = some (some (.builtin "object.__ne__"))
  mr_UpTo : PySem.W.mroIn K C_UpTo (.type "object") = some true
  ca_UpTo : PySem.W.findIn K (.ref C_UpTo) "__class__" = some (some (.builtin "object.__class__"))
  om_UpTo___init__ : OwnM K C_UpTo "__init__" a_UpTo___init__
  mk_UpTo : Mk K C_UpTo a_UpTo___init__
  om_UpTo_known : OwnM K C_UpTo "known" a_UpTo_known
  om_UpTo_truth : OwnM K C_UpTo "truth" a_Test_truth
  om_UpTo___call__ : OwnM K C_UpTo "__call__" a_Test___call__
  om_UpTo___eq__ : OwnM K C_UpTo "__eq__" a_Test___eq__
  om_UpTo___str__ : OwnM K C_UpTo "__str__" a_Test___str__
  kb_UpTo_Condition : PySem.W.kitOne K (.ref C_UpTo) (.ref C_Condition) = some true
  kb_UpTo_Test : PySem.W.kitOne K (.ref C_UpTo) (.ref C_Test) = some true
  ki_UpTo : PySem.W.kitOne K (.ref C_UpTo) (.ref C_UpTo) = some true
  ks_UpTo : PySem.W.kitOne K (.ref C_UpTo) (.type "str") = some false
  C_Equals : Addr
  g_Equals : mg "Equals" = some (.ref C_Equals)
  cl_Equals : Cls K C_Equals
  kc_Equals : PySem.W.keepIn K (.ref C_Equals) = true
  na_Equals__text : NoAttr K C_Equals "_text"
  na_Equals__size : NoAttr K C_Equals "_size"
  na_Equals__columns : NoAttr K C_Equals "_columns"
  na_Equals__names : NoAttr K C_Equals "_names"
  na_Equals__conditions : NoAttr K C_Equals "_conditions"
  na_Equals_column : NoAttr K C_Equals "column"
  na_Equals_number : NoAttr K C_Equals "number"
  ne_Equals : PySem.W.findIn K (.ref C_Equals) "__ne__" = some (some (.builtin "object.__ne__"))
  mr_Equals : PySem.W.mroIn K C_Equals (.type "object") = some true
  ca_Equals : PySem.W.findIn K (.ref C_Equals) "__class__" = some (some (.builtin "object.__class__"))
  om_Equals___init__ : OwnM K C_Equals "__init__" a_Equals___init__
  mk_Equals : Mk K C_Equals a_Equals___init__
  om_Equals_known : OwnM K C_Equals "known" a_Equals_known
  om_Equals_truth : OwnM K C_Equals "truth" a_Test_truth
  om_Equals___call__ : OwnM K C_Equals "__call__" a_Test___call__
  om_Equals___eq__ : OwnM K C_Equals "__eq__" a_Test___eq__
  om_Equals___str__ : OwnM K C_Equals "__str__" a_Test___str__
  kb_Equals_Condition : PySem.W.kitOne K (.ref C_Equals) (.ref C_Condition) = some true
  kb_Equals_Test : PySem.W.kitOne K (.ref C_Equals) (.ref C_Test) = some true
  ki_Equals : PySem.W.kitOne K (.ref C_Equals) (.ref C_Equals) = some true
  ks_Equals : PySem.W.kitOne K (.ref C_Equals) (.type "str") = some false
  C_Missing : Addr
  g_Missing : mg "Missing" = some (.ref C_Missing)
  cl_Missing : Cls K C_Missing
  kc_Missing : PySem.W.keepIn K (.ref C_Missing) = true
  na_Missing__text : NoAttr K C_Missing "_text"
  na_Missing__size : NoAttr K C_Missing "_size"
  na_Missing__columns : NoAttr K C_Missing "_columns"
  na_Missing__names : NoAttr K C_Missing "_names"
  na_Missing__conditions : NoAttr K C_Missing "_conditions"
  na_Missing_column : NoAttr K C_Missing "column"
  ne_Missing : PySem.W.findIn K (.ref C_Missing) "__ne__" = some (some (.builtin "object.__ne__"))
  mr_Missing : PySem.W.mroIn K C_Missing (.type "object") = some true
  ca_Missing : PySem.W.findIn K (.ref C_Missing) "__class__" = some (some (.builtin "object.__class__"))
  om_Missing___init__ : OwnM K C_Missing "__init__" a_Missing___init__
  mk_Missing : Mk K C_Missing a_Missing___init__
  om_Missing_known : OwnM K C_Missing "known" a_Missing_known
  om_Missing_truth : OwnM K C_Missing "truth" a_Test_truth
  om_Missing___call__ : OwnM K C_Missing "__call__" a_Test___call__
  om_Missing___eq__ : OwnM K C_Missing "__eq__" a_Test___eq__
  om_Missing___str__ : OwnM K C_Missing "__str__" a_Test___str__
  kb_Missing_Condition : PySem.W.kitOne K (.ref C_Missing) (.ref C_Condition) = some true
  kb_Missing_Test : PySem.W.kitOne K (.ref C_Missing) (.ref C_Test) = some true
  ki_Missing : PySem.W.kitOne K (.ref C_Missing) (.ref C_Missing) = some true
  ks_Missing : PySem.W.kitOne K (.ref C_Missing) (.type "str") = some false
  sg : PySem.W.specialIn K (.builtin "object.__class__") "__get__" = some (some (.builtin "getset_descriptor.__get__"))
  tk : PySem.W.takesIn K (.builtin "object.__class__") = some true
  C_BadName : Addr
  g_BadName : mg "BadName" = some (.ref C_BadName)
  ox_BadName : OexC K C_BadName
  ic_BadName : PySem.W.findIn K (.ref C_BadName) "__init__" = some (some (.ref a_BadName___init__))
  ti_BadName : PySem.W.typeIn K (.ref a_BadName___init__) = some (.type "function")
  no_BadName_value : PySem.W.findIn K (.ref C_BadName) "value" = some none
  xf_BadName : XfC K C_BadName
  ki_BadName : PySem.W.kitOne K (.ref C_BadName) (.ref C_BadName) = some true
  ex_BadName : ExcC K C_BadName
  C_BadNumber : Addr
  g_BadNumber : mg "BadNumber" = some (.ref C_BadNumber)
  ox_BadNumber : OexC K C_BadNumber
  ic_BadNumber : PySem.W.findIn K (.ref C_BadNumber) "__init__" = some (some (.ref a_BadNumber___init__))
  ti_BadNumber : PySem.W.typeIn K (.ref a_BadNumber___init__) = some (.type "function")
  no_BadNumber_value : PySem.W.findIn K (.ref C_BadNumber) "value" = some none
  xf_BadNumber : XfC K C_BadNumber
  ki_BadNumber : PySem.W.kitOne K (.ref C_BadNumber) (.ref C_BadNumber) = some true
  ex_BadNumber : ExcC K C_BadNumber
  C_CountError : Addr
  g_CountError : mg "CountError" = some (.ref C_CountError)
  em_BadName_CountError : PySem.W.exmOne K (.ref C_BadName) (.ref C_CountError) = some true
  em_BadNumber_CountError : PySem.W.exmOne K (.ref C_BadNumber) (.ref C_CountError) = some true
  gc_Test : GoodC K C_Test
  me_Test_truth : Meth K C_Test "truth" a_Test_truth
  oc_Test___call__ : StX.CallO K C_Test a_Test___call__
  pa_Test_columns : Addr
  pr_Test_columns : PropOf K C_Test "columns" pa_Test_columns a_Test_columns
  pa_Test_names : Addr
  pr_Test_names : PropOf K C_Test "names" pa_Test_names a_Test_names
  pa_Test_size : Addr
  pr_Test_size : PropOf K C_Test "size" pa_Test_size a_Test_size
  pa_Test_conditions : Addr
  pr_Test_conditions : PropOf K C_Test "conditions" pa_Test_conditions a_Test_conditions
  me_Test___eq__ : Meth K C_Test "__eq__" a_Test___eq__
  me_Test___str__ : Meth K C_Test "__str__" a_Test___str__
  gc_Condition : GoodC K C_Condition
  gc_Below : GoodC K C_Below
  me_Below___init__ : Meth K C_Below "__init__" a_Below___init__
  me_Below_known : Meth K C_Below "known" a_Below_known
  gc_UpTo : GoodC K C_UpTo
  me_UpTo___init__ : Meth K C_UpTo "__init__" a_UpTo___init__
  me_UpTo_known : Meth K C_UpTo "known" a_UpTo_known
  gc_Equals : GoodC K C_Equals
  me_Equals___init__ : Meth K C_Equals "__init__" a_Equals___init__
  me_Equals_known : Meth K C_Equals "known" a_Equals_known
  gc_Missing : GoodC K C_Missing
  me_Missing___init__ : Meth K C_Missing "__init__" a_Missing___init__
  me_Missing_known : Meth K C_Missing "known" a_Missing_known
  me_Below_truth : Meth K C_Below "truth" a_Test_truth
  oc_Below___call__ : StX.CallO K C_Below a_Test___call__
  pr_Below_columns : PropOf K C_Below "columns" pa_Test_columns a_Test_columns
  pr_Below_names : PropOf K C_Below "names" pa_Test_names a_Test_names
  pr_Below_size : PropOf K C_Below "size" pa_Test_size a_Test_size
  pr_Below_conditions : PropOf K C_Below "conditions" pa_Test_conditions a_Test_conditions
  me_Below___eq__ : Meth K C_Below "__eq__" a_Test___eq__
  me_Below___str__ : Meth K C_Below "__str__" a_Test___str__
  me_UpTo_truth : Meth K C_UpTo "truth" a_Test_truth
  oc_UpTo___call__ : StX.CallO K C_UpTo a_Test___call__
  pr_UpTo_columns : PropOf K C_UpTo "columns" pa_Test_columns a_Test_columns
  pr_UpTo_names : PropOf K C_UpTo "names" pa_Test_names a_Test_names
  pr_UpTo_size : PropOf K C_UpTo "size" pa_Test_size a_Test_size
  pr_UpTo_conditions : PropOf K C_UpTo "conditions" pa_Test_conditions a_Test_conditions
  me_UpTo___eq__ : Meth K C_UpTo "__eq__" a_Test___eq__
  me_UpTo___str__ : Meth K C_UpTo "__str__" a_Test___str__
  me_Equals_truth : Meth K C_Equals "truth" a_Test_truth
  oc_Equals___call__ : StX.CallO K C_Equals a_Test___call__
  pr_Equals_columns : PropOf K C_Equals "columns" pa_Test_columns a_Test_columns
  pr_Equals_names : PropOf K C_Equals "names" pa_Test_names a_Test_names
  pr_Equals_size : PropOf K C_Equals "size" pa_Test_size a_Test_size
  pr_Equals_conditions : PropOf K C_Equals "conditions" pa_Test_conditions a_Test_conditions
  me_Equals___eq__ : Meth K C_Equals "__eq__" a_Test___eq__
  me_Equals___str__ : Meth K C_Equals "__str__" a_Test___str__
  me_Missing_truth : Meth K C_Missing "truth" a_Test_truth
  oc_Missing___call__ : StX.CallO K C_Missing a_Test___call__
  pr_Missing_columns : PropOf K C_Missing "columns" pa_Test_columns a_Test_columns
  pr_Missing_names : PropOf K C_Missing "names" pa_Test_names a_Test_names
  pr_Missing_size : PropOf K C_Missing "size" pa_Test_size a_Test_size
  pr_Missing_conditions : PropOf K C_Missing "conditions" pa_Test_conditions a_Test_conditions
  me_Missing___eq__ : Meth K C_Missing "__eq__" a_Test___eq__
  me_Missing___str__ : Meth K C_Missing "__str__" a_Test___str__
  nf_str_Test : PySem.W.notFirst K C_Test (.type "str") = true
  kn_str_Test : PySem.W.kitOne K (.type "str") (.ref C_Test) = some false
  nf_str_Below : PySem.W.notFirst K C_Below (.type "str") = true
  kn_str_Below : PySem.W.kitOne K (.type "str") (.ref C_Below) = some false
  nf_str_UpTo : PySem.W.notFirst K C_UpTo (.type "str") = true
  kn_str_UpTo : PySem.W.kitOne K (.type "str") (.ref C_UpTo) = some false
  nf_str_Equals : PySem.W.notFirst K C_Equals (.type "str") = true
  kn_str_Equals : PySem.W.kitOne K (.type "str") (.ref C_Equals) = some false
  nf_str_Missing : PySem.W.notFirst K C_Missing (.type "str") = true
  kn_str_Missing : PySem.W.kitOne K (.type "str") (.ref C_Missing) = some false
  D_RESERVED : Addr
  gd_RESERVED : mg "RESERVED" = some (.ref D_RESERVED)
  kd_RESERVED : ∃ es n, KDict K w D_RESERVED es n
  no_RESERVED : ∀ x ∈ poolN, PySem.W.nsIn K D_RESERVED x = some none
  rs_null : (PySem.W.nsIn K D_RESERVED "null").map Option.isSome = some true
  rs_where : (PySem.W.nsIn K D_RESERVED "where").map Option.isSome = some true
  rs_self : (PySem.W.nsIn K D_RESERVED "self").map Option.isSome = some true
  kt_BadNumber_BadName : PySem.W.kitOne K (.ref C_BadNumber) (.ref C_BadName) = some false
  nf_Below_UpTo : PySem.W.notFirst K C_Below (.ref C_UpTo) = true
  nf_Below_Equals : PySem.W.notFirst K C_Below (.ref C_Equals) = true
  nf_Below_Missing : PySem.W.notFirst K C_Below (.ref C_Missing) = true
  nf_UpTo_Below : PySem.W.notFirst K C_UpTo (.ref C_Below) = true
  nf_UpTo_Equals : PySem.W.notFirst K C_UpTo (.ref C_Equals) = true
  nf_UpTo_Missing : PySem.W.notFirst K C_UpTo (.ref C_Missing) = true
  nf_Equals_Below : PySem.W.notFirst K C_Equals (.ref C_Below) = true
  nf_Equals_UpTo : PySem.W.notFirst K C_Equals (.ref C_UpTo) = true
  nf_Equals_Missing : PySem.W.notFirst K C_Equals (.ref C_Missing) = true
  nf_Missing_Below : PySem.W.notFirst K C_Missing (.ref C_Below) = true
  nf_Missing_UpTo : PySem.W.notFirst K C_Missing (.ref C_UpTo) = true
  nf_Missing_Equals : PySem.W.notFirst K C_Missing (.ref C_Equals) = true
  e_law : ∀ (s : Shared) (u : Value), BindsTo s d_law ⟨[u], []⟩ [("_law_script", u)]
  z_abs : mg "abs" = none
  z_all : mg "all" = none
  z_bool : mg "bool" = none
  z_dict : mg "dict" = none
  z_int : mg "int" = none
  z_isinstance : mg "isinstance" = none
  z_len : mg "len" = none
  z_list : mg "list" = none
  z_range : mg "range" = none
  z_repr : mg "repr" = none
  z_str : mg "str" = none
  z_tuple : mg "tuple" = none
  t_MOST_LETTERS : Tok
  c_MOST_LETTERS : mg "MOST_LETTERS" = some (.int 8 t_MOST_LETTERS)
  mb_Below_0 : KBn K d_Below___init__ ["self", "column", "number"] 1 ["column", "number"] (gPerm 1 2 [0, 1, 2]) (gPerm 1 2 [0, 1, 2])
  mb_UpTo_1 : KBn K d_UpTo___init__ ["self", "column", "number"] 1 ["number", "column"] (gPerm 1 2 [0, 2, 1]) (gPerm 1 2 [0, 2, 1])
  mb_Equals_2 : KBn K d_Equals___init__ ["self", "column", "number"] 1 ["number", "column"] (gPerm 1 2 [0, 2, 1]) (gPerm 1 2 [0, 2, 1])
  mb_Missing_3 : KBn K d_Missing___init__ ["self", "column"] 1 ["column"] (gPerm 1 1 [0, 1]) (gPerm 1 1 [0, 1])
  kb_Test_truth_0 : KBn K d_Test_truth ["self", "values", "counts"] 1 ["counts", "values"] (gPerm 1 2 [0, 2, 1]) (gPerm 1 2 [0, 2, 1])
  kx1_BadName : KBn K d_BadName___init__ ["self", "value"] 1 ["value"] (fun us ws => us ++ ws) (fun vs zs => vs ++ zs)
  kx1_BadNumber : KBn K d_BadNumber___init__ ["self", "value"] 1 ["value"] (fun us ws => us ++ ws) (fun vs zs => vs ++ zs)
  p_law : Addr
  c_law : Addr
  hc_law : d_law.code = .ref c_law
  bd_Test_truth : Binds K d_Test_truth ["self", "values", "counts"] [.none]
  bd_Test___call__ : Binds K d_Test___call__ ["self", "values", "counts"] [.none]
def fam_Test {K : PySem.W.Frag} {mg : Str → Option Value} {w : World} (T : Top K mg w) : List Addr := [T.C_Below, T.C_UpTo, T.C_Equals, T.C_Missing]
theorem fam_cl_Test {K : PySem.W.Frag} {mg : Str → Option Value} {w : World} (T : Top K mg w) : ∀ C ∈ fam_Test T, Cls K C := fun C h => by
  simp only [fam_Test, List.mem_cons, List.not_mem_nil, or_false] at h
  rcases h with rfl | rfl | rfl | rfl
  · exact T.cl_Below
  · exact T.cl_UpTo
  · exact T.cl_Equals
  · exact T.cl_Missing
theorem fam_ki_Test {K : PySem.W.Frag} {mg : Str → Option Value} {w : World} (T : Top K mg w) : ∀ C ∈ fam_Test T, PySem.W.kitOne K (.ref C) (.ref T.C_Test) = some true := fun C h => by
  simp only [fam_Test, List.mem_cons, List.not_mem_nil, or_false] at h
  rcases h with rfl | rfl | rfl | rfl
  · exact T.kb_Below_Test
  · exact T.kb_UpTo_Test
  · exact T.kb_Equals_Test
  · exact T.kb_Missing_Test
theorem fam_me_Test_truth {K : PySem.W.Frag} {mg : Str → Option Value} {w : World} (T : Top K mg w) : ∀ C ∈ fam_Test T, Meth K C "truth" T.a_Test_truth := fun C h => by
  simp only [fam_Test, List.mem_cons, List.not_mem_nil, or_false] at h
  rcases h with rfl | rfl | rfl | rfl
  · exact T.me_Below_truth
  · exact T.me_UpTo_truth
  · exact T.me_Equals_truth
  · exact T.me_Missing_truth
theorem fam_oc_Test___call__ {K : PySem.W.Frag} {mg : Str → Option Value} {w : World} (T : Top K mg w) : ∀ C ∈ fam_Test T, StX.CallO K C T.a_Test___call__ := fun C h => by
  simp only [fam_Test, List.mem_cons, List.not_mem_nil, or_false] at h
  rcases h with rfl | rfl | rfl | rfl
  · exact T.oc_Below___call__
  · exact T.oc_UpTo___call__
  · exact T.oc_Equals___call__
  · exact T.oc_Missing___call__
theorem fam_pr_Test_columns {K : PySem.W.Frag} {mg : Str → Option Value} {w : World} (T : Top K mg w) : ∀ C ∈ fam_Test T, PropOf K C "columns" T.pa_Test_columns T.a_Test_columns := fun C h => by
  simp only [fam_Test, List.mem_cons, List.not_mem_nil, or_false] at h
  rcases h with rfl | rfl | rfl | rfl
  · exact T.pr_Below_columns
  · exact T.pr_UpTo_columns
  · exact T.pr_Equals_columns
  · exact T.pr_Missing_columns
theorem fam_pr_Test_names {K : PySem.W.Frag} {mg : Str → Option Value} {w : World} (T : Top K mg w) : ∀ C ∈ fam_Test T, PropOf K C "names" T.pa_Test_names T.a_Test_names := fun C h => by
  simp only [fam_Test, List.mem_cons, List.not_mem_nil, or_false] at h
  rcases h with rfl | rfl | rfl | rfl
  · exact T.pr_Below_names
  · exact T.pr_UpTo_names
  · exact T.pr_Equals_names
  · exact T.pr_Missing_names
theorem fam_pr_Test_size {K : PySem.W.Frag} {mg : Str → Option Value} {w : World} (T : Top K mg w) : ∀ C ∈ fam_Test T, PropOf K C "size" T.pa_Test_size T.a_Test_size := fun C h => by
  simp only [fam_Test, List.mem_cons, List.not_mem_nil, or_false] at h
  rcases h with rfl | rfl | rfl | rfl
  · exact T.pr_Below_size
  · exact T.pr_UpTo_size
  · exact T.pr_Equals_size
  · exact T.pr_Missing_size
theorem fam_pr_Test_conditions {K : PySem.W.Frag} {mg : Str → Option Value} {w : World} (T : Top K mg w) : ∀ C ∈ fam_Test T, PropOf K C "conditions" T.pa_Test_conditions T.a_Test_conditions := fun C h => by
  simp only [fam_Test, List.mem_cons, List.not_mem_nil, or_false] at h
  rcases h with rfl | rfl | rfl | rfl
  · exact T.pr_Below_conditions
  · exact T.pr_UpTo_conditions
  · exact T.pr_Equals_conditions
  · exact T.pr_Missing_conditions
theorem fam_om_Test___eq__ {K : PySem.W.Frag} {mg : Str → Option Value} {w : World} (T : Top K mg w) : ∀ C ∈ fam_Test T, OwnM K C "__eq__" T.a_Test___eq__ := fun C h => by
  simp only [fam_Test, List.mem_cons, List.not_mem_nil, or_false] at h
  rcases h with rfl | rfl | rfl | rfl
  · exact T.om_Below___eq__
  · exact T.om_UpTo___eq__
  · exact T.om_Equals___eq__
  · exact T.om_Missing___eq__
theorem fam_om_Test___str__ {K : PySem.W.Frag} {mg : Str → Option Value} {w : World} (T : Top K mg w) : ∀ C ∈ fam_Test T, OwnM K C "__str__" T.a_Test___str__ := fun C h => by
  simp only [fam_Test, List.mem_cons, List.not_mem_nil, or_false] at h
  rcases h with rfl | rfl | rfl | rfl
  · exact T.om_Below___str__
  · exact T.om_UpTo___str__
  · exact T.om_Equals___str__
  · exact T.om_Missing___str__
theorem fam_na_Test__text {K : PySem.W.Frag} {mg : Str → Option Value} {w : World} (T : Top K mg w) : ∀ C ∈ fam_Test T, NoAttr K C "_text" := fun C h => by
  simp only [fam_Test, List.mem_cons, List.not_mem_nil, or_false] at h
  rcases h with rfl | rfl | rfl | rfl
  · exact T.na_Below__text
  · exact T.na_UpTo__text
  · exact T.na_Equals__text
  · exact T.na_Missing__text
theorem fam_na_Test__size {K : PySem.W.Frag} {mg : Str → Option Value} {w : World} (T : Top K mg w) : ∀ C ∈ fam_Test T, NoAttr K C "_size" := fun C h => by
  simp only [fam_Test, List.mem_cons, List.not_mem_nil, or_false] at h
  rcases h with rfl | rfl | rfl | rfl
  · exact T.na_Below__size
  · exact T.na_UpTo__size
  · exact T.na_Equals__size
  · exact T.na_Missing__size
theorem fam_na_Test__columns {K : PySem.W.Frag} {mg : Str → Option Value} {w : World} (T : Top K mg w) : ∀ C ∈ fam_Test T, NoAttr K C "_columns" := fun C h => by
  simp only [fam_Test, List.mem_cons, List.not_mem_nil, or_false] at h
  rcases h with rfl | rfl | rfl | rfl
  · exact T.na_Below__columns
  · exact T.na_UpTo__columns
  · exact T.na_Equals__columns
  · exact T.na_Missing__columns
theorem fam_na_Test__names {K : PySem.W.Frag} {mg : Str → Option Value} {w : World} (T : Top K mg w) : ∀ C ∈ fam_Test T, NoAttr K C "_names" := fun C h => by
  simp only [fam_Test, List.mem_cons, List.not_mem_nil, or_false] at h
  rcases h with rfl | rfl | rfl | rfl
  · exact T.na_Below__names
  · exact T.na_UpTo__names
  · exact T.na_Equals__names
  · exact T.na_Missing__names
theorem fam_na_Test__conditions {K : PySem.W.Frag} {mg : Str → Option Value} {w : World} (T : Top K mg w) : ∀ C ∈ fam_Test T, NoAttr K C "_conditions" := fun C h => by
  simp only [fam_Test, List.mem_cons, List.not_mem_nil, or_false] at h
  rcases h with rfl | rfl | rfl | rfl
  · exact T.na_Below__conditions
  · exact T.na_UpTo__conditions
  · exact T.na_Equals__conditions
  · exact T.na_Missing__conditions
def fam_Condition {K : PySem.W.Frag} {mg : Str → Option Value} {w : World} (T : Top K mg w) : List Addr := [T.C_Below, T.C_UpTo, T.C_Equals, T.C_Missing]
theorem fam_ki_Condition {K : PySem.W.Frag} {mg : Str → Option Value} {w : World} (T : Top K mg w) : ∀ C ∈ fam_Condition T, PySem.W.kitOne K (.ref C) (.ref T.C_Condition) = some true := fun C h => by
  simp only [fam_Condition, List.mem_cons, List.not_mem_nil, or_false] at h
  rcases h with rfl | rfl | rfl | rfl
  · exact T.kb_Below_Condition
  · exact T.kb_UpTo_Condition
  · exact T.kb_Equals_Condition
  · exact T.kb_Missing_Condition
theorem fam_na_Condition_column {K : PySem.W.Frag} {mg : Str → Option Value} {w : World} (T : Top K mg w) : ∀ C ∈ fam_Condition T, NoAttr K C "column" := fun C h => by
  simp only [fam_Condition, List.mem_cons, List.not_mem_nil, or_false] at h
  rcases h with rfl | rfl | rfl | rfl
  · exact T.na_Below_column
  · exact T.na_UpTo_column
  · exact T.na_Equals_column
  · exact T.na_Missing_column
/-- the tables of the defs that make lambdas -/
def TbL {K : PySem.W.Frag} {mg : Str → Option Value} {w : World} (T : Top K mg w) : List (Addr × Str) := [(T.p_law, "law.<locals>.<lambda>")]
structure TabsB {K : PySem.W.Frag} {mg : Str → Option Value} {w : World} (T : Top K mg w) (base : Heap) : Prop where
  law : LamX.TabB base mg T.c_law T.p_law
theorem mem_law {K : PySem.W.Frag} {mg : Str → Option Value} {w : World} {T : Top K mg w} : (T.p_law, ("law.<locals>.<lambda>" : Str)) ∈ TbL T := List.mem_cons_self
theorem one_law {K : PySem.W.Frag} {mg : Str → Option Value} {w : World} {T : Top K mg w} : ∀ p ∈ TbL T, p.1 = T.p_law → p.2 = ("law.<locals>.<lambda>" : Str) := fun p hp _ => by rw [List.mem_singleton.mp hp]
section
variable {P : Program} {w : World} {K : PySem.W.Frag} {mg : Str → Option Value} {base : Heap}
def isInt : D → Bool
  | .int _ => true
  | _ => false
def isVal : D → Bool
  | .non => true
  | .int _ => true
  | _ => false
def integerD : SpD := fun ds G Q _ => ∃ d, ds = [d] ∧ Told d G ∧ Q (.bl (isInt d)) G
theorem dok_is_integer (T : Top K mg w) : FnD P w K mg base 4 T.a_is_integer T.d_is_integer ["value"] integerD := by
  refine dfn (k := 3) T.F_is_integer scis_integer (fun ds G Q W h => ?_) (fun cdv A outer s H E B W hr tk => have hx := hx_of tk; ⟨_, (db_one (ds_ret (de_and (de_isK (j := .int) (by rfl) T.z_isinstance (by decide +kernel) (dv 0) (pe_bltn (by rfl) T.z_int (by decide +kernel) rfl)) (de_one (de_not (de_isK (j := .bl) (by rfl) T.z_isinstance (by decide +kernel) (dv 0) (pe_bltn (by rfl) T.z_bool (by decide +kernel) rfl))))))), fun ds G Q h => ?_⟩)
  · obtain ⟨d, rfl, _⟩ := h
    rfl
  · obtain ⟨d, rfl, ht, q⟩ := h
    show (match isK d G .int with | some b => _ | none => _)
    rw [told_is ht (by decide)]
    cases d <;> first | exact q | skip
    all_goals
      show (match isK _ G .bl with | some b => _ | none => _)
      rw [told_is ht (by decide)]
      exact q
def valueGD : SpD := fun ds G Q _ => ∃ d, ds = [d] ∧ Told d G ∧ Q (.bl (isVal d)) G
theorem dok_is_value (T : Top K mg w) : FnD P w K mg base 8 T.a_is_value T.d_is_value ["value"] valueGD := by
  have G_is_integer := (dok_is_integer (P := P) (w := w) (base := base) T).mono (k := 5) (by decide)
  refine dfn (k := 7) T.F_is_value scis_value (fun ds G Q W h => ?_) (fun cdv A outer s H E B W hr tk => have hx := hx_of tk; ⟨_, (db_one (ds_ret (de_or (de_cmp op_isN isN_A (dv 0) de_non (nomark _)) (de_one (de_call G_is_integer (hr.mono (by decide)) (by rfl) T.g_is_integer T.F_is_integer.kp T.b_is_integer hx (da_cons (dv 0) da_nil)))))), fun ds G Q h => ?_⟩)
  · obtain ⟨d, rfl, _⟩ := h
    rfl
  · obtain ⟨d, rfl, ht, q⟩ := h
    cases d
    case non => exact q
    all_goals exact ⟨_, rfl, ht, q⟩
/-- texts that are no names -/
def poolO : List Str := ["", "X", "null", "where", "a b", "abcdefghi", "self"]
def nameB (x : Str) : Bool := decide (x ∈ poolN)
/-- what a name is asked of -/
def NameD (d : D) (G : Gm) : Prop := (∃ x, d = .str x ∧ (x ∈ poolN ∨ x ∈ poolO)) ∨ (Told d G ∧ isB d .str = false)
def isName : D → Bool
  | .str x => nameB x
  | _ => false
def nameX : SpD := fun ds G Q _ => ∃ d, ds = [d] ∧ NameD d G ∧ Q (.bl (isName d)) G
theorem pool_ok : ∀ x ∈ poolN, x.length ≤ 8 ∧ Txt.isascii x = true ∧ Txt.isalpha x = true ∧ Txt.islower x = true ∧ nameB x = true := by decide +kernel
theorem odd_len : ∀ x ∈ poolO, x.length ≤ 9 := by decide +kernel
theorem odd_name : ∀ x ∈ poolO, nameB x = false := by decide +kernel
theorem odd_res : ∀ x ∈ poolO, x.length ≤ 8 → Txt.isascii x = true → Txt.isalpha x = true → Txt.islower x = true → x ∈ ([Str.ofString "null", Str.ofString "where", Str.ofString "self"] : List Str) := by decide +kernel
theorem dok_is_name (T : Top K mg w) : FnD P w K mg base 4 T.a_is_name T.d_is_name ["value"] nameX := by
  obtain ⟨es_RESERVED, n_RESERVED, kd_RESERVED⟩ := T.kd_RESERVED
  refine dfn (k := 3) T.F_is_name scis_name (fun ds G Q W h => ?_) (fun cdv A outer s H E B W hr tk => have hx := hx_of tk; ⟨_, (db_cons (ds_if (dw_pt (dw_or (dt_not (dt_val (de_isK (j := .str) (by rfl) T.z_isinstance (by decide +kernel) (dv 0) (pe_bltn (by rfl) T.z_str (by decide +kernel) rfl)))) (dw_or1 (dt_cmp op_gt gt_A (de_callB call_len2 len_A (by rfl) T.z_len (by decide +kernel) (da_cons (dv 0) da_nil)) (de_gint rfl T.c_MOST_LETTERS (show RelV (.int 8) _ from ⟨_, rfl⟩)) (nomark _)))))
    (db_one (ds_ret de_bl))
    db_nil)
  (db_one (ds_ret (de_and (de_m0 PySem.F.slot_str_isascii PySem.F.type_str_isascii mt_isascii (dv 0)) (de_and (de_m0 PySem.F.slot_str_isalpha PySem.F.type_str_isalpha mt_isalpha (dv 0)) (de_and (de_m0 PySem.F.slot_str_islower PySem.F.type_str_islower mt_islower (dv 0)) (de_one (de_cmp (op_notIn_kd kd_RESERVED) nin_A (dv 0) (de_gadr rfl T.gd_RESERVED) (by rfl))))))))), fun ds G Q h => ?_⟩)
  · obtain ⟨_, rfl, _⟩ := h
    rfl
  · obtain ⟨d, rfl, hd, q⟩ := h
    rcases hd with ⟨x, rfl, hx⟩ | ⟨ht, hs⟩
    · have h9 : x.length ≤ 9 := by
        rcases hx with hx | hx
        · have := (pool_ok x hx).1
          omega
        · exact odd_len x hx
      refine ⟨small1000 (Nat.le_trans h9 (by decide)), ?_⟩
      show (match decide ((8 : Int) < (x.length : Int)) with | true => _ | false => _)
      by_cases h8 : x.length ≤ 8
      · rw [decide_eq_false (by omega)]
        show (match D.bl (Txt.isascii x) with | .bl true => _ | .bl false => _ | _ => _)
        have q' : Q (.bl (nameB x)) G := q
        have odd : (Txt.isascii x && Txt.isalpha x && Txt.islower x) = false → Q (.bl false) G := fun h => by
          have : nameB x = false := by
            rcases hx with hx | hx
            · obtain ⟨_, h2, h3, h4, _⟩ := pool_ok x hx
              rw [h2, h3, h4] at h
              cases h
            · exact odd_name x hx
          rw [this] at q'
          exact q'
        cases h2 : Txt.isascii x with
        | false => exact odd (by rw [h2]; rfl)
        | true =>
          show (match D.bl (Txt.isalpha x) with | .bl true => _ | .bl false => _ | _ => _)
          cases h3 : Txt.isalpha x with
          | false => exact odd (by rw [h2, h3]; rfl)
          | true =>
            show (match D.bl (Txt.islower x) with | .bl true => _ | .bl false => _ | _ => _)
            cases h4 : Txt.islower x with
            | false => exact odd (by rw [h2, h3, h4]; rfl)
            | true =>
              rcases hx with hx | hx
              · rw [(pool_ok x hx).2.2.2.2] at q'
                exact ⟨rfl, none, T.no_RESERVED x hx, q'⟩
              · rw [odd_name x hx] at q'
                have hr := odd_res x hx h8 h2 h3 h4
                have hv : ∃ v, PySem.W.nsIn K T.D_RESERVED x = some (some v) := by
                  have key : ∀ z : Str, (PySem.W.nsIn K T.D_RESERVED z).map Option.isSome = some true → ∃ v, PySem.W.nsIn K T.D_RESERVED z = some (some v) := fun z hz => by
                    cases e : PySem.W.nsIn K T.D_RESERVED z with
                    | none => rw [e] at hz; cases hz
                    | some r =>
                      rw [e] at hz
                      cases r with
                      | none => cases hz
                      | some v => exact ⟨v, rfl⟩
                  simp only [List.mem_cons, List.not_mem_nil, or_false] at hr
                  rcases hr with rfl | rfl | rfl
                  · exact key _ T.rs_null
                  · exact key _ T.rs_where
                  · exact key _ T.rs_self
                obtain ⟨v, hv⟩ := hv
                exact ⟨rfl, some v, hv, q'⟩
      · rw [decide_eq_true (by omega)]
        have : nameB x = false := by
          rcases hx with hx | hx
          · exact absurd (pool_ok x hx).1 h8
          · exact odd_name x hx
        have q' : Q (.bl (nameB x)) G := q
        rw [this] at q'
        exact q'
    · have e : isName d = false := by
        cases d with
        | str x => cases hs
        | _ => rfl
      rw [e] at q
      show (match isK d G .str with | some b => _ | none => _)
      rw [told_is ht (by decide), hs]
      exact q
end
section
variable {P : Program} {w : World} {K : PySem.W.Frag} {mg : Str → Option Value} {base : Heap}
theorem vok_own_copy0 (T : Top K mg w) : FnOk P w K mg base CX0 (0 + 1) T.a_own_copy T.d_own_copy ["value"] spCopyF := by
  refine T.F_own_copy.ok scown_copy (fun vs H Q E h => ?_) (fun cdv A outer s H vs Q E hr h => ?_)
  · obtain ⟨y, rfl, _⟩ := h
    rfl
  · obtain ⟨y, rfl, hf, q⟩ := h
    obtain ⟨k, hk, h1, h2, h3⟩ := flat_ki hf H
    refine ⟨_, (pss_cons (ps_if (pt_val (pe_callB call_isi (by rfl) T.z_isinstance (by decide +kernel) (pa_cons (pv 0) (pa_cons (pe_bltn (by rfl) T.z_tuple (by decide +kernel) (show RelV (.ty "tuple") _ from rfl)) pa_nil))))
    (pss_one ps_never)
    pss_nil)
  (pss_cons (ps_if (pt_val (pe_callB call_isi (by rfl) T.z_isinstance (by decide +kernel) (pa_cons (pv 0) (pa_cons (pe_bltn (by rfl) T.z_list (by decide +kernel) (show RelV (.ty "list") _ from rfl)) pa_nil))))
    (pss_one ps_never)
    pss_nil)
  (pss_cons (ps_if (pt_val (pe_callB call_isi (by rfl) T.z_isinstance (by decide +kernel) (pa_cons (pv 0) (pa_cons (pe_bltn (by rfl) T.z_dict (by decide +kernel) (show RelV (.ty "dict") _ from rfl)) pa_nil))))
    (pss_one ps_never)
    pss_nil)
  (pss_one (ps_ret (pv 0)))))), ?_⟩
    refine ⟨y, rfl, _, _, _, _, _, rfl, .ty _, hk.ty, ki_kit _ .tup, _, rfl, ite2 (fun e => absurd e (by rw [h1]; decide)) fun _ => ?_⟩
    refine ⟨y, rfl, _, _, _, _, _, rfl, .ty _, hk.ty, ki_kit _ .lst, _, rfl, ite2 (fun e => absurd e (by rw [h2]; decide)) fun _ => ?_⟩
    refine ⟨y, rfl, _, _, _, _, _, rfl, .ty _, hk.ty, ki_kit _ .dct, _, rfl, ite2 (fun e => absurd e (by rw [h3]; decide)) fun _ => ?_⟩
    exact ⟨y, rfl, q⟩
theorem vok_own_copy (T : Top K mg w) : FnOk P w K mg base CX0 (4 + 1) T.a_own_copy T.d_own_copy ["value"] spCopyC := by
  have G_own_copy := (vok_own_copy0 (P := P) (w := w) (base := base) T).mono (k := 4) (by decide)
  refine T.F_own_copy.ok scown_copy (fun vs H Q E h => ?_) (fun cdv A outer s H vs Q E hr h => ?_)
  · obtain ⟨y, rfl, _⟩ := h
    rfl
  · obtain ⟨y, rfl, hc, q⟩ := h
    refine ⟨_, (pss_cons (ps_if (pt_val (pe_callB call_isi (by rfl) T.z_isinstance (by decide +kernel) (pa_cons (pv 0) (pa_cons (pe_bltn (by rfl) T.z_tuple (by decide +kernel) (show RelV (.ty "tuple") _ from rfl)) pa_nil))))
    (pss_one (ps_ret (pe_callTy call_tuple_of (by rfl) T.z_tuple (by decide +kernel) (pa_cons (pe_lc (own := [("item", 1)]) (g := gName 1) rfl scown_copy.nd (pi_anyV (pv 0)) (blkOk_by (own := [("item", 1)]) (N := Nown_copy) (sc := defScope sown_copy) (by decide +kernel)) (fun _ _ _ _ _ => (pg_name (i := 1) scown_copy.nd rfl (.inl rfl))) (fun _ _ _ _ _ => pts_nil) (fun _ _ _ _ _ => (pe_call G_own_copy hr (by rfl) T.g_own_copy T.F_own_copy.kp T.b_own_copy .nil pass0 (pa_cons (pv 1) pa_nil)))) pa_nil))))
    pss_nil)
  (pss_cons (ps_if (pt_val (pe_callB call_isi (by rfl) T.z_isinstance (by decide +kernel) (pa_cons (pv 0) (pa_cons (pe_bltn (by rfl) T.z_list (by decide +kernel) (show RelV (.ty "list") _ from rfl)) pa_nil))))
    (pss_one (ps_ret (pe_lc (own := [("item", 1)]) (g := gName 1) rfl scown_copy.nd (pi_anyV (pv 0)) (blkOk_by (own := [("item", 1)]) (N := Nown_copy) (sc := defScope sown_copy) (by decide +kernel)) (fun _ _ _ _ _ => (pg_name (i := 1) scown_copy.nd rfl (.inl rfl))) (fun _ _ _ _ _ => pts_nil) (fun _ _ _ _ _ => (pe_call G_own_copy hr (by rfl) T.g_own_copy T.F_own_copy.kp T.b_own_copy .nil pass0 (pa_cons (pv 1) pa_nil))))))
    pss_nil)
  (pss_cons (ps_if (pt_val (pe_callB call_isi (by rfl) T.z_isinstance (by decide +kernel) (pa_cons (pv 0) (pa_cons (pe_bltn (by rfl) T.z_dict (by decide +kernel) (show RelV (.ty "dict") _ from rfl)) pa_nil))))
    (pss_one (ps_ret (pe_lockO (pe_dc (own := [("key", 2)]) (g := gName 2) rfl scown_copy.nd (pi_keys (pv 0)) (blkOk_by (own := [("key", 2)]) (N := Nown_copy) (sc := defScope sown_copy) (by decide +kernel)) (fun _ _ _ _ _ => (pg_name (i := 2) scown_copy.nd rfl (.inl rfl))) (fun _ _ _ _ _ => pts_nil) (fun _ _ _ _ _ => pv 2) (fun _ _ _ _ _ => (pe_call G_own_copy hr (by rfl) T.g_own_copy T.F_own_copy.kp T.b_own_copy .nil pass0 (pa_cons (pe_dget (Nat.lt_of_le_of_lt (Nat.add_le_add_left (by decide) _) (Room.units hr)) (pv 0) (pv 2) (fun _ _ => rfl)) pa_nil)))))))
    pss_nil)
  (pss_one (ps_ret (pv 0)))))), ?_⟩
    rcases hc with hf | ⟨a, xs, rfl, ha, hf, hl⟩ | ⟨a, xs, rfl, ha, hf, hl⟩ | ⟨a, kvs, rfl, ha, hkv⟩
    · obtain ⟨k, hk, h1, h2, h3⟩ := flat_ki hf H
      refine ⟨y, rfl, _, _, _, _, _, rfl, .ty _, hk.ty, ki_kit _ .tup, _, rfl, ite2 (fun e => absurd e (by rw [h1]; decide)) fun _ => ?_⟩
      refine ⟨y, rfl, _, _, _, _, _, rfl, .ty _, hk.ty, ki_kit _ .lst, _, rfl, ite2 (fun e => absurd e (by rw [h2]; decide)) fun _ => ?_⟩
      refine ⟨y, rfl, _, _, _, _, _, rfl, .ty _, hk.ty, ki_kit _ .dct, _, rfl, ite2 (fun e => absurd e (by rw [h3]; decide)) fun _ => ?_⟩
      exact ⟨y, rfl, q _ _ (.inl ⟨hf, rfl, rfl⟩)⟩
    · have hk : IsKi H (.ref a) .tup := ⟨a, xs, rfl, ha⟩
      refine ⟨.ref a, rfl, _, _, _, _, _, rfl, .ty _, hk.ty, ki_kit _ .tup, _, rfl, ite2 (fun _ => ?_) fun e => absurd (show Ki.below .tup .tup = true by decide) e⟩
      refine ⟨a, rfl, .inr ⟨⟨_, .of ha⟩, fun D nD => ?_⟩⟩
      have naD : a ≠ D := ne_of_none ha nD
      refine lc_it (walk_tup (K := K) (a := a) (xs := xs)) (AccP D fun i acc H' => H' = upd H D (.lst acc) ∧ acc = xs.take i) (.zero ⟨rfl, rfl⟩) (fun i H' _ ⟨_, _, _, z⟩ => by rw [z.1]; exact .of ((upd_ne naD).trans ha)) (fun i x H' H'' hi ⟨acc, e1, l1, z, eacc⟩ y => ?_) (fun H' ⟨acc, e1, _, z, eacc⟩ => ?_)
      · obtain ⟨rfl, hx⟩ := y
        refine ⟨rfl, ?_⟩
        refine ⟨x, rfl, x, rfl, hf x (List.mem_of_getElem? hx), ?_⟩
        exact AccP.put (small_size (by omega)) e1 l1 ⟨by rw [z, upd_upd], by rw [take_next hx, eacc]⟩
      · rw [eacc, List.take_length] at z e1
        refine ⟨D, xs, rfl, .inl ⟨.of e1, fun p np => ?_⟩⟩
        have npD : p ≠ D := fun e => by rw [e, e1] at np; cases np
        have np0 : H p = none := by rw [z, upd_ne npD] at np; exact np
        refine q _ _ (.inr (.inl ⟨a, xs, p, rfl, ha, rfl, ?_, np0, upd_same⟩))
        rw [z]
        exact (same_new nD).trans (same_new ((upd_ne npD).trans np0))
    · have hk : IsKi H (.ref a) .lst := ⟨a, xs, rfl, ha⟩
      refine ⟨.ref a, rfl, _, _, _, _, _, rfl, .ty _, hk.ty, ki_kit _ .tup, _, rfl, ite2 (fun e => absurd e (by decide)) fun _ => ?_⟩
      refine ⟨.ref a, rfl, _, _, _, _, _, rfl, .ty _, hk.ty, ki_kit _ .lst, _, rfl, ite2 (fun _ => ?_) fun e => absurd (show Ki.below .lst .lst = true by decide) e⟩
      refine ⟨a, rfl, .inl ⟨⟨_, .of ha⟩, fun D nD => ?_⟩⟩
      have naD : a ≠ D := ne_of_none ha nD
      refine lc_it (walk_list (K := K) (a := a) (xs := xs)) (AccP D fun i acc H' => H' = upd H D (.lst acc) ∧ acc = xs.take i) (.zero ⟨rfl, rfl⟩) (fun i H' _ ⟨_, _, _, z⟩ => by rw [z.1]; exact .of ((upd_ne naD).trans ha)) (fun i x H' H'' hi ⟨acc, e1, l1, z, eacc⟩ y => ?_) (fun H' ⟨acc, e1, _, z, eacc⟩ => ?_)
      · obtain ⟨rfl, hx⟩ := y
        refine ⟨rfl, ?_⟩
        refine ⟨x, rfl, x, rfl, hf x (List.mem_of_getElem? hx), ?_⟩
        exact AccP.put (small_size (by omega)) e1 l1 ⟨by rw [z, upd_upd], by rw [take_next hx, eacc]⟩
      · rw [eacc, List.take_length] at z e1
        refine q _ _ (.inr (.inr (.inl ⟨a, xs, D, rfl, ha, rfl, ?_, nD, e1⟩)))
        rw [z]
        exact same_new nD
    · have ty : TyX K H (.ref a) (.type Ki.dct.name) := by
        rcases ha with ha | ⟨o, ha⟩
        · exact IsKi.ty (k := .dct) ⟨a, kvs, rfl, ha⟩
        · exact .fDict ha
      refine ⟨.ref a, rfl, _, _, _, _, _, rfl, .ty _, ty, ki_kit .dct .tup, _, rfl, ite2 (fun e => absurd e (by decide)) fun _ => ?_⟩
      refine ⟨.ref a, rfl, _, _, _, _, _, rfl, .ty _, ty, ki_kit .dct .lst, _, rfl, ite2 (fun e => absurd e (by decide)) fun _ => ?_⟩
      refine ⟨.ref a, rfl, _, _, _, _, _, rfl, .ty _, ty, ki_kit .dct .dct, _, rfl, ite2 (fun _ => ?_) fun e => absurd (show Ki.below .dct .dct = true by decide) e⟩
      have hkv' : kvs = [] ∨ ∃ k v, kvs = [(k, v)] := hkv.imp id fun ⟨k, v, e, _⟩ => ⟨k, v, e⟩
      have hval : ∀ k v, kvs = [(k, v)] → flatV v = true := fun k v e => by
        rcases hkv with h0 | ⟨k', v', e', f⟩
        · rw [h0] at e; cases e
        · rw [e'] at e; cases e; exact f
      rcases ha with ha | ⟨o, ha⟩
      · refine .inr ⟨a, .dK kvs, ha, trivial, fun od => ?_⟩
        refine ⟨.ref a, rfl, a, od, rfl, .inl ⟨kvs, upd_same, fun D nD => ?_⟩⟩
        have nDa : D ≠ a := fun e => by rw [e, upd_same] at nD; cases nD
        have nD0 : H D = none := (upd_ne nDa).symm.trans nD
        refine dc_copy hkv' upd_same nD (fun k v e N hN => ?_) ⟨by rw [upd_ne nDa.symm, upd_same], q _ _ (.inr (.inr (.inr ⟨a, kvs, D, rfl, .inl ha, rfl, ?_, nD0, by rw [upd_ne nDa, upd_same]⟩)))⟩
        · subst e
          refine ⟨rfl, _, rfl, .ref a, rfl, kV k, rfl, a, v, rfl, .inl ⟨[(k, v)], k, .inr ⟨od, by rw [upd_ne nDa.symm, upd_same]⟩, rfl, by simp [valV]⟩, v, rfl, hval k v rfl, [], k, rfl, upd_same, by rw [sizeLine_eq]; decide, ?_⟩
          rw [upd_upd]
          exact hN
        · intro b u e
          by_cases c : b = a
          · subst c
            rw [ha] at e
            rw [upd_same]
            exact e
          · rw [upd_ne c, upd_ne (ne_of_none e nD0), upd_ne c]
            exact e
      · refine .inl ⟨.ref a, rfl, a, o, rfl, .inl ⟨kvs, ha, fun D nD => ?_⟩⟩
        have nDa : a ≠ D := ne_of_none ha nD
        refine dc_copy hkv' ha nD (fun k v e N hN => ?_) (q _ _ (.inr (.inr (.inr ⟨a, kvs, D, rfl, .inr ⟨o, ha⟩, rfl, same_new nD, nD, upd_same⟩))))
        subst e
        refine ⟨rfl, _, rfl, .ref a, rfl, kV k, rfl, a, v, rfl, .inl ⟨[(k, v)], k, .inr ⟨o, (upd_ne nDa).trans ha⟩, rfl, by simp [valV]⟩, v, rfl, hval k v rfl, [], k, rfl, upd_same, by rw [sizeLine_eq]; decide, ?_⟩
        rw [upd_upd]
        exact hN
theorem vok_BadName___init__ (T : Top K mg w) : FnOk P w K mg base CX0 (8 + 1) T.a_BadName___init__ T.d_BadName___init__ ["self", "value"] (spE1C T.C_BadName "value") := by
  have G_own_copy := (vok_own_copy (P := P) (w := w) (base := base) T).mono (k := 8) (by decide)
  refine T.F_BadName___init__.ok scBadName___init__ (fun vs H Q E h => ?_) (fun cdv A outer s H vs Q E hr h => ?_)
  · obtain ⟨a, y, rfl, _⟩ := h
    rfl
  · obtain ⟨a, y, rfl, ha, hc, q⟩ := h
    refine ⟨_, (pss_one (ps_ost (pv 0) (pe_call G_own_copy hr (by rfl) T.g_own_copy T.F_own_copy.kp T.b_own_copy .nil pass0 (pa_cons (pv 1) pa_nil)))), ?_⟩
    exact ⟨y, rfl, y, rfl, hc, fun H1 z o => ⟨.ref a, rfl, a, T.C_BadName, rfl, T.ox_BadName, T.no_BadName_value, .inl ⟨o.same _ _ ha, fun d nd nda => q _ _ o d nd nda⟩⟩⟩
theorem vok_BadNumber___init__ (T : Top K mg w) : FnOk P w K mg base CX0 (8 + 1) T.a_BadNumber___init__ T.d_BadNumber___init__ ["self", "value"] (spE1C T.C_BadNumber "value") := by
  have G_own_copy := (vok_own_copy (P := P) (w := w) (base := base) T).mono (k := 8) (by decide)
  refine T.F_BadNumber___init__.ok scBadNumber___init__ (fun vs H Q E h => ?_) (fun cdv A outer s H vs Q E hr h => ?_)
  · obtain ⟨a, y, rfl, _⟩ := h
    rfl
  · obtain ⟨a, y, rfl, ha, hc, q⟩ := h
    refine ⟨_, (pss_one (ps_ost (pv 0) (pe_call G_own_copy hr (by rfl) T.g_own_copy T.F_own_copy.kp T.b_own_copy .nil pass0 (pa_cons (pv 1) pa_nil)))), ?_⟩
    exact ⟨y, rfl, y, rfl, hc, fun H1 z o => ⟨.ref a, rfl, a, T.C_BadNumber, rfl, T.ox_BadNumber, T.no_BadNumber_value, .inl ⟨o.same _ _ ha, fun d nd nda => q _ _ o d nd nda⟩⟩⟩
end
section
variable {P : Program} {w : World} {K : PySem.W.Frag} {mg : Str → Option Value} {base : Heap}
def checkX (CN CB : Addr) : SpD := fun ds G Q W => ∃ c n, ds = [c, n] ∧ NameD c G ∧ cpD c = true ∧ Told n G ∧ cpD n = true ∧ (isName c = false → W CN [("value", c)] G) ∧ (isName c = true → isInt n = false → W CB [("value", n)] G) ∧ (isName c = true → isInt n = true → Q .non G)
theorem dok_check_comparison (T : Top K mg w) : FnD P w K mg base 13 T.a_check_comparison T.d_check_comparison ["column", "number"] (checkX T.C_BadName T.C_BadNumber) := by
  have G_is_name := (dok_is_name (P := P) (w := w) (base := base) T).mono (k := 10) (by decide)
  have G_BadName___init__ := (vok_BadName___init__ (P := P) (w := w) (base := base) T).mono (k := 10) (by decide)
  have G_is_integer := (dok_is_integer (P := P) (w := w) (base := base) T).mono (k := 10) (by decide)
  have G_BadNumber___init__ := (vok_BadNumber___init__ (P := P) (w := w) (base := base) T).mono (k := 10) (by decide)
  refine dfn (k := 12) T.F_check_comparison sccheck_comparison (fun ds G Q W h => ?_) (fun cdv A outer s H E B W hr tk => have hx := hx_of tk; ⟨_, (db_cons (ds_if (dt_not (dt_val (de_call G_is_name (hr.mono (by decide)) (by rfl) T.g_is_name T.F_is_name.kp T.b_is_name hx (da_cons (dv 0) da_nil))))
    (db_one (ds_raise1C rfl tk T.ox_BadName T.ic_BadName T.ti_BadName G_BadName___init__ (hr.mono (by decide)) T.b_BadName___init__ rfl T.g_BadName (da_cons (dv 0) da_nil)))
    db_nil)
  (db_one (ds_if (dt_not (dt_val (de_call G_is_integer (hr.mono (by decide)) (by rfl) T.g_is_integer T.F_is_integer.kp T.b_is_integer hx (da_cons (dv 1) da_nil))))
    (db_one (ds_raise1C rfl tk T.ox_BadNumber T.ic_BadNumber T.ti_BadNumber G_BadNumber___init__ (hr.mono (by decide)) T.b_BadNumber___init__ rfl T.g_BadNumber (da_cons (dv 1) da_nil)))
    db_nil))), fun ds G Q h => ?_⟩)
  · obtain ⟨_, _, rfl, _⟩ := h
    rfl
  · obtain ⟨c, n, rfl, hc, cc, hn, cn, q0, q1, q2⟩ := h
    refine ⟨c, rfl, hc, ?_⟩
    show (match !(isName c) with | true => _ | false => _)
    cases e : isName c with
    | false => exact ⟨c, rfl, cc, q0 e⟩
    | true =>
      refine ⟨n, rfl, hn, ?_⟩
      show (match !(isInt n) with | true => _ | false => _)
      cases e2 : isInt n with
      | false => exact ⟨n, rfl, cn, q1 e e2⟩
      | true => exact q2 e e2
def testInitX (Cs : List Addr) : SpD := fun ds G Q _ => ∃ (a C : Addr) (x1 x2 x3 x4 x5 : D), ds = [.adr a, x1, x2, x3, x4, x5] ∧ C ∈ Cs ∧ G a = some (.ins C []) ∧ Q .non (updG G a (.ins C [("_text", x1), ("_size", x2), ("_columns", x3), ("_names", x4), ("_conditions", x5)]))
theorem dok_Test___init__ (T : Top K mg w) : FnD P w K mg base 4 T.a_Test___init__ T.d_Test___init__ ["self", "text", "size", "columns", "names", "conditions"] (testInitX (fam_Test T)) := by
  refine dfn (k := 3) T.F_Test___init__ scTest___init__ (fun ds G Q W h => ?_) (fun cdv A outer s H E B W hr tk => have hx := hx_of tk; ⟨_, (db_cons (ds_any (Pr := fun C => C ∈ fam_Test T) fun C hC => ds_fld (C := C) (fam_na_Test__text T C hC) (dv 0) (dv 1))
  (db_cons (ds_any (Pr := fun C => C ∈ fam_Test T) fun C hC => ds_fld (C := C) (fam_na_Test__size T C hC) (dv 0) (dv 2))
  (db_cons (ds_any (Pr := fun C => C ∈ fam_Test T) fun C hC => ds_fld (C := C) (fam_na_Test__columns T C hC) (dv 0) (dv 3))
  (db_cons (ds_any (Pr := fun C => C ∈ fam_Test T) fun C hC => ds_fld (C := C) (fam_na_Test__names T C hC) (dv 0) (dv 4))
  (db_one (ds_any (Pr := fun C => C ∈ fam_Test T) fun C hC => ds_fld (C := C) (fam_na_Test__conditions T C hC) (dv 0) (dv 5))))))), fun ds G Q h => ?_⟩)
  · obtain ⟨_, _, _, _, _, _, _, rfl, _⟩ := h
    rfl
  · obtain ⟨a, C, x1, x2, x3, x4, x5, rfl, hC, hG, q⟩ := h
    refine ⟨C, hC, ?_⟩
    show (match G a with | some (.ins C' fs) => _ | _ => False)
    rw [hG]
    refine ⟨rfl, by decide, ?_⟩
    refine ⟨C, hC, ?_⟩
    show (match updG G a (.ins C [("_text", x1)]) a with | some (.ins C' fs) => _ | _ => False)
    rw [updG_same]
    refine ⟨rfl, (show 1 < 1000 by decide), ?_⟩
    rw [updG_updG]
    refine ⟨C, hC, ?_⟩
    show (match updG G a (.ins C [("_text", x1), ("_size", x2)]) a with | some (.ins C' fs) => _ | _ => False)
    rw [updG_same]
    refine ⟨rfl, (show 2 < 1000 by decide), ?_⟩
    rw [updG_updG]
    refine ⟨C, hC, ?_⟩
    show (match updG G a (.ins C [("_text", x1), ("_size", x2), ("_columns", x3)]) a with | some (.ins C' fs) => _ | _ => False)
    rw [updG_same]
    refine ⟨rfl, (show 3 < 1000 by decide), ?_⟩
    rw [updG_updG]
    refine ⟨C, hC, ?_⟩
    show (match updG G a (.ins C [("_text", x1), ("_size", x2), ("_columns", x3), ("_names", x4)]) a with | some (.ins C' fs) => _ | _ => False)
    rw [updG_same]
    refine ⟨rfl, (show 4 < 1000 by decide), ?_⟩
    rw [updG_updG]
    exact q
/-- the columns, the names of a condition stand in its own place -/
def condF (c x1 : D) (a : Addr) : List (Str × D) := [("_text", x1), ("_size", .int 0), ("_columns", .tup [c]), ("_names", .tup []), ("_conditions", .tup [.adr a]), ("column", c)]
def condInitX (Cs : List Addr) : SpD := fun ds G Q _ => ∃ (a C : Addr) (c x1 : D), ds = [.adr a, c, x1] ∧ C ∈ Cs ∧ G a = some (.ins C []) ∧ Q .non (updG G a (.ins C (condF c x1 a)))
theorem dok_Condition___init__ (T : Top K mg w) : FnD P w K mg base 8 T.a_Condition___init__ T.d_Condition___init__ ["self", "column", "text"] (condInitX (fam_Condition T)) := by
  have G_Test___init__ := (dok_Test___init__ (P := P) (w := w) (base := base) T).mono (k := 5) (by decide)
  refine dfn (k := 7) T.F_Condition___init__ scCondition___init__ (fun ds G Q W h => ?_) (fun cdv A outer s H E B W hr tk => have hx := hx_of tk; ⟨_, (db_cons (ds_expr (de_fmeth hx (pe_glob rfl T.g_Test (show RelV (.ref T.C_Test) _ from rfl)) T.fm_Test___init__ G_Test___init__ (hr.mono (by decide)) T.b_Test___init__ (da_cons (dv 0) (da_cons (dv 2) (da_cons de_int (da_cons (de_tup (da_cons (dv 1) da_nil)) (da_cons (de_tup da_nil) (da_cons (de_tup (da_cons (dv 0) da_nil)) da_nil))))))))
  (db_one (ds_any (Pr := fun C => C ∈ fam_Condition T) fun C hC => ds_fld (C := C) (fam_na_Condition_column T C hC) (dv 0) (dv 1)))), fun ds G Q h => ?_⟩)
  · obtain ⟨_, _, _, _, rfl, _⟩ := h
    rfl
  · obtain ⟨a, C, c, x1, rfl, hC, hG, q⟩ := h
    have hz := sizeLine_eq
    refine ⟨by show 1 ≤ sizeLine; omega, ?_⟩
    refine ⟨Nat.zero_le _, ?_⟩
    refine ⟨by show 1 ≤ sizeLine; omega, ?_⟩
    refine ⟨a, C, x1, .int 0, .tup [c], .tup [], .tup [.adr a], rfl, hC, hG, ?_⟩
    refine ⟨C, hC, ?_⟩
    show (match updG G a (.ins C [("_text", x1), ("_size", .int 0), ("_columns", .tup [c]), ("_names", .tup []), ("_conditions", .tup [.adr a])]) a with | some (.ins C' fs) => _ | _ => False)
    rw [updG_same]
    refine ⟨rfl, (show 5 < 1000 by decide), ?_⟩
    rw [updG_updG]
    exact q
def belowT (c : Str) (i : Int) (sg : String) : Str := ((Str.empty ++ c) ++ Str.ofString sg) ++ numS i
def cmpInitX (CN CB C : Addr) (sg : String) : SpD := fun ds G Q W => ∃ (a : Addr) (c n : D), ds = [.adr a, c, n] ∧ G a = some (.ins C []) ∧ NameD c G ∧ cpD c = true ∧ Told n G ∧ cpD n = true ∧ (isName c = false → W CN [("value", c)] G) ∧ (isName c = true → isInt n = false → W CB [("value", n)] G) ∧
  (∀ (x : Str) (i : Int), c = .str x → x ∈ poolN → n = .int i → i.natAbs < 10 ^ 60 ∧ Q .non (updG G a (.ins C (condF c (.str (belowT x i sg)) a ++ ([("number", n)] : List (Str × D))))))
theorem isName_str {c : D} (h : isName c = true) : ∃ x, c = .str x ∧ x ∈ poolN := by
  cases c with
  | str x => exact ⟨x, rfl, of_decide_eq_true h⟩
  | _ => cases h
theorem isInt_int {n : D} (h : isInt n = true) : ∃ i, n = .int i := by
  cases n with
  | int i => exact ⟨i, rfl⟩
  | _ => cases h
theorem dok_Below___init__ (T : Top K mg w) : FnD P w K mg base 17 T.a_Below___init__ T.d_Below___init__ ["self", "column", "number"] (cmpInitX T.C_BadName T.C_BadNumber T.C_Below " < ") := by
  have G_check_comparison := (dok_check_comparison (P := P) (w := w) (base := base) T).mono (k := 14) (by decide)
  have G_Condition___init__ := (dok_Condition___init__ (P := P) (w := w) (base := base) T).mono (k := 14) (by decide)
  refine dfn (k := 16) T.F_Below___init__ scBelow___init__ (fun ds G Q W h => ?_) (fun cdv A outer s H E B W hr tk => have hx := hx_of tk; ⟨_, (db_cons (ds_expr (de_call G_check_comparison (hr.mono (by decide)) (by rfl) T.g_check_comparison T.F_check_comparison.kp T.b_check_comparison hx (da_cons (dv 1) (da_cons (dv 2) da_nil))))
  (db_cons (ds_expr (de_fmeth hx (pe_glob rfl T.g_Condition (show RelV (.ref T.C_Condition) _ from rfl)) T.fm_Condition___init__ G_Condition___init__ (hr.mono (by decide)) T.b_Condition___init__ (da_cons (dv 0) (da_cons (dv 1) (da_cons (de_joined (dj_cons (de_fmt (dv 1)) (dj_cons de_str (dj_cons (de_fmt (dv 2)) dj_nil)))) da_nil)))))
  (db_one (ds_fld (C := T.C_Below) T.na_Below_number (dv 0) (dv 2))))), fun ds G Q h => ?_⟩)
  · obtain ⟨_, _, _, rfl, _⟩ := h
    rfl
  · obtain ⟨a, c, n, rfl, hG, hc, cc, hn, cn, q0, q1, q2⟩ := h
    refine ⟨c, n, rfl, hc, cc, hn, cn, q0, q1, fun e1 e2 => ?_⟩
    obtain ⟨x, rfl, hx⟩ := isName_str e1
    obtain ⟨i, rfl⟩ := isInt_int e2
    obtain ⟨b60, q⟩ := q2 x i rfl hx rfl
    have l8 := (pool_ok x hx).1
    have l61 := len_num b60
    have hz := sizeLine_eq
    have ls : (Str.ofString " < ").length ≤ 5 := by decide +kernel
    have le : Str.empty.length = 0 := rfl
    refine ⟨by omega, x, rfl, by rw [Str.length_append]; omega, ?_⟩
    refine ⟨_, rfl, by rw [Str.length_append, Str.length_append]; omega, ?_⟩
    refine ⟨log_num b60, _, rfl, by rw [Str.length_append, Str.length_append, Str.length_append]; omega, ?_⟩
    refine ⟨a, T.C_Below, .str x, .str (belowT x i " < "), rfl, List.mem_of_getElem? (i := 0) rfl, hG, ?_⟩
    show (match updG G a (.ins T.C_Below (condF (.str x) (.str (belowT x i " < ")) a)) a with | some (.ins C' fs) => _ | _ => False)
    rw [updG_same]
    refine ⟨rfl, (show 6 < 1000 by decide), ?_⟩
    rw [updG_updG]
    exact q
theorem dok_UpTo___init__ (T : Top K mg w) : FnD P w K mg base 17 T.a_UpTo___init__ T.d_UpTo___init__ ["self", "column", "number"] (cmpInitX T.C_BadName T.C_BadNumber T.C_UpTo " <= ") := by
  have G_check_comparison := (dok_check_comparison (P := P) (w := w) (base := base) T).mono (k := 14) (by decide)
  have G_Condition___init__ := (dok_Condition___init__ (P := P) (w := w) (base := base) T).mono (k := 14) (by decide)
  refine dfn (k := 16) T.F_UpTo___init__ scUpTo___init__ (fun ds G Q W h => ?_) (fun cdv A outer s H E B W hr tk => have hx := hx_of tk; ⟨_, (db_cons (ds_expr (de_call G_check_comparison (hr.mono (by decide)) (by rfl) T.g_check_comparison T.F_check_comparison.kp T.b_check_comparison hx (da_cons (dv 1) (da_cons (dv 2) da_nil))))
  (db_cons (ds_expr (de_fmeth hx (pe_glob rfl T.g_Condition (show RelV (.ref T.C_Condition) _ from rfl)) T.fm_Condition___init__ G_Condition___init__ (hr.mono (by decide)) T.b_Condition___init__ (da_cons (dv 0) (da_cons (dv 1) (da_cons (de_joined (dj_cons (de_fmt (dv 1)) (dj_cons de_str (dj_cons (de_fmt (dv 2)) dj_nil)))) da_nil)))))
  (db_one (ds_fld (C := T.C_UpTo) T.na_UpTo_number (dv 0) (dv 2))))), fun ds G Q h => ?_⟩)
  · obtain ⟨_, _, _, rfl, _⟩ := h
    rfl
  · obtain ⟨a, c, n, rfl, hG, hc, cc, hn, cn, q0, q1, q2⟩ := h
    refine ⟨c, n, rfl, hc, cc, hn, cn, q0, q1, fun e1 e2 => ?_⟩
    obtain ⟨x, rfl, hx⟩ := isName_str e1
    obtain ⟨i, rfl⟩ := isInt_int e2
    obtain ⟨b60, q⟩ := q2 x i rfl hx rfl
    have l8 := (pool_ok x hx).1
    have l61 := len_num b60
    have hz := sizeLine_eq
    have ls : (Str.ofString " <= ").length ≤ 5 := by decide +kernel
    have le : Str.empty.length = 0 := rfl
    refine ⟨by omega, x, rfl, by rw [Str.length_append]; omega, ?_⟩
    refine ⟨_, rfl, by rw [Str.length_append, Str.length_append]; omega, ?_⟩
    refine ⟨log_num b60, _, rfl, by rw [Str.length_append, Str.length_append, Str.length_append]; omega, ?_⟩
    refine ⟨a, T.C_UpTo, .str x, .str (belowT x i " <= "), rfl, List.mem_of_getElem? (i := 1) rfl, hG, ?_⟩
    show (match updG G a (.ins T.C_UpTo (condF (.str x) (.str (belowT x i " <= ")) a)) a with | some (.ins C' fs) => _ | _ => False)
    rw [updG_same]
    refine ⟨rfl, (show 6 < 1000 by decide), ?_⟩
    rw [updG_updG]
    exact q
theorem dok_Equals___init__ (T : Top K mg w) : FnD P w K mg base 17 T.a_Equals___init__ T.d_Equals___init__ ["self", "column", "number"] (cmpInitX T.C_BadName T.C_BadNumber T.C_Equals " = ") := by
  have G_check_comparison := (dok_check_comparison (P := P) (w := w) (base := base) T).mono (k := 14) (by decide)
  have G_Condition___init__ := (dok_Condition___init__ (P := P) (w := w) (base := base) T).mono (k := 14) (by decide)
  refine dfn (k := 16) T.F_Equals___init__ scEquals___init__ (fun ds G Q W h => ?_) (fun cdv A outer s H E B W hr tk => have hx := hx_of tk; ⟨_, (db_cons (ds_expr (de_call G_check_comparison (hr.mono (by decide)) (by rfl) T.g_check_comparison T.F_check_comparison.kp T.b_check_comparison hx (da_cons (dv 1) (da_cons (dv 2) da_nil))))
  (db_cons (ds_expr (de_fmeth hx (pe_glob rfl T.g_Condition (show RelV (.ref T.C_Condition) _ from rfl)) T.fm_Condition___init__ G_Condition___init__ (hr.mono (by decide)) T.b_Condition___init__ (da_cons (dv 0) (da_cons (dv 1) (da_cons (de_joined (dj_cons (de_fmt (dv 1)) (dj_cons de_str (dj_cons (de_fmt (dv 2)) dj_nil)))) da_nil)))))
  (db_one (ds_fld (C := T.C_Equals) T.na_Equals_number (dv 0) (dv 2))))), fun ds G Q h => ?_⟩)
  · obtain ⟨_, _, _, rfl, _⟩ := h
    rfl
  · obtain ⟨a, c, n, rfl, hG, hc, cc, hn, cn, q0, q1, q2⟩ := h
    refine ⟨c, n, rfl, hc, cc, hn, cn, q0, q1, fun e1 e2 => ?_⟩
    obtain ⟨x, rfl, hx⟩ := isName_str e1
    obtain ⟨i, rfl⟩ := isInt_int e2
    obtain ⟨b60, q⟩ := q2 x i rfl hx rfl
    have l8 := (pool_ok x hx).1
    have l61 := len_num b60
    have hz := sizeLine_eq
    have ls : (Str.ofString " = ").length ≤ 5 := by decide +kernel
    have le : Str.empty.length = 0 := rfl
    refine ⟨by omega, x, rfl, by rw [Str.length_append]; omega, ?_⟩
    refine ⟨_, rfl, by rw [Str.length_append, Str.length_append]; omega, ?_⟩
    refine ⟨log_num b60, _, rfl, by rw [Str.length_append, Str.length_append, Str.length_append]; omega, ?_⟩
    refine ⟨a, T.C_Equals, .str x, .str (belowT x i " = "), rfl, List.mem_of_getElem? (i := 2) rfl, hG, ?_⟩
    show (match updG G a (.ins T.C_Equals (condF (.str x) (.str (belowT x i " = ")) a)) a with | some (.ins C' fs) => _ | _ => False)
    rw [updG_same]
    refine ⟨rfl, (show 6 < 1000 by decide), ?_⟩
    rw [updG_updG]
    exact q
def missInitX (CN C : Addr) : SpD := fun ds G Q W => ∃ (a : Addr) (c : D), ds = [.adr a, c] ∧ G a = some (.ins C []) ∧ NameD c G ∧ cpD c = true ∧ (isName c = false → W CN [("value", c)] G) ∧ (∀ x : Str, c = .str x → x ∈ poolN → Q .non (updG G a (.ins C (condF c (.str ((Str.empty ++ x) ++ " null")) a))))
theorem dok_Missing___init__ (T : Top K mg w) : FnD P w K mg base 13 T.a_Missing___init__ T.d_Missing___init__ ["self", "column"] (missInitX T.C_BadName T.C_Missing) := by
  have G_is_name := (dok_is_name (P := P) (w := w) (base := base) T).mono (k := 10) (by decide)
  have G_BadName___init__ := (vok_BadName___init__ (P := P) (w := w) (base := base) T).mono (k := 10) (by decide)
  have G_Condition___init__ := (dok_Condition___init__ (P := P) (w := w) (base := base) T).mono (k := 10) (by decide)
  refine dfn (k := 12) T.F_Missing___init__ scMissing___init__ (fun ds G Q W h => ?_) (fun cdv A outer s H E B W hr tk => have hx := hx_of tk; ⟨_, (db_cons (ds_if (dt_not (dt_val (de_call G_is_name (hr.mono (by decide)) (by rfl) T.g_is_name T.F_is_name.kp T.b_is_name hx (da_cons (dv 1) da_nil))))
    (db_one (ds_raise1C rfl tk T.ox_BadName T.ic_BadName T.ti_BadName G_BadName___init__ (hr.mono (by decide)) T.b_BadName___init__ rfl T.g_BadName (da_cons (dv 1) da_nil)))
    db_nil)
  (db_one (ds_expr (de_fmeth hx (pe_glob rfl T.g_Condition (show RelV (.ref T.C_Condition) _ from rfl)) T.fm_Condition___init__ G_Condition___init__ (hr.mono (by decide)) T.b_Condition___init__ (da_cons (dv 0) (da_cons (dv 1) (da_cons (de_joined (dj_cons (de_fmt (dv 1)) (dj_cons de_str dj_nil))) da_nil))))))), fun ds G Q h => ?_⟩)
  · obtain ⟨_, _, rfl, _⟩ := h
    rfl
  · obtain ⟨a, c, rfl, hG, hc, cc, q0, q2⟩ := h
    refine ⟨c, rfl, hc, ?_⟩
    show (match !(isName c) with | true => _ | false => _)
    cases e1 : isName c with
    | false => exact ⟨c, rfl, cc, q0 e1⟩
    | true =>
      obtain ⟨x, rfl, hx⟩ := isName_str e1
      have q := q2 x rfl hx
      have l8 := (pool_ok x hx).1
      have hz := sizeLine_eq
      have ls : (Str.ofString " null").length ≤ 5 := by decide +kernel
      have le : Str.empty.length = 0 := rfl
      refine ⟨by omega, x, rfl, by rw [Str.length_append]; omega, ?_⟩
      refine ⟨_, rfl, by rw [Str.length_append, Str.length_append]; omega, ?_⟩
      exact ⟨a, T.C_Missing, .str x, .str ((Str.empty ++ x) ++ " null"), rfl, List.mem_of_getElem? (i := 3) rfl, hG, q⟩
end
section
variable {P : Program} {w : World} {K : PySem.W.Frag} {mg : Str → Option Value} {base : Heap}
def knownX (C : Addr) (f : D → D → D) : SpD := fun ds G Q _ => ∃ (d counts : D) (fs kvs : List (Str × D)) (x : Str) (i : Int) (v : D), ds = [d, txtF kvs, counts] ∧ insD d G = some (C, fs) ∧ fs.lookup ("column" : Str) = some (.str x) ∧ fs.lookup ("number" : Str) = some (.int i) ∧ kvs.lookup x = some v ∧ isVal v = true ∧ Q (f v (.int i)) G
def belowF (v n : D) : D := match v, n with
  | .int a, .int b => .bl (decide (a < b))
  | _, _ => .non
def uptoF (v n : D) : D := match v, n with
  | .int a, .int b => .bl (decide (a ≤ b))
  | _, _ => .non
def equalsF (v n : D) : D := match v, n with
  | .int a, .int b => .bl (decide (a = b))
  | _, _ => .non
theorem dok_Below_known (T : Top K mg w) : FnD P w K mg base 4 T.a_Below_known T.d_Below_known ["self", "values", "counts"] (knownX T.C_Below belowF) := by
  refine dfn (k := 3) T.F_Below_known scBelow_known (fun ds G Q W h => ?_) (fun cdv A outer s H E B W hr tk => have hx := hx_of tk; ⟨_, (db_cons (ds_set (i := 3) scBelow_known.nd rfl (.inl rfl) (de_tgetF (Nat.lt_of_le_of_lt (Nat.add_le_add_left (by decide) _) (Room.units hr)) (dv 1) (de_fld (dv 0)) (fun _ _ => rfl)))
  (db_one (ds_ret (de_if (dt_cmp op_isN isN_A (dv 3) de_non (nomark _)) de_non (de_cmp op_lt lt_A (dv 3) (de_fld (dv 0)) (nomark _)))))), fun ds G Q h => ?_⟩)
  · obtain ⟨_, _, _, _, _, _, _, rfl, _⟩ := h
    rfl
  · obtain ⟨d, counts, fs, kvs, x, i, v, rfl, hd, h1, h2, h3, h4, q⟩ := h
    have f1 : fldD d G (Str.ofString "column") = some (.str x) := by unfold fldD; rw [hd]; exact h1
    have f2 : fldD d G (Str.ofString "number") = some (.int i) := by unfold fldD; rw [hd]; exact h2
    show (match fldD d G (Str.ofString "column") with | some y => _ | none => False)
    rw [f1]
    refine ⟨kvs, x, v, rfl, rfl, h3, ?_⟩
    cases v with
    | non => exact q
    | int a =>
      show (match fldD d G (Str.ofString "number") with | some y => _ | none => False)
      rw [f2]
      exact q
    | _ => cases h4
theorem dok_UpTo_known (T : Top K mg w) : FnD P w K mg base 4 T.a_UpTo_known T.d_UpTo_known ["self", "values", "counts"] (knownX T.C_UpTo uptoF) := by
  refine dfn (k := 3) T.F_UpTo_known scUpTo_known (fun ds G Q W h => ?_) (fun cdv A outer s H E B W hr tk => have hx := hx_of tk; ⟨_, (db_cons (ds_set (i := 3) scUpTo_known.nd rfl (.inl rfl) (de_tgetF (Nat.lt_of_le_of_lt (Nat.add_le_add_left (by decide) _) (Room.units hr)) (dv 1) (de_fld (dv 0)) (fun _ _ => rfl)))
  (db_one (ds_ret (de_if (dt_cmp op_isN isN_A (dv 3) de_non (nomark _)) de_non (de_cmp op_le le_A (dv 3) (de_fld (dv 0)) (nomark _)))))), fun ds G Q h => ?_⟩)
  · obtain ⟨_, _, _, _, _, _, _, rfl, _⟩ := h
    rfl
  · obtain ⟨d, counts, fs, kvs, x, i, v, rfl, hd, h1, h2, h3, h4, q⟩ := h
    have f1 : fldD d G (Str.ofString "column") = some (.str x) := by unfold fldD; rw [hd]; exact h1
    have f2 : fldD d G (Str.ofString "number") = some (.int i) := by unfold fldD; rw [hd]; exact h2
    show (match fldD d G (Str.ofString "column") with | some y => _ | none => False)
    rw [f1]
    refine ⟨kvs, x, v, rfl, rfl, h3, ?_⟩
    cases v with
    | non => exact q
    | int a =>
      show (match fldD d G (Str.ofString "number") with | some y => _ | none => False)
      rw [f2]
      exact q
    | _ => cases h4
theorem dok_Equals_known (T : Top K mg w) : FnD P w K mg base 4 T.a_Equals_known T.d_Equals_known ["self", "values", "counts"] (knownX T.C_Equals equalsF) := by
  refine dfn (k := 3) T.F_Equals_known scEquals_known (fun ds G Q W h => ?_) (fun cdv A outer s H E B W hr tk => have hx := hx_of tk; ⟨_, (db_cons (ds_set (i := 3) scEquals_known.nd rfl (.inl rfl) (de_tgetF (Nat.lt_of_le_of_lt (Nat.add_le_add_left (by decide) _) (Room.units hr)) (dv 1) (de_fld (dv 0)) (fun _ _ => rfl)))
  (db_one (ds_ret (de_if (dt_cmp op_isN isN_A (dv 3) de_non (nomark _)) de_non (de_cmp (op_eqD (Room.units hr)) eqI_A (dv 3) (de_fld (dv 0)) (nomark _)))))), fun ds G Q h => ?_⟩)
  · obtain ⟨_, _, _, _, _, _, _, rfl, _⟩ := h
    rfl
  · obtain ⟨d, counts, fs, kvs, x, i, v, rfl, hd, h1, h2, h3, h4, q⟩ := h
    have f1 : fldD d G (Str.ofString "column") = some (.str x) := by unfold fldD; rw [hd]; exact h1
    have f2 : fldD d G (Str.ofString "number") = some (.int i) := by unfold fldD; rw [hd]; exact h2
    show (match fldD d G (Str.ofString "column") with | some y => _ | none => False)
    rw [f1]
    refine ⟨kvs, x, v, rfl, rfl, h3, ?_⟩
    cases v with
    | non => exact q
    | int a =>
      show (match fldD d G (Str.ofString "number") with | some y => _ | none => False)
      rw [f2]
      refine ⟨pl_int, pl_int, ?_⟩
      rw [eqvD_int]
      exact q
    | _ => cases h4
def missKnownX (C : Addr) : SpD := fun ds G Q _ => ∃ (d counts : D) (fs kvs : List (Str × D)) (x : Str) (v : D), ds = [d, txtF kvs, counts] ∧ insD d G = some (C, fs) ∧ fs.lookup ("column" : Str) = some (.str x) ∧ kvs.lookup x = some v ∧ isVal v = true ∧ Q (.bl (isNon v)) G
theorem dok_Missing_known (T : Top K mg w) : FnD P w K mg base 4 T.a_Missing_known T.d_Missing_known ["self", "values", "counts"] (missKnownX T.C_Missing) := by
  refine dfn (k := 3) T.F_Missing_known scMissing_known (fun ds G Q W h => ?_) (fun cdv A outer s H E B W hr tk => have hx := hx_of tk; ⟨_, (db_one (ds_ret (de_cmp op_isN isN_A (de_tgetF (Nat.lt_of_le_of_lt (Nat.add_le_add_left (by decide) _) (Room.units hr)) (dv 1) (de_fld (dv 0)) (fun _ _ => rfl)) de_non (nomark _)))), fun ds G Q h => ?_⟩)
  · obtain ⟨_, _, _, _, _, _, rfl, _⟩ := h
    rfl
  · obtain ⟨d, counts, fs, kvs, x, v, rfl, hd, h1, h3, h4, q⟩ := h
    have f1 : fldD d G (Str.ofString "column") = some (.str x) := by unfold fldD; rw [hd]; exact h1
    show (match fldD d G (Str.ofString "column") with | some y => _ | none => False)
    rw [f1]
    exact ⟨kvs, x, v, rfl, rfl, h3, q⟩
def fldX (f : Str) : SpD := fun ds G Q _ => ∃ (d : D) (C : Addr) (fs : List (Str × D)) (y : D), ds = [d] ∧ insD d G = some (C, fs) ∧ fs.lookup f = some y ∧ Q y G
theorem dok_Test_columns (T : Top K mg w) : FnD P w K mg base 4 T.a_Test_columns T.d_Test_columns ["self"] (fldX "_columns") := by
  refine dfn (k := 3) T.F_Test_columns scTest_columns (fun ds G Q W h => ?_) (fun cdv A outer s H E B W hr tk => have hx := hx_of tk; ⟨_, (db_one (ds_ret (de_fld (dv 0)))), fun ds G Q h => ?_⟩)
  · obtain ⟨_, _, _, _, rfl, _⟩ := h
    rfl
  · obtain ⟨d, C, fs, y, rfl, hd, h1, q⟩ := h
    have f1 : fldD d G (Str.ofString "_columns") = some y := by unfold fldD; rw [hd]; exact h1
    show (match fldD d G (Str.ofString "_columns") with | some y => _ | none => False)
    rw [f1]
    exact q
theorem dok_Test_names (T : Top K mg w) : FnD P w K mg base 4 T.a_Test_names T.d_Test_names ["self"] (fldX "_names") := by
  refine dfn (k := 3) T.F_Test_names scTest_names (fun ds G Q W h => ?_) (fun cdv A outer s H E B W hr tk => have hx := hx_of tk; ⟨_, (db_one (ds_ret (de_fld (dv 0)))), fun ds G Q h => ?_⟩)
  · obtain ⟨_, _, _, _, rfl, _⟩ := h
    rfl
  · obtain ⟨d, C, fs, y, rfl, hd, h1, q⟩ := h
    have f1 : fldD d G (Str.ofString "_names") = some y := by unfold fldD; rw [hd]; exact h1
    show (match fldD d G (Str.ofString "_names") with | some y => _ | none => False)
    rw [f1]
    exact q
theorem dok_Test_size (T : Top K mg w) : FnD P w K mg base 4 T.a_Test_size T.d_Test_size ["self"] (fldX "_size") := by
  refine dfn (k := 3) T.F_Test_size scTest_size (fun ds G Q W h => ?_) (fun cdv A outer s H E B W hr tk => have hx := hx_of tk; ⟨_, (db_one (ds_ret (de_fld (dv 0)))), fun ds G Q h => ?_⟩)
  · obtain ⟨_, _, _, _, rfl, _⟩ := h
    rfl
  · obtain ⟨d, C, fs, y, rfl, hd, h1, q⟩ := h
    have f1 : fldD d G (Str.ofString "_size") = some y := by unfold fldD; rw [hd]; exact h1
    show (match fldD d G (Str.ofString "_size") with | some y => _ | none => False)
    rw [f1]
    exact q
theorem dok_Test_conditions (T : Top K mg w) : FnD P w K mg base 4 T.a_Test_conditions T.d_Test_conditions ["self"] (fldX "_conditions") := by
  refine dfn (k := 3) T.F_Test_conditions scTest_conditions (fun ds G Q W h => ?_) (fun cdv A outer s H E B W hr tk => have hx := hx_of tk; ⟨_, (db_one (ds_ret (de_fld (dv 0)))), fun ds G Q h => ?_⟩)
  · obtain ⟨_, _, _, _, rfl, _⟩ := h
    rfl
  · obtain ⟨d, C, fs, y, rfl, hd, h1, q⟩ := h
    have f1 : fldD d G (Str.ofString "_conditions") = some y := by unfold fldD; rw [hd]; exact h1
    show (match fldD d G (Str.ofString "_conditions") with | some y => _ | none => False)
    rw [f1]
    exact q
end
section
variable {P : Program} {w : World} {K : PySem.W.Frag} {mg : Str → Option Value} {base : Heap}
def strTX : SpD := fun ds G Q _ => ∃ (d : D) (C : Addr) (fs : List (Str × D)) (x : Str), ds = [d] ∧ insD d G = some (C, fs) ∧ fs.lookup ("_text" : Str) = some (.str x) ∧ Q (.str x) G
theorem dok_Test___str__ (T : Top K mg w) : FnD P w K mg base 4 T.a_Test___str__ T.d_Test___str__ ["self"] strTX := by
  refine dfn (k := 3) T.F_Test___str__ scTest___str__ (fun ds G Q W h => ?_) (fun cdv A outer s H E B W hr tk => have hx := hx_of tk; ⟨_, (db_one (ds_ret (de_callTy SkE.call_str_str strS_A (by rfl) T.z_str (by decide +kernel) (da_cons (de_fld (dv 0)) da_nil)))), fun ds G Q h => ?_⟩)
  · obtain ⟨_, _, _, _, rfl, _⟩ := h
    rfl
  · obtain ⟨d, C, fs, x, rfl, hd, h1, q⟩ := h
    have f1 : fldD d G (Str.ofString "_text") = some (.str x) := by unfold fldD; rw [hd]; exact h1
    show (match fldD d G (Str.ofString "_text") with | some y => _ | none => False)
    rw [f1]
    exact q
def eqTX (Cs : List Addr) : SpD := fun ds G Q _ => ∃ (d e : D) (C : Addr) (fs : List (Str × D)) (x : Str), ds = [d, e] ∧ C ∈ Cs ∧ insD d G = some (C, fs) ∧ fs.lookup ("_text" : Str) = some (.str x) ∧
  ((∃ y, e = .str y ∧ Q (.bl false) G) ∨ ∃ (C2 : Addr) (fs2 : List (Str × D)) (y : Str), C2 ∈ Cs ∧ insD e G = some (C2, fs2) ∧ fs2.lookup ("_text" : Str) = some (.str y) ∧ Q (.bl (decide (x = y))) G)
theorem dok_Test___eq__ (T : Top K mg w) : FnD P w K mg base 4 T.a_Test___eq__ T.d_Test___eq__ ["self", "other"] (eqTX (fam_Test T)) := by
  refine dfn (k := 3) T.F_Test___eq__ scTest___eq__ (fun ds G Q W h => ?_) (fun cdv A outer s H E B W hr tk => have hx := hx_of tk; ⟨_, (db_one (ds_ret (de_and (de_isCK (K := K) (C := T.C_Test) rfl (by rfl) T.z_isinstance (by decide +kernel) (dv 1) (pe_glob rfl T.g_Test rfl)) (de_one (de_cmp op_eq eqSI_A (de_fld (dv 0)) (de_fld (dv 1)) (nomark _)))))), fun ds G Q h => ?_⟩)
  · obtain ⟨_, _, _, _, _, rfl, _⟩ := h
    rfl
  · obtain ⟨d, e, C, fs, x, rfl, hC, hd, h1, h2⟩ := h
    have f1 : fldD d G (Str.ofString "_text") = some (.str x) := by unfold fldD; rw [hd]; exact h1
    rcases h2 with ⟨y, rfl, q⟩ | ⟨C2, fs2, y, hC2, he, h3, q⟩
    · exact ⟨_, false, .ki (k := .str) rfl, T.kn_str_Test, q⟩
    · have f2 : fldD e G (Str.ofString "_text") = some (.str y) := by unfold fldD; rw [he]; exact h3
      refine ⟨_, true, .ins he, fam_ki_Test T C2 hC2, ?_⟩
      show (match fldD d G (Str.ofString "_text") with | some y => _ | none => False)
      rw [f1]
      show (match fldD e G (Str.ofString "_text") with | some y => _ | none => False)
      rw [f2]
      exact ⟨rfl, q⟩
end
section
variable {P : Program} {w : World} {K : PySem.W.Frag} {mg : Str → Option Value} {base : Heap}
theorem told_val {d : D} {G : Gm} (h : isVal d = true) : Told d G := by
  cases d with
  | non => exact told_ki (k := .non) rfl
  | int i => exact told_ki (k := .int) rfl
  | _ => cases h
theorem all_true {α : Type} {xs : List α} : (xs.map fun _ => true).all id = true := by simp
def areValuesX : SpD := fun ds G Q _ => ∃ kvs : List (Str × D), ds = [txtF kvs] ∧ kvs.length ≤ 100 ∧ (∀ p ∈ kvs, p.1 ∈ poolN ∧ kvs.lookup p.1 = some p.2 ∧ isVal p.2 = true) ∧ Q (.bl true) G
theorem dok_are_values (T : Top K mg w) : FnD P w K mg base 12 T.a_are_values T.d_are_values ["value"] areValuesX := by
  have G_is_name := (dok_is_name (P := P) (w := w) (base := base) T).mono (k := 9) (by decide)
  have G_is_value := (dok_is_value (P := P) (w := w) (base := base) T).mono (k := 9) (by decide)
  refine dfn (k := 11) T.F_are_values scare_values (fun ds G Q W h => ?_) (fun cdv A outer s H E B W hr tk => have hx := hx_of tk; ⟨_, (db_cons (ds_if (dt_not (dt_val (de_isK (j := .dct) (by rfl) T.z_isinstance (by decide +kernel) (dv 0) (pe_bltn (by rfl) T.z_dict (by decide +kernel) rfl))))
    (db_one (ds_ret de_bl))
    db_nil)
  (db_one (ds_ret (de_callB (cr_all rfl) all_A (by rfl) T.z_all (by decide +kernel) (da_cons (de_lcF (own := [("column", 1)]) (gV := gName 1) finA_l rfl scare_values.nd (di_keysT (dv 0)) (blkOk_by (own := [("column", 1)]) (N := Nare_values) (sc := defScope sare_values) (by decide +kernel)) (cg_name (i := 1) (by decide)) (fun _ _ _ _ _ => (pg_name (i := 1) scare_values.nd rfl (.inl rfl))) (fun _ _ _ _ _ _ => dts_nil) (fun _ _ _ _ _ _ => (de_and (de_call G_is_name (hr.mono (by decide)) (by rfl) T.g_is_name T.F_is_name.kp T.b_is_name hx0 (da_cons (dv 1) da_nil)) (de_one (de_call G_is_value (hr.mono (by decide)) (by rfl) T.g_is_value T.F_is_value.kp T.b_is_value hx0 (da_cons (de_tgetF (Nat.lt_of_le_of_lt (Nat.add_le_add_left (by decide) _) (Room.units hr)) (dv 0) (dv 1) (fun _ _ => rfl)) da_nil)))))) da_nil))))), fun ds G Q h => ?_⟩)
  · obtain ⟨_, rfl, _⟩ := h
    rfl
  · obtain ⟨kvs, rfl, hl, hk, q⟩ := h
    have hz := sizeLine_eq
    refine ⟨kvs, rfl, by rw [List.length_map]; omega, ?_⟩
    refine lc_f0 (fun p : Str × D => .str p.1) (fun _ => .bl true) kvs [] (fun p hp N hN => ?_) ?_
    · obtain ⟨h1, h2, h3⟩ := hk p hp
      refine ⟨_, rfl, .inl ⟨p.1, rfl, .inl h1⟩, ?_⟩
      show (match D.bl (nameB p.1) with | .bl true => _ | .bl false => _ | _ => False)
      rw [(pool_ok _ h1).2.2.2.2]
      refine ⟨kvs, p.1, p.2, rfl, rfl, h2, ?_⟩
      refine ⟨p.2, rfl, told_val h3, ?_⟩
      rw [h3]
      exact hN
    refine ⟨kvs.map fun _ => true, by rw [List.nil_append, List.map_map]; rfl, ?_⟩
    rw [all_true]
    exact q
def areCountsX : SpD := fun ds G Q _ => ∃ kvs : List (Str × D), ds = [txtF kvs] ∧ kvs.length ≤ 100 ∧ (∀ p ∈ kvs, p.1 ∈ poolN ∧ kvs.lookup p.1 = some p.2 ∧ ∃ i : Int, p.2 = .int i ∧ 0 ≤ i) ∧ Q (.bl true) G
theorem dok_are_counts (T : Top K mg w) : FnD P w K mg base 8 T.a_are_counts T.d_are_counts ["value"] areCountsX := by
  have G_is_name := (dok_is_name (P := P) (w := w) (base := base) T).mono (k := 5) (by decide)
  have G_is_integer := (dok_is_integer (P := P) (w := w) (base := base) T).mono (k := 5) (by decide)
  refine dfn (k := 7) T.F_are_counts scare_counts (fun ds G Q W h => ?_) (fun cdv A outer s H E B W hr tk => have hx := hx_of tk; ⟨_, (db_cons (ds_if (dt_not (dt_val (de_isK (j := .dct) (by rfl) T.z_isinstance (by decide +kernel) (dv 0) (pe_bltn (by rfl) T.z_dict (by decide +kernel) rfl))))
    (db_one (ds_ret de_bl))
    db_nil)
  (db_one (ds_ret (de_callB (cr_all rfl) all_A (by rfl) T.z_all (by decide +kernel) (da_cons (de_lcF (own := [("name", 1)]) (gV := gName 1) finA_l rfl scare_counts.nd (di_keysT (dv 0)) (blkOk_by (own := [("name", 1)]) (N := Nare_counts) (sc := defScope sare_counts) (by decide +kernel)) (cg_name (i := 1) (by decide)) (fun _ _ _ _ _ => (pg_name (i := 1) scare_counts.nd rfl (.inl rfl))) (fun _ _ _ _ _ _ => dts_nil) (fun _ _ _ _ _ _ => (de_and (de_call G_is_name (hr.mono (by decide)) (by rfl) T.g_is_name T.F_is_name.kp T.b_is_name hx0 (da_cons (dv 1) da_nil)) (de_and (de_call G_is_integer (hr.mono (by decide)) (by rfl) T.g_is_integer T.F_is_integer.kp T.b_is_integer hx0 (da_cons (de_tgetF (Nat.lt_of_le_of_lt (Nat.add_le_add_left (by decide) _) (Room.units hr)) (dv 0) (dv 1) (fun _ _ => rfl)) da_nil)) (de_one (de_cmp op_ge ge_A (de_tgetF (Nat.lt_of_le_of_lt (Nat.add_le_add_left (by decide) _) (Room.units hr)) (dv 0) (dv 1) (fun _ _ => rfl)) de_int (nomark _))))))) da_nil))))), fun ds G Q h => ?_⟩)
  · obtain ⟨_, rfl, _⟩ := h
    rfl
  · obtain ⟨kvs, rfl, hl, hk, q⟩ := h
    have hz := sizeLine_eq
    refine ⟨kvs, rfl, by rw [List.length_map]; omega, ?_⟩
    refine lc_f0 (fun p : Str × D => .str p.1) (fun _ => .bl true) kvs [] (fun p hp N hN => ?_) ?_
    · obtain ⟨h1, h2, i, h3, h4⟩ := hk p hp
      refine ⟨_, rfl, .inl ⟨p.1, rfl, .inl h1⟩, ?_⟩
      show (match D.bl (nameB p.1) with | .bl true => _ | .bl false => _ | _ => False)
      rw [(pool_ok _ h1).2.2.2.2]
      refine ⟨kvs, p.1, p.2, rfl, rfl, h2, ?_⟩
      rw [h3] at h2 ⊢
      refine ⟨.int i, rfl, told_ki (k := .int) rfl, ?_⟩
      refine ⟨kvs, p.1, .int i, rfl, rfl, h2, ?_⟩
      show N (.bl (decide (i ≥ 0))) G
      rw [decide_eq_true h4]
      exact hN
    refine ⟨kvs.map fun _ => true, by rw [List.nil_append, List.map_map]; rfl, ?_⟩
    rw [all_true]
    exact q
def Vals08 (kvs : List (Str × D)) : Prop := kvs.length ≤ 100 ∧ ∀ p ∈ kvs, p.1 ∈ poolN ∧ kvs.lookup p.1 = some p.2 ∧ isVal p.2 = true
def Cnts08 (kvs : List (Str × D)) : Prop := kvs.length ≤ 100 ∧ ∀ p ∈ kvs, p.1 ∈ poolN ∧ kvs.lookup p.1 = some p.2 ∧ ∃ i : Int, p.2 = .int i ∧ 0 ≤ i
def checkToldX (Cs : List Addr) : SpD := fun ds G Q _ => ∃ (d : D) (vs cs : List (Str × D)) (C : Addr) (fs : List (Str × D)) (x : Str), ds = [d, txtF vs, txtF cs] ∧ C ∈ Cs ∧ insD d G = some (C, fs) ∧ fs.lookup ("_columns" : Str) = some (.tup [.str x]) ∧ fs.lookup ("_names" : Str) = some (.tup []) ∧ Vals08 vs ∧ Cnts08 cs ∧ (vs.lookup x).isSome = true ∧ Q .non G
theorem dok_check_told (T : Top K mg w) : FnD P w K mg base 16 T.a_check_told T.d_check_told ["asked", "values", "counts"] (checkToldX (fam_Test T)) := by
  have G_are_values := (dok_are_values (P := P) (w := w) (base := base) T).mono (k := 13) (by decide)
  have G_are_counts := (dok_are_counts (P := P) (w := w) (base := base) T).mono (k := 13) (by decide)
  have G_Test_columns := (dok_Test_columns (P := P) (w := w) (base := base) T).mono (k := 13) (by decide)
  have G_Test_names := (dok_Test_names (P := P) (w := w) (base := base) T).mono (k := 13) (by decide)
  refine dfn (k := 15) T.F_check_told sccheck_told (fun ds G Q W h => ?_) (fun cdv A outer s H E B W hr tk => have hx := hx_of tk; ⟨_, (db_cons (ds_if (dt_not (dt_val (de_call G_are_values (hr.mono (by decide)) (by rfl) T.g_are_values T.F_are_values.kp T.b_are_values hx (da_cons (dv 1) da_nil))))
    db_never
    db_nil)
  (db_cons (ds_if (dt_not (dt_val (de_call G_are_counts (hr.mono (by decide)) (by rfl) T.g_are_counts T.F_are_counts.kp T.b_are_counts hx (da_cons (dv 2) da_nil))))
    db_never
    db_nil)
  (db_cons (ds_for (passes_of rfl) rfl (di_tup (de_any (Pr := fun C => C ∈ fam_Test T) fun C hC => de_prop (dv 0) (fam_cl_Test T C hC) (fam_pr_Test_columns T C hC) G_Test_columns (hr.mono (by decide)) T.b_Test_columns)) (dg_name (i := 3) sccheck_told.nd rfl (.inl rfl))
    (db_one (ds_if (dt_tnotinF (Nat.lt_of_le_of_lt (Nat.add_le_add_left (by decide) _) (Room.units hr)) (dv 3) (dv 1) (by rfl))
    db_never
    db_nil)))
  (db_one (ds_for (passes_of rfl) rfl (di_tup (de_any (Pr := fun C => C ∈ fam_Test T) fun C hC => de_prop (dv 0) (fam_cl_Test T C hC) (fam_pr_Test_names T C hC) G_Test_names (hr.mono (by decide)) T.b_Test_names)) (dg_name (i := 4) sccheck_told.nd rfl (.inl rfl))
    (db_one (ds_if (dt_tnotinF (Nat.lt_of_le_of_lt (Nat.add_le_add_left (by decide) _) (Room.units hr)) (dv 4) (dv 2) (by rfl))
    db_never
    db_nil))))))), fun ds G Q h => ?_⟩)
  · obtain ⟨_, _, _, _, _, _, rfl, _⟩ := h
    rfl
  · obtain ⟨d, vs, cs, C, fs, x, rfl, hC, hd, h1, h2, hv, hc, hx, q⟩ := h
    refine ⟨vs, rfl, hv.1, hv.2, ?_⟩
    refine ⟨cs, rfl, hc.1, hc.2, ?_⟩
    refine ⟨C, hC, ?_⟩
    show (match insD d G with | some (C', _) => _ | none => False)
    rw [hd]
    refine ⟨rfl, d, C, fs, _, rfl, hd, h1, ?_⟩
    refine ⟨vs, x, rfl, rfl, ?_⟩
    rw [hx]
    refine ⟨C, hC, ?_⟩
    show (match insD d G with | some (C', _) => _ | none => False)
    rw [hd]
    exact ⟨rfl, d, C, fs, _, rfl, hd, h2, q⟩
end
section
variable {P : Program} {w : World} {K : PySem.W.Frag} {mg : Str → Option Value} {base : Heap}
/-- what a condition of the class C answers of the value v -/
def KnownIs (CB CU CE CM C : Addr) (fs : List (Str × D)) (v r : D) : Prop :=
  (C = CB ∧ ∃ i : Int, fs.lookup ("number" : Str) = some (.int i) ∧ r = belowF v (.int i)) ∨ (C = CU ∧ ∃ i : Int, fs.lookup ("number" : Str) = some (.int i) ∧ r = uptoF v (.int i)) ∨
  (C = CE ∧ ∃ i : Int, fs.lookup ("number" : Str) = some (.int i) ∧ r = equalsF v (.int i)) ∨ (C = CM ∧ r = .bl (isNon v))
def truthX (Cs : List Addr) (CB CU CE CM : Addr) : SpD := fun ds G Q _ => ∃ (d c : D) (vs cs : List (Str × D)) (C : Addr) (fs : List (Str × D)) (x : Str) (v r : D), ds = [d, txtF vs, c] ∧ ((c = .non ∧ cs = []) ∨ c = txtF cs) ∧ C ∈ Cs ∧ insD d G = some (C, fs) ∧ fs.lookup ("known" : Str) = none ∧
  fs.lookup ("_columns" : Str) = some (.tup [.str x]) ∧ fs.lookup ("_names" : Str) = some (.tup []) ∧ fs.lookup ("column" : Str) = some (.str x) ∧ Vals08 vs ∧ Cnts08 cs ∧ vs.lookup x = some v ∧ isVal v = true ∧ KnownIs CB CU CE CM C fs v r ∧ Q r G
theorem dok_Test_truth (T : Top K mg w) : FnD P w K mg base 20 T.a_Test_truth T.d_Test_truth ["self", "values", "counts"] (truthX (fam_Test T) T.C_Below T.C_UpTo T.C_Equals T.C_Missing) := by
  have G_check_told := (dok_check_told (P := P) (w := w) (base := base) T).mono (k := 17) (by decide)
  have G_Below_known := (dok_Below_known (P := P) (w := w) (base := base) T).mono (k := 17) (by decide)
  have G_UpTo_known := (dok_UpTo_known (P := P) (w := w) (base := base) T).mono (k := 17) (by decide)
  have G_Equals_known := (dok_Equals_known (P := P) (w := w) (base := base) T).mono (k := 17) (by decide)
  have G_Missing_known := (dok_Missing_known (P := P) (w := w) (base := base) T).mono (k := 17) (by decide)
  refine dfnD (k := 19) T.F_Test_truth scTest_truth (fun ds G Q W h => ?_) (fun cdv A outer s H E B W hr tk => have hx := hx_of tk; ⟨_, (db_cons (ds_expr (de_call G_check_told (hr.mono (by decide)) (by rfl) T.g_check_told T.F_check_told.kp T.b_check_told hx (da_cons (dv 0) (da_cons (dv 1) (da_cons (de_if (dt_cmp op_isN isN_A (dv 2) de_non (nomark _)) de_dict0F (dv 2)) da_nil)))))
  (db_one (ds_ret (de_orE (de_meth (dv 0) T.cl_Below T.me_Below_known G_Below_known (hr.mono (by decide)) T.b_Below_known hx (da_cons (dv 1) (da_cons (de_if (dt_cmp op_isN isN_A (dv 2) de_non (nomark _)) de_dict0F (dv 2)) da_nil))) (de_orE (de_meth (dv 0) T.cl_UpTo T.me_UpTo_known G_UpTo_known (hr.mono (by decide)) T.b_UpTo_known hx (da_cons (dv 1) (da_cons (de_if (dt_cmp op_isN isN_A (dv 2) de_non (nomark _)) de_dict0F (dv 2)) da_nil))) (de_orE (de_meth (dv 0) T.cl_Equals T.me_Equals_known G_Equals_known (hr.mono (by decide)) T.b_Equals_known hx (da_cons (dv 1) (da_cons (de_if (dt_cmp op_isN isN_A (dv 2) de_non (nomark _)) de_dict0F (dv 2)) da_nil))) (de_meth (dv 0) T.cl_Missing T.me_Missing_known G_Missing_known (hr.mono (by decide)) T.b_Missing_known hx (da_cons (dv 1) (da_cons (de_if (dt_cmp op_isN isN_A (dv 2) de_non (nomark _)) de_dict0F (dv 2)) da_nil))))))))), fun ds G Q h => ?_⟩)
  · obtain ⟨_, _, _, _, _, _, _, _, _, rfl, _⟩ := h
    rfl
  · obtain ⟨d, c, vs, cs, C, fs, x, v, r, rfl, hcc, hC, hd, hkn, h1, h2, h3, hv, hc, hvx, hvv, hk, q⟩ := h
    rcases hcc with ⟨rfl, rfl⟩ | rfl
    all_goals
      refine ⟨d, vs, _, C, fs, x, rfl, hC, hd, h1, h2, hv, hc, by rw [hvx]; rfl, ?_⟩
      rcases hk with ⟨rfl, i, hi, rfl⟩ | ⟨rfl, i, hi, rfl⟩ | ⟨rfl, i, hi, rfl⟩ | ⟨rfl, rfl⟩
      · refine .inl ?_
        show (match insD d G with | some (C', fs) => _ | none => False)
        rw [hd]
        exact ⟨rfl, hkn, d, _, fs, vs, x, i, v, rfl, hd, h3, hi, hvx, hvv, q⟩
      · refine .inr (.inl ?_)
        show (match insD d G with | some (C', fs) => _ | none => False)
        rw [hd]
        exact ⟨rfl, hkn, d, _, fs, vs, x, i, v, rfl, hd, h3, hi, hvx, hvv, q⟩
      · refine .inr (.inr (.inl ?_))
        show (match insD d G with | some (C', fs) => _ | none => False)
        rw [hd]
        exact ⟨rfl, hkn, d, _, fs, vs, x, i, v, rfl, hd, h3, hi, hvx, hvv, q⟩
      · refine .inr (.inr (.inr ?_))
        show (match insD d G with | some (C', fs) => _ | none => False)
        rw [hd]
        exact ⟨rfl, hkn, d, _, fs, vs, x, v, rfl, hd, h3, hvx, hvv, q⟩
end
section
variable {P : Program} {w : World} {K : PySem.W.Frag} {mg : Str → Option Value} {base : Heap}
def isTr : D → Bool
  | .bl b => b
  | _ => false
theorem known_bl {CB CU CE CM C : Addr} {fs : List (Str × D)} {v r : D} (h : KnownIs CB CU CE CM C fs v r) : r = .non ∨ ∃ b, r = .bl b := by
  rcases h with ⟨_, i, _, rfl⟩ | ⟨_, i, _, rfl⟩ | ⟨_, i, _, rfl⟩ | ⟨_, rfl⟩
  · cases v <;> first | exact .inl rfl | exact .inr ⟨_, rfl⟩
  · cases v <;> first | exact .inl rfl | exact .inr ⟨_, rfl⟩
  · cases v <;> first | exact .inl rfl | exact .inr ⟨_, rfl⟩
  · exact .inr ⟨_, rfl⟩
def callX (Cs : List Addr) (CB CU CE CM : Addr) : SpD := fun ds G Q W => (∀ d C fs, ds.head? = some d → insD d G = some (C, fs) → fs.lookup ("truth" : Str) = none) ∧ truthX Cs CB CU CE CM ds G (fun r G' => Q (.bl (isTr r)) G') W
theorem dok_Test___call__ (T : Top K mg w) : FnD P w K mg base 24 T.a_Test___call__ T.d_Test___call__ ["self", "values", "counts"] (callX (fam_Test T) T.C_Below T.C_UpTo T.C_Equals T.C_Missing) := by
  have G_Test_truth := (dok_Test_truth (P := P) (w := w) (base := base) T).mono (k := 21) (by decide)
  refine dfnD (k := 23) T.F_Test___call__ scTest___call__ (fun ds G Q W h => ?_) (fun cdv A outer s H E B W hr tk => have hx := hx_of tk; ⟨_, (db_one (ds_ret (de_cmp op_isF isF_A (de_any (Pr := fun C => C ∈ fam_Test T) fun C hC => de_meth (dv 0) (fam_cl_Test T C hC) (fam_me_Test_truth T C hC) G_Test_truth (hr.mono (by decide)) T.b_Test_truth hx (da_cons (dv 1) (da_cons (dv 2) da_nil))) de_bl (nomark _)))), fun ds G Q h => ?_⟩)
  · obtain ⟨_, _, _, _, _, _, _, _, _, _, rfl, _⟩ := h
    rfl
  · obtain ⟨htr, d, c, vs, cs, C, fs, x, v, r, rfl, hcc, hC, hd, hkn, h1, h2, h3, hv, hc, hvx, hvv, hk, q⟩ := h
    have ht := htr d C fs rfl hd
    refine ⟨C, hC, ?_⟩
    show (match insD d G with | some (C', fs) => _ | none => False)
    rw [hd]
    refine ⟨rfl, ht, d, c, vs, cs, C, fs, x, v, r, rfl, hcc, hC, hd, hkn, h1, h2, h3, hv, hc, hvx, hvv, hk, ?_⟩
    rcases known_bl hk with rfl | ⟨b, rfl⟩
    · exact q
    · cases b <;> exact q
end
section
variable {P : Program} {w : World} {K : PySem.W.Frag} {mg : Str → Option Value} {base : Heap}
theorem ok_draw (T : Top K mg w) : FnOk P w K mg base CX0 (0 + 1) T.a__law_draw T.d__law_draw ["_law_pen_here", "_law_many"] spDraw := by
  refine T.F__law_draw.ok sc_law_draw (fun vs H Q E h => ?_) (fun cdv A outer s H vs Q E hr h => ?_)
  · obtain ⟨p, c, many, m, rfl, _⟩ := h
    rfl
  · obtain ⟨p, c, many, m, rfl, ⟨ns, n, g, hp, hc, ncp, hl, n0, nm, g0⟩, h1, h2, hm, q⟩ := h
    refine ⟨_, (pss_cons (ps_if (pt_cmpR op_gt (pe_ix (ixL (K := K) rfl) (pv 0) pe_int (fun _ _ => rfl)) pe_int (nomark _))
    (pss_cons (ps_set (i := 2) sc_law_draw.nd rfl (.inl rfl) (pe_op op_modN (pe_callTy call_int1 (by rfl) T.z_int (by decide +kernel) (pa_cons (pe_ix (ixL (K := K) rfl) (pv 0) pe_int (fun _ _ => rfl)) pa_nil)) (pv 1)))
  (pss_cons (ps_asg (pe_op op_fdivW (pe_callTy call_int1 (by rfl) T.z_int (by decide +kernel) (pa_cons (pe_ix (ixL (K := K) rfl) (pv 0) pe_int (fun _ _ => rfl)) pa_nil)) (pv 1)) (pg_sub (pv 0) pe_int set_list))
  (pss_one (ps_ret (pv 2)))))
    pss_nil)
  (pss_cons (ps_set (i := 3) sc_law_draw.nd rfl (.inl rfl) (pe_ix (ixL (K := K) rfl) (pv 0) pe_int (fun _ _ => rfl)))
  (pss_cons (ps_asg (pe_op op_add (pv 3) pe_int) (pg_sub (pv 0) pe_int set_list))
  (pss_cons (ps_set (i := 4) sc_law_draw.nd rfl (.inl rfl) (pe_op op_add (pe_op op_mul pe_int (pv 3)) pe_int))
  (pss_cons (ps_if (pt_cmpR (op_neD (Room.units hr)) (pe_ix (ixL (K := K) rfl) (pv 0) pe_int (fun _ _ => rfl)) (pe_lst pa_nil) (nomark _))
    (pss_one (ps_set (i := 4) sc_law_draw.nd rfl (.inl rfl) (pe_ix (ixL (K := K) rfl) (pe_ix (ixL (K := K) rfl) (pv 0) pe_int (fun _ _ => rfl)) (pe_op op_modN (pe_callTy call_int1 (by rfl) T.z_int (by decide +kernel) (pa_cons (pv 3) pa_nil)) (pe_callB call_len_seq (by rfl) T.z_len (by decide +kernel) (pa_cons (pe_ix (ixL (K := K) rfl) (pv 0) pe_int (fun _ _ => rfl)) pa_nil))) (fun _ _ => rfl))))
    pss_nil)
  (pss_cons (ps_if (PW.pt (pw_and (pt_cmpR op_lt (pv 3) (pe_callB call_len_seq (by rfl) T.z_len (by decide +kernel) (pa_cons (pe_ix (ixL (K := K) rfl) (pv 0) pe_int (fun _ _ => rfl)) pa_nil)) (nomark _)) (pw_and1 (pt_cmpR op_ge (pe_callB call_abs (by rfl) T.z_abs (by decide +kernel) (pa_cons (pv 4) pa_nil)) (pe_op op_pow pe_int pe_int) (nomark _)))))
    (pss_cons (ps_set (i := 5) sc_law_draw.nd rfl (.inl rfl) (pe_op op_add (pe_op op_mul pe_int (pe_op op_sub (pe_callB call_abs (by rfl) T.z_abs (by decide +kernel) (pa_cons (pv 4) pa_nil)) (pe_op op_pow pe_int pe_int))) (pe_callTy call_int1 (by rfl) T.z_int (by decide +kernel) (pa_cons (pe_cmpR op_lt (pv 4) pe_int (nomark _)) pa_nil))))
  (pss_cons (ps_asg (pe_op op_fdivW (pe_callTy call_int1 (by rfl) T.z_int (by decide +kernel) (pa_cons (pv 5) pa_nil)) (pv 1)) (pg_sub (pv 0) pe_int set_list))
  (pss_one (ps_ret (pe_op op_modN (pe_callTy call_int1 (by rfl) T.z_int (by decide +kernel) (pa_cons (pv 5) pa_nil)) (pv 1))))))
    pss_nil)
  (pss_cons (ps_set (i := 6) sc_law_draw.nd rfl (.inl rfl) (pe_op op_modN (pe_callTy call_int1 (by rfl) T.z_int (by decide +kernel) (pa_cons (pe_op op_pow (pe_op op_add (pe_op op_add (pe_op op_modN (pe_callTy call_int1 (by rfl) T.z_int (by decide +kernel) (pa_cons (pv 4) pa_nil)) pe_int) (pe_op op_mul pe_int (pv 3))) pe_int) pe_int) pa_nil)) pe_int))
  (pss_cons (ps_set (i := 6) sc_law_draw.nd rfl (.inl rfl) (pe_op op_modN (pe_callTy call_int1 (by rfl) T.z_int (by decide +kernel) (pa_cons (pe_op op_pow (pe_op op_add (pe_op op_add (pe_op op_mul (pv 6) (pe_op op_add (pe_op op_mul pe_int (pv 3)) pe_int)) (pe_op op_mul (pe_op op_mul pe_int (pv 3)) (pv 3))) pe_int) pe_int) pa_nil)) pe_int))
  (pss_one (ps_ret (pe_op op_modN (pe_callTy call_int1 (by rfl) T.z_int (by decide +kernel) (pa_cons (pe_op op_fdivW (pv 6) pe_int) pa_nil)) (pv 1)))))))))))), ?_⟩
    -- if pen[2] > 0
    refine ⟨.ref p, rfl, p, _, 2, .int g, rfl, rfl, .of hp, atI_nat (j := 2) rfl, _, _, rfl, rfl, _, rfl, ite2 (fun e => ?_) (fun e => ?_)⟩
    · have hg : (0 : Int) < g := of_decide_eq_true e
      -- digit = int(pen[2]) % many
      refine ⟨.ref p, rfl, p, _, 2, .int g, rfl, rfl, .of hp, atI_nat (j := 2) rfl, .inl ⟨g, rfl, .int many, rfl, g, many, rfl, rfl, by omega, ?_⟩⟩
      -- pen[2] = int(pen[2]) // many
      refine ⟨.ref p, rfl, p, _, 2, .int g, rfl, rfl, .of hp, atI_nat (j := 2) rfl, .inl ⟨g, rfl, .int many, rfl, g, many, rfl, rfl, wide_div (b := 60) (by omega) (by omega) (by omega) (by omega), .ref p, rfl, p, _, 2, 2, rfl, rfl, hp, rfl, ?_⟩⟩
      refine ⟨_, rfl, q _ _ (fmod_lo _ h1) (fmod_lt _ h1) (pen_set hp hc ncp hl n0 (by omega) (Int.ediv_nonneg g0 (by omega))) (but_upd _ _)⟩
    · -- at = pen[1]; pen[1] = at + 1
      refine ⟨.ref p, rfl, p, _, 1, .int n, rfl, rfl, .of hp, atI_nat (j := 1) rfl, ?_⟩
      refine ⟨.int n, rfl, n, 1, rfl, rfl, .ref p, rfl, p, _, 1, 1, rfl, rfl, hp, rfl, ?_⟩
      generalize hH1 : upd H p (.lst ([V.ref c, .int n, .int g].set 1 (.int (n + 1)))) = H1
      have hp1 : H1 p = some (.lst [.ref c, .int (n + 1), .int g]) := by
        rw [← hH1, upd_same]
        rfl
      have hc1 : H1 c = some (.lst (ns.map V.int)) := by
        rw [← hH1, upd_ne ncp]
        exact hc
      have hb1 : But p H H1 := by
        rw [← hH1]
        exact but_upd _ _
      -- cell = C * at + D
      refine ⟨.int n, rfl, _, n, rfl, rfl, .inl (by decide), _, _, rfl, rfl, ?_⟩
      -- if pen[0] != []
      refine ⟨.ref p, rfl, p, _, 0, .ref c, rfl, rfl, .of hp1, atI_nat (j := 0) rfl, Nat.zero_le _, fun o no => ?_⟩
      have hpo : p ≠ o := ne_of_none hp1 no
      have hco : c ≠ o := ne_of_none hc1 no
      refine ⟨.list (ns.map .int), .list [], .lst (.of ((upd_ne hco).trans hc1)) (dp_ints ns), .lst (.of upd_same) .nil, PySem.W.ke_shaped_ints ns, PySem.W.ke_shaped_ints [], _, rfl, ?_⟩
      generalize hH2 : upd H1 o (.lst []) = H2
      have hp2 : H2 p = some (.lst [.ref c, .int (n + 1), .int g]) := by
        rw [← hH2, upd_ne hpo]
        exact hp1
      have hc2 : H2 c = some (.lst (ns.map V.int)) := by
        rw [← hH2, upd_ne hco]
        exact hc1
      have hb2 : But p H H2 := by
        rw [← hH2]
        exact hb1.trans (but_new no)
      -- cell = pen[0][int(at) % len(pen[0])]
      refine ite2 (fun e2 => ?thn) (fun e2 => ?els)
      case' els =>
        dsimp only
        generalize ((_ : Int) * n + _ : Int) = cell
      case' thn =>
        have hn : ns ≠ [] := fun z => by
          subst z
          cases e2
        have hln : 0 < ns.length := List.length_pos_iff.mpr hn
        have hz : ((ns.map V.int).length : Int) = ns.length := by rw [List.length_map]
        have hj0 : 0 ≤ n.fmod (ns.map V.int).length := fmod_lo _ (by omega)
        have hj1 : n.fmod (ns.map V.int).length < ns.length := hz ▸ fmod_lt _ (by omega)
        have hat : atI (ns.map V.int) (n.fmod (ns.map V.int).length) = some (.int (ns.getD (n.fmod (ns.map V.int).length).toNat 0)) := by
          have := atI_nat (xs := ns.map V.int) (j := (n.fmod (ns.map V.int).length).toNat) (v := .int (ns.getD (n.fmod (ns.map V.int).length).toNat 0)) (by
            rw [List.getElem?_map, List.getD_eq_getElem?_getD, List.getElem?_eq_getElem (by omega)]
            rfl)
          rw [Int.toNat_of_nonneg hj0] at this
          exact this
        refine ⟨.ref p, rfl, p, _, 0, .ref c, rfl, rfl, .of hp2, atI_nat (j := 0) rfl, .int n, rfl, .inl ⟨n, rfl, .ref p, rfl, p, _, 0, .ref c, rfl, rfl, .of hp2, atI_nat (j := 0) rfl, c, _, rfl, .inl (.of hc2), n, _, rfl, rfl, by omega, c, _, _, _, rfl, rfl, .of hc2, hat, ?_⟩⟩
        clear hat hj1 hj0
        generalize ns.getD (n.fmod (ns.map V.int).length).toNat 0 = cell
      all_goals
        -- if at < len(pen[0]) and abs(cell) >= 10 ** 18
        refine ⟨.int n, rfl, .ref p, rfl, p, _, 0, .ref c, rfl, rfl, .of hp2, atI_nat (j := 0) rfl, c, _, rfl, .inl (.of hc2), n, _, rfl, rfl, _, rfl, ite2 (fun e3 => ?_) (fun e3 => ?_)⟩
        · refine ⟨.int cell, rfl, cell, rfl, 10, 18, rfl, rfl, ⟨by decide, by decide, by decide⟩, _, _, rfl, rfl, _, rfl, ite2 (fun e4 => ?_) (fun e4 => ?_)⟩
          · -- great = 2 * (abs(cell) - 10 ** 18) + int(cell < 0)
            have hbig : (10 : Int) ^ 18 ≤ if cell < 0 then -cell else cell := of_decide_eq_true e4
            refine ⟨.int cell, rfl, cell, rfl, 10, 18, rfl, rfl, ⟨by decide, by decide, by decide⟩, _, _, rfl, rfl, 2, _, rfl, rfl, .inl (by decide), .int cell, rfl, _, _, rfl, rfl, .inr ⟨_, rfl, _, _, rfl, rfl, ?_⟩⟩
            have hgr : ∀ k : Bool, 0 ≤ 2 * ((if cell < 0 then -cell else cell) - (10 : Int) ^ (18 : Int).toNat) + (if k = true then 1 else 0) := fun k => by
              have : (10 : Int) ^ (18 : Int).toNat = (10 : Int) ^ 18 := rfl
              rw [this]
              cases k <;> simp <;> omega
            refine ⟨_, rfl, .inl ⟨_, rfl, .int many, rfl, _, many, rfl, rfl, wide_div (b := 60) (by omega) (by omega) (by omega) (by omega), .ref p, rfl, p, _, 2, 2, rfl, rfl, hp2, rfl, ?_⟩⟩
            refine ⟨_, rfl, .inl ⟨_, rfl, .int many, rfl, _, many, rfl, rfl, by omega, ?_⟩⟩
            exact q _ _ (fmod_lo _ h1) (fmod_lt _ h1) (pen_set hp2 hc2 ncp hl (by omega) (by omega) (Int.ediv_nonneg (hgr _) (by omega))) (hb2.trans (but_upd _ _))
          · skip
            refine ⟨.int cell, rfl, .inl ⟨cell, rfl, cell, _, rfl, rfl, (by show (_ : Int) ≠ 0; decide), .int n, rfl, _, n, rfl, rfl, .inl (by decide), _, _, rfl, rfl, _, _, rfl, rfl, _, _, rfl, rfl, ⟨by decide, by decide, mix_bound (by decide) (by decide) (by decide) (by decide) (by decide) (by decide) n0 nm hm⟩, (.inl ⟨_, rfl, _, _, rfl, rfl, (by show (_ : Int) ≠ 0; decide), ?_⟩)⟩⟩
            refine ⟨_, rfl, .int n, rfl, 2, n, rfl, rfl, .inl (by decide), _, _, rfl, rfl, _, _, rfl, rfl, .inl (fmod_64 (by decide) (by decide)), .int n, rfl, _, n, rfl, rfl, .inl (by decide), .int n, rfl, _, n, rfl, rfl, .inr ⟨by omega, by omega⟩, _, _, rfl, rfl, _, _, rfl, rfl, _, _, rfl, rfl, ⟨by decide, by decide, mix_bound2 (by decide) (by decide) (by decide) (by decide) (by decide) (by decide) (fmod_lo _ (by decide)) (fmod_32 (by decide) (by decide)) n0 nm hm⟩, (.inl ⟨_, rfl, _, _, rfl, rfl, (by show (_ : Int) ≠ 0; decide), ?_⟩)⟩
            refine ⟨_, rfl, _, 32, rfl, rfl, ⟨by decide, by decide⟩, .inl ⟨_, rfl, .int many, rfl, _, many, rfl, rfl, by omega, ?_⟩⟩
            exact q _ _ (fmod_lo _ h1) (fmod_lt _ h1) ⟨ns, n + 1, g, hp2, hc2, ncp, hl, by omega, by omega, g0⟩ hb2
        · skip
          refine ⟨.int cell, rfl, .inl ⟨cell, rfl, cell, _, rfl, rfl, (by show (_ : Int) ≠ 0; decide), .int n, rfl, _, n, rfl, rfl, .inl (by decide), _, _, rfl, rfl, _, _, rfl, rfl, _, _, rfl, rfl, ⟨by decide, by decide, mix_bound (by decide) (by decide) (by decide) (by decide) (by decide) (by decide) n0 nm hm⟩, (.inl ⟨_, rfl, _, _, rfl, rfl, (by show (_ : Int) ≠ 0; decide), ?_⟩)⟩⟩
          refine ⟨_, rfl, .int n, rfl, 2, n, rfl, rfl, .inl (by decide), _, _, rfl, rfl, _, _, rfl, rfl, .inl (fmod_64 (by decide) (by decide)), .int n, rfl, _, n, rfl, rfl, .inl (by decide), .int n, rfl, _, n, rfl, rfl, .inr ⟨by omega, by omega⟩, _, _, rfl, rfl, _, _, rfl, rfl, _, _, rfl, rfl, ⟨by decide, by decide, mix_bound2 (by decide) (by decide) (by decide) (by decide) (by decide) (by decide) (fmod_lo _ (by decide)) (fmod_32 (by decide) (by decide)) n0 nm hm⟩, (.inl ⟨_, rfl, _, _, rfl, rfl, (by show (_ : Int) ≠ 0; decide), ?_⟩)⟩
          refine ⟨_, rfl, _, 32, rfl, rfl, ⟨by decide, by decide⟩, .inl ⟨_, rfl, .int many, rfl, _, many, rfl, rfl, by omega, ?_⟩⟩
          exact q _ _ (fmod_lo _ h1) (fmod_lt _ h1) ⟨ns, n + 1, g, hp2, hc2, ncp, hl, by omega, by omega, g0⟩ hb2
theorem ok_pen (T : Top K mg w) : FnOk P w K mg base CX0 (0 + 1) T.a__law_pen T.d__law_pen ["_law_script"] (spPen K) := by
  refine T.F__law_pen.ok sc_law_pen (fun vs H Q E h => ?_) (fun cdv A outer s H vs Q E hr h => ?_)
  · obtain ⟨a, ns, rfl, _⟩ := h
    rfl
  · obtain ⟨a, ns, rfl, hS, hl, q⟩ := h
    refine ⟨_, (pss_one (ps_ret (pe_lst (pa_cons (pe_callTy call_list_of (by rfl) T.z_list (by decide +kernel) (pa_cons (pe_slice sl_list (pv 0) po_none (po_some pe_int)) pa_nil)) (pa_cons pe_int (pa_cons pe_int pa_nil)))))), ?_⟩
    refine ⟨.ref a, rfl, 63, rfl, a, _, rfl, hS, fun c nc => ?_⟩
    refine ⟨c, _, rfl, .inl (.of upd_same), fun l nl => ?_⟩
    refine ⟨(by show 3 ≤ sizeLine; decide), fun p np => ?_⟩
    have e : cutV (ns.map V.int) none (some 63) = ns.map V.int := cut_all _ (by
      rw [List.length_map]
      exact hl)
    refine q p l _ (((same_new nc).trans (same_new nl)).trans (same_new np)) (((same_new nc).trans (same_new nl)).free np) ((same_new nc).free nl) ⟨ns, 0, 0, upd_same, ?_, ne_of_none upd_same np, hl, by omega, by omega, by omega⟩
    rw [upd_ne (ne_of_none upd_same np), upd_same, e]
theorem dok__law_draw (T : Top K mg w) : FnD P w K mg base 1 T.a__law_draw T.d__law_draw ["_law_pen_here", "_law_many"] drawD := draw_of (ok_draw T)
theorem dok__law_pen (T : Top K mg w) : FnD P w K mg base 1 T.a__law_pen T.d__law_pen ["_law_script"] penD := pen_of (ok_pen T)
end
section
variable {P : Program} {w : World} {K : PySem.W.Frag} {mg : Str → Option Value} {base : Heap}
def pickD : SpD := fun ds G Q _ => ∃ (p : Addr) (xs : List D) (m : Nat), ds = [.adr p, .lst xs] ∧ G p = some (.pen m) ∧ xs ≠ [] ∧ xs.length ≤ 1000 ∧ m ≤ 2 ^ 20 ∧ ∀ x ∈ xs, Q x (updG G p (.pen (m + 1)))
theorem dok__law_pick (T : Top K mg w) : FnD P w K mg base 5 T.a__law_pick T.d__law_pick ["_law_pen_here", "_law_some"] pickD := by
  have G__law_draw := (dok__law_draw (P := P) (w := w) (base := base) T).mono (k := 2) (by decide)
  refine dfn (k := 4) T.F__law_pick sc_law_pick (fun ds G Q W h => ?_) (fun cdv A outer s H E B W hr tk => have hx := hx_of tk; ⟨_, (db_one (ds_ret (de_ix ix_seq ix_A (dv 1) (de_call G__law_draw (hr.mono (by decide)) (by rfl) T.g__law_draw T.F__law_draw.kp T.b__law_draw hx (da_cons (dv 0) (da_cons (de_callB call_len2 len_A (by rfl) T.z_len (by decide +kernel) (da_cons (dv 1) da_nil)) da_nil))) (fun _ _ => rfl)))), fun ds G Q h => ?_⟩)
  · obtain ⟨p, xs, m, rfl, _⟩ := h
    rfl
  · obtain ⟨p, xs, m, rfl, hG, hne, hl, hm, q⟩ := h
    have pos := List.length_pos_iff.mpr hne
    refine ⟨p, xs.length, m, rfl, hG, by omega, by omega, hm, fun r r0 r1 => ?_⟩
    obtain ⟨k, rfl⟩ := Int.eq_ofNat_of_zero_le r0
    have hk : k < xs.length := by omega
    have e : atI xs (k : Int) = some xs[k] := atI_nat (List.getElem?_eq_getElem hk)
    show (match atI xs (k : Int) with | some d => _ | none => _)
    rw [e]
    exact q _ (List.getElem_mem hk)
/-- what is shown as p -/
def RpX (d : D) (p : PyData) : Prop := ShD d p ∧ p.showable = true ∧ p.depth ≤ 60 ∧ p.shown.length ≤ 1000
theorem RpX.at_ {d : D} {p : PyData} {G : Gm} {Q : QD} (h : RpX d p) (q : Q (.str p.shown) G) : ReprX [d] G Q := ⟨d, p, rfl, .inl h.1, h.2.1, h.2.2.1, small1000 h.2.2.2, q⟩
/-- what is heard -/
def heardD (CN CB : Addr) : HearD := fun call G Qd => call (fun C' fs G' => ∃ (x : D) (p : PyData), fs = ([("value", x)] : List (Str × D)) ∧ RpX x p ∧ ((C' = CN ∧ Qd (.tup [.str "name", .str p.shown]) G') ∨ (C' = CB ∧ Qd (.tup [.str "number", .str p.shown]) G'))) G (fun d G' => Qd (.lst [d]) G')
theorem mono__law_heard {CN CB : Addr} : MonoH (heardD CN CB) := fun _ _ _ _ hm hh => hm _ _ _ hh
theorem hear__law_heard {X : Cx} {B : Bs} (T : Top K mg w) (hK : X.K = K) (hM : X.mg = mg) (hg : X.A.guards = some []) (hr0 : Room 1 X.A) {cdg : Value} {q : Str} : LamX.GivesTo X N_law_heard "_law_heard" (defScope s_law_heard) T.a__law_heard cdg (defBody s_law_heard) "_law_ask" q (TTH X.K B (heardD T.C_BadName T.C_BadNumber)) := by
  subst hK hM
  refine gives_of fun f s H B' hc mono act => ⟨_, (db_cons (ds_set (i := 1) sc_law_heard.nd rfl (.inl rfl) de_non)
  (db_cons (ds_tryH (X := (hearCx X N_law_heard "_law_heard" (defScope s_law_heard) T.a__law_heard cdg s H).nox) (C := T.C_CountError) (i := 2) (j := 1) rfl rfl rfl sc_law_heard.nd rfl rfl (by decide) rfl ⟨rfl, by decide, .inl T.g_CountError⟩ (fun a oe cls d pn => pss_one (ps_set (i := 1) sc_law_heard.nd rfl (.inl rfl) (pv 2))) (fun B2 W pn xe sB eT eZ tk => db_one (ds_ret (de_lst (da_cons (act B2 W pn xe _ _ sB eT eZ tk) da_nil)))))
  (db_cons (ds_if (dt_val (de_isXK (K := X.K) (C := T.C_BadName) rfl (by rfl) T.z_isinstance (by decide +kernel) (dv 1) (pe_glob rfl T.g_BadName rfl)))
    (db_one (ds_ret (de_tup (da_cons de_str (da_cons (de_callB (call_reprX hg (Room.units (Room.deeper hr0 _))) reprX_A (by rfl) T.z_repr (by decide +kernel) (da_cons (de_xaK (K := X.K) rfl (dv 1)) da_nil)) da_nil)))))
    db_nil)
  (db_cons (ds_ret (de_if (dt_val (de_isXK (K := X.K) (C := T.C_BadNumber) rfl (by rfl) T.z_isinstance (by decide +kernel) (dv 1) (pe_glob rfl T.g_BadNumber rfl))) (de_tup (da_cons de_str (da_cons (de_callB (call_reprX hg (Room.units (Room.deeper hr0 _))) reprX_A (by rfl) T.z_repr (by decide +kernel) (da_cons (de_xaK (K := X.K) rfl (dv 1)) da_nil)) da_nil))) (de_tup (da_cons de_str da_nil))))
  db_never)))), fun G Qd h => ?_⟩
  refine ⟨rfl, mono _ _ _ _ _ (fun C fs G1 hw => ?_) (fun d G1 hd => ?_) h⟩
  · have z2 : 2 ≤ sizeLine := by rw [sizeLine_eq]; decide
    obtain ⟨x, p, rfl, hs, ⟨rfl, q⟩ | ⟨rfl, q⟩⟩ := hw
    · exact ⟨by simp, T.ex_BadName, T.em_BadName_CountError, true, T.ki_BadName, T.xf_BadName, T.no_BadName_value, hs.at_ ⟨z2, q⟩⟩
    · exact ⟨by simp, T.ex_BadNumber, T.em_BadNumber_CountError, false, T.kt_BadNumber_BadName, true, T.ki_BadNumber, T.xf_BadNumber, T.no_BadNumber_value, hs.at_ ⟨z2, q⟩⟩
  · exact ⟨(by show 1 ≤ sizeLine; decide), hd⟩
end
section
variable {P : Program} {w : World} {K : PySem.W.Frag} {mg : Str → Option Value} {base : Heap}
abbrev N58 : Int := 10000000000000000000000000000000000000000000000000000000000
theorem eqI_t {x : Str} {G : Gm} {Q : QD} (hx : PyData.strOk x = true) (q : Q (.bl true) G) : EqI (.str x) (.str x) G Q := ⟨pl_str hx, pl_str hx, by rw [eqvD_str, decide_eq_true rfl]; exact q⟩
theorem eqI_f {x y : Str} {G : Gm} {Q : QD} (hx : PyData.strOk x = true) (hy : PyData.strOk y = true) (h : x ≠ y) (q : Q (.bl false) G) : EqI (.str x) (.str y) G Q := ⟨pl_str hx, pl_str hy, by rw [eqvD_str, decide_eq_false h]; exact q⟩
theorem neI_t {x : Str} {G : Gm} {Q : QD} (hx : PyData.strOk x = true) (q : Q (.bl false) G) : NeI (.str x) (.str x) G Q := neI_self (pl_str hx) q
theorem neI_f {x y : Str} {G : Gm} {Q : QD} (hx : PyData.strOk x = true) (hy : PyData.strOk y = true) (h : x ≠ y) (q : Q (.bl true) G) : NeI (.str x) (.str y) G Q := ⟨pl_str hx, pl_str hy, by rw [eqvD_str, decide_eq_false h]; exact q⟩
theorem ok_app {x y : Str} : PyData.strOk (x ++ y) = (PyData.strOk x && PyData.strOk y) := by
  show (x ++ y).cps.all _ = (x.cps.all _ && y.cps.all _)
  rw [Str.cps_append, Array.all_append]
open TL in
theorem ok_num {i : Int} : PyData.strOk (numS i) = true := by
  show (numS i).cps.all (fun c => decide (c < 0x110000)) = true
  rw [allS, List.all_eq_true]
  refine fun c hc => decide_eq_true ?_
  cases i with
  | ofNat m =>
    rw [show (Int.ofNat m) = (m : Int) from rfl, tl_num0] at hc
    have := numL_digits m c hc
    omega
  | negSucc m =>
    rw [tl_numN] at hc
    rcases List.mem_cons.mp hc with z | z
    · omega
    · have := numL_digits _ c z
      omega
theorem okP : ∀ x ∈ poolN, PyData.strOk x = true := by decide +kernel
theorem insD_adr {a : Addr} {G : Gm} {C : Addr} {fs : List (Str × D)} (h : G a = some (.ins C fs)) : insD (.adr a) G = some (C, fs) := by
  show (match G a with | some (.ins C fs) => some (C, fs) | _ => none) = _
  rw [h]
theorem frz1 {tk tv : TED} {δ : SD} {G : Gm} {Q : QD} {x : Str} {v : D} (hk : ∀ (G' : Gm) (R : QD), R (.str x) G' → tk δ G' R) (hv : ∀ (G' : Gm) (R : QD), R v G' → tv δ G' R) (q : Q (txtF [(x, v)]) G) : dFrzT (dDisp1M tk tv) δ G Q := fun p np => by
  refine hk _ _ (hv _ _ ⟨x, rfl, updG_same, p, rfl, ?_⟩)
  rw [updG_updG, updG_same]
  show Q (.dif _) (delG (updG G p _) p)
  rw [delG_updG np]
  exact q
theorem frz2 {tk tv tk2 tv2 : TED} {δ : SD} {G : Gm} {Q : QD} {x y : Str} {v u : D} (hk : ∀ (G' : Gm) (R : QD), R (.str x) G' → tk δ G' R) (hv : ∀ (G' : Gm) (R : QD), R v G' → tv δ G' R) (hk2 : ∀ (G' : Gm) (R : QD), R (.str y) G' → tk2 δ G' R) (hv2 : ∀ (G' : Gm) (R : QD), R u G' → tv2 δ G' R) (ne : x ≠ y) (q : Q (txtF [(x, v), (y, u)]) G) : dFrzT (dDisp2M tk tv tk2 tv2) δ G Q := fun p np => by
  refine hk _ _ (hv _ _ (hk2 _ _ (hv2 _ _ ⟨x, y, rfl, rfl, ne, updG_same, p, rfl, ?_⟩)))
  rw [updG_updG, updG_same]
  show Q (.dif _) (delG (updG G p _) p)
  rw [delG_updG np]
  exact q
theorem rp3 {due : D} (h : due = .non ∨ due = .bl true ∨ due = .bl false) : ∃ x, PyData.strOk x = true ∧ ∀ (G : Gm) (Q : QD), Q (.str x) G → ReprX [.lst [due, due, .bl (isTr due)]] G Q := by
  rcases h with rfl | rfl | rfl
  · exact ⟨(PyData.list [.none, .none, .bool false]).shown, by decide +kernel, fun G Q q => ⟨_, toP (.lst [.non, .non, .bl false]), rfl, .inl (.plain (by decide +kernel) (by decide +kernel)), by decide +kernel, by decide +kernel, small1000 (by decide +kernel), q⟩⟩
  · exact ⟨(PyData.list [.bool true, .bool true, .bool true]).shown, by decide +kernel, fun G Q q => ⟨_, toP (.lst [.bl true, .bl true, .bl true]), rfl, .inl (.plain (by decide +kernel) (by decide +kernel)), by decide +kernel, by decide +kernel, small1000 (by decide +kernel), q⟩⟩
  · exact ⟨(PyData.list [.bool false, .bool false, .bool false]).shown, by decide +kernel, fun G Q q => ⟨_, toP (.lst [.bl false, .bl false, .bl false]), rfl, .inl (.plain (by decide +kernel) (by decide +kernel)), by decide +kernel, by decide +kernel, small1000 (by decide +kernel), q⟩⟩
theorem vals1 {t : Str} {e : D} (ht : t ∈ poolN) (he : isVal e = true) : Vals08 [(t, e)] := ⟨by show 1 ≤ 100; decide, fun p hp => by
  rw [List.mem_singleton.mp hp]
  exact ⟨ht, by simp [List.lookup], he⟩⟩
theorem vals2 {t : Str} {e : D} (ht : t ∈ poolN) (he : isVal e = true) (ne : t ≠ ("other" : Str)) : Vals08 [(t, e), ("other", .int 7)] := ⟨by show 2 ≤ 100; decide, fun p hp => by
  rcases List.mem_cons.mp hp with rfl | hp
  · exact ⟨ht, by simp [List.lookup], he⟩
  · rw [List.mem_singleton.mp hp]
    refine ⟨by decide +kernel, ?_, rfl⟩
    show List.lookup _ _ = _
    have : ((("other" : Str)) == t) = false := beq_eq_false_iff_ne.mpr (Ne.symm ne)
    simp [List.lookup, this]⟩
theorem cnts0 : Cnts08 [] := ⟨by decide, fun p hp => by cases hp⟩
theorem cnts1 : Cnts08 [("a", .int 1)] := ⟨by decide, fun p hp => by
  rw [List.mem_singleton.mp hp]
  exact ⟨by decide +kernel, by simp [List.lookup], 1, rfl, by decide⟩⟩
theorem rp1 {d : D} (h : d = .non ∨ d = .bl true) : ∃ x, PyData.strOk x = true ∧ ∀ (G : Gm) (Q : QD), Q (.str x) G → ReprX [d] G Q := by
  rcases h with rfl | rfl
  · exact ⟨(PyData.none).shown, by decide +kernel, fun G Q q => ⟨_, toP .non, rfl, .inl (.plain (by decide +kernel) (by decide +kernel)), by decide +kernel, by decide +kernel, small1000 (by decide +kernel), q⟩⟩
  · exact ⟨(PyData.bool true).shown, by decide +kernel, fun G Q q => ⟨_, toP (.bl true), rfl, .inl (.plain (by decide +kernel) (by decide +kernel)), by decide +kernel, by decide +kernel, small1000 (by decide +kernel), q⟩⟩
theorem name_ok {t : Str} (ht : t ∈ poolN) : isName (.str t) = true := (pool_ok t ht).2.2.2.2
theorem cmp_ok {CN CB C : Addr} {sg : String} {a : Addr} {t : Str} {n : Int} {G : Gm} {Q : QD} {W : WD} (ht : t ∈ poolN) (hn : n.natAbs < 10 ^ 60) (hG : G a = some (.ins C [])) (q : Q .non (updG G a (.ins C (condF (.str t) (.str (belowT t n sg)) a ++ ([("number", .int n)] : List (Str × D)))))) : cmpInitX CN CB C sg [.adr a, .str t, .int n] G Q W :=
  ⟨a, .str t, .int n, rfl, hG, .inl ⟨t, rfl, .inl ht⟩, rfl, told_ki (k := .int) rfl, rfl, fun e => (by rw [name_ok ht] at e; cases e), fun _ e => (by cases e), fun x i e1 _ e2 => by cases e1; cases e2; exact ⟨hn, q⟩⟩
theorem miss_ok {CN C : Addr} {a : Addr} {t : Str} {G : Gm} {Q : QD} {W : WD} (ht : t ∈ poolN) (hG : G a = some (.ins C [])) (q : Q .non (updG G a (.ins C (condF (.str t) (.str ((Str.empty ++ t) ++ " null")) a)))) : missInitX CN C [.adr a, .str t] G Q W :=
  ⟨a, .str t, rfl, hG, .inl ⟨t, rfl, .inl ht⟩, rfl, fun e => (by rw [name_ok ht] at e; cases e), fun x e1 _ => by cases e1; exact q⟩
/-- a condition that is made, its fields -/
structure MadeC (T : Top K mg w) (C a : Addr) (fs : List (Str × D)) (t x : Str) (f : D → D) : Prop where
  hC : C ∈ fam_Test T
  hD : C ∈ fam_Condition T
  tx : fs.lookup ("_text" : Str) = some (.str x)
  co : fs.lookup ("_columns" : Str) = some (.tup [.str t])
  na : fs.lookup ("_names" : Str) = some (.tup [])
  sz : fs.lookup ("_size" : Str) = some (.int 0)
  cs : fs.lookup ("_conditions" : Str) = some (.tup [.adr a])
  cn : fs.lookup ("column" : Str) = some (.str t)
  kn : fs.lookup ("known" : Str) = none
  tr : fs.lookup ("truth" : Str) = none
  is : ∀ v, isVal v = true → KnownIs T.C_Below T.C_UpTo T.C_Equals T.C_Missing C fs v (f v)
theorem made_lt {T : Top K mg w} {a : Addr} {t x : Str} {n : Int} : MadeC T T.C_Below a (condF (.str t) (.str x) a ++ ([("number", .int n)] : List (Str × D))) t x (fun v => belowF v (.int n)) :=
  ⟨List.mem_of_getElem? (i := 0) rfl, List.mem_of_getElem? (i := 0) rfl, rfl, rfl, rfl, rfl, rfl, rfl, rfl, rfl, fun v _ => .inl ⟨rfl, n, rfl, rfl⟩⟩
theorem made_le {T : Top K mg w} {a : Addr} {t x : Str} {n : Int} : MadeC T T.C_UpTo a (condF (.str t) (.str x) a ++ ([("number", .int n)] : List (Str × D))) t x (fun v => uptoF v (.int n)) :=
  ⟨List.mem_of_getElem? (i := 1) rfl, List.mem_of_getElem? (i := 1) rfl, rfl, rfl, rfl, rfl, rfl, rfl, rfl, rfl, fun v _ => .inr (.inl ⟨rfl, n, rfl, rfl⟩)⟩
theorem made_eq {T : Top K mg w} {a : Addr} {t x : Str} {n : Int} : MadeC T T.C_Equals a (condF (.str t) (.str x) a ++ ([("number", .int n)] : List (Str × D))) t x (fun v => equalsF v (.int n)) :=
  ⟨List.mem_of_getElem? (i := 2) rfl, List.mem_of_getElem? (i := 2) rfl, rfl, rfl, rfl, rfl, rfl, rfl, rfl, rfl, fun v _ => .inr (.inr (.inl ⟨rfl, n, rfl, rfl⟩))⟩
theorem made_no {T : Top K mg w} {a : Addr} {t x : Str} : MadeC T T.C_Missing a (condF (.str t) (.str x) a) t x (fun v => .bl (isNon v)) :=
  ⟨List.mem_of_getElem? (i := 3) rfl, List.mem_of_getElem? (i := 3) rfl, rfl, rfl, rfl, rfl, rfl, rfl, rfl, rfl, fun v _ => .inr (.inr (.inr ⟨rfl, rfl⟩))⟩
def oneD : SpD := fun ds G Q _ => ∃ (p : Addr) (m : Nat) (wd t : Str) (n : Int), ds = [.adr p, .str wd, .str t, .int n] ∧ wd ∈ (["<", "<=", "=", "null"] : List Str) ∧ t ∈ (["x", "y", "col", "abcdefgh", "in"] : List Str) ∧ -N58 ≤ n ∧ n ≤ N58 ∧ G p = some (.pen m) ∧ m + 10 ≤ 2 ^ 20 ∧ ∀ G', G' p = some (.pen (m + 1)) → Q (.bl true) G'
theorem dok__law_one_right (T : Top K mg w) : GnD P w K mg base 28 T.a__law_one_right T.d__law_one_right ["_law_pen_here", "_law_word", "_law_title", "_law_number_so"] oneD := by
  have G_Below___init__ := (dok_Below___init__ (P := P) (w := w) (base := base) T).mono (k := 25) (by decide)
  have G_UpTo___init__ := (dok_UpTo___init__ (P := P) (w := w) (base := base) T).mono (k := 25) (by decide)
  have G_Equals___init__ := (dok_Equals___init__ (P := P) (w := w) (base := base) T).mono (k := 25) (by decide)
  have G_Missing___init__ := (dok_Missing___init__ (P := P) (w := w) (base := base) T).mono (k := 25) (by decide)
  have G__law_draw := (dok__law_draw (P := P) (w := w) (base := base) T).mono (k := 25) (by decide)
  have G_Test_truth := (dok_Test_truth (P := P) (w := w) (base := base) T).mono (k := 25) (by decide)
  have G_Test___call__ := (dok_Test___call__ (P := P) (w := w) (base := base) T).mono (k := 25) (by decide)
  have G_Test___str__ := (dok_Test___str__ (P := P) (w := w) (base := base) T).mono (k := 25) (by decide)
  have G_Test_columns := (dok_Test_columns (P := P) (w := w) (base := base) T).mono (k := 25) (by decide)
  have G_Test_names := (dok_Test_names (P := P) (w := w) (base := base) T).mono (k := 25) (by decide)
  have G_Test_size := (dok_Test_size (P := P) (w := w) (base := base) T).mono (k := 25) (by decide)
  have G_Test_conditions := (dok_Test_conditions (P := P) (w := w) (base := base) T).mono (k := 25) (by decide)
  have G_Test___eq__ := (dok_Test___eq__ (P := P) (w := w) (base := base) T).mono (k := 25) (by decide)
  refine dfg (k := 27) T.F__law_one_right sc_law_one_right (fun ds G Q W h => ?_) (fun cdv A outer s H E B hg hr => ⟨_, (db_cons (ds_set (i := 4) sc_law_one_right.nd rfl (.inl rfl) (de_if (dt_cmp (op_eqD (Room.units hr)) eqI_A (dv 1) de_str (nomark _)) (de_makeK0M T.mk_Below T.gc_Below G_Below___init__ (hr.mono (by decide)) rfl T.g_Below T.mb_Below_0 hx0 perm_ok (dk_cons (dv 2) (dk_cons (dv 3) dk_nil))) (de_makeK0M T.mk_UpTo T.gc_UpTo G_UpTo___init__ (hr.mono (by decide)) rfl T.g_UpTo T.mb_UpTo_1 hx0 perm_ok (dk_cons (dv 3) (dk_cons (dv 2) dk_nil)))))
  (db_cons (ds_set (i := 4) sc_law_one_right.nd rfl (.inl rfl) (de_if (dt_cmp (op_eqD (Room.units hr)) eqI_A (dv 1) de_str (nomark _)) (de_makeK0M T.mk_Equals T.gc_Equals G_Equals___init__ (hr.mono (by decide)) rfl T.g_Equals T.mb_Equals_2 hx0 perm_ok (dk_cons (dv 3) (dk_cons (dv 2) dk_nil))) (dv 4)))
  (db_cons (ds_set (i := 4) sc_law_one_right.nd rfl (.inl rfl) (de_if (dt_cmp (op_eqD (Room.units hr)) eqI_A (dv 1) de_str (nomark _)) (de_makeK0M T.mk_Missing T.gc_Missing G_Missing___init__ (hr.mono (by decide)) rfl T.g_Missing T.mb_Missing_3 hx0 perm_ok (dk_cons (dv 2) dk_nil)) (dv 4)))
  (db_cons (ds_set (i := 5) sc_law_one_right.nd rfl (.inl rfl) (de_if (dt_cmp (op_eqD (Room.units hr)) eqI_A (dv 1) de_str (nomark _)) (de_add (dv 2) de_str) (de_add (de_add (de_add (de_add (dv 2) de_str) (dv 1)) de_str) (de_callTy call_str_int strI_A (by rfl) T.z_str (by decide +kernel) (da_cons (dv 3) da_nil)))))
  (db_cons (ds_if (dw_pt (dw_or (dt_not (dt_val (de_isCK (K := K) (C := T.C_Condition) rfl (by rfl) T.z_isinstance (by decide +kernel) (dv 4) (pe_glob rfl T.g_Condition rfl)))) (dw_or1 (dt_not (dt_val (de_isCK (K := K) (C := T.C_Test) rfl (by rfl) T.z_isinstance (by decide +kernel) (dv 4) (pe_glob rfl T.g_Test rfl)))))))
    (db_one (ds_ret de_bl))
    db_nil)
  (db_cons (ds_if (dw_pt (dw_or (dt_cmp (op_neD (Room.units hr)) neI_A (de_any (Pr := fun C => C ∈ fam_Test T) fun C hC => de_strO (fam_om_Test___str__ T C hC) G_Test___str__ T.b_Test___str__ (hr.mono (by decide)) hx0 (by rfl) T.z_str (by decide +kernel) (da_cons (dv 4) da_nil)) (dv 5) (nomark _)) (dw_or (dt_cmp (op_neD (Room.units hr)) neI_A (de_any (Pr := fun C => C ∈ fam_Test T) fun C hC => de_prop (dv 4) (fam_cl_Test T C hC) (fam_pr_Test_columns T C hC) G_Test_columns (hr.mono (by decide)) T.b_Test_columns) (de_tup (da_cons (dv 2) da_nil)) (nomark _)) (dw_or (dt_cmp (op_neD (Room.units hr)) neI_A (de_any (Pr := fun C => C ∈ fam_Test T) fun C hC => de_prop (dv 4) (fam_cl_Test T C hC) (fam_pr_Test_names T C hC) G_Test_names (hr.mono (by decide)) T.b_Test_names) (de_tup da_nil) (nomark _)) (dw_or1 (dt_cmp (op_neD (Room.units hr)) neI_A (de_any (Pr := fun C => C ∈ fam_Test T) fun C hC => de_prop (dv 4) (fam_cl_Test T C hC) (fam_pr_Test_size T C hC) G_Test_size (hr.mono (by decide)) T.b_Test_size) de_int (nomark _)))))))
    (db_one (ds_ret de_bl))
    db_nil)
  (db_cons (ds_for PassesOwn.never rfl (di_list (de_lst (da_cons de_non (da_cons (de_sub (dv 3) de_int) (da_cons (dv 3) (da_cons (de_add (dv 3) de_int) (da_cons de_int (da_cons (de_pow de_int de_int) (da_cons (de_neg (de_pow de_int de_int)) (da_cons (de_sub (de_call G__law_draw (hr.mono (by decide)) (by rfl) T.g__law_draw T.F__law_draw.kp T.b__law_draw hx0 (da_cons (dv 0) (da_cons de_int da_nil))) de_int) da_nil)))))))))) (dg_name (i := 6) sc_law_one_right.nd rfl (.inl rfl))
    (db_cons (ds_set (i := 7) sc_law_one_right.nd rfl (.inl rfl) (de_cmp op_isN isN_A (dv 6) de_non (nomark _)))
  (db_cons (ds_if (dt_cmp (op_neD (Room.units hr)) neI_A (dv 1) de_str (nomark _))
    (db_cons (ds_set (i := 7) sc_law_one_right.nd rfl (.inl rfl) (de_if (dt_val (dv 7)) de_non (de_if (dt_cmp (op_eqD (Room.units hr)) eqI_A (dv 1) de_str (nomark _)) (de_cmp op_lt lt_A (dv 6) (dv 3) (nomark _)) (de_cmp op_le le_A (dv 6) (dv 3) (nomark _)))))
  (db_one (ds_set (i := 7) sc_law_one_right.nd rfl (.inl rfl) (de_if (dw_pt (dw_and (dt_cmp (op_eqD (Room.units hr)) eqI_A (dv 1) de_str (nomark _)) (dw_and1 (dt_cmp op_notN notN_A (dv 6) de_non (nomark _))))) (de_cmp (op_eqD (Room.units hr)) eqI_A (dv 6) (dv 3) (nomark _)) (dv 7)))))
    db_nil)
  (db_cons (ds_set (i := 8) sc_law_one_right.nd rfl (.inl rfl) (de_lst (da_cons (de_any (Pr := fun C => C ∈ fam_Test T) fun C hC => de_methDf (fun _ => .cons .non .nil) (.cons rfl .nil) (dv 4) (fam_cl_Test T C hC) (fam_me_Test_truth T C hC) G_Test_truth (hr.mono (by decide)) T.bd_Test_truth hx0 (da_cons (de_frzT (de_disp1M (dv 2) (dv 6))) da_nil)) (da_cons (de_any (Pr := fun C => C ∈ fam_Test T) fun C hC => de_meth (dv 4) (fam_cl_Test T C hC) (fam_me_Test_truth T C hC) G_Test_truth (hr.mono (by decide)) T.b_Test_truth hx0 (da_cons (de_frzT (de_disp2M (dv 2) (dv 6) de_str de_int)) (da_cons (de_frzT (de_disp1M de_str de_int)) da_nil))) da_nil))))
  (db_one (ds_if (dt_cmp (op_neD (Room.units hr)) neI_A (de_callB (call_reprX hg (Room.units hr)) reprX_A (by rfl) T.z_repr (by decide +kernel) (da_cons (de_add (dv 8) (de_lst (da_cons (de_any (Pr := fun C => C ∈ fam_Test T) fun C hC => de_callODf (fun _ => .cons .non .nil) (.cons rfl .nil) (dv 4) (fam_oc_Test___call__ T C hC) G_Test___call__ (hr.mono (by decide)) T.bd_Test___call__ hx0 (da_cons (de_frzT (de_disp1M (dv 2) (dv 6))) da_nil)) da_nil))) da_nil)) (de_callB (call_reprX hg (Room.units hr)) reprX_A (by rfl) T.z_repr (by decide +kernel) (da_cons (de_add (de_mul (de_lst (da_cons (dv 7) da_nil)) de_int) (de_lst (da_cons (de_cmp op_isF isF_A (dv 7) de_bl (nomark _)) da_nil))) da_nil)) (nomark _))
    (db_one (ds_ret de_bl))
    db_nil))))))
  (db_cons (ds_set (i := 8) sc_law_one_right.nd rfl (.inl rfl) (de_any (Pr := fun C => C ∈ fam_Test T) fun C hC => de_methKw (dv 4) (fam_cl_Test T C hC) (fam_me_Test_truth T C hC) G_Test_truth (hr.mono (by decide)) T.kb_Test_truth_0 hx0 perm_ok (dk_cons de_dict0F (dk_cons (de_frzT (de_disp1M (dv 2) de_non)) dk_nil))))
  (db_one (ds_ret (de_and (de_cmp (op_eqSame (Room.units hr)) eqSame_A (de_any (Pr := fun C => C ∈ fam_Test T) fun C hC => de_prop (dv 4) (fam_cl_Test T C hC) (fam_pr_Test_conditions T C hC) G_Test_conditions (hr.mono (by decide)) T.b_Test_conditions) (de_tup (da_cons (dv 4) da_nil)) (nomark _)) (de_one (de_cmp (op_eqD (Room.units hr)) eqI_A (de_callB (call_reprX hg (Room.units hr)) reprX_A (by rfl) T.z_repr (by decide +kernel) (da_cons (dv 8) da_nil)) (de_callB (call_reprX hg (Room.units hr)) reprX_A (by rfl) T.z_repr (by decide +kernel) (da_cons (de_if (dt_cmp (op_eqD (Room.units hr)) eqI_A (dv 1) de_str (nomark _)) de_bl de_non) da_nil)) (nomark _)))))))))))))), fun ds G Q W h => ?_⟩)
  · obtain ⟨_, _, _, _, _, rfl, _⟩ := h
    rfl
  · obtain ⟨p, m, wd, t, n, rfl, hw, ht, n0, n1, hG, hm, q⟩ := h
    have htN : t ∈ poolN := by
      simp only [List.mem_cons, List.not_mem_nil, or_false] at ht
      rcases ht with rfl | rfl | rfl | rfl | rfl <;> decide +kernel
    have tno : t ≠ ("other" : Str) := by
      simp only [List.mem_cons, List.not_mem_nil, or_false] at ht
      rcases ht with rfl | rfl | rfl | rfl | rfl <;> decide +kernel
    have b60 : n.natAbs < 10 ^ 60 := by simp only [N58] at n0 n1; omega
    have la : ∀ x y : Str, (x ++ y).length = x.length + y.length := Str.length_append
    have z0 : 0 ≤ sizeLine := Nat.zero_le _
    have z1 : 1 ≤ sizeLine := by rw [sizeLine_eq]; decide
    have z2 : 2 ≤ sizeLine := by rw [sizeLine_eq]; decide
    have z3 : 3 ≤ sizeLine := by rw [sizeLine_eq]; decide
    have o1 : PyData.strOk "<" = true := by decide +kernel
    have o2 : PyData.strOk "<=" = true := by decide +kernel
    have o3 : PyData.strOk "=" = true := by decide +kernel
    have o4 : PyData.strOk "null" = true := by decide +kernel
    have ap : ∀ a, G a = none → p ≠ a := fun a na e => by rw [e, na] at hG; cases hG
    simp only [List.mem_cons, List.not_mem_nil, or_false] at hw
    have l8 := (pool_ok t htN).1
    have lS : (Str.ofString " ").length = 1 := by decide +kernel
    have lN : (Str.ofString " null").length = 5 := by decide +kernel
    have l1 : (Str.ofString "<").length = 1 := by decide +kernel
    have l2 : (Str.ofString "<=").length = 2 := by decide +kernel
    have l3 : (Str.ofString "=").length = 1 := by decide +kernel
    have l61 := len_num b60
    have hz := sizeLine_eq
    have okT : PyData.strOk t = true := okP t htN
    have plt : Pl 60 (.tup [.str t]) := (pl_tup (k := 1) fun d hd => by rw [List.mem_singleton.mp hd]; exact pl_str okT).mono (by decide)
    have plt0 : Pl 60 (.tup []) := (pl_tup (k := 1) fun d hd => by cases hd).mono (by decide)
    have okt : ∀ sg : String, PyData.strOk (Str.ofString sg) = true → PyData.strOk (belowT t n sg) = true := fun sg h => by
      unfold belowT
      rw [ok_app, ok_app, ok_app, okT, h, ok_num]
      decide +kernel
    have text : ∀ wd : Str, ((((t ++ Str.ofString " ") ++ wd) ++ Str.ofString " ") ++ numS n) = ((Str.empty ++ t) ++ ((Str.ofString " " ++ wd) ++ Str.ofString " ")) ++ numS n := fun wd => by
      rw [Str.empty_append, Str.append_assoc t, Str.append_assoc t]
    rcases hw with rfl | rfl | rfl | rfl
    · refine eqI_t o1 ⟨rfl, rfl, fun a na => cmp_ok htN b60 updG_same ?_⟩
      rw [updG_updG]
      refine ⟨rfl, ?_⟩
      refine eqI_f o1 o3 (by decide +kernel) ?_
      refine eqI_f o1 o4 (by decide +kernel) ?_
      refine eqI_f o1 o4 (by decide +kernel) ?_
      refine ⟨by omega, by rw [la]; omega, by rw [la, la]; omega, log_num b60, by rw [la, la, la]; omega, ?_⟩
      rw [text, show (Str.ofString " " ++ Str.ofString "<") ++ Str.ofString " " = Str.ofString " < " from by decide +kernel]
      have okx : PyData.strOk (belowT t n " < ") = true := okt _ (by decide +kernel)
      have hM := made_lt (T := T) (a := a) (t := t) (x := belowT t n " < ") (n := n)
      have hp : (updG G a (.ins T.C_Below (condF (.str t) (.str (belowT t n " < ")) a ++ ([("number", .int n)] : List (Str × D))))) p = some (.pen m) := (updG_ne (ap a na)).trans hG
      have hGa : (updG G a (.ins T.C_Below (condF (.str t) (.str (belowT t n " < ")) a ++ ([("number", .int n)] : List (Str × D))))) a = some (.ins T.C_Below (condF (.str t) (.str (belowT t n " < ")) a ++ ([("number", .int n)] : List (Str × D)))) := updG_same
      have hi := insD_adr hGa
      generalize updG G a (.ins T.C_Below (condF (.str t) (.str (belowT t n " < ")) a ++ ([("number", .int n)] : List (Str × D)))) = G1 at hp hi hGa ⊢
      generalize condF (.str t) (.str (belowT t n " < ")) a ++ ([("number", .int n)] : List (Str × D)) = fs at hM hi hGa
      show gNameD 5 (.str (belowT t n " < ")) _ G1 _
      generalize belowT t n " < " = x at hM okx ⊢
      refine ⟨_, true, .ins hi, fam_ki_Condition T _ hM.hD, ?_⟩
      refine ⟨_, true, .ins hi, fam_ki_Test T _ hM.hC, ?_⟩
      refine ⟨_, hM.hC, ?_⟩
      show (match insD (D.adr a) G1 with | some (C', _) => _ | none => _)
      rw [hi]
      refine ⟨rfl, _, _, fs, x, rfl, hi, hM.tx, ?_⟩
      refine neI_t okx ?_
      refine ⟨_, hM.hC, ?_⟩
      show (match insD (D.adr a) G1 with | some (C', _) => _ | none => _)
      rw [hi]
      refine ⟨rfl, _, _, fs, _, rfl, hi, hM.co, ?_⟩
      refine ⟨z1, neI_self plt ?_⟩
      refine ⟨_, hM.hC, ?_⟩
      show (match insD (D.adr a) G1 with | some (C', _) => _ | none => _)
      rw [hi]
      refine ⟨rfl, _, _, fs, _, rfl, hi, hM.na, ?_⟩
      refine ⟨z0, neI_self plt0 ?_⟩
      refine ⟨_, hM.hC, ?_⟩
      show (match insD (D.adr a) G1 with | some (C', _) => _ | none => _)
      rw [hi]
      refine ⟨rfl, _, _, fs, _, rfl, hi, hM.sz, ?_⟩
      refine neI_self pl_int ?_
      refine ⟨⟨by decide, by decide, by decide⟩, ⟨by decide, by decide, by decide⟩, ?_⟩
      refine ⟨p, 20, m, rfl, hp, by decide, by decide, by omega, fun r r0 r1 => ?_⟩
      refine ⟨by show 8 ≤ sizeLine; omega, ?_⟩
      have hG2 : ∃ G2, G2 = updG G1 p (.pen (m + 1)) := ⟨_, rfl⟩
      obtain ⟨G2, eG2⟩ := hG2
      rw [← eG2]
      have hp2 : G2 p = some (.pen (m + 1)) := by rw [eG2, updG_same]
      have hi2 : insD (D.adr a) G2 = some (T.C_Below, fs) := by
        refine insD_adr ?_
        rw [eG2, updG_ne (Ne.symm (ap a na))]
        exact hGa
      refine for_inv (n := 8) (fun j δ G' => G' = G2 ∧ ∃ x6 x7 x8, δ = [some (.adr p), some (.str "<"), some (.str t), some (.int n), some (.adr a), some (.str x), x6, x7, x8]) _ 0 _ _ rfl (fun j δ G' e N he hj hI hN => ?_) ⟨rfl, none, none, none, rfl⟩ (fun δ G' hI => ?_)
      · obtain ⟨rfl, x6, x7, x8, rfl⟩ := hI
        have hv : isVal e = true := by
          simp only [List.mem_cons, List.not_mem_nil, or_false] at he
          rcases he with rfl | rfl | rfl | rfl | rfl | rfl | rfl | rfl <;> rfl
        clear he
        have hle : ([(t, e)] : List (Str × D)).lookup t = some e := by simp [List.lookup]
        have hle2 : ([(t, e), ("other", .int 7)] : List (Str × D)).lookup t = some e := by simp [List.lookup]
        have hV1 := vals1 htN hv
        have hV2 := vals2 htN hv tno
        have hk0 := hM.is _ hv
        cases e <;> first | (cases hv; done) | skip
        · refine neI_f o1 o4 (by decide +kernel) ?_
          refine eqI_f o1 o3 (by decide +kernel) ?_
          obtain ⟨rx, rok, rp⟩ := rp3 (due := .non) (.inl rfl)
          have hk : KnownIs T.C_Below T.C_UpTo T.C_Equals T.C_Missing T.C_Below fs  .non .non := hk0
          clear hk0
          refine ⟨_, hM.hC, ?_⟩
          show (match insD (D.adr a) G' with | some (C', fs) => _ | none => _)
          rw [hi2]
          refine ⟨rfl, hM.tr, ?_⟩
          refine frz1 (fun _ _ h => h) (fun _ _ h => h) ?_
          refine ⟨_, .non, _, [], _, fs, t, _, _, rfl, .inl ⟨rfl, rfl⟩, hM.hC, hi2, hM.kn, hM.co, hM.na, hM.cn, hV1, cnts0, hle, hv, hk, ?_⟩
          refine ⟨_, hM.hC, ?_⟩
          show (match insD (D.adr a) G' with | some (C', fs) => _ | none => _)
          rw [hi2]
          refine ⟨rfl, hM.tr, ?_⟩
          refine frz2 (fun _ _ h => h) (fun _ _ h => h) (fun _ _ h => h) (fun _ _ h => h) tno ?_
          refine frz1 (fun _ _ h => h) (fun _ _ h => h) ?_
          refine ⟨_, _, _, [("a", .int 1)], _, fs, t, _, _, rfl, .inr rfl, hM.hC, hi2, hM.kn, hM.co, hM.na, hM.cn, hV2, cnts1, hle2, hv, hk, ?_⟩
          refine ⟨z2, ?_⟩
          refine ⟨_, hM.hC, rfl, ?_⟩
          refine frz1 (fun _ _ h => h) (fun _ _ h => h) ?_
          show (match insD (D.adr a) G' with | some (C', fs) => _ | none => _)
          rw [hi2]
          refine ⟨rfl, fun d C fs2 hd he2 => by cases hd; rw [hi2] at he2; cases he2; exact hM.tr, ?_⟩
          refine ⟨_, .non, _, [], _, fs, t, _, _, rfl, .inl ⟨rfl, rfl⟩, hM.hC, hi2, hM.kn, hM.co, hM.na, hM.cn, hV1, cnts0, hle, hv, hk, ?_⟩
          refine ⟨z1, z3, rp _ _ ?_⟩
          refine ⟨z1, ⟨by decide, by decide, z2⟩, z1, z3, rp _ _ ?_⟩
          refine neI_t rok ?_
          exact hN _ _ ⟨rfl, _, _, _, rfl⟩
        · rename_i i
          refine neI_f o1 o4 (by decide +kernel) ?_
          refine eqI_t o1 ?_
          refine eqI_f o1 o3 (by decide +kernel) ?_
          have hk : KnownIs T.C_Below T.C_UpTo T.C_Equals T.C_Missing T.C_Below fs  (.int i) (.bl (decide (i < n))) := hk0
          clear hk0
          dsimp only
          generalize decide (i < n) = b at hk ⊢
          cases b
          · obtain ⟨rx, rok, rp⟩ := rp3 (due := .bl false) (.inr (.inr rfl))
            refine ⟨_, hM.hC, ?_⟩
            show (match insD (D.adr a) G' with | some (C', fs) => _ | none => _)
            rw [hi2]
            refine ⟨rfl, hM.tr, ?_⟩
            refine frz1 (fun _ _ h => h) (fun _ _ h => h) ?_
            refine ⟨_, .non, _, [], _, fs, t, _, _, rfl, .inl ⟨rfl, rfl⟩, hM.hC, hi2, hM.kn, hM.co, hM.na, hM.cn, hV1, cnts0, hle, hv, hk, ?_⟩
            refine ⟨_, hM.hC, ?_⟩
            show (match insD (D.adr a) G' with | some (C', fs) => _ | none => _)
            rw [hi2]
            refine ⟨rfl, hM.tr, ?_⟩
            refine frz2 (fun _ _ h => h) (fun _ _ h => h) (fun _ _ h => h) (fun _ _ h => h) tno ?_
            refine frz1 (fun _ _ h => h) (fun _ _ h => h) ?_
            refine ⟨_, _, _, [("a", .int 1)], _, fs, t, _, _, rfl, .inr rfl, hM.hC, hi2, hM.kn, hM.co, hM.na, hM.cn, hV2, cnts1, hle2, hv, hk, ?_⟩
            refine ⟨z2, ?_⟩
            refine ⟨_, hM.hC, rfl, ?_⟩
            refine frz1 (fun _ _ h => h) (fun _ _ h => h) ?_
            show (match insD (D.adr a) G' with | some (C', fs) => _ | none => _)
            rw [hi2]
            refine ⟨rfl, fun d C fs2 hd he2 => by cases hd; rw [hi2] at he2; cases he2; exact hM.tr, ?_⟩
            refine ⟨_, .non, _, [], _, fs, t, _, _, rfl, .inl ⟨rfl, rfl⟩, hM.hC, hi2, hM.kn, hM.co, hM.na, hM.cn, hV1, cnts0, hle, hv, hk, ?_⟩
            refine ⟨z1, z3, rp _ _ ?_⟩
            refine ⟨z1, ⟨by decide, by decide, z2⟩, z1, z3, rp _ _ ?_⟩
            refine neI_t rok ?_
            exact hN _ _ ⟨rfl, _, _, _, rfl⟩
          · obtain ⟨rx, rok, rp⟩ := rp3 (due := .bl true) (.inr (.inl rfl))
            refine ⟨_, hM.hC, ?_⟩
            show (match insD (D.adr a) G' with | some (C', fs) => _ | none => _)
            rw [hi2]
            refine ⟨rfl, hM.tr, ?_⟩
            refine frz1 (fun _ _ h => h) (fun _ _ h => h) ?_
            refine ⟨_, .non, _, [], _, fs, t, _, _, rfl, .inl ⟨rfl, rfl⟩, hM.hC, hi2, hM.kn, hM.co, hM.na, hM.cn, hV1, cnts0, hle, hv, hk, ?_⟩
            refine ⟨_, hM.hC, ?_⟩
            show (match insD (D.adr a) G' with | some (C', fs) => _ | none => _)
            rw [hi2]
            refine ⟨rfl, hM.tr, ?_⟩
            refine frz2 (fun _ _ h => h) (fun _ _ h => h) (fun _ _ h => h) (fun _ _ h => h) tno ?_
            refine frz1 (fun _ _ h => h) (fun _ _ h => h) ?_
            refine ⟨_, _, _, [("a", .int 1)], _, fs, t, _, _, rfl, .inr rfl, hM.hC, hi2, hM.kn, hM.co, hM.na, hM.cn, hV2, cnts1, hle2, hv, hk, ?_⟩
            refine ⟨z2, ?_⟩
            refine ⟨_, hM.hC, rfl, ?_⟩
            refine frz1 (fun _ _ h => h) (fun _ _ h => h) ?_
            show (match insD (D.adr a) G' with | some (C', fs) => _ | none => _)
            rw [hi2]
            refine ⟨rfl, fun d C fs2 hd he2 => by cases hd; rw [hi2] at he2; cases he2; exact hM.tr, ?_⟩
            refine ⟨_, .non, _, [], _, fs, t, _, _, rfl, .inl ⟨rfl, rfl⟩, hM.hC, hi2, hM.kn, hM.co, hM.na, hM.cn, hV1, cnts0, hle, hv, hk, ?_⟩
            refine ⟨z1, z3, rp _ _ ?_⟩
            refine ⟨z1, ⟨by decide, by decide, z2⟩, z1, z3, rp _ _ ?_⟩
            refine neI_t rok ?_
            exact hN _ _ ⟨rfl, _, _, _, rfl⟩
      · obtain ⟨rfl, x6, x7, x8, rfl⟩ := hI
        refine ⟨_, hM.hC, ?_⟩
        show (match insD (D.adr a) G' with | some (C', fs) => _ | none => _)
        rw [hi2]
        refine ⟨rfl, hM.tr, ?_⟩
        dsimp only [dCons, dC, dNil]
        refine frz1 (tk := dVar 2) (tv := fun _ G Q => Q .non G) (x := t) (v := .non) (δ := [some (.adr p), some (.str "<"), some (.str t), some (.int n), some (.adr a), some (.str x), x6, x7, x8]) (fun _ _ h => h) (fun _ _ h => h) ?_
        refine ⟨rfl, ?_⟩
        refine ⟨_, _, _, [], _, fs, t, .non, .non, rfl, .inr rfl, hM.hC, hi2, hM.kn, hM.co, hM.na, hM.cn, vals1 htN rfl, cnts0, (by simp [List.lookup]), rfl, hM.is .non rfl, ?_⟩
        refine ⟨_, hM.hC, ?_⟩
        show (match insD (D.adr a) G' with | some (C', fs) => _ | none => _)
        rw [hi2]
        refine ⟨rfl, _, _, fs, _, rfl, hi2, hM.cs, ?_⟩
        refine ⟨z1, [a], rfl, rfl, ?_⟩
        obtain ⟨rx, rok, rp⟩ := rp1 (d := .non) (.inl rfl)
        refine rp _ _ ?_
        refine eqI_f o1 o4 (by decide +kernel) ?_
        refine rp _ _ ?_
        refine eqI_t rok ?_
        exact q _ hp2
    · refine eqI_f o2 o1 (by decide +kernel) ⟨rfl, rfl, fun a na => cmp_ok htN b60 updG_same ?_⟩
      rw [updG_updG]
      refine ⟨rfl, ?_⟩
      refine eqI_f o2 o3 (by decide +kernel) ?_
      refine eqI_f o2 o4 (by decide +kernel) ?_
      refine eqI_f o2 o4 (by decide +kernel) ?_
      refine ⟨by omega, by rw [la]; omega, by rw [la, la]; omega, log_num b60, by rw [la, la, la]; omega, ?_⟩
      rw [text, show (Str.ofString " " ++ Str.ofString "<=") ++ Str.ofString " " = Str.ofString " <= " from by decide +kernel]
      have okx : PyData.strOk (belowT t n " <= ") = true := okt _ (by decide +kernel)
      have hM := made_le (T := T) (a := a) (t := t) (x := belowT t n " <= ") (n := n)
      have hp : (updG G a (.ins T.C_UpTo (condF (.str t) (.str (belowT t n " <= ")) a ++ ([("number", .int n)] : List (Str × D))))) p = some (.pen m) := (updG_ne (ap a na)).trans hG
      have hGa : (updG G a (.ins T.C_UpTo (condF (.str t) (.str (belowT t n " <= ")) a ++ ([("number", .int n)] : List (Str × D))))) a = some (.ins T.C_UpTo (condF (.str t) (.str (belowT t n " <= ")) a ++ ([("number", .int n)] : List (Str × D)))) := updG_same
      have hi := insD_adr hGa
      generalize updG G a (.ins T.C_UpTo (condF (.str t) (.str (belowT t n " <= ")) a ++ ([("number", .int n)] : List (Str × D)))) = G1 at hp hi hGa ⊢
      generalize condF (.str t) (.str (belowT t n " <= ")) a ++ ([("number", .int n)] : List (Str × D)) = fs at hM hi hGa
      show gNameD 5 (.str (belowT t n " <= ")) _ G1 _
      generalize belowT t n " <= " = x at hM okx ⊢
      refine ⟨_, true, .ins hi, fam_ki_Condition T _ hM.hD, ?_⟩
      refine ⟨_, true, .ins hi, fam_ki_Test T _ hM.hC, ?_⟩
      refine ⟨_, hM.hC, ?_⟩
      show (match insD (D.adr a) G1 with | some (C', _) => _ | none => _)
      rw [hi]
      refine ⟨rfl, _, _, fs, x, rfl, hi, hM.tx, ?_⟩
      refine neI_t okx ?_
      refine ⟨_, hM.hC, ?_⟩
      show (match insD (D.adr a) G1 with | some (C', _) => _ | none => _)
      rw [hi]
      refine ⟨rfl, _, _, fs, _, rfl, hi, hM.co, ?_⟩
      refine ⟨z1, neI_self plt ?_⟩
      refine ⟨_, hM.hC, ?_⟩
      show (match insD (D.adr a) G1 with | some (C', _) => _ | none => _)
      rw [hi]
      refine ⟨rfl, _, _, fs, _, rfl, hi, hM.na, ?_⟩
      refine ⟨z0, neI_self plt0 ?_⟩
      refine ⟨_, hM.hC, ?_⟩
      show (match insD (D.adr a) G1 with | some (C', _) => _ | none => _)
      rw [hi]
      refine ⟨rfl, _, _, fs, _, rfl, hi, hM.sz, ?_⟩
      refine neI_self pl_int ?_
      refine ⟨⟨by decide, by decide, by decide⟩, ⟨by decide, by decide, by decide⟩, ?_⟩
      refine ⟨p, 20, m, rfl, hp, by decide, by decide, by omega, fun r r0 r1 => ?_⟩
      refine ⟨by show 8 ≤ sizeLine; omega, ?_⟩
      have hG2 : ∃ G2, G2 = updG G1 p (.pen (m + 1)) := ⟨_, rfl⟩
      obtain ⟨G2, eG2⟩ := hG2
      rw [← eG2]
      have hp2 : G2 p = some (.pen (m + 1)) := by rw [eG2, updG_same]
      have hi2 : insD (D.adr a) G2 = some (T.C_UpTo, fs) := by
        refine insD_adr ?_
        rw [eG2, updG_ne (Ne.symm (ap a na))]
        exact hGa
      refine for_inv (n := 8) (fun j δ G' => G' = G2 ∧ ∃ x6 x7 x8, δ = [some (.adr p), some (.str "<="), some (.str t), some (.int n), some (.adr a), some (.str x), x6, x7, x8]) _ 0 _ _ rfl (fun j δ G' e N he hj hI hN => ?_) ⟨rfl, none, none, none, rfl⟩ (fun δ G' hI => ?_)
      · obtain ⟨rfl, x6, x7, x8, rfl⟩ := hI
        have hv : isVal e = true := by
          simp only [List.mem_cons, List.not_mem_nil, or_false] at he
          rcases he with rfl | rfl | rfl | rfl | rfl | rfl | rfl | rfl <;> rfl
        clear he
        have hle : ([(t, e)] : List (Str × D)).lookup t = some e := by simp [List.lookup]
        have hle2 : ([(t, e), ("other", .int 7)] : List (Str × D)).lookup t = some e := by simp [List.lookup]
        have hV1 := vals1 htN hv
        have hV2 := vals2 htN hv tno
        have hk0 := hM.is _ hv
        cases e <;> first | (cases hv; done) | skip
        · refine neI_f o2 o4 (by decide +kernel) ?_
          refine eqI_f o2 o3 (by decide +kernel) ?_
          obtain ⟨rx, rok, rp⟩ := rp3 (due := .non) (.inl rfl)
          have hk : KnownIs T.C_Below T.C_UpTo T.C_Equals T.C_Missing T.C_UpTo fs  .non .non := hk0
          clear hk0
          refine ⟨_, hM.hC, ?_⟩
          show (match insD (D.adr a) G' with | some (C', fs) => _ | none => _)
          rw [hi2]
          refine ⟨rfl, hM.tr, ?_⟩
          refine frz1 (fun _ _ h => h) (fun _ _ h => h) ?_
          refine ⟨_, .non, _, [], _, fs, t, _, _, rfl, .inl ⟨rfl, rfl⟩, hM.hC, hi2, hM.kn, hM.co, hM.na, hM.cn, hV1, cnts0, hle, hv, hk, ?_⟩
          refine ⟨_, hM.hC, ?_⟩
          show (match insD (D.adr a) G' with | some (C', fs) => _ | none => _)
          rw [hi2]
          refine ⟨rfl, hM.tr, ?_⟩
          refine frz2 (fun _ _ h => h) (fun _ _ h => h) (fun _ _ h => h) (fun _ _ h => h) tno ?_
          refine frz1 (fun _ _ h => h) (fun _ _ h => h) ?_
          refine ⟨_, _, _, [("a", .int 1)], _, fs, t, _, _, rfl, .inr rfl, hM.hC, hi2, hM.kn, hM.co, hM.na, hM.cn, hV2, cnts1, hle2, hv, hk, ?_⟩
          refine ⟨z2, ?_⟩
          refine ⟨_, hM.hC, rfl, ?_⟩
          refine frz1 (fun _ _ h => h) (fun _ _ h => h) ?_
          show (match insD (D.adr a) G' with | some (C', fs) => _ | none => _)
          rw [hi2]
          refine ⟨rfl, fun d C fs2 hd he2 => by cases hd; rw [hi2] at he2; cases he2; exact hM.tr, ?_⟩
          refine ⟨_, .non, _, [], _, fs, t, _, _, rfl, .inl ⟨rfl, rfl⟩, hM.hC, hi2, hM.kn, hM.co, hM.na, hM.cn, hV1, cnts0, hle, hv, hk, ?_⟩
          refine ⟨z1, z3, rp _ _ ?_⟩
          refine ⟨z1, ⟨by decide, by decide, z2⟩, z1, z3, rp _ _ ?_⟩
          refine neI_t rok ?_
          exact hN _ _ ⟨rfl, _, _, _, rfl⟩
        · rename_i i
          refine neI_f o2 o4 (by decide +kernel) ?_
          refine eqI_f o2 o1 (by decide +kernel) ?_
          refine eqI_f o2 o3 (by decide +kernel) ?_
          have hk : KnownIs T.C_Below T.C_UpTo T.C_Equals T.C_Missing T.C_UpTo fs  (.int i) (.bl (decide (i ≤ n))) := hk0
          clear hk0
          dsimp only
          generalize decide (i ≤ n) = b at hk ⊢
          cases b
          · obtain ⟨rx, rok, rp⟩ := rp3 (due := .bl false) (.inr (.inr rfl))
            refine ⟨_, hM.hC, ?_⟩
            show (match insD (D.adr a) G' with | some (C', fs) => _ | none => _)
            rw [hi2]
            refine ⟨rfl, hM.tr, ?_⟩
            refine frz1 (fun _ _ h => h) (fun _ _ h => h) ?_
            refine ⟨_, .non, _, [], _, fs, t, _, _, rfl, .inl ⟨rfl, rfl⟩, hM.hC, hi2, hM.kn, hM.co, hM.na, hM.cn, hV1, cnts0, hle, hv, hk, ?_⟩
            refine ⟨_, hM.hC, ?_⟩
            show (match insD (D.adr a) G' with | some (C', fs) => _ | none => _)
            rw [hi2]
            refine ⟨rfl, hM.tr, ?_⟩
            refine frz2 (fun _ _ h => h) (fun _ _ h => h) (fun _ _ h => h) (fun _ _ h => h) tno ?_
            refine frz1 (fun _ _ h => h) (fun _ _ h => h) ?_
            refine ⟨_, _, _, [("a", .int 1)], _, fs, t, _, _, rfl, .inr rfl, hM.hC, hi2, hM.kn, hM.co, hM.na, hM.cn, hV2, cnts1, hle2, hv, hk, ?_⟩
            refine ⟨z2, ?_⟩
            refine ⟨_, hM.hC, rfl, ?_⟩
            refine frz1 (fun _ _ h => h) (fun _ _ h => h) ?_
            show (match insD (D.adr a) G' with | some (C', fs) => _ | none => _)
            rw [hi2]
            refine ⟨rfl, fun d C fs2 hd he2 => by cases hd; rw [hi2] at he2; cases he2; exact hM.tr, ?_⟩
            refine ⟨_, .non, _, [], _, fs, t, _, _, rfl, .inl ⟨rfl, rfl⟩, hM.hC, hi2, hM.kn, hM.co, hM.na, hM.cn, hV1, cnts0, hle, hv, hk, ?_⟩
            refine ⟨z1, z3, rp _ _ ?_⟩
            refine ⟨z1, ⟨by decide, by decide, z2⟩, z1, z3, rp _ _ ?_⟩
            refine neI_t rok ?_
            exact hN _ _ ⟨rfl, _, _, _, rfl⟩
          · obtain ⟨rx, rok, rp⟩ := rp3 (due := .bl true) (.inr (.inl rfl))
            refine ⟨_, hM.hC, ?_⟩
            show (match insD (D.adr a) G' with | some (C', fs) => _ | none => _)
            rw [hi2]
            refine ⟨rfl, hM.tr, ?_⟩
            refine frz1 (fun _ _ h => h) (fun _ _ h => h) ?_
            refine ⟨_, .non, _, [], _, fs, t, _, _, rfl, .inl ⟨rfl, rfl⟩, hM.hC, hi2, hM.kn, hM.co, hM.na, hM.cn, hV1, cnts0, hle, hv, hk, ?_⟩
            refine ⟨_, hM.hC, ?_⟩
            show (match insD (D.adr a) G' with | some (C', fs) => _ | none => _)
            rw [hi2]
            refine ⟨rfl, hM.tr, ?_⟩
            refine frz2 (fun _ _ h => h) (fun _ _ h => h) (fun _ _ h => h) (fun _ _ h => h) tno ?_
            refine frz1 (fun _ _ h => h) (fun _ _ h => h) ?_
            refine ⟨_, _, _, [("a", .int 1)], _, fs, t, _, _, rfl, .inr rfl, hM.hC, hi2, hM.kn, hM.co, hM.na, hM.cn, hV2, cnts1, hle2, hv, hk, ?_⟩
            refine ⟨z2, ?_⟩
            refine ⟨_, hM.hC, rfl, ?_⟩
            refine frz1 (fun _ _ h => h) (fun _ _ h => h) ?_
            show (match insD (D.adr a) G' with | some (C', fs) => _ | none => _)
            rw [hi2]
            refine ⟨rfl, fun d C fs2 hd he2 => by cases hd; rw [hi2] at he2; cases he2; exact hM.tr, ?_⟩
            refine ⟨_, .non, _, [], _, fs, t, _, _, rfl, .inl ⟨rfl, rfl⟩, hM.hC, hi2, hM.kn, hM.co, hM.na, hM.cn, hV1, cnts0, hle, hv, hk, ?_⟩
            refine ⟨z1, z3, rp _ _ ?_⟩
            refine ⟨z1, ⟨by decide, by decide, z2⟩, z1, z3, rp _ _ ?_⟩
            refine neI_t rok ?_
            exact hN _ _ ⟨rfl, _, _, _, rfl⟩
      · obtain ⟨rfl, x6, x7, x8, rfl⟩ := hI
        refine ⟨_, hM.hC, ?_⟩
        show (match insD (D.adr a) G' with | some (C', fs) => _ | none => _)
        rw [hi2]
        refine ⟨rfl, hM.tr, ?_⟩
        dsimp only [dCons, dC, dNil]
        refine frz1 (tk := dVar 2) (tv := fun _ G Q => Q .non G) (x := t) (v := .non) (δ := [some (.adr p), some (.str "<="), some (.str t), some (.int n), some (.adr a), some (.str x), x6, x7, x8]) (fun _ _ h => h) (fun _ _ h => h) ?_
        refine ⟨rfl, ?_⟩
        refine ⟨_, _, _, [], _, fs, t, .non, .non, rfl, .inr rfl, hM.hC, hi2, hM.kn, hM.co, hM.na, hM.cn, vals1 htN rfl, cnts0, (by simp [List.lookup]), rfl, hM.is .non rfl, ?_⟩
        refine ⟨_, hM.hC, ?_⟩
        show (match insD (D.adr a) G' with | some (C', fs) => _ | none => _)
        rw [hi2]
        refine ⟨rfl, _, _, fs, _, rfl, hi2, hM.cs, ?_⟩
        refine ⟨z1, [a], rfl, rfl, ?_⟩
        obtain ⟨rx, rok, rp⟩ := rp1 (d := .non) (.inl rfl)
        refine rp _ _ ?_
        refine eqI_f o2 o4 (by decide +kernel) ?_
        refine rp _ _ ?_
        refine eqI_t rok ?_
        exact q _ hp2
    · refine eqI_f o3 o1 (by decide +kernel) ⟨rfl, rfl, fun a0 na0 => cmp_ok htN b60 updG_same ?_⟩
      rw [updG_updG]
      refine ⟨rfl, ?_⟩
      have hG0 : (updG G a0 (.ins T.C_UpTo (condF (.str t) (.str (belowT t n " <= ")) a0 ++ ([("number", .int n)] : List (Str × D))))) p = some (.pen m) := (updG_ne (ap a0 na0)).trans hG
      generalize (updG G a0 (.ins T.C_UpTo (condF (.str t) (.str (belowT t n " <= ")) a0 ++ ([("number", .int n)] : List (Str × D))))) = G0 at hG0 ⊢
      have ap : ∀ a, G0 a = none → p ≠ a := fun a na e => by rw [e, na] at hG0; cases hG0
      refine eqI_t o3 ⟨rfl, rfl, fun a na => cmp_ok htN b60 updG_same ?_⟩
      rw [updG_updG]
      refine ⟨rfl, ?_⟩
      refine eqI_f o3 o4 (by decide +kernel) ?_
      refine eqI_f o3 o4 (by decide +kernel) ?_
      refine ⟨by omega, by rw [la]; omega, by rw [la, la]; omega, log_num b60, by rw [la, la, la]; omega, ?_⟩
      rw [text, show (Str.ofString " " ++ Str.ofString "=") ++ Str.ofString " " = Str.ofString " = " from by decide +kernel]
      have okx : PyData.strOk (belowT t n " = ") = true := okt _ (by decide +kernel)
      have hM := made_eq (T := T) (a := a) (t := t) (x := belowT t n " = ") (n := n)
      have hp : (updG G0 a (.ins T.C_Equals (condF (.str t) (.str (belowT t n " = ")) a ++ ([("number", .int n)] : List (Str × D))))) p = some (.pen m) := (updG_ne (ap a na)).trans hG0
      have hGa : (updG G0 a (.ins T.C_Equals (condF (.str t) (.str (belowT t n " = ")) a ++ ([("number", .int n)] : List (Str × D))))) a = some (.ins T.C_Equals (condF (.str t) (.str (belowT t n " = ")) a ++ ([("number", .int n)] : List (Str × D)))) := updG_same
      have hi := insD_adr hGa
      generalize updG G0 a (.ins T.C_Equals (condF (.str t) (.str (belowT t n " = ")) a ++ ([("number", .int n)] : List (Str × D)))) = G1 at hp hi hGa ⊢
      generalize condF (.str t) (.str (belowT t n " = ")) a ++ ([("number", .int n)] : List (Str × D)) = fs at hM hi hGa
      show gNameD 5 (.str (belowT t n " = ")) _ G1 _
      generalize belowT t n " = " = x at hM okx ⊢
      refine ⟨_, true, .ins hi, fam_ki_Condition T _ hM.hD, ?_⟩
      refine ⟨_, true, .ins hi, fam_ki_Test T _ hM.hC, ?_⟩
      refine ⟨_, hM.hC, ?_⟩
      show (match insD (D.adr a) G1 with | some (C', _) => _ | none => _)
      rw [hi]
      refine ⟨rfl, _, _, fs, x, rfl, hi, hM.tx, ?_⟩
      refine neI_t okx ?_
      refine ⟨_, hM.hC, ?_⟩
      show (match insD (D.adr a) G1 with | some (C', _) => _ | none => _)
      rw [hi]
      refine ⟨rfl, _, _, fs, _, rfl, hi, hM.co, ?_⟩
      refine ⟨z1, neI_self plt ?_⟩
      refine ⟨_, hM.hC, ?_⟩
      show (match insD (D.adr a) G1 with | some (C', _) => _ | none => _)
      rw [hi]
      refine ⟨rfl, _, _, fs, _, rfl, hi, hM.na, ?_⟩
      refine ⟨z0, neI_self plt0 ?_⟩
      refine ⟨_, hM.hC, ?_⟩
      show (match insD (D.adr a) G1 with | some (C', _) => _ | none => _)
      rw [hi]
      refine ⟨rfl, _, _, fs, _, rfl, hi, hM.sz, ?_⟩
      refine neI_self pl_int ?_
      refine ⟨⟨by decide, by decide, by decide⟩, ⟨by decide, by decide, by decide⟩, ?_⟩
      refine ⟨p, 20, m, rfl, hp, by decide, by decide, by omega, fun r r0 r1 => ?_⟩
      refine ⟨by show 8 ≤ sizeLine; omega, ?_⟩
      have hG2 : ∃ G2, G2 = updG G1 p (.pen (m + 1)) := ⟨_, rfl⟩
      obtain ⟨G2, eG2⟩ := hG2
      rw [← eG2]
      have hp2 : G2 p = some (.pen (m + 1)) := by rw [eG2, updG_same]
      have hi2 : insD (D.adr a) G2 = some (T.C_Equals, fs) := by
        refine insD_adr ?_
        rw [eG2, updG_ne (Ne.symm (ap a na))]
        exact hGa
      refine for_inv (n := 8) (fun j δ G' => G' = G2 ∧ ∃ x6 x7 x8, δ = [some (.adr p), some (.str "="), some (.str t), some (.int n), some (.adr a), some (.str x), x6, x7, x8]) _ 0 _ _ rfl (fun j δ G' e N he hj hI hN => ?_) ⟨rfl, none, none, none, rfl⟩ (fun δ G' hI => ?_)
      · obtain ⟨rfl, x6, x7, x8, rfl⟩ := hI
        have hv : isVal e = true := by
          simp only [List.mem_cons, List.not_mem_nil, or_false] at he
          rcases he with rfl | rfl | rfl | rfl | rfl | rfl | rfl | rfl <;> rfl
        clear he
        have hle : ([(t, e)] : List (Str × D)).lookup t = some e := by simp [List.lookup]
        have hle2 : ([(t, e), ("other", .int 7)] : List (Str × D)).lookup t = some e := by simp [List.lookup]
        have hV1 := vals1 htN hv
        have hV2 := vals2 htN hv tno
        have hk0 := hM.is _ hv
        cases e <;> first | (cases hv; done) | skip
        · refine neI_f o3 o4 (by decide +kernel) ?_
          refine eqI_t o3 ?_
          obtain ⟨rx, rok, rp⟩ := rp3 (due := .non) (.inl rfl)
          have hk : KnownIs T.C_Below T.C_UpTo T.C_Equals T.C_Missing T.C_Equals fs  .non .non := hk0
          clear hk0
          refine ⟨_, hM.hC, ?_⟩
          show (match insD (D.adr a) G' with | some (C', fs) => _ | none => _)
          rw [hi2]
          refine ⟨rfl, hM.tr, ?_⟩
          refine frz1 (fun _ _ h => h) (fun _ _ h => h) ?_
          refine ⟨_, .non, _, [], _, fs, t, _, _, rfl, .inl ⟨rfl, rfl⟩, hM.hC, hi2, hM.kn, hM.co, hM.na, hM.cn, hV1, cnts0, hle, hv, hk, ?_⟩
          refine ⟨_, hM.hC, ?_⟩
          show (match insD (D.adr a) G' with | some (C', fs) => _ | none => _)
          rw [hi2]
          refine ⟨rfl, hM.tr, ?_⟩
          refine frz2 (fun _ _ h => h) (fun _ _ h => h) (fun _ _ h => h) (fun _ _ h => h) tno ?_
          refine frz1 (fun _ _ h => h) (fun _ _ h => h) ?_
          refine ⟨_, _, _, [("a", .int 1)], _, fs, t, _, _, rfl, .inr rfl, hM.hC, hi2, hM.kn, hM.co, hM.na, hM.cn, hV2, cnts1, hle2, hv, hk, ?_⟩
          refine ⟨z2, ?_⟩
          refine ⟨_, hM.hC, rfl, ?_⟩
          refine frz1 (fun _ _ h => h) (fun _ _ h => h) ?_
          show (match insD (D.adr a) G' with | some (C', fs) => _ | none => _)
          rw [hi2]
          refine ⟨rfl, fun d C fs2 hd he2 => by cases hd; rw [hi2] at he2; cases he2; exact hM.tr, ?_⟩
          refine ⟨_, .non, _, [], _, fs, t, _, _, rfl, .inl ⟨rfl, rfl⟩, hM.hC, hi2, hM.kn, hM.co, hM.na, hM.cn, hV1, cnts0, hle, hv, hk, ?_⟩
          refine ⟨z1, z3, rp _ _ ?_⟩
          refine ⟨z1, ⟨by decide, by decide, z2⟩, z1, z3, rp _ _ ?_⟩
          refine neI_t rok ?_
          exact hN _ _ ⟨rfl, _, _, _, rfl⟩
        · rename_i i
          refine neI_f o3 o4 (by decide +kernel) ?_
          refine eqI_f o3 o1 (by decide +kernel) ?_
          refine eqI_t o3 ?_
          refine ⟨pl_int, pl_int, ?_⟩
          rw [eqvD_int]
          have hk : KnownIs T.C_Below T.C_UpTo T.C_Equals T.C_Missing T.C_Equals fs  (.int i) (.bl (decide (i = n))) := hk0
          clear hk0
          dsimp only
          generalize decide (i = n) = b at hk ⊢
          cases b
          · obtain ⟨rx, rok, rp⟩ := rp3 (due := .bl false) (.inr (.inr rfl))
            refine ⟨_, hM.hC, ?_⟩
            show (match insD (D.adr a) G' with | some (C', fs) => _ | none => _)
            rw [hi2]
            refine ⟨rfl, hM.tr, ?_⟩
            refine frz1 (fun _ _ h => h) (fun _ _ h => h) ?_
            refine ⟨_, .non, _, [], _, fs, t, _, _, rfl, .inl ⟨rfl, rfl⟩, hM.hC, hi2, hM.kn, hM.co, hM.na, hM.cn, hV1, cnts0, hle, hv, hk, ?_⟩
            refine ⟨_, hM.hC, ?_⟩
            show (match insD (D.adr a) G' with | some (C', fs) => _ | none => _)
            rw [hi2]
            refine ⟨rfl, hM.tr, ?_⟩
            refine frz2 (fun _ _ h => h) (fun _ _ h => h) (fun _ _ h => h) (fun _ _ h => h) tno ?_
            refine frz1 (fun _ _ h => h) (fun _ _ h => h) ?_
            refine ⟨_, _, _, [("a", .int 1)], _, fs, t, _, _, rfl, .inr rfl, hM.hC, hi2, hM.kn, hM.co, hM.na, hM.cn, hV2, cnts1, hle2, hv, hk, ?_⟩
            refine ⟨z2, ?_⟩
            refine ⟨_, hM.hC, rfl, ?_⟩
            refine frz1 (fun _ _ h => h) (fun _ _ h => h) ?_
            show (match insD (D.adr a) G' with | some (C', fs) => _ | none => _)
            rw [hi2]
            refine ⟨rfl, fun d C fs2 hd he2 => by cases hd; rw [hi2] at he2; cases he2; exact hM.tr, ?_⟩
            refine ⟨_, .non, _, [], _, fs, t, _, _, rfl, .inl ⟨rfl, rfl⟩, hM.hC, hi2, hM.kn, hM.co, hM.na, hM.cn, hV1, cnts0, hle, hv, hk, ?_⟩
            refine ⟨z1, z3, rp _ _ ?_⟩
            refine ⟨z1, ⟨by decide, by decide, z2⟩, z1, z3, rp _ _ ?_⟩
            refine neI_t rok ?_
            exact hN _ _ ⟨rfl, _, _, _, rfl⟩
          · obtain ⟨rx, rok, rp⟩ := rp3 (due := .bl true) (.inr (.inl rfl))
            refine ⟨_, hM.hC, ?_⟩
            show (match insD (D.adr a) G' with | some (C', fs) => _ | none => _)
            rw [hi2]
            refine ⟨rfl, hM.tr, ?_⟩
            refine frz1 (fun _ _ h => h) (fun _ _ h => h) ?_
            refine ⟨_, .non, _, [], _, fs, t, _, _, rfl, .inl ⟨rfl, rfl⟩, hM.hC, hi2, hM.kn, hM.co, hM.na, hM.cn, hV1, cnts0, hle, hv, hk, ?_⟩
            refine ⟨_, hM.hC, ?_⟩
            show (match insD (D.adr a) G' with | some (C', fs) => _ | none => _)
            rw [hi2]
            refine ⟨rfl, hM.tr, ?_⟩
            refine frz2 (fun _ _ h => h) (fun _ _ h => h) (fun _ _ h => h) (fun _ _ h => h) tno ?_
            refine frz1 (fun _ _ h => h) (fun _ _ h => h) ?_
            refine ⟨_, _, _, [("a", .int 1)], _, fs, t, _, _, rfl, .inr rfl, hM.hC, hi2, hM.kn, hM.co, hM.na, hM.cn, hV2, cnts1, hle2, hv, hk, ?_⟩
            refine ⟨z2, ?_⟩
            refine ⟨_, hM.hC, rfl, ?_⟩
            refine frz1 (fun _ _ h => h) (fun _ _ h => h) ?_
            show (match insD (D.adr a) G' with | some (C', fs) => _ | none => _)
            rw [hi2]
            refine ⟨rfl, fun d C fs2 hd he2 => by cases hd; rw [hi2] at he2; cases he2; exact hM.tr, ?_⟩
            refine ⟨_, .non, _, [], _, fs, t, _, _, rfl, .inl ⟨rfl, rfl⟩, hM.hC, hi2, hM.kn, hM.co, hM.na, hM.cn, hV1, cnts0, hle, hv, hk, ?_⟩
            refine ⟨z1, z3, rp _ _ ?_⟩
            refine ⟨z1, ⟨by decide, by decide, z2⟩, z1, z3, rp _ _ ?_⟩
            refine neI_t rok ?_
            exact hN _ _ ⟨rfl, _, _, _, rfl⟩
      · obtain ⟨rfl, x6, x7, x8, rfl⟩ := hI
        refine ⟨_, hM.hC, ?_⟩
        show (match insD (D.adr a) G' with | some (C', fs) => _ | none => _)
        rw [hi2]
        refine ⟨rfl, hM.tr, ?_⟩
        dsimp only [dCons, dC, dNil]
        refine frz1 (tk := dVar 2) (tv := fun _ G Q => Q .non G) (x := t) (v := .non) (δ := [some (.adr p), some (.str "="), some (.str t), some (.int n), some (.adr a), some (.str x), x6, x7, x8]) (fun _ _ h => h) (fun _ _ h => h) ?_
        refine ⟨rfl, ?_⟩
        refine ⟨_, _, _, [], _, fs, t, .non, .non, rfl, .inr rfl, hM.hC, hi2, hM.kn, hM.co, hM.na, hM.cn, vals1 htN rfl, cnts0, (by simp [List.lookup]), rfl, hM.is .non rfl, ?_⟩
        refine ⟨_, hM.hC, ?_⟩
        show (match insD (D.adr a) G' with | some (C', fs) => _ | none => _)
        rw [hi2]
        refine ⟨rfl, _, _, fs, _, rfl, hi2, hM.cs, ?_⟩
        refine ⟨z1, [a], rfl, rfl, ?_⟩
        obtain ⟨rx, rok, rp⟩ := rp1 (d := .non) (.inl rfl)
        refine rp _ _ ?_
        refine eqI_f o3 o4 (by decide +kernel) ?_
        refine rp _ _ ?_
        refine eqI_t rok ?_
        exact q _ hp2
    · refine eqI_f o4 o1 (by decide +kernel) ⟨rfl, rfl, fun a0 na0 => cmp_ok htN b60 updG_same ?_⟩
      rw [updG_updG]
      refine ⟨rfl, ?_⟩
      have hG0 : (updG G a0 (.ins T.C_UpTo (condF (.str t) (.str (belowT t n " <= ")) a0 ++ ([("number", .int n)] : List (Str × D))))) p = some (.pen m) := (updG_ne (ap a0 na0)).trans hG
      generalize (updG G a0 (.ins T.C_UpTo (condF (.str t) (.str (belowT t n " <= ")) a0 ++ ([("number", .int n)] : List (Str × D))))) = G0 at hG0 ⊢
      have ap : ∀ a, G0 a = none → p ≠ a := fun a na e => by rw [e, na] at hG0; cases hG0
      refine eqI_f o4 o3 (by decide +kernel) ?_
      refine eqI_t o4 ⟨rfl, rfl, fun a na => miss_ok htN updG_same ?_⟩
      rw [updG_updG]
      refine ⟨rfl, ?_⟩
      refine eqI_t o4 ⟨by omega, ?_⟩
      have okx : PyData.strOk ((Str.empty ++ t) ++ Str.ofString " null") = true := by rw [ok_app, ok_app, okT]; decide +kernel
      rw [show t ++ Str.ofString " null" = (Str.empty ++ t) ++ Str.ofString " null" from by rw [Str.empty_append]]
      have hM := made_no (T := T) (a := a) (t := t) (x := (Str.empty ++ t) ++ Str.ofString " null")
      have hp : (updG G0 a (.ins T.C_Missing (condF (.str t) (.str ((Str.empty ++ t) ++ Str.ofString " null")) a))) p = some (.pen m) := (updG_ne (ap a na)).trans hG0
      have hGa : (updG G0 a (.ins T.C_Missing (condF (.str t) (.str ((Str.empty ++ t) ++ Str.ofString " null")) a))) a = some (.ins T.C_Missing (condF (.str t) (.str ((Str.empty ++ t) ++ Str.ofString " null")) a)) := updG_same
      have hi := insD_adr hGa
      generalize updG G0 a (.ins T.C_Missing (condF (.str t) (.str ((Str.empty ++ t) ++ Str.ofString " null")) a)) = G1 at hp hi hGa ⊢
      generalize condF (.str t) (.str ((Str.empty ++ t) ++ Str.ofString " null")) a = fs at hM hi hGa
      show gNameD 5 (.str ((Str.empty ++ t) ++ Str.ofString " null")) _ G1 _
      generalize (Str.empty ++ t) ++ Str.ofString " null" = x at hM okx ⊢
      refine ⟨_, true, .ins hi, fam_ki_Condition T _ hM.hD, ?_⟩
      refine ⟨_, true, .ins hi, fam_ki_Test T _ hM.hC, ?_⟩
      refine ⟨_, hM.hC, ?_⟩
      show (match insD (D.adr a) G1 with | some (C', _) => _ | none => _)
      rw [hi]
      refine ⟨rfl, _, _, fs, x, rfl, hi, hM.tx, ?_⟩
      refine neI_t okx ?_
      refine ⟨_, hM.hC, ?_⟩
      show (match insD (D.adr a) G1 with | some (C', _) => _ | none => _)
      rw [hi]
      refine ⟨rfl, _, _, fs, _, rfl, hi, hM.co, ?_⟩
      refine ⟨z1, neI_self plt ?_⟩
      refine ⟨_, hM.hC, ?_⟩
      show (match insD (D.adr a) G1 with | some (C', _) => _ | none => _)
      rw [hi]
      refine ⟨rfl, _, _, fs, _, rfl, hi, hM.na, ?_⟩
      refine ⟨z0, neI_self plt0 ?_⟩
      refine ⟨_, hM.hC, ?_⟩
      show (match insD (D.adr a) G1 with | some (C', _) => _ | none => _)
      rw [hi]
      refine ⟨rfl, _, _, fs, _, rfl, hi, hM.sz, ?_⟩
      refine neI_self pl_int ?_
      refine ⟨⟨by decide, by decide, by decide⟩, ⟨by decide, by decide, by decide⟩, ?_⟩
      refine ⟨p, 20, m, rfl, hp, by decide, by decide, by omega, fun r r0 r1 => ?_⟩
      refine ⟨by show 8 ≤ sizeLine; omega, ?_⟩
      have hG2 : ∃ G2, G2 = updG G1 p (.pen (m + 1)) := ⟨_, rfl⟩
      obtain ⟨G2, eG2⟩ := hG2
      rw [← eG2]
      have hp2 : G2 p = some (.pen (m + 1)) := by rw [eG2, updG_same]
      have hi2 : insD (D.adr a) G2 = some (T.C_Missing, fs) := by
        refine insD_adr ?_
        rw [eG2, updG_ne (Ne.symm (ap a na))]
        exact hGa
      refine for_inv (n := 8) (fun j δ G' => G' = G2 ∧ ∃ x6 x7 x8, δ = [some (.adr p), some (.str "null"), some (.str t), some (.int n), some (.adr a), some (.str x), x6, x7, x8]) _ 0 _ _ rfl (fun j δ G' e N he hj hI hN => ?_) ⟨rfl, none, none, none, rfl⟩ (fun δ G' hI => ?_)
      · obtain ⟨rfl, x6, x7, x8, rfl⟩ := hI
        have hv : isVal e = true := by
          simp only [List.mem_cons, List.not_mem_nil, or_false] at he
          rcases he with rfl | rfl | rfl | rfl | rfl | rfl | rfl | rfl <;> rfl
        clear he
        have hle : ([(t, e)] : List (Str × D)).lookup t = some e := by simp [List.lookup]
        have hle2 : ([(t, e), ("other", .int 7)] : List (Str × D)).lookup t = some e := by simp [List.lookup]
        have hV1 := vals1 htN hv
        have hV2 := vals2 htN hv tno
        have hk0 := hM.is _ hv
        cases e <;> first | (cases hv; done) | skip
        · refine neI_t o4 ?_
          obtain ⟨rx, rok, rp⟩ := rp3 (due := .bl true) (.inr (.inl rfl))
          have hk : KnownIs T.C_Below T.C_UpTo T.C_Equals T.C_Missing T.C_Missing fs  .non (.bl true) := hk0
          clear hk0
          refine ⟨_, hM.hC, ?_⟩
          show (match insD (D.adr a) G' with | some (C', fs) => _ | none => _)
          rw [hi2]
          refine ⟨rfl, hM.tr, ?_⟩
          refine frz1 (fun _ _ h => h) (fun _ _ h => h) ?_
          refine ⟨_, .non, _, [], _, fs, t, _, _, rfl, .inl ⟨rfl, rfl⟩, hM.hC, hi2, hM.kn, hM.co, hM.na, hM.cn, hV1, cnts0, hle, hv, hk, ?_⟩
          refine ⟨_, hM.hC, ?_⟩
          show (match insD (D.adr a) G' with | some (C', fs) => _ | none => _)
          rw [hi2]
          refine ⟨rfl, hM.tr, ?_⟩
          refine frz2 (fun _ _ h => h) (fun _ _ h => h) (fun _ _ h => h) (fun _ _ h => h) tno ?_
          refine frz1 (fun _ _ h => h) (fun _ _ h => h) ?_
          refine ⟨_, _, _, [("a", .int 1)], _, fs, t, _, _, rfl, .inr rfl, hM.hC, hi2, hM.kn, hM.co, hM.na, hM.cn, hV2, cnts1, hle2, hv, hk, ?_⟩
          refine ⟨z2, ?_⟩
          refine ⟨_, hM.hC, rfl, ?_⟩
          refine frz1 (fun _ _ h => h) (fun _ _ h => h) ?_
          show (match insD (D.adr a) G' with | some (C', fs) => _ | none => _)
          rw [hi2]
          refine ⟨rfl, fun d C fs2 hd he2 => by cases hd; rw [hi2] at he2; cases he2; exact hM.tr, ?_⟩
          refine ⟨_, .non, _, [], _, fs, t, _, _, rfl, .inl ⟨rfl, rfl⟩, hM.hC, hi2, hM.kn, hM.co, hM.na, hM.cn, hV1, cnts0, hle, hv, hk, ?_⟩
          refine ⟨z1, z3, rp _ _ ?_⟩
          refine ⟨z1, ⟨by decide, by decide, z2⟩, z1, z3, rp _ _ ?_⟩
          refine neI_t rok ?_
          exact hN _ _ ⟨rfl, _, _, _, rfl⟩
        · rename_i i
          refine neI_t o4 ?_
          obtain ⟨rx, rok, rp⟩ := rp3 (due := .bl false) (.inr (.inr rfl))
          have hk : KnownIs T.C_Below T.C_UpTo T.C_Equals T.C_Missing T.C_Missing fs  (.int i) (.bl false) := hk0
          clear hk0
          refine ⟨_, hM.hC, ?_⟩
          show (match insD (D.adr a) G' with | some (C', fs) => _ | none => _)
          rw [hi2]
          refine ⟨rfl, hM.tr, ?_⟩
          refine frz1 (fun _ _ h => h) (fun _ _ h => h) ?_
          refine ⟨_, .non, _, [], _, fs, t, _, _, rfl, .inl ⟨rfl, rfl⟩, hM.hC, hi2, hM.kn, hM.co, hM.na, hM.cn, hV1, cnts0, hle, hv, hk, ?_⟩
          refine ⟨_, hM.hC, ?_⟩
          show (match insD (D.adr a) G' with | some (C', fs) => _ | none => _)
          rw [hi2]
          refine ⟨rfl, hM.tr, ?_⟩
          refine frz2 (fun _ _ h => h) (fun _ _ h => h) (fun _ _ h => h) (fun _ _ h => h) tno ?_
          refine frz1 (fun _ _ h => h) (fun _ _ h => h) ?_
          refine ⟨_, _, _, [("a", .int 1)], _, fs, t, _, _, rfl, .inr rfl, hM.hC, hi2, hM.kn, hM.co, hM.na, hM.cn, hV2, cnts1, hle2, hv, hk, ?_⟩
          refine ⟨z2, ?_⟩
          refine ⟨_, hM.hC, rfl, ?_⟩
          refine frz1 (fun _ _ h => h) (fun _ _ h => h) ?_
          show (match insD (D.adr a) G' with | some (C', fs) => _ | none => _)
          rw [hi2]
          refine ⟨rfl, fun d C fs2 hd he2 => by cases hd; rw [hi2] at he2; cases he2; exact hM.tr, ?_⟩
          refine ⟨_, .non, _, [], _, fs, t, _, _, rfl, .inl ⟨rfl, rfl⟩, hM.hC, hi2, hM.kn, hM.co, hM.na, hM.cn, hV1, cnts0, hle, hv, hk, ?_⟩
          refine ⟨z1, z3, rp _ _ ?_⟩
          refine ⟨z1, ⟨by decide, by decide, z2⟩, z1, z3, rp _ _ ?_⟩
          refine neI_t rok ?_
          exact hN _ _ ⟨rfl, _, _, _, rfl⟩
      · obtain ⟨rfl, x6, x7, x8, rfl⟩ := hI
        refine ⟨_, hM.hC, ?_⟩
        show (match insD (D.adr a) G' with | some (C', fs) => _ | none => _)
        rw [hi2]
        refine ⟨rfl, hM.tr, ?_⟩
        dsimp only [dCons, dC, dNil]
        refine frz1 (tk := dVar 2) (tv := fun _ G Q => Q .non G) (x := t) (v := .non) (δ := [some (.adr p), some (.str "null"), some (.str t), some (.int n), some (.adr a), some (.str x), x6, x7, x8]) (fun _ _ h => h) (fun _ _ h => h) ?_
        refine ⟨rfl, ?_⟩
        refine ⟨_, _, _, [], _, fs, t, .non, .bl true, rfl, .inr rfl, hM.hC, hi2, hM.kn, hM.co, hM.na, hM.cn, vals1 htN rfl, cnts0, (by simp [List.lookup]), rfl, hM.is .non rfl, ?_⟩
        refine ⟨_, hM.hC, ?_⟩
        show (match insD (D.adr a) G' with | some (C', fs) => _ | none => _)
        rw [hi2]
        refine ⟨rfl, _, _, fs, _, rfl, hi2, hM.cs, ?_⟩
        refine ⟨z1, [a], rfl, rfl, ?_⟩
        obtain ⟨rx, rok, rp⟩ := rp1 (d := .bl true) (.inr rfl)
        refine rp _ _ ?_
        refine eqI_t o4 ?_
        refine rp _ _ ?_
        refine eqI_t rok ?_
        exact q _ hp2
end
section
open TL
variable {P : Program} {w : World} {K : PySem.W.Frag} {mg : Str → Option Value} {base : Heap}
theorem num_inj {a b : Int} (h : numS a = numS b) : a = b := by
  have e : tl (numS a) = tl (numS b) := congrArg tl h
  cases a with
  | ofNat m =>
    rw [show (Int.ofNat m) = (m : Int) from rfl, tl_num0] at e
    cases b with
    | ofNat k =>
      rw [show (Int.ofNat k) = (k : Int) from rfl, tl_num0] at e
      have := congrArg NumText.digitsVal e
      rw [numL_val, numL_val] at this
      rw [this]
    | negSucc k =>
      rw [tl_numN] at e
      have := numL_digits m 45 (by rw [e]; exact List.mem_cons_self)
      omega
  | negSucc m =>
    rw [tl_numN] at e
    cases b with
    | ofNat k =>
      rw [show (Int.ofNat k) = (k : Int) from rfl, tl_num0] at e
      have := numL_digits k 45 (by rw [← e]; exact List.mem_cons_self)
      omega
    | negSucc k =>
      rw [tl_numN] at e
      injection e with _ e
      have := congrArg NumText.digitsVal e
      rw [numL_val, numL_val] at this
      have : m = k := by omega
      rw [this]
/-- two texts that differ ahead of what follows -/
theorem ne_at {s1 s2 : Str} (i : Nat) (h : (tl s1)[i]? ≠ (tl s2)[i]? ∧ i < (tl s1).length ∧ i < (tl s2).length) {n1 n2 : Str} : s1 ++ n1 ≠ s2 ++ n2 := fun e => by
  have := congrArg (fun z => (tl z)[i]?) e
  simp only [tl_append] at this
  rw [List.getElem?_append_left h.2.1, List.getElem?_append_left h.2.2] at this
  exact h.1 this
theorem ne_atL {s1 s2 : Str} (i : Nat) (h : (tl s1)[i]? ≠ (tl s2)[i]? ∧ i < (tl s1).length) {n1 : Str} : s1 ++ n1 ≠ s2 := fun e => by
  have := congrArg (fun z => (tl z)[i]?) e
  simp only [tl_append] at this
  rw [List.getElem?_append_left h.2] at this
  exact h.1 this
/-- the texts of the law -/
def missT (t : Str) : Str := (Str.empty ++ t) ++ Str.ofString " null"
def ne18 (x0 x1 x2 x3 x4 x5 x6 : Str) : Prop :=
  (x0 ≠ x1 ∧ x0 ≠ x2 ∧ x0 ≠ x3 ∧ x1 ≠ x2 ∧ x1 ≠ x3 ∧ x2 ≠ x3) ∧ (x4 ≠ x0 ∧ x4 ≠ x1 ∧ x4 ≠ x2 ∧ x4 ≠ x3) ∧ (x5 ≠ x0 ∧ x5 ≠ x1 ∧ x5 ≠ x2 ∧ x5 ≠ x3) ∧ (x6 ≠ x0 ∧ x6 ≠ x1 ∧ x6 ≠ x2 ∧ x6 ≠ x3)
theorem texts_ne {t : Str} (n : Int) (ht : t ∈ (["x", "y", "col", "abcdefgh", "in"] : List Str)) : ne18 (belowT t n " < ") (belowT t n " <= ") (belowT t n " = ") (missT t) (belowT "z" n " < ") (belowT t (n + 1) " < ") (missT "z") := by
  have inj : ∀ s : Str, s ++ numS (n + 1) ≠ s ++ numS n := fun s h => by
    have e := congrArg tl h
    rw [tl_append, tl_append] at e
    have e2 : tl (numS (n + 1)) = tl (numS n) := List.append_cancel_left e
    have e3 : numS (n + 1) = numS n := ext_tl e2
    have := num_inj e3
    omega
  simp only [List.mem_cons, List.not_mem_nil, or_false] at ht
  unfold ne18 missT belowT
  rcases ht with rfl | rfl | rfl | rfl | rfl
  · exact ⟨⟨ne_at 3 (by decide +kernel), ne_at 2 (by decide +kernel), ne_atL 2 (by decide +kernel), ne_at 2 (by decide +kernel), ne_atL 2 (by decide +kernel), ne_atL 2 (by decide +kernel)⟩, ⟨ne_at 0 (by decide +kernel), ne_at 0 (by decide +kernel), ne_at 0 (by decide +kernel), ne_atL 0 (by decide +kernel)⟩, ⟨inj _, ne_at 3 (by decide +kernel), ne_at 2 (by decide +kernel), ne_atL 2 (by decide +kernel)⟩, ⟨Ne.symm (ne_atL 0 (by decide +kernel)), Ne.symm (ne_atL 0 (by decide +kernel)), Ne.symm (ne_atL 0 (by decide +kernel)), by decide +kernel⟩⟩
  · exact ⟨⟨ne_at 3 (by decide +kernel), ne_at 2 (by decide +kernel), ne_atL 2 (by decide +kernel), ne_at 2 (by decide +kernel), ne_atL 2 (by decide +kernel), ne_atL 2 (by decide +kernel)⟩, ⟨ne_at 0 (by decide +kernel), ne_at 0 (by decide +kernel), ne_at 0 (by decide +kernel), ne_atL 0 (by decide +kernel)⟩, ⟨inj _, ne_at 3 (by decide +kernel), ne_at 2 (by decide +kernel), ne_atL 2 (by decide +kernel)⟩, ⟨Ne.symm (ne_atL 0 (by decide +kernel)), Ne.symm (ne_atL 0 (by decide +kernel)), Ne.symm (ne_atL 0 (by decide +kernel)), by decide +kernel⟩⟩
  · exact ⟨⟨ne_at 5 (by decide +kernel), ne_at 4 (by decide +kernel), ne_atL 4 (by decide +kernel), ne_at 4 (by decide +kernel), ne_atL 4 (by decide +kernel), ne_atL 4 (by decide +kernel)⟩, ⟨ne_at 0 (by decide +kernel), ne_at 0 (by decide +kernel), ne_at 0 (by decide +kernel), ne_atL 0 (by decide +kernel)⟩, ⟨inj _, ne_at 5 (by decide +kernel), ne_at 4 (by decide +kernel), ne_atL 4 (by decide +kernel)⟩, ⟨Ne.symm (ne_atL 0 (by decide +kernel)), Ne.symm (ne_atL 0 (by decide +kernel)), Ne.symm (ne_atL 0 (by decide +kernel)), by decide +kernel⟩⟩
  · exact ⟨⟨ne_at 10 (by decide +kernel), ne_at 9 (by decide +kernel), ne_atL 9 (by decide +kernel), ne_at 9 (by decide +kernel), ne_atL 9 (by decide +kernel), ne_atL 9 (by decide +kernel)⟩, ⟨ne_at 0 (by decide +kernel), ne_at 0 (by decide +kernel), ne_at 0 (by decide +kernel), ne_atL 0 (by decide +kernel)⟩, ⟨inj _, ne_at 10 (by decide +kernel), ne_at 9 (by decide +kernel), ne_atL 9 (by decide +kernel)⟩, ⟨Ne.symm (ne_atL 0 (by decide +kernel)), Ne.symm (ne_atL 0 (by decide +kernel)), Ne.symm (ne_atL 0 (by decide +kernel)), by decide +kernel⟩⟩
  · exact ⟨⟨ne_at 4 (by decide +kernel), ne_at 3 (by decide +kernel), ne_atL 3 (by decide +kernel), ne_at 3 (by decide +kernel), ne_atL 3 (by decide +kernel), ne_atL 3 (by decide +kernel)⟩, ⟨ne_at 0 (by decide +kernel), ne_at 0 (by decide +kernel), ne_at 0 (by decide +kernel), ne_atL 0 (by decide +kernel)⟩, ⟨inj _, ne_at 4 (by decide +kernel), ne_at 3 (by decide +kernel), ne_atL 3 (by decide +kernel)⟩, ⟨Ne.symm (ne_atL 0 (by decide +kernel)), Ne.symm (ne_atL 0 (by decide +kernel)), Ne.symm (ne_atL 0 (by decide +kernel)), by decide +kernel⟩⟩
/-- an instance in a list: its class, its fields, its text -/
structure ItC (T : Top K mg w) where
  C : Addr
  fs : List (Str × D)
  x : Str
  hC : C ∈ fam_Test T
  hx : fs.lookup ("_text" : Str) = some (.str x)
def ItC.d {T : Top K mg w} (i : ItC T) : D := .ins i.C i.fs
theorem tab_eq {T : Top K mg w} {i0 i1 i2 i3 i4 i5 i6 : ItC T} (h : ne18 i0.x i1.x i2.x i3.x i4.x i5.x i6.x) (j0 j1 j2 j3 : ItC T) (e0 : j0.x = i0.x) (e1 : j1.x = i1.x) (e2 : j2.x = i2.x) (e3 : j3.x = i3.x) :
    (([i0, i1, i2, i3, i4, i5, i6] : List (ItC T)).map fun i => D.lst (([j0, j1, j2, j3] : List (ItC T)).map fun j => D.bl (decide (i.x = j.x)))) = (List.range 7).map fun (a : Nat) => D.lst ((List.range 4).map fun (s : Nat) => D.bl (decide (a = s))) := by
  obtain ⟨⟨a1, a2, a3, a4, a5, a6⟩, ⟨b1, b2, b3, b4⟩, ⟨c1, c2, c3, c4⟩, ⟨d1, d2, d3, d4⟩⟩ := h
  simp only [List.map_cons, List.map_nil, e0, e1, e2, e3, decide_eq_true rfl, decide_eq_false a1, decide_eq_false a2, decide_eq_false a3, decide_eq_false a4, decide_eq_false a5, decide_eq_false a6, decide_eq_false b1, decide_eq_false b2, decide_eq_false b3, decide_eq_false b4,
    decide_eq_false c1, decide_eq_false c2, decide_eq_false c3, decide_eq_false c4, decide_eq_false d1, decide_eq_false d2, decide_eq_false d3, decide_eq_false d4, decide_eq_false (Ne.symm a1), decide_eq_false (Ne.symm a2), decide_eq_false (Ne.symm a3), decide_eq_false (Ne.symm a4), decide_eq_false (Ne.symm a5), decide_eq_false (Ne.symm a6)]
  rfl
end
section
variable {P : Program} {w : World} {K : PySem.W.Frag} {mg : Str → Option Value} {base : Heap}
theorem fam_nf {T : Top K mg w} {C C2 : Addr} (h : C ∈ fam_Test T) (h2 : C2 ∈ fam_Test T) : PySem.W.notFirst K C (.ref C2) = true := by
  simp only [fam_Test, List.mem_cons, List.not_mem_nil, or_false] at h h2
  have same : ∀ C, PySem.W.notFirst K C (.ref C) = true := fun C => by simp [PySem.W.notFirst]
  rcases h with rfl | rfl | rfl | rfl <;> rcases h2 with rfl | rfl | rfl | rfl
  · exact same _
  · exact T.nf_Below_UpTo
  · exact T.nf_Below_Equals
  · exact T.nf_Below_Missing
  · exact T.nf_UpTo_Below
  · exact same _
  · exact T.nf_UpTo_Equals
  · exact T.nf_UpTo_Missing
  · exact T.nf_Equals_Below
  · exact T.nf_Equals_UpTo
  · exact same _
  · exact T.nf_Equals_Missing
  · exact T.nf_Missing_Below
  · exact T.nf_Missing_UpTo
  · exact T.nf_Missing_Equals
  · exact same _
theorem fam_nfS {T : Top K mg w} {C : Addr} (h : C ∈ fam_Test T) : PySem.W.notFirst K C (.type "str") = true := by
  simp only [fam_Test, List.mem_cons, List.not_mem_nil, or_false] at h
  rcases h with rfl | rfl | rfl | rfl
  · exact T.nf_str_Below
  · exact T.nf_str_UpTo
  · exact T.nf_str_Equals
  · exact T.nf_str_Missing
/-- a value that is refused -/
structure OddX (d : D) (p : PyData) : Prop where
  nm : ∀ G, NameD d G
  tl : ∀ G, Told d G
  cp : cpD d = true
  na : isName d = false
  rp : RpX d p
  ok : PyData.strOk p.shown = true
structure BadX (d : D) (p : PyData) : Prop where
  tl : ∀ G, Told d G
  cp : cpD d = true
  na : isInt d = false
  rp : RpX d p
  ok : PyData.strOk p.shown = true
theorem rpx_pl {d : D} (h : isP d = true) (h2 : (toP d).hasDict = false) (h3 : (toP d).showable = true) (h4 : (toP d).depth ≤ 60) (h5 : (toP d).shown.length ≤ 1000) : RpX d (toP d) := ⟨.plain h h2, h3, h4, h5⟩
def oddL : List D := [.non, .int 0, .str "", .str "X", .str "null", .str "where", .str "a b", .str "abcdefghi", .tup [.str "x"], .lst [], .str "self", .bl true]
theorem odd_x {d : D} (h : d ∈ oddL) : ∃ p, OddX d p := by
  have st : ∀ x : Str, x ∈ poolO → PyData.strOk (toP (.str x)).shown = true → RpX (.str x) (toP (.str x)) → ∃ p, OddX (.str x) p := fun x hx h1 h2 => ⟨_, fun G => .inl ⟨x, rfl, .inr hx⟩, fun G => told_ki (k := .str) rfl, rfl, odd_name x hx, h2, h1⟩
  have oth : ∀ d : D, (∀ G, Told d G) → isB d .str = false → cpD d = true → isName d = false → PyData.strOk (toP d).shown = true → RpX d (toP d) → ∃ p, OddX d p := fun d h1 h2 h3 h4 h5 h6 => ⟨_, fun G => .inr ⟨h1 G, h2⟩, h1, h3, h4, h6, h5⟩
  simp only [oddL, List.mem_cons, List.not_mem_nil, or_false] at h
  rcases h with rfl | rfl | rfl | rfl | rfl | rfl | rfl | rfl | rfl | rfl | rfl | rfl
  · exact oth _ (fun G => told_ki (k := .non) rfl) rfl rfl rfl (by decide +kernel) (rpx_pl (by decide +kernel) (by decide +kernel) (by decide +kernel) (by decide +kernel) (by decide +kernel))
  · exact oth _ (fun G => told_ki (k := .int) rfl) rfl rfl rfl (by decide +kernel) (rpx_pl (by decide +kernel) (by decide +kernel) (by decide +kernel) (by decide +kernel) (by decide +kernel))
  · exact st _ (by decide +kernel) (by decide +kernel) (rpx_pl (by decide +kernel) (by decide +kernel) (by decide +kernel) (by decide +kernel) (by decide +kernel))
  · exact st _ (by decide +kernel) (by decide +kernel) (rpx_pl (by decide +kernel) (by decide +kernel) (by decide +kernel) (by decide +kernel) (by decide +kernel))
  · exact st _ (by decide +kernel) (by decide +kernel) (rpx_pl (by decide +kernel) (by decide +kernel) (by decide +kernel) (by decide +kernel) (by decide +kernel))
  · exact st _ (by decide +kernel) (by decide +kernel) (rpx_pl (by decide +kernel) (by decide +kernel) (by decide +kernel) (by decide +kernel) (by decide +kernel))
  · exact st _ (by decide +kernel) (by decide +kernel) (rpx_pl (by decide +kernel) (by decide +kernel) (by decide +kernel) (by decide +kernel) (by decide +kernel))
  · exact st _ (by decide +kernel) (by decide +kernel) (rpx_pl (by decide +kernel) (by decide +kernel) (by decide +kernel) (by decide +kernel) (by decide +kernel))
  · exact oth _ (fun G => told_ki (k := .tup) rfl) rfl rfl rfl (by decide +kernel) (rpx_pl (by decide +kernel) (by decide +kernel) (by decide +kernel) (by decide +kernel) (by decide +kernel))
  · exact oth _ (fun G => told_ki (k := .lst) rfl) rfl rfl rfl (by decide +kernel) (rpx_pl (by decide +kernel) (by decide +kernel) (by decide +kernel) (by decide +kernel) (by decide +kernel))
  · exact st _ (by decide +kernel) (by decide +kernel) (rpx_pl (by decide +kernel) (by decide +kernel) (by decide +kernel) (by decide +kernel) (by decide +kernel))
  · exact oth _ (fun G => told_ki (k := .bl) rfl) rfl rfl rfl (by decide +kernel) (rpx_pl (by decide +kernel) (by decide +kernel) (by decide +kernel) (by decide +kernel) (by decide +kernel))
def badL : List D := [.non, .bl true, .str "5", .tup [.int 5], .lst [], .dic [], .bl false]
theorem bad_x {d : D} (h : d ∈ badL) : ∃ p, BadX d p := by
  have oth : ∀ d : D, (∀ G, Told d G) → cpD d = true → isInt d = false → PyData.strOk (toP d).shown = true → RpX d (toP d) → ∃ p, BadX d p := fun d h1 h3 h4 h5 h6 => ⟨_, h1, h3, h4, h6, h5⟩
  simp only [badL, List.mem_cons, List.not_mem_nil, or_false] at h
  rcases h with rfl | rfl | rfl | rfl | rfl | rfl | rfl
  · exact oth _ (fun G => told_ki (k := .non) rfl) rfl rfl (by decide +kernel) (rpx_pl (by decide +kernel) (by decide +kernel) (by decide +kernel) (by decide +kernel) (by decide +kernel))
  · exact oth _ (fun G => told_ki (k := .bl) rfl) rfl rfl (by decide +kernel) (rpx_pl (by decide +kernel) (by decide +kernel) (by decide +kernel) (by decide +kernel) (by decide +kernel))
  · exact oth _ (fun G => told_ki (k := .str) rfl) rfl rfl (by decide +kernel) (rpx_pl (by decide +kernel) (by decide +kernel) (by decide +kernel) (by decide +kernel) (by decide +kernel))
  · exact oth _ (fun G => told_ki (k := .tup) rfl) rfl rfl (by decide +kernel) (rpx_pl (by decide +kernel) (by decide +kernel) (by decide +kernel) (by decide +kernel) (by decide +kernel))
  · exact oth _ (fun G => told_ki (k := .lst) rfl) rfl rfl (by decide +kernel) (rpx_pl (by decide +kernel) (by decide +kernel) (by decide +kernel) (by decide +kernel) (by decide +kernel))
  · exact ⟨.dict [], fun G => told_ki (k := .dct) rfl, rfl, rfl, ⟨.dic (kvs := []) (fun q hq => by cases hq), by decide +kernel, by decide +kernel, by decide +kernel⟩, by decide +kernel⟩
  · exact oth _ (fun G => told_ki (k := .bl) rfl) rfl rfl (by decide +kernel) (rpx_pl (by decide +kernel) (by decide +kernel) (by decide +kernel) (by decide +kernel) (by decide +kernel))
theorem var_rd {i : Nat} {δ : SD} {d : D} {G : Gm} {Q : QD} (h : δ[i]? = some (some d)) (q : Q d G) : dVar i δ G Q := by
  unfold dVar
  rw [h]
  exact q
theorem hear_name {CN CB C : Addr} {sg : String} {t : TAD} {c n : D} {pc : PyData} {δ : SD} {G : Gm} {R : QD} (hargs : ∀ N : List D → Gm → Prop, N [c, n] G → t δ G N) (hc : OddX c pc) (hn : Told n G) (hn2 : ∀ G, Told n G) (cn : cpD n = true) (q : R (.tup [.str "name", .str pc.shown]) G) :
    dLam (heardD CN CB) (fun W => dMake C (cmpInitX CN CB C sg) W t) δ G R := by
  unfold dLam heardD
  refine hargs _ fun x nx => ?_
  refine ⟨x, c, n, rfl, updG_same, hc.nm _, hc.cp, hn2 _, cn, fun _ => ⟨c, pc, rfl, hc.rp, .inl ⟨rfl, ?_⟩⟩, fun e => absurd e (by rw [hc.na]; decide), fun y i e1 hy _ => ?_⟩
  · rw [delG_updG nx]
    exact q
  · have := hc.na
    rw [e1, name_ok hy] at this
    cases this
theorem hear_num {CN CB C : Addr} {sg : String} {t : TAD} {x0 : Str} {n : D} {pn : PyData} {δ : SD} {G : Gm} {R : QD} (hargs : ∀ N : List D → Gm → Prop, N [.str x0, n] G → t δ G N) (hx : x0 ∈ poolN) (hn : BadX n pn) (q : R (.tup [.str "number", .str pn.shown]) G) :
    dLam (heardD CN CB) (fun W => dMake C (cmpInitX CN CB C sg) W t) δ G R := by
  unfold dLam heardD
  refine hargs _ fun x nx => ?_
  refine ⟨x, .str x0, n, rfl, updG_same, .inl ⟨x0, rfl, .inl hx⟩, rfl, hn.tl _, hn.cp, fun e => absurd e (by rw [name_ok hx]; decide), fun _ _ => ⟨n, pn, rfl, hn.rp, .inr ⟨rfl, ?_⟩⟩, fun y i _ _ e2 => ?_⟩
  · rw [delG_updG nx]
    exact q
  · have := hn.na
    rw [e2] at this
    cases this
theorem hear_miss {CN CB C : Addr} {t : TAD} {c : D} {pc : PyData} {δ : SD} {G : Gm} {R : QD} (hargs : ∀ N : List D → Gm → Prop, N [c] G → t δ G N) (hc : OddX c pc) (q : R (.tup [.str "name", .str pc.shown]) G) :
    dLam (heardD CN CB) (fun W => dMake C (missInitX CN C) W t) δ G R := by
  unfold dLam heardD
  refine hargs _ fun x nx => ?_
  refine ⟨x, c, rfl, updG_same, hc.nm _, hc.cp, fun _ => ⟨c, pc, rfl, hc.rp, .inl ⟨rfl, ?_⟩⟩, fun y e1 hy => ?_⟩
  · rw [delG_updG nx]
    exact q
  · have := hc.na
    rw [e1, name_ok hy] at this
    cases this
theorem it_mk {T : Top K mg w} {C : Addr} {t x : Str} {a : Addr} (more : List (Str × D)) (hC : C ∈ fam_Test T) : ∃ i : ItC T, i.d = .ins C (condF (.str t) (.str x) a ++ more) ∧ i.x = x := ⟨⟨C, _, x, hC, rfl⟩, rfl, rfl⟩
theorem it_mk0 {T : Top K mg w} {C : Addr} {t x : Str} {a : Addr} (hC : C ∈ fam_Test T) : ∃ i : ItC T, i.d = .ins C (condF (.str t) (.str x) a) ∧ i.x = x := ⟨⟨C, _, x, hC, rfl⟩, rfl, rfl⟩
theorem dok_law (T : Top K mg w) (TB : TabsB T base) : GnT P w K mg base (TbL T) 35 T.a_law T.d_law ["_law_script"] lawD := by
  have G__law_pen := (dok__law_pen (P := P) (w := w) (base := base) T).mono (k := 29) (by decide)
  have G__law_pick := (dok__law_pick (P := P) (w := w) (base := base) T).mono (k := 29) (by decide)
  have G_Below___init__ := (dok_Below___init__ (P := P) (w := w) (base := base) T).mono (k := 29) (by decide)
  have G_UpTo___init__ := (dok_UpTo___init__ (P := P) (w := w) (base := base) T).mono (k := 29) (by decide)
  have G_Equals___init__ := (dok_Equals___init__ (P := P) (w := w) (base := base) T).mono (k := 29) (by decide)
  have G_Missing___init__ := (dok_Missing___init__ (P := P) (w := w) (base := base) T).mono (k := 29) (by decide)
  obtain ⟨oc__law_heard, od__law_heard, kV__law_heard, doc__law_heard, pm__law_heard, an__law_heard, cdv__law_heard, ct__law_heard, osl__law_heard, ed__law_heard, lk__law_heard, hcd__law_heard⟩ := T.F__law_heard.ex
  have hb__law_heard := T.b__law_heard
  rw [ed__law_heard] at hb__law_heard lk__law_heard
  have G__law_one_right := (dok__law_one_right (P := P) (w := w) (base := base) T).mono (k := 29) (by decide)
  have G__law_draw := (dok__law_draw (P := P) (w := w) (base := base) T).mono (k := 29) (by decide)
  have G_Test___eq__ := (dok_Test___eq__ (P := P) (w := w) (base := base) T).mono (k := 29) (by decide)
  have G_Test___str__ := (dok_Test___str__ (P := P) (w := w) (base := base) T).mono (k := 29) (by decide)
  refine dfgT (k := 34) T.F_law T.hc_law sclaw (fun ds G Q W h => ?_) (fun A outer s H E B eT hg hr => ⟨_, (db_cons (ds_set (i := 1) sclaw.nd rfl (.inl rfl) (de_call G__law_pen (hr.mono (by decide)) (by rfl) T.g__law_pen T.F__law_pen.kp T.b__law_pen hx0 (da_cons (dv 0) da_nil)))
  (db_cons (ds_for PassesOwn.never rfl (di_range1 (by rfl) T.z_range (da_cons de_int da_nil)) (dg_name (i := 2) sclaw.nd rfl (.inl rfl))
    (db_cons (ds_set (i := 3) sclaw.nd rfl (.inl rfl) (de_call G__law_pick (hr.mono (by decide)) (by rfl) T.g__law_pick T.F__law_pick.kp T.b__law_pick hx0 (da_cons (dv 1) (da_cons (de_lst (da_cons de_str (da_cons de_str (da_cons de_str (da_cons de_str (da_cons de_str da_nil)))))) da_nil))))
  (db_cons (ds_set (i := 4) sclaw.nd rfl (.inl rfl) (de_call G__law_pick (hr.mono (by decide)) (by rfl) T.g__law_pick T.F__law_pick.kp T.b__law_pick hx0 (da_cons (dv 1) (da_cons (de_lst (da_cons de_int (da_cons de_int (da_cons (de_neg de_int) (da_cons de_int (da_cons (de_sub (de_call G__law_draw (hr.mono (by decide)) (by rfl) T.g__law_draw T.F__law_draw.kp T.b__law_draw hx0 (da_cons (dv 1) (da_cons de_int da_nil))) de_int) (da_cons (de_pow de_int de_int) (da_cons (de_neg (de_pow de_int de_int)) da_nil)))))))) da_nil))))
  (db_cons (ds_for PassesOwn.never rfl (di_tup (de_tup (da_cons de_str (da_cons de_str (da_cons de_str (da_cons de_str da_nil)))))) (dg_name (i := 5) sclaw.nd rfl (.inl rfl))
    (db_one (ds_if (dt_not (dt_val (de_g G__law_one_right hg (hr.mono (by decide)) (by rfl) T.g__law_one_right T.F__law_one_right.kp T.b__law_one_right (da_cons (dv 1) (da_cons (dv 5) (da_cons (dv 3) (da_cons (dv 4) da_nil)))))))
    (db_one (ds_ret de_bl))
    db_nil)))
  (db_cons (ds_set (i := 6) sclaw.nd rfl (.inl rfl) (de_lst (da_cons (de_make T.mk_Below T.gc_Below G_Below___init__ (hr.mono (by decide)) rfl T.g_Below T.b_Below___init__ hx0 (da_cons (dv 3) (da_cons (dv 4) da_nil))) (da_cons (de_make T.mk_UpTo T.gc_UpTo G_UpTo___init__ (hr.mono (by decide)) rfl T.g_UpTo T.b_UpTo___init__ hx0 (da_cons (dv 3) (da_cons (dv 4) da_nil))) (da_cons (de_make T.mk_Equals T.gc_Equals G_Equals___init__ (hr.mono (by decide)) rfl T.g_Equals T.b_Equals___init__ hx0 (da_cons (dv 3) (da_cons (dv 4) da_nil))) (da_cons (de_make T.mk_Missing T.gc_Missing G_Missing___init__ (hr.mono (by decide)) rfl T.g_Missing T.b_Missing___init__ hx0 (da_cons (dv 3) da_nil)) da_nil))))))
  (db_cons (ds_set (i := 6) sclaw.nd rfl (.inl rfl) (de_add (dv 6) (de_lst (da_cons (de_make T.mk_Below T.gc_Below G_Below___init__ (hr.mono (by decide)) rfl T.g_Below T.b_Below___init__ hx0 (da_cons de_str (da_cons (dv 4) da_nil))) (da_cons (de_make T.mk_Below T.gc_Below G_Below___init__ (hr.mono (by decide)) rfl T.g_Below T.b_Below___init__ hx0 (da_cons (dv 3) (da_cons (de_add (dv 4) de_int) da_nil))) (da_cons (de_make T.mk_Missing T.gc_Missing G_Missing___init__ (hr.mono (by decide)) rfl T.g_Missing T.b_Missing___init__ hx0 (da_cons de_str da_nil)) da_nil))))))
  (db_cons (ds_set (i := 7) sclaw.nd rfl (.inr rfl) (de_lst (da_cons (de_make T.mk_Below T.gc_Below G_Below___init__ (hr.mono (by decide)) rfl T.g_Below T.b_Below___init__ hx0 (da_cons (dv 3) (da_cons (dv 4) da_nil))) (da_cons (de_make T.mk_UpTo T.gc_UpTo G_UpTo___init__ (hr.mono (by decide)) rfl T.g_UpTo T.b_UpTo___init__ hx0 (da_cons (dv 3) (da_cons (dv 4) da_nil))) (da_cons (de_make T.mk_Equals T.gc_Equals G_Equals___init__ (hr.mono (by decide)) rfl T.g_Equals T.b_Equals___init__ hx0 (da_cons (dv 3) (da_cons (dv 4) da_nil))) (da_cons (de_make T.mk_Missing T.gc_Missing G_Missing___init__ (hr.mono (by decide)) rfl T.g_Missing T.b_Missing___init__ hx0 (da_cons (dv 3) da_nil)) da_nil))))))
  (db_cons (ds_setLcF (i := 8) (own := [("_law_at", 12)]) (gV := gName 12) finA_l rfl sclaw.nd rfl rfl (sw_true rfl rfl rfl (by decide +kernel)) (di_range1 (by rfl) T.z_range (da_cons de_int da_nil)) (blkOk_by (own := [("_law_at", 12)]) (N := Nlaw) (sc := defScope slaw) (by decide +kernel)) (cg_name (i := 12) (by decide)) (fun _ _ _ _ _ => (pg_name (i := 12) sclaw.nd rfl (.inr rfl))) (fun _ _ _ _ _ _ => dts_nil) (fun _ _ _ _ _ _ => (de_lcF (own := [("_law_spot", 13)]) (gV := gName 13) finA_l rfl sclaw.nd (di_range1 (by rfl) T.z_range (da_cons de_int da_nil)) (blkOk_by (own := [("_law_spot", 13)]) (by kernel_rfl)) (cg_name (i := 13) (by decide)) (fun _ _ _ _ _ => (pg_name (i := 13) sclaw.nd rfl (.inl rfl))) (fun _ _ _ _ _ _ => dts_nil) (fun _ _ _ _ _ _ => (de_cmp (op_eqD (Room.units hr)) eqI_A (dv 12) (dv 13) (nomark _))))))
  (db_cons (ds_if (dt_cmp (op_neD (Room.units hr)) neI_A (de_lcF (own := [("_law_one", 14)]) (gV := gName 14) finA_l rfl sclaw.nd (di_list (dv 6)) (blkOk_by (own := [("_law_one", 14)]) (N := Nlaw) (sc := defScope slaw) (by decide +kernel)) (cg_name (i := 14) (by decide)) (fun _ _ _ _ _ => (pg_name (i := 14) sclaw.nd rfl (.inr rfl))) (fun _ _ _ _ _ _ => dts_nil) (fun _ _ _ _ _ _ => (de_lcF (own := [("_law_other", 15)]) (gV := gName 15) finA_l rfl sclaw.nd (di_list (dv 7)) (blkOk_by (own := [("_law_other", 15)]) (by kernel_rfl)) (cg_name (i := 15) (by decide)) (fun _ _ _ _ _ => (pg_name (i := 15) sclaw.nd rfl (.inl rfl))) (fun _ _ _ _ _ _ => dts_nil) (fun _ _ _ _ _ _ => (de_any (Pr := fun C => C ∈ fam_Test T) fun C hC => de_eqOK rfl (fam_om_Test___eq__ T C hC) G_Test___eq__ T.b_Test___eq__ (hr.mono (by decide)) hx0 (dv 14) (dv 15)))))) (dv 8) (nomark _))
    (db_one (ds_ret de_bl))
    db_nil)
  (db_cons (ds_if (dw_pt (dw_or (dt_any (Pr := fun C => C ∈ fam_Test T) fun C hC => dt_eqOK rfl (fam_om_Test___eq__ T C hC) G_Test___eq__ T.b_Test___eq__ (hr.mono (by decide)) hx0 (de_ix ix_seq ix_A (dv 6) de_int (fun _ _ => rfl)) (de_any (Pr := fun C => C ∈ fam_Test T) fun C hC => de_strO (fam_om_Test___str__ T C hC) G_Test___str__ T.b_Test___str__ (hr.mono (by decide)) hx0 (by rfl) T.z_str (by decide +kernel) (da_cons (de_ix ix_seq ix_A (dv 6) de_int (fun _ _ => rfl)) da_nil))) (dw_or1 (dt_any (Pr := fun C => C ∈ fam_Test T) fun C hC => dt_eqOK rfl (fam_om_Test___eq__ T C hC) G_Test___eq__ T.b_Test___eq__ (hr.mono (by decide)) hx0 (de_ix ix_seq ix_A (dv 6) de_int (fun _ _ => rfl)) (dv 3)))))
    (db_one (ds_ret de_bl))
    db_nil)
  (db_cons (ds_set (i := 9) sclaw.nd rfl (.inr rfl) (de_call G__law_pick (hr.mono (by decide)) (by rfl) T.g__law_pick T.F__law_pick.kp T.b__law_pick hx0 (da_cons (dv 1) (da_cons (de_lst (da_cons de_non (da_cons de_int (da_cons de_str (da_cons de_str (da_cons de_str (da_cons de_str (da_cons de_str (da_cons de_str (da_cons (de_tup (da_cons de_str da_nil)) (da_cons (de_lst da_nil) (da_cons de_str (da_cons de_bl da_nil))))))))))))) da_nil))))
  (db_cons (ds_set (i := 10) sclaw.nd rfl (.inr rfl) (de_call G__law_pick (hr.mono (by decide)) (by rfl) T.g__law_pick T.F__law_pick.kp T.b__law_pick hx0 (da_cons (dv 1) (da_cons (de_lst (da_cons de_non (da_cons de_bl (da_cons de_str (da_cons (de_tup (da_cons de_int da_nil)) (da_cons (de_lst da_nil) (da_cons de_dict0 (da_cons de_bl da_nil)))))))) da_nil))))
  (db_cons (ds_set (i := 11) sclaw.nd rfl (.inl rfl) (de_lstM (da_cons (de_lam (k := 32) mono__law_heard rfl T.g__law_heard T.F__law_heard.kp lk__law_heard hcd__law_heard hb__law_heard sc_law_heard rfl (.inl rfl) (hear__law_heard T rfl rfl hg (hr.mono (by decide))) TB.law rfl (by rw [eT]; exact mem_law) (by rw [eT]; exact one_law) (hr.mono (by decide)) (LamX.lamS_by (show LamX.lamSB (defScope slaw) _ = true by decide +kernel)) rfl (fun _ _ _ _ _ => rfl) (fun A outer s H E f c' B W eT2 eZ hr tk => have hx := hx_of tk; (de_make T.mk_Below T.gc_Below G_Below___init__ (hr.mono (by decide)) rfl T.g_Below T.b_Below___init__ hx (da_cons (dv 9) (da_cons (dv 10) da_nil))))) da_nil)))
  (db_cons (ds_expr (de_append (dv 11) (de_lam (k := 32) mono__law_heard rfl T.g__law_heard T.F__law_heard.kp lk__law_heard hcd__law_heard hb__law_heard sc_law_heard rfl (.inl rfl) (hear__law_heard T rfl rfl hg (hr.mono (by decide))) TB.law rfl (by rw [eT]; exact mem_law) (by rw [eT]; exact one_law) (hr.mono (by decide)) (LamX.lamS_by (show LamX.lamSB (defScope slaw) _ = true by decide +kernel)) rfl (fun _ _ _ _ _ => rfl) (fun A outer s H E f c' B W eT2 eZ hr tk => have hx := hx_of tk; (de_make T.mk_UpTo T.gc_UpTo G_UpTo___init__ (hr.mono (by decide)) rfl T.g_UpTo T.b_UpTo___init__ hx (da_cons de_str (da_cons (dv 10) da_nil)))))))
  (db_cons (ds_expr (de_append (dv 11) (de_lam (k := 32) mono__law_heard rfl T.g__law_heard T.F__law_heard.kp lk__law_heard hcd__law_heard hb__law_heard sc_law_heard rfl (.inl rfl) (hear__law_heard T rfl rfl hg (hr.mono (by decide))) TB.law rfl (by rw [eT]; exact mem_law) (by rw [eT]; exact one_law) (hr.mono (by decide)) (LamX.lamS_by (show LamX.lamSB (defScope slaw) _ = true by decide +kernel)) rfl (fun _ _ _ _ _ => rfl) (fun A outer s H E f c' B W eT2 eZ hr tk => have hx := hx_of tk; (de_make T.mk_Equals T.gc_Equals G_Equals___init__ (hr.mono (by decide)) rfl T.g_Equals T.b_Equals___init__ hx (da_cons de_str (da_cons (dv 10) da_nil)))))))
  (db_cons (ds_expr (de_append (dv 11) (de_lam (k := 32) mono__law_heard rfl T.g__law_heard T.F__law_heard.kp lk__law_heard hcd__law_heard hb__law_heard sc_law_heard rfl (.inl rfl) (hear__law_heard T rfl rfl hg (hr.mono (by decide))) TB.law rfl (by rw [eT]; exact mem_law) (by rw [eT]; exact one_law) (hr.mono (by decide)) (LamX.lamS_by (show LamX.lamSB (defScope slaw) _ = true by decide +kernel)) rfl (fun _ _ _ _ _ => rfl) (fun A outer s H E f c' B W eT2 eZ hr tk => have hx := hx_of tk; (de_make T.mk_Missing T.gc_Missing G_Missing___init__ (hr.mono (by decide)) rfl T.g_Missing T.b_Missing___init__ hx (da_cons (dv 9) da_nil))))))
  (db_one (ds_if (dt_cmp (op_neD (Room.units hr)) neI_A (de_close (dv 11)) (de_lst (da_cons (de_tup (da_cons de_str (da_cons (de_callB (call_reprX hg (Room.units hr)) reprX_A (by rfl) T.z_repr (by decide +kernel) (da_cons (dv 9) da_nil)) da_nil))) (da_cons (de_tup (da_cons de_str (da_cons (de_callB (call_reprX hg (Room.units hr)) reprX_A (by rfl) T.z_repr (by decide +kernel) (da_cons (dv 10) da_nil)) da_nil))) (da_cons (de_tup (da_cons de_str (da_cons (de_callB (call_reprX hg (Room.units hr)) reprX_A (by rfl) T.z_repr (by decide +kernel) (da_cons (dv 10) da_nil)) da_nil))) (da_cons (de_tup (da_cons de_str (da_cons (de_callB (call_reprX hg (Room.units hr)) reprX_A (by rfl) T.z_repr (by decide +kernel) (da_cons (dv 9) da_nil)) da_nil))) da_nil))))) (nomark _))
    (db_one (ds_ret de_bl))
    db_nil))))))))))))))))))
  (db_one (ds_ret de_bl)))), fun ds G Q W h => ?_⟩)
  · obtain ⟨ns, rfl, _⟩ := h
    rfl
  · obtain ⟨script, rfl, hl, hG, q⟩ := h
    have hz := sizeLine_eq
    have z0 : 0 ≤ sizeLine := Nat.zero_le _
    have z1 : 1 ≤ sizeLine := by rw [sizeLine_eq]; decide
    have z2 : 2 ≤ sizeLine := by rw [sizeLine_eq]; decide
    have z3 : 3 ≤ sizeLine := by rw [sizeLine_eq]; decide
    have z4 : 4 ≤ sizeLine := by rw [sizeLine_eq]; decide
    have z5 : 5 ≤ sizeLine := by rw [sizeLine_eq]; decide
    have z8 : 8 ≤ sizeLine := by rw [sizeLine_eq]; decide
    have z12 : 12 ≤ sizeLine := by rw [sizeLine_eq]; decide
    have z7 : 7 ≤ sizeLine := by rw [sizeLine_eq]; decide
    have mB : T.C_Below ∈ fam_Test T := List.mem_of_getElem? (i := 0) rfl
    have mU : T.C_UpTo ∈ fam_Test T := List.mem_of_getElem? (i := 1) rfl
    have mE : T.C_Equals ∈ fam_Test T := List.mem_of_getElem? (i := 2) rfl
    have mM : T.C_Missing ∈ fam_Test T := List.mem_of_getElem? (i := 3) rfl
    have zN : ("z" : Str) ∈ poolN := by decide +kernel
    refine ⟨script, rfl, hl, fun p hp => ?_⟩
    refine ⟨⟨by decide, by decide⟩, ?_⟩
    refine for_inv (n := 8) (fun j δ G' => ∃ m x2 x3 x4 x5 x6 x7 x8 x9 x10 x11 x12 x13 x14 x15, G' p = some (.pen m) ∧ m ≤ 100 * j ∧ δ = [some (.scr script), some (.adr p), x2, x3, x4, x5, x6, x7, x8, x9, x10, x11, x12, x13, x14, x15]) _ 0 _ _ (by rw [range_len]; rfl) (fun j δ G' e N he hj hI hN => ?_) ⟨0, none, none, none, none, none, none, none, none, none, none, none, none, none, none, updG_same, Nat.le_refl _, rfl⟩ (fun δ G' hI => ?_)
    · obtain ⟨m, x2, x3, x4, x5, x6, x7, x8, x9, x10, x11, x12, x13, x14, x15, hGp, hm, rfl⟩ := hI
      refine ⟨z5, p, _, m, rfl, hGp, by simp, by show 5 ≤ 1000; decide, by omega, fun t0 ht0 => ?_⟩
      have ht1 : ∃ t : Str, t0 = .str t ∧ t ∈ (["x", "y", "col", "abcdefgh", "in"] : List Str) := by
        simp only [List.mem_cons, List.not_mem_nil, or_false] at ht0
        rcases ht0 with rfl | rfl | rfl | rfl | rfl <;> exact ⟨_, rfl, by decide +kernel⟩
      obtain ⟨t, rfl, ht⟩ := ht1
      have htN : t ∈ poolN := by
        simp only [List.mem_cons, List.not_mem_nil, or_false] at ht
        rcases ht with rfl | rfl | rfl | rfl | rfl <;> decide +kernel
      refine ⟨p, 100, m + 1, rfl, updG_same, by decide, by decide, by omega, fun r r0 r1 => ?_⟩
      rw [updG_updG]
      refine ⟨⟨by decide, by decide, by decide⟩, ⟨by decide, by decide, by decide⟩, z7, p, _, m + 2, rfl, updG_same, by simp, by show 7 ≤ 1000; decide, by omega, fun n0 hn0 => ?_⟩
      rw [updG_updG]
      have hn1 : ∃ n : Int, n0 = .int n ∧ -N58 ≤ n ∧ n ≤ N58 := by
        have e58 : (10 : Int) ^ (58 : Int).toNat = N58 := by decide +kernel
        rw [e58] at hn0
        simp only [List.mem_cons, List.not_mem_nil, or_false] at hn0
        rcases hn0 with rfl | rfl | rfl | rfl | rfl | rfl | rfl
        all_goals refine ⟨_, rfl, ?_⟩
        all_goals simp only [N58]
        all_goals omega
      obtain ⟨n, rfl, n0, n1⟩ := hn1
      have b60 : n.natAbs < 10 ^ 60 := by simp only [N58] at n0 n1; omega
      have b61 : (n + 1).natAbs < 10 ^ 60 := by simp only [N58] at n0 n1; omega
      refine ⟨z4, ?_⟩
      refine for_inv (n := 4) (fun j2 δ G2 => ∃ x5, G2 p = some (.pen (m + 3 + j2)) ∧ δ = [some (.scr script), some (.adr p), some e, some (.str t), some (.int n), x5, x6, x7, x8, x9, x10, x11, x12, x13, x14, x15]) _ 0 _ _ rfl (fun j2 δ G2 e2 N2 he2 hj2 hI2 hN2 => ?_) ⟨x5, updG_same, rfl⟩ (fun δ G2 hI2 => ?_)
      · obtain ⟨x5, hG2, rfl⟩ := hI2
        have hw : ∃ wd : Str, e2 = .str wd ∧ wd ∈ (["<", "<=", "=", "null"] : List Str) := by
          simp only [List.mem_cons, List.not_mem_nil, or_false] at he2
          rcases he2 with rfl | rfl | rfl | rfl <;> exact ⟨_, rfl, by decide +kernel⟩
        obtain ⟨wd, rfl, hw⟩ := hw
        refine ⟨p, m + 3 + j2, wd, t, n, rfl, hw, ht, n0, n1, hG2, by omega, fun G3 hG3 => ?_⟩
        exact hN2 _ _ ⟨_, hG3, rfl⟩
      obtain ⟨x5', hG2, rfl⟩ := hI2
      refine fun a0 na0 => cmp_ok htN b60 updG_same ?_
      rw [updG_updG]
      refine ⟨rfl, ?_⟩
      show (match updG G2 a0 _ a0 with | some (.ins C' fs) => _ | _ => False)
      rw [updG_same, delG_updG na0]
      refine fun a1 na1 => cmp_ok htN b60 updG_same ?_
      rw [updG_updG]
      refine ⟨rfl, ?_⟩
      show (match updG G2 a1 _ a1 with | some (.ins C' fs) => _ | _ => False)
      rw [updG_same, delG_updG na1]
      refine fun a2 na2 => cmp_ok htN b60 updG_same ?_
      rw [updG_updG]
      refine ⟨rfl, ?_⟩
      show (match updG G2 a2 _ a2 with | some (.ins C' fs) => _ | _ => False)
      rw [updG_same, delG_updG na2]
      refine fun a3 na3 => miss_ok htN updG_same ?_
      rw [updG_updG]
      refine ⟨rfl, ?_⟩
      show (match updG G2 a3 _ a3 with | some (.ins C' fs) => _ | _ => False)
      rw [updG_same, delG_updG na3]
      refine ⟨z4, ?_⟩
      refine fun a4 na4 => cmp_ok zN b60 updG_same ?_
      rw [updG_updG]
      refine ⟨rfl, ?_⟩
      show (match updG G2 a4 _ a4 with | some (.ins C' fs) => _ | _ => False)
      rw [updG_same, delG_updG na4]
      refine fun a5 na5 => cmp_ok htN b61 updG_same ?_
      rw [updG_updG]
      refine ⟨rfl, ?_⟩
      show (match updG G2 a5 _ a5 with | some (.ins C' fs) => _ | _ => False)
      rw [updG_same, delG_updG na5]
      refine fun a6 na6 => miss_ok zN updG_same ?_
      rw [updG_updG]
      refine ⟨rfl, ?_⟩
      show (match updG G2 a6 _ a6 with | some (.ins C' fs) => _ | _ => False)
      rw [updG_same, delG_updG na6]
      refine ⟨z3, z7, ?_⟩
      refine fun a7 na7 => cmp_ok htN b60 updG_same ?_
      rw [updG_updG]
      refine ⟨rfl, ?_⟩
      show (match updG G2 a7 _ a7 with | some (.ins C' fs) => _ | _ => False)
      rw [updG_same, delG_updG na7]
      refine fun a8 na8 => cmp_ok htN b60 updG_same ?_
      rw [updG_updG]
      refine ⟨rfl, ?_⟩
      show (match updG G2 a8 _ a8 with | some (.ins C' fs) => _ | _ => False)
      rw [updG_same, delG_updG na8]
      refine fun a9 na9 => cmp_ok htN b60 updG_same ?_
      rw [updG_updG]
      refine ⟨rfl, ?_⟩
      show (match updG G2 a9 _ a9 with | some (.ins C' fs) => _ | _ => False)
      rw [updG_same, delG_updG na9]
      refine fun a10 na10 => miss_ok htN updG_same ?_
      rw [updG_updG]
      refine ⟨rfl, ?_⟩
      show (match updG G2 a10 _ a10 with | some (.ins C' fs) => _ | _ => False)
      rw [updG_same, delG_updG na10]
      refine ⟨z4, ?_⟩
      clear na0 na1 na2 na3 na4 na5 na6 na7 na8 na9 na10
      obtain ⟨i0, e0, y0⟩ := it_mk (T := T) (C := T.C_Below) (t := t) (x := belowT t n " < ") (a := a0) [("number", .int n)] mB
      rw [← e0]
      obtain ⟨i1, e1, y1⟩ := it_mk (T := T) (C := T.C_UpTo) (t := t) (x := belowT t n " <= ") (a := a1) [("number", .int n)] mU
      rw [← e1]
      obtain ⟨i2, e2, y2⟩ := it_mk (T := T) (C := T.C_Equals) (t := t) (x := belowT t n " = ") (a := a2) [("number", .int n)] mE
      rw [← e2]
      obtain ⟨i3, e3, y3⟩ := it_mk0 (T := T) (C := T.C_Missing) (t := t) (x := missT t) (a := a3) mM
      unfold missT at e3
      rw [← e3]
      obtain ⟨i4, e4, y4⟩ := it_mk (T := T) (C := T.C_Below) (t := "z") (x := belowT "z" n " < ") (a := a4) [("number", .int n)] mB
      rw [← e4]
      obtain ⟨i5, e5, y5⟩ := it_mk (T := T) (C := T.C_Below) (t := t) (x := belowT t (n + 1) " < ") (a := a5) [("number", .int (n + 1))] mB
      rw [← e5]
      obtain ⟨i6, e6, y6⟩ := it_mk0 (T := T) (C := T.C_Missing) (t := "z") (x := missT "z") (a := a6) mM
      unfold missT at e6
      rw [← e6]
      obtain ⟨i7, e7, y7⟩ := it_mk (T := T) (C := T.C_Below) (t := t) (x := belowT t n " < ") (a := a7) [("number", .int n)] mB
      rw [← e7]
      obtain ⟨i8, e8, y8⟩ := it_mk (T := T) (C := T.C_UpTo) (t := t) (x := belowT t n " <= ") (a := a8) [("number", .int n)] mU
      rw [← e8]
      obtain ⟨i9, e9, y9⟩ := it_mk (T := T) (C := T.C_Equals) (t := t) (x := belowT t n " = ") (a := a9) [("number", .int n)] mE
      rw [← e9]
      obtain ⟨i10, e10, y10⟩ := it_mk0 (T := T) (C := T.C_Missing) (t := t) (x := missT t) (a := a10) mM
      unfold missT at e10
      rw [← e10]
      have ht18 : ne18 i0.x i1.x i2.x i3.x i4.x i5.x i6.x := by
        rw [y0, y1, y2, y3, y4, y5, y6]
        exact texts_ne n ht
      clear e0 e1 e2 e3 e4 e5 e6 e7 e8 e9 e10
      refine ⟨⟨by decide, by decide⟩, by rw [range_len, hz]; decide, ?_⟩
      refine lc_f0 (fun i : Nat => D.int (0 + (i : Int))) (fun (a : Nat) => D.lst ((List.range 4).map fun (s : Nat) => D.bl (decide (a = s)))) (List.range 7) [] (fun a ha N1 hN1 => ?_) ?_
      · refine ⟨⟨by decide, by decide⟩, by rw [range_len, hz]; decide, ?_⟩
        refine lc_f0 (fun i : Nat => D.int (0 + (i : Int))) (fun (s : Nat) => D.bl (decide (a = s))) (List.range 4) [] (fun s hs N2 hN2 => ?_) ?_
        · refine ⟨pl_int, pl_int, ?_⟩
          have ed : decide ((0 : Int) + (a : Int) = 0 + (s : Int)) = decide (a = s) := decide_eq_decide.mpr ⟨fun h => by omega, fun h => by omega⟩
          rw [eqvD_int, ed]
          exact hN2
        · rw [List.nil_append]
          exact hN1
      rw [List.nil_append]
      refine ⟨z8, ?_⟩
      refine lc_f0 ItC.d (fun i => D.lst (([i7, i8, i9, i10] : List (ItC T)).map fun j => D.bl (decide (i.x = j.x)))) [i0, i1, i2, i3, i4, i5, i6] [] (fun i hi N1 hN1 => ?_) ?_
      · refine ⟨z5, ?_⟩
        refine lc_f0 ItC.d (fun j => D.bl (decide (i.x = j.x))) [i7, i8, i9, i10] [] (fun j hj N2 hN2 => ?_) ?_
        · refine ⟨i.C, i.hC, ?_⟩
          refine ⟨rfl, ⟨_, .ins (C := j.C) (fs := j.fs) rfl, fam_nf i.hC j.hC⟩, ?_⟩
          exact ⟨_, _, i.C, i.fs, i.x, rfl, i.hC, rfl, i.hx, .inr ⟨j.C, j.fs, j.x, j.hC, rfl, j.hx, hN2⟩⟩
        · rw [List.nil_append]
          exact hN1
      rw [List.nil_append, tab_eq ht18 i7 i8 i9 i10 (by rw [y7, y0]) (by rw [y8, y1]) (by rw [y9, y2]) (by rw [y10, y3])]
      refine neI_self ((pl_lst (k := 1) (pl_map fun a ha => pl_lst (k := 0) (pl_map fun s hs => pl_bl))).mono (by decide)) ?_
      refine ⟨i0.C, i0.hC, ?_⟩
      refine ⟨i0.C, i0.hC, ?_⟩
      refine ⟨rfl, _, i0.C, i0.fs, i0.x, rfl, rfl, i0.hx, ?_⟩
      refine ⟨rfl, ⟨_, .ki (k := .str) rfl, fam_nfS i0.hC⟩, ⟨_, _, i0.C, i0.fs, i0.x, rfl, i0.hC, rfl, i0.hx, .inl ⟨_, rfl, ?_⟩⟩⟩
      refine ⟨i3.C, i3.hC, ?_⟩
      refine ⟨rfl, ⟨_, .ki (k := .str) rfl, fam_nfS i3.hC⟩, ⟨_, _, i3.C, i3.fs, i3.x, rfl, i3.hC, rfl, i3.hx, .inl ⟨_, rfl, ?_⟩⟩⟩
      refine ⟨z1, z0, z12, p, _, _, rfl, hG2, by simp, by show 12 ≤ 1000; decide, by omega, fun odd hodd => ?_⟩
      obtain ⟨po, hodd⟩ := odd_x (show odd ∈ oddL from hodd)
      refine ⟨z1, z0, z7, p, _, _, rfl, updG_same, by simp, by show 7 ≤ 1000; decide, by omega, fun bad hbad => ?_⟩
      obtain ⟨pb, hbad⟩ := bad_x (show bad ∈ badL from hbad)
      rw [updG_updG]
      have hG3 : updG G2 p (MO.pen (m + 3 + 4 + 1 + 1)) p = some (.pen (m + 9)) := updG_same
      generalize updG G2 p (MO.pen (m + 3 + 4 + 1 + 1)) = G3 at hG3 ⊢
      dsimp only [dSeq, dAsg, dLstM, dCons, dNil, gNameD, dDrop, dApp]
      refine hear_name (fun N h => h) hodd (hbad.tl _) hbad.tl hbad.cp ?_
      refine ⟨z1, fun a na => ?_⟩
      have ap : p ≠ a := fun e => by rw [e, na] at hG3; cases hG3
      refine var_rd rfl ?_
      rw [lsM_at updG_same]
      refine hear_num (fun N h => h) (by decide +kernel) hbad ?_
      rw [lsM_at updG_same]
      refine ⟨small_size (show 1 ≤ 1000 by decide), ?_⟩
      rw [updG_updG]
      refine var_rd rfl ?_
      rw [lsM_at updG_same]
      refine hear_num (fun N h => h) (by decide +kernel) hbad ?_
      rw [lsM_at updG_same]
      refine ⟨small_size (show 2 ≤ 1000 by decide), ?_⟩
      rw [updG_updG]
      refine var_rd rfl ?_
      rw [lsM_at updG_same]
      refine hear_miss (fun N h => h) hodd ?_
      rw [lsM_at updG_same]
      refine ⟨small_size (show 3 ≤ 1000 by decide), ?_⟩
      rw [updG_updG]
      refine ⟨a, rfl, ?_⟩
      rw [updG_same]
      have pnm : Pl 0 (D.str "name") := pl_str (by decide +kernel)
      have pnn : Pl 0 (D.str "number") := pl_str (by decide +kernel)
      have p1 : Pl 1 (D.tup [.str "name", .str po.shown]) := pl_tup (pl_cons pnm (pl_cons (pl_str hodd.ok) pl_nil))
      have p2 : Pl 1 (D.tup [.str "number", .str pb.shown]) := pl_tup (pl_cons pnn (pl_cons (pl_str hbad.ok) pl_nil))
      dsimp only [dOp, dLst, dTup, dCons, dNil, dC, dCB]
      refine var_rd rfl ?_
      refine hodd.rp.at_ ⟨z2, ?_⟩
      refine var_rd rfl ?_
      refine hbad.rp.at_ ⟨z2, ?_⟩
      refine var_rd rfl ?_
      refine hbad.rp.at_ ⟨z2, ?_⟩
      refine var_rd rfl ?_
      refine hodd.rp.at_ ⟨z2, z4, ?_⟩
      rw [delG_updG na]
      refine neI_self (d := .lst [.tup [.str "name", .str po.shown], .tup [.str "number", .str pb.shown], .tup [.str "number", .str pb.shown], .tup [.str "name", .str po.shown]]) ((pl_lst (k := 1) (pl_cons p1 (pl_cons p2 (pl_cons p2 (pl_cons p1 pl_nil))))).mono (by decide)) ?_
      exact hN _ _ ⟨_, _, _, _, _, _, _, _, _, _, _, _, _, _, _, hG3, by omega, rfl⟩
    · obtain ⟨m, x2, x3, x4, x5, x6, x7, x8, x9, x10, x11, x12, x13, x14, x15, hGp, hm, rfl⟩ := hI
      exact q _
end
end JP
namespace JP
open PySem PySem.Spec PyProof.Rows L2
theorem kit_self {K : PySem.W.Frag} {C : Addr} : PySem.W.kitOne K (.ref C) (.ref C) = some true := by
  unfold PySem.W.kitOne
  simp
theorem kit_no {K : PySem.W.Frag} {C : Addr} {t : String} {b : Bool} (h : PySem.W.subIn K (.ref C) (.type t) = some b) (hm : PySem.W.kitMeta t = true) : PySem.W.kitOne K (.ref C) (.type t) = some b := by
  unfold PySem.W.kitOne
  rw [if_neg (by simp)]
  show (if PySem.W.kitMeta t = true then PySem.W.subIn K (.ref C) (.type t) else none) = some b
  rw [if_pos hm, h]
theorem exm_of2 {K : PySem.W.Frag} {A C : Addr} {b : Bool} (h1 : PySem.W.subIn K (.ref C) (.type "BaseException") = some true) (h2 : PySem.W.isClsIn K C = true) (h3 : PySem.W.typeIn K (.ref C) = some (.type "type")) (h4 : PySem.W.subIn K (.ref A) (.ref C) = some b) :
    PySem.W.exmOne K (.ref A) (.ref C) = some b := by
  have e1 : (PySem.W.subIn K (.ref C) (.type "BaseException") == some true) = true := by rw [h1] <;> rfl
  have e2 : ((PySem.W.clsIn K C).isSome && PySem.W.typeIn K (.ref C) == some (.type "type")) = true := by
    have h2' : (PySem.W.clsIn K C).isSome = true := h2
    rw [h2', h3] <;> rfl
  show (if (PySem.W.subIn K (.ref C) (.type "BaseException") == some true) = true then (if ((PySem.W.clsIn K C).isSome && PySem.W.typeIn K (.ref C) == some (.type "type")) = true then PySem.W.subIn K (.ref A) (.ref C) else none) else none) = some b
  rw [if_pos e1, if_pos e2]
  exact h4
instance cfEq : DecidableEq PySem.W.CFound
  | .val v, .val u => if h : v = u then isTrue (by rw [h]) else isFalse (fun e => by injection e with e; exact h e)
  | .get a b c d, .get a2 b2 c2 d2 => if h : a = a2 ∧ b = b2 ∧ c = c2 ∧ d = d2 then isTrue (by obtain ⟨rfl, rfl, rfl, rfl⟩ := h; rfl) else isFalse (fun e => by injection e with e1 e2 e3 e4; exact h ⟨e1, e2, e3, e4⟩)
  | .val _, .get .. => isFalse (fun e => by cases e)
  | .get .., .val _ => isFalse (fun e => by cases e)
abbrev RY : PySem.W.OpenRow := PySem.W.OpenLaw.row PySem.Challenge.rw_rowcounts_k08_conditions_and_their_truth
def bsY (K : PySem.W.Frag) : List Bool := [
    decide (PySem.W.nsIn K mainGlobals "Test" = some (some (.ref (He.ga K "Test")))),
    decide (PySem.W.plainGet K (He.ga K "Test") Str.empty = true),
    decide (PySem.W.hasDictIn K (He.ga K "Test") = true),
    decide (PySem.W.plainOver K (He.ga K "Test") = true),
    decide (PySem.W.findIn K (.ref (He.ga K "Test")) "__setattr__" = some (some (.builtin "object.__setattr__"))),
    decide (PySem.W.keepIn K (.ref (He.ga K "Test")) = true),
    decide (PySem.W.findIn K (.ref (He.ga K "Test")) "__ne__" = some (some (.builtin "object.__ne__"))),
    decide (PySem.W.mroIn K (He.ga K "Test") (.type "object") = some true),
    decide (PySem.W.findIn K (.ref (He.ga K "Test")) "__class__" = some (some (.builtin "object.__class__"))),
    decide (PySem.W.readsIn K (He.ga K "Test") ((PySem.W.typeIn K (.ref (He.ga K "Test"))).getD .none) = true),
    decide (PySem.W.specialIn K (.ref (He.ga K "Test")) "__getattribute__" = some (some (.builtin "type.__getattribute__"))),
    decide (PySem.W.typeIn K (.ref (He.ga K "Test")) = some ((PySem.W.typeIn K (.ref (He.ga K "Test"))).getD .none)),
    decide (PySem.W.findCls K (.ref (He.ga K "Test")) ((PySem.W.typeIn K (.ref (He.ga K "Test"))).getD .none) "__init__" = some (.val (.ref (nsA K (He.ga K "Test") "__init__")))),
    decide (PySem.W.findIn K (.ref (He.ga K "Test")) "truth" = some (some (.ref (nsA K (He.ga K "Test") "truth")))),
    decide (PySem.W.isFn K (.ref (nsA K (He.ga K "Test") "truth")) = true),
    decide (PySem.W.findIn K (.ref (He.ga K "Test")) "__call__" = some (some (.ref (nsA K (He.ga K "Test") "__call__")))),
    decide (PySem.W.isFn K (.ref (nsA K (He.ga K "Test") "__call__")) = true),
    decide (PySem.W.findIn K (.ref (He.ga K "Test")) "__eq__" = some (some (.ref (nsA K (He.ga K "Test") "__eq__")))),
    decide (PySem.W.isFn K (.ref (nsA K (He.ga K "Test") "__eq__")) = true),
    decide (PySem.W.findIn K (.ref (He.ga K "Test")) "__str__" = some (some (.ref (nsA K (He.ga K "Test") "__str__")))),
    decide (PySem.W.isFn K (.ref (nsA K (He.ga K "Test") "__str__")) = true),
    decide (PySem.W.subIn K (.ref (He.ga K "Test")) (.type "str") = some false),
    decide (PySem.W.nsIn K mainGlobals "Condition" = some (some (.ref (He.ga K "Condition")))),
    decide (PySem.W.plainGet K (He.ga K "Condition") Str.empty = true),
    decide (PySem.W.hasDictIn K (He.ga K "Condition") = true),
    decide (PySem.W.plainOver K (He.ga K "Condition") = true),
    decide (PySem.W.findIn K (.ref (He.ga K "Condition")) "__setattr__" = some (some (.builtin "object.__setattr__"))),
    decide (PySem.W.keepIn K (.ref (He.ga K "Condition")) = true),
    decide (PySem.W.findIn K (.ref (He.ga K "Condition")) "__ne__" = some (some (.builtin "object.__ne__"))),
    decide (PySem.W.mroIn K (He.ga K "Condition") (.type "object") = some true),
    decide (PySem.W.findIn K (.ref (He.ga K "Condition")) "__class__" = some (some (.builtin "object.__class__"))),
    decide (PySem.W.readsIn K (He.ga K "Condition") ((PySem.W.typeIn K (.ref (He.ga K "Condition"))).getD .none) = true),
    decide (PySem.W.specialIn K (.ref (He.ga K "Condition")) "__getattribute__" = some (some (.builtin "type.__getattribute__"))),
    decide (PySem.W.typeIn K (.ref (He.ga K "Condition")) = some ((PySem.W.typeIn K (.ref (He.ga K "Condition"))).getD .none)),
    decide (PySem.W.findCls K (.ref (He.ga K "Condition")) ((PySem.W.typeIn K (.ref (He.ga K "Condition"))).getD .none) "__init__" = some (.val (.ref (nsA K (He.ga K "Condition") "__init__")))),
    decide (PySem.W.kitOne K (.ref (He.ga K "Condition")) (.ref (He.ga K "Test")) = some true),
    decide (PySem.W.subIn K (.ref (He.ga K "Condition")) (.type "str") = some false),
    decide (PySem.W.nsIn K mainGlobals "Below" = some (some (.ref (He.ga K "Below")))),
    decide (PySem.W.plainGet K (He.ga K "Below") Str.empty = true),
    decide (PySem.W.hasDictIn K (He.ga K "Below") = true),
    decide (PySem.W.plainOver K (He.ga K "Below") = true),
    decide (PySem.W.findIn K (.ref (He.ga K "Below")) "__setattr__" = some (some (.builtin "object.__setattr__"))),
    decide (PySem.W.keepIn K (.ref (He.ga K "Below")) = true),
    decide (PySem.W.findIn K (.ref (He.ga K "Below")) "_text" = some none),
    decide (PySem.W.findIn K (.ref (He.ga K "Below")) "_size" = some none),
    decide (PySem.W.findIn K (.ref (He.ga K "Below")) "_columns" = some none),
    decide (PySem.W.findIn K (.ref (He.ga K "Below")) "_names" = some none),
    decide (PySem.W.findIn K (.ref (He.ga K "Below")) "_conditions" = some none),
    decide (PySem.W.findIn K (.ref (He.ga K "Below")) "column" = some none),
    decide (PySem.W.findIn K (.ref (He.ga K "Below")) "number" = some none),
    decide (PySem.W.findIn K (.ref (He.ga K "Below")) "__ne__" = some (some (.builtin "object.__ne__"))),
    decide (PySem.W.mroIn K (He.ga K "Below") (.type "object") = some true),
    decide (PySem.W.findIn K (.ref (He.ga K "Below")) "__class__" = some (some (.builtin "object.__class__"))),
    decide (PySem.W.findIn K (.ref (He.ga K "Below")) "__init__" = some (some (.ref (nsA K (He.ga K "Below") "__init__")))),
    decide (PySem.W.isFn K (.ref (nsA K (He.ga K "Below") "__init__")) = true),
    decide (PySem.W.makesIn K (He.ga K "Below") = true),
    decide (PySem.W.findIn K (.ref (He.ga K "Below")) "known" = some (some (.ref (nsA K (He.ga K "Below") "known")))),
    decide (PySem.W.isFn K (.ref (nsA K (He.ga K "Below") "known")) = true),
    decide (PySem.W.findIn K (.ref (He.ga K "Below")) "truth" = some (some (.ref (nsA K (He.ga K "Test") "truth")))),
    decide (PySem.W.findIn K (.ref (He.ga K "Below")) "__call__" = some (some (.ref (nsA K (He.ga K "Test") "__call__")))),
    decide (PySem.W.findIn K (.ref (He.ga K "Below")) "__eq__" = some (some (.ref (nsA K (He.ga K "Test") "__eq__")))),
    decide (PySem.W.findIn K (.ref (He.ga K "Below")) "__str__" = some (some (.ref (nsA K (He.ga K "Test") "__str__")))),
    decide (PySem.W.kitOne K (.ref (He.ga K "Below")) (.ref (He.ga K "Condition")) = some true),
    decide (PySem.W.kitOne K (.ref (He.ga K "Below")) (.ref (He.ga K "Test")) = some true),
    decide (PySem.W.subIn K (.ref (He.ga K "Below")) (.type "str") = some false),
    decide (PySem.W.nsIn K mainGlobals "UpTo" = some (some (.ref (He.ga K "UpTo")))),
    decide (PySem.W.plainGet K (He.ga K "UpTo") Str.empty = true),
    decide (PySem.W.hasDictIn K (He.ga K "UpTo") = true),
    decide (PySem.W.plainOver K (He.ga K "UpTo") = true),
    decide (PySem.W.findIn K (.ref (He.ga K "UpTo")) "__setattr__" = some (some (.builtin "object.__setattr__"))),
    decide (PySem.W.keepIn K (.ref (He.ga K "UpTo")) = true),
    decide (PySem.W.findIn K (.ref (He.ga K "UpTo")) "_text" = some none),
    decide (PySem.W.findIn K (.ref (He.ga K "UpTo")) "_size" = some none),
    decide (PySem.W.findIn K (.ref (He.ga K "UpTo")) "_columns" = some none),
    decide (PySem.W.findIn K (.ref (He.ga K "UpTo")) "_names" = some none),
    decide (PySem.W.findIn K (.ref (He.ga K "UpTo")) "_conditions" = some none),
    decide (PySem.W.findIn K (.ref (He.ga K "UpTo")) "column" = some none),
    decide (PySem.W.findIn K (.ref (He.ga K "UpTo")) "number" = some none),
    decide (PySem.W.findIn K (.ref (He.ga K "UpTo")) "__ne__" = some (some (.builtin "object.__ne__"))),
    decide (PySem.W.mroIn K (He.ga K "UpTo") (.type "object") = some true),
    decide (PySem.W.findIn K (.ref (He.ga K "UpTo")) "__class__" = some (some (.builtin "object.__class__"))),
    decide (PySem.W.findIn K (.ref (He.ga K "UpTo")) "__init__" = some (some (.ref (nsA K (He.ga K "UpTo") "__init__")))),
    decide (PySem.W.isFn K (.ref (nsA K (He.ga K "UpTo") "__init__")) = true),
    decide (PySem.W.makesIn K (He.ga K "UpTo") = true),
    decide (PySem.W.findIn K (.ref (He.ga K "UpTo")) "known" = some (some (.ref (nsA K (He.ga K "UpTo") "known")))),
    decide (PySem.W.isFn K (.ref (nsA K (He.ga K "UpTo") "known")) = true),
    decide (PySem.W.findIn K (.ref (He.ga K "UpTo")) "truth" = some (some (.ref (nsA K (He.ga K "Test") "truth")))),
    decide (PySem.W.findIn K (.ref (He.ga K "UpTo")) "__call__" = some (some (.ref (nsA K (He.ga K "Test") "__call__")))),
    decide (PySem.W.findIn K (.ref (He.ga K "UpTo")) "__eq__" = some (some (.ref (nsA K (He.ga K "Test") "__eq__")))),
    decide (PySem.W.findIn K (.ref (He.ga K "UpTo")) "__str__" = some (some (.ref (nsA K (He.ga K "Test") "__str__")))),
    decide (PySem.W.kitOne K (.ref (He.ga K "UpTo")) (.ref (He.ga K "Condition")) = some true),
    decide (PySem.W.kitOne K (.ref (He.ga K "UpTo")) (.ref (He.ga K "Test")) = some true),
    decide (PySem.W.subIn K (.ref (He.ga K "UpTo")) (.type "str") = some false),
    decide (PySem.W.nsIn K mainGlobals "Equals" = some (some (.ref (He.ga K "Equals")))),
    decide (PySem.W.plainGet K (He.ga K "Equals") Str.empty = true),
    decide (PySem.W.hasDictIn K (He.ga K "Equals") = true),
    decide (PySem.W.plainOver K (He.ga K "Equals") = true),
    decide (PySem.W.findIn K (.ref (He.ga K "Equals")) "__setattr__" = some (some (.builtin "object.__setattr__"))),
    decide (PySem.W.keepIn K (.ref (He.ga K "Equals")) = true),
    decide (PySem.W.findIn K (.ref (He.ga K "Equals")) "_text" = some none),
    decide (PySem.W.findIn K (.ref (He.ga K "Equals")) "_size" = some none),
    decide (PySem.W.findIn K (.ref (He.ga K "Equals")) "_columns" = some none),
    decide (PySem.W.findIn K (.ref (He.ga K "Equals")) "_names" = some none),
    decide (PySem.W.findIn K (.ref (He.ga K "Equals")) "_conditions" = some none),
    decide (PySem.W.findIn K (.ref (He.ga K "Equals")) "column" = some none),
    decide (PySem.W.findIn K (.ref (He.ga K "Equals")) "number" = some none),
    decide (PySem.W.findIn K (.ref (He.ga K "Equals")) "__ne__" = some (some (.builtin "object.__ne__"))),
    decide (PySem.W.mroIn K (He.ga K "Equals") (.type "object") = some true),
    decide (PySem.W.findIn K (.ref (He.ga K "Equals")) "__class__" = some (some (.builtin "object.__class__"))),
    decide (PySem.W.findIn K (.ref (He.ga K "Equals")) "__init__" = some (some (.ref (nsA K (He.ga K "Equals") "__init__")))),
    decide (PySem.W.isFn K (.ref (nsA K (He.ga K "Equals") "__init__")) = true),
    decide (PySem.W.makesIn K (He.ga K "Equals") = true),
    decide (PySem.W.findIn K (.ref (He.ga K "Equals")) "known" = some (some (.ref (nsA K (He.ga K "Equals") "known")))),
    decide (PySem.W.isFn K (.ref (nsA K (He.ga K "Equals") "known")) = true),
    decide (PySem.W.findIn K (.ref (He.ga K "Equals")) "truth" = some (some (.ref (nsA K (He.ga K "Test") "truth")))),
    decide (PySem.W.findIn K (.ref (He.ga K "Equals")) "__call__" = some (some (.ref (nsA K (He.ga K "Test") "__call__")))),
    decide (PySem.W.findIn K (.ref (He.ga K "Equals")) "__eq__" = some (some (.ref (nsA K (He.ga K "Test") "__eq__")))),
    decide (PySem.W.findIn K (.ref (He.ga K "Equals")) "__str__" = some (some (.ref (nsA K (He.ga K "Test") "__str__")))),
    decide (PySem.W.kitOne K (.ref (He.ga K "Equals")) (.ref (He.ga K "Condition")) = some true),
    decide (PySem.W.kitOne K (.ref (He.ga K "Equals")) (.ref (He.ga K "Test")) = some true),
    decide (PySem.W.subIn K (.ref (He.ga K "Equals")) (.type "str") = some false),
    decide (PySem.W.nsIn K mainGlobals "Missing" = some (some (.ref (He.ga K "Missing")))),
    decide (PySem.W.plainGet K (He.ga K "Missing") Str.empty = true),
    decide (PySem.W.hasDictIn K (He.ga K "Missing") = true),
    decide (PySem.W.plainOver K (He.ga K "Missing") = true),
    decide (PySem.W.findIn K (.ref (He.ga K "Missing")) "__setattr__" = some (some (.builtin "object.__setattr__"))),
    decide (PySem.W.keepIn K (.ref (He.ga K "Missing")) = true),
    decide (PySem.W.findIn K (.ref (He.ga K "Missing")) "_text" = some none),
    decide (PySem.W.findIn K (.ref (He.ga K "Missing")) "_size" = some none),
    decide (PySem.W.findIn K (.ref (He.ga K "Missing")) "_columns" = some none),
    decide (PySem.W.findIn K (.ref (He.ga K "Missing")) "_names" = some none),
    decide (PySem.W.findIn K (.ref (He.ga K "Missing")) "_conditions" = some none),
    decide (PySem.W.findIn K (.ref (He.ga K "Missing")) "column" = some none),
    decide (PySem.W.findIn K (.ref (He.ga K "Missing")) "__ne__" = some (some (.builtin "object.__ne__"))),
    decide (PySem.W.mroIn K (He.ga K "Missing") (.type "object") = some true),
    decide (PySem.W.findIn K (.ref (He.ga K "Missing")) "__class__" = some (some (.builtin "object.__class__"))),
    decide (PySem.W.findIn K (.ref (He.ga K "Missing")) "__init__" = some (some (.ref (nsA K (He.ga K "Missing") "__init__")))),
    decide (PySem.W.isFn K (.ref (nsA K (He.ga K "Missing") "__init__")) = true),
    decide (PySem.W.makesIn K (He.ga K "Missing") = true),
    decide (PySem.W.findIn K (.ref (He.ga K "Missing")) "known" = some (some (.ref (nsA K (He.ga K "Missing") "known")))),
    decide (PySem.W.isFn K (.ref (nsA K (He.ga K "Missing") "known")) = true),
    decide (PySem.W.findIn K (.ref (He.ga K "Missing")) "truth" = some (some (.ref (nsA K (He.ga K "Test") "truth")))),
    decide (PySem.W.findIn K (.ref (He.ga K "Missing")) "__call__" = some (some (.ref (nsA K (He.ga K "Test") "__call__")))),
    decide (PySem.W.findIn K (.ref (He.ga K "Missing")) "__eq__" = some (some (.ref (nsA K (He.ga K "Test") "__eq__")))),
    decide (PySem.W.findIn K (.ref (He.ga K "Missing")) "__str__" = some (some (.ref (nsA K (He.ga K "Test") "__str__")))),
    decide (PySem.W.kitOne K (.ref (He.ga K "Missing")) (.ref (He.ga K "Condition")) = some true),
    decide (PySem.W.kitOne K (.ref (He.ga K "Missing")) (.ref (He.ga K "Test")) = some true),
    decide (PySem.W.subIn K (.ref (He.ga K "Missing")) (.type "str") = some false),
    decide (PySem.W.specialIn K (.builtin "object.__class__") "__get__" = some (some (.builtin "getset_descriptor.__get__"))),
    decide (PySem.W.takesIn K (.builtin "object.__class__") = some true),
    decide (PySem.W.nsIn K mainGlobals "BadName" = some (some (.ref (He.ga K "BadName")))),
    decide (oexB K (He.ga K "BadName") = true),
    decide (PySem.W.findIn K (.ref (He.ga K "BadName")) "__setattr__" = some (some (.builtin "object.__setattr__"))),
    decide (PySem.W.subIn K (.ref (He.ga K "BadName")) (.type "BaseException") = some true),
    decide (PySem.W.typeIn K (.ref (He.ga K "BadName")) = some (.type "type")),
    decide (PySem.W.keepIn K (.ref (He.ga K "BadName")) = true),
    decide (PySem.W.findIn K (.ref (He.ga K "BadName")) "__init__" = some (some (.ref (nsA K (He.ga K "BadName") "__init__")))),
    decide (PySem.W.typeIn K (.ref (nsA K (He.ga K "BadName") "__init__")) = some (.type "function")),
    decide (PySem.W.findIn K (.ref (He.ga K "BadName")) "value" = some none),
    decide (PySem.W.findIn K (.ref (He.ga K "BadName")) "__getattribute__" = some (some (.builtin "BaseException.__getattribute__"))),
    decide (PySem.W.findIn K (.ref (He.ga K "BadName")) "__getattr__" = some none),
    decide (PySem.W.hasDictIn K (He.ga K "BadName") = true),
    decide (PySem.W.findIn K (.ref (He.ga K "BadName")) "__class__" = some (some (.builtin "object.__class__"))),
    decide (PySem.W.mroIn K (He.ga K "BadName") (.type "object") = some true),
    decide (PySem.W.nsIn K mainGlobals "BadNumber" = some (some (.ref (He.ga K "BadNumber")))),
    decide (oexB K (He.ga K "BadNumber") = true),
    decide (PySem.W.findIn K (.ref (He.ga K "BadNumber")) "__setattr__" = some (some (.builtin "object.__setattr__"))),
    decide (PySem.W.subIn K (.ref (He.ga K "BadNumber")) (.type "BaseException") = some true),
    decide (PySem.W.typeIn K (.ref (He.ga K "BadNumber")) = some (.type "type")),
    decide (PySem.W.keepIn K (.ref (He.ga K "BadNumber")) = true),
    decide (PySem.W.findIn K (.ref (He.ga K "BadNumber")) "__init__" = some (some (.ref (nsA K (He.ga K "BadNumber") "__init__")))),
    decide (PySem.W.typeIn K (.ref (nsA K (He.ga K "BadNumber") "__init__")) = some (.type "function")),
    decide (PySem.W.findIn K (.ref (He.ga K "BadNumber")) "value" = some none),
    decide (PySem.W.findIn K (.ref (He.ga K "BadNumber")) "__getattribute__" = some (some (.builtin "BaseException.__getattribute__"))),
    decide (PySem.W.findIn K (.ref (He.ga K "BadNumber")) "__getattr__" = some none),
    decide (PySem.W.hasDictIn K (He.ga K "BadNumber") = true),
    decide (PySem.W.findIn K (.ref (He.ga K "BadNumber")) "__class__" = some (some (.builtin "object.__class__"))),
    decide (PySem.W.mroIn K (He.ga K "BadNumber") (.type "object") = some true),
    decide (PySem.W.nsIn K mainGlobals "CountError" = some (some (.ref (He.ga K "CountError")))),
    decide (PySem.W.subIn K (.ref (He.ga K "BadName")) (.ref (He.ga K "CountError")) = some true),
    decide (PySem.W.isClsIn K (He.ga K "CountError") = true),
    decide (PySem.W.subIn K (.ref (He.ga K "CountError")) (.type "BaseException") = some true),
    decide (PySem.W.typeIn K (.ref (He.ga K "CountError")) = some (.type "type")),
    decide (PySem.W.subIn K (.ref (He.ga K "BadNumber")) (.ref (He.ga K "CountError")) = some true),
    decide (PySem.W.isClsIn K (He.ga K "CountError") = true),
    decide (PySem.W.subIn K (.ref (He.ga K "CountError")) (.type "BaseException") = some true),
    decide (PySem.W.typeIn K (.ref (He.ga K "CountError")) = some (.type "type")),
    decide (PySem.W.subIn K (.ref (He.ga K "Test")) (.type "int") = some false),
    decide (PySem.W.subIn K (.ref (He.ga K "Test")) (.type "bool") = some false),
    decide (PySem.W.subIn K (.ref (He.ga K "Test")) (.type "list") = some false),
    decide (PySem.W.subIn K (.ref (He.ga K "Test")) (.type "tuple") = some false),
    decide (PySem.W.subIn K (.ref (He.ga K "Test")) (.type "dict") = some false),
    decide (PySem.W.subIn K (.ref (He.ga K "Test")) (.type "set") = some false),
    decide (PySem.W.subIn K (.ref (He.ga K "Test")) (.type "bytes") = some false),
    decide (PySem.W.subIn K (.ref (He.ga K "Test")) (.type "float") = some false),
    decide (PySem.W.fnIn K (nsA K (He.ga K "Test") "__call__") = true),
    decide (PySem.W.findIn K (.ref (He.ga K "Test")) "columns" = some (some (.ref (nsA K (He.ga K "Test") "columns")))),
    decide (PySem.W.specialIn K (.ref (nsA K (He.ga K "Test") "columns")) "__get__" = some (some (.builtin "property.__get__"))),
    decide (PySem.W.takesIn K (.ref (nsA K (He.ga K "Test") "columns")) = some true),
    decide (PySem.W.recIn K (nsA K (He.ga K "Test") "columns") "property" = some (.ref (fstA K "property" (nsA K (He.ga K "Test") "columns")) :: (rstA K "property" (nsA K (He.ga K "Test") "columns")))),
    decide (PySem.W.findIn K (.ref (He.ga K "Test")) "names" = some (some (.ref (nsA K (He.ga K "Test") "names")))),
    decide (PySem.W.specialIn K (.ref (nsA K (He.ga K "Test") "names")) "__get__" = some (some (.builtin "property.__get__"))),
    decide (PySem.W.takesIn K (.ref (nsA K (He.ga K "Test") "names")) = some true),
    decide (PySem.W.recIn K (nsA K (He.ga K "Test") "names") "property" = some (.ref (fstA K "property" (nsA K (He.ga K "Test") "names")) :: (rstA K "property" (nsA K (He.ga K "Test") "names")))),
    decide (PySem.W.findIn K (.ref (He.ga K "Test")) "size" = some (some (.ref (nsA K (He.ga K "Test") "size")))),
    decide (PySem.W.specialIn K (.ref (nsA K (He.ga K "Test") "size")) "__get__" = some (some (.builtin "property.__get__"))),
    decide (PySem.W.takesIn K (.ref (nsA K (He.ga K "Test") "size")) = some true),
    decide (PySem.W.recIn K (nsA K (He.ga K "Test") "size") "property" = some (.ref (fstA K "property" (nsA K (He.ga K "Test") "size")) :: (rstA K "property" (nsA K (He.ga K "Test") "size")))),
    decide (PySem.W.findIn K (.ref (He.ga K "Test")) "conditions" = some (some (.ref (nsA K (He.ga K "Test") "conditions")))),
    decide (PySem.W.specialIn K (.ref (nsA K (He.ga K "Test") "conditions")) "__get__" = some (some (.builtin "property.__get__"))),
    decide (PySem.W.takesIn K (.ref (nsA K (He.ga K "Test") "conditions")) = some true),
    decide (PySem.W.recIn K (nsA K (He.ga K "Test") "conditions") "property" = some (.ref (fstA K "property" (nsA K (He.ga K "Test") "conditions")) :: (rstA K "property" (nsA K (He.ga K "Test") "conditions")))),
    decide (PySem.W.subIn K (.ref (He.ga K "Condition")) (.type "int") = some false),
    decide (PySem.W.subIn K (.ref (He.ga K "Condition")) (.type "bool") = some false),
    decide (PySem.W.subIn K (.ref (He.ga K "Condition")) (.type "list") = some false),
    decide (PySem.W.subIn K (.ref (He.ga K "Condition")) (.type "tuple") = some false),
    decide (PySem.W.subIn K (.ref (He.ga K "Condition")) (.type "dict") = some false),
    decide (PySem.W.subIn K (.ref (He.ga K "Condition")) (.type "set") = some false),
    decide (PySem.W.subIn K (.ref (He.ga K "Condition")) (.type "bytes") = some false),
    decide (PySem.W.subIn K (.ref (He.ga K "Condition")) (.type "float") = some false),
    decide (PySem.W.subIn K (.ref (He.ga K "Below")) (.type "int") = some false),
    decide (PySem.W.subIn K (.ref (He.ga K "Below")) (.type "bool") = some false),
    decide (PySem.W.subIn K (.ref (He.ga K "Below")) (.type "list") = some false),
    decide (PySem.W.subIn K (.ref (He.ga K "Below")) (.type "tuple") = some false),
    decide (PySem.W.subIn K (.ref (He.ga K "Below")) (.type "dict") = some false),
    decide (PySem.W.subIn K (.ref (He.ga K "Below")) (.type "set") = some false),
    decide (PySem.W.subIn K (.ref (He.ga K "Below")) (.type "bytes") = some false),
    decide (PySem.W.subIn K (.ref (He.ga K "Below")) (.type "float") = some false),
    decide (PySem.W.subIn K (.ref (He.ga K "UpTo")) (.type "int") = some false),
    decide (PySem.W.subIn K (.ref (He.ga K "UpTo")) (.type "bool") = some false),
    decide (PySem.W.subIn K (.ref (He.ga K "UpTo")) (.type "list") = some false),
    decide (PySem.W.subIn K (.ref (He.ga K "UpTo")) (.type "tuple") = some false),
    decide (PySem.W.subIn K (.ref (He.ga K "UpTo")) (.type "dict") = some false),
    decide (PySem.W.subIn K (.ref (He.ga K "UpTo")) (.type "set") = some false),
    decide (PySem.W.subIn K (.ref (He.ga K "UpTo")) (.type "bytes") = some false),
    decide (PySem.W.subIn K (.ref (He.ga K "UpTo")) (.type "float") = some false),
    decide (PySem.W.subIn K (.ref (He.ga K "Equals")) (.type "int") = some false),
    decide (PySem.W.subIn K (.ref (He.ga K "Equals")) (.type "bool") = some false),
    decide (PySem.W.subIn K (.ref (He.ga K "Equals")) (.type "list") = some false),
    decide (PySem.W.subIn K (.ref (He.ga K "Equals")) (.type "tuple") = some false),
    decide (PySem.W.subIn K (.ref (He.ga K "Equals")) (.type "dict") = some false),
    decide (PySem.W.subIn K (.ref (He.ga K "Equals")) (.type "set") = some false),
    decide (PySem.W.subIn K (.ref (He.ga K "Equals")) (.type "bytes") = some false),
    decide (PySem.W.subIn K (.ref (He.ga K "Equals")) (.type "float") = some false),
    decide (PySem.W.subIn K (.ref (He.ga K "Missing")) (.type "int") = some false),
    decide (PySem.W.subIn K (.ref (He.ga K "Missing")) (.type "bool") = some false),
    decide (PySem.W.subIn K (.ref (He.ga K "Missing")) (.type "list") = some false),
    decide (PySem.W.subIn K (.ref (He.ga K "Missing")) (.type "tuple") = some false),
    decide (PySem.W.subIn K (.ref (He.ga K "Missing")) (.type "dict") = some false),
    decide (PySem.W.subIn K (.ref (He.ga K "Missing")) (.type "set") = some false),
    decide (PySem.W.subIn K (.ref (He.ga K "Missing")) (.type "bytes") = some false),
    decide (PySem.W.subIn K (.ref (He.ga K "Missing")) (.type "float") = some false),
    decide (PySem.W.findIn K (.ref (He.ga K "Below")) "columns" = some (some (.ref (nsA K (He.ga K "Test") "columns")))),
    decide (PySem.W.findIn K (.ref (He.ga K "Below")) "names" = some (some (.ref (nsA K (He.ga K "Test") "names")))),
    decide (PySem.W.findIn K (.ref (He.ga K "Below")) "size" = some (some (.ref (nsA K (He.ga K "Test") "size")))),
    decide (PySem.W.findIn K (.ref (He.ga K "Below")) "conditions" = some (some (.ref (nsA K (He.ga K "Test") "conditions")))),
    decide (PySem.W.findIn K (.ref (He.ga K "UpTo")) "columns" = some (some (.ref (nsA K (He.ga K "Test") "columns")))),
    decide (PySem.W.findIn K (.ref (He.ga K "UpTo")) "names" = some (some (.ref (nsA K (He.ga K "Test") "names")))),
    decide (PySem.W.findIn K (.ref (He.ga K "UpTo")) "size" = some (some (.ref (nsA K (He.ga K "Test") "size")))),
    decide (PySem.W.findIn K (.ref (He.ga K "UpTo")) "conditions" = some (some (.ref (nsA K (He.ga K "Test") "conditions")))),
    decide (PySem.W.findIn K (.ref (He.ga K "Equals")) "columns" = some (some (.ref (nsA K (He.ga K "Test") "columns")))),
    decide (PySem.W.findIn K (.ref (He.ga K "Equals")) "names" = some (some (.ref (nsA K (He.ga K "Test") "names")))),
    decide (PySem.W.findIn K (.ref (He.ga K "Equals")) "size" = some (some (.ref (nsA K (He.ga K "Test") "size")))),
    decide (PySem.W.findIn K (.ref (He.ga K "Equals")) "conditions" = some (some (.ref (nsA K (He.ga K "Test") "conditions")))),
    decide (PySem.W.findIn K (.ref (He.ga K "Missing")) "columns" = some (some (.ref (nsA K (He.ga K "Test") "columns")))),
    decide (PySem.W.findIn K (.ref (He.ga K "Missing")) "names" = some (some (.ref (nsA K (He.ga K "Test") "names")))),
    decide (PySem.W.findIn K (.ref (He.ga K "Missing")) "size" = some (some (.ref (nsA K (He.ga K "Test") "size")))),
    decide (PySem.W.findIn K (.ref (He.ga K "Missing")) "conditions" = some (some (.ref (nsA K (He.ga K "Test") "conditions")))),
    decide (PySem.W.notFirst K (He.ga K "Test") (.type "str") = true),
    decide (PySem.W.kitOne K (.type "str") (.ref (He.ga K "Test")) = some false),
    decide (PySem.W.notFirst K (He.ga K "Below") (.type "str") = true),
    decide (PySem.W.kitOne K (.type "str") (.ref (He.ga K "Below")) = some false),
    decide (PySem.W.notFirst K (He.ga K "UpTo") (.type "str") = true),
    decide (PySem.W.kitOne K (.type "str") (.ref (He.ga K "UpTo")) = some false),
    decide (PySem.W.notFirst K (He.ga K "Equals") (.type "str") = true),
    decide (PySem.W.kitOne K (.type "str") (.ref (He.ga K "Equals")) = some false),
    decide (PySem.W.notFirst K (He.ga K "Missing") (.type "str") = true),
    decide (PySem.W.kitOne K (.type "str") (.ref (He.ga K "Missing")) = some false),
    decide (PySem.W.nsIn K mainGlobals "RESERVED" = some (some (.ref (He.ga K "RESERVED")))),
    decide (∀ x ∈ poolN, PySem.W.nsIn K (He.ga K "RESERVED") x = some none),
    decide ((PySem.W.nsIn K (He.ga K "RESERVED") "null").map Option.isSome = some true),
    decide ((PySem.W.nsIn K (He.ga K "RESERVED") "where").map Option.isSome = some true),
    decide ((PySem.W.nsIn K (He.ga K "RESERVED") "self").map Option.isSome = some true),
    decide (PySem.W.kitOne K (.ref (He.ga K "BadNumber")) (.ref (He.ga K "BadName")) = some false),
    decide (PySem.W.notFirst K (He.ga K "Below") (.ref (He.ga K "UpTo")) = true),
    decide (PySem.W.notFirst K (He.ga K "Below") (.ref (He.ga K "Equals")) = true),
    decide (PySem.W.notFirst K (He.ga K "Below") (.ref (He.ga K "Missing")) = true),
    decide (PySem.W.notFirst K (He.ga K "UpTo") (.ref (He.ga K "Below")) = true),
    decide (PySem.W.notFirst K (He.ga K "UpTo") (.ref (He.ga K "Equals")) = true),
    decide (PySem.W.notFirst K (He.ga K "UpTo") (.ref (He.ga K "Missing")) = true),
    decide (PySem.W.notFirst K (He.ga K "Equals") (.ref (He.ga K "Below")) = true),
    decide (PySem.W.notFirst K (He.ga K "Equals") (.ref (He.ga K "UpTo")) = true),
    decide (PySem.W.notFirst K (He.ga K "Equals") (.ref (He.ga K "Missing")) = true),
    decide (PySem.W.notFirst K (He.ga K "Missing") (.ref (He.ga K "Below")) = true),
    decide (PySem.W.notFirst K (He.ga K "Missing") (.ref (He.ga K "UpTo")) = true),
    decide (PySem.W.notFirst K (He.ga K "Missing") (.ref (He.ga K "Equals")) = true),
    decide (PySem.W.nsIn K mainGlobals "is_integer" = some (some (.ref (He.ga K "is_integer")))),
    decide (PySem.W.nsIn K mainGlobals "is_value" = some (some (.ref (He.ga K "is_value")))),
    decide (PySem.W.nsIn K mainGlobals "is_name" = some (some (.ref (He.ga K "is_name")))),
    decide (PySem.W.nsIn K mainGlobals "own_copy" = some (some (.ref (He.ga K "own_copy")))),
    decide (PySem.W.nsIn K mainGlobals "check_comparison" = some (some (.ref (He.ga K "check_comparison")))),
    decide (PySem.W.nsIn K mainGlobals "check_told" = some (some (.ref (He.ga K "check_told")))),
    decide (PySem.W.nsIn K mainGlobals "are_values" = some (some (.ref (He.ga K "are_values")))),
    decide (PySem.W.nsIn K mainGlobals "are_counts" = some (some (.ref (He.ga K "are_counts")))),
    decide (PySem.W.nsIn K mainGlobals "_law_pen" = some (some (.ref (He.ga K "_law_pen")))),
    decide (PySem.W.nsIn K mainGlobals "_law_draw" = some (some (.ref (He.ga K "_law_draw")))),
    decide (PySem.W.nsIn K mainGlobals "_law_pick" = some (some (.ref (He.ga K "_law_pick")))),
    decide (PySem.W.nsIn K mainGlobals "_law_heard" = some (some (.ref (He.ga K "_law_heard")))),
    decide (PySem.W.nsIn K mainGlobals "_law_one_right" = some (some (.ref (He.ga K "_law_one_right")))),
    decide (PySem.W.nsIn K mainGlobals "law" = some (some (.ref (He.ga K "law")))),
    decide (PySem.W.nsIn K mainGlobals "abs" = some none),
    decide (PySem.W.nsIn K mainGlobals "all" = some none),
    decide (PySem.W.nsIn K mainGlobals "bool" = some none),
    decide (PySem.W.nsIn K mainGlobals "dict" = some none),
    decide (PySem.W.nsIn K mainGlobals "int" = some none),
    decide (PySem.W.nsIn K mainGlobals "isinstance" = some none),
    decide (PySem.W.nsIn K mainGlobals "len" = some none),
    decide (PySem.W.nsIn K mainGlobals "list" = some none),
    decide (PySem.W.nsIn K mainGlobals "range" = some none),
    decide (PySem.W.nsIn K mainGlobals "repr" = some none),
    decide (PySem.W.nsIn K mainGlobals "str" = some none),
    decide (PySem.W.nsIn K mainGlobals "tuple" = some none),
    decide ((He.Fa.int "MOST_LETTERS" 8).ok K = true)]
def fnsY : List DefY := [
    ⟨fun K => (He.ga K "is_integer"), "is_integer", "is_integer", sis_integer, []⟩,
    ⟨fun K => (He.ga K "is_value"), "is_value", "is_value", sis_value, []⟩,
    ⟨fun K => (He.ga K "is_name"), "is_name", "is_name", sis_name, []⟩,
    ⟨fun K => (He.ga K "own_copy"), "own_copy", "own_copy", sown_copy, []⟩,
    ⟨fun K => (He.ga K "check_comparison"), "check_comparison", "check_comparison", scheck_comparison, []⟩,
    ⟨fun K => (He.ga K "check_told"), "check_told", "check_told", scheck_told, []⟩,
    ⟨fun K => (He.ga K "are_values"), "are_values", "are_values", sare_values, []⟩,
    ⟨fun K => (He.ga K "are_counts"), "are_counts", "are_counts", sare_counts, []⟩,
    ⟨fun K => (He.ga K "_law_pen"), "_law_pen", "_law_pen", s_law_pen, []⟩,
    ⟨fun K => (He.ga K "_law_draw"), "_law_draw", "_law_draw", s_law_draw, []⟩,
    ⟨fun K => (He.ga K "_law_pick"), "_law_pick", "_law_pick", s_law_pick, []⟩,
    ⟨fun K => (He.ga K "_law_heard"), "_law_heard", "_law_heard", s_law_heard, []⟩,
    ⟨fun K => (He.ga K "_law_one_right"), "_law_one_right", "_law_one_right", s_law_one_right, []⟩,
    ⟨fun K => (He.ga K "law"), "law", "law", slaw, []⟩,
    ⟨fun K => (nsA K (He.ga K "Test") "__init__"), "__init__", "Test.__init__", sTest___init__, []⟩,
    ⟨fun K => (nsA K (He.ga K "Test") "truth"), "truth", "Test.truth", sTest_truth, [.non]⟩,
    ⟨fun K => (nsA K (He.ga K "Test") "__call__"), "__call__", "Test.__call__", sTest___call__, [.non]⟩,
    ⟨fun K => (fstA K "property" (nsA K (He.ga K "Test") "columns")), "columns", "Test.columns", sTest_columns, []⟩,
    ⟨fun K => (fstA K "property" (nsA K (He.ga K "Test") "names")), "names", "Test.names", sTest_names, []⟩,
    ⟨fun K => (fstA K "property" (nsA K (He.ga K "Test") "size")), "size", "Test.size", sTest_size, []⟩,
    ⟨fun K => (fstA K "property" (nsA K (He.ga K "Test") "conditions")), "conditions", "Test.conditions", sTest_conditions, []⟩,
    ⟨fun K => (nsA K (He.ga K "Test") "__eq__"), "__eq__", "Test.__eq__", sTest___eq__, []⟩,
    ⟨fun K => (nsA K (He.ga K "Test") "__str__"), "__str__", "Test.__str__", sTest___str__, []⟩,
    ⟨fun K => (nsA K (He.ga K "Condition") "__init__"), "__init__", "Condition.__init__", sCondition___init__, []⟩,
    ⟨fun K => (nsA K (He.ga K "Below") "__init__"), "__init__", "Below.__init__", sBelow___init__, []⟩,
    ⟨fun K => (nsA K (He.ga K "Below") "known"), "known", "Below.known", sBelow_known, []⟩,
    ⟨fun K => (nsA K (He.ga K "UpTo") "__init__"), "__init__", "UpTo.__init__", sUpTo___init__, []⟩,
    ⟨fun K => (nsA K (He.ga K "UpTo") "known"), "known", "UpTo.known", sUpTo_known, []⟩,
    ⟨fun K => (nsA K (He.ga K "Equals") "__init__"), "__init__", "Equals.__init__", sEquals___init__, []⟩,
    ⟨fun K => (nsA K (He.ga K "Equals") "known"), "known", "Equals.known", sEquals_known, []⟩,
    ⟨fun K => (nsA K (He.ga K "Missing") "__init__"), "__init__", "Missing.__init__", sMissing___init__, []⟩,
    ⟨fun K => (nsA K (He.ga K "Missing") "known"), "known", "Missing.known", sMissing_known, []⟩,
    ⟨fun K => (nsA K (He.ga K "BadName") "__init__"), "__init__", "BadName.__init__", sBadName___init__, []⟩,
    ⟨fun K => (nsA K (He.ga K "BadNumber") "__init__"), "__init__", "BadNumber.__init__", sBadNumber___init__, []⟩]
def tfY : List (PySem.W.Frag → Addr) := [fun K => (He.ga K "law")]
def looseY : List Str := (["_wall", "MOST_LETTERS", "RESERVED", "is_integer", "is_value", "is_name", "ordered_texts", "merged_texts", "own_copy", "CountError", "BadInput", "Refused"] : List Str) ++ (["BadCounts", "BadName", "BadNumber", "BadRow", "BadTest", "NoColumn", "NoTable", "Test", "Condition", "Below", "UpTo", "Equals"] : List Str) ++ (["Missing", "And", "Or", "Not", "truth_of_both", "truth_of_either", "truth_of_opposite", "unlike_conditions", "merged_conditions", "check_comparison", "check_both", "check_told"] : List Str) ++ (["are_values", "are_counts", "_law_pen", "_law_draw", "_law_pick", "_law_heard", "_law_one_right"] : List Str)
def tsY : List TabY := [(fun K => (He.ga K "RESERVED"), ["and", "or", "not", "has", "null", "where", "unless", "empty", "of", "none", "self", "columns"])]
abbrev hkY : PySem.W.Hook := hookY 5 bsY fnsY tfY tsY
def obY (s : PySem.W.SharedT) : ObY := lookY 5 bsY fnsY tfY tsY (HandSHeadRun.getT s)
theorem obY_eq (s : PySem.W.SharedT) : obY s = hkY.obs s.abs := lookY_eq (HandSHeadRun.getT_eq s)
set_option maxHeartbeats 0 in
theorem runF (w : World) : HandSHeadRun.RunEq RY (PySem.W.view RY.prog [48]) hkY obY 12000 looseY (w.withFollow "special-get-raises" false) := by
  intro os
  kernel_rfl
set_option maxHeartbeats 0 in
theorem runT (w : World) : HandSHeadRun.RunEq RY (PySem.W.view RY.prog [48]) hkY obY 12000 looseY (w.withFollow "special-get-raises" true) := by
  intro os
  kernel_rfl
theorem runY (w : World) : HandSHeadRun.RunEq RY (PySem.W.view RY.prog [48]) hkY obY 12000 looseY w := by
  have h : ∀ b, HandSHeadRun.RunEq RY (PySem.W.view RY.prog [48]) hkY obY 12000 looseY (w.withFollow "special-get-raises" b) := fun b => by
    cases b
    · exact runF w
    · exact runT w
  have e := h (w.params.followText "special-get-raises")
  rwa [PySem.World.withFollow_self] at e
theorem all_y {P : Program} {w : World} {K : PySem.W.Frag} {h : Heap} {mg : Str → Option Value} {fa : Addr} (G : h.Ns mainGlobals mg) (hfa : mg "law" = some (.ref fa)) (c : SaysY bsY fnsY tfY tsY w h K) :
    ∃ (fd : FuncData) (cs : List (Addr × Addr)) (sp : Sp), (∀ p ∈ cs, h.get? p.2 = some { cls := .none, data := .fields #[] }) ∧ (∀ p ∈ cs, K.lookup p.2 = none) ∧ (∀ p ∈ cs, PySem.W.CodeHd h p.1 p.2) ∧ (∀ (s : Shared) (u : Value), BindsTo s fd ⟨[u], []⟩ [("_law_script", u)]) ∧ (∀ (H : Hp) (a : Addr) (ns : List Int), ns.length ≤ 63 → OnlyT (cs.map Prod.snd) H → SqL K H a (ns.map V.int) → sp [.ref a] H (fun v _ => v = .bl true) fun _ _ _ => False) ∧
      ∀ base : Heap, K.In base → base.Ns mainGlobals mg → (∀ p ∈ cs, LamX.TabB base mg p.1 p.2) → GOk P w K mg base 35 fa fd ["_law_script"] sp := by
  have X := c.inK
  have gTest : PySem.W.nsIn K mainGlobals "Test" = some (some (.ref (He.ga K "Test"))) := c.fact 0
  have pgTest : PySem.W.plainGet K (He.ga K "Test") Str.empty = true := c.fact 1
  have hdTest : PySem.W.hasDictIn K (He.ga K "Test") = true := c.fact 2
  have poTest : PySem.W.plainOver K (He.ga K "Test") = true := c.fact 3
  have saTest : PySem.W.findIn K (.ref (He.ga K "Test")) "__setattr__" = some (some (.builtin "object.__setattr__")) := c.fact 4
  have kcTest : PySem.W.keepIn K (.ref (He.ga K "Test")) = true := c.fact 5
  have neTest : PySem.W.findIn K (.ref (He.ga K "Test")) "__ne__" = some (some (.builtin "object.__ne__")) := c.fact 6
  have mrTest : PySem.W.mroIn K (He.ga K "Test") (.type "object") = some true := c.fact 7
  have caTest : PySem.W.findIn K (.ref (He.ga K "Test")) "__class__" = some (some (.builtin "object.__class__")) := c.fact 8
  have rdTest___init__ : PySem.W.readsIn K (He.ga K "Test") ((PySem.W.typeIn K (.ref (He.ga K "Test"))).getD .none) = true := c.fact 9
  have gaTest___init__ : PySem.W.specialIn K (.ref (He.ga K "Test")) "__getattribute__" = some (some (.builtin "type.__getattribute__")) := c.fact 10
  have tyTest___init__ : PySem.W.typeIn K (.ref (He.ga K "Test")) = some ((PySem.W.typeIn K (.ref (He.ga K "Test"))).getD .none) := c.fact 11
  have atTest___init__ : PySem.W.findCls K (.ref (He.ga K "Test")) ((PySem.W.typeIn K (.ref (He.ga K "Test"))).getD .none) "__init__" = some (.val (.ref (nsA K (He.ga K "Test") "__init__"))) := c.fact 12
  have atTest_truth : PySem.W.findIn K (.ref (He.ga K "Test")) "truth" = some (some (.ref (nsA K (He.ga K "Test") "truth"))) := c.fact 13
  have fnTest_truth : PySem.W.isFn K (.ref (nsA K (He.ga K "Test") "truth")) = true := c.fact 14
  have atTest___call__ : PySem.W.findIn K (.ref (He.ga K "Test")) "__call__" = some (some (.ref (nsA K (He.ga K "Test") "__call__"))) := c.fact 15
  have fnTest___call__ : PySem.W.isFn K (.ref (nsA K (He.ga K "Test") "__call__")) = true := c.fact 16
  have atTest___eq__ : PySem.W.findIn K (.ref (He.ga K "Test")) "__eq__" = some (some (.ref (nsA K (He.ga K "Test") "__eq__"))) := c.fact 17
  have fnTest___eq__ : PySem.W.isFn K (.ref (nsA K (He.ga K "Test") "__eq__")) = true := c.fact 18
  have atTest___str__ : PySem.W.findIn K (.ref (He.ga K "Test")) "__str__" = some (some (.ref (nsA K (He.ga K "Test") "__str__"))) := c.fact 19
  have fnTest___str__ : PySem.W.isFn K (.ref (nsA K (He.ga K "Test") "__str__")) = true := c.fact 20
  have ksTest : PySem.W.subIn K (.ref (He.ga K "Test")) (.type "str") = some false := c.fact 21
  have gCondition : PySem.W.nsIn K mainGlobals "Condition" = some (some (.ref (He.ga K "Condition"))) := c.fact 22
  have pgCondition : PySem.W.plainGet K (He.ga K "Condition") Str.empty = true := c.fact 23
  have hdCondition : PySem.W.hasDictIn K (He.ga K "Condition") = true := c.fact 24
  have poCondition : PySem.W.plainOver K (He.ga K "Condition") = true := c.fact 25
  have saCondition : PySem.W.findIn K (.ref (He.ga K "Condition")) "__setattr__" = some (some (.builtin "object.__setattr__")) := c.fact 26
  have kcCondition : PySem.W.keepIn K (.ref (He.ga K "Condition")) = true := c.fact 27
  have neCondition : PySem.W.findIn K (.ref (He.ga K "Condition")) "__ne__" = some (some (.builtin "object.__ne__")) := c.fact 28
  have mrCondition : PySem.W.mroIn K (He.ga K "Condition") (.type "object") = some true := c.fact 29
  have caCondition : PySem.W.findIn K (.ref (He.ga K "Condition")) "__class__" = some (some (.builtin "object.__class__")) := c.fact 30
  have rdCondition___init__ : PySem.W.readsIn K (He.ga K "Condition") ((PySem.W.typeIn K (.ref (He.ga K "Condition"))).getD .none) = true := c.fact 31
  have gaCondition___init__ : PySem.W.specialIn K (.ref (He.ga K "Condition")) "__getattribute__" = some (some (.builtin "type.__getattribute__")) := c.fact 32
  have tyCondition___init__ : PySem.W.typeIn K (.ref (He.ga K "Condition")) = some ((PySem.W.typeIn K (.ref (He.ga K "Condition"))).getD .none) := c.fact 33
  have atCondition___init__ : PySem.W.findCls K (.ref (He.ga K "Condition")) ((PySem.W.typeIn K (.ref (He.ga K "Condition"))).getD .none) "__init__" = some (.val (.ref (nsA K (He.ga K "Condition") "__init__"))) := c.fact 34
  have kbCondition_Test : PySem.W.kitOne K (.ref (He.ga K "Condition")) (.ref (He.ga K "Test")) = some true := c.fact 35
  have ksCondition : PySem.W.subIn K (.ref (He.ga K "Condition")) (.type "str") = some false := c.fact 36
  have gBelow : PySem.W.nsIn K mainGlobals "Below" = some (some (.ref (He.ga K "Below"))) := c.fact 37
  have pgBelow : PySem.W.plainGet K (He.ga K "Below") Str.empty = true := c.fact 38
  have hdBelow : PySem.W.hasDictIn K (He.ga K "Below") = true := c.fact 39
  have poBelow : PySem.W.plainOver K (He.ga K "Below") = true := c.fact 40
  have saBelow : PySem.W.findIn K (.ref (He.ga K "Below")) "__setattr__" = some (some (.builtin "object.__setattr__")) := c.fact 41
  have kcBelow : PySem.W.keepIn K (.ref (He.ga K "Below")) = true := c.fact 42
  have naBelow__text : PySem.W.findIn K (.ref (He.ga K "Below")) "_text" = some none := c.fact 43
  have naBelow__size : PySem.W.findIn K (.ref (He.ga K "Below")) "_size" = some none := c.fact 44
  have naBelow__columns : PySem.W.findIn K (.ref (He.ga K "Below")) "_columns" = some none := c.fact 45
  have naBelow__names : PySem.W.findIn K (.ref (He.ga K "Below")) "_names" = some none := c.fact 46
  have naBelow__conditions : PySem.W.findIn K (.ref (He.ga K "Below")) "_conditions" = some none := c.fact 47
  have naBelow_column : PySem.W.findIn K (.ref (He.ga K "Below")) "column" = some none := c.fact 48
  have naBelow_number : PySem.W.findIn K (.ref (He.ga K "Below")) "number" = some none := c.fact 49
  have neBelow : PySem.W.findIn K (.ref (He.ga K "Below")) "__ne__" = some (some (.builtin "object.__ne__")) := c.fact 50
  have mrBelow : PySem.W.mroIn K (He.ga K "Below") (.type "object") = some true := c.fact 51
  have caBelow : PySem.W.findIn K (.ref (He.ga K "Below")) "__class__" = some (some (.builtin "object.__class__")) := c.fact 52
  have atBelow___init__ : PySem.W.findIn K (.ref (He.ga K "Below")) "__init__" = some (some (.ref (nsA K (He.ga K "Below") "__init__"))) := c.fact 53
  have fnBelow___init__ : PySem.W.isFn K (.ref (nsA K (He.ga K "Below") "__init__")) = true := c.fact 54
  have mkBelow : PySem.W.makesIn K (He.ga K "Below") = true := c.fact 55
  have atBelow_known : PySem.W.findIn K (.ref (He.ga K "Below")) "known" = some (some (.ref (nsA K (He.ga K "Below") "known"))) := c.fact 56
  have fnBelow_known : PySem.W.isFn K (.ref (nsA K (He.ga K "Below") "known")) = true := c.fact 57
  have atBelow_truth : PySem.W.findIn K (.ref (He.ga K "Below")) "truth" = some (some (.ref (nsA K (He.ga K "Test") "truth"))) := c.fact 58
  have atBelow___call__ : PySem.W.findIn K (.ref (He.ga K "Below")) "__call__" = some (some (.ref (nsA K (He.ga K "Test") "__call__"))) := c.fact 59
  have atBelow___eq__ : PySem.W.findIn K (.ref (He.ga K "Below")) "__eq__" = some (some (.ref (nsA K (He.ga K "Test") "__eq__"))) := c.fact 60
  have atBelow___str__ : PySem.W.findIn K (.ref (He.ga K "Below")) "__str__" = some (some (.ref (nsA K (He.ga K "Test") "__str__"))) := c.fact 61
  have kbBelow_Condition : PySem.W.kitOne K (.ref (He.ga K "Below")) (.ref (He.ga K "Condition")) = some true := c.fact 62
  have kbBelow_Test : PySem.W.kitOne K (.ref (He.ga K "Below")) (.ref (He.ga K "Test")) = some true := c.fact 63
  have ksBelow : PySem.W.subIn K (.ref (He.ga K "Below")) (.type "str") = some false := c.fact 64
  have gUpTo : PySem.W.nsIn K mainGlobals "UpTo" = some (some (.ref (He.ga K "UpTo"))) := c.fact 65
  have pgUpTo : PySem.W.plainGet K (He.ga K "UpTo") Str.empty = true := c.fact 66
  have hdUpTo : PySem.W.hasDictIn K (He.ga K "UpTo") = true := c.fact 67
  have poUpTo : PySem.W.plainOver K (He.ga K "UpTo") = true := c.fact 68
  have saUpTo : PySem.W.findIn K (.ref (He.ga K "UpTo")) "__setattr__" = some (some (.builtin "object.__setattr__")) := c.fact 69
  have kcUpTo : PySem.W.keepIn K (.ref (He.ga K "UpTo")) = true := c.fact 70
  have naUpTo__text : PySem.W.findIn K (.ref (He.ga K "UpTo")) "_text" = some none := c.fact 71
  have naUpTo__size : PySem.W.findIn K (.ref (He.ga K "UpTo")) "_size" = some none := c.fact 72
  have naUpTo__columns : PySem.W.findIn K (.ref (He.ga K "UpTo")) "_columns" = some none := c.fact 73
  have naUpTo__names : PySem.W.findIn K (.ref (He.ga K "UpTo")) "_names" = some none := c.fact 74
  have naUpTo__conditions : PySem.W.findIn K (.ref (He.ga K "UpTo")) "_conditions" = some none := c.fact 75
  have naUpTo_column : PySem.W.findIn K (.ref (He.ga K "UpTo")) "column" = some none := c.fact 76
  have naUpTo_number : PySem.W.findIn K (.ref (He.ga K "UpTo")) "number" = some none := c.fact 77
  have neUpTo : PySem.W.findIn K (.ref (He.ga K "UpTo")) "__ne__" = some (some (.builtin "object.__ne__")) := c.fact 78
  have mrUpTo : PySem.W.mroIn K (He.ga K "UpTo") (.type "object") = some true := c.fact 79
  have caUpTo : PySem.W.findIn K (.ref (He.ga K "UpTo")) "__class__" = some (some (.builtin "object.__class__")) := c.fact 80
  have atUpTo___init__ : PySem.W.findIn K (.ref (He.ga K "UpTo")) "__init__" = some (some (.ref (nsA K (He.ga K "UpTo") "__init__"))) := c.fact 81
  have fnUpTo___init__ : PySem.W.isFn K (.ref (nsA K (He.ga K "UpTo") "__init__")) = true := c.fact 82
  have mkUpTo : PySem.W.makesIn K (He.ga K "UpTo") = true := c.fact 83
  have atUpTo_known : PySem.W.findIn K (.ref (He.ga K "UpTo")) "known" = some (some (.ref (nsA K (He.ga K "UpTo") "known"))) := c.fact 84
  have fnUpTo_known : PySem.W.isFn K (.ref (nsA K (He.ga K "UpTo") "known")) = true := c.fact 85
  have atUpTo_truth : PySem.W.findIn K (.ref (He.ga K "UpTo")) "truth" = some (some (.ref (nsA K (He.ga K "Test") "truth"))) := c.fact 86
  have atUpTo___call__ : PySem.W.findIn K (.ref (He.ga K "UpTo")) "__call__" = some (some (.ref (nsA K (He.ga K "Test") "__call__"))) := c.fact 87
  have atUpTo___eq__ : PySem.W.findIn K (.ref (He.ga K "UpTo")) "__eq__" = some (some (.ref (nsA K (He.ga K "Test") "__eq__"))) := c.fact 88
  have atUpTo___str__ : PySem.W.findIn K (.ref (He.ga K "UpTo")) "__str__" = some (some (.ref (nsA K (He.ga K "Test") "__str__"))) := c.fact 89
  have kbUpTo_Condition : PySem.W.kitOne K (.ref (He.ga K "UpTo")) (.ref (He.ga K "Condition")) = some true := c.fact 90
  have kbUpTo_Test : PySem.W.kitOne K (.ref (He.ga K "UpTo")) (.ref (He.ga K "Test")) = some true := c.fact 91
  have ksUpTo : PySem.W.subIn K (.ref (He.ga K "UpTo")) (.type "str") = some false := c.fact 92
  have gEquals : PySem.W.nsIn K mainGlobals "Equals" = some (some (.ref (He.ga K "Equals"))) := c.fact 93
  have pgEquals : PySem.W.plainGet K (He.ga K "Equals") Str.empty = true := c.fact 94
  have hdEquals : PySem.W.hasDictIn K (He.ga K "Equals") = true := c.fact 95
  have poEquals : PySem.W.plainOver K (He.ga K "Equals") = true := c.fact 96
  have saEquals : PySem.W.findIn K (.ref (He.ga K "Equals")) "__setattr__" = some (some (.builtin "object.__setattr__")) := c.fact 97
  have kcEquals : PySem.W.keepIn K (.ref (He.ga K "Equals")) = true := c.fact 98
  have naEquals__text : PySem.W.findIn K (.ref (He.ga K "Equals")) "_text" = some none := c.fact 99
  have naEquals__size : PySem.W.findIn K (.ref (He.ga K "Equals")) "_size" = some none := c.fact 100
  have naEquals__columns : PySem.W.findIn K (.ref (He.ga K "Equals")) "_columns" = some none := c.fact 101
  have naEquals__names : PySem.W.findIn K (.ref (He.ga K "Equals")) "_names" = some none := c.fact 102
  have naEquals__conditions : PySem.W.findIn K (.ref (He.ga K "Equals")) "_conditions" = some none := c.fact 103
  have naEquals_column : PySem.W.findIn K (.ref (He.ga K "Equals")) "column" = some none := c.fact 104
  have naEquals_number : PySem.W.findIn K (.ref (He.ga K "Equals")) "number" = some none := c.fact 105
  have neEquals : PySem.W.findIn K (.ref (He.ga K "Equals")) "__ne__" = some (some (.builtin "object.__ne__")) := c.fact 106
  have mrEquals : PySem.W.mroIn K (He.ga K "Equals") (.type "object") = some true := c.fact 107
  have caEquals : PySem.W.findIn K (.ref (He.ga K "Equals")) "__class__" = some (some (.builtin "object.__class__")) := c.fact 108
  have atEquals___init__ : PySem.W.findIn K (.ref (He.ga K "Equals")) "__init__" = some (some (.ref (nsA K (He.ga K "Equals") "__init__"))) := c.fact 109
  have fnEquals___init__ : PySem.W.isFn K (.ref (nsA K (He.ga K "Equals") "__init__")) = true := c.fact 110
  have mkEquals : PySem.W.makesIn K (He.ga K "Equals") = true := c.fact 111
  have atEquals_known : PySem.W.findIn K (.ref (He.ga K "Equals")) "known" = some (some (.ref (nsA K (He.ga K "Equals") "known"))) := c.fact 112
  have fnEquals_known : PySem.W.isFn K (.ref (nsA K (He.ga K "Equals") "known")) = true := c.fact 113
  have atEquals_truth : PySem.W.findIn K (.ref (He.ga K "Equals")) "truth" = some (some (.ref (nsA K (He.ga K "Test") "truth"))) := c.fact 114
  have atEquals___call__ : PySem.W.findIn K (.ref (He.ga K "Equals")) "__call__" = some (some (.ref (nsA K (He.ga K "Test") "__call__"))) := c.fact 115
  have atEquals___eq__ : PySem.W.findIn K (.ref (He.ga K "Equals")) "__eq__" = some (some (.ref (nsA K (He.ga K "Test") "__eq__"))) := c.fact 116
  have atEquals___str__ : PySem.W.findIn K (.ref (He.ga K "Equals")) "__str__" = some (some (.ref (nsA K (He.ga K "Test") "__str__"))) := c.fact 117
  have kbEquals_Condition : PySem.W.kitOne K (.ref (He.ga K "Equals")) (.ref (He.ga K "Condition")) = some true := c.fact 118
  have kbEquals_Test : PySem.W.kitOne K (.ref (He.ga K "Equals")) (.ref (He.ga K "Test")) = some true := c.fact 119
  have ksEquals : PySem.W.subIn K (.ref (He.ga K "Equals")) (.type "str") = some false := c.fact 120
  have gMissing : PySem.W.nsIn K mainGlobals "Missing" = some (some (.ref (He.ga K "Missing"))) := c.fact 121
  have pgMissing : PySem.W.plainGet K (He.ga K "Missing") Str.empty = true := c.fact 122
  have hdMissing : PySem.W.hasDictIn K (He.ga K "Missing") = true := c.fact 123
  have poMissing : PySem.W.plainOver K (He.ga K "Missing") = true := c.fact 124
  have saMissing : PySem.W.findIn K (.ref (He.ga K "Missing")) "__setattr__" = some (some (.builtin "object.__setattr__")) := c.fact 125
  have kcMissing : PySem.W.keepIn K (.ref (He.ga K "Missing")) = true := c.fact 126
  have naMissing__text : PySem.W.findIn K (.ref (He.ga K "Missing")) "_text" = some none := c.fact 127
  have naMissing__size : PySem.W.findIn K (.ref (He.ga K "Missing")) "_size" = some none := c.fact 128
  have naMissing__columns : PySem.W.findIn K (.ref (He.ga K "Missing")) "_columns" = some none := c.fact 129
  have naMissing__names : PySem.W.findIn K (.ref (He.ga K "Missing")) "_names" = some none := c.fact 130
  have naMissing__conditions : PySem.W.findIn K (.ref (He.ga K "Missing")) "_conditions" = some none := c.fact 131
  have naMissing_column : PySem.W.findIn K (.ref (He.ga K "Missing")) "column" = some none := c.fact 132
  have neMissing : PySem.W.findIn K (.ref (He.ga K "Missing")) "__ne__" = some (some (.builtin "object.__ne__")) := c.fact 133
  have mrMissing : PySem.W.mroIn K (He.ga K "Missing") (.type "object") = some true := c.fact 134
  have caMissing : PySem.W.findIn K (.ref (He.ga K "Missing")) "__class__" = some (some (.builtin "object.__class__")) := c.fact 135
  have atMissing___init__ : PySem.W.findIn K (.ref (He.ga K "Missing")) "__init__" = some (some (.ref (nsA K (He.ga K "Missing") "__init__"))) := c.fact 136
  have fnMissing___init__ : PySem.W.isFn K (.ref (nsA K (He.ga K "Missing") "__init__")) = true := c.fact 137
  have mkMissing : PySem.W.makesIn K (He.ga K "Missing") = true := c.fact 138
  have atMissing_known : PySem.W.findIn K (.ref (He.ga K "Missing")) "known" = some (some (.ref (nsA K (He.ga K "Missing") "known"))) := c.fact 139
  have fnMissing_known : PySem.W.isFn K (.ref (nsA K (He.ga K "Missing") "known")) = true := c.fact 140
  have atMissing_truth : PySem.W.findIn K (.ref (He.ga K "Missing")) "truth" = some (some (.ref (nsA K (He.ga K "Test") "truth"))) := c.fact 141
  have atMissing___call__ : PySem.W.findIn K (.ref (He.ga K "Missing")) "__call__" = some (some (.ref (nsA K (He.ga K "Test") "__call__"))) := c.fact 142
  have atMissing___eq__ : PySem.W.findIn K (.ref (He.ga K "Missing")) "__eq__" = some (some (.ref (nsA K (He.ga K "Test") "__eq__"))) := c.fact 143
  have atMissing___str__ : PySem.W.findIn K (.ref (He.ga K "Missing")) "__str__" = some (some (.ref (nsA K (He.ga K "Test") "__str__"))) := c.fact 144
  have kbMissing_Condition : PySem.W.kitOne K (.ref (He.ga K "Missing")) (.ref (He.ga K "Condition")) = some true := c.fact 145
  have kbMissing_Test : PySem.W.kitOne K (.ref (He.ga K "Missing")) (.ref (He.ga K "Test")) = some true := c.fact 146
  have ksMissing : PySem.W.subIn K (.ref (He.ga K "Missing")) (.type "str") = some false := c.fact 147
  have sg : PySem.W.specialIn K (.builtin "object.__class__") "__get__" = some (some (.builtin "getset_descriptor.__get__")) := c.fact 148
  have tk : PySem.W.takesIn K (.builtin "object.__class__") = some true := c.fact 149
  have gBadName : PySem.W.nsIn K mainGlobals "BadName" = some (some (.ref (He.ga K "BadName"))) := c.fact 150
  have xoBadName : oexB K (He.ga K "BadName") = true := c.fact 151
  have saBadName : PySem.W.findIn K (.ref (He.ga K "BadName")) "__setattr__" = some (some (.builtin "object.__setattr__")) := c.fact 152
  have eCBadName : PySem.W.subIn K (.ref (He.ga K "BadName")) (.type "BaseException") = some true := c.fact 153
  have tCBadName : PySem.W.typeIn K (.ref (He.ga K "BadName")) = some (.type "type") := c.fact 154
  have kCBadName : PySem.W.keepIn K (.ref (He.ga K "BadName")) = true := c.fact 155
  have atBadName___init__ : PySem.W.findIn K (.ref (He.ga K "BadName")) "__init__" = some (some (.ref (nsA K (He.ga K "BadName") "__init__"))) := c.fact 156
  have tiBadName : PySem.W.typeIn K (.ref (nsA K (He.ga K "BadName") "__init__")) = some (.type "function") := c.fact 157
  have noBadName_value : PySem.W.findIn K (.ref (He.ga K "BadName")) "value" = some none := c.fact 158
  have gaBadName : PySem.W.findIn K (.ref (He.ga K "BadName")) "__getattribute__" = some (some (.builtin "BaseException.__getattribute__")) := c.fact 159
  have ggBadName : PySem.W.findIn K (.ref (He.ga K "BadName")) "__getattr__" = some none := c.fact 160
  have hdBadName : PySem.W.hasDictIn K (He.ga K "BadName") = true := c.fact 161
  have caBadName : PySem.W.findIn K (.ref (He.ga K "BadName")) "__class__" = some (some (.builtin "object.__class__")) := c.fact 162
  have mrBadName : PySem.W.mroIn K (He.ga K "BadName") (.type "object") = some true := c.fact 163
  have gBadNumber : PySem.W.nsIn K mainGlobals "BadNumber" = some (some (.ref (He.ga K "BadNumber"))) := c.fact 164
  have xoBadNumber : oexB K (He.ga K "BadNumber") = true := c.fact 165
  have saBadNumber : PySem.W.findIn K (.ref (He.ga K "BadNumber")) "__setattr__" = some (some (.builtin "object.__setattr__")) := c.fact 166
  have eCBadNumber : PySem.W.subIn K (.ref (He.ga K "BadNumber")) (.type "BaseException") = some true := c.fact 167
  have tCBadNumber : PySem.W.typeIn K (.ref (He.ga K "BadNumber")) = some (.type "type") := c.fact 168
  have kCBadNumber : PySem.W.keepIn K (.ref (He.ga K "BadNumber")) = true := c.fact 169
  have atBadNumber___init__ : PySem.W.findIn K (.ref (He.ga K "BadNumber")) "__init__" = some (some (.ref (nsA K (He.ga K "BadNumber") "__init__"))) := c.fact 170
  have tiBadNumber : PySem.W.typeIn K (.ref (nsA K (He.ga K "BadNumber") "__init__")) = some (.type "function") := c.fact 171
  have noBadNumber_value : PySem.W.findIn K (.ref (He.ga K "BadNumber")) "value" = some none := c.fact 172
  have gaBadNumber : PySem.W.findIn K (.ref (He.ga K "BadNumber")) "__getattribute__" = some (some (.builtin "BaseException.__getattribute__")) := c.fact 173
  have ggBadNumber : PySem.W.findIn K (.ref (He.ga K "BadNumber")) "__getattr__" = some none := c.fact 174
  have hdBadNumber : PySem.W.hasDictIn K (He.ga K "BadNumber") = true := c.fact 175
  have caBadNumber : PySem.W.findIn K (.ref (He.ga K "BadNumber")) "__class__" = some (some (.builtin "object.__class__")) := c.fact 176
  have mrBadNumber : PySem.W.mroIn K (He.ga K "BadNumber") (.type "object") = some true := c.fact 177
  have gCountError : PySem.W.nsIn K mainGlobals "CountError" = some (some (.ref (He.ga K "CountError"))) := c.fact 178
  have emBadName_CountError : PySem.W.subIn K (.ref (He.ga K "BadName")) (.ref (He.ga K "CountError")) = some true := c.fact 179
  have ekBadName_CountError : PySem.W.isClsIn K (He.ga K "CountError") = true := c.fact 180
  have ebBadName_CountError : PySem.W.subIn K (.ref (He.ga K "CountError")) (.type "BaseException") = some true := c.fact 181
  have etBadName_CountError : PySem.W.typeIn K (.ref (He.ga K "CountError")) = some (.type "type") := c.fact 182
  have emBadNumber_CountError : PySem.W.subIn K (.ref (He.ga K "BadNumber")) (.ref (He.ga K "CountError")) = some true := c.fact 183
  have ekBadNumber_CountError : PySem.W.isClsIn K (He.ga K "CountError") = true := c.fact 184
  have ebBadNumber_CountError : PySem.W.subIn K (.ref (He.ga K "CountError")) (.type "BaseException") = some true := c.fact 185
  have etBadNumber_CountError : PySem.W.typeIn K (.ref (He.ga K "CountError")) = some (.type "type") := c.fact 186
  have ktint_Test : PySem.W.subIn K (.ref (He.ga K "Test")) (.type "int") = some false := c.fact 187
  have ktbool_Test : PySem.W.subIn K (.ref (He.ga K "Test")) (.type "bool") = some false := c.fact 188
  have ktlist_Test : PySem.W.subIn K (.ref (He.ga K "Test")) (.type "list") = some false := c.fact 189
  have kttuple_Test : PySem.W.subIn K (.ref (He.ga K "Test")) (.type "tuple") = some false := c.fact 190
  have ktdict_Test : PySem.W.subIn K (.ref (He.ga K "Test")) (.type "dict") = some false := c.fact 191
  have ktset_Test : PySem.W.subIn K (.ref (He.ga K "Test")) (.type "set") = some false := c.fact 192
  have ktbytes_Test : PySem.W.subIn K (.ref (He.ga K "Test")) (.type "bytes") = some false := c.fact 193
  have ktfloat_Test : PySem.W.subIn K (.ref (He.ga K "Test")) (.type "float") = some false := c.fact 194
  have fiTest___call__ : PySem.W.fnIn K (nsA K (He.ga K "Test") "__call__") = true := c.fact 195
  have patTest_columns : PySem.W.findIn K (.ref (He.ga K "Test")) "columns" = some (some (.ref (nsA K (He.ga K "Test") "columns"))) := c.fact 196
  have pgeTest_columns : PySem.W.specialIn K (.ref (nsA K (He.ga K "Test") "columns")) "__get__" = some (some (.builtin "property.__get__")) := c.fact 197
  have ptkTest_columns : PySem.W.takesIn K (.ref (nsA K (He.ga K "Test") "columns")) = some true := c.fact 198
  have prcTest_columns : PySem.W.recIn K (nsA K (He.ga K "Test") "columns") "property" = some (.ref (fstA K "property" (nsA K (He.ga K "Test") "columns")) :: (rstA K "property" (nsA K (He.ga K "Test") "columns"))) := c.fact 199
  have patTest_names : PySem.W.findIn K (.ref (He.ga K "Test")) "names" = some (some (.ref (nsA K (He.ga K "Test") "names"))) := c.fact 200
  have pgeTest_names : PySem.W.specialIn K (.ref (nsA K (He.ga K "Test") "names")) "__get__" = some (some (.builtin "property.__get__")) := c.fact 201
  have ptkTest_names : PySem.W.takesIn K (.ref (nsA K (He.ga K "Test") "names")) = some true := c.fact 202
  have prcTest_names : PySem.W.recIn K (nsA K (He.ga K "Test") "names") "property" = some (.ref (fstA K "property" (nsA K (He.ga K "Test") "names")) :: (rstA K "property" (nsA K (He.ga K "Test") "names"))) := c.fact 203
  have patTest_size : PySem.W.findIn K (.ref (He.ga K "Test")) "size" = some (some (.ref (nsA K (He.ga K "Test") "size"))) := c.fact 204
  have pgeTest_size : PySem.W.specialIn K (.ref (nsA K (He.ga K "Test") "size")) "__get__" = some (some (.builtin "property.__get__")) := c.fact 205
  have ptkTest_size : PySem.W.takesIn K (.ref (nsA K (He.ga K "Test") "size")) = some true := c.fact 206
  have prcTest_size : PySem.W.recIn K (nsA K (He.ga K "Test") "size") "property" = some (.ref (fstA K "property" (nsA K (He.ga K "Test") "size")) :: (rstA K "property" (nsA K (He.ga K "Test") "size"))) := c.fact 207
  have patTest_conditions : PySem.W.findIn K (.ref (He.ga K "Test")) "conditions" = some (some (.ref (nsA K (He.ga K "Test") "conditions"))) := c.fact 208
  have pgeTest_conditions : PySem.W.specialIn K (.ref (nsA K (He.ga K "Test") "conditions")) "__get__" = some (some (.builtin "property.__get__")) := c.fact 209
  have ptkTest_conditions : PySem.W.takesIn K (.ref (nsA K (He.ga K "Test") "conditions")) = some true := c.fact 210
  have prcTest_conditions : PySem.W.recIn K (nsA K (He.ga K "Test") "conditions") "property" = some (.ref (fstA K "property" (nsA K (He.ga K "Test") "conditions")) :: (rstA K "property" (nsA K (He.ga K "Test") "conditions"))) := c.fact 211
  have ktint_Condition : PySem.W.subIn K (.ref (He.ga K "Condition")) (.type "int") = some false := c.fact 212
  have ktbool_Condition : PySem.W.subIn K (.ref (He.ga K "Condition")) (.type "bool") = some false := c.fact 213
  have ktlist_Condition : PySem.W.subIn K (.ref (He.ga K "Condition")) (.type "list") = some false := c.fact 214
  have kttuple_Condition : PySem.W.subIn K (.ref (He.ga K "Condition")) (.type "tuple") = some false := c.fact 215
  have ktdict_Condition : PySem.W.subIn K (.ref (He.ga K "Condition")) (.type "dict") = some false := c.fact 216
  have ktset_Condition : PySem.W.subIn K (.ref (He.ga K "Condition")) (.type "set") = some false := c.fact 217
  have ktbytes_Condition : PySem.W.subIn K (.ref (He.ga K "Condition")) (.type "bytes") = some false := c.fact 218
  have ktfloat_Condition : PySem.W.subIn K (.ref (He.ga K "Condition")) (.type "float") = some false := c.fact 219
  have ktint_Below : PySem.W.subIn K (.ref (He.ga K "Below")) (.type "int") = some false := c.fact 220
  have ktbool_Below : PySem.W.subIn K (.ref (He.ga K "Below")) (.type "bool") = some false := c.fact 221
  have ktlist_Below : PySem.W.subIn K (.ref (He.ga K "Below")) (.type "list") = some false := c.fact 222
  have kttuple_Below : PySem.W.subIn K (.ref (He.ga K "Below")) (.type "tuple") = some false := c.fact 223
  have ktdict_Below : PySem.W.subIn K (.ref (He.ga K "Below")) (.type "dict") = some false := c.fact 224
  have ktset_Below : PySem.W.subIn K (.ref (He.ga K "Below")) (.type "set") = some false := c.fact 225
  have ktbytes_Below : PySem.W.subIn K (.ref (He.ga K "Below")) (.type "bytes") = some false := c.fact 226
  have ktfloat_Below : PySem.W.subIn K (.ref (He.ga K "Below")) (.type "float") = some false := c.fact 227
  have ktint_UpTo : PySem.W.subIn K (.ref (He.ga K "UpTo")) (.type "int") = some false := c.fact 228
  have ktbool_UpTo : PySem.W.subIn K (.ref (He.ga K "UpTo")) (.type "bool") = some false := c.fact 229
  have ktlist_UpTo : PySem.W.subIn K (.ref (He.ga K "UpTo")) (.type "list") = some false := c.fact 230
  have kttuple_UpTo : PySem.W.subIn K (.ref (He.ga K "UpTo")) (.type "tuple") = some false := c.fact 231
  have ktdict_UpTo : PySem.W.subIn K (.ref (He.ga K "UpTo")) (.type "dict") = some false := c.fact 232
  have ktset_UpTo : PySem.W.subIn K (.ref (He.ga K "UpTo")) (.type "set") = some false := c.fact 233
  have ktbytes_UpTo : PySem.W.subIn K (.ref (He.ga K "UpTo")) (.type "bytes") = some false := c.fact 234
  have ktfloat_UpTo : PySem.W.subIn K (.ref (He.ga K "UpTo")) (.type "float") = some false := c.fact 235
  have ktint_Equals : PySem.W.subIn K (.ref (He.ga K "Equals")) (.type "int") = some false := c.fact 236
  have ktbool_Equals : PySem.W.subIn K (.ref (He.ga K "Equals")) (.type "bool") = some false := c.fact 237
  have ktlist_Equals : PySem.W.subIn K (.ref (He.ga K "Equals")) (.type "list") = some false := c.fact 238
  have kttuple_Equals : PySem.W.subIn K (.ref (He.ga K "Equals")) (.type "tuple") = some false := c.fact 239
  have ktdict_Equals : PySem.W.subIn K (.ref (He.ga K "Equals")) (.type "dict") = some false := c.fact 240
  have ktset_Equals : PySem.W.subIn K (.ref (He.ga K "Equals")) (.type "set") = some false := c.fact 241
  have ktbytes_Equals : PySem.W.subIn K (.ref (He.ga K "Equals")) (.type "bytes") = some false := c.fact 242
  have ktfloat_Equals : PySem.W.subIn K (.ref (He.ga K "Equals")) (.type "float") = some false := c.fact 243
  have ktint_Missing : PySem.W.subIn K (.ref (He.ga K "Missing")) (.type "int") = some false := c.fact 244
  have ktbool_Missing : PySem.W.subIn K (.ref (He.ga K "Missing")) (.type "bool") = some false := c.fact 245
  have ktlist_Missing : PySem.W.subIn K (.ref (He.ga K "Missing")) (.type "list") = some false := c.fact 246
  have kttuple_Missing : PySem.W.subIn K (.ref (He.ga K "Missing")) (.type "tuple") = some false := c.fact 247
  have ktdict_Missing : PySem.W.subIn K (.ref (He.ga K "Missing")) (.type "dict") = some false := c.fact 248
  have ktset_Missing : PySem.W.subIn K (.ref (He.ga K "Missing")) (.type "set") = some false := c.fact 249
  have ktbytes_Missing : PySem.W.subIn K (.ref (He.ga K "Missing")) (.type "bytes") = some false := c.fact 250
  have ktfloat_Missing : PySem.W.subIn K (.ref (He.ga K "Missing")) (.type "float") = some false := c.fact 251
  have patBelow_columns : PySem.W.findIn K (.ref (He.ga K "Below")) "columns" = some (some (.ref (nsA K (He.ga K "Test") "columns"))) := c.fact 252
  have patBelow_names : PySem.W.findIn K (.ref (He.ga K "Below")) "names" = some (some (.ref (nsA K (He.ga K "Test") "names"))) := c.fact 253
  have patBelow_size : PySem.W.findIn K (.ref (He.ga K "Below")) "size" = some (some (.ref (nsA K (He.ga K "Test") "size"))) := c.fact 254
  have patBelow_conditions : PySem.W.findIn K (.ref (He.ga K "Below")) "conditions" = some (some (.ref (nsA K (He.ga K "Test") "conditions"))) := c.fact 255
  have patUpTo_columns : PySem.W.findIn K (.ref (He.ga K "UpTo")) "columns" = some (some (.ref (nsA K (He.ga K "Test") "columns"))) := c.fact 256
  have patUpTo_names : PySem.W.findIn K (.ref (He.ga K "UpTo")) "names" = some (some (.ref (nsA K (He.ga K "Test") "names"))) := c.fact 257
  have patUpTo_size : PySem.W.findIn K (.ref (He.ga K "UpTo")) "size" = some (some (.ref (nsA K (He.ga K "Test") "size"))) := c.fact 258
  have patUpTo_conditions : PySem.W.findIn K (.ref (He.ga K "UpTo")) "conditions" = some (some (.ref (nsA K (He.ga K "Test") "conditions"))) := c.fact 259
  have patEquals_columns : PySem.W.findIn K (.ref (He.ga K "Equals")) "columns" = some (some (.ref (nsA K (He.ga K "Test") "columns"))) := c.fact 260
  have patEquals_names : PySem.W.findIn K (.ref (He.ga K "Equals")) "names" = some (some (.ref (nsA K (He.ga K "Test") "names"))) := c.fact 261
  have patEquals_size : PySem.W.findIn K (.ref (He.ga K "Equals")) "size" = some (some (.ref (nsA K (He.ga K "Test") "size"))) := c.fact 262
  have patEquals_conditions : PySem.W.findIn K (.ref (He.ga K "Equals")) "conditions" = some (some (.ref (nsA K (He.ga K "Test") "conditions"))) := c.fact 263
  have patMissing_columns : PySem.W.findIn K (.ref (He.ga K "Missing")) "columns" = some (some (.ref (nsA K (He.ga K "Test") "columns"))) := c.fact 264
  have patMissing_names : PySem.W.findIn K (.ref (He.ga K "Missing")) "names" = some (some (.ref (nsA K (He.ga K "Test") "names"))) := c.fact 265
  have patMissing_size : PySem.W.findIn K (.ref (He.ga K "Missing")) "size" = some (some (.ref (nsA K (He.ga K "Test") "size"))) := c.fact 266
  have patMissing_conditions : PySem.W.findIn K (.ref (He.ga K "Missing")) "conditions" = some (some (.ref (nsA K (He.ga K "Test") "conditions"))) := c.fact 267
  have nfstr_Test : PySem.W.notFirst K (He.ga K "Test") (.type "str") = true := c.fact 268
  have knstr_Test : PySem.W.kitOne K (.type "str") (.ref (He.ga K "Test")) = some false := c.fact 269
  have nfstr_Below : PySem.W.notFirst K (He.ga K "Below") (.type "str") = true := c.fact 270
  have knstr_Below : PySem.W.kitOne K (.type "str") (.ref (He.ga K "Below")) = some false := c.fact 271
  have nfstr_UpTo : PySem.W.notFirst K (He.ga K "UpTo") (.type "str") = true := c.fact 272
  have knstr_UpTo : PySem.W.kitOne K (.type "str") (.ref (He.ga K "UpTo")) = some false := c.fact 273
  have nfstr_Equals : PySem.W.notFirst K (He.ga K "Equals") (.type "str") = true := c.fact 274
  have knstr_Equals : PySem.W.kitOne K (.type "str") (.ref (He.ga K "Equals")) = some false := c.fact 275
  have nfstr_Missing : PySem.W.notFirst K (He.ga K "Missing") (.type "str") = true := c.fact 276
  have knstr_Missing : PySem.W.kitOne K (.type "str") (.ref (He.ga K "Missing")) = some false := c.fact 277
  have gdRESERVED : PySem.W.nsIn K mainGlobals "RESERVED" = some (some (.ref (He.ga K "RESERVED"))) := c.fact 278
  have noRESERVED : ∀ x ∈ poolN, PySem.W.nsIn K (He.ga K "RESERVED") x = some none := c.fact 279
  have fx_rs_null : (PySem.W.nsIn K (He.ga K "RESERVED") "null").map Option.isSome = some true := c.fact 280
  have fx_rs_where : (PySem.W.nsIn K (He.ga K "RESERVED") "where").map Option.isSome = some true := c.fact 281
  have fx_rs_self : (PySem.W.nsIn K (He.ga K "RESERVED") "self").map Option.isSome = some true := c.fact 282
  have fx_kt_BadNumber_BadName : PySem.W.kitOne K (.ref (He.ga K "BadNumber")) (.ref (He.ga K "BadName")) = some false := c.fact 283
  have fx_nf_Below_UpTo : PySem.W.notFirst K (He.ga K "Below") (.ref (He.ga K "UpTo")) = true := c.fact 284
  have fx_nf_Below_Equals : PySem.W.notFirst K (He.ga K "Below") (.ref (He.ga K "Equals")) = true := c.fact 285
  have fx_nf_Below_Missing : PySem.W.notFirst K (He.ga K "Below") (.ref (He.ga K "Missing")) = true := c.fact 286
  have fx_nf_UpTo_Below : PySem.W.notFirst K (He.ga K "UpTo") (.ref (He.ga K "Below")) = true := c.fact 287
  have fx_nf_UpTo_Equals : PySem.W.notFirst K (He.ga K "UpTo") (.ref (He.ga K "Equals")) = true := c.fact 288
  have fx_nf_UpTo_Missing : PySem.W.notFirst K (He.ga K "UpTo") (.ref (He.ga K "Missing")) = true := c.fact 289
  have fx_nf_Equals_Below : PySem.W.notFirst K (He.ga K "Equals") (.ref (He.ga K "Below")) = true := c.fact 290
  have fx_nf_Equals_UpTo : PySem.W.notFirst K (He.ga K "Equals") (.ref (He.ga K "UpTo")) = true := c.fact 291
  have fx_nf_Equals_Missing : PySem.W.notFirst K (He.ga K "Equals") (.ref (He.ga K "Missing")) = true := c.fact 292
  have fx_nf_Missing_Below : PySem.W.notFirst K (He.ga K "Missing") (.ref (He.ga K "Below")) = true := c.fact 293
  have fx_nf_Missing_UpTo : PySem.W.notFirst K (He.ga K "Missing") (.ref (He.ga K "UpTo")) = true := c.fact 294
  have fx_nf_Missing_Equals : PySem.W.notFirst K (He.ga K "Missing") (.ref (He.ga K "Equals")) = true := c.fact 295
  have ais_integer : PySem.W.nsIn K mainGlobals "is_integer" = some (some (.ref (He.ga K "is_integer"))) := c.fact 296
  have ais_value : PySem.W.nsIn K mainGlobals "is_value" = some (some (.ref (He.ga K "is_value"))) := c.fact 297
  have ais_name : PySem.W.nsIn K mainGlobals "is_name" = some (some (.ref (He.ga K "is_name"))) := c.fact 298
  have aown_copy : PySem.W.nsIn K mainGlobals "own_copy" = some (some (.ref (He.ga K "own_copy"))) := c.fact 299
  have acheck_comparison : PySem.W.nsIn K mainGlobals "check_comparison" = some (some (.ref (He.ga K "check_comparison"))) := c.fact 300
  have acheck_told : PySem.W.nsIn K mainGlobals "check_told" = some (some (.ref (He.ga K "check_told"))) := c.fact 301
  have aare_values : PySem.W.nsIn K mainGlobals "are_values" = some (some (.ref (He.ga K "are_values"))) := c.fact 302
  have aare_counts : PySem.W.nsIn K mainGlobals "are_counts" = some (some (.ref (He.ga K "are_counts"))) := c.fact 303
  have a_law_pen : PySem.W.nsIn K mainGlobals "_law_pen" = some (some (.ref (He.ga K "_law_pen"))) := c.fact 304
  have a_law_draw : PySem.W.nsIn K mainGlobals "_law_draw" = some (some (.ref (He.ga K "_law_draw"))) := c.fact 305
  have a_law_pick : PySem.W.nsIn K mainGlobals "_law_pick" = some (some (.ref (He.ga K "_law_pick"))) := c.fact 306
  have a_law_heard : PySem.W.nsIn K mainGlobals "_law_heard" = some (some (.ref (He.ga K "_law_heard"))) := c.fact 307
  have a_law_one_right : PySem.W.nsIn K mainGlobals "_law_one_right" = some (some (.ref (He.ga K "_law_one_right"))) := c.fact 308
  have alaw : PySem.W.nsIn K mainGlobals "law" = some (some (.ref (He.ga K "law"))) := c.fact 309
  have kdRESERVED := c.tab 0 rfl
  have z_abs : PySem.W.nsIn K mainGlobals "abs" = some none := c.fact 310
  have z_all : PySem.W.nsIn K mainGlobals "all" = some none := c.fact 311
  have z_bool : PySem.W.nsIn K mainGlobals "bool" = some none := c.fact 312
  have z_dict : PySem.W.nsIn K mainGlobals "dict" = some none := c.fact 313
  have z_int : PySem.W.nsIn K mainGlobals "int" = some none := c.fact 314
  have z_isinstance : PySem.W.nsIn K mainGlobals "isinstance" = some none := c.fact 315
  have z_len : PySem.W.nsIn K mainGlobals "len" = some none := c.fact 316
  have z_list : PySem.W.nsIn K mainGlobals "list" = some none := c.fact 317
  have z_range : PySem.W.nsIn K mainGlobals "range" = some none := c.fact 318
  have z_repr : PySem.W.nsIn K mainGlobals "repr" = some none := c.fact 319
  have z_str : PySem.W.nsIn K mainGlobals "str" = some none := c.fact 320
  have z_tuple : PySem.W.nsIn K mainGlobals "tuple" = some none := c.fact 321
  have i_MOST_LETTERS : (He.Fa.int "MOST_LETTERS" 8).ok K = true := c.fact 322
  obtain ⟨tc_MOST_LETTERS, ci_MOST_LETTERS⟩ := He.int_ok X G i_MOST_LETTERS
  obtain ⟨oc0, od0, sl0, dV0, kV0, dc0, pm0, an0, cd0, ct0, l0, c0, k0, v0⟩ := c.fn_at 0 rfl
  obtain rfl := dfl_none v0
  have kis_integer : PySem.W.keepIn K (.ref (He.ga K "is_integer")) = true := k0
  obtain ⟨oc1, od1, sl1, dV1, kV1, dc1, pm1, an1, cd1, ct1, l1, c1, k1, v1⟩ := c.fn_at 1 rfl
  obtain rfl := dfl_none v1
  have kis_value : PySem.W.keepIn K (.ref (He.ga K "is_value")) = true := k1
  obtain ⟨oc2, od2, sl2, dV2, kV2, dc2, pm2, an2, cd2, ct2, l2, c2, k2, v2⟩ := c.fn_at 2 rfl
  obtain rfl := dfl_none v2
  have kis_name : PySem.W.keepIn K (.ref (He.ga K "is_name")) = true := k2
  obtain ⟨oc3, od3, sl3, dV3, kV3, dc3, pm3, an3, cd3, ct3, l3, c3, k3, v3⟩ := c.fn_at 3 rfl
  obtain rfl := dfl_none v3
  have kown_copy : PySem.W.keepIn K (.ref (He.ga K "own_copy")) = true := k3
  obtain ⟨oc4, od4, sl4, dV4, kV4, dc4, pm4, an4, cd4, ct4, l4, c4, k4, v4⟩ := c.fn_at 4 rfl
  obtain rfl := dfl_none v4
  have kcheck_comparison : PySem.W.keepIn K (.ref (He.ga K "check_comparison")) = true := k4
  obtain ⟨oc5, od5, sl5, dV5, kV5, dc5, pm5, an5, cd5, ct5, l5, c5, k5, v5⟩ := c.fn_at 5 rfl
  obtain rfl := dfl_none v5
  have kcheck_told : PySem.W.keepIn K (.ref (He.ga K "check_told")) = true := k5
  obtain ⟨oc6, od6, sl6, dV6, kV6, dc6, pm6, an6, cd6, ct6, l6, c6, k6, v6⟩ := c.fn_at 6 rfl
  obtain rfl := dfl_none v6
  have kare_values : PySem.W.keepIn K (.ref (He.ga K "are_values")) = true := k6
  obtain ⟨oc7, od7, sl7, dV7, kV7, dc7, pm7, an7, cd7, ct7, l7, c7, k7, v7⟩ := c.fn_at 7 rfl
  obtain rfl := dfl_none v7
  have kare_counts : PySem.W.keepIn K (.ref (He.ga K "are_counts")) = true := k7
  obtain ⟨oc8, od8, sl8, dV8, kV8, dc8, pm8, an8, cd8, ct8, l8, c8, k8, v8⟩ := c.fn_at 8 rfl
  obtain rfl := dfl_none v8
  have k_law_pen : PySem.W.keepIn K (.ref (He.ga K "_law_pen")) = true := k8
  obtain ⟨oc9, od9, sl9, dV9, kV9, dc9, pm9, an9, cd9, ct9, l9, c9, k9, v9⟩ := c.fn_at 9 rfl
  obtain rfl := dfl_none v9
  have k_law_draw : PySem.W.keepIn K (.ref (He.ga K "_law_draw")) = true := k9
  obtain ⟨oc10, od10, sl10, dV10, kV10, dc10, pm10, an10, cd10, ct10, l10, c10, k10, v10⟩ := c.fn_at 10 rfl
  obtain rfl := dfl_none v10
  have k_law_pick : PySem.W.keepIn K (.ref (He.ga K "_law_pick")) = true := k10
  obtain ⟨oc11, od11, sl11, dV11, kV11, dc11, pm11, an11, cd11, ct11, l11, c11, k11, v11⟩ := c.fn_at 11 rfl
  obtain rfl := dfl_none v11
  have k_law_heard : PySem.W.keepIn K (.ref (He.ga K "_law_heard")) = true := k11
  obtain ⟨oc12, od12, sl12, dV12, kV12, dc12, pm12, an12, cd12, ct12, l12, c12, k12, v12⟩ := c.fn_at 12 rfl
  obtain rfl := dfl_none v12
  have k_law_one_right : PySem.W.keepIn K (.ref (He.ga K "_law_one_right")) = true := k12
  obtain ⟨oc13, od13, sl13, dV13, kV13, dc13, pm13, an13, cd13, ct13, l13, c13, k13, v13⟩ := c.fn_at 13 rfl
  obtain rfl := dfl_none v13
  have klaw : PySem.W.keepIn K (.ref (He.ga K "law")) = true := k13
  obtain ⟨oc14, od14, sl14, dV14, kV14, dc14, pm14, an14, cd14, ct14, l14, c14, k14, v14⟩ := c.fn_at 14 rfl
  obtain rfl := dfl_none v14
  have kTest___init__ : PySem.W.keepIn K (.ref (nsA K (He.ga K "Test") "__init__")) = true := k14
  obtain ⟨oc15, od15, sl15, dV15, kV15, dc15, pm15, an15, cd15, ct15, l15, c15, k15, v15⟩ := c.fn_at 15 rfl
  have kTest_truth : PySem.W.keepIn K (.ref (nsA K (He.ga K "Test") "truth")) = true := k15
  have FD15 : FunD K "truth" "Test.truth" (defArgs sTest_truth) (defBody sTest_truth) (defScope sTest_truth) [.non] [] (nsA K (He.ga K "Test") "truth") (PySem.W.fnOf "truth" "Test.truth" (defArgs sTest_truth) (defBody sTest_truth) (defScope sTest_truth) dV15 kV15 dc15 pm15 an15 cd15 ct15) := ⟨⟨oc15, od15, dV15, kV15, dc15, pm15, an15, cd15, ct15, sl15, rfl, l15, c15, v15, .inl rfl⟩, k15⟩
  have bA15 : Binds K (PySem.W.fnOf "truth" "Test.truth" (defArgs sTest_truth) (defBody sTest_truth) (defScope sTest_truth) dV15 kV15 dc15 pm15 an15 cd15 ct15) ["self", "values", "counts"] [] := by { obtain ⟨ds, hv, hb⟩ := FunD.binds1 FD15 3 1 (by simp) rfl (ps := ["self", "values", "counts"]) (fun T kV doc pm an cdv ct us its h1 h2 => by { match us, its, h1, h2 with | [_, _, _], [_], _, _ => exact ⟨_, rfl, rfl⟩ }); cases hv; exact hb }
  have bD15 : Binds K (PySem.W.fnOf "truth" "Test.truth" (defArgs sTest_truth) (defBody sTest_truth) (defScope sTest_truth) dV15 kV15 dc15 pm15 an15 cd15 ct15) ["self", "values", "counts"] [.none] := by { obtain ⟨ds, hv, hb⟩ := FunD.binds1 FD15 2 0 (by simp) rfl (ps := ["self", "values", "counts"]) (fun T kV doc pm an cdv ct us its h1 h2 => by { match us, its, h1, h2 with | [_, _], [_], _, _ => exact ⟨_, rfl, rfl⟩ }); cases hv with | cons h t => cases t; cases h; exact hb }
  obtain ⟨oc16, od16, sl16, dV16, kV16, dc16, pm16, an16, cd16, ct16, l16, c16, k16, v16⟩ := c.fn_at 16 rfl
  have kTest___call__ : PySem.W.keepIn K (.ref (nsA K (He.ga K "Test") "__call__")) = true := k16
  have FD16 : FunD K "__call__" "Test.__call__" (defArgs sTest___call__) (defBody sTest___call__) (defScope sTest___call__) [.non] [] (nsA K (He.ga K "Test") "__call__") (PySem.W.fnOf "__call__" "Test.__call__" (defArgs sTest___call__) (defBody sTest___call__) (defScope sTest___call__) dV16 kV16 dc16 pm16 an16 cd16 ct16) := ⟨⟨oc16, od16, dV16, kV16, dc16, pm16, an16, cd16, ct16, sl16, rfl, l16, c16, v16, .inl rfl⟩, k16⟩
  have bA16 : Binds K (PySem.W.fnOf "__call__" "Test.__call__" (defArgs sTest___call__) (defBody sTest___call__) (defScope sTest___call__) dV16 kV16 dc16 pm16 an16 cd16 ct16) ["self", "values", "counts"] [] := by { obtain ⟨ds, hv, hb⟩ := FunD.binds1 FD16 3 1 (by simp) rfl (ps := ["self", "values", "counts"]) (fun T kV doc pm an cdv ct us its h1 h2 => by { match us, its, h1, h2 with | [_, _, _], [_], _, _ => exact ⟨_, rfl, rfl⟩ }); cases hv; exact hb }
  have bD16 : Binds K (PySem.W.fnOf "__call__" "Test.__call__" (defArgs sTest___call__) (defBody sTest___call__) (defScope sTest___call__) dV16 kV16 dc16 pm16 an16 cd16 ct16) ["self", "values", "counts"] [.none] := by { obtain ⟨ds, hv, hb⟩ := FunD.binds1 FD16 2 0 (by simp) rfl (ps := ["self", "values", "counts"]) (fun T kV doc pm an cdv ct us its h1 h2 => by { match us, its, h1, h2 with | [_, _], [_], _, _ => exact ⟨_, rfl, rfl⟩ }); cases hv with | cons h t => cases t; cases h; exact hb }
  obtain ⟨oc17, od17, sl17, dV17, kV17, dc17, pm17, an17, cd17, ct17, l17, c17, k17, v17⟩ := c.fn_at 17 rfl
  obtain rfl := dfl_none v17
  have kTest_columns : PySem.W.keepIn K (.ref (fstA K "property" (nsA K (He.ga K "Test") "columns"))) = true := k17
  obtain ⟨oc18, od18, sl18, dV18, kV18, dc18, pm18, an18, cd18, ct18, l18, c18, k18, v18⟩ := c.fn_at 18 rfl
  obtain rfl := dfl_none v18
  have kTest_names : PySem.W.keepIn K (.ref (fstA K "property" (nsA K (He.ga K "Test") "names"))) = true := k18
  obtain ⟨oc19, od19, sl19, dV19, kV19, dc19, pm19, an19, cd19, ct19, l19, c19, k19, v19⟩ := c.fn_at 19 rfl
  obtain rfl := dfl_none v19
  have kTest_size : PySem.W.keepIn K (.ref (fstA K "property" (nsA K (He.ga K "Test") "size"))) = true := k19
  obtain ⟨oc20, od20, sl20, dV20, kV20, dc20, pm20, an20, cd20, ct20, l20, c20, k20, v20⟩ := c.fn_at 20 rfl
  obtain rfl := dfl_none v20
  have kTest_conditions : PySem.W.keepIn K (.ref (fstA K "property" (nsA K (He.ga K "Test") "conditions"))) = true := k20
  obtain ⟨oc21, od21, sl21, dV21, kV21, dc21, pm21, an21, cd21, ct21, l21, c21, k21, v21⟩ := c.fn_at 21 rfl
  obtain rfl := dfl_none v21
  have kTest___eq__ : PySem.W.keepIn K (.ref (nsA K (He.ga K "Test") "__eq__")) = true := k21
  obtain ⟨oc22, od22, sl22, dV22, kV22, dc22, pm22, an22, cd22, ct22, l22, c22, k22, v22⟩ := c.fn_at 22 rfl
  obtain rfl := dfl_none v22
  have kTest___str__ : PySem.W.keepIn K (.ref (nsA K (He.ga K "Test") "__str__")) = true := k22
  obtain ⟨oc23, od23, sl23, dV23, kV23, dc23, pm23, an23, cd23, ct23, l23, c23, k23, v23⟩ := c.fn_at 23 rfl
  obtain rfl := dfl_none v23
  have kCondition___init__ : PySem.W.keepIn K (.ref (nsA K (He.ga K "Condition") "__init__")) = true := k23
  obtain ⟨oc24, od24, sl24, dV24, kV24, dc24, pm24, an24, cd24, ct24, l24, c24, k24, v24⟩ := c.fn_at 24 rfl
  obtain rfl := dfl_none v24
  have kBelow___init__ : PySem.W.keepIn K (.ref (nsA K (He.ga K "Below") "__init__")) = true := k24
  obtain ⟨oc25, od25, sl25, dV25, kV25, dc25, pm25, an25, cd25, ct25, l25, c25, k25, v25⟩ := c.fn_at 25 rfl
  obtain rfl := dfl_none v25
  have kBelow_known : PySem.W.keepIn K (.ref (nsA K (He.ga K "Below") "known")) = true := k25
  obtain ⟨oc26, od26, sl26, dV26, kV26, dc26, pm26, an26, cd26, ct26, l26, c26, k26, v26⟩ := c.fn_at 26 rfl
  obtain rfl := dfl_none v26
  have kUpTo___init__ : PySem.W.keepIn K (.ref (nsA K (He.ga K "UpTo") "__init__")) = true := k26
  obtain ⟨oc27, od27, sl27, dV27, kV27, dc27, pm27, an27, cd27, ct27, l27, c27, k27, v27⟩ := c.fn_at 27 rfl
  obtain rfl := dfl_none v27
  have kUpTo_known : PySem.W.keepIn K (.ref (nsA K (He.ga K "UpTo") "known")) = true := k27
  obtain ⟨oc28, od28, sl28, dV28, kV28, dc28, pm28, an28, cd28, ct28, l28, c28, k28, v28⟩ := c.fn_at 28 rfl
  obtain rfl := dfl_none v28
  have kEquals___init__ : PySem.W.keepIn K (.ref (nsA K (He.ga K "Equals") "__init__")) = true := k28
  obtain ⟨oc29, od29, sl29, dV29, kV29, dc29, pm29, an29, cd29, ct29, l29, c29, k29, v29⟩ := c.fn_at 29 rfl
  obtain rfl := dfl_none v29
  have kEquals_known : PySem.W.keepIn K (.ref (nsA K (He.ga K "Equals") "known")) = true := k29
  obtain ⟨oc30, od30, sl30, dV30, kV30, dc30, pm30, an30, cd30, ct30, l30, c30, k30, v30⟩ := c.fn_at 30 rfl
  obtain rfl := dfl_none v30
  have kMissing___init__ : PySem.W.keepIn K (.ref (nsA K (He.ga K "Missing") "__init__")) = true := k30
  obtain ⟨oc31, od31, sl31, dV31, kV31, dc31, pm31, an31, cd31, ct31, l31, c31, k31, v31⟩ := c.fn_at 31 rfl
  obtain rfl := dfl_none v31
  have kMissing_known : PySem.W.keepIn K (.ref (nsA K (He.ga K "Missing") "known")) = true := k31
  obtain ⟨oc32, od32, sl32, dV32, kV32, dc32, pm32, an32, cd32, ct32, l32, c32, k32, v32⟩ := c.fn_at 32 rfl
  obtain rfl := dfl_none v32
  have kBadName___init__ : PySem.W.keepIn K (.ref (nsA K (He.ga K "BadName") "__init__")) = true := k32
  obtain ⟨oc33, od33, sl33, dV33, kV33, dc33, pm33, an33, cd33, ct33, l33, c33, k33, v33⟩ := c.fn_at 33 rfl
  obtain rfl := dfl_none v33
  have kBadNumber___init__ : PySem.W.keepIn K (.ref (nsA K (He.ga K "BadNumber") "__init__")) = true := k33
  have kn15_kb_Test_truth_0 : KBn K (PySem.W.fnOf "truth" "Test.truth" (defArgs sTest_truth) (defBody sTest_truth) (defScope sTest_truth) dV15 kV15 dc15 pm15 an15 cd15 ct15) ["self", "values", "counts"] 1 ["counts", "values"] (gPerm 1 2 [0, 2, 1]) (gPerm 1 2 [0, 2, 1]) := by { obtain ⟨its, hb⟩ := FunD.kbindsD FD15 1 ["counts", "values"] (fun {α} us its ws => gPerm 1 2 [0, 2, 1] us ws) (by simp) (fun r1 _ r2 => gPerm_rel r1 r2) (fun T kV doc pm an cdv ct us its ws h1 h2 h3 => by { match us, its, ws, h1, h2, h3 with | [_], [_], [_, _], _, _, _ => exact ⟨_, rfl, by kernel_rfl⟩ }); exact hb }
  let T : Top K mg w := {
    C_Test := (He.ga K "Test"),
    g_Test := PySem.W.mg_of X G gTest,
    cl_Test := ⟨pgTest, hdTest, poTest, saTest⟩,
    kc_Test := kcTest,
    ne_Test := neTest,
    mr_Test := mrTest,
    ca_Test := caTest,
    mc_Test___init__ := ((PySem.W.typeIn K (.ref (He.ga K "Test"))).getD .none),
    fm_Test___init__ := ⟨rdTest___init__, gaTest___init__, atTest___init__, kTest___init__⟩,
    om_Test_truth := ⟨atTest_truth, fnTest_truth⟩,
    om_Test___call__ := ⟨atTest___call__, fnTest___call__⟩,
    om_Test___eq__ := ⟨atTest___eq__, fnTest___eq__⟩,
    om_Test___str__ := ⟨atTest___str__, fnTest___str__⟩,
    ki_Test := kit_self,
    ks_Test := kit_no ksTest (by decide +kernel),
    C_Condition := (He.ga K "Condition"),
    g_Condition := PySem.W.mg_of X G gCondition,
    cl_Condition := ⟨pgCondition, hdCondition, poCondition, saCondition⟩,
    kc_Condition := kcCondition,
    ne_Condition := neCondition,
    mr_Condition := mrCondition,
    ca_Condition := caCondition,
    mc_Condition___init__ := ((PySem.W.typeIn K (.ref (He.ga K "Condition"))).getD .none),
    fm_Condition___init__ := ⟨rdCondition___init__, gaCondition___init__, atCondition___init__, kCondition___init__⟩,
    kb_Condition_Test := kbCondition_Test,
    ki_Condition := kit_self,
    ks_Condition := kit_no ksCondition (by decide +kernel),
    C_Below := (He.ga K "Below"),
    g_Below := PySem.W.mg_of X G gBelow,
    cl_Below := ⟨pgBelow, hdBelow, poBelow, saBelow⟩,
    kc_Below := kcBelow,
    na_Below__text := naBelow__text,
    na_Below__size := naBelow__size,
    na_Below__columns := naBelow__columns,
    na_Below__names := naBelow__names,
    na_Below__conditions := naBelow__conditions,
    na_Below_column := naBelow_column,
    na_Below_number := naBelow_number,
    ne_Below := neBelow,
    mr_Below := mrBelow,
    ca_Below := caBelow,
    om_Below___init__ := ⟨atBelow___init__, fnBelow___init__⟩,
    mk_Below := ⟨mkBelow, atBelow___init__, fnBelow___init__, kcBelow⟩,
    om_Below_known := ⟨atBelow_known, fnBelow_known⟩,
    om_Below_truth := ⟨atBelow_truth, fnTest_truth⟩,
    om_Below___call__ := ⟨atBelow___call__, fnTest___call__⟩,
    om_Below___eq__ := ⟨atBelow___eq__, fnTest___eq__⟩,
    om_Below___str__ := ⟨atBelow___str__, fnTest___str__⟩,
    kb_Below_Condition := kbBelow_Condition,
    kb_Below_Test := kbBelow_Test,
    ki_Below := kit_self,
    ks_Below := kit_no ksBelow (by decide +kernel),
    C_UpTo := (He.ga K "UpTo"),
    g_UpTo := PySem.W.mg_of X G gUpTo,
    cl_UpTo := ⟨pgUpTo, hdUpTo, poUpTo, saUpTo⟩,
    kc_UpTo := kcUpTo,
    na_UpTo__text := naUpTo__text,
    na_UpTo__size := naUpTo__size,
    na_UpTo__columns := naUpTo__columns,
    na_UpTo__names := naUpTo__names,
    na_UpTo__conditions := naUpTo__conditions,
    na_UpTo_column := naUpTo_column,
    na_UpTo_number := naUpTo_number,
    ne_UpTo := neUpTo,
    mr_UpTo := mrUpTo,
    ca_UpTo := caUpTo,
    om_UpTo___init__ := ⟨atUpTo___init__, fnUpTo___init__⟩,
    mk_UpTo := ⟨mkUpTo, atUpTo___init__, fnUpTo___init__, kcUpTo⟩,
    om_UpTo_known := ⟨atUpTo_known, fnUpTo_known⟩,
    om_UpTo_truth := ⟨atUpTo_truth, fnTest_truth⟩,
    om_UpTo___call__ := ⟨atUpTo___call__, fnTest___call__⟩,
    om_UpTo___eq__ := ⟨atUpTo___eq__, fnTest___eq__⟩,
    om_UpTo___str__ := ⟨atUpTo___str__, fnTest___str__⟩,
    kb_UpTo_Condition := kbUpTo_Condition,
    kb_UpTo_Test := kbUpTo_Test,
    ki_UpTo := kit_self,
    ks_UpTo := kit_no ksUpTo (by decide +kernel),
    C_Equals := (He.ga K "Equals"),
    g_Equals := PySem.W.mg_of X G gEquals,
    cl_Equals := ⟨pgEquals, hdEquals, poEquals, saEquals⟩,
    kc_Equals := kcEquals,
    na_Equals__text := naEquals__text,
    na_Equals__size := naEquals__size,
    na_Equals__columns := naEquals__columns,
    na_Equals__names := naEquals__names,
    na_Equals__conditions := naEquals__conditions,
    na_Equals_column := naEquals_column,
    na_Equals_number := naEquals_number,
    ne_Equals := neEquals,
    mr_Equals := mrEquals,
    ca_Equals := caEquals,
    om_Equals___init__ := ⟨atEquals___init__, fnEquals___init__⟩,
    mk_Equals := ⟨mkEquals, atEquals___init__, fnEquals___init__, kcEquals⟩,
    om_Equals_known := ⟨atEquals_known, fnEquals_known⟩,
    om_Equals_truth := ⟨atEquals_truth, fnTest_truth⟩,
    om_Equals___call__ := ⟨atEquals___call__, fnTest___call__⟩,
    om_Equals___eq__ := ⟨atEquals___eq__, fnTest___eq__⟩,
    om_Equals___str__ := ⟨atEquals___str__, fnTest___str__⟩,
    kb_Equals_Condition := kbEquals_Condition,
    kb_Equals_Test := kbEquals_Test,
    ki_Equals := kit_self,
    ks_Equals := kit_no ksEquals (by decide +kernel),
    C_Missing := (He.ga K "Missing"),
    g_Missing := PySem.W.mg_of X G gMissing,
    cl_Missing := ⟨pgMissing, hdMissing, poMissing, saMissing⟩,
    kc_Missing := kcMissing,
    na_Missing__text := naMissing__text,
    na_Missing__size := naMissing__size,
    na_Missing__columns := naMissing__columns,
    na_Missing__names := naMissing__names,
    na_Missing__conditions := naMissing__conditions,
    na_Missing_column := naMissing_column,
    ne_Missing := neMissing,
    mr_Missing := mrMissing,
    ca_Missing := caMissing,
    om_Missing___init__ := ⟨atMissing___init__, fnMissing___init__⟩,
    mk_Missing := ⟨mkMissing, atMissing___init__, fnMissing___init__, kcMissing⟩,
    om_Missing_known := ⟨atMissing_known, fnMissing_known⟩,
    om_Missing_truth := ⟨atMissing_truth, fnTest_truth⟩,
    om_Missing___call__ := ⟨atMissing___call__, fnTest___call__⟩,
    om_Missing___eq__ := ⟨atMissing___eq__, fnTest___eq__⟩,
    om_Missing___str__ := ⟨atMissing___str__, fnTest___str__⟩,
    kb_Missing_Condition := kbMissing_Condition,
    kb_Missing_Test := kbMissing_Test,
    ki_Missing := kit_self,
    ks_Missing := kit_no ksMissing (by decide +kernel),
    sg := sg,
    tk := tk,
    C_BadName := (He.ga K "BadName"),
    g_BadName := PySem.W.mg_of X G gBadName,
    ox_BadName := ⟨oexB_cls xoBadName, saBadName, eCBadName, tCBadName, kCBadName⟩,
    ic_BadName := atBadName___init__,
    ti_BadName := tiBadName,
    no_BadName_value := noBadName_value,
    xf_BadName := ⟨gaBadName, ggBadName, eCBadName, hdBadName⟩,
    ki_BadName := kit_self,
    ex_BadName := ⟨gaBadName, ggBadName, eCBadName, hdBadName, caBadName, sg, tk, mrBadName⟩,
    C_BadNumber := (He.ga K "BadNumber"),
    g_BadNumber := PySem.W.mg_of X G gBadNumber,
    ox_BadNumber := ⟨oexB_cls xoBadNumber, saBadNumber, eCBadNumber, tCBadNumber, kCBadNumber⟩,
    ic_BadNumber := atBadNumber___init__,
    ti_BadNumber := tiBadNumber,
    no_BadNumber_value := noBadNumber_value,
    xf_BadNumber := ⟨gaBadNumber, ggBadNumber, eCBadNumber, hdBadNumber⟩,
    ki_BadNumber := kit_self,
    ex_BadNumber := ⟨gaBadNumber, ggBadNumber, eCBadNumber, hdBadNumber, caBadNumber, sg, tk, mrBadNumber⟩,
    C_CountError := (He.ga K "CountError"),
    g_CountError := PySem.W.mg_of X G gCountError,
    em_BadName_CountError := exm_of2 ebBadName_CountError ekBadName_CountError etBadName_CountError emBadName_CountError,
    em_BadNumber_CountError := exm_of2 ebBadNumber_CountError ekBadNumber_CountError etBadNumber_CountError emBadNumber_CountError,
    gc_Test := ⟨⟨pgTest, hdTest, poTest, saTest⟩, caTest, sg, tk, mrTest, gc_kt (kit_no ktint_Test (by decide +kernel)) (kit_no ksTest (by decide +kernel)) (kit_no ktbool_Test (by decide +kernel)) (kit_no ktlist_Test (by decide +kernel)) (kit_no kttuple_Test (by decide +kernel)) (kit_no ktdict_Test (by decide +kernel)) (kit_no ktset_Test (by decide +kernel)) (kit_no ktbytes_Test (by decide +kernel)) (kit_no ktfloat_Test (by decide +kernel))⟩,
    me_Test_truth := ⟨atTest_truth, fnTest_truth, kTest_truth⟩,
    oc_Test___call__ := ⟨atTest___call__, fnTest___call__, fiTest___call__⟩,
    pa_Test_columns := (nsA K (He.ga K "Test") "columns"),
    pr_Test_columns := ⟨patTest_columns, pgeTest_columns, ptkTest_columns, ⟨_, prcTest_columns⟩⟩,
    pa_Test_names := (nsA K (He.ga K "Test") "names"),
    pr_Test_names := ⟨patTest_names, pgeTest_names, ptkTest_names, ⟨_, prcTest_names⟩⟩,
    pa_Test_size := (nsA K (He.ga K "Test") "size"),
    pr_Test_size := ⟨patTest_size, pgeTest_size, ptkTest_size, ⟨_, prcTest_size⟩⟩,
    pa_Test_conditions := (nsA K (He.ga K "Test") "conditions"),
    pr_Test_conditions := ⟨patTest_conditions, pgeTest_conditions, ptkTest_conditions, ⟨_, prcTest_conditions⟩⟩,
    me_Test___eq__ := ⟨atTest___eq__, fnTest___eq__, kTest___eq__⟩,
    me_Test___str__ := ⟨atTest___str__, fnTest___str__, kTest___str__⟩,
    gc_Condition := ⟨⟨pgCondition, hdCondition, poCondition, saCondition⟩, caCondition, sg, tk, mrCondition, gc_kt (kit_no ktint_Condition (by decide +kernel)) (kit_no ksCondition (by decide +kernel)) (kit_no ktbool_Condition (by decide +kernel)) (kit_no ktlist_Condition (by decide +kernel)) (kit_no kttuple_Condition (by decide +kernel)) (kit_no ktdict_Condition (by decide +kernel)) (kit_no ktset_Condition (by decide +kernel)) (kit_no ktbytes_Condition (by decide +kernel)) (kit_no ktfloat_Condition (by decide +kernel))⟩,
    gc_Below := ⟨⟨pgBelow, hdBelow, poBelow, saBelow⟩, caBelow, sg, tk, mrBelow, gc_kt (kit_no ktint_Below (by decide +kernel)) (kit_no ksBelow (by decide +kernel)) (kit_no ktbool_Below (by decide +kernel)) (kit_no ktlist_Below (by decide +kernel)) (kit_no kttuple_Below (by decide +kernel)) (kit_no ktdict_Below (by decide +kernel)) (kit_no ktset_Below (by decide +kernel)) (kit_no ktbytes_Below (by decide +kernel)) (kit_no ktfloat_Below (by decide +kernel))⟩,
    me_Below___init__ := ⟨atBelow___init__, fnBelow___init__, kBelow___init__⟩,
    me_Below_known := ⟨atBelow_known, fnBelow_known, kBelow_known⟩,
    gc_UpTo := ⟨⟨pgUpTo, hdUpTo, poUpTo, saUpTo⟩, caUpTo, sg, tk, mrUpTo, gc_kt (kit_no ktint_UpTo (by decide +kernel)) (kit_no ksUpTo (by decide +kernel)) (kit_no ktbool_UpTo (by decide +kernel)) (kit_no ktlist_UpTo (by decide +kernel)) (kit_no kttuple_UpTo (by decide +kernel)) (kit_no ktdict_UpTo (by decide +kernel)) (kit_no ktset_UpTo (by decide +kernel)) (kit_no ktbytes_UpTo (by decide +kernel)) (kit_no ktfloat_UpTo (by decide +kernel))⟩,
    me_UpTo___init__ := ⟨atUpTo___init__, fnUpTo___init__, kUpTo___init__⟩,
    me_UpTo_known := ⟨atUpTo_known, fnUpTo_known, kUpTo_known⟩,
    gc_Equals := ⟨⟨pgEquals, hdEquals, poEquals, saEquals⟩, caEquals, sg, tk, mrEquals, gc_kt (kit_no ktint_Equals (by decide +kernel)) (kit_no ksEquals (by decide +kernel)) (kit_no ktbool_Equals (by decide +kernel)) (kit_no ktlist_Equals (by decide +kernel)) (kit_no kttuple_Equals (by decide +kernel)) (kit_no ktdict_Equals (by decide +kernel)) (kit_no ktset_Equals (by decide +kernel)) (kit_no ktbytes_Equals (by decide +kernel)) (kit_no ktfloat_Equals (by decide +kernel))⟩,
    me_Equals___init__ := ⟨atEquals___init__, fnEquals___init__, kEquals___init__⟩,
    me_Equals_known := ⟨atEquals_known, fnEquals_known, kEquals_known⟩,
    gc_Missing := ⟨⟨pgMissing, hdMissing, poMissing, saMissing⟩, caMissing, sg, tk, mrMissing, gc_kt (kit_no ktint_Missing (by decide +kernel)) (kit_no ksMissing (by decide +kernel)) (kit_no ktbool_Missing (by decide +kernel)) (kit_no ktlist_Missing (by decide +kernel)) (kit_no kttuple_Missing (by decide +kernel)) (kit_no ktdict_Missing (by decide +kernel)) (kit_no ktset_Missing (by decide +kernel)) (kit_no ktbytes_Missing (by decide +kernel)) (kit_no ktfloat_Missing (by decide +kernel))⟩,
    me_Missing___init__ := ⟨atMissing___init__, fnMissing___init__, kMissing___init__⟩,
    me_Missing_known := ⟨atMissing_known, fnMissing_known, kMissing_known⟩,
    me_Below_truth := ⟨atBelow_truth, fnTest_truth, kTest_truth⟩,
    oc_Below___call__ := ⟨atBelow___call__, fnTest___call__, fiTest___call__⟩,
    pr_Below_columns := ⟨patBelow_columns, pgeTest_columns, ptkTest_columns, ⟨_, prcTest_columns⟩⟩,
    pr_Below_names := ⟨patBelow_names, pgeTest_names, ptkTest_names, ⟨_, prcTest_names⟩⟩,
    pr_Below_size := ⟨patBelow_size, pgeTest_size, ptkTest_size, ⟨_, prcTest_size⟩⟩,
    pr_Below_conditions := ⟨patBelow_conditions, pgeTest_conditions, ptkTest_conditions, ⟨_, prcTest_conditions⟩⟩,
    me_Below___eq__ := ⟨atBelow___eq__, fnTest___eq__, kTest___eq__⟩,
    me_Below___str__ := ⟨atBelow___str__, fnTest___str__, kTest___str__⟩,
    me_UpTo_truth := ⟨atUpTo_truth, fnTest_truth, kTest_truth⟩,
    oc_UpTo___call__ := ⟨atUpTo___call__, fnTest___call__, fiTest___call__⟩,
    pr_UpTo_columns := ⟨patUpTo_columns, pgeTest_columns, ptkTest_columns, ⟨_, prcTest_columns⟩⟩,
    pr_UpTo_names := ⟨patUpTo_names, pgeTest_names, ptkTest_names, ⟨_, prcTest_names⟩⟩,
    pr_UpTo_size := ⟨patUpTo_size, pgeTest_size, ptkTest_size, ⟨_, prcTest_size⟩⟩,
    pr_UpTo_conditions := ⟨patUpTo_conditions, pgeTest_conditions, ptkTest_conditions, ⟨_, prcTest_conditions⟩⟩,
    me_UpTo___eq__ := ⟨atUpTo___eq__, fnTest___eq__, kTest___eq__⟩,
    me_UpTo___str__ := ⟨atUpTo___str__, fnTest___str__, kTest___str__⟩,
    me_Equals_truth := ⟨atEquals_truth, fnTest_truth, kTest_truth⟩,
    oc_Equals___call__ := ⟨atEquals___call__, fnTest___call__, fiTest___call__⟩,
    pr_Equals_columns := ⟨patEquals_columns, pgeTest_columns, ptkTest_columns, ⟨_, prcTest_columns⟩⟩,
    pr_Equals_names := ⟨patEquals_names, pgeTest_names, ptkTest_names, ⟨_, prcTest_names⟩⟩,
    pr_Equals_size := ⟨patEquals_size, pgeTest_size, ptkTest_size, ⟨_, prcTest_size⟩⟩,
    pr_Equals_conditions := ⟨patEquals_conditions, pgeTest_conditions, ptkTest_conditions, ⟨_, prcTest_conditions⟩⟩,
    me_Equals___eq__ := ⟨atEquals___eq__, fnTest___eq__, kTest___eq__⟩,
    me_Equals___str__ := ⟨atEquals___str__, fnTest___str__, kTest___str__⟩,
    me_Missing_truth := ⟨atMissing_truth, fnTest_truth, kTest_truth⟩,
    oc_Missing___call__ := ⟨atMissing___call__, fnTest___call__, fiTest___call__⟩,
    pr_Missing_columns := ⟨patMissing_columns, pgeTest_columns, ptkTest_columns, ⟨_, prcTest_columns⟩⟩,
    pr_Missing_names := ⟨patMissing_names, pgeTest_names, ptkTest_names, ⟨_, prcTest_names⟩⟩,
    pr_Missing_size := ⟨patMissing_size, pgeTest_size, ptkTest_size, ⟨_, prcTest_size⟩⟩,
    pr_Missing_conditions := ⟨patMissing_conditions, pgeTest_conditions, ptkTest_conditions, ⟨_, prcTest_conditions⟩⟩,
    me_Missing___eq__ := ⟨atMissing___eq__, fnTest___eq__, kTest___eq__⟩,
    me_Missing___str__ := ⟨atMissing___str__, fnTest___str__, kTest___str__⟩,
    nf_str_Test := nfstr_Test,
    kn_str_Test := knstr_Test,
    nf_str_Below := nfstr_Below,
    kn_str_Below := knstr_Below,
    nf_str_UpTo := nfstr_UpTo,
    kn_str_UpTo := knstr_UpTo,
    nf_str_Equals := nfstr_Equals,
    kn_str_Equals := knstr_Equals,
    nf_str_Missing := nfstr_Missing,
    kn_str_Missing := knstr_Missing,
    D_RESERVED := (He.ga K "RESERVED"),
    gd_RESERVED := PySem.W.mg_of X G gdRESERVED,
    kd_RESERVED := kdRESERVED,
    no_RESERVED := noRESERVED,
    rs_null := fx_rs_null,
    rs_where := fx_rs_where,
    rs_self := fx_rs_self,
    kt_BadNumber_BadName := fx_kt_BadNumber_BadName,
    nf_Below_UpTo := fx_nf_Below_UpTo,
    nf_Below_Equals := fx_nf_Below_Equals,
    nf_Below_Missing := fx_nf_Below_Missing,
    nf_UpTo_Below := fx_nf_UpTo_Below,
    nf_UpTo_Equals := fx_nf_UpTo_Equals,
    nf_UpTo_Missing := fx_nf_UpTo_Missing,
    nf_Equals_Below := fx_nf_Equals_Below,
    nf_Equals_UpTo := fx_nf_Equals_UpTo,
    nf_Equals_Missing := fx_nf_Equals_Missing,
    nf_Missing_Below := fx_nf_Missing_Below,
    nf_Missing_UpTo := fx_nf_Missing_UpTo,
    nf_Missing_Equals := fx_nf_Missing_Equals,
    z_abs := PySem.W.mg_none_of X G z_abs,
    z_all := PySem.W.mg_none_of X G z_all,
    z_bool := PySem.W.mg_none_of X G z_bool,
    z_dict := PySem.W.mg_none_of X G z_dict,
    z_int := PySem.W.mg_none_of X G z_int,
    z_isinstance := PySem.W.mg_none_of X G z_isinstance,
    z_len := PySem.W.mg_none_of X G z_len,
    z_list := PySem.W.mg_none_of X G z_list,
    z_range := PySem.W.mg_none_of X G z_range,
    z_repr := PySem.W.mg_none_of X G z_repr,
    z_str := PySem.W.mg_none_of X G z_str,
    z_tuple := PySem.W.mg_none_of X G z_tuple,
    t_MOST_LETTERS := tc_MOST_LETTERS,
    c_MOST_LETTERS := ci_MOST_LETTERS,
    a_is_integer := (He.ga K "is_integer"),
    d_is_integer := (PySem.W.fnOf "is_integer" "is_integer" (defArgs sis_integer) (defBody sis_integer) (defScope sis_integer) .none kV0 dc0 pm0 an0 cd0 ct0),
    F_is_integer := fun_mk (st := sis_integer) l0 c0 k0,
    b_is_integer := (fun_mk (st := sis_integer) l0 c0 k0).binds (ps := ["value"]) fun _ _ _ _ _ _ us hl => match us, hl with | [_], _ => rfl,
    g_is_integer := PySem.W.mg_of X G ais_integer,
    a_is_value := (He.ga K "is_value"),
    d_is_value := (PySem.W.fnOf "is_value" "is_value" (defArgs sis_value) (defBody sis_value) (defScope sis_value) .none kV1 dc1 pm1 an1 cd1 ct1),
    F_is_value := fun_mk (st := sis_value) l1 c1 k1,
    b_is_value := (fun_mk (st := sis_value) l1 c1 k1).binds (ps := ["value"]) fun _ _ _ _ _ _ us hl => match us, hl with | [_], _ => rfl,
    g_is_value := PySem.W.mg_of X G ais_value,
    a_is_name := (He.ga K "is_name"),
    d_is_name := (PySem.W.fnOf "is_name" "is_name" (defArgs sis_name) (defBody sis_name) (defScope sis_name) .none kV2 dc2 pm2 an2 cd2 ct2),
    F_is_name := fun_mk (st := sis_name) l2 c2 k2,
    b_is_name := (fun_mk (st := sis_name) l2 c2 k2).binds (ps := ["value"]) fun _ _ _ _ _ _ us hl => match us, hl with | [_], _ => rfl,
    g_is_name := PySem.W.mg_of X G ais_name,
    a_own_copy := (He.ga K "own_copy"),
    d_own_copy := (PySem.W.fnOf "own_copy" "own_copy" (defArgs sown_copy) (defBody sown_copy) (defScope sown_copy) .none kV3 dc3 pm3 an3 cd3 ct3),
    F_own_copy := fun_mk (st := sown_copy) l3 c3 k3,
    b_own_copy := (fun_mk (st := sown_copy) l3 c3 k3).binds (ps := ["value"]) fun _ _ _ _ _ _ us hl => match us, hl with | [_], _ => rfl,
    g_own_copy := PySem.W.mg_of X G aown_copy,
    a_check_comparison := (He.ga K "check_comparison"),
    d_check_comparison := (PySem.W.fnOf "check_comparison" "check_comparison" (defArgs scheck_comparison) (defBody scheck_comparison) (defScope scheck_comparison) .none kV4 dc4 pm4 an4 cd4 ct4),
    F_check_comparison := fun_mk (st := scheck_comparison) l4 c4 k4,
    b_check_comparison := (fun_mk (st := scheck_comparison) l4 c4 k4).binds (ps := ["column", "number"]) fun _ _ _ _ _ _ us hl => match us, hl with | [_, _], _ => rfl,
    g_check_comparison := PySem.W.mg_of X G acheck_comparison,
    a_check_told := (He.ga K "check_told"),
    d_check_told := (PySem.W.fnOf "check_told" "check_told" (defArgs scheck_told) (defBody scheck_told) (defScope scheck_told) .none kV5 dc5 pm5 an5 cd5 ct5),
    F_check_told := fun_mk (st := scheck_told) l5 c5 k5,
    b_check_told := (fun_mk (st := scheck_told) l5 c5 k5).binds (ps := ["asked", "values", "counts"]) fun _ _ _ _ _ _ us hl => match us, hl with | [_, _, _], _ => rfl,
    g_check_told := PySem.W.mg_of X G acheck_told,
    a_are_values := (He.ga K "are_values"),
    d_are_values := (PySem.W.fnOf "are_values" "are_values" (defArgs sare_values) (defBody sare_values) (defScope sare_values) .none kV6 dc6 pm6 an6 cd6 ct6),
    F_are_values := fun_mk (st := sare_values) l6 c6 k6,
    b_are_values := (fun_mk (st := sare_values) l6 c6 k6).binds (ps := ["value"]) fun _ _ _ _ _ _ us hl => match us, hl with | [_], _ => rfl,
    g_are_values := PySem.W.mg_of X G aare_values,
    a_are_counts := (He.ga K "are_counts"),
    d_are_counts := (PySem.W.fnOf "are_counts" "are_counts" (defArgs sare_counts) (defBody sare_counts) (defScope sare_counts) .none kV7 dc7 pm7 an7 cd7 ct7),
    F_are_counts := fun_mk (st := sare_counts) l7 c7 k7,
    b_are_counts := (fun_mk (st := sare_counts) l7 c7 k7).binds (ps := ["value"]) fun _ _ _ _ _ _ us hl => match us, hl with | [_], _ => rfl,
    g_are_counts := PySem.W.mg_of X G aare_counts,
    a__law_pen := (He.ga K "_law_pen"),
    d__law_pen := (PySem.W.fnOf "_law_pen" "_law_pen" (defArgs s_law_pen) (defBody s_law_pen) (defScope s_law_pen) .none kV8 dc8 pm8 an8 cd8 ct8),
    F__law_pen := fun_mk (st := s_law_pen) l8 c8 k8,
    b__law_pen := (fun_mk (st := s_law_pen) l8 c8 k8).binds (ps := ["_law_script"]) fun _ _ _ _ _ _ us hl => match us, hl with | [_], _ => rfl,
    g__law_pen := PySem.W.mg_of X G a_law_pen,
    a__law_draw := (He.ga K "_law_draw"),
    d__law_draw := (PySem.W.fnOf "_law_draw" "_law_draw" (defArgs s_law_draw) (defBody s_law_draw) (defScope s_law_draw) .none kV9 dc9 pm9 an9 cd9 ct9),
    F__law_draw := fun_mk (st := s_law_draw) l9 c9 k9,
    b__law_draw := (fun_mk (st := s_law_draw) l9 c9 k9).binds (ps := ["_law_pen_here", "_law_many"]) fun _ _ _ _ _ _ us hl => match us, hl with | [_, _], _ => rfl,
    g__law_draw := PySem.W.mg_of X G a_law_draw,
    a__law_pick := (He.ga K "_law_pick"),
    d__law_pick := (PySem.W.fnOf "_law_pick" "_law_pick" (defArgs s_law_pick) (defBody s_law_pick) (defScope s_law_pick) .none kV10 dc10 pm10 an10 cd10 ct10),
    F__law_pick := fun_mk (st := s_law_pick) l10 c10 k10,
    b__law_pick := (fun_mk (st := s_law_pick) l10 c10 k10).binds (ps := ["_law_pen_here", "_law_some"]) fun _ _ _ _ _ _ us hl => match us, hl with | [_, _], _ => rfl,
    g__law_pick := PySem.W.mg_of X G a_law_pick,
    a__law_heard := (He.ga K "_law_heard"),
    d__law_heard := (PySem.W.fnOf "_law_heard" "_law_heard" (defArgs s_law_heard) (defBody s_law_heard) (defScope s_law_heard) .none kV11 dc11 pm11 an11 cd11 ct11),
    F__law_heard := fun_mk (st := s_law_heard) l11 c11 k11,
    b__law_heard := (fun_mk (st := s_law_heard) l11 c11 k11).binds (ps := ["_law_ask"]) fun _ _ _ _ _ _ us hl => match us, hl with | [_], _ => rfl,
    g__law_heard := PySem.W.mg_of X G a_law_heard,
    a__law_one_right := (He.ga K "_law_one_right"),
    d__law_one_right := (PySem.W.fnOf "_law_one_right" "_law_one_right" (defArgs s_law_one_right) (defBody s_law_one_right) (defScope s_law_one_right) .none kV12 dc12 pm12 an12 cd12 ct12),
    F__law_one_right := fun_mk (st := s_law_one_right) l12 c12 k12,
    b__law_one_right := (fun_mk (st := s_law_one_right) l12 c12 k12).binds (ps := ["_law_pen_here", "_law_word", "_law_title", "_law_number_so"]) fun _ _ _ _ _ _ us hl => match us, hl with | [_, _, _, _], _ => rfl,
    g__law_one_right := PySem.W.mg_of X G a_law_one_right,
    a_law := (He.ga K "law"),
    d_law := (PySem.W.fnOf "law" "law" (defArgs slaw) (defBody slaw) (defScope slaw) .none kV13 dc13 pm13 an13 cd13 ct13),
    F_law := fun_mk (st := slaw) l13 c13 k13,
    b_law := (fun_mk (st := slaw) l13 c13 k13).binds (ps := ["_law_script"]) fun _ _ _ _ _ _ us hl => match us, hl with | [_], _ => rfl,
    g_law := PySem.W.mg_of X G alaw,
    p_law := (tabAt K (He.ga K "law")).2,
    c_law := codeAt K (He.ga K "law"),
    hc_law := codeAt_is l13 c13,
    a_Test___init__ := (nsA K (He.ga K "Test") "__init__"),
    d_Test___init__ := (PySem.W.fnOf "__init__" "Test.__init__" (defArgs sTest___init__) (defBody sTest___init__) (defScope sTest___init__) .none kV14 dc14 pm14 an14 cd14 ct14),
    F_Test___init__ := fun_mk (st := sTest___init__) l14 c14 k14,
    b_Test___init__ := (fun_mk (st := sTest___init__) l14 c14 k14).binds (ps := ["self", "text", "size", "columns", "names", "conditions"]) fun _ _ _ _ _ _ us hl => match us, hl with | [_, _, _, _, _, _], _ => rfl,
    a_Test_truth := (nsA K (He.ga K "Test") "truth"),
    d_Test_truth := (PySem.W.fnOf "truth" "Test.truth" (defArgs sTest_truth) (defBody sTest_truth) (defScope sTest_truth) dV15 kV15 dc15 pm15 an15 cd15 ct15),
    F_Test_truth := FD15,
    b_Test_truth := bA15,
    bd_Test_truth := bD15,
    a_Test___call__ := (nsA K (He.ga K "Test") "__call__"),
    d_Test___call__ := (PySem.W.fnOf "__call__" "Test.__call__" (defArgs sTest___call__) (defBody sTest___call__) (defScope sTest___call__) dV16 kV16 dc16 pm16 an16 cd16 ct16),
    F_Test___call__ := FD16,
    b_Test___call__ := bA16,
    bd_Test___call__ := bD16,
    a_Test_columns := (fstA K "property" (nsA K (He.ga K "Test") "columns")),
    d_Test_columns := (PySem.W.fnOf "columns" "Test.columns" (defArgs sTest_columns) (defBody sTest_columns) (defScope sTest_columns) .none kV17 dc17 pm17 an17 cd17 ct17),
    F_Test_columns := fun_mk (st := sTest_columns) l17 c17 k17,
    b_Test_columns := (fun_mk (st := sTest_columns) l17 c17 k17).binds (ps := ["self"]) fun _ _ _ _ _ _ us hl => match us, hl with | [_], _ => rfl,
    a_Test_names := (fstA K "property" (nsA K (He.ga K "Test") "names")),
    d_Test_names := (PySem.W.fnOf "names" "Test.names" (defArgs sTest_names) (defBody sTest_names) (defScope sTest_names) .none kV18 dc18 pm18 an18 cd18 ct18),
    F_Test_names := fun_mk (st := sTest_names) l18 c18 k18,
    b_Test_names := (fun_mk (st := sTest_names) l18 c18 k18).binds (ps := ["self"]) fun _ _ _ _ _ _ us hl => match us, hl with | [_], _ => rfl,
    a_Test_size := (fstA K "property" (nsA K (He.ga K "Test") "size")),
    d_Test_size := (PySem.W.fnOf "size" "Test.size" (defArgs sTest_size) (defBody sTest_size) (defScope sTest_size) .none kV19 dc19 pm19 an19 cd19 ct19),
    F_Test_size := fun_mk (st := sTest_size) l19 c19 k19,
    b_Test_size := (fun_mk (st := sTest_size) l19 c19 k19).binds (ps := ["self"]) fun _ _ _ _ _ _ us hl => match us, hl with | [_], _ => rfl,
    a_Test_conditions := (fstA K "property" (nsA K (He.ga K "Test") "conditions")),
    d_Test_conditions := (PySem.W.fnOf "conditions" "Test.conditions" (defArgs sTest_conditions) (defBody sTest_conditions) (defScope sTest_conditions) .none kV20 dc20 pm20 an20 cd20 ct20),
    F_Test_conditions := fun_mk (st := sTest_conditions) l20 c20 k20,
    b_Test_conditions := (fun_mk (st := sTest_conditions) l20 c20 k20).binds (ps := ["self"]) fun _ _ _ _ _ _ us hl => match us, hl with | [_], _ => rfl,
    a_Test___eq__ := (nsA K (He.ga K "Test") "__eq__"),
    d_Test___eq__ := (PySem.W.fnOf "__eq__" "Test.__eq__" (defArgs sTest___eq__) (defBody sTest___eq__) (defScope sTest___eq__) .none kV21 dc21 pm21 an21 cd21 ct21),
    F_Test___eq__ := fun_mk (st := sTest___eq__) l21 c21 k21,
    b_Test___eq__ := (fun_mk (st := sTest___eq__) l21 c21 k21).binds (ps := ["self", "other"]) fun _ _ _ _ _ _ us hl => match us, hl with | [_, _], _ => rfl,
    a_Test___str__ := (nsA K (He.ga K "Test") "__str__"),
    d_Test___str__ := (PySem.W.fnOf "__str__" "Test.__str__" (defArgs sTest___str__) (defBody sTest___str__) (defScope sTest___str__) .none kV22 dc22 pm22 an22 cd22 ct22),
    F_Test___str__ := fun_mk (st := sTest___str__) l22 c22 k22,
    b_Test___str__ := (fun_mk (st := sTest___str__) l22 c22 k22).binds (ps := ["self"]) fun _ _ _ _ _ _ us hl => match us, hl with | [_], _ => rfl,
    a_Condition___init__ := (nsA K (He.ga K "Condition") "__init__"),
    d_Condition___init__ := (PySem.W.fnOf "__init__" "Condition.__init__" (defArgs sCondition___init__) (defBody sCondition___init__) (defScope sCondition___init__) .none kV23 dc23 pm23 an23 cd23 ct23),
    F_Condition___init__ := fun_mk (st := sCondition___init__) l23 c23 k23,
    b_Condition___init__ := (fun_mk (st := sCondition___init__) l23 c23 k23).binds (ps := ["self", "column", "text"]) fun _ _ _ _ _ _ us hl => match us, hl with | [_, _, _], _ => rfl,
    a_Below___init__ := (nsA K (He.ga K "Below") "__init__"),
    d_Below___init__ := (PySem.W.fnOf "__init__" "Below.__init__" (defArgs sBelow___init__) (defBody sBelow___init__) (defScope sBelow___init__) .none kV24 dc24 pm24 an24 cd24 ct24),
    F_Below___init__ := fun_mk (st := sBelow___init__) l24 c24 k24,
    b_Below___init__ := (fun_mk (st := sBelow___init__) l24 c24 k24).binds (ps := ["self", "column", "number"]) fun _ _ _ _ _ _ us hl => match us, hl with | [_, _, _], _ => rfl,
    a_Below_known := (nsA K (He.ga K "Below") "known"),
    d_Below_known := (PySem.W.fnOf "known" "Below.known" (defArgs sBelow_known) (defBody sBelow_known) (defScope sBelow_known) .none kV25 dc25 pm25 an25 cd25 ct25),
    F_Below_known := fun_mk (st := sBelow_known) l25 c25 k25,
    b_Below_known := (fun_mk (st := sBelow_known) l25 c25 k25).binds (ps := ["self", "values", "counts"]) fun _ _ _ _ _ _ us hl => match us, hl with | [_, _, _], _ => rfl,
    a_UpTo___init__ := (nsA K (He.ga K "UpTo") "__init__"),
    d_UpTo___init__ := (PySem.W.fnOf "__init__" "UpTo.__init__" (defArgs sUpTo___init__) (defBody sUpTo___init__) (defScope sUpTo___init__) .none kV26 dc26 pm26 an26 cd26 ct26),
    F_UpTo___init__ := fun_mk (st := sUpTo___init__) l26 c26 k26,
    b_UpTo___init__ := (fun_mk (st := sUpTo___init__) l26 c26 k26).binds (ps := ["self", "column", "number"]) fun _ _ _ _ _ _ us hl => match us, hl with | [_, _, _], _ => rfl,
    a_UpTo_known := (nsA K (He.ga K "UpTo") "known"),
    d_UpTo_known := (PySem.W.fnOf "known" "UpTo.known" (defArgs sUpTo_known) (defBody sUpTo_known) (defScope sUpTo_known) .none kV27 dc27 pm27 an27 cd27 ct27),
    F_UpTo_known := fun_mk (st := sUpTo_known) l27 c27 k27,
    b_UpTo_known := (fun_mk (st := sUpTo_known) l27 c27 k27).binds (ps := ["self", "values", "counts"]) fun _ _ _ _ _ _ us hl => match us, hl with | [_, _, _], _ => rfl,
    a_Equals___init__ := (nsA K (He.ga K "Equals") "__init__"),
    d_Equals___init__ := (PySem.W.fnOf "__init__" "Equals.__init__" (defArgs sEquals___init__) (defBody sEquals___init__) (defScope sEquals___init__) .none kV28 dc28 pm28 an28 cd28 ct28),
    F_Equals___init__ := fun_mk (st := sEquals___init__) l28 c28 k28,
    b_Equals___init__ := (fun_mk (st := sEquals___init__) l28 c28 k28).binds (ps := ["self", "column", "number"]) fun _ _ _ _ _ _ us hl => match us, hl with | [_, _, _], _ => rfl,
    a_Equals_known := (nsA K (He.ga K "Equals") "known"),
    d_Equals_known := (PySem.W.fnOf "known" "Equals.known" (defArgs sEquals_known) (defBody sEquals_known) (defScope sEquals_known) .none kV29 dc29 pm29 an29 cd29 ct29),
    F_Equals_known := fun_mk (st := sEquals_known) l29 c29 k29,
    b_Equals_known := (fun_mk (st := sEquals_known) l29 c29 k29).binds (ps := ["self", "values", "counts"]) fun _ _ _ _ _ _ us hl => match us, hl with | [_, _, _], _ => rfl,
    a_Missing___init__ := (nsA K (He.ga K "Missing") "__init__"),
    d_Missing___init__ := (PySem.W.fnOf "__init__" "Missing.__init__" (defArgs sMissing___init__) (defBody sMissing___init__) (defScope sMissing___init__) .none kV30 dc30 pm30 an30 cd30 ct30),
    F_Missing___init__ := fun_mk (st := sMissing___init__) l30 c30 k30,
    b_Missing___init__ := (fun_mk (st := sMissing___init__) l30 c30 k30).binds (ps := ["self", "column"]) fun _ _ _ _ _ _ us hl => match us, hl with | [_, _], _ => rfl,
    a_Missing_known := (nsA K (He.ga K "Missing") "known"),
    d_Missing_known := (PySem.W.fnOf "known" "Missing.known" (defArgs sMissing_known) (defBody sMissing_known) (defScope sMissing_known) .none kV31 dc31 pm31 an31 cd31 ct31),
    F_Missing_known := fun_mk (st := sMissing_known) l31 c31 k31,
    b_Missing_known := (fun_mk (st := sMissing_known) l31 c31 k31).binds (ps := ["self", "values", "counts"]) fun _ _ _ _ _ _ us hl => match us, hl with | [_, _, _], _ => rfl,
    a_BadName___init__ := (nsA K (He.ga K "BadName") "__init__"),
    d_BadName___init__ := (PySem.W.fnOf "__init__" "BadName.__init__" (defArgs sBadName___init__) (defBody sBadName___init__) (defScope sBadName___init__) .none kV32 dc32 pm32 an32 cd32 ct32),
    F_BadName___init__ := fun_mk (st := sBadName___init__) l32 c32 k32,
    b_BadName___init__ := (fun_mk (st := sBadName___init__) l32 c32 k32).binds (ps := ["self", "value"]) fun _ _ _ _ _ _ us hl => match us, hl with | [_, _], _ => rfl,
    a_BadNumber___init__ := (nsA K (He.ga K "BadNumber") "__init__"),
    d_BadNumber___init__ := (PySem.W.fnOf "__init__" "BadNumber.__init__" (defArgs sBadNumber___init__) (defBody sBadNumber___init__) (defScope sBadNumber___init__) .none kV33 dc33 pm33 an33 cd33 ct33),
    F_BadNumber___init__ := fun_mk (st := sBadNumber___init__) l33 c33 k33,
    b_BadNumber___init__ := (fun_mk (st := sBadNumber___init__) l33 c33 k33).binds (ps := ["self", "value"]) fun _ _ _ _ _ _ us hl => match us, hl with | [_, _], _ => rfl,
    mb_Below_0 := { to := fun s us ws _ h1 h2 => by { match us, ws, h1, h2 with | [_], [_, _], _, _ => exact .of_eq rfl }, rel := fun r q => gPerm_rel r q },
    mb_UpTo_1 := { to := fun s us ws _ h1 h2 => by { match us, ws, h1, h2 with | [_], [_, _], _, _ => exact .of_eq rfl }, rel := fun r q => gPerm_rel r q },
    mb_Equals_2 := { to := fun s us ws _ h1 h2 => by { match us, ws, h1, h2 with | [_], [_, _], _, _ => exact .of_eq rfl }, rel := fun r q => gPerm_rel r q },
    mb_Missing_3 := { to := fun s us ws _ h1 h2 => by { match us, ws, h1, h2 with | [_], [_], _, _ => exact .of_eq rfl }, rel := fun r q => gPerm_rel r q },
    kb_Test_truth_0 := kn15_kb_Test_truth_0,
    kx1_BadName := { to := fun s us ws _ h1 h2 => by { match us, ws, h1, h2 with | [_], [_], _, _ => exact .of_eq rfl }, rel := fun r q => r.append q },
    kx1_BadNumber := { to := fun s us ws _ h1 h2 => by { match us, ws, h1, h2 with | [_], [_], _, _ => exact .of_eq rfl }, rel := fun r q => r.append q },
    e_law := fun s v => .of_eq rfl }
  have e : Value.ref fa = .ref T.a_law := Option.some.inj (hfa.symm.trans T.g_law)
  injection e with e
  subst e
  refine ⟨T.d_law, tfY.map (fun f => tabAt K (f K)), lowSpT K (TbL T) lawD, c.mts, c.outs, c.hds, T.e_law, fun H a ns hl o hS => law_satT ?_ hl o hS, fun base _ _ tb => dok_law (P := P) (w := w) T ⟨tb (T.c_law, T.p_law) ?_⟩⟩
  · intro p hp
    simp only [TbL, List.mem_cons, List.not_mem_nil, or_false] at hp
    subst hp
    exact List.mem_map.mpr ⟨tabAt K (He.ga K "law"), List.mem_map.mpr ⟨_, List.mem_cons_self, rfl⟩, rfl⟩
  · exact List.mem_map.mpr ⟨_, List.mem_cons_self, rfl⟩
end JP
open PySem PySem.W PySem.Calls PyProof.Rows
set_option maxRecDepth 100000 in
set_option maxHeartbeats 0 in
theorem PySem.Challenge.cw_rowcounts_k08_conditions_and_their_truth_holds : PySem.Challenge.rw_rowcounts_k08_conditions_and_their_truth.Holds := by
  w_on; o_law
  refine HandSHeadRun.head_any (r := (OpenLaw.row PySem.Challenge.rw_rowcounts_k08_conditions_and_their_truth)) (q := view (OpenLaw.row PySem.Challenge.rw_rowcounts_k08_conditions_and_their_truth).prog [48]) (H := JP.hkY) (ob := JP.obY) (M := 12000) (loose := JP.looseY) (d := HandSHeadRun.topDef (OpenLaw.row PySem.Challenge.rw_rowcounts_k08_conditions_and_their_truth).prog 48) (kwd := []) JP.obY_eq
    (by kernel_rfl) (fun s => by kernel_rfl) JP.runY (by kernel_rfl) (by kernel_rfl) (by kernel_rfl) (by rfl) (by first | assumption | decide +kernel) (by decide +kernel) ⟨rfl, rfl, rfl, rfl, rfl, by decide +kernel⟩ ?hw ?hc
  case hw => w_witness2
  case hc =>
    refine JP.walk_gt (l := PySem.Challenge.rw_rowcounts_k08_conditions_and_their_truth) (n := 63) (k := 35) (x := "_law_script") rfl (by decide) (by kernel_rfl) ⟨rfl, by decide, by decide⟩ ?F
    intro w mg fa h Y G hmg0
    obtain ⟨K, c⟩ := Y
    have hmg : mg ("law" : PySem.Str) = some (.ref fa) := by
      have e : (HandSHeadRun.topDef (OpenLaw.row PySem.Challenge.rw_rowcounts_k08_conditions_and_their_truth).prog 48).name = ("law" : PySem.Str) := by kernel_rfl
      rw [← e]
      exact hmg0
    obtain ⟨fd, cs, sp, h1, h2, h3, h4, h5, h6⟩ := JP.all_y (P := (PySem.Challenge.rw_rowcounts_k08_conditions_and_their_truth).prog) (w := w) G hmg c
    exact ⟨K, fd, cs, sp, c.inK, h1, h2, h3, h4, h5, h6⟩
