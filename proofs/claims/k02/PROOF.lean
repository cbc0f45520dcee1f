import PyProof.Rows.All
import Wide.All
import OpenK.AllK
import Wide.FinOn
import HandS.ForMost
import HandS.IsInst
import PyProof.ReprRoads
import PyProof.ReprText
import HandS.Wide
import HandS.Walk
import HandS.Zip
import KE.KEqSeq
import HandS.TupMul
import KE.GoesEnum
import KE.GoesMore
import KE.KEqDeep
import OpenK.KMore
import HandS.Exc
import HandS.ExcInit
import HandS.ExcField
import HandS.ExcIs
import HandS.TryOnly
import HandS.ClsMeth
import HandS.Defaults
import HandS.MakeKw
import HandS.Text
import HandS.StrMore
import HandS.Flow
import HandS.SlotsOwn
import HandS.ExcOwn
import KE.KCallOwn
import KE.KExcIs
import KE.KFmtOwn
import PyProof.InstEq
import HandS.Star
import HandS.WordsExc
import KE.IntTextLaws
import HandS.Lambda
import KE.GoesZip
import HandS.DictComp
import KE.KOpsOwn
import PyProof.ListStr
import PyProof.Rows.StrComp
import HandS.RaiseMore
import HandS.ExcValue
import HandS.MakeKwOnly
import PyProof.RowDictHeap
import KE.KDictCopyH
import HandS.DictTup
import HandS.Conv
import HandS.TupLen
import HandS.Property
import HandS.Gcd
import HandS.Style
import HandS.OwnIter
import HandS.IterVal
import PyProof.WalksMore
import HandS.NoneIn
import KE.KDictKeyed
import KE.KEqDict
import KE.KDictPairs
import KE.KDictDisplayH
import PyProof.StrOps2
import PyProof.ListMulRoad
import HandS.OwnEq
import PyProof.NeKinds
import OpenK.KMeth
import KE.KRevSl
import KE.LtSeq
import KE.LtData
import KE.KNestM
import HandS.EndTab
import HandS.HeadWalk
import HandS.Head2
import HandS.Head3
import HandS.HeadHook3
import HandS.HeadHook4
import PySem.Challenge.RW_rowcounts_k02_bags_made_and_asked
set_option Elab.async false
set_option linter.all false
set_option maxRecDepth 100000
set_option maxHeartbeats 4000000
namespace JP
open PySem PySem.Spec PyProof.Rows L2
/-- a promise that is kept wherever no guard is on the stack -/
structure GOk (P : Program) (w : World) (K : PySem.W.Frag) (mg : Str → Option Value) (base : Heap) (k : Nat) (f : Addr) (fd : FuncData) (ps : List Str) (sp : Sp) : Prop where
  arity : ∀ vs H Q E, sp vs H Q E → vs.length = ps.length
  kept : ∀ (A : Around) (outer : List Env) (s : Shared) (H : Hp) (args : Args) (us : List Value) (vs : List V) (Q : VK) (E : XK), A.guards = some [] → Room k A →
    Env0 P w K mg base A outer s H → BindsTo s fd args (ps.zip us) → Vals vs us → sp vs H Q E → codeAny (model P w) A (.call (.ref f) args) (CR CX0 outer P w H s Q E) s
section
variable {P : Program} {w : World} {K : PySem.W.Frag} {mg : Str → Option Value} {base : Heap} {j k : Nat} {f : Addr} {fd : FuncData} {ps N : List Str} {sp : Sp}
theorem GOk.mono (F : GOk P w K mg base j f fd ps sp) (h : j ≤ k) : GOk P w K mg base k f fd ps sp :=
  ⟨F.arity, fun A outer s H args us vs Q E g hr e0 hb hv hs => F.kept A outer s H args us vs Q E g (hr.mono h) e0 hb hv hs⟩
/-- a def of the text by its body; g: no guard around the body -/
theorem gok {x qual : Str} {st : Stmt} (F : Fun K x qual st f fd) (S : FnScope N ps (defScope st)) (len : ∀ vs H Q E, sp vs H Q E → vs.length = ps.length)
    (body : ∀ (cdv : Value) (A : Around) (outer : List Env) (s : Shared) (H : Hp) (vs : List V) (Q : VK) (E : XK), A.guards = some [] →
      Room k (A.deeper (envOfC qual (defScope st) s.heap.objs.size f cdv)) → sp vs H Q E →
      ∃ t, PSs (cxOf CX0 P w K mg base N qual (defScope st) f cdv A outer s H E).nox (defBody st) t ∧ t { nx := fun _ H' => Q .non H', rt := Q } (start N vs) H) :
    GOk P w K mg base (k + 1) f fd ps sp := by
  obtain ⟨oc, od, kV, doc, pm, an, cdv, ct, osl, rfl, lk, hcd⟩ := F.ex
  constructor
  · exact len
  intro A outer s H args us vs Q E g hr e0 hb r hs
  have hl := len vs H Q E hs
  have inK : K.In s.heap := e0.mod.kin.keeps fun b o q => (e0.bs b o q).1
  have nl : s.heap.NoLimit := e0.mod.nolimit.keeps fun b o q => (e0.bs b o q).1
  have kinds : ∀ y ∈ ps.zip us, (defScope st).names.lookup y.1 = some .local ∨ ((defScope st).names.lookup y.1 = some .cell ∧ ((cellsFrom (s.heap.objs.size + 1) (defScope st).names []).lookup y.1).isSome = true) := by
    intro y hy
    obtain ⟨n, v⟩ := y
    cases S.par n (List.of_mem_zip hy).1 with
    | inl q => exact Or.inl q
    | inr q => exact Or.inr (And.intro q (PySem.W.cellsFrom_some _ _ _ (Or.inl q)))
  apply codeAny_call_function hr.depth (inK _ _ lk) rfl S.co S.gen rfl (PySem.W.codeRec_of inK hcd)
  apply hb
  apply wpAny_newFunctionEnv_cells S.kind kinds
  intro env he s1 x1
  subst he
  refine And.intro (nl.keeps x1.toInCall.keep) (codeAny_func ?_)
  obtain ⟨t, ht, hq⟩ := body cdv A outer s H vs Q E g (hr.deeper _) hs
  have I : Inv (cxOf CX0 P w K mg base N qual (defScope st) f cdv A outer s H E) [] (start N vs) H s1 := inv_start S hr.hd e0 hl r x1
  apply wpAny_mono (ht.nox.run [] s1 (start N vs) H _ I hq)
  · intro fl s' q
    match fl, q with
    | .ret u, ⟨v, _, H', J, rv, z⟩ => exact ⟨v, H', J.os, J.bare, J.base, J.hok, rv, z⟩
    | .next, ⟨_, H', J, z⟩ => exact ⟨.non, H', J.os, J.bare, J.base, J.hok, rfl, z⟩
    | .brk, ⟨_, _, _, z⟩ => exact z.elim
    | .cont, ⟨_, _, _, z⟩ => exact z.elim
  · exact fun _ _ q => q
end
end JP
namespace JP
open PySem PySem.Spec PySem.W PySem.Calls PyProof.Rows L2
/-- the abstract heap at the law's call: the script at most -/
def scriptHp (K : PySem.W.Frag) (a : Addr) (o : Obj) (xs : List V) : Hp := fun b => if b = a ∧ K.lookup a = none then some (.frz o (.lst xs)) else none
section
variable {P : Program} {w : World} {K : PySem.W.Frag} {a b : Addr} {o : Obj} {xs : List V} {h : Heap}
theorem scriptHp_cases (b : Addr) : scriptHp K a o xs b = none ∨ (b = a ∧ K.lookup a = none ∧ scriptHp K a o xs b = some (.frz o (.lst xs))) := by
  unfold scriptHp
  by_cases c : b = a ∧ K.lookup a = none
  · right
    exact ⟨c.1, c.2, if_pos c⟩
  · left
    exact if_neg c
theorem scriptHp_some {u : HO} (e : scriptHp K a o xs b = some u) : b = a ∧ K.lookup a = none ∧ u = .frz o (.lst xs) := by
  rcases scriptHp_cases (K := K) (a := a) (o := o) (xs := xs) b with n | ⟨h1, h2, h3⟩
  · rw [n] at e
    cases e
  · rw [h3] at e
    exact ⟨h1, h2, (Option.some.inj e).symm⟩
theorem scriptHp_only : Only (scriptHp K a o xs) := fun b => by
  rcases scriptHp_cases (K := K) (a := a) (o := o) (xs := xs) b with n | ⟨_, _, e⟩
  · exact .inl n
  · exact .inr ⟨o, xs, e⟩
end
end JP
namespace JP
open PySem PySem.Spec PyProof.Rows L2
def Pen (H : Hp) (p c : Addr) (m : Nat) : Prop := ∃ (ns : List Int) (n g : Int), H p = some (.lst [.ref c, .int n, .int g]) ∧ H c = some (.lst (ns.map V.int)) ∧ c ≠ p ∧ ns.length ≤ 63 ∧ 0 ≤ n ∧ n ≤ m ∧ 0 ≤ g
/-- all but the pen is as it was -/
def But (p : Addr) (H H' : Hp) : Prop := ∀ b o, b ≠ p → H b = some o → H' b = some o
theorem fmod_lo (x : Int) {y : Int} (h : 1 ≤ y) : 0 ≤ x.fmod y := by
  rw [Int.fmod_eq_emod_of_nonneg x (by omega)]
  exact Int.emod_nonneg x (by omega)
theorem fmod_lt (x : Int) {y : Int} (h : 1 ≤ y) : x.fmod y < y := by
  rw [Int.fmod_eq_emod_of_nonneg x (by omega)]
  exact Int.emod_lt_of_pos x (by omega)
theorem fmod_32 {x C : Int} (h1 : 1 ≤ C) (h2 : C ≤ 2 ^ 32) : x.fmod C < 2 ^ 32 := by
  have := fmod_lt x h1
  omega
theorem fmod_64 {x C : Int} (h1 : 1 ≤ C) (h2 : C ≤ 2 ^ 32) : -(2 ^ 64) < x.fmod C ∧ x.fmod C < 2 ^ 64 := by
  have := fmod_lt x h1
  have := fmod_lo x h1
  omega
theorem mix_bound {x C D E n : Int} {m : Nat} (h1 : 1 ≤ C) (h2 : C ≤ 2 ^ 32) (h3 : 0 ≤ D) (h4 : D ≤ 2 ^ 20) (h5 : 0 ≤ E) (h6 : E ≤ 2 ^ 20) (n0 : 0 ≤ n) (nm : n ≤ m) (hm : m ≤ 2 ^ 20) : (x.fmod C + D * n + E).natAbs < 2 ^ 64 := by
  have a := fmod_lo x h1
  have b := fmod_lt x h1
  have c : D * n ≤ 2 ^ 20 * 2 ^ 20 := Int.mul_le_mul h4 (by omega) n0 (by decide)
  have d : 0 ≤ D * n := Int.mul_nonneg h3 n0
  omega
theorem mix_bound2 {x C D E n : Int} {m : Nat} (h1 : 0 ≤ C) (h2 : C ≤ 2 ^ 20) (h3 : 0 ≤ D) (h4 : D ≤ 2 ^ 20) (h5 : 0 ≤ E) (h6 : E ≤ 2 ^ 20) (x0 : 0 ≤ x) (x1 : x < 2 ^ 32) (n0 : 0 ≤ n) (nm : n ≤ m) (hm : m ≤ 2 ^ 20) : (x * (2 * n + C) + D * n * n + E).natAbs < 2 ^ 64 := by
  have c : D * n ≤ 2 ^ 20 * 2 ^ 20 := Int.mul_le_mul h4 (by omega) n0 (by decide)
  have d : 0 ≤ D * n := Int.mul_nonneg h3 n0
  have c2 : D * n * n ≤ (2 ^ 20 * 2 ^ 20) * 2 ^ 20 := Int.mul_le_mul c (by omega) n0 (by decide)
  have d2 : 0 ≤ D * n * n := Int.mul_nonneg d n0
  have c3 : x * (2 * n + C) ≤ 2 ^ 32 * 2 ^ 22 := Int.mul_le_mul (by omega) (by omega) (by omega) (by decide)
  have d3 : 0 ≤ x * (2 * n + C) := Int.mul_nonneg x0 (by omega)
  omega
theorem but_upd {H : Hp} (p : Addr) (o : HO) : But p H (upd H p o) := fun b u n e => by
  rw [upd_ne n]
  exact e
theorem But.trans {p : Addr} {H H1 H2 : Hp} (a : But p H H1) (b : But p H1 H2) : But p H H2 := fun c o n e => b c o n (a c o n e)
theorem But.of_same {p : Addr} {H H1 : Hp} (a : Same H H1) : But p H H1 := fun c o _ e => a c o e
theorem but_new {H : Hp} {p a : Addr} {o : HO} (h : H a = none) : But p H (upd H a o) := fun b u _ e => by
  rw [upd_ne (ne_of_none e h)]
  exact e
theorem pen_set {H : Hp} {p c : Addr} {ns : List Int} {n g n' g' : Int} {m : Nat} (hp : H p = some (.lst [.ref c, .int n, .int g])) (hc : H c = some (.lst (ns.map V.int))) (ncp : c ≠ p) (hl : ns.length ≤ 63) (h0 : 0 ≤ n') (h1 : n' ≤ m) (h2 : 0 ≤ g') :
    Pen (upd H p (.lst [.ref c, .int n', .int g'])) p c m :=
  ⟨ns, n', g', upd_same, by
    rw [upd_ne ncp]
    exact hc, ncp, hl, h0, h1, h2⟩
theorem dp_ints {K : PySem.W.Frag} {H : Hp} : ∀ ns : List Int, DpAll K H (ns.map V.int) (ns.map PyData.int)
  | [] => .nil
  | n :: ns => .cons (.int n) (dp_ints ns)
theorem Pen.mono {H : Hp} {p c : Addr} {m n : Nat} (h : Pen H p c m) (k : m ≤ n) : Pen H p c n := by
  obtain ⟨ns, x, g, h1, h2, h3, h4, h5, h6, h7⟩ := h
  exact ⟨ns, x, g, h1, h2, h3, h4, h5, by omega, h7⟩
theorem Pen.same {H H' : Hp} {p c : Addr} {m : Nat} (h : Pen H p c m) (k : Same H H') : Pen H' p c m := by
  obtain ⟨ns, x, g, h1, h2, h3⟩ := h
  exact ⟨ns, x, g, k _ _ h1, k _ _ h2, h3⟩
theorem Pen.at_ {H : Hp} {p c : Addr} {m : Nat} (h : Pen H p c m) : ∃ xs, H p = some (.lst xs) := by
  obtain ⟨ns, x, g, h1, _⟩ := h
  exact ⟨_, h1⟩
theorem same_new {H : Hp} {a : Addr} {o : HO} (h : H a = none) : Same H (upd H a o) := fun b u e => by
  rw [upd_ne (ne_of_none e h)]
  exact e
theorem same_seqT {K : PySem.W.Frag} {a : Addr} {H H' : Hp} {xs : List V} (e : Same H H') (h : SqT K H a xs) : SqT K H' a xs := by
  rcases h with (h | ⟨o, h⟩) | h
  · exact .inl (.inl (e _ _ h))
  · exact .inl (.inr ⟨o, e _ _ h⟩)
  · exact .inr h
theorem But.refl (p : Addr) (H : Hp) : But p H H := fun _ _ _ e => e
theorem cut_all (xs : List V) {n : Nat} (h : xs.length ≤ n) : cutV xs none (some (n : Int)) = xs := by
  unfold cutV
  rw [show HT.sIx xs.length xs.length (some (n : Int)) = min n xs.length from HT.sIx_nat xs.length xs.length n, HT.sIx_none, Nat.min_eq_right h]
  simp
end JP
namespace JP
open PySem PySem.Spec PyProof.Rows L2
inductive Ki where
  | non | bl | int | str | lst | tup | dct
  deriving DecidableEq
def Ki.name : Ki → String
  | .non => "NoneType" | .bl => "bool" | .int => "int" | .str => "str" | .lst => "list" | .tup => "tuple" | .dct => "dict"
/-- x is of kind k in H -/
def IsKi (H : Hp) (x : V) : Ki → Prop
  | .non => x = .non
  | .bl => ∃ b, x = .bl b
  | .int => ∃ i, x = .int i
  | .str => ∃ s, x = .str s
  | .lst => ∃ a xs, x = .ref a ∧ H a = some (.lst xs)
  | .tup => ∃ a xs, x = .ref a ∧ H a = some (.tup xs)
  | .dct => ∃ a kvs, x = .ref a ∧ H a = some (.dK kvs)
theorem IsKi.ty {K : PySem.W.Frag} {H : Hp} {x : V} : ∀ {k : Ki}, IsKi H x k → TyX K H x (.type k.name)
  | .non, h => by
    cases h
    exact .base .non
  | .bl, h => by
    obtain ⟨b, rfl⟩ := h
    exact .base (.bl b)
  | .int, h => by
    obtain ⟨b, rfl⟩ := h
    exact .base (.int b)
  | .str, h => by
    obtain ⟨b, rfl⟩ := h
    exact .base (.str b)
  | .lst, h => by
    obtain ⟨a, xs, rfl, e⟩ := h
    exact .base (.lst e)
  | .tup, h => by
    obtain ⟨a, xs, rfl, e⟩ := h
    exact .base (.tup e)
  | .dct, h => by
    obtain ⟨a, xs, rfl, e⟩ := h
    exact .base (.dK e)
def Ki.below : Ki → Ki → Bool
  | .bl, .int => true
  | a, b => decide (a = b)
theorem ki_kit {K : PySem.W.Frag} : ∀ a b : Ki, PySem.W.kitOne K (.type a.name) (.type b.name) = some (a.below b) := by
  intro a b
  apply kit_ty
  cases a <;> cases b <;> decide +kernel
theorem IsKi.same {H H' : Hp} (s : Same H H') {x : V} : ∀ {k : Ki}, IsKi H x k → IsKi H' x k
  | .non, h => h
  | .bl, h => h
  | .int, h => h
  | .str, h => h
  | .lst, ⟨a, xs, e, h⟩ => ⟨a, xs, e, s _ _ h⟩
  | .tup, ⟨a, xs, e, h⟩ => ⟨a, xs, e, s _ _ h⟩
  | .dct, ⟨a, xs, e, h⟩ => ⟨a, xs, e, s _ _ h⟩
end JP
namespace JP
open PySem PySem.Spec PyProof.Rows L2
open AutoSeq1 (wpAny_loadPart')
section
variable {X : Cx}
/-- t + u, any tuples -/
def rCat2 : R2 := fun x y H Q => ∃ a b xs ys, x = .ref a ∧ y = .ref b ∧ H a = some (.tup xs) ∧ H b = some (.tup ys) ∧ xs.length + ys.length ≤ sizeLine ∧
  ∀ p H', Same H H' → H' p = some (.tup (xs ++ ys)) → Q (.ref p) H'
theorem op_cat2 : OpR X (binaryOp .Add) rCat2 := by
  intro pins s σ H x y v u Q I rx ry h
  obtain ⟨a, b, xs, ys, rfl, rfl, ha, hb, hz, q⟩ := h
  cases rx
  cases ry
  by_cases hx : xs = []
  · subst hx
    obtain ⟨its, r1, p1, _⟩ := I.tuple (SqT.of ha)
    obtain ⟨its2, r2, p2, _⟩ := I.tuple (SqT.of hb)
    cases r1
    obtain ⟨⟨cls, dd, data, sl⟩, ho, hc, n, hd⟩ := id p1
    obtain ⟨⟨cls2, dd2, data2, sl2⟩, ho2, hc2, n2, hd2⟩ := id p2
    simp only at hc hd hc2 hd2
    subst hc hd hc2 hd2
    exact concat_meets ⟨_, ho, rfl⟩ ⟨_, ho2, rfl⟩ noFill_tuple_add seq_tuple_add PySem.F.slot_tuple_add PySem.F.entry_tuple_add (PySem.F.args_tuple_add_2 _ _)
      (tuple_addW0 a b _ _ n n2 dd dd2 sl sl2 (by rfl)) ⟨ho, ho2, ⟨.ref b, H, I.tok _, rfl, q b H (.refl H) (by rw [List.nil_append]; exact hb)⟩⟩
  · refine op_catT pins s σ H (.ref a) (.ref b) _ _ Q I rfl rfl ⟨a, b, xs, ys, rfl, rfl, .of ha, .of hb, hx, hz, fun e => ?_, fun _ p hp => ?_⟩
    · subst e
      exact q a H (.refl H) (by rw [List.append_nil]; exact ha)
    · exact q p _ (same_new hp) upd_same
/-- t[lo:hi] of any tuple: its items, in a new tuple or (the whole) in the same one -/
def rSl2 : V → Option Int → Option Int → Hp → VK → Prop := fun x lo hi H Q => ∃ a xs, x = .ref a ∧ H a = some (.tup xs) ∧ ∀ p H', Same H H' → H' p = some (.tup (cutV xs lo hi)) → Q (.ref p) H'
theorem getItem_tuple_whole {prog : Program} {w : World} {A : Around} {E : Value → Shared → Prop} {s : Shared} {t sl : Addr} {items : Array Value} {vl vu : Value} {lo hi : Option Int} {Q : Value → Shared → Prop} (ht : IsTup s.heap t items) (hs : s.heap.IsSliceOf sl vl vu .none) (pl : IsPart vl lo) (pu : IsPart vu hi)
    (hw : HT.sIx items.size 0 lo = 0 ∧ HT.sIx items.size items.size hi = items.size)
    (h : Q (.ref t) s) : wpAny (model prog w) A (getItem (.ref t) (.ref sl)) Q E s := by
  obtain ⟨⟨cls, dd, data, slo⟩, ho, hc, n, hd⟩ := id ht
  simp only at hc hd
  subst hc hd
  obtain ⟨os, hos, hcs, hds⟩ := id hs
  have hTs : s.TypeIs (.ref sl) "slice" := ⟨os, hos, hcs⟩
  unfold getItem
  try with_reducible refine wpAny_holding ?_
  first | refine wpAny_bind (wpAny_pure ?_) | skip
  refine wpAny_bind (wpAny_sequenceKey ht.typeIs (by decide) ?_)
  refine wpAny_bind (wpAny_callSpecial?_slot (name := Str.ofString "__getitem__") ht.typeIs PyProof.Rows.slot_tuple_getitem
    (wpAny_call_entry PyProof.Rows.slot_tuple_getitem ht.typeIs entry_tuple_getitem ?_ (args_tuple_getitem _ _)))
  show wpAny _ _ (Builtin.Tuple.tupleItemsOf (.ref t) >>= _) _ _ s
  refine wpAny_bind (tupleItemsOf_ ht ?_)
  refine wpAny_bind (wpAny_typeOf hTs ?_)
  rw [if_pos (by decide)]
  refine wpAny_bind (HT.sliceApplied_gen hs pl pu ?_)
  have hyes : (((HT.sIx items.size 0 lo : Nat) : Int) == 0 && (1 : Int) == 1 && (HT.sIx items.size items.size hi - HT.sIx items.size 0 lo) == items.size) = true := by
    rw [hw.1, hw.2]
    simp
  show wpAny _ _ (if (((HT.sIx items.size 0 lo : Nat) : Int) == 0 && (1 : Int) == 1 && (HT.sIx items.size items.size hi - HT.sIx items.size 0 lo) == items.size) = true then _ else _) _ _ s
  rw [if_pos hyes]
  wp_walk using wpAny_loadPart' ho
  exact ⟨_, rfl, wpAny_pure h⟩
theorem sl_tup2 : SlR X rSl2 := by
  intro pins s σ H x v vl vu lo hi sl Q I rx hs pl pu h
  obtain ⟨a, xs, rfl, hx, q⟩ := h
  by_cases hw : HT.sIx xs.length 0 lo = 0 ∧ HT.sIx xs.length xs.length hi = xs.length
  · cases rx
    obtain ⟨its, r, ht, hz⟩ := I.tuple (SqT.of hx)
    have hlen : its.toArray.size = xs.length := by rw [List.size_toArray]; exact r.length.symm
    refine ⟨"tuple", _, PyProof.Rows.slot_tuple_getitem.lookup, ht.typeIs, ?_⟩
    refine getItem_tuple_whole ht hs pl pu (by rw [hlen]; exact hw) ⟨.ref a, H, I, rfl, q a H (.refl H) ?_⟩
    have e : cutV xs lo hi = xs := by
      unfold cutV
      rw [hw.1, hw.2]
      simp
    rw [e]
    exact hx
  · exact sl_tup pins s σ H (.ref a) v vl vu lo hi sl Q I rx hs pl pu ⟨a, xs, rfl, .of hx, hw, fun p hp => q p _ (same_new hp) upd_same⟩
/-- t * k, k from 1 on -/
def rRep2 : R2 := fun x y H Q => ∃ l k xs, x = .ref l ∧ y = .int k ∧ H l = some (.tup xs) ∧ xs ≠ [] ∧ 1 ≤ k ∧ k ≤ 1000 ∧ xs.length ≤ 1000 ∧ ∀ p H', Same H H' → H' p = some (.tup (List.replicate k.toNat xs).flatten) → Q (.ref p) H'
theorem tuple_mulW1 (l : Addr) (items : Array Value) (n : Nat) (dd : Option Addr) (sl : Array (Option Value)) (u : Tok) :
    Meets (Builtin.«tuple.__mul__» ⟨[.ref l, .int 1 u], []⟩) (fun _ R s => s.heap.get? l = some { cls := .type "tuple", dict := dd, data := .seq items n, slots := sl } ∧
      R (.ok (.ret (Value.ref l))) { s with heap := s.heap, toks := s.toks }) :=
  .of_wp fun prog w A R s h => by
    obtain ⟨hp, g, d, tk, os⟩ := s
    obtain ⟨hl, h⟩ := h
    have f1 := AutoSeq1.idx_int
    have c1 : (items.isEmpty || (1 : Int) == 1) = true := by simp
    have c0 : (decide ((1 : Int) < -(2 ^ 63)) || decide ((1 : Int) ≥ 2 ^ 63)) = false := by decide
    wp_walk using wpAny_loadPart' hl
    repeat (first
      | (refine wpAny_ite_false (decide_eq_false (by rw [c0]; exact Bool.false_ne_true)) ?_; wp_walk using wpAny_loadPart' hl)
      | (refine wpAny_ite_true (decide_eq_true c1) ?_; wp_walk using wpAny_loadPart' hl))
    all_goals first | exact ⟨_, rfl, h⟩ | skip
theorem op_rep2 : OpR X (binaryOp .Mult) rRep2 := by
  intro pins s σ H x y v u Q I rx ry h
  obtain ⟨l, k, xs, rfl, rfl, hT, hne, h1, h2, hz, q⟩ := h
  by_cases hk : k = 1
  · subst hk
    cases rx
    obtain ⟨t, rfl⟩ := ry
    obtain ⟨its, r, ⟨⟨cls, dd, data, sl⟩, ho, hc, n, hd⟩, hs⟩ := I.tuple (SqT.of hT)
    simp only at hc hd
    subst hc hd
    refine wpAny_binaryOp_repeat_ref (T := "tuple") (U := "int") (by decide) ⟨_, ho, rfl⟩ (fun s' => typeIs_int s' 1 t) noFill_tuple_mul F.fills_int_mul F.slot_int_rmul repeat_tuple F.slot_int_index.lookup
      (call_meets F.slot_int_rmul (typeIs_int s 1 t) F.entry_int_rmul (F.args_int_rmul_2 _ _) (int_rmul_tuple 1 t l its.toArray n dd sl)
        ⟨ho, rfl, ⟨_, ho, rfl⟩, call_meets F.slot_tuple_mul ⟨_, ho, rfl⟩ F.entry_tuple_mul (F.args_tuple_mul_2 _ _) (tuple_mulW1 l its.toArray n dd sl t) ⟨ho, ?_⟩⟩)
    refine ⟨.ref l, H, I.tok _, rfl, q l H (.refl H) ?_⟩
    simpa using hT
  · exact op_repT pins s σ H (.ref l) (.int k) v u Q I rx ry ⟨l, k, xs, rfl, rfl, .of hT, hne, by omega, h2, hz, fun p hp => q p _ (same_new hp) upd_same⟩
end
theorem enumT_end {prog : Program} {w : World} {A : Around} {E : Value → Shared → Prop} {s : Shared} {e it l : Addr} {i : Int} {n : Nat} {items : Array Value} {old : Value} {Q : Option Value → Shared → Prop} (hh : A.handled = none)
    (he : IsEnum s.heap e it i old) (hit : s.heap.IsTupleIter it l n) (hl : s.heap.IsTuple l items) (hx : items[n]? = none)
    (hQ : ∀ h', Heap.ExtBut it s.heap h' → Q none { s with heap := h' }) : wpAny (model prog w) A (pyNext (.ref e)) Q E s := by
  have hT : s.TypeIs (.ref e) "enumerate" := ⟨_, he, rfl⟩
  unfold pyNext
  refine wpAny_bind (wpAny_attempt (wpAny_callSpecial?_slot (name := Str.ofString "__next__") hT F.slot_enumerate_next
    (wpAny_call_entry F.slot_enumerate_next hT F.entry_enumerate_next ?_ (F.args_enumerate_next_1 _))))
  show wpAny _ _ (field (.ref e) 2 >>= _) _ _ _
  refine wpAny_bind (wpAny_field he rfl (x := .ref it) rfl ?_)
  refine wpAny_bind (wpAny_nextOf_tuple_end hh hit hl hx fun h' x he' hx' => ?_)
  obtain ⟨o, ho, hc⟩ := hx'
  refine wpAny_bind (wpAny_isInstance (T := "StopIteration") (b := true) ⟨o, ho, hc⟩ isSubtype_stop ?_)
  exact wpAny_pure (hQ _ he')
/-- the tuple at a as it stands at each turn, each item in a new pair -/
def IteT (K : PySem.W.Frag) (a : Addr) : It :=
  ⟨fun i H => ∃ (xs : List V) (x : V), SqT K H a xs ∧ xs[i]? = some x, fun i H v H' => ∃ T x, v = .ref T ∧ H T = none ∧ H' = upd H T (.tup [.int (i : Nat), x]) ∧ ∀ xs, SqT K H a xs → xs[i]? = some x, fun i H => ∃ xs : List V, SqT K H a xs ∧ xs.length ≤ i⟩
set_option maxHeartbeats 1000000 in
theorem meets_enumerate_newT {l : Addr} {items : Array Value} :
    Meets (Builtin.«enumerate.__new__» ⟨[.type "enumerate", .ref l], []⟩) (fun _ R s => s.heap.IsTuple l items ∧
      R (.ok (.ret (.ref (s.heap.push { cls := .type "tuple_iterator", data := .fields #[.ref l, .int 0 0] }).objs.size))) { s with heap := (s.heap.push { cls := .type "tuple_iterator", data := .fields #[.ref l, .int 0 0] }).push { cls := .type "enumerate", data := .fields #[.none, .bool false, .ref s.heap.objs.size, rawInt 0, .none, .none] } }) :=
  .of_wp fun prog w A R s h => by
    obtain ⟨hp, g, d, tk, os⟩ := s; obtain ⟨hL, h⟩ := h
    have hsub := sub_enumerate
    replace hL : Heap.IsTuple (Shared.heap ⟨hp, g, d, tk, os⟩) l items := hL
    wp_walk using wpAny_pyIter_tuple hL
    refine wpAny_stack_any fun st => wpAny_pure ?_
    split
    · rename_i c _ _ _ _ _
      cases (c == Value.type "enumerate")
      · wp_walk using wpAny_pyIter_tuple hL
        exact ⟨_, rfl, h⟩
      · wp_walk using wpAny_pyIter_tuple hL
        exact ⟨_, rfl, h⟩
    · wp_walk using wpAny_pyIter_tuple hL
      exact ⟨_, rfl, h⟩
theorem call_enumerate_tup {prog : Program} {w : World} {A : Around} {E : Value → Shared → Prop} {s : Shared} {l : Addr} {items : Array Value} {Q : Value → Shared → Prop} (hL : s.heap.IsTuple l items)
    (h : ∀ h', IsEnum h' (s.heap.objs.size + 1) s.heap.objs.size 0 .none → h'.IsTupleIter s.heap.objs.size l 0 → h'.objs.size = s.heap.objs.size + 2 →
      (∀ b o, s.heap.get? b = some o → h'.get? b = some o) → Q (.ref (s.heap.objs.size + 1)) { s with heap := h' }) :
    wpAny (model prog w) A (call (.type "enumerate") [.ref l]) Q E s := by
  refine callType_new F.called_enumerate (by decide) (F.typeCall_enumerate_1 _) (F.newCall_enumerate_1 _) (fun obj => F.args_object_init_2 obj _) F.entry_enumerate_new
    meets_enumerate_newT ⟨hL, ?_⟩
  have hz : (s.heap.push { cls := .type "tuple_iterator", data := .fields #[.ref l, .int 0 0] }).objs.size = s.heap.objs.size + 1 := Heap.size_push ..
  show _ ∧ _
  rw [hz]
  have he : IsEnum ((s.heap.push { cls := .type "tuple_iterator", data := .fields #[.ref l, .int 0 0] }).push
      { cls := .type "enumerate", data := .fields #[.none, .bool false, .ref s.heap.objs.size, rawInt 0, .none, .none] }) (s.heap.objs.size + 1) s.heap.objs.size 0 .none := by
    have := Heap.get?_push_size (s.heap.push { cls := .type "tuple_iterator", data := .fields #[.ref l, .int 0 0] })
      (o := { cls := .type "enumerate", data := .fields #[.none, .bool false, .ref s.heap.objs.size, rawInt 0, .none, .none] }) rfl
    rw [hz] at this; exact this
  refine ⟨⟨_, he, rfl⟩, h _ he ⟨_, Heap.get?_push_of_some _ (Heap.get?_push_size _ rfl), rfl, rfl⟩ (by rw [Heap.size_push, hz]) fun b o x => Heap.get?_push_of_some _ (Heap.get?_push_of_some _ x)⟩
theorem turn_enumT {P : Program} {w : World} {K : PySem.W.Frag} {elts : List Expr} {kk : Nat} {tpos : Pos} (a e it : Addr) (hai : a ≠ it) :
    Turn P w K (.Tuple elts kk tpos) (IteT K a) [e, it] e (fun i h => (∃ old, IsEnum h e it ((i : Nat) : Int) old) ∧ h.IsTupleIter it a i ∧ e ≠ it ∧ e ≠ a) where
  mem := by simp
  obj := fun i h st b hb => by
    obtain ⟨⟨old, he⟩, ⟨o, ho, hc, hd⟩, _⟩ := st
    have e' : b = e ∨ b = it := by simpa using hb
    rcases e' with z | z
    · rw [z]; exact ⟨_, he, fun v q => nomatch q⟩
    · rw [z]; exact ⟨o, ho, fun v q => by rw [hd] at q; cases q⟩
  keep := fun i h h' st k => let ⟨⟨old, he⟩, hi, hne⟩ := st; ⟨⟨old, k e (by simp) _ he⟩, hi.at fun o q => k it (by simp) o q, hne⟩
  item := by
    intro X hP hw hK hc i pins s σ H E I hf st hg
    subst hP hw hK
    obtain ⟨⟨old, he⟩, hit, hne, hnea⟩ := st
    obtain ⟨xs, x, hq, hx⟩ := hg
    obtain ⟨its, rv, p, hz⟩ := I.tuple hq
    obtain ⟨u, hu, ru⟩ := rv.get hx
    have hi : i < its.toArray.size := by
      rw [List.size_toArray]
      exact (List.getElem?_eq_some_iff.mp hu).1
    have hel : e < s.heap.objs.size := Heap.lt_size he
    have hil : it < s.heap.objs.size := by obtain ⟨_, q, _⟩ := hit; exact Heap.lt_size q
    refine wpAny_pyNext_enum_itemD (Draws.tuple (A := X.A.in1) (show X.A.in1.handled = none from I.ok.hd hc) it a hai its.toArray) he ⟨hit, p⟩ hi hne (by simp [hne, hnea]) fun u' h' tk hP ho hit' hT hsz hk => ?_
    have eu : u' = u := by
      have : its.toArray[i]? = some u := by simpa using hu
      rw [this] at hP
      exact (Option.some.inj hP).symm
    subst eu
    refine ⟨_, rfl, wpAny_letOwnedTupleGo_enum (s := { s with heap := h', toks := tk + 1 }) ho fun h'' he' sb => ?_⟩
    have hT2 : h''.get? s.heap.objs.size = some { cls := .type "tuple", data := .seq #[.int i tk, u'] } := (sb.2 _ (Nat.ne_of_gt hel)).trans hT
    have new : ObjOk X.prog X.w (upd H s.heap.objs.size (.tup [.int (i : Nat), x])) h'' s.heap.objs.size (.tup [.int (i : Nat), x]) :=
      ⟨by show 2 ≤ sizeLine; decide, [.int i tk, u'], .cons ⟨_, rfl⟩ (.cons ru .nil), ⟨_, hT2, rfl, _, rfl⟩⟩
    have I1 : Inv X pins σ (upd H s.heap.objs.size (.tup [.int (i : Nat), x])) { s with heap := h'', toks := tk + 1 } :=
      I.turnedNew (ch := [e, it]) (fun b ob hb q => (sb.2 b (fun z => hb (by simp [z]))).trans (hk b ob (fun z => hb (by simp [z])) (fun z => hb (by simp [z])) q)) hf (Nat.le_refl _) new
    refine ⟨.ref s.heap.objs.size, _, I1, rfl, ⟨_, x, rfl, I.hok.fresh (Nat.le_refl _), rfl, fun ys hy => by rw [I.tuple_inj hy hq]; exact hx⟩, ⟨⟨u', ?_⟩, hit'.1.at fun o q => (sb.2 it (Ne.symm hne)).trans q, hne, hnea⟩, fun b hb => ?_⟩
    · have e1 : ((i + 1 : Nat) : Int) = (i : Int) + 1 := by omega
      rw [e1]; exact he'
    · have hb' : b < s.heap.objs.size := by
        have e' : b = e ∨ b = it := by simpa using hb
        rcases e' with z | z
        · rw [z]; exact hel
        · rw [z]; exact hil
      rw [upd_ne (Nat.ne_of_lt hb')]
      exact (hf b hb).1
  done := by
    intro X hP hw hK hc i pins s σ H E I hf st hg
    subst hP hw hK
    obtain ⟨⟨old, he⟩, hit, hne, hnea⟩ := st
    obtain ⟨xs, hq, hx⟩ := hg
    obtain ⟨its, rv, p, hz⟩ := I.tuple hq
    obtain ⟨f0, f1, f2, f3, f4, f5⟩ := hf it (by simp)
    have hl := rv.length
    have hend : its.toArray[i]? = none := by simp; omega
    refine enumT_end (I.ok.hd hc) he hit p hend fun h' eb => ⟨rfl, I.turned (t' := s.toks) (fun b o hb q => eb b o hb q) f0 f1 f3 f4 f5⟩
  self := fun A i s Q E st h => let ⟨⟨_, he⟩, _⟩ := st; wpAny_pyIter_enum he h
def iEnumT (K : PySem.W.Frag) (ta : TA) : TI := fun σ H R => ta σ H fun vs H1 => ∃ a xs, vs = [.ref a] ∧ SqT K H1 a xs ∧ R (IteT K a) H1
theorem pi_enumT {X : Cx} {e : Expr} {ta : TA} {p pos tpos : Pos} {elts : List Expr} {kk : Nat} (hg : Gl X "enumerate") (hm : X.mg "enumerate" = none) (ha : PA X [e] ta) (hs : starEach [e] X.env = [(false, eval e X.env)] := by rfl) :
    PI X (.Tuple elts kk tpos) (.Call (.Name "enumerate" p) [e] [] pos) (iEnumT X.K ta) := by
  refine ⟨fun pins s σ H R I h => ?_⟩
  refine Call_ (ld_blt I hg hm boot_enumerate (PyProof.Rows.callWith_type1 (thn (ha.run pos pins s σ H _ I h) fun us s1 ⟨vs, H1, I1, r1, q1⟩ => ?_) hs rfl))
  obtain ⟨a, xs, ex, hq, q⟩ := q1
  subst ex
  cases r1 with
  | cons r rr =>
    cases rr
    cases r
    obtain ⟨its, rv, p', hz⟩ := I1.tuple hq
    have la : a < s1.heap.objs.size := p'.lt
    refine call_enumerate_tup p' fun h' he hit hsz hk => wpAny_pyIter_enum he ?_
    have I2 : Inv X pins σ H1 { s1 with heap := h' } := I1.kept (t' := s1.toks) hk
    refine ⟨s1.heap.objs.size + 1, [s1.heap.objs.size + 1, s1.heap.objs.size], _, _, H1, rfl, I2, turn_enumT a (s1.heap.objs.size + 1) s1.heap.objs.size (Nat.ne_of_lt la), ⟨⟨.none, he⟩, hit, Nat.succ_ne_self _, fun z => Nat.lt_irrefl a (Nat.lt_trans la (z ▸ Nat.lt_succ_self _))⟩, fun b hb => ?_, q⟩
    have e' : b = s1.heap.objs.size + 1 ∨ b = s1.heap.objs.size := by simpa using hb
    have hle : s1.heap.objs.size ≤ b := by
      rcases e' with z | z
      · rw [z]; exact Nat.le_add_right _ _
      · rw [z]; exact Nat.le_refl _
    exact I1.fpOk hle (I1.hok.fresh hle)
end JP
namespace JP
open PySem PySem.Spec PyProof.Rows L2
/-- the list of a comprehension at D: what is made so far, and P of the turn, of it, of the heap -/
def AccP (D : Addr) (P : Nat → List V → Hp → Prop) (i : Nat) (H : Hp) : Prop := ∃ acc, H D = some (.lst acc) ∧ acc.length ≤ i ∧ P i acc H
theorem AccP.put {D : Addr} {P : Nat → List V → Hp → Prop} {H : Hp} {i : Nat} {acc : List V} {y : V} (hn : i < sizeLine) (e : H D = some (.lst acc)) (l : acc.length ≤ i) (p : P (i + 1) (acc ++ [y]) (upd H D (.lst (acc ++ [y])))) :
    ∃ acc, H D = some (.lst acc) ∧ acc.length < sizeLine ∧ AccP D P (i + 1) (upd H D (.lst (acc ++ [y]))) :=
  ⟨acc, e, by omega, acc ++ [y], upd_same, by simp; omega, p⟩
theorem small_size {n : Nat} (h : n ≤ 1000) : n < sizeLine := by
  rw [sizeLine_eq]
  omega
theorem ixT {X : Cx} {K : PySem.W.Frag} (h : X.K = K) : IxR X (rIxT K) := h ▸ ix_tup
theorem ixL {X : Cx} {K : PySem.W.Frag} (h : X.K = K) : IxR X (rIxL K) := h ▸ ix_list
theorem But.tup {p c a : Addr} {m : Nat} {H H' : Hp} {xs : List V} (b : But p H H') (hP : Pen H p c m) (h : H a = some (.tup xs)) : H' a = some (.tup xs) := by
  obtain ⟨ys, e⟩ := hP.at_
  exact b a _ (ne_of h e (by intro z; cases z)) h
end JP
namespace JP
open PySem PySem.Spec PyProof.Rows L2
/-- the arguments in the parameters' order, told by their places among all arguments -/
def gPerm {α : Type} (np nk : Nat) (ix : List Nat) (us ws : List α) : List α := if us.length = np ∧ ws.length = nk then ix.filterMap (fun i => (us ++ ws)[i]?) else []
theorem gPerm_len {α : Type} {np nk n : Nat} {ix : List Nat} {us ws : List α} (h : (gPerm np nk ix us ws).length = n) (h0 : 0 < n) : us.length = np ∧ ws.length = nk := by
  unfold gPerm at h
  split at h
  · assumption
  · simp at h
    omega
theorem gPerm_rel {np nk : Nat} {ix : List Nat} {vs zs : List V} {us ws : List Value} (r : Vals vs us) (q : Vals zs ws) : Vals (gPerm np nk ix vs zs) (gPerm np nk ix us ws) := by
  unfold gPerm
  rw [r.length, q.length]
  split
  · have a := Vals.append r q
    clear r q
    generalize vs ++ zs = xs at a
    generalize us ++ ws = ys at a
    induction ix with
    | nil => exact .nil
    | cons i ix ih =>
      rw [List.filterMap_cons, List.filterMap_cons]
      cases e : xs[i]? with
      | none => rw [a.none_of e]; exact ih
      | some x =>
        obtain ⟨u, hu, ru⟩ := a.get e
        rw [hu]
        exact .cons ru ih
  · exact .nil
theorem same_seqL' {K : PySem.W.Frag} {a : Addr} {H H' : Hp} {xs : List V} (e : Same H H') (h : SqL K H a xs) : SqL K H' a xs := by
  rcases h with (h | ⟨o, h⟩) | h
  · exact .inl (.inl (e _ _ h))
  · exact .inl (.inr ⟨o, e _ _ h⟩)
  · exact .inr h
end JP
namespace JP
open PySem PySem.Spec PyProof.Rows L2
/-- at a: an exception of the class cls, its dict d -/
def xo (a : Addr) (cls : Value) (d : Option Addr) : HO := .ext fun h => ∃ oe, h.get? a = some oe ∧ Zc cls d oe ∧ ∃ vs, oe.data = .fields vs
end JP
namespace JP
open PySem PySem.Spec PyProof.Rows L2
/-- an exception of the class at C, held at a, with the fields fs -/
def Held (H : Hp) (a C : Addr) (fs : List (Str × V)) : Prop := (∃ d, H a = some (xo a (.ref C) (some d)) ∧ H d = some (.xd fs)) ∨ (fs = [] ∧ H a = some (xo a (.ref C) none))
section
variable {X : Cx} {CX : CXT} {k : Nat} {C g : Addr} {fd : FuncData} {ps : List Str} {sp : Sp} {E : XK}
/-- C's own m stands at g -/
structure OwnM (K : PySem.W.Frag) (C : Addr) (m : Str) (g : Addr) : Prop where
  at_ : PySem.W.findIn K (.ref C) m = some (some (.ref g))
  fn : PySem.W.isFn K (.ref g) = true
theorem ins_inst {pins : List (Addr × Obj)} {σ : L2.St} {H : Hp} {s : Shared} {a dx : Addr} {fs : List (Str × V)} (I : Inv X pins σ H s) (h : H a = some (.ins C dx fs)) : ∃ ox od, PySem.W.InstAt s.heap a ox C od := by
  obtain ⟨mA, O, _⟩ := ins_get I.hok h
  obtain ⟨od, J, _⟩ := O.look
  exact ⟨_, _, J⟩
theorem call_at {A : Around} {pins : List (Addr × Obj)} {σ : L2.St} {H : Hp} {s : Shared} {us : List Value} {vs : List V} {Q : VK} (F : FnOk X.prog X.w X.K X.mg X.base CX k g fd ps sp) (hb : Binds X.K fd ps []) (hr : Room k A) (hx : Passes CX X E) (I : Inv X pins σ H s) (e0 : Env0 X.prog X.w X.K X.mg X.base A X.stack s H) (r : Vals vs us) (h : sp vs H Q E) :
    wpAny (model X.prog X.w) A (call (.ref g) us) (EP X pins σ Q) X.xe s := by
  have n : us.length = ps.length := r.length.symm.trans (F.len _ _ _ _ h)
  refine wpAny_call (codeAny_mono (F.run A X.stack s H ⟨us, []⟩ us vs Q E hr e0 (by
    have := hb s us I.kIn (by rw [List.append_nil]; exact n)
    rw [List.append_nil] at this
    exact this) r h) fun r s' hq => ?_)
  cases r with
  | error e => exact hx pins σ H s e s' I hq
  | ok fl =>
    cases fl with
    | ret u => exact I.after hq
    | next => exact False.elim hq
    | brk => exact False.elim hq
    | cont => exact False.elim hq
/-- what stands on the right of a comparison: of a class that is not below C -/
structure RightOf (K : PySem.W.Frag) (H : Hp) (C : Addr) (y : V) : Prop where
  ty : ∃ t, TyX K H y t ∧ PySem.W.notFirst K C t = true
/-- x == y, x != y -/
def rEqO (C : Addr) (sp : Sp) (E : XK) (K : PySem.W.Frag) (neg : Bool) : R2 := fun x y H Q => ∃ a dx fs, x = .ref a ∧ H a = some (.ins C dx fs) ∧ RightOf K H C y ∧ sp [.ref a, y] H (fun z H' => ∃ b, z = .bl b ∧ Q (.bl (if neg then !b else b)) H') E
theorem op_eqO (M : OwnM X.K C "__eq__" g) (F : FnOk X.prog X.w X.K X.mg X.base CX k g fd ps sp) (hb : Binds X.K fd ps []) (hr : Room k X.A) (hx : Passes CX X E) : OpR X (compareOp .Eq) (rEqO C sp E X.K false) := by
  intro pins s σ H x y v u Q I rx ry h
  obtain ⟨a, dx, fs, rfl, ha, ⟨t, ty, hn⟩, q⟩ := h
  cases rx
  obtain ⟨ox, od, J⟩ := ins_inst I ha
  obtain ⟨P, Z, p, _⟩ := kit_of I ry ty
  obtain ⟨m, hF⟩ := I.fr
  show wpAny _ _ (richCompare .Eq _ _) _ _ _
  refine PySem.W.cmp_K (op := .Eq) hr.units0 hF I.ok.mod.kin J (Z.ty _ _ I.kIn p) hn M.at_ M.fn ?_
  refine wpAny_mono (call_at (us := [.ref a, u]) (vs := [.ref a, y]) F hb hr hx I I.env0 (.cons rfl (.cons ry .nil)) q) (fun w s' z => ?_) fun _ _ x => x
  obtain ⟨z', H', I', rz, b, eb, qz⟩ := z
  subst eb
  cases (show w = Value.bool b from rz)
  exact ⟨.bl b, H', I', rfl, qz⟩
/-- a builtin that stands as a class's special method -/
theorem ifBoundB {M : Model} {A : Around} {E : Value → Shared → Prop} {s : Shared} {K : PySem.W.Frag} {x C : Addr} {ox : Obj} {od : Option Obj} {name : Str} {id : String} {args : List Value} {Q : Option Value → Shared → Prop} (Y : K.In s.heap) (I : PySem.W.InstAt s.heap x ox C od)
    (hs : PySem.W.findIn K (.ref C) name = some (some (.builtin id))) (hb : ∀ self, bindSpecial (.builtin id) self = pure (.builtin id, [self])) (h : wpAny M A (call (.builtin id) (.ref x :: args)) (fun v => Q (some v)) E s) : wpAny M A (callSpecialIfBound? (.ref x) name args) Q E s := by
  simp only [callSpecialIfBound?, bindSpecialIfBound?]
  refine wpAny_holding (wpAny_bind (wpAny_bind (wpAny_bind (I.type.here ((PySem.W.looks_findIn Y hs).here ?_)))))
  refine wpAny_bind (wpAny_askSetting (wpAny_ite ?_))
  have fin : wpAny M A (call (.builtin id) ([.ref x] ++ args) >>= fun v => pure (some v)) Q E s := wpAny_bind (wpAny_mono h (fun v s' h' => wpAny_pure h') fun _ _ h' => h')
  split
  · exact wpAny_bind ((PySem.W.Looks.of_pure (hb _)).here (wpAny_pure (by exact fin)))
  · exact wpAny_tryCatch (wpAny_bind ((PySem.W.Looks.of_pure (hb _)).here (wpAny_pure (by exact fin))))
open Builtin in
/-- object.__ne__: what __eq__ does not say -/
theorem call_objne {prog : Program} {w : World} {A : Around} {E : Value → Shared → Prop} {s : Shared} {K : PySem.W.Frag} {x C f : Addr} {ox : Obj} {od : Option Obj} {b : Value} {Q : Value → Shared → Prop} (hu : A.in1.units < cLine) (Y : K.In s.heap) (I : PySem.W.InstAt s.heap x ox C od) (hm : PySem.W.mroIn K C (.type "object") = some true)
    (he : PySem.W.findIn K (.ref C) "__eq__" = some (some (.ref f))) (hf : PySem.W.isFn K (.ref f) = true) (h : wpAny (model prog w) A.in1 (call (.ref f) [.ref x, b]) (fun v s' => ∃ k, v = .bool k ∧ Q (.bool !k) s') E s) : wpAny (model prog w) A (call (.builtin "object.__ne__") [.ref x, b]) Q E s := by
  refine wpAny_call (codeAny_call_builtin PySem.F.cmp_object.ne.plain PySem.F.cmpEntry_ne (PySem.W.check_slot (i := "object.__ne__") (owner := "object") (n := "__ne__") PySem.F.cmpKind_ne PySem.F.cmpSplit_ne (I.type.andThen (PySem.W.looks_mroIn Y hm)) (PySem.F.cmpArgs_ne _ _) ?_))
  unfold Builtin.«object.__ne__»
  refine wpAny_bind (m := slotArgs "__ne__" 1 _) (wpAny_pure ?_)
  refine wpAny_bind (m := cRoomFor _ _) (wpAny_cRoomFor hu ?_)
  refine wpAny_bind (m := callSpecialIfBound? (.ref x) (Str.ofString "__eq__") _) (PySem.W.ifBound_K Y I he hf (wpAny_mono h (fun r s' hq => ?_) fun _ _ y => y))
  obtain ⟨k, rfl, q⟩ := hq
  cases k <;> exact wpAny_pure q
/-- x != y, where the class has no __ne__ of its own -/
theorem rich_ne {prog : Program} {w : World} {A : Around} {E : Value → Shared → Prop} {s : Shared} {K : PySem.W.Frag} {x C f : Addr} {ox : Obj} {od : Option Obj} {b tb : Value} {Q : Value → Shared → Prop} (hu0 : A.units < cLine) (hu : A.in1.units < cLine) (Y : K.In s.heap) (I : PySem.W.InstAt s.heap x ox C od)
    (hb : PySem.W.Looks (model prog w) s.heap (typeOf b) tb) (hn : PySem.W.notFirst K C tb = true) (hm : PySem.W.mroIn K C (.type "object") = some true) (hne : PySem.W.findIn K (.ref C) "__ne__" = some (some (.builtin "object.__ne__")))
    (he : PySem.W.findIn K (.ref C) "__eq__" = some (some (.ref f))) (hf : PySem.W.isFn K (.ref f) = true) (h : wpAny (model prog w) A.in1 (call (.ref f) [.ref x, b]) (fun v s' => ∃ k, v = .bool k ∧ Q (.bool !k) s') E s) : wpAny (model prog w) A (richCompare .NotEq (.ref x) b) Q E s := by
  have one : wpAny (model prog w) A (tryCompare (.ref x) "__ne__" b) (fun r s' => ∃ v, r = some v ∧ Q v s') E s := by
    unfold tryCompare
    refine wpAny_bind (ifBoundB (args := [b]) Y I hne PySem.F.cmp_object.ne.bind ?_)
    have z := call_objne (Q := fun v s' => ∃ k, v = .bool k ∧ Q v s') hu Y I hm he hf (wpAny_mono h (fun v s' hv => (let ⟨k, e, q⟩ := hv; ⟨k, e, _, rfl, q⟩ : ∃ k, v = .bool k ∧ ∃ k', Value.bool (!k) = .bool k' ∧ Q (.bool !k) s')) fun _ _ e => e)
    refine wpAny_mono z (fun v s' hv => ?_) fun _ _ e => e
    obtain ⟨k, rfl, q⟩ := hv
    exact wpAny_pure ⟨_, rfl, q⟩
  unfold richCompare
  simp only [PySem.oneThing_ref]
  refine wpAny_holding (wpAny_bind (wpAny_cRoomFor hu0 ?_))
  refine wpAny_bind (I.type.here (wpAny_bind (hb.here ?_)))
  split
  · rename_i q
    have e : PySem.W.subIn K tb (.ref C) = some false := by
      rcases Bool.or_eq_true_iff.mp hn with e | e
      · rw [beq_iff_eq.mp e] at q; simp at q
      · exact beq_iff_eq.mp e
    refine wpAny_bind ((PySem.W.looks_subIn Y e).here ?_)
    simp only [Bool.false_eq_true, if_false]
    refine wpAny_bind (wpAny_mono one (fun r s' z => ?_) fun _ _ e => e)
    obtain ⟨v, rfl, hq⟩ := z
    exact wpAny_pure hq
  · refine wpAny_bind (wpAny_pure ?_)
    simp only [Bool.false_eq_true, if_false]
    refine wpAny_bind (wpAny_mono one (fun r s' z => ?_) fun _ _ e => e)
    obtain ⟨v, rfl, hq⟩ := z
    exact wpAny_pure hq
theorem op_neO (M : OwnM X.K C "__eq__" g) (hne : PySem.W.findIn X.K (.ref C) "__ne__" = some (some (.builtin "object.__ne__"))) (hm : PySem.W.mroIn X.K C (.type "object") = some true) (F : FnOk X.prog X.w X.K X.mg X.base CX k g fd ps sp) (hb : Binds X.K fd ps []) (hr : Room (k + 1) X.A) (hx : Passes CX X E) : OpR X (compareOp .NotEq) (rEqO C sp E X.K true) := by
  intro pins s σ H x y v u Q I rx ry h
  obtain ⟨a, dx, fs, rfl, ha, ⟨t, ty, hn⟩, q⟩ := h
  cases rx
  obtain ⟨ox, od, J⟩ := ins_inst I ha
  obtain ⟨P, Z, p, _⟩ := kit_of I ry ty
  have hr2 : Room k X.A.in1 := Room.in1 hr
  show wpAny _ _ (richCompare .NotEq _ _) _ _ _
  refine rich_ne hr.units0 hr2.units0 I.kIn J (Z.ty _ _ I.kIn p) hn hm hne M.at_ M.fn ?_
  refine wpAny_mono (call_at (us := [.ref a, u]) (vs := [.ref a, y]) F hb hr2 hx I I.env0.in1 (.cons rfl (.cons ry .nil)) q) (fun w s' z => ?_) fun _ _ x => x
  obtain ⟨z', H', I', rz, b, eb, qz⟩ := z
  subst eb
  cases (show w = Value.bool b from rz)
  exact ⟨b, rfl, .bl !b, H', I', rfl, qz⟩
end
structure SMet (K : PySem.W.Frag) (C : Addr) (mc : Value) (m : Str) (p g : Addr) : Prop where
  rd : PySem.W.readsIn K C mc = true
  ga : PySem.W.specialIn K (.ref C) "__getattribute__" = some (some (.builtin "type.__getattribute__"))
  at_ : PySem.W.findCls K (.ref C) mc m = some (.get (.builtin "staticmethod.__get__") (.ref p) .none (.ref C))
  rc : ∃ rest, PySem.W.recIn K p "staticmethod" = some (.ref g :: rest)
  kp : PySem.W.keepIn K (.ref g) = true
section
variable {X : Cx} {CX : CXT} {k : Nat} {C p g : Addr} {mc : Value} {fd : FuncData} {ps ks : List Str} {sp : Sp} {E : XK} {o e : Expr} {es : List Expr} {kws : List Keyword} {m : Str} {pos apos : Pos} {ta : TE} {t tk : TA} {pl : Sem Bool} {gg : List Value → List Value → List Value} {gV : List V → List V → List V}
theorem getsm {pins : List (Addr × Obj)} {σ : L2.St} {H : Hp} {s : Shared} {A : Around} {E : Value → Shared → Prop} {Q : Value × List Value → Shared → Prop} (I : Inv X pins σ H s) (c : SMet X.K C mc m p g) (h : ∀ s', Inv X pins σ H s' → Q (.ref g, []) s') : wpAny (model X.prog X.w) A (getMethod (.ref C) m pl) Q E s := by
  obtain ⟨rest, hp⟩ := c.rc
  refine PySem.W.method_cls I.kIn c.ga (PySem.W.cls_bind I.kIn c.rd c.at_ (wpAny_call (PySem.W.sm_get (s := { s with toks := s.toks + 1 }) I.kIn hp (PySem.W.handed_on rfl (h _ (I.tok _))))))
def tSMeth (C : Addr) (sp : Sp) (E : L2.St → XK) (ta : TE) (t : TA) : TE := fun σ H Q => ta σ H fun x H1 => x = .ref C ∧ t σ H1 fun vs H2 => sp vs H2 Q (E σ)
theorem pe_smeth {E : L2.St → XK} (he : PE X o ta) (c : SMet X.K C mc m p g) (F : FnOk X.prog X.w X.K X.mg X.base CX k g fd ps sp) (hr : Room k X.A) (hb : Binds X.K fd ps []) (hx : ∀ σ, PassesAt CX X σ (E σ)) (ha : PA X (e :: es) t)
    (hst : starEach (e :: es) X.env = (false, eval e X.env) :: starEach es X.env := by rfl) (hpl : (backTo pos (starEach es X.env)).any (·.1) = false := by rfl)
    (ht : eval (.Call (.Attribute o m apos) (e :: es) [] pos) X.env = (do
      let ov ← eval o X.env
      standAt apos.atName
      let (f, first) ← holding [ov] (getMethod ov m pl)
      callWith pos f first (backTo pos (starEach (e :: es) X.env)) (backToKw pos (keywordEach [] X.env))) := by rfl) :
    PE X (.Call (.Attribute o m apos) (e :: es) [] pos) (tSMeth C sp E ta t) := by
  refine ⟨fun pins s σ H Q I h => ?_⟩
  refine PySem.W.methodCall_KW (pl := pl) (thn (he.run pins s σ H _ I h) fun u s1 ⟨x, H1, I1, rx, ex, q⟩ => ?_) ht
  subst ex
  cases (show u = Value.ref C from rx)
  refine getsm I1 c fun s2 I2 => ?_
  exact PySem.W.callWith_K (first := []) (h₀ := X.base) I.ok.mod.kin c.kp (thn (ha.run pos pins s2 σ H1 _ I2 q) fun us s3 ⟨vs, H2, I3, r, q2⟩ => ⟨I3.kIn, run_fnS (us := us) (vs := vs) F hr hb (hx σ) I3 r q2⟩) hst hpl
/-- what is not raised passes -/
theorem takesN {X : Cx} : Takes X (fun _ _ _ _ => False) := fun _ _ x => by
  obtain ⟨_, _, _, _, _, _, _, _, _, _, _, _, _, _, _, _, z⟩ := x
  exact z.elim
def tSMethK (C : Addr) (sp : Sp) (gV : List V → List V → List V) (E : XK) (ta : TE) (tk : TA) : TE := fun σ H Q => ta σ H fun x H1 => x = .ref C ∧ tk σ H1 fun zs H2 => sp (gV [] zs) H2 Q E
/-- C.m(k = v, ..) -/
theorem pe_smethK0 (he : PE X o ta) (c : SMet X.K C mc m p g) (F : FnOk X.prog X.w X.K X.mg X.base CX k g fd ps sp) (hr : Room k X.A) (hb : KBinds X.K fd ps ks gg gV) (hx : Passes CX X E) (hkw : PK X kws tk)
    (hall : (backToKw pos (keywordEach kws X.env)).all (·.1.isSome) = true := by rfl) (hks : (backToKw pos (keywordEach kws X.env)).filterMap (·.1) = ks := by rfl)
    (hpl : ((backTo pos (starEach [] X.env)).any (·.1) || (backToKw pos (keywordEach kws X.env)).any (·.1.isNone)) = false := by rfl)
    (ht : eval (.Call (.Attribute o m apos) [] kws pos) X.env = (do
      let ov ← eval o X.env
      standAt apos.atName
      let (f, first) ← holding [ov] (getMethod ov m pl)
      callWith pos f first (backTo pos (starEach [] X.env)) (backToKw pos (keywordEach kws X.env))) := by rfl) :
    PE X (.Call (.Attribute o m apos) [] kws pos) (tSMethK C sp gV E ta tk) := by
  refine ⟨fun pins s σ H Q I h => ?_⟩
  refine PySem.W.methodCall_KW (pl := pl) (thn (he.run pins s σ H _ I h) fun u s1 ⟨x, H1, I1, rx, ex, q⟩ => ?_) ht
  subst ex
  cases (show u = Value.ref C from rx)
  refine getsm I1 c fun s2 I2 => ?_
  refine PySem.W.callWith_KW0 (h₀ := X.base) I.ok.mod.kin c.kp hall (thn (hkw.run pos pins s2 σ H1 _ I2 q) fun ws s3 ⟨zs, H2, I3, rz, q2⟩ => ⟨I3.kIn, ?_⟩) hpl
  rw [hks]
  exact run_fnk (us := []) (vs := []) F hr hb hx I3 .nil rz q2
end
/-- its __init__ stores one field -/
def spE1 (K : PySem.W.Frag) (C : Addr) (f : Str) : Sp := fun vs H Q _ => ∃ a y, vs = [.ref a, y] ∧ H a = some (exo a C none) ∧ ∀ d, H d = none → d ≠ a → Q .non (upd (upd H d (exd d [(f, y)])) a (exo a C (some d)))
/-- two fields -/
def spE2 (K : PySem.W.Frag) (C : Addr) (f g : Str) : Sp := fun vs H Q _ => ∃ a y z, vs = [.ref a, y, z] ∧ H a = some (exo a C none) ∧ ∀ d, H d = none → d ≠ a → Q .non (upd (upd (upd H d (exd d [(f, y)])) a (exo a C (some d))) d (exd d [(g, z), (f, y)]))
theorem exd_end {H : Hp} {a d : Addr} {o : HO} {C : Addr} {fs gs : List (Str × V)} (n : H a = none) (nd : d ≠ a) : upd (del (upd (upd (upd (upd H a o) d (exd d fs)) a (exo a C (some d))) d (exd d gs)) a) d (.xd gs) = upd H d (.xd gs) := by
  funext b
  by_cases hd : b = d
  · subst hd
    rw [upd_same, upd_same]
  · rw [upd_ne hd, upd_ne hd]
    by_cases ha : b = a
    · subst ha
      rw [del_same, n]
    · rw [del_ne ha, upd_ne hd, upd_ne ha, upd_ne hd, upd_ne ha]
theorem exd_end1 {H : Hp} {a d : Addr} {o : HO} {C : Addr} {fs : List (Str × V)} (n : H a = none) (nd : d ≠ a) : upd (del (upd (upd (upd H a o) d (exd d fs)) a (exo a C (some d))) a) d (.xd fs) = upd H d (.xd fs) := by
  funext b
  by_cases hd : b = d
  · subst hd
    rw [upd_same, upd_same]
  · rw [upd_ne hd, upd_ne hd]
    by_cases ha : b = a
    · subst ha
      rw [del_same, n]
    · rw [del_ne ha, upd_ne ha, upd_ne hd, upd_ne ha]
/-- what the making of such an exception comes to -/
theorem mkE1 {K : PySem.W.Frag} {C : Addr} {f : Str} {y : V} {H1 : Hp} {Q E : XK} (q : ∀ d, H1 d = none → Q (.ref C) (some d) (upd H1 d (.xd [(f, y)]))) :
    [y].length ≤ 1000 ∧ ∀ a, H1 a = none → spE1 K C f (.ref a :: ([y] ++ [])) (upd H1 a (exo a C none))
      (fun v H2 => v = .non ∧ ∃ (d : Addr) (fs : List (Str × V)), H2 a = some (exo a C (some d)) ∧ H2 d = some (exd d fs) ∧ H1 d = none ∧ Q (.ref C) (some d) (upd (del H2 a) d (.xd fs))) E := by
  refine ⟨by simp, fun a na => ⟨a, y, rfl, upd_same, fun d nd nda => ⟨rfl, d, [(f, y)], upd_same, ?_, ?_, ?_⟩⟩⟩
  · rw [upd_ne nda, upd_same]
  · rw [upd_ne nda] at nd
    exact nd
  · rw [upd_ne nda] at nd
    rw [exd_end1 na nda]
    exact q d nd
theorem mkE2 {K : PySem.W.Frag} {C : Addr} {f g : Str} {y z : V} {H1 : Hp} {Q E : XK} (q : ∀ d, H1 d = none → Q (.ref C) (some d) (upd H1 d (.xd [(g, z), (f, y)]))) :
    [y, z].length ≤ 1000 ∧ ∀ a, H1 a = none → spE2 K C f g (.ref a :: ([y, z] ++ [])) (upd H1 a (exo a C none))
      (fun v H2 => v = .non ∧ ∃ (d : Addr) (fs : List (Str × V)), H2 a = some (exo a C (some d)) ∧ H2 d = some (exd d fs) ∧ H1 d = none ∧ Q (.ref C) (some d) (upd (del H2 a) d (.xd fs))) E := by
  refine ⟨by simp, fun a na => ⟨a, y, z, rfl, upd_same, fun d nd nda => ⟨rfl, d, [(g, z), (f, y)], ?_, upd_same, ?_, ?_⟩⟩⟩
  · rw [upd_ne nda.symm, upd_same]
  · rw [upd_ne nda] at nd
    exact nd
  · rw [upd_ne nda] at nd
    rw [exd_end na nda]
    exact q d nd
end JP
namespace JP
open PySem PySem.Spec PyProof.Rows L2 TL
theorem op_mulS {X : Cx} : OpR X (binaryOp .Mult) (fun x y H Q => ∃ a n, x = .str a ∧ y = .int n ∧ MulOk a n ∧ Q (.str (Txt.mul a n)) H) := by
  intro pins s σ H x y v u Q I rx ry h
  obtain ⟨a, n, rfl, rfl, hz, q⟩ := h
  obtain ⟨t, rfl⟩ := rx
  obtain ⟨t', rfl⟩ := ry
  exact SB.mul hz (fun t' k => ⟨.str (Txt.mul a n), H, I.tok _, ⟨_, rfl⟩, q⟩)
/-- whether a word is an integer as it is written, of at most 60 digits -/
def isIntW (w : Str) : Bool :=
  if (decide ((60 : Int) < (Txt.removeprefix w "-").length) || !Txt.isascii (Txt.removeprefix w "-") || !Txt.isdigit (Txt.removeprefix w "-")) = true then false
  else (decide (V.str w = V.str "0") || !Txt.startswith (Txt.removeprefix w "-") "0")
/-- how many words from the first one on are integers, at most k -/
def lead : Nat → List Str → Nat
  | 0, _ => 0
  | _, [] => 0
  | k + 1, w :: ws => if isIntW w = true then lead k ws + 1 else 0
/-- the word at a place; behind the last one the empty word -/
abbrev wd (ws : List Str) (k : Nat) : Str := ws.getD k ""
def isSign (w : Str) : Bool := decide (V.str w = V.str ">=") || decide (V.str w = V.str ">")
/-- the first word that cannot stand -/
def rdErr (ws : List Str) : Option Nat :=
  if isSign (wd ws (lead 8 ws)) = false then some (lead 8 ws)
  else if decide (V.str (wd ws (lead 8 ws + 1)) = V.str "0") = false then some (lead 8 ws + 1)
  else if lead 8 ws + 2 < ws.length then some (lead 8 ws + 2)
  else none
theorem lead_app : ∀ (k : Nat) (us r : List Str), (∀ u ∈ us, isIntW u = true) → us.length ≤ k → (us.length = k ∨ ∀ w r', r = w :: r' → isIntW w = false) → lead k (us ++ r) = us.length
  | 0, [], r, _, _, _ => rfl
  | 0, _ :: _, _, _, h, _ => absurd h (by simp)
  | k + 1, [], [], _, _, _ => rfl
  | k + 1, [], w :: r, _, _, h => by
    rcases h with h | h
    · simp at h
    · show lead (k + 1) (w :: r) = 0
      unfold lead
      rw [if_neg (by rw [h w r rfl]; exact Bool.false_ne_true)]
  | k + 1, u :: us, r, hu, hl, h => by
    show lead (k + 1) (u :: (us ++ r)) = _
    unfold lead
    rw [if_pos (hu u List.mem_cons_self), lead_app k us r (fun x hx => hu x (List.mem_cons_of_mem _ hx)) (by simpa using hl) (h.imp (fun z => by simpa using z) id)]
    rfl
theorem wd_app (us r : List Str) (k : Nat) : wd (us ++ r) (us.length + k) = wd r k := by
  show (us ++ r).getD (us.length + k) "" = r.getD k ""
  rw [List.getD_eq_getElem?_getD, List.getD_eq_getElem?_getD, List.getElem?_append_right (Nat.le_add_right _ _), Nat.add_sub_cancel_left]
end JP
namespace JP
open PySem PySem.Spec PyProof.Rows L2 TL
def Word (v : Str) : Prop := v.length ≤ 100 ∧ 32 ∉ tl v
instance (v : Str) : Decidable (Word v) := by unfold Word; infer_instance
section
variable {us r : List Str}
def Stop (us r : List Str) : Prop := (∀ u ∈ us, isIntW u = true) ∧ us.length ≤ 8 ∧ (us.length = 8 ∨ ∀ w r', r = w :: r' → isIntW w = false)
theorem Stop.lead (h : Stop us r) : lead 8 (us ++ r) = us.length := lead_app 8 us r h.1 h.2.1 h.2.2
theorem Stop.wd0 (h : Stop us r) : wd (us ++ r) us.length = wd r 0 := wd_app us r 0
theorem Stop.b (h : Stop us r) (s : isSign (wd r 0) = true) (z : decide (V.str (wd r 1) = V.str "0") = false) : rdErr (us ++ r) = some (us.length + 1) := by
  unfold rdErr
  rw [h.lead, h.wd0, wd_app us r 1, if_neg (by rw [s]; simp), if_pos z]
end
def LS (H : Hp) (a : Addr) (ws : List Str) : Prop := H a = some (.lst (ws.map V.str))
theorem LS.but {p a : Addr} {H H' : Hp} {ws : List Str} (h : LS H a ws) (b : But p H H') (n : a ≠ p) : LS H' a ws := b a _ n h
theorem LS.same {a : Addr} {H H' : Hp} {ws : List Str} (h : LS H a ws) (s : Same H H') : LS H' a ws := s _ _ h
theorem LS.seq {K : PySem.W.Frag} {a : Addr} {H : Hp} {ws : List Str} (h : LS H a ws) : SqL K H a (ws.map V.str) := .of h
theorem fits {a b : List Str} (h : a.length + b.length ≤ 1000) : (a.map V.str).length + (b.map V.str).length ≤ sizeLine := by
  rw [List.length_map, List.length_map, sizeLine_eq]
  omega
/-- a pair of a list of words and the place where reading them stops -/
def It (H : Hp) (x : V) : Prop := ∃ (t a : Addr) (ws : List Str) (k : Nat), x = .ref t ∧ H t = some (.tup [.ref a, .int k]) ∧ LS H a ws ∧ ws ≠ [] ∧ ws.length ≤ 20 ∧ (∀ v ∈ ws, Word v) ∧ rdErr ws = some k
theorem It.same {H H' : Hp} {x : V} (s : Same H H') (h : It H x) : It H' x := by
  obtain ⟨t, a, ws, k, e, h1, h2, r⟩ := h
  exact ⟨t, a, ws, k, e, s _ _ h1, h2.same s, r⟩
/-- what is known while the pairs are made -/
structure Bd (H0 : Hp) (p c : Addr) (m : Nat) (l : Addr) (W : List Str) (xs : List V) (H : Hp) : Prop where
  pen : Pen H p c m
  but : But p H0 H
  lst : LS H l W
  its : ∀ x ∈ xs, It H x
theorem Bd.same {H0 H H' : Hp} {p c l : Addr} {m : Nat} {W : List Str} {xs : List V} (h : Bd H0 p c m l W xs H) (s : Same H H') : Bd H0 p c m l W xs H' :=
  ⟨h.pen.same s, h.but.trans (.of_same s), h.lst.same s, fun x hx => (h.its x hx).same s⟩
/-- a new pair -/
theorem It.mk {H : Hp} {a t : Addr} {ws : List Str} {k : Nat} (n : H t = none) (h : LS H a ws) (h1 : ws ≠ []) (h2 : ws.length ≤ 20) (h3 : ∀ v ∈ ws, Word v) (h4 : rdErr ws = some k) : It (upd H t (.tup [.ref a, .int k])) (.ref t) :=
  ⟨t, a, ws, k, rfl, upd_same, h.same (same_new n), h1, h2, h3, h4⟩
end JP
namespace JP
open PySem PySem.Spec PyProof.Rows L2
/-- all but the one at p and the tables of code objects stay -/
def ButN (p : Addr) (H H' : Hp) : Prop := ∀ b o, b ≠ p → H b = some o → (∀ ps, o ≠ .tbl ps) → H' b = some o
theorem ButN.trans {p : Addr} {H H1 H2 : Hp} (a : ButN p H H1) (b : ButN p H1 H2) : ButN p H H2 := fun c o n e t => b c o n (a c o n e t) t
theorem Pen.ext {H H' : Hp} {p c : Addr} {m : Nat} (h : Pen H p c m) (k : LamX.ExtN H H') : Pen H' p c m := by
  obtain ⟨ns, n, g, h1, h2, r⟩ := h
  exact ⟨ns, n, g, k _ _ h1 (by intro ps z; cases z), k _ _ h2 (by intro ps z; cases z), r⟩
def iAnyV (K : PySem.W.Frag) (i : Nat) : TI := fun σ H R => ∃ a, σ[i]? = some (some (.ref a)) ∧ (((∃ xs, SqL K H a xs) ∧ R (Itl K a) H) ∨ ((∃ xs, SqT K H a xs) ∧ R (Itt K a) H))
theorem pi_anyV {X : Cx} {tg l : Expr} {i : Nat} (hl : PE X l (tVar i)) : PI X tg l (iAnyV X.K i) := ⟨fun pins s σ H R I h => by
  obtain ⟨a, e, ⟨hx, r⟩ | ⟨hx, r⟩⟩ := h
  · exact (pi_list hl).run pins s σ H R I ⟨.ref a, e, a, rfl, hx, r⟩
  · exact (pi_tup hl).run pins s σ H R I ⟨.ref a, e, a, rfl, hx, r⟩⟩
section
variable {X : Cx} {CX : CXT} {k : Nat} {C g : Addr} {fd : FuncData} {ps : List Str} {sp : Sp} {E : XK}
def rLenO (C : Addr) (sp : Sp) (E : XK) : List V → Hp → VK → Prop := fun xs H Q => ∃ a dx fs, xs = [.ref a] ∧ H a = some (.ins C dx fs) ∧ sp [.ref a] H (fun z H' => ∃ n : Nat, z = .int n ∧ n < 2 ^ 63 ∧ Q (.int n) H') E
theorem call_lenO (M : OwnM X.K C "__len__" g) (F : FnOk X.prog X.w X.K X.mg X.base CX k g fd ps sp) (hb : Binds X.K fd ps []) (hr : Room (k + 1) X.A) (hx : Passes CX X E) : CallR X (.builtin "len") (rLenO C sp E) := by
  intro pins s σ H xs us Q I r h
  obtain ⟨a, dx, fs, rfl, ha, q⟩ := h
  obtain ⟨u, rfl, ru⟩ := vals1 r
  cases ru
  obtain ⟨ox, od, J⟩ := ins_inst I ha
  have inner := call_at (A := X.A.in1) (us := [.ref a]) (vs := [.ref a]) F hb (Room.in1 hr) hx I I.env0.in1 (.cons rfl .nil) q
  refine Calls.call_function_entry kind_len plain_len entry_len (args_len1 _) ?_
  unfold Builtin.«len»
  refine wpAny_bind (m := oneArg "len" _) (wpAny_pure (wpAny_bind (m := callSpecial? (.ref a) (Str.ofString "__len__")) (PySem.W.special_fn I.kIn J M.at_ (beq_iff_eq.mp M.fn) (wpAny_mono inner (fun v s' z => ?_) fun _ _ x => x))))
  obtain ⟨z', H', I', rz, n, ez, hn, qz⟩ := z
  subst ez
  obtain ⟨t, rfl⟩ := (show ∃ t, v = Value.int n t from rz)
  refine wpAny_bind (wpAny_holding (wpAny_pure (wpAny_bind (wpAny_letGo ?_))))
  have n1 : ¬ (n : Int) < 0 := by omega
  have n2 : ¬ (n : Int) ≥ 2 ^ 63 := by omega
  show wpAny _ _ (if (n : Int) < 0 then _ else _) _ _ _
  rw [if_neg n1]
  show wpAny _ _ (if (n : Int) ≥ 2 ^ 63 then _ else _) _ _ _
  rw [if_neg n2]
  exact wpAny_bind (wpAny_mkInt (wpAny_pure ⟨_, rfl, .int n, H', I'.tok _, ⟨_, rfl⟩, qz⟩))
end
end JP
namespace JP
open PySem PySem.Spec PyProof.Rows L2
def SqK (K : PySem.W.Frag) (k : Bool) (H : Hp) (a : Addr) (xs : List V) : Prop := match k with
  | true => SqT K H a xs
  | false => SqL K H a xs
def HSq (k : Bool) (h : Heap) (a : Addr) (its : Array Value) : Prop := match k with
  | true => h.IsTuple a its
  | false => h.IsList a its
def HIt (k : Bool) (h : Heap) (it a : Addr) (i : Nat) : Prop := match k with
  | true => h.IsTupleIter it a i
  | false => h.IsListIter it a i
def itC (k : Bool) : String := match k with
  | true => "tuple_iterator"
  | false => "list_iterator"
theorem sqK_same {K : PySem.W.Frag} {k : Bool} {H H' : Hp} {a : Addr} {xs : List V} (s : Same H H') (h : SqK K k H a xs) : SqK K k H' a xs := by
  cases k
  · exact same_seqL' s h
  · exact same_seqT s h
theorem sqK_inj {X : Cx} {pins : List (Addr × Obj)} {σ : L2.St} {H : Hp} {s : Shared} {k : Bool} {a : Addr} {xs ys : List V} (I : Inv X pins σ H s) (h : SqK X.K k H a xs) (h2 : SqK X.K k H a ys) : xs = ys := by
  cases k
  · exact I.list_inj h h2
  · exact I.tuple_inj h h2
theorem sqK_at {X : Cx} {pins : List (Addr × Obj)} {σ : L2.St} {H : Hp} {s : Shared} {k : Bool} {a : Addr} {xs : List V} (I : Inv X pins σ H s) (h : SqK X.K k H a xs) : ∃ its : List Value, Vals xs its ∧ HSq k s.heap a its.toArray := by
  cases k
  · obtain ⟨its, r, p, _⟩ := I.list h
    exact ⟨its, r, p.isList⟩
  · obtain ⟨its, r, p, _⟩ := I.tuple h
    exact ⟨its, r, p⟩
theorem drawsK {P : Program} {w : World} {A : Around} (k : Bool) (hh : A.handled = none) (it l : Addr) (ne : l ≠ it) (its : Array Value) : Draws P w A it [it, l] its.size (fun i v => its[i]? = some v) (fun i h => HIt k h it l i ∧ HSq k h l its) := by
  cases k
  · exact Draws.list hh it l ne its
  · exact Draws.tuple hh it l ne its
abbrev zk1 (k : Bool) (h : Heap) (l : Addr) : Heap := h.push { cls := .type (itC k), data := .fields #[.ref l, .int 0 0] }
abbrev zk2 (k1 k2 : Bool) (h : Heap) (l m : Addr) : Heap := zk1 k2 (zk1 k1 h l) m
abbrev zk3 (k1 k2 : Bool) (h : Heap) (l m : Addr) : Heap := (zk2 k1 k2 h l m).push { cls := .type "tuple", data := .seq #[.ref h.objs.size, .ref (zk1 k1 h l).objs.size] }
abbrev zk4 (k1 k2 : Bool) (h : Heap) (l m : Addr) : Heap := (zk3 k1 k2 h l m).push { cls := .type "tuple", data := .seq #[.none, .none] }
abbrev zk5 (k1 k2 : Bool) (h : Heap) (l m : Addr) : Heap := (zk4 k1 k2 h l m).push { cls := .type "zip", data := .fields #[.none, .bool false, .bool false, .ref (zk2 k1 k2 h l m).objs.size, .ref (zk3 k1 k2 h l m).objs.size] }
theorem meets_zk (k1 k2 : Bool) (l m : Addr) (xs ys : Array Value) :
    Meets (Builtin.«zip.__new__» ⟨[.type "zip", .ref l, .ref m], []⟩) (fun _ R s => HSq k1 s.heap l xs ∧ HSq k2 s.heap m ys ∧
      R (.ok (.ret (.ref (zk4 k1 k2 s.heap l m).objs.size))) { s with heap := zk5 k1 k2 s.heap l m }) :=
  .of_wp fun prog w A R s h => by
    obtain ⟨hp, g, d, tk, os⟩ := s
    obtain ⟨a1, a2, h⟩ := h
    have hsub := sub_zip
    cases k1 <;> cases k2
    · have b1 : Heap.IsList (Shared.heap ⟨hp, g, d, tk, os⟩) l xs := a1
      have b2 : Heap.IsList (Shared.heap ⟨hp.push { cls := .type "list_iterator", data := .fields #[.ref l, .int 0 0] }, g, d, tk, os⟩) m ys := Heap.IsList.push a2 _
      wp_walk using wpAny_pyIter_list b1, wpAny_pyIter_list b2
      exact ⟨_, rfl, h⟩
    · have b1 : Heap.IsList (Shared.heap ⟨hp, g, d, tk, os⟩) l xs := a1
      have b2 : Heap.IsTuple (Shared.heap ⟨hp.push { cls := .type "list_iterator", data := .fields #[.ref l, .int 0 0] }, g, d, tk, os⟩) m ys := Heap.IsTuple.push a2 _
      wp_walk using wpAny_pyIter_list b1, wpAny_pyIter_tuple b2
      exact ⟨_, rfl, h⟩
    · have b1 : Heap.IsTuple (Shared.heap ⟨hp, g, d, tk, os⟩) l xs := a1
      have b2 : Heap.IsList (Shared.heap ⟨hp.push { cls := .type "tuple_iterator", data := .fields #[.ref l, .int 0 0] }, g, d, tk, os⟩) m ys := Heap.IsList.push a2 _
      wp_walk using wpAny_pyIter_tuple b1, wpAny_pyIter_list b2
      exact ⟨_, rfl, h⟩
    · have b1 : Heap.IsTuple (Shared.heap ⟨hp, g, d, tk, os⟩) l xs := a1
      have b2 : Heap.IsTuple (Shared.heap ⟨hp.push { cls := .type "tuple_iterator", data := .fields #[.ref l, .int 0 0] }, g, d, tk, os⟩) m ys := Heap.IsTuple.push a2 _
      wp_walk using wpAny_pyIter_tuple b1, wpAny_pyIter_tuple b2
      exact ⟨_, rfl, h⟩
theorem hit_new {k : Bool} {h : Heap} {it l : Addr} (e : h.get? it = some { cls := .type (itC k), data := .fields #[.ref l, .int 0 0] }) : HIt k h it l 0 := by
  cases k <;> exact ⟨_, e, rfl, rfl⟩
theorem call_zk {P : Program} {w : World} {A : Around} {E : Value → Shared → Prop} {s : Shared} (k1 k2 : Bool) {l m : Addr} {xs ys : Array Value} {Q : Value → Shared → Prop} (a1 : HSq k1 s.heap l xs) (a2 : HSq k2 s.heap m ys)
    (h : ∀ h', IsZip h' (s.heap.objs.size + 4) (s.heap.objs.size + 2) (s.heap.objs.size + 3) .none → IsPair h' (s.heap.objs.size + 2) (.ref s.heap.objs.size) (.ref (s.heap.objs.size + 1)) →
      IsPair h' (s.heap.objs.size + 3) .none .none → HIt k1 h' s.heap.objs.size l 0 → HIt k2 h' (s.heap.objs.size + 1) m 0 → (∀ c o, s.heap.get? c = some o → h'.get? c = some o) → Q (.ref (s.heap.objs.size + 4)) { s with heap := h' }) :
    wpAny (model P w) A (call (.type "zip") [.ref l, .ref m]) Q E s := by
  refine callType_new F.called_zip (by decide) (F.typeCall_zip_2 _ _) (F.newCall_zip_2 _ _) (fun obj => F.args_object_init_3 obj _ _) F.entry_zip_new (meets_zk k1 k2 l m xs ys) ⟨a1, a2, ?_⟩
  have n1 : (zk1 k1 s.heap l).objs.size = s.heap.objs.size + 1 := Heap.size_push ..
  have n2 : (zk2 k1 k2 s.heap l m).objs.size = s.heap.objs.size + 2 := (Heap.size_push ..).trans (by rw [n1])
  have n3 : (zk3 k1 k2 s.heap l m).objs.size = s.heap.objs.size + 3 := (Heap.size_push ..).trans (by rw [n2])
  have n4 : (zk4 k1 k2 s.heap l m).objs.size = s.heap.objs.size + 4 := (Heap.size_push ..).trans (by rw [n3])
  have p4 : ∀ {c o}, (zk4 k1 k2 s.heap l m).get? c = some o → (zk5 k1 k2 s.heap l m).get? c = some o := fun e => Heap.get?_push_of_some _ e
  have p3 : ∀ {c o}, (zk3 k1 k2 s.heap l m).get? c = some o → (zk5 k1 k2 s.heap l m).get? c = some o := fun e => p4 (Heap.get?_push_of_some _ e)
  have p2 : ∀ {c o}, (zk2 k1 k2 s.heap l m).get? c = some o → (zk5 k1 k2 s.heap l m).get? c = some o := fun e => p3 (Heap.get?_push_of_some _ e)
  have p1 : ∀ {c o}, (zk1 k1 s.heap l).get? c = some o → (zk5 k1 k2 s.heap l m).get? c = some o := fun e => p2 (Heap.get?_push_of_some _ e)
  have g5 : (zk5 k1 k2 s.heap l m).get? (zk4 k1 k2 s.heap l m).objs.size = some _ := Heap.get?_push_size _ rfl
  have g4 : (zk5 k1 k2 s.heap l m).get? (zk3 k1 k2 s.heap l m).objs.size = some _ := p4 (Heap.get?_push_size _ rfl)
  have g3 : (zk5 k1 k2 s.heap l m).get? (zk2 k1 k2 s.heap l m).objs.size = some _ := p3 (Heap.get?_push_size _ rfl)
  have g2 : (zk5 k1 k2 s.heap l m).get? (zk1 k1 s.heap l).objs.size = some _ := p2 (Heap.get?_push_size _ rfl)
  have g1 : (zk5 k1 k2 s.heap l m).get? s.heap.objs.size = some _ := p1 (Heap.get?_push_size _ rfl)
  show _ ∧ _
  rw [n2, n3, n4] at g5
  rw [n3] at g4
  rw [n1, n2] at g3
  rw [n1] at g2
  rw [n4]
  exact ⟨⟨_, g5, rfl⟩, h _ g5 g3 g4 (hit_new g1) (hit_new g2) fun c o x => p1 (Heap.get?_push_of_some _ x)⟩
/-- the two as they stand at each turn -/
def ItzK (K : PySem.W.Frag) (k1 k2 : Bool) (a b : Addr) : L2.It :=
  ⟨fun i H => ∃ (xs ys : List V) (x y : V), SqK K k1 H a xs ∧ SqK K k2 H b ys ∧ xs[i]? = some x ∧ ys[i]? = some y,
    fun i H v H' => ∃ T x y, v = .ref T ∧ H T = none ∧ H' = upd H T (.tup [x, y]) ∧ (∀ xs, SqK K k1 H a xs → xs[i]? = some x) ∧ ∀ ys, SqK K k2 H b ys → ys[i]? = some y,
    fun i H => ∃ xs ys : List V, SqK K k1 H a xs ∧ SqK K k2 H b ys ∧ i = min xs.length ys.length⟩
/-- the five new things -/
abbrev zkFp (z : Addr) : List Addr := [z + 4, z + 2, z + 3, z, z + 1]
def zkSt (k1 k2 : Bool) (a b z : Addr) (i : Nat) (h : Heap) : Prop := IsZip h (z + 4) (z + 2) (z + 3) .none ∧ IsPair h (z + 2) (.ref z) (.ref (z + 1)) ∧ (∃ x y, IsPair h (z + 3) x y) ∧ HIt k1 h z a i ∧ HIt k2 h (z + 1) b i
theorem notIn2 {c x y : Nat} (h1 : c ≠ x) (h2 : c ≠ y) : c ∉ [x, y] := fun h => by
  rcases List.mem_cons.mp h with h | h
  · exact h1 h
  · exact h2 (List.mem_singleton.mp h)
theorem zk_sep {a b z : Nat} (ha : a < z) (hb : b < z) : ZipSep2 (z + 4) (z + 2) (z + 3) z (z + 1) [z, a] [z + 1, b] where
  TIz := by show (z + 2 : Nat) ≠ z + 4; omega
  TOz := by show (z + 3 : Nat) ≠ z + 4; omega
  TITO := by show (z + 2 : Nat) ≠ z + 3; omega
  TIi1 := by show (z + 2 : Nat) ≠ z; omega
  mem1 := List.mem_cons_self
  zf1 := notIn2 (by omega) (by omega)
  Tf1 := notIn2 (by omega) (by omega)
  TIi2 := by show (z + 2 : Nat) ≠ z + 1; omega
  mem2 := List.mem_cons_self
  zf2 := notIn2 (by omega) (by omega)
  Tf2 := notIn2 (by omega) (by omega)
  sep1_2 := notIn2 (by omega) (by omega)
  sep2_1 := notIn2 (by omega) (by omega)
theorem hit_obj {k : Bool} {h : Heap} {it l : Addr} {i : Nat} (e : HIt k h it l i) : ∃ o, h.get? it = some o ∧ ∀ v, o.data ≠ .cell v := by
  cases k <;> exact let ⟨o, h1, _, d⟩ := e; ⟨o, h1, fun v q => by rw [d] at q; cases q⟩
theorem hit_keep {k : Bool} {h h' : Heap} {it l : Addr} {i : Nat} (e : HIt k h it l i) (s : ∀ o, h.get? it = some o → h'.get? it = some o) : HIt k h' it l i := by
  cases k
  · exact Heap.IsListIter.at e s
  · exact Heap.IsTupleIter.at e s
theorem turn_zk {P : Program} {w : World} {K : PySem.W.Frag} {elts : List Expr} {kk : Nat} {tpos : Pos} {k1 k2 : Bool} {a b z : Addr} (ha : a < z) (hb : b < z) :
    Turn P w K (.Tuple elts kk tpos) (ItzK K k1 k2 a b) (zkFp z) (z + 4) (zkSt k1 k2 a b z) where
  mem := by simp
  obj := fun i h ⟨hz, hT, ⟨x, y, hO⟩, h1, h2⟩ c hc => by
    have e : c = z + 4 ∨ c = z + 2 ∨ c = z + 3 ∨ c = z ∨ c = z + 1 := by simpa using hc
    rcases e with q | q | q | q | q
    · subst q
      exact ⟨_, hz, fun v q => by cases q⟩
    · subst q
      exact ⟨_, hT, fun v q => by cases q⟩
    · subst q
      exact ⟨_, hO, fun v q => by cases q⟩
    · subst q
      exact hit_obj h1
    · subst q
      exact hit_obj h2
  keep := fun i h h' ⟨hz, hT, ⟨x, y, hO⟩, h1, h2⟩ k =>
    ⟨k (z + 4) (by simp) _ hz, k (z + 2) (by simp) _ hT, ⟨x, y, k (z + 3) (by simp) _ hO⟩, hit_keep h1 fun o q => k z (by simp) o q, hit_keep h2 fun o q => k (z + 1) (by simp) o q⟩
  item := by
    intro X hP hw hK hc i pins s σ H E I hf st hg
    subst hP hw hK
    obtain ⟨hz, hT, ⟨x0, y0, hO⟩, h1, h2⟩ := st
    obtain ⟨xs, ys, x, y, qx, qy, hx, hy⟩ := hg
    obtain ⟨its, rv, p⟩ := sqK_at I qx
    obtain ⟨its2, rv2, p2⟩ := sqK_at I qy
    obtain ⟨u, hu, ru⟩ := rv.get hx
    obtain ⟨u2, hu2, ru2⟩ := rv2.get hy
    have hzl : z + 4 < s.heap.objs.size := Heap.lt_size hz
    have hd : X.A.in1.handled = none := I.ok.hd hc
    have S := zk_sep ha hb
    have na : a ≠ z := Nat.ne_of_lt ha
    have nb : b ≠ z + 1 := Nat.ne_of_lt (Nat.lt_succ_of_lt hb)
    refine wpAny_pyNext_zipD2_item S (drawsK k1 hd z a na its.toArray) (drawsK k2 hd (z + 1) b nb its2.toArray) hz hT hO ⟨h1, p⟩ ⟨h2, p2⟩ (by have := (List.getElem?_eq_some_iff.mp hu).1; simpa using this) (by have := (List.getElem?_eq_some_iff.mp hu2).1; simpa using this) fun v1 v2 h' tk e1 e2 z' O' s1 s2 hN hsz hk => ?_
    have ev1 : v1 = u := by
      have q : its.toArray[i]? = some u := by simpa using hu
      exact Option.some.inj (e1.symm.trans q)
    have ev2 : v2 = u2 := by
      have q : its2.toArray[i]? = some u2 := by simpa using hu2
      exact Option.some.inj (e2.symm.trans q)
    subst ev1 ev2
    refine ⟨_, rfl, wpAny_letOwnedTupleGo_zip (s := { s with heap := h', toks := tk }) z' fun h'' z'' sb => ?_⟩
    have nz : s.heap.objs.size ≠ z + 4 := Nat.ne_of_gt hzl
    have hN2 : h''.get? s.heap.objs.size = some { cls := .type "tuple", data := .seq #[v1, v2] } := (sb.2 _ nz).trans hN
    have new : ObjOk X.prog X.w (upd H s.heap.objs.size (.tup [x, y])) h'' s.heap.objs.size (.tup [x, y]) := ⟨by show 2 ≤ sizeLine; decide, [v1, v2], .cons ru (.cons ru2 .nil), ⟨_, hN2, rfl, _, rfl⟩⟩
    have I1 : Inv X pins σ (upd H s.heap.objs.size (.tup [x, y])) { s with heap := h'', toks := tk } :=
      I.turnedNew (t' := tk) (ch := zkFp z) (fun c o nc q => by
        have n1 : c ≠ z + 4 := fun e => nc (by simp [e])
        have n2 : c ≠ z + 3 := fun e => nc (by simp [e])
        have n3 : c ≠ z := fun e => nc (by simp [e])
        have n4 : c ≠ z + 1 := fun e => nc (by simp [e])
        exact (sb.2 c n1).trans (hk c o n1 n2 n3 n4 q)) hf (Nat.le_refl _) new
    refine ⟨.ref s.heap.objs.size, _, I1, rfl, ⟨_, x, y, rfl, I.hok.fresh (Nat.le_refl _), rfl, fun l hl => by rw [sqK_inj I hl qx]; exact hx, fun l hl => by rw [sqK_inj I hl qy]; exact hy⟩, ⟨z'', ?_, ⟨v1, v2, ?_⟩, ?_, ?_⟩, fun c hcm => ?_⟩
    · exact (sb.2 _ S.TIz).trans (hk _ _ S.TIz S.TITO S.TIi1 S.TIi2 hT)
    · exact (sb.2 _ S.TOz).trans O'
    · exact hit_keep s1.1 fun o q => (sb.2 _ S.zi1.symm).trans q
    · exact hit_keep s2.1 fun o q => (sb.2 _ S.zi2.symm).trans q
    · have hlt : c < s.heap.objs.size := by
        have e : c = z + 4 ∨ c = z + 2 ∨ c = z + 3 ∨ c = z ∨ c = z + 1 := by simpa using hcm
        have hz4 : z + 4 < s.heap.objs.size := hzl
        rcases e with q | q | q | q | q
        · rw [q]; exact hz4
        · rw [q]; exact Nat.lt_of_le_of_lt (Nat.add_le_add_left (by decide : (2 : Nat) ≤ 4) z) hz4
        · rw [q]; exact Nat.lt_of_le_of_lt (Nat.add_le_add_left (by decide : (3 : Nat) ≤ 4) z) hz4
        · rw [q]; exact Nat.lt_of_le_of_lt (Nat.le_add_right z 4) hz4
        · rw [q]; exact Nat.lt_of_le_of_lt (Nat.add_le_add_left (by decide : (1 : Nat) ≤ 4) z) hz4
      exact (upd_ne (Nat.ne_of_lt hlt)).trans (hf c hcm).1
  done := by
    intro X hP hw hK hc i pins s σ H E I hf st hg
    subst hP hw hK
    obtain ⟨hz, hT, ⟨x0, y0, hO⟩, h1, h2⟩ := st
    obtain ⟨xs, ys, qx, qy, he⟩ := hg
    obtain ⟨its, rv, p⟩ := sqK_at I qx
    obtain ⟨its2, rv2, p2⟩ := sqK_at I qy
    have l1 := rv.length
    have l2 := rv2.length
    have hd : X.A.in1.handled = none := I.ok.hd hc
    have S := zk_sep ha hb
    have na : a ≠ z := Nat.ne_of_lt ha
    have nb : b ≠ z + 1 := Nat.ne_of_lt (Nat.lt_succ_of_lt hb)
    exact wpAny_pyNext_zipD2_end S (drawsK k1 hd z a na its.toArray) (drawsK k2 hd (z + 1) b nb its2.toArray) hz hT hO ⟨h1, p⟩ ⟨h2, p2⟩ (by simp; omega) (by simp; omega) (by simp; omega) fun h' tk hk => ⟨rfl, I.turnedL (t' := tk) (ch := zkFp z) (fun c o nc q =>
      hk c o (fun e => nc (by simp [e])) (fun e => nc (by simp [e])) (fun e => nc (by simp [e])) (fun e => nc (by simp [e])) q) hf⟩
  self := fun A i s Q E st h => wpAny_pyIter_zip st.1 h
def iZipK (K : PySem.W.Frag) (ta : TA) : TI := fun σ H R => ta σ H fun vs H1 => ∃ k1 k2 a b xs ys, vs = [.ref a, .ref b] ∧ SqK K k1 H1 a xs ∧ SqK K k2 H1 b ys ∧ R (ItzK K k1 k2 a b) H1
theorem hsq_lt {k : Bool} {h : Heap} {a : Addr} {its : Array Value} (e : HSq k h a its) : a < h.objs.size := by
  cases k
  · obtain ⟨o, q, _⟩ := e
    exact Heap.lt_size q
  · exact IsTup.lt e
theorem pi_zipK {X : Cx} {e e2 : Expr} {ta : TA} {p pos tpos : Pos} {elts : List Expr} {kk : Nat} (hg : Gl X "zip") (hm : X.mg "zip" = none) (ha : PA X [e, e2] ta)
    (hs : starEach [e, e2] X.env = (false, eval e X.env) :: starEach [e2] X.env := by rfl) (hpl : (backTo pos (starEach [e2] X.env)).any (·.1) = false := by rfl) :
    PI X (.Tuple elts kk tpos) (.Call (.Name "zip" p) [e, e2] [] pos) (iZipK X.K ta) := by
  constructor
  intro pins s σ H R I h
  refine Call_ (ld_blt I hg hm PyProof.Rows.boot_zip (PyProof.Rows.callWith_type1 (thn (ha.run pos pins s σ H _ I h) fun us s1 ⟨vs, H1, I1, r1, k1, k2, a, b, xs, ys, ex, qx, qy, q⟩ => ?_) hs hpl))
  subst ex
  cases r1 with
  | cons r rr =>
    cases rr with
    | cons r' rr =>
      cases rr
      cases r
      cases r'
      obtain ⟨its, rv, p1⟩ := sqK_at I1 qx
      obtain ⟨its2, rv2, p2⟩ := sqK_at I1 qy
      refine call_zk k1 k2 p1 p2 fun h' hz hT hO g1 g2 hk => wpAny_pyIter_zip hz ?_
      have I2 : Inv X pins σ H1 { s1 with heap := h' } := I1.kept (t' := s1.toks) hk
      refine ⟨s1.heap.objs.size + 4, zkFp s1.heap.objs.size, _, _, H1, rfl, I2, turn_zk (hsq_lt p1) (hsq_lt p2), ⟨hz, hT, ⟨_, _, hO⟩, g1, g2⟩, fun c hcm => ?_, q⟩
      have hle : s1.heap.objs.size ≤ c := by
        have e : c = s1.heap.objs.size + 4 ∨ c = s1.heap.objs.size + 2 ∨ c = s1.heap.objs.size + 3 ∨ c = s1.heap.objs.size ∨ c = s1.heap.objs.size + 1 := by simpa using hcm
        rcases e with z | z | z | z | z <;> rw [z] <;> first | exact Nat.le_refl _ | exact Nat.le_add_right _ _
      exact I1.fpOk hle (I1.hok.fresh hle)
end JP
namespace JP
open PySem PySem.Spec PyProof.Rows L2
def spCopyF : Sp := fun vs H Q _ => ∃ y, vs = [y] ∧ flatV y = true ∧ Q y H
theorem flat_ki {y : V} (h : flatV y = true) (H : Hp) : ∃ k, IsKi H y k ∧ k.below .tup = false ∧ k.below .lst = false ∧ k.below .dct = false := by
  cases y with
  | non => exact ⟨.non, rfl, rfl, rfl, rfl⟩
  | bl b => exact ⟨.bl, ⟨b, rfl⟩, rfl, rfl, rfl⟩
  | int i => exact ⟨.int, ⟨i, rfl⟩, rfl, rfl, rfl⟩
  | str x => exact ⟨.str, ⟨x, rfl⟩, rfl, rfl, rfl⟩
  | _ => cases h
/-- its __init__ stores copies -/
def spE1F (K : PySem.W.Frag) (C : Addr) (f : Str) : Sp := fun vs H Q E => (∃ a y, vs = [.ref a, y] ∧ flatV y = true) ∧ spE1 K C f vs H Q E
def spE2F (K : PySem.W.Frag) (C : Addr) (f g : Str) : Sp := fun vs H Q E => (∃ a y z, vs = [.ref a, y, z] ∧ flatV y = true ∧ flatV z = true) ∧ spE2 K C f g vs H Q E
theorem mkE1F {K : PySem.W.Frag} {C : Addr} {f : Str} {y : V} {H1 : Hp} {Q E : XK} (q : ∀ d, H1 d = none → Q (.ref C) (some d) (upd H1 d (.xd [(f, y)]))) (fy : flatV y = true := by rfl) :
    [y].length ≤ 1000 ∧ ∀ a, H1 a = none → spE1F K C f (.ref a :: ([y] ++ [])) (upd H1 a (exo a C none))
      (fun v H2 => v = .non ∧ ∃ (d : Addr) (fs : List (Str × V)), H2 a = some (exo a C (some d)) ∧ H2 d = some (exd d fs) ∧ H1 d = none ∧ Q (.ref C) (some d) (upd (del H2 a) d (.xd fs))) E :=
  have m := mkE1 (K := K) (C := C) (f := f) (E := E) q
  ⟨m.1, fun a na => ⟨⟨a, y, rfl, fy⟩, m.2 a na⟩⟩
theorem mkE2F {K : PySem.W.Frag} {C : Addr} {f g : Str} {y z : V} {H1 : Hp} {Q E : XK} (q : ∀ d, H1 d = none → Q (.ref C) (some d) (upd H1 d (.xd [(g, z), (f, y)]))) (fy : flatV y = true := by rfl) (fz : flatV z = true := by rfl) :
    [y, z].length ≤ 1000 ∧ ∀ a, H1 a = none → spE2F K C f g (.ref a :: ([y, z] ++ [])) (upd H1 a (exo a C none))
      (fun v H2 => v = .non ∧ ∃ (d : Addr) (fs : List (Str × V)), H2 a = some (exo a C (some d)) ∧ H2 d = some (exd d fs) ∧ H1 d = none ∧ Q (.ref C) (some d) (upd (del H2 a) d (.xd fs))) E :=
  have m := mkE2 (K := K) (C := C) (f := f) (g := g) (E := E) q
  ⟨m.1, fun a na => ⟨⟨a, y, z, rfl, fy, fz⟩, m.2 a na⟩⟩
end JP
namespace JP
open PySem PySem.Spec PyProof.Rows L2
/-- (heap, dict, key, worth, heap behind) -/
abbrev StK := Hp → Addr → V → V → Hp → Prop
structure DicK (P : Program) (w : World) (u : Nat) (o0 : Addr → HO) (st : StK) : Prop where
  new : ∀ (H : Hp) (h : Heap), sysModules < h.objs.size → ObjOk P w H (h.push { cls := .type "dict", data := .dict #[] }) h.objs.size (o0 h.objs.size)
  put : ∀ (X : Cx) (pins : List (Addr × Obj)) (σ : L2.St) (H H' : Hp) (s : Shared) (E : Value → Shared → Prop) (D : Addr) (y z : V) (k r : Value) (Q : Unit → Shared → Prop), X.prog = P → X.w = w → X.A.units + u < cLine → Inv X pins σ H s → RelV y k → RelV z r → st H D y z H' →
    (∀ s', Inv X pins σ H' s' → Q () s') → wpAny (model X.prog X.w) X.A (dictSet D k r) Q E s
def tDcG (o0 : Addr → HO) (st : StK) (wi : TI) (g : TG) (tt : TT) (tk tv : TE) (vs : List Nat) : TE := fun σ H Q => wi σ H fun J H1 => ∀ D, H1 D = none → ∃ W : Nat → Nat → Hp → Prop, (∃ m, W 0 m (upd H1 D (o0 D))) ∧ ∀ i m H, W i m H →
  (J.stop i H ∧ Q (.ref D) H) ∨ (J.go i H ∧ ∃ Nx : Hp → Prop, (∀ H', Nx H' → ∃ m', m' < m ∧ W (i + 1) m' H') ∧ ∀ x H', J.yld i H x H' → g x (wipe σ vs) H' fun σ2 H2 => wipe σ2 vs = wipe σ vs ∧ tt σ2 H2 fun b H3 =>
    if b = true then tk σ2 H3 fun y H4 => tv σ2 H4 fun z H5 => ∃ H6, st H5 D y z H6 ∧ Nx H6 else Nx H3)
section
variable {X : Cx} {o0 : Addr → HO} {st : StK} {un : Nat}
theorem pe_dcG {kx vx tg iter : Expr} {ifs : List Expr} {scope : Scope} {own : List (Str × Nat)} {pos : Pos} {wi : TI} {g : TG} {tt : TT} {tk tv : TE} (DK : DicK X.prog X.w un o0 st) (hu : X.A.units + un < cLine) (calm : X.calm = true) (nd : X.N.Nodup) (it : PI X tg iter wi) (blk : BlkOk X.N X.env.scope scope own)
    (tgt : ∀ (s : Shared) (H : Hp) (C : Addr) (cl : List (Str × Addr)) (fp : List Addr), PG (X.blk s H scope (compEnvC scope cl C X.env) fp) tg g) (tst : ∀ (s : Shared) (H : Hp) (C : Addr) (cl : List (Str × Addr)) (fp : List Addr), PTs (X.blk s H scope (compEnvC scope cl C X.env) fp) ifs tt)
    (key : ∀ (s : Shared) (H : Hp) (C : Addr) (cl : List (Str × Addr)) (fp : List Addr), PE (X.blk s H scope (compEnvC scope cl C X.env) fp) kx tk)
    (val : ∀ (s : Shared) (H : Hp) (C : Addr) (cl : List (Str × Addr)) (fp : List Addr), PE (X.blk s H scope (compEnvC scope cl C X.env) fp) vx tv) (fold : ∀ x, foldedSetIterable iter X.env x = pure x := by intro _; rfl) :
    PE X (.DictComp kx vx [⟨tg, iter, ifs, 0⟩] scope pos) (tDcG o0 st wi g tt tk tv (own.map (·.2))) := by
  constructor
  intro pins s σ H Q I rd
  rw [arm_eval_DictComp]
  have cells : ∀ y ∈ scope.names, y.2 = .free → ∃ c, X.env.cells.lookup y.1 = some c := by
    intro y hy e
    rcases blk.free y hy e with k | k
    · exact I.ok.has _ (.inl k)
    · exact I.ok.has _ (.inr k)
  refine wpAny_comprehension_free rfl fold (closure_ok cells) blk.kind (fun y hy e => by rw [blk.uniq y hy, e]) (thn (it.run pins s σ H _ I rd) fun xv sa hxa => thn hxa fun itv sb hb => ?_)
  obtain ⟨a, fp, tn, J, Hb, rfl, Ib, T, stb, fpb, q⟩ := hb
  refine wpAny_newObj_type (newEnv_comp ?_)
  have fresh : Hb sb.heap.objs.size = none := Ib.hok.fresh (Nat.le_refl _)
  obtain ⟨W, ⟨m0, w0⟩, turn⟩ := q _ fresh
  generalize eD : sb.heap.objs.size = D at *
  -- the heap with the empty dict
  obtain ⟨sc, esc⟩ : ∃ sc : Shared, sc = { sb with heap := sb.heap.push { cls := .type "dict", data := .dict #[] } } := ⟨_, rfl⟩
  have hsc : sc.heap = sb.heap.push { cls := .type "dict", data := .dict #[] } := by rw [esc]
  have Ic : Inv X pins σ (upd Hb D (o0 D)) sc := by
    rw [esc, ← eD]
    exact Ib.laid (t' := sb.toks) (fun b o e => Heap.get?_push_of_some _ e) (Nat.le_refl _) (DK.new _ sb.heap Ib.big)
  rw [← esc]
  obtain ⟨Hc, eHc⟩ : ∃ Hc : Hp, Hc = upd Hb D (o0 D) := ⟨_, rfl⟩
  rw [← eHc] at Ic w0
  have below : ∀ b ∈ fp, b < sb.heap.objs.size := by
    intro b hb
    obtain ⟨o, e, _⟩ := T.obj _ _ stb b hb
    exact Heap.lt_size e
  have fpc : ∀ b ∈ fp, FpOk X pins Hc b ∧ b < sc.heap.objs.size := by
    intro b hb
    have lt := below b hb
    have ne : b ≠ D := by rw [← eD]; exact Nat.ne_of_lt lt
    refine ⟨⟨?_, (fpb b hb).2⟩, ?_⟩
    · rw [eHc, upd_ne ne]
      exact (fpb b hb).1
    · rw [hsc, Heap.size_push]
      exact Nat.lt_succ_of_lt lt
  have stc : tn 0 sc.heap := T.keep _ _ _ stb fun b _ o e => by rw [hsc]; exact Heap.get?_push_of_some _ e
  have Id := block_start Ic blk nd fpc
  obtain ⟨L, eL⟩ : ∃ L : Addr, L = sc.heap.objs.size := ⟨_, rfl⟩
  obtain ⟨ce, ece⟩ : ∃ ce : Env, ce = compEnvC scope (cellsFrom (L + 1) scope.names (cloFrom X.env.cells scope.names [])) L X.env := ⟨_, rfl⟩
  have tgt' := tgt sc Hc L (cellsFrom (L + 1) scope.names (cloFrom X.env.cells scope.names [])) fp
  have tst' := tst sc Hc L (cellsFrom (L + 1) scope.names (cloFrom X.env.cells scope.names [])) fp
  have key' := key sc Hc L (cellsFrom (L + 1) scope.names (cloFrom X.env.cells scope.names [])) fp
  have val' := val sc Hc L (cellsFrom (L + 1) scope.names (cloFrom X.env.cells scope.names [])) fp
  rw [← ece] at tgt' tst' key' val'
  rw [← eL, ← ece] at Id
  have ceL : ce.locals = L := by rw [ece]; rfl
  obtain ⟨sd, esd⟩ : ∃ sd : Shared, sd = { sc with heap := pushCells (sc.heap.push { cls := .type "dict", data := .dict #[] }) scope.names } := ⟨_, rfl⟩
  rw [← esd] at Id
  have std : tn 0 sd.heap := T.keep _ _ _ stc fun b _ o e => by rw [esd]; exact pushCells_keeps _ _ _ _ (Heap.get?_push_of_some _ e)
  have non : ∀ b ∈ fp, Hc b = none := fun b hb => (fpc b hb).1.1
  have pin : ∀ {σ' : L2.St} {H' : Hp} {s' : Shared}, Inv (X.blk sc Hc scope ce fp) [] σ' H' s' → (∀ b ∈ fp, H' b = none) → ∀ b ∈ fp, FpOk (X.blk sc Hc scope ce fp) [] H' b := by
    intro σ' H' s' I' n b hb
    exact ⟨n b hb, (I'.ok.exf b hb).1, I'.ok.exfs b hb, .inl hb, fun x c e => (I'.ok.exf b hb).2 x c e, fun p hp => by simp at hp⟩
  have loop : codeAny (model X.prog X.w) X.A (.compLoop (.DictComp kx vx [⟨tg, iter, ifs, 0⟩] scope pos) 0 (.ref a) (.ref D) ce) (compPost (model X.prog X.w) X.A X.xe none (fun v s' => EP X pins σ Q v s') (.ref D) L) sd := by
    refine compLoop_anyD (fun n s' => ∃ i H', Inv (X.blk sc Hc scope ce fp) [] (wipe σ (own.map (·.2))) H' s' ∧ tn i s'.heap ∧ (∀ b ∈ fp, H' b = none) ∧ W i n H') ?_ m0 ⟨0, Hc, Id, std, non, w0⟩
    rintro n se ⟨i, He, Ie, ste, ne, we⟩
    rcases turn i n He we with ⟨stop, qq⟩ | ⟨go, Nx, back, step⟩
    · refine thnF (T.done (X.blk sc Hc scope ce fp) rfl rfl rfl calm i [] se _ He (fun _ _ => False) Ie (pin Ie ne) ste stop) fun r sf ⟨er, If⟩ => ?_
      subst er
      have Ig : Inv X pins σ He sf := Ic.call' (ch := fp) If.os If.base If.hok If.bare fun b hb => let z := (fpc b hb).1.2; ⟨z.2.2.1, z.1, z.2.2.2.1, z.2.2.2.2⟩
      have nL : He L = none := by
        have z : He ce.locals = none := If.free
        rw [ceL] at z
        exact z
      obtain ⟨m, hn, _⟩ := If.loc
      have hn' : sf.heap.Ns L m := by
        have z : sf.heap.Ns ce.locals m := hn
        rw [ceL] at z
        exact z
      refine ⟨m, hn', fun h'' sb' => ?_⟩
      obtain ⟨f0, f1, _, f3, f4, f5⟩ := Ic.fpOk (Nat.le_of_eq eL.symm) nL
      exact ⟨.ref D, He, Ig.turned (t' := sf.toks) (fun b o hb e => (sb'.2 b hb).trans e) f0 f1 f3 f4 f5, rfl, qq⟩
    · refine thnF (T.item (X.blk sc Hc scope ce fp) rfl rfl rfl calm i [] se _ He (fun _ _ => False) Ie (pin Ie ne) ste go) fun r sf ⟨u, er, hf⟩ => ?_
      subst er
      refine thnF hf fun _ sg ⟨x, Hg, Ig, rg, yg, stg, ng⟩ => ?_
      have Ig' := Ig.pinned (pin Ig ng) (T.obj _ _ stg)
      refine thnF (tgt'.run _ sg _ Hg x u _ Ig' rg (step x Hg yg)) fun _ sh ⟨σh, Hh, Ih, hw, qh⟩ => ?_
      refine thnF (tst'.run _ sh σh Hh _ Ih qh) fun b si ⟨Hi, Ii, qi⟩ => ?_
      have over : ∀ {s' : Shared} {H' : Hp}, Inv (X.blk sc Hc scope ce fp) ([] ++ pinsAt fp sg.heap) σh H' s' → Nx H' → ∃ m, m < n ∧ ∃ i H', Inv (X.blk sc Hc scope ce fp) [] (wipe σ (own.map (·.2))) H' s' ∧ tn i s'.heap ∧ (∀ b ∈ fp, H' b = none) ∧ W i m H' := by
        intro s' H' I' nx
        obtain ⟨m', lt, w'⟩ := back H' nx
        have held : ∀ b ∈ fp, ∀ o, sg.heap.get? b = some o → s'.heap.get? b = some o ∧ H' b = none := by
          intro b hb o e
          have z := I'.pin (b, o) (List.mem_append_right _ (List.mem_append_right _ (mem_pinsAt hb e)))
          exact ⟨z.1, z.2.1⟩
        have len : (wipe σ (own.map (·.2))).length = σh.length := by rw [← hw, wipe_length]
        refine ⟨m', lt, i + 1, H', (I'.unpinned (pins := [])).weak len ?_, T.keep _ _ _ stg fun b hb o e => (held b hb o e).1, ?_, w'⟩
        · intro j v e
          rw [← hw] at e
          exact (wipe_some e).1
        · intro b hb
          obtain ⟨o, e, _⟩ := T.obj _ _ stg b hb
          exact (held b hb o e).2
      cases b with
      | false =>
        rw [if_neg Bool.false_ne_true] at qi ⊢
        exact over Ii qi
      | true =>
        rw [if_pos rfl] at qi ⊢
        refine thnF (key'.run _ si σh Hi _ Ii qi) fun k sj ⟨yk, Hj, Ij, rj, qj⟩ => ?_
        refine thnF (val'.run _ sj σh Hj _ Ij qj) fun z sk ⟨yv, Hk, Ik, rk, H6, hst, nx⟩ => ?_
        exact DK.put (X.blk sc Hc scope ce fp) _ σh Hk H6 sk _ D yk yv k z _ rfl rfl hu Ik rj rk hst fun s' I' => over I' nx
  rw [← eL]
  show codeAny _ _ (.compStart _ 0 (.ref a) (.ref D) (compEnvC scope (cellsFrom (L + 1) scope.names (cloFrom X.env.cells scope.names [])) L X.env)) (compPost _ _ _ _ _ (.ref D) L) { sc with heap := pushCells (sc.heap.push { cls := .type "dict", data := .dict #[] }) scope.names }
  rw [← ece, ← esd]
  exact codeAny_compStart_dict loop (T.self X.A 0 _ _ _ std loop)
end
end JP
namespace JP
open PySem PySem.W PySem.Spec PySem.Calls PyProof.Rows
section
variable {prog : Program} {w : World} {A : Around} {E : Value → Shared → Prop} {s : Shared} {K : Frag} {x C L f : Addr} {h₀ : Heap} {m : Str → Option Value} {ox : Obj} {od : Option Obj}
/-- what is looked up of y's type tb: it is C, or another one -/
structure RightTy (prog : Program) (w : World) (C : Addr) (nm : String) (h : Heap) (b tb : Value) : Prop where
  ty : Looks (model prog w) h (typeOf b) tb
  ne : (Value.ref C == tb) = false
  fill : ∃ right, Looks (model prog w) h (fillsNumberSlot tb nm) right
  sub : Looks (model prog w) h (isSubtype tb (.ref C)) false
  inPy : ∃ py, Looks (model prog w) h (numberSlotInPython tb nm) py
  rev : ∃ ro, Looks (model prog w) h (typeLookup tb (dunderR nm)) ro
def RightOk (prog : Program) (w : World) (C : Addr) (nm : String) (h : Heap) (b : Value) : Prop := Looks (model prog w) h (typeOf b) (.ref C) ∨ ∃ tb, RightTy prog w C nm h b tb
/-- the own class's facts for one sign -/
structure LeftOp (K : Frag) (C : Addr) (nm : String) (f : Addr) : Prop where
  first : selfFirst K C = true
  at_ : findIn K (.ref C) (PySem.dunder nm) = some (some (.ref f))
  fn : isFn K (.ref f) = true
  rev : findIn K (.ref C) (dunderR nm) = some none ∨ ∃ g : Addr, findIn K (.ref C) (dunderR nm) = some (some (.ref g))
theorem bin1_own {nm : String} {b : Value} {Q : Value → Shared → Prop} (F : Fr h₀ L s.heap m) (X₀ : K.In h₀) (I : InstAt s.heap x ox C od) (O : LeftOp K C nm f) (T : RightOk prog w C nm s.heap b)
    (h : wpAny (model prog w) A (call (.ref f) [.ref x, b]) (PySem.W.CmpBack Q) E s) : wpAny (model prog w) A (binaryOp1 nm (.ref x) b) (fun r s' => ∃ v, r = some v ∧ Q v s') E s := by
  have X := X₀.keeps F.keep
  obtain ⟨cd, rest, hcd, hm⟩ := ksp_first O.first
  have one := ksp_try X I O.at_ O.fn h
  have l3' : Looks (model prog w) s.heap (numberSlotInPython (.ref C) nm) true := by
    rcases O.rev with e | ⟨g, e⟩
    · exact ksp_inPy X O.at_ e (.inl rfl)
    · exact ksp_inPy X O.at_ e (.inr ⟨g, rfl⟩)
  obtain ⟨hh, g, d, tt, os⟩ := s
  have l1 : Looks (model prog w) hh (typeOf (.ref x)) (.ref C) := I.type
  have l2 : Looks (model prog w) hh (fillsNumberSlot (.ref C) nm) true := fills_K X hcd hm O.at_
  have l3 : Looks (model prog w) hh (numberSlotInPython (.ref C) nm) true := l3'
  rcases T with t1 | ⟨tb, t1, t2, ⟨right, t3⟩, t4, ⟨py, t5⟩, ⟨ro, t6⟩⟩
  · dsimp only at t1
    unfold binaryOp1
    refine wpAny_bind (l1.at (wpAny_bind (t1.at (wpAny_bind (l2.at ?_)))))
    simp only [beq_self_eq_true, if_true]
    ksp_lk
    refine wpAny_mono one (fun r s' q => ?_) fun _ _ e => e
    obtain ⟨v, rfl, hq⟩ := q
    ksp_lk
    exact ⟨v, rfl, hq⟩
  · dsimp only at t1 t3 t4 t5 t6
    unfold binaryOp1
    refine wpAny_bind (l1.at (wpAny_bind (t1.at (wpAny_bind (l2.at ?_)))))
    simp only [t2, Bool.false_eq_true, if_false]
    cases right <;> cases py
    all_goals
      ksp_lk
      refine wpAny_mono one (fun r s' q => ?_) fun _ _ e => e
      obtain ⟨v, rfl, hq⟩ := q
      ksp_lk
      exact ⟨v, rfl, hq⟩
theorem bin_own {op : Operator} {b : Value} {Q : Value → Shared → Prop} (F : Fr h₀ L s.heap m) (X₀ : K.In h₀) (I : InstAt s.heap x ox C od) (O : LeftOp K C op.info.2 f) (T : RightOk prog w C op.info.2 s.heap b)
    (h : wpAny (model prog w) A (call (.ref f) [.ref x, b]) (PySem.W.CmpBack Q) E s) : wpAny (model prog w) A (binaryOp op (.ref x) b) Q E s := by
  have one := bin1_own F X₀ I O T h
  unfold binaryOp
  refine wpAny_holding (wpAny_bind (wpAny_mono one (fun r s' q => ?_) fun _ _ e => e))
  obtain ⟨v, rfl, hq⟩ := q
  exact wpAny_pure hq
/-- a value of a builtin type on the right -/
theorem right_ty {nm T : String} {h : Heap} {b : Value} {fo ro : Option Value} (X : K.In h) (hb : Looks (model prog w) h (typeOf b) (.type T)) (h1 : findIn K (.type T) (PySem.dunder nm) = some fo) (h2 : findIn K (.type T) (dunderR nm) = some ro)
    (hsub : subIn K (.type T) (.ref C) = some false) : RightOk prog w C nm h b :=
  .inr ⟨.type T, hb, Bool.eq_false_iff.mpr fun q => (by cases beq_iff_eq.mp q), ⟨_, ksp_fillsT X h1 h2⟩, looks_subIn X hsub, ⟨false, Looks.of_pure rfl⟩, ⟨ro, looks_findIn X h2⟩⟩
/-- an instance of another own class with this sign -/
theorem right_own {nm : String} {h : Heap} {b : Value} {C2 f2 : Addr} (X : K.In h) (hb : Looks (model prog w) h (typeOf b) (.ref C2)) (O : LeftOp K C2 nm f2) (hne : (Value.ref C == Value.ref C2) = false) (hsub : subIn K (.ref C2) (.ref C) = some false) : RightOk prog w C nm h b := by
  obtain ⟨cd, rest, hcd, hm⟩ := ksp_first O.first
  rcases O.rev with e | ⟨g, e⟩
  · exact .inr ⟨.ref C2, hb, hne, ⟨true, fills_K X hcd hm O.at_⟩, looks_subIn X hsub, ⟨true, ksp_inPy X O.at_ e (.inl rfl)⟩, ⟨_, looks_findIn X e⟩⟩
  · exact .inr ⟨.ref C2, hb, hne, ⟨true, fills_K X hcd hm O.at_⟩, looks_subIn X hsub, ⟨true, ksp_inPy X O.at_ e (.inr ⟨g, rfl⟩)⟩, ⟨_, looks_findIn X e⟩⟩
end
end JP
namespace JP
open PySem PySem.Spec PyProof.Rows L2
section
variable {X : Cx} {pins : List (Addr × Obj)} {σ : L2.St} {H : Hp} {s : Shared}
theorem looks_obj {M : Model} {h : Heap} {a : Addr} {o : Obj} {T : String} (e : h.get? a = some o) (c : o.cls = .type T) : PySem.W.Looks M h (typeOf (.ref a)) (.type T) :=
  fun A Q E s k q => wpAny_typeOf ⟨o, k _ _ e, c⟩ q
theorem looks_ty {y : V} {u : Value} {T : String} (I : Inv X pins σ H s) (r : RelV y u) (ty : TyOf X.K H y (.type T)) : PySem.W.Looks (model X.prog X.w) s.heap (typeOf u) (.type T) := by
  generalize ht : (Value.type T) = t at ty
  cases ty with
  | non =>
    cases ht
    cases (show u = Value.none from r)
    exact .of_pure rfl
  | bl b =>
    cases ht
    cases (show u = Value.bool _ from r)
    exact .of_pure rfl
  | int i =>
    cases ht
    obtain ⟨t, rfl⟩ := (show ∃ t, u = Value.int _ t from r)
    exact .of_pure rfl
  | str x =>
    cases ht
    obtain ⟨t, rfl⟩ := (show ∃ t, u = Value.str _ t from r)
    exact .of_pure rfl
  | flt x =>
    cases ht
    obtain ⟨t, rfl⟩ := (show ∃ t, u = Value.float _ t from r)
    exact .of_pure rfl
  | lst e =>
    cases ht
    cases (show u = Value.ref _ from r)
    obtain ⟨_, its, n, _, g⟩ := (show ObjOk X.prog X.w H s.heap _ (.lst _) from I.hok _ _ e)
    exact looks_obj g rfl
  | frz e =>
    cases ht
    cases (show u = Value.ref _ from r)
    obtain ⟨_, _, its, n, _, g⟩ := (show ObjOk X.prog X.w H s.heap _ (.frz _ (.lst _)) from I.hok _ _ e)
    exact looks_obj g rfl
  | tup e =>
    cases ht
    cases (show u = Value.ref _ from r)
    obtain ⟨_, its, _, o, g, c, _⟩ := (show ObjOk X.prog X.w H s.heap _ (.tup _) from I.hok _ _ e)
    exact looks_obj g c
  | dK e =>
    cases ht
    cases (show u = Value.ref _ from r)
    obtain ⟨_, _, vs, _, o, _, _, g, c, _⟩ := (show ObjOk X.prog X.w H s.heap _ (.dK _) from I.hok _ _ e)
    exact looks_obj g c.1
  | dT e =>
    cases ht
    cases (show u = Value.ref _ from r)
    obtain ⟨_, _, xs, _, o, es, ep, g, c, _⟩ := (show ObjOk X.prog X.w H s.heap _ (.dT _) from I.hok _ _ e)
    exact looks_obj g c.1
  | ins e => cases ht
theorem looks_tyX {y : V} {u : Value} {T : String} (I : Inv X pins σ H s) (r : RelV y u) (ty : TyX X.K H y (.type T)) : PySem.W.Looks (model X.prog X.w) s.heap (typeOf u) (.type T) := by
  generalize ht : (Value.type T) = t at ty
  cases ty with
  | base h =>
    subst ht
    exact looks_ty I r h
  | byt b =>
    cases ht
    obtain ⟨t, rfl⟩ := (show ∃ t, u = Value.bytes _ t from r)
    exact .of_pure rfl
  | set e =>
    cases ht
    cases (show u = Value.ref _ from r)
    obtain ⟨o, _, _, _, g, c, _⟩ := (show ObjOk X.prog X.w H s.heap _ (.set _ _) from I.hok _ _ e)
    exact looks_obj g c.1
  | kList e c =>
    cases ht
    cases (show u = Value.ref _ from r)
    exact looks_obj (I.kIn _ _ e) c
  | kTuple e c =>
    cases ht
    cases (show u = Value.ref _ from r)
    exact looks_obj (I.kIn _ _ e) c
  | kDict e c =>
    cases ht
    cases (show u = Value.ref _ from r)
    exact looks_obj (I.kIn _ _ e) c
  | fTuple e =>
    cases ht
    cases (show u = Value.ref _ from r)
    obtain ⟨_, _, its, _, o, g, c, _⟩ := (show ObjOk X.prog X.w H s.heap _ (.frz _ (.tup _)) from I.hok _ _ e)
    exact looks_obj g c
  | fDict e =>
    cases ht
    cases (show u = Value.ref _ from r)
    obtain ⟨_, _, _, vs, _, o, _, _, g, c, _⟩ := (show ObjOk X.prog X.w H s.heap _ (.frz _ (.dK _)) from I.hok _ _ e)
    exact looks_obj g c.1
/-- y may stand right of a sign of the class C: what is known of the classes alone -/
inductive RtK (K : PySem.W.Frag) (C : Addr) (nm : String) : Value → Prop
  | same : RtK K C nm (.ref C)
  | own {C2 f2 : Addr} : LeftOp K C2 nm f2 → (Value.ref C == Value.ref C2) = false → PySem.W.subIn K (.ref C2) (.ref C) = some false → RtK K C nm (.ref C2)
  | ty {T : String} {fo ro : Option Value} : PySem.W.findIn K (.type T) (PySem.dunder nm) = some fo → PySem.W.findIn K (.type T) (dunderR nm) = some ro → PySem.W.subIn K (.type T) (.ref C) = some false → RtK K C nm (.type T)
theorem right_of {C : Addr} {nm : String} {y : V} {u t : Value} (I : Inv X pins σ H s) (r : RelV y u) (ty : TyX X.K H y t) (k : RtK X.K C nm t) : RightOk X.prog X.w C nm s.heap u := by
  cases k with
  | ty h1 h2 h3 => exact right_ty I.kIn (looks_tyX I r ty) h1 h2 h3
  | same =>
    cases ty with
    | base ty =>
      cases ty with
      | ins e =>
        cases (show u = Value.ref _ from r)
        obtain ⟨oy, oe, J⟩ := ins_inst I e
        exact .inl J.type
  | own O ne sub =>
    cases ty with
    | base ty =>
      cases ty with
      | ins e =>
        cases (show u = Value.ref _ from r)
        obtain ⟨oy, oe, J⟩ := ins_inst I e
        exact right_own I.kIn J.type O ne sub
variable {CX : CXT} {k : Nat} {C g : Addr} {fd : FuncData} {ps : List Str} {sp : Sp} {E : XK} {op : Operator}
def rOwn (K : PySem.W.Frag) (C : Addr) (nm : String) (sp : Sp) (E : XK) : R2 := fun x y H Q => ∃ a dx fs t, x = .ref a ∧ H a = some (.ins C dx fs) ∧ TyX K H y t ∧ RtK K C nm t ∧ sp [.ref a, y] H (fun v H' => (∃ c, v = .ref c) ∧ Q v H') E
theorem back_ref {Q : VK} {w : Value} {s' : Shared} (z : ∃ v H', Inv X pins σ H' s' ∧ RelV v w ∧ (∃ c, v = V.ref c) ∧ Q v H') : PySem.W.CmpBack (EP X pins σ Q) w s' := by
  obtain ⟨v, H', I', rv, ⟨c, rfl⟩, q⟩ := z
  obtain rfl : w = Value.ref c := rv
  exact ⟨.ref c, H', I', rfl, q⟩
theorem op_own (O : LeftOp X.K C op.info.2 g) (F : FnOk X.prog X.w X.K X.mg X.base CX k g fd ps sp) (hb : Binds X.K fd ps []) (hr : Room k X.A) (hx : Passes CX X E) : OpR X (binaryOp op) (rOwn X.K C op.info.2 sp E) := by
  intro pins s σ H x y v u Q I rx ry h
  obtain ⟨a, dx, fs, t, rfl, ha, ty, rt, q⟩ := h
  obtain rfl : v = Value.ref a := rx
  obtain ⟨ox, od, J⟩ := ins_inst I ha
  obtain ⟨m, hF⟩ := I.fr
  refine bin_own hF I.ok.mod.kin J O (right_of I ry ty rt) ?_
  exact wpAny_mono (call_at (us := [.ref a, u]) (vs := [.ref a, y]) F hb hr hx I I.env0 (.cons rfl (.cons ry .nil)) q) (fun w s' z => back_ref z) fun _ _ z => z
end
end JP
namespace JP
open PySem PySem.Spec PyProof.Rows L2 StX
section
variable {X : Cx} {CX : CXT} {k : Nat} {f C : Addr} {sp : Sp} {E : XK} {x : Str} {e : Expr} {es : List Expr} {te : TE} {t : TA} {p sp_ pos : Pos}
theorem pe_makeS1 (M : Mk X.K C f) (F : FnR X.prog X.w X.K X.mg X.base CX k f sp) (hr : Room (k + 1) X.A) (hg : Gl X x) (hm : X.mg x = some (.ref C)) (hx : Passes CX X E) (he : PE X e te) (hdb : (x == ("__debug__" : Str)) = false := by decide)
    (hst : starEach [.Starred e sp_] X.env = [(true, eval e X.env)] := by rfl) : PE X (.Call (.Name x p) [.Starred e sp_] [] pos) (tMakeR C sp E (tStar X.K te tNil)) := by
  constructor
  intro pins s σ H Q I h
  refine wpAny_Call_Name_kw (ld_glob I hg hm (PySem.W.callWith_S (h₀ := X.base) I.ok.mod.kin M.kp (thn (he.run pins s σ H _ I h) fun v s1 z => ?_) hst) hdb)
  obtain ⟨y, H1, I1, ry, a, xs, rfl, hxs, q⟩ := z
  obtain rfl : v = Value.ref a := ry
  refine star_any I1 hxs fun us s2 I2 rv => ⟨I2.kIn, run_makeR M F hr hx I2 rv ?_⟩
  have q' : ∀ x dx, _ := q
  rw [List.append_nil] at q'
  exact q'
theorem pe_makeR0 (M : Mk X.K C f) (F : FnR X.prog X.w X.K X.mg X.base CX k f sp) (hr : Room (k + 1) X.A) (hg : Gl X x) (hm : X.mg x = some (.ref C)) (hx : Passes CX X E) (hdb : (x == ("__debug__" : Str)) = false := by decide) : PE X (.Call (.Name x p) [] [] pos) (tMakeR C sp E tNil) := by
  constructor
  intro pins s σ H Q I h
  exact wpAny_Call_Name_kw (ld_glob I hg hm (PySem.W.callWith_K0 I.kIn M.kp (run_makeR (us := []) M F hr hx I .nil h)) hdb)
end
end JP
namespace PySem
end PySem
namespace PySem
end PySem
namespace JP
open PySem PySem.Spec PyProof.Rows L2
def CpOut (H H1 : Hp) (y z : V) : Prop := (flatV y = true ∧ z = y ∧ H1 = H) ∨ (∃ a xs p, y = .ref a ∧ H a = some (.tup xs) ∧ z = .ref p ∧ Same H H1 ∧ H p = none ∧ H1 p = some (.tup xs)) ∨ (∃ a xs p, y = .ref a ∧ H a = some (.lst xs) ∧ z = .ref p ∧ Same H H1 ∧ H p = none ∧ H1 p = some (.lst xs)) ∨
  (∃ a kvs p, y = .ref a ∧ Rd H a (.dK kvs) ∧ z = .ref p ∧ Same H H1 ∧ H p = none ∧ H1 p = some (.dK kvs))
theorem CpOut.same {H H1 : Hp} {y z : V} (h : CpOut H H1 y z) : Same H H1 := by
  rcases h with ⟨_, _, rfl⟩ | ⟨_, _, _, _, _, _, s, _⟩ | ⟨_, _, _, _, _, _, s, _⟩ | ⟨_, _, _, _, _, _, s, _⟩
  · exact .refl _
  · exact s
  · exact s
  · exact s
end JP
namespace JP
open PySem PySem.Spec PyProof.Rows L2
def kP : Key → PyData
  | .inl i => .int i
  | .inr x => .str x
/-- a flat value as data -/
def vP : V → PyData
  | .bl b => .bool b
  | .int i => .int i
  | .str x => .str x
  | _ => .none
/-- what is shown: plain data, or a dict of one at most -/
inductive Sho (K : PySem.W.Frag) (H : Hp) : V → PyData → Prop
  | plain {v : V} {d : PyData} : Dp K H v d → d.hasDict = false → Sho K H v d
  | dic {a : Addr} {kvs : List (Key × V)} : Rd H a (.dK kvs) → (∀ p ∈ kvs, flatV p.2 = true) → Sho K H (.ref a) (.dict (kvs.map fun p => (kP p.1, vP p.2)))
theorem flat_reads {h : Heap} {v : V} {u : Value} (f : flatV v = true) (r : RelV v u) : Reads h u (vP v) [] := by
  cases v with
  | non => cases r; exact .none
  | bl b => cases r; exact .bool b
  | int i => obtain ⟨t, rfl⟩ := r; exact .int i t
  | str x => obtain ⟨t, rfl⟩ := r; exact .str x t
  | _ => cases f
theorem keys_reads {h : Heap} : ∀ (k : Key) (key : Value), keyIs k key = true → Reads h key (kP k) [] := fun k key e => by
  rcases keyIs_shape e with ⟨i, t, rfl, rfl⟩ | ⟨x, t, rfl, rfl⟩
  · exact .int i t
  · exact .str x t
theorem pairs_reads {h : Heap} : ∀ {kvs : List (Key × V)} {vs : List (Key × Value)}, KV kvs vs → (∀ p ∈ kvs, flatV p.2 = true) → PyProof.V.PairsRead h kP vs (kvs.map fun p => (kP p.1, vP p.2)) [] := by
  intro kvs vs r
  unfold KV at r
  induction r with
  | nil => intro _; exact .nil
  | @cons p q ps qs e t ih =>
    intro hf
    obtain ⟨k, v⟩ := p
    obtain ⟨k', u⟩ := q
    obtain ⟨e1, e2⟩ := e
    dsimp only at e1 e2
    subst e1
    exact .cons (as := []) (bs := []) (flat_reads (hf _ List.mem_cons_self) e2) (ih fun p hp => hf p (List.mem_cons_of_mem _ hp))
section
variable {X : Cx} {pins : List (Addr × Obj)} {σ : L2.St} {H : Hp} {s : Shared}
theorem Sho.reads {v : V} {u : Value} {d : PyData} (I : Inv X pins σ H s) (h : Sho X.K H v d) (r : RelV v u) : ∃ as, Reads s.heap u d as ∧ (d.hasDict = true → sysModules ∉ as) := by
  cases h with
  | plain h n =>
    obtain ⟨as, q⟩ := Dp.reads I d v u h r
    exact ⟨as, q, fun z => by rw [n] at z; cases z⟩
  | @dic a kvs h f =>
    cases r
    obtain ⟨_, hd, vs, rel, dd⟩ := dk_rd I.hok h
    refine ⟨[a], PyProof.V.reads_dictOf (enc := kP) keys_reads dd (pairs_reads rel f), fun _ hm => ?_⟩
    rw [List.mem_singleton.mp hm] at hd
    exact absurd hd (by simp)
end
end JP
namespace JP
open PySem PySem.Spec PyProof.Rows L2
abbrev Row := List PySem.Leaf
def lV : PySem.Leaf → V
  | .none => .non
  | .num i => .int i
  | .text x => .str x
abbrev rowK (P : Program) (w : World) := tupleKind (PySem.leafKind P w)
/-- the hash of a row in a world -/
def rowH (w : World) (k : Row) : Int := (rowK default w).hash k
/-- key, the key's tuple, value -/
abbrev EntN := List (Row × Addr × V)
abbrev RelN : EntN → List (Row × Addr × Value) → Prop := Paired fun p q => p.1 = q.1 ∧ p.2.1 = q.2.1 ∧ RelV p.2.2 q.2.2
/-- at d stands such a dict -/
def dnO (hf : Row → Int) (d : Addr) (es : EntN) : HO := .ext fun h => es.length ≤ sizeLine ∧ (d == sysModules) = false ∧ (es.map (·.1)).Nodup ∧
  ∃ xs, RelN es xs ∧ ∃ o ents ep, h.get? d = some o ∧ o.ExactDict ∧ o.data = .dict ents ep ∧ ents.toList = xs.map fun x => (⟨hf x.1, .ref x.2.1, x.2.2⟩ : DictEntry)
/-- the keys' tuples stand where they are told -/
def KsN (H : Hp) (es : EntN) : Prop := ∀ p ∈ es, H p.2.1 = some (.tup (p.1.map lV))
theorem KsN.same {H H' : Hp} {es : EntN} (s : Same H H') (k : KsN H es) : KsN H' es := fun p hp => s _ _ (k p hp)
def valN (es : EntN) (k : Row) : Option V := (es.find? fun p => decide (p.1 = k)).map (·.2.2)
def putN (es : EntN) (k : Row) (b : Addr) (v : V) : EntN := if (valN es k).isSome = true then es.map (fun p => if p.1 = k then (p.1, p.2.1, v) else p) else es ++ [(k, b, v)]
section
variable {P : Program} {w : World} {H : Hp} {h : Heap} {d a : Addr} {es : EntN} {xs : List (Row × Addr × Value)} {k : Row}
theorem RelN.keys (r : RelN es xs) : es.map (·.1) = xs.map (·.1) := by
  induction r with
  | nil => rfl
  | cons h _ ih => rw [List.map_cons, List.map_cons, ih, h.1]
theorem RelN.val (r : RelN es xs) (k : Row) : RelO (valN es k) ((atKey xs k).map (·.2)) := by
  induction r with
  | nil => exact True.intro
  | @cons p q ps qs h t ih =>
    obtain ⟨h1, _, h2⟩ := h
    by_cases e : p.1 = k
    · have e' : q.1 = k := h1.symm.trans e
      have b1 : valN (p :: ps) k = some p.2.2 := by simp [valN, List.find?_cons, e]
      have b2 : atKey (q :: qs) k = some q.2 := by simp [atKey, List.find?_cons, e']
      rw [b1, b2]
      exact h2
    · have e' : ¬ q.1 = k := fun z => e (h1.trans z)
      have b1 : valN (p :: ps) k = valN ps k := by simp [valN, List.find?_cons, e]
      have b2 : atKey (q :: qs) k = atKey qs k := by simp [atKey, List.find?_cons, e']
      rw [b1, b2]
      exact ih
theorem RelN.repl (r : RelN es xs) (k : Row) {y : V} {u : Value} (ry : RelV y u) : RelN (es.map fun p => if p.1 = k then (p.1, p.2.1, y) else p) (xs.map (putAt k u)) := by
  induction r with
  | nil => exact .nil
  | @cons p q ps qs h t ih =>
    rw [List.map_cons, List.map_cons]
    refine .cons ?_ ih
    obtain ⟨h1, h2, h3⟩ := h
    unfold putAt
    by_cases e : p.1 = k
    · rw [if_pos e, if_pos (h1.symm.trans e)]
      exact ⟨h1, h2, ry⟩
    · rw [if_neg e, if_neg fun z => e (h1.trans z)]
      exact ⟨h1, h2, h3⟩
theorem RelN.put (r : RelN es xs) (k : Row) (b : Addr) {y : V} {u : Value} (ry : RelV y u) : RelN (putN es k b y) (storedH xs k b u) := by
  have e : (valN es k).isSome = (atKey xs k).isSome := by rw [(r.val k).isSome_eq, Option.isSome_map]
  unfold putN storedH
  rw [e]
  by_cases q : (atKey xs k).isSome = true
  · rw [if_pos q, if_pos q]
    exact r.repl k ry
  · rw [if_neg q, if_neg q]
    exact Paired.snoc r ⟨rfl, rfl, ry⟩
theorem putN_len (es : EntN) (k : Row) (b : Addr) (v : V) : (putN es k b v).length ≤ es.length + 1 := by
  unfold putN
  split
  · rw [List.length_map]; omega
  · simp
theorem KsN.put (ks : KsN H es) {b : Addr} {v : V} (hb : H b = some (.tup (k.map lV))) : KsN H (putN es k b v) := fun p hp => by
  unfold putN at hp
  split at hp
  · obtain ⟨q, hq, rfl⟩ := List.mem_map.mp hp
    have := ks q hq
    split <;> exact this
  · rcases List.mem_append.mp hp with hp | hp
    · exact ks p hp
    · rw [List.mem_singleton.mp hp]
      exact hb
theorem leaf_items : ∀ {ks : Row} {us : List Value}, Vals (ks.map lV) us → ItemsAre (PySem.leafKind P w) ks us
  | [], _, r => by rw [List.map_nil] at r; cases r; exact .nil
  | k :: ks, _, r => by
    rw [List.map_cons] at r
    cases r with
    | cons h t =>
      refine .cons ?_ (leaf_items t)
      cases k with
      | none => cases h; rfl
      | num i =>
        obtain ⟨t, rfl⟩ := (show ∃ t, _ = Value.int i t from h)
        exact decide_eq_true rfl
      | text x =>
        obtain ⟨t, rfl⟩ := (show ∃ t, _ = Value.str x t from h)
        show (x == x) = true
        simp
theorem rowkey_of (ok : HOk P w H h) (e : H a = some (.tup (k.map lV))) : (rowK P w).is h k a := by
  obtain ⟨_, its, r, o, h1, h2, n, h3⟩ := (show ObjOk P w H h a (.tup (k.map lV)) from ok a _ e)
  exact ⟨o, its.toArray, n, h1, h2, h3, by simpa using leaf_items r⟩
/-- what is known of it -/
theorem dn_rd (ok : HOk P w H h) (e : Rd H d (dnO (rowH w) d es)) (ks : KsN H es) : es.length ≤ sizeLine ∧ (d == sysModules) = false ∧ ∃ xs, RelN es xs ∧ h.DictOfH (rowK P w) d xs := by
  have x : ObjOk P w H h d (dnO (rowH w) d es) := rd_of ok e
  obtain ⟨⟨z, y, nd, xs, r, o, ents, ep, h1, h2, h3, h4⟩, _, _⟩ := x
  refine ⟨z, y, xs, r, o, ents, ep, h1, h2, h3, h4, fun q hq => ?_, by rw [← r.keys]; exact nd⟩
  have all : ∀ {l : EntN} {m : List (Row × Addr × Value)}, RelN l m → KsN H l → ∀ q ∈ m, (rowK P w).is h q.1 q.2.1 := by
    intro l m r
    induction r with
    | nil => intro _ q hq; cases hq
    | @cons p q ps qs hpq t ih =>
      intro ks q' hq'
      rcases List.mem_cons.mp hq' with rfl | hq'
      · rw [← hpq.1, ← hpq.2.1]
        exact rowkey_of ok (ks p List.mem_cons_self)
      · exact ih (fun p hp => ks p (List.mem_cons_of_mem _ hp)) q' hq'
  exact all r ks q hq
theorem dn_ok {H' : Hp} {hf : Row → Int} (z : es.length ≤ sizeLine) (y : (d == sysModules) = false) (r : RelN es xs) {o : Obj} {ents : Array DictEntry} {ep : Nat} (h1 : h.get? d = some o) (h2 : o.ExactDict) (h3 : o.data = .dict ents ep) (h4 : ents.toList = xs.map fun x => (⟨hf x.1, .ref x.2.1, x.2.2⟩ : DictEntry)) (h5 : (xs.map (·.1)).Nodup) :
    ObjOk P w H' h d (dnO hf d es) :=
  ⟨⟨z, y, by rw [r.keys]; exact h5, xs, r, o, ents, ep, h1, h2, h3, h4⟩, ⟨o, h1⟩, fun g1 g2 ⟨a, b, c, ys, r', o', e', p', q1, q2⟩ k => ⟨a, b, c, ys, r', o', e', p', k _ q1, q2⟩⟩
theorem dn_empty {H : Hp} {hf : Row → Int} (h : Heap) (hb : sysModules < h.objs.size) : ObjOk P w H (h.push { cls := .type "dict", data := .dict #[] }) h.objs.size (dnO hf h.objs.size []) :=
  dn_ok (xs := []) (Nat.zero_le _) (beq_eq_false_iff_ne.mpr (Ne.symm (Nat.ne_of_lt hb))) .nil (Heap.get?_push_size _ rfl) ⟨rfl, rfl, rfl⟩ rfl rfl List.nodup_nil
end
section
variable {X : Cx} {pins : List (Addr × Obj)} {σ : L2.St} {H : Hp} {s : Shared} {d b : Addr} {es : EntN} {k : Row} {u : Value} {A : Around} {E : Value → Shared → Prop}
theorem dn_getItem {v : V} {Q : Value → Shared → Prop} (hu : A.units + 1 < cLine) (I : Inv X pins σ H s) (e : Rd H d (dnO (rowH X.w) d es)) (ks : KsN H es) (hb : H b = some (.tup (k.map lV))) (l : valN es k = some v) (h : ∀ w' s', Inv X pins σ H s' → RelV v w' → Q w' s') :
    wpAny (model X.prog X.w) A (getItem (.ref d) (.ref b)) Q E s := by
  obtain ⟨_, _, xs, rel, dd⟩ := dn_rd (P := X.prog) I.hok e ks
  obtain ⟨w', hw, rw'⟩ := RelO.some_of (v := v) (o := (atKey xs k).map (·.2)) (by rw [← l]; exact rel.val k)
  obtain ⟨p, hp, hp2⟩ := Option.map_eq_some_iff.mp hw
  refine wpAny_getItem_heap (tupleKind_room_in1 hu) (rowkey_of I.hok hb) dd hp ?_
  rw [hp2]
  exact h w' _ (I.tok _) rw'
theorem dn_in {Q : Value → Shared → Prop} (hu : A.units + 1 < cLine) (I : Inv X pins σ H s) (e : Rd H d (dnO (rowH X.w) d es)) (ks : KsN H es) (hb : H b = some (.tup (k.map lV))) (h : ∀ s', Inv X pins σ H s' → Q (.bool (valN es k).isSome) s') :
    wpAny (model X.prog X.w) A (compareOp .In (.ref b) (.ref d)) Q E s := by
  obtain ⟨_, hd, xs, rel, dd⟩ := dn_rd (P := X.prog) I.hok e ks
  refine wpAny_in_heap (tupleKind_room_in1 hu) (rowkey_of I.hok hb) hd dd ?_
  have q := (rel.val k).isSome_eq
  rw [Option.isSome_map] at q
  rw [← q]
  exact h _ (I.tok _)
theorem dn_get2 {x : V} {r : Value} {Q : Value → Shared → Prop} (hu : A.units + 1 < cLine) (I : Inv X pins σ H s) (e : Rd H d (dnO (rowH X.w) d es)) (ks : KsN H es) (hb : H b = some (.tup (k.map lV))) (rx : RelV x r) (h : ∀ w' s', Inv X pins σ H s' → RelV ((valN es k).getD x) w' → Q w' s') :
    wpAny (model X.prog X.w) A (call (.builtin "dict.get") [.ref d, .ref b, r]) Q E s := by
  obtain ⟨_, hd, xs, rel, dd⟩ := dn_rd (P := X.prog) I.hok e ks
  exact call_meetsIn PySem.F.slot_dict_get dd.typeIs PySem.F.entry_dict_get (PySem.F.args_dict_get_3 _ _ _) (meetsH_dict_get_default (rowK X.prog X.w) d b hd r) ⟨tupleKind_room_in1 hu, k, xs, rowkey_of I.hok hb, dd, h _ _ (I.tok _) ((rel.val k).getD rx)⟩
/-- the dict behind a store -/
theorem dn_stored {v : V} {r : Value} {h' : Heap} {t' : Nat} {xs : List (Row × Addr × Value)} (I : Inv X pins σ H s) (e : H d = some (dnO (rowH X.w) d es)) (hd : (d == sysModules) = false) (z : es.length < sizeLine) (rel : RelN es xs) (rv : RelV v r) (dd' : h'.DictOfH (rowK X.prog X.w) d (storedH xs k b r)) (hs : Heap.SameBut d s.heap h') :
    Inv X pins σ (upd H d (dnO (rowH X.w) d (putN es k b v))) { s with heap := h', toks := t' } := by
  obtain ⟨q, ents, ep, hq, h2, h3, h4, _, h5⟩ := dd'
  have hl : (putN es k b v).length ≤ sizeLine := by have := putN_len es k b v; omega
  exact d_write I (by rw [e]; exact True.intro) hs ⟨q, hq⟩ (dn_ok hl hd (rel.put k b rv) hq h2 h3 h4 h5)
theorem dn_setItem {v : V} {r : Value} {Q : Unit → Shared → Prop} (hu : A.units + 1 < cLine) (I : Inv X pins σ H s) (e : H d = some (dnO (rowH X.w) d es)) (ks : KsN H es) (hb : H b = some (.tup (k.map lV))) (z : es.length < sizeLine) (rv : RelV v r) (h : ∀ s', Inv X pins σ (upd H d (dnO (rowH X.w) d (putN es k b v))) s' → Q () s') :
    wpAny (model X.prog X.w) A (setItem (.ref d) (.ref b) r) Q E s := by
  obtain ⟨z0, hd, xs, rel, dd⟩ := dn_rd (P := X.prog) I.hok (.inl e) ks
  have hz : xs.length ≤ sizeLine := by rw [← Paired.length rel]; exact z0
  exact wpAny_setItem_heap (hsz := hz) (tupleKind_room_in1 hu) (rowkey_of I.hok hb) dd fun h' dd' hs => h _ (dn_stored I e hd z rel rv dd' hs)
theorem dn_dictSet {v : V} {r : Value} {Q : Unit → Shared → Prop} (hu : A.units < cLine) (I : Inv X pins σ H s) (e : H d = some (dnO (rowH X.w) d es)) (ks : KsN H es) (hb : H b = some (.tup (k.map lV))) (z : es.length < sizeLine) (rv : RelV v r) (h : ∀ s', Inv X pins σ (upd H d (dnO (rowH X.w) d (putN es k b v))) s' → Q () s') :
    wpAny (model X.prog X.w) A (dictSet d (.ref b) r) Q E s := by
  obtain ⟨z0, hd, xs, rel, dd⟩ := dn_rd (P := X.prog) I.hok (.inl e) ks
  have hz : xs.length ≤ sizeLine := by rw [← Paired.length rel]; exact z0
  exact wpAny_dictSet_heap (hsz := hz) hu (rowkey_of I.hok hb) dd fun h' dd' hs => h _ (dn_stored I e hd z rel rv dd' hs)
end
end JP
namespace JP
open PySem PySem.Spec PyProof.Rows L2
section
variable {X : Cx} {o i e f value : Expr} {pos pos' tpos apos cpos : Pos} {td ty tv tx : TE}
theorem pe_dnewN : PE X (.Dict [] [] pos) (fun _ H Q => ∀ p, H p = none → Q (.ref p) (upd H p (dnO (rowH X.w) p []))) := ⟨fun pins s σ H Q I h =>
  wpAny_Dict_empty ⟨.ref s.heap.objs.size, _, I.laid (a := s.heap.objs.size) (o := dnO (rowH X.w) s.heap.objs.size []) (t' := s.toks) (fun _ _ q => Heap.get?_push_of_some _ q) (Nat.le_refl _) (dn_empty s.heap I.big), rfl, h _ (I.hok.fresh (Nat.le_refl _))⟩⟩
/-- the dict at d, with what it holds, seen with the row at y -/
structure AtN (w : World) (H : Hp) (x y : V) (d b : Addr) (es : EntN) (k : Row) : Prop where
  x : x = .ref d
  y : y = .ref b
  d : Rd H d (dnO (rowH w) d es)
  ks : KsN H es
  b : H b = some (.tup (k.map lV))
theorem dn_type {pins : List (Addr × Obj)} {σ : L2.St} {H : Hp} {s : Shared} {d : Addr} {es : EntN} (I : Inv X pins σ H s) (e : Rd H d (dnO (rowH X.w) d es)) (ks : KsN H es) : s.TypeIs (.ref d) "dict" ∧ (∀ b, Value.ref d = .ref b → ∃ ob, s.heap.get? b = some ob ∧ ob.dict = none) := by
  obtain ⟨_, _, xs, _, dd⟩ := dn_rd (P := X.prog) I.hok e ks
  refine ⟨dd.typeIs, fun b q => ?_⟩
  cases q
  obtain ⟨ob, _, _, h1, h2, _⟩ := dd
  exact ⟨ob, h1, h2.2.1⟩
/-- d[y] -/
def tNGet (w : World) (td ty : TE) : TE := fun σ H Q => td σ H fun x H1 => ty σ H1 fun y H2 => ∃ d b es k v, AtN w H2 x y d b es k ∧ valN es k = some v ∧ Q v H2
theorem pe_nget (hu : X.A.units + 1 < cLine) (ho : PE X o td) (hi : PE X i ty) (hs : NoSl i) : PE X (.Subscript o i pos) (tNGet X.w td ty) := by
  refine ⟨fun pins s σ H Q I h => ?_⟩
  refine subD_of PySem.F.slot_dict_getitem.lookup hs (thn (ho.run pins s σ H _ I h) fun u s1 ⟨x, H1, I1, rx, q1⟩ => thn (hi.run pins s1 σ H1 _ I1 q1) fun iv s2 ⟨y, H2, I2, ry, d, b, es, k, v, ⟨ex, ey, ed, ks, eb⟩, l, q2⟩ => ?_)
  subst ex ey
  obtain rfl : u = Value.ref d := rx
  obtain rfl : iv = Value.ref b := ry
  exact ⟨(dn_type I2 ed ks).1, dn_getItem hu I2 ed ks eb l fun w' s3 I3 rw' => ⟨v, H2, I3, rw', q2⟩⟩
/-- y in d -/
def tNIn (w : World) (ty td : TE) : TE := fun σ H Q => ty σ H fun y H1 => td σ H1 fun x H2 => ∃ d b es k, AtN w H2 x y d b es k ∧ Q (.bl (valN es k).isSome) H2
theorem pc_nin (hu : X.A.units + 1 < cLine) (hi : PE X i ty) (ho : PE X o td) : PC X .In i o (tNIn X.w ty td) := by
  refine ⟨fun pins s σ H Q I h => ?_⟩
  refine thn (hi.run pins s σ H _ I h) fun iv s1 ⟨y, H1, I1, ry, q1⟩ => thn (ho.run pins s1 σ H1 _ I1 q1) fun u s2 ⟨x, H2, I2, rx, d, b, es, k, ⟨ex, ey, ed, ks, eb⟩, q2⟩ => ?_
  subst ex ey
  obtain rfl : u = Value.ref d := rx
  obtain rfl : iv = Value.ref b := ry
  exact dn_in hu I2 ed ks eb fun s3 I3 => ⟨.bl _, H2, I3, rfl, q2⟩
/-- d.get(y, z) -/
def tNGet2 (w : World) (td ty tx : TE) : TE := fun σ H Q => td σ H fun x H1 => ∃ d es, x = .ref d ∧ Rd H1 d (dnO (rowH w) d es) ∧ KsN H1 es ∧ ty σ H1 fun y H2 => tx σ H2 fun z H3 => ∃ b es' k, AtN w H3 x y d b es' k ∧ Q ((valN es' k).getD z) H3
theorem pe_nget2 (hu : X.A.units + 1 < cLine) (ho : PE X o td) (he : PE X e ty) (hf : PE X f tx) (m : M2 X o "get" apos e f cpos) : PE X (.Call (.Attribute o "get" apos) [e, f] [] cpos) (tNGet2 X.w td ty tx) := by
  refine ⟨fun pins s σ H Q I h => ?_⟩
  refine wpAny_Call_method m.base m.few m.line PySem.F.plainAttrs_dict PySem.F.slot_dict_get PySem.F.type_dict_get (thn (ho.run pins s σ H _ I h) fun u s1 ⟨x, H1, I1, rx, d, es, ex, ed, ks, q1⟩ => ?_)
  subst ex
  obtain rfl : u = Value.ref d := rx
  obtain ⟨t1, t2⟩ := dn_type I1 ed ks
  refine ⟨t1, t2, ?_⟩
  rw [m.trees]
  refine Calls.callWith_builtin rfl (Calls.evalArgs_plain (Calls.spliced_cons (thn (he.run pins s1 σ H1 _ I1 q1) fun iv s2 ⟨y, H2, I2, ry, q2⟩ =>
    Calls.spliced_cons (thn (hf.run pins s2 σ H2 _ I2 q2) fun fv s3 ⟨z, H3, I3, rz, b, es', k, ⟨_, ey, ed', ks', eb⟩, q3⟩ => Calls.spliced_nil ?_))))
  subst ey
  obtain rfl : iv = Value.ref b := ry
  exact dn_get2 hu I3 ed' ks' eb rz fun w' s4 I4 rw' => ⟨_, H3, I4, rw', q3⟩
/-- d[y] = v -/
def sNPut (w : World) (td ty tv : TE) : TS := fun D σ H => tv σ H fun v H1 => td σ H1 fun x H2 => ty σ H2 fun y H3 => ∃ d b es k, x = .ref d ∧ y = .ref b ∧ H3 d = some (dnO (rowH w) d es) ∧ KsN H3 es ∧ H3 b = some (.tup (k.map lV)) ∧ es.length < sizeLine ∧ D.nx σ (upd H3 d (dnO (rowH w) d (putN es k b v)))
theorem ps_nput (hu : X.A.units + 1 < cLine) (ho : PE X o td) (hi : PE X i ty) (hv : PE X value tv) (hs : swapsWith value (some (.Subscript o i pos')) pos.line X.env = pure false) :
    PS X (.Assign [.Subscript o i pos'] value pos) (sNPut X.w td ty tv) := by
  refine ⟨fun pins s σ H D I h => ?_⟩
  refine wpAny_Assign_Subscript (thn (hv.run pins s σ H _ I h) fun r s1 ⟨v, H1, I1, rv, q1⟩ => thn (ho.run pins s1 σ H1 _ I1 q1) fun u s2 ⟨x, H2, I2, rx, q2⟩ => thn (hi.run pins s2 σ H2 _ I2 q2) fun iv s3 ⟨y, H3, I3, ry, d, b, es, k, ex, ey, ed, ks, eb, z, q3⟩ => ?_) hs
  subst ex ey
  obtain rfl : u = Value.ref d := rx
  obtain rfl : iv = Value.ref b := ry
  exact dn_setItem hu I3 ed ks eb z rv fun s4 I4 => ⟨σ, _, I4, q3⟩
/-- len(d) -/
theorem call_lenN : CallR X (.builtin "len") (fun xs H Q => ∃ d es, xs = [V.ref d] ∧ Rd H d (dnO (rowH X.w) d es) ∧ KsN H es ∧ Q (.int es.length) H) := by
  intro pins s σ H xs us Q I r h
  obtain ⟨d, es, rfl, ed, ks, q⟩ := h
  obtain ⟨u, rfl, rx⟩ := vals1 r
  obtain rfl : u = Value.ref d := rx
  obtain ⟨z, hd, xs, rel, dd⟩ := dn_rd (P := X.prog) I.hok ed ks
  have l : es.length = xs.length := Paired.length rel
  refine call_len_dictH hd dd (by rw [← l]; rw [sizeLine_eq] at z; omega) ?_
  rw [← l]
  exact ⟨.int _, H, I.tok _, ⟨_, rfl⟩, q⟩
/-- what is made stays as it is: it is read, never written -/
theorem pe_frz {t : TE} (h : PE X e t) : PE X e (fun σ H Q => t σ H fun x H1 => ∃ a u, x = .ref a ∧ H1 a = some u ∧ Mut (some u) ∧ ∀ o, Q x (upd H1 a (.frz o u))) := by
  refine ⟨fun pins s σ H Q I hw => ?_⟩
  refine thn (h.run pins s σ _ _ I hw) fun v s1 ⟨x, H1, I2, r, a, u, ex, ha, mu, q⟩ => ?_
  obtain ⟨o, I3⟩ := I2.lock ha mu
  exact ⟨x, _, I3, r, q o⟩
end
section
variable {X : Cx} {pins : List (Addr × Obj)} {σ : L2.St} {H : Hp} {s : Shared}
theorem relN_refs {f : Row × Addr × Value → DictEntry} {es : EntN} {xs : List (Row × Addr × Value)} (r : RelN es xs) (hf : ∀ x, (f x).key = .ref x.2.1 := by intro _; rfl) : xs.map ((fun e : DictEntry => e.key) ∘ f) = es.map fun e => Value.ref e.2.1 := by
  induction r with
  | nil => rfl
  | @cons p q ps qs hpq _ ih =>
    rw [List.map_cons, List.map_cons, ih, hpq.2.1]
    congr 1
    exact hf q
theorem frzN {d : Addr} {o : Obj} {hf : Row → Int} {es : EntN} (I : Inv X pins σ H s) (h : H d = some (.frz o (dnO hf d es))) :
    (d == sysModules) = false ∧ s.heap.get? d = some o ∧ o.ExactDict ∧ ∃ (ents : Array DictEntry) (ep : Nat), o.data = .dict ents ep ∧ ents.size = es.length ∧ ents.size ≤ sizeLine ∧ ents.toList.map (·.key) = es.map fun e => Value.ref e.2.1 := by
  obtain ⟨hg, ⟨z, hs, _, xs, rel, o', ents, ep, ho, hx, hdt, he⟩, _, _⟩ := (show ObjOk X.prog X.w H s.heap d (.frz o (dnO hf d es)) from I.hok d _ h)
  rw [hg] at ho
  cases ho
  have l : es.length = xs.length := Paired.length rel
  have l1 : ents.size = xs.length := by rw [← Array.length_toList, he, List.length_map]
  refine ⟨hs, hg, hx, ents, ep, hdt, by omega, by omega, ?_⟩
  rw [he, List.map_map]
  exact relN_refs rel
/-- the keys of such a dict -/
def ItN (d : Addr) (o : Obj) (hf : Row → Int) (es : EntN) : L2.It :=
  ⟨fun i H => H d = some (.frz o (dnO hf d es)) ∧ i < es.length, fun i H x H' => H' = H ∧ ∃ e, es[i]? = some e ∧ x = .ref e.2.1, fun i H => H d = some (.frz o (dnO hf d es)) ∧ es.length ≤ i⟩
theorem turn_N {P : Program} {w : World} {K : PySem.W.Frag} {tg : Expr} {d : Addr} {o : Obj} {hf : Row → Int} {es : EntN} {ents : Array DictEntry} {ep : Nat} (it : Addr) (hod : o.data = .dict ents ep) : Turn P w K tg (ItN d o hf es) [it] it (fun i h => h.IsKeyIter it d i es.length ep) where
  mem := by simp
  obj := fun i h st b hb => by
    obtain rfl : b = it := by simpa using hb
    obtain ⟨oi, e, c, dd⟩ := st
    exact ⟨oi, e, fun v z => by rw [dd] at z; cases z⟩
  keep := fun i h h' st k => st.at fun oi e => k it (by simp) oi e
  item := by
    intro X hP hw hK hc i pins s σ H E I hf' st hg
    subst hP hw hK
    obtain ⟨hd, hi⟩ := hg
    obtain ⟨f0, f1, f2, f3, f4, f5⟩ := hf' it (by simp)
    obtain ⟨hs, hgd, hx, ents', ep', hdt, hsz, _, hk⟩ := frzN I hd
    obtain ⟨rfl, rfl⟩ := dict_ep hod hdt
    have hie : i < ents'.size := by omega
    refine next_key_item st hgd hdt hsz (Array.getElem?_eq_getElem hie) fun h' st' sb => ?_
    have I1 : Inv X pins σ H { s with heap := h' } := I.turned (t' := s.toks) (fun b ob hb e => (sb.2 b hb).trans e) f0 f1 f3 f4 f5
    obtain ⟨oi, e, c, dd⟩ := id st'
    have hkey : (ents'[i]).key = .ref (es[i]).2.1 := by
      have q := congrArg (fun l => l[i]?) hk
      simp only [List.getElem?_map, Array.getElem?_toList, Array.getElem?_eq_getElem hie, List.getElem?_eq_getElem hi, Option.map_some, Option.some.injEq] at q
      exact q
    exact ⟨_, rfl, go_of (s := { s with heap := h' }) e c dd (by decide) ⟨.ref (es[i]).2.1, H, I1, hkey, ⟨rfl, es[i], List.getElem?_eq_getElem hi, rfl⟩, st', fun b hb => (hf' b hb).1⟩⟩
  done := by
    intro X hP hw hK hc i pins s σ H E I hf' st hg
    subst hP hw hK
    obtain ⟨hd, hi⟩ := hg
    obtain ⟨f0, f1, f2, f3, f4, f5⟩ := hf' it (by simp)
    obtain ⟨hs, hgd, hx, ents', ep', hdt, hsz, _, _⟩ := frzN I hd
    obtain ⟨rfl, rfl⟩ := dict_ep hod hdt
    exact next_key_end (I.ok.hd hc) st hgd hdt hsz hi fun h' eb => ⟨rfl, I.turned (t' := s.toks) (fun b ob hb e => eb b ob hb e) f0 f1 f3 f4 f5⟩
  self := fun A i s Q E st h => by
    refine wpAny_pyIter_slot st.typeIs PySem.F.slot_dict_keyiterator_iter (wpAny_call_entry PySem.F.slot_dict_keyiterator_iter st.typeIs PySem.F.entry_dict_keyiterator_iter ?_ (PySem.F.args_dict_keyiterator_iter_1 _))
    exact wpAny_pure ⟨_, rfl, "dict_keyiterator", _, st.typeIs, PySem.F.slot_dict_keyiterator_next.lookup, h⟩
def iKeysN (td : TE) : TI := fun σ H R => td σ H fun x H1 => ∃ d o hf es, x = .ref d ∧ H1 d = some (.frz o (dnO hf d es)) ∧ R (ItN d o hf es) H1
theorem pi_keysN {tg e : Expr} {td : TE} (he : PE X e td) : PI X tg e (iKeysN td) := by
  refine ⟨fun pins s σ H R I h => ?_⟩
  refine thn (he.run pins s σ H _ I h) fun u s1 ⟨x, H1, I1, rx, d, o, hf, es, ex, hd, q⟩ => ?_
  subst ex
  obtain rfl : u = Value.ref d := rx
  obtain ⟨hs, hgd, hx, ents, ep, hdt, hsz, _, _⟩ := frzN I1 hd
  refine iter_keys hs hgd hx hdt (pi_one (tk := s1.toks) I1 _ (turn_N _ hdt) ⟨_, Heap.get?_push_size _ rfl, rfl, ?_⟩ q)
  rw [hsz] <;> rfl
/-- list(d) -/
theorem call_listN (hc : X.calm = true) : CallR X (.type "list") (fun xs H Q => ∃ d o hf es, xs = [V.ref d] ∧ H d = some (.frz o (dnO hf d es)) ∧ ∀ p, H p = none → Q (.ref p) (upd H p (.lst (es.map fun e => V.ref e.2.1)))) := by
  intro pins s σ H xs us Q I r h
  obtain ⟨d, o, hf, es, rfl, hd, q⟩ := h
  obtain ⟨u, rfl, rx⟩ := r.one
  cases rx
  obtain ⟨hs, hgd, hx, ents, ep, hdt, hsz, hle, hk⟩ := frzN I hd
  refine PySem.W.kdl_call (kdl_raw hs hx hdt) (I.ok.hd hc) hgd (by omega) fun h' tk acc' c' kp e it => ?_
  have ea : acc'.toList = (es.map fun e => e.2.1).map Value.ref := by
    have e1 : acc'.toList = ents.toList.map (·.key) := by
      apply List.ext_getElem?
      intro j
      rw [List.getElem?_map, Array.getElem?_toList, Array.getElem?_toList]
      cases hj : acc'[j]? with
      | none =>
        have h1 := Array.getElem?_eq_none_iff.mp hj
        have h2 : ents[j]? = none := Array.getElem?_eq_none_iff.mpr (by have := it.1; omega)
        rw [h2]
        rfl
      | some v =>
        obtain ⟨en, hen, hv⟩ := it.2 j v hj
        rw [hen, hv]
        rfl
    rw [e1, hk, List.map_map]
    rfl
  have rv : Vals ((es.map fun e => e.2.1).map V.ref) acc'.toList := by rw [ea]; exact vals_refs _
  have em : (es.map fun e => V.ref e.2.1) = (es.map fun e => e.2.1).map V.ref := by rw [List.map_map]; rfl
  have hz : ((es.map fun e => e.2.1).map V.ref).length ≤ sizeLine := by rw [List.length_map, List.length_map]; omega
  have q' := q s.heap.objs.size (I.hok.fresh (Nat.le_refl _))
  rw [em] at q'
  refine ⟨.ref s.heap.objs.size, _, I.laid (t' := tk) (o := .lst ((es.map fun e => e.2.1).map V.ref)) kp (Nat.le_refl _) ?_, rfl, q'⟩
  exact ⟨hz, acc'.toList, c', rv, by rw [Array.toArray_toList]; exact e⟩
end
def stN (w : World) : StK := fun H D y z H' => ∃ es k b, y = .ref b ∧ H b = some (.tup (k.map lV)) ∧ H D = some (dnO (rowH w) D es) ∧ KsN H es ∧ es.length < sizeLine ∧ H' = upd H D (dnO (rowH w) D (putN es k b z))
theorem dicK_N {P : Program} {w : World} : DicK P w 1 (fun D => dnO (rowH w) D []) (stN w) where
  new := fun H h hb => dn_empty h hb
  put := by
    intro X pins σ H H' s E D y z k r Q eP ew hu I ry rz hst h
    subst eP ew
    obtain ⟨es, ks, b, ey, eb, eD, kn, l, eH⟩ := hst
    subst ey eH
    cases (show k = Value.ref b from ry)
    exact dn_dictSet (show X.A.units < cLine by omega) I eD kn eb l rz h
end JP
namespace JP
open PySem PySem.Spec PyProof.Rows L2
inductive D where
  | non | bl (b : Bool) | int (i : Int) | str (x : Str) | ty (n : String) | adr (a : Addr)
  | tup (ds : List D) | lst (ds : List D) | scr (ns : List Int) | ins (C : Addr) (fs : List (Str × D)) | exc (C : Addr) (fs : List (Str × D)) | dic (kvs : List (D × D)) | dit (kvs : List (D × D)) | dln (hf : Row → Int) (kvs : List (Row × D))
instance : Inhabited D := ⟨.non⟩
def kD : Key → D
  | .inl i => .int i
  | .inr x => .str x
def tyNames : List String := ["int", "str", "bool", "list", "tuple", "dict", "set", "bytes", "float"]
/-- an own class whose instances are told apart -/
structure GoodC (K : PySem.W.Frag) (C : Addr) : Prop where
  cl : Cls K C
  ca : PySem.W.findIn K (.ref C) "__class__" = some (some (.builtin "object.__class__"))
  sg : PySem.W.specialIn K (.builtin "object.__class__") "__get__" = some (some (.builtin "getset_descriptor.__get__"))
  tk : PySem.W.takesIn K (.builtin "object.__class__") = some true
  mr : PySem.W.mroIn K C (.type "object") = some true
  kt : ∀ n ∈ tyNames, PySem.W.kitOne K (.ref C) (.type n) = some false
mutual
/-- the value v stands for d in the part F of the heap that stays -/
inductive Rep (K : PySem.W.Frag) (F : Hp) : V → D → Prop
  | non : Rep K F .non .non
  | bl (b : Bool) : Rep K F (.bl b) (.bl b)
  | int (i : Int) : Rep K F (.int i) (.int i)
  | str (x : Str) : Rep K F (.str x) (.str x)
  | ty (n : String) : Rep K F (.ty n) (.ty n)
  | adr (a : Addr) : Rep K F (.ref a) (.adr a)
  | tup {a : Addr} {xs : List V} {ds : List D} : F a = some (.tup xs) → RepAll K F xs ds → Rep K F (.ref a) (.tup ds)
  | lst {a : Addr} {xs : List V} {ds : List D} : F a = some (.lst xs) → RepAll K F xs ds → Rep K F (.ref a) (.lst ds)
  | scr {a : Addr} {ns : List Int} : SqL K F a (ns.map V.int) → Rep K F (.ref a) (.scr ns)
  | ins {a C dx : Addr} {fs : List (Str × V)} {ds : List (Str × D)} : F a = some (.ins C dx fs) → GoodC K C → (∀ p ∈ ds, NoAttr K C p.1) → RepF K F fs ds → Rep K F (.ref a) (.ins C ds)
  | exc {a C : Addr} {fs : List (Str × V)} {ds : List (Str × D)} : Held F a C fs → ExcC K C → RepF K F fs ds → Rep K F (.ref a) (.exc C ds)
  | dk {a : Addr} {kvs : List (Key × V)} {ds : List (D × D)} : Rd F a (.dK kvs) → RepK K F kvs ds → Rep K F (.ref a) (.dic ds)
  | dt {a : Addr} {kvs : List (List Key × V)} {ds : List (D × D)} : F a = some (.dT kvs) → RepT K F kvs ds → Rep K F (.ref a) (.dit ds)
  | dn {a : Addr} {o : Obj} {hf : Row → Int} {es : EntN} {ds : List (Row × D)} : F a = some (.frz o (dnO hf a es)) → KsN F es → RepN K F es ds → Rep K F (.ref a) (.dln hf ds)
inductive RepAll (K : PySem.W.Frag) (F : Hp) : List V → List D → Prop
  | nil : RepAll K F [] []
  | cons {v : V} {vs : List V} {d : D} {ds : List D} : Rep K F v d → RepAll K F vs ds → RepAll K F (v :: vs) (d :: ds)
inductive RepF (K : PySem.W.Frag) (F : Hp) : List (Str × V) → List (Str × D) → Prop
  | nil : RepF K F [] []
  | cons {f : Str} {v : V} {vs : List (Str × V)} {d : D} {ds : List (Str × D)} : Rep K F v d → RepF K F vs ds → RepF K F ((f, v) :: vs) ((f, d) :: ds)
inductive RepK (K : PySem.W.Frag) (F : Hp) : List (Key × V) → List (D × D) → Prop
  | nil : RepK K F [] []
  | cons {k : Key} {v : V} {vs : List (Key × V)} {d : D} {ds : List (D × D)} : Rep K F v d → RepK K F vs ds → RepK K F ((k, v) :: vs) ((kD k, d) :: ds)
inductive RepT (K : PySem.W.Frag) (F : Hp) : List (List Key × V) → List (D × D) → Prop
  | nil : RepT K F [] []
  | cons {k : List Key} {v : V} {vs : List (List Key × V)} {d : D} {ds : List (D × D)} : Rep K F v d → RepT K F vs ds → RepT K F ((k, v) :: vs) ((.tup (k.map kD), d) :: ds)
inductive RepN (K : PySem.W.Frag) (F : Hp) : EntN → List (Row × D) → Prop
  | nil : RepN K F [] []
  | cons {k : Row} {b : Addr} {v : V} {vs : EntN} {d : D} {ds : List (Row × D)} : Rep K F v d → RepN K F vs ds → RepN K F ((k, b, v) :: vs) ((k, d) :: ds)
end
section
variable {K : PySem.W.Frag} {F F' : Hp}
theorem Held.same {F F' : Hp} {a C : Addr} {fs : List (Str × V)} (s : Same F F') (h : Held F a C fs) : Held F' a C fs := by
  rcases h with ⟨d, h1, h2⟩ | ⟨e, h1⟩
  · exact .inl ⟨d, s _ _ h1, s _ _ h2⟩
  · exact .inr ⟨e, s _ _ h1⟩
theorem Rd.same {F F' : Hp} {a : Addr} {u : HO} (s : Same F F') (h : Rd F a u) : Rd F' a u := by
  rcases h with h | ⟨o, h⟩
  · exact .inl (s _ _ h)
  · exact .inr ⟨o, s _ _ h⟩
mutual
theorem Rep.mono (s : Same F F') : ∀ {v : V} {d : D}, Rep K F v d → Rep K F' v d
  | _, _, .non => .non
  | _, _, .bl b => .bl b
  | _, _, .int i => .int i
  | _, _, .str x => .str x
  | _, _, .ty n => .ty n
  | _, _, .adr a => .adr a
  | _, _, .tup h r => .tup (s _ _ h) (RepAll.mono s r)
  | _, _, .lst h r => .lst (s _ _ h) (RepAll.mono s r)
  | _, _, .scr h => .scr (same_seqL' s h)
  | _, _, .ins h g n r => .ins (s _ _ h) g n (RepF.mono s r)
  | _, _, .exc h g r => .exc (h.same s) g (RepF.mono s r)
  | _, _, .dk h r => .dk (Rd.same s h) (RepK.mono s r)
  | _, _, .dt h r => .dt (s _ _ h) (RepT.mono s r)
  | _, _, .dn h k r => .dn (s _ _ h) (k.same s) (RepN.mono s r)
theorem RepAll.mono (s : Same F F') : ∀ {vs : List V} {ds : List D}, RepAll K F vs ds → RepAll K F' vs ds
  | _, _, .nil => .nil
  | _, _, .cons h r => .cons (Rep.mono s h) (RepAll.mono s r)
theorem RepF.mono (s : Same F F') : ∀ {vs : List (Str × V)} {ds : List (Str × D)}, RepF K F vs ds → RepF K F' vs ds
  | _, _, .nil => .nil
  | _, _, .cons h r => .cons (Rep.mono s h) (RepF.mono s r)
theorem RepK.mono (s : Same F F') : ∀ {vs : List (Key × V)} {ds : List (D × D)}, RepK K F vs ds → RepK K F' vs ds
  | _, _, .nil => .nil
  | _, _, .cons h r => .cons (Rep.mono s h) (RepK.mono s r)
theorem RepT.mono (s : Same F F') : ∀ {vs : List (List Key × V)} {ds : List (D × D)}, RepT K F vs ds → RepT K F' vs ds
  | _, _, .nil => .nil
  | _, _, .cons h r => .cons (Rep.mono s h) (RepT.mono s r)
theorem RepN.mono (s : Same F F') : ∀ {vs : EntN} {ds : List (Row × D)}, RepN K F vs ds → RepN K F' vs ds
  | _, _, .nil => .nil
  | _, _, .cons h r => .cons (Rep.mono s h) (RepN.mono s r)
end
theorem RepAll.length : ∀ {vs : List V} {ds : List D}, RepAll K F vs ds → vs.length = ds.length
  | _, _, .nil => rfl
  | _, _, .cons _ r => congrArg (· + 1) (RepAll.length r)
theorem RepAll.append : ∀ {vs us : List V} {ds es : List D}, RepAll K F vs ds → RepAll K F us es → RepAll K F (vs ++ us) (ds ++ es)
  | _, _, _, _, .nil, q => q
  | _, _, _, _, .cons h r, q => .cons h (RepAll.append r q)
theorem RepAll.get : ∀ {vs : List V} {ds : List D} {i : Nat} {d : D}, RepAll K F vs ds → ds[i]? = some d → ∃ v, vs[i]? = some v ∧ Rep K F v d
  | _, _, _, _, .nil, e => by simp at e
  | _, _, 0, _, .cons h _, e => by
    cases e
    exact ⟨_, rfl, h⟩
  | _, _, i + 1, _, .cons _ r, e => RepAll.get (i := i) r e
theorem RepAll.get' : ∀ {vs : List V} {ds : List D} {i : Nat} {v : V}, RepAll K F vs ds → vs[i]? = some v → ∃ d, ds[i]? = some d ∧ Rep K F v d
  | _, _, _, _, .nil, e => by simp at e
  | _, _, 0, _, .cons h _, e => by
    cases e
    exact ⟨_, rfl, h⟩
  | _, _, i + 1, _, .cons _ r, e => RepAll.get' (i := i) r e
theorem RepAll.take : ∀ {vs : List V} {ds : List D} (n : Nat), RepAll K F vs ds → RepAll K F (vs.take n) (ds.take n)
  | _, _, 0, _ => .nil
  | _, _, _ + 1, .nil => .nil
  | _, _, n + 1, .cons h r => .cons h (RepAll.take n r)
theorem RepAll.drop : ∀ {vs : List V} {ds : List D} (n : Nat), RepAll K F vs ds → RepAll K F (vs.drop n) (ds.drop n)
  | _, _, 0, r => r
  | _, _, _ + 1, .nil => .nil
  | _, _, n + 1, .cons _ r => RepAll.drop n r
theorem RepF.look : ∀ {vs : List (Str × V)} {ds : List (Str × D)} {f : Str} {d : D}, RepF K F vs ds → ds.lookup f = some d → ∃ v, vs.lookup f = some v ∧ Rep K F v d
  | _, _, _, _, .nil, e => by simp at e
  | _, _, g, _, .cons (f := f) h r, e => by
    rw [List.lookup_cons] at e ⊢
    cases q : g == f with
    | true =>
      rw [q] at e
      cases e
      exact ⟨_, rfl, h⟩
    | false =>
      rw [q] at e
      exact RepF.look r e
theorem RepF.lookN : ∀ {vs : List (Str × V)} {ds : List (Str × D)} {f : Str}, RepF K F vs ds → ds.lookup f = none → vs.lookup f = none
  | _, _, _, .nil, _ => rfl
  | _, _, g, .cons (f := f) h r, e => by
    rw [List.lookup_cons] at e ⊢
    cases q : g == f with
    | true =>
      rw [q] at e
      cases e
    | false =>
      rw [q] at e
      exact RepF.lookN r e
theorem RepF.length : ∀ {vs : List (Str × V)} {ds : List (Str × D)}, RepF K F vs ds → vs.length = ds.length
  | _, _, .nil => rfl
  | _, _, .cons _ r => congrArg (· + 1) (RepF.length r)
/-- a field is stored -/
def putD (f : Str) (d : D) : List (Str × D) → List (Str × D)
  | [] => [(f, d)]
  | (g, e) :: r => if g = f then (f, d) :: r else (g, e) :: putD f d r
theorem repAll_ints : ∀ ns : List Int, RepAll K F (ns.map V.int) (ns.map D.int)
  | [] => .nil
  | n :: ns => .cons (.int n) (repAll_ints ns)
end
inductive MO where
  | lst (ds : List D) | ins (C : Addr) (fs : List (Str × D)) | dic (kvs : List (D × D)) | dln (hf : Row → Int) (kvs : List (Row × D)) | pen (m : Nat)
abbrev Gm := Addr → Option MO
def updG (G : Gm) (a : Addr) (m : MO) : Gm := fun b => if b = a then some m else G b
def delG (G : Gm) (a : Addr) : Gm := fun b => if b = a then none else G b
theorem updG_same {G : Gm} {a : Addr} {m : MO} : updG G a m a = some m := by unfold updG; rw [if_pos rfl]
theorem updG_ne {G : Gm} {a b : Addr} {m : MO} (h : b ≠ a) : updG G a m b = G b := by unfold updG; rw [if_neg h]
theorem updG_updG {G : Gm} {a : Addr} {m n : MO} : updG (updG G a m) a n = updG G a n := by
  funext b; unfold updG; split <;> rfl
theorem updG_self {G : Gm} {a : Addr} {m : MO} (h : G a = some m) : updG G a m = G := by
  funext b; unfold updG; split
  · rename_i e; rw [e, h]
  · rfl
theorem delG_same {G : Gm} {a : Addr} : delG G a a = none := by unfold delG; rw [if_pos rfl]
theorem delG_ne {G : Gm} {a b : Addr} (h : b ≠ a) : delG G a b = G b := by unfold delG; rw [if_neg h]
theorem delG_updG {G : Gm} {a : Addr} {m : MO} (h : G a = none) : delG (updG G a m) a = G := by
  funext b; unfold delG updG; split
  · rename_i e; rw [e, h]
  · rfl
def MRep (K : PySem.W.Frag) (F H : Hp) (a : Addr) : MO → Prop
  | .lst ds => ∃ xs, H a = some (.lst xs) ∧ RepAll K F xs ds
  | .ins C fs => ∃ dx fv, H a = some (.ins C dx fv) ∧ GoodC K C ∧ (∀ p ∈ fs, NoAttr K C p.1) ∧ RepF K F fv fs
  | .dic kvs => ∃ ks, H a = some (.dK ks) ∧ RepK K F ks kvs
  | .dln hf kvs => ∃ es, H a = some (dnO hf a es) ∧ KsN F es ∧ RepN K F es kvs
  | .pen m => ∃ (c : Addr) (ns : List Int) (n g : Int), H a = some (.lst [.ref c, .int n, .int g]) ∧ F c = some (.lst (ns.map V.int)) ∧ ns.length ≤ 63 ∧ 0 ≤ n ∧ n ≤ m ∧ 0 ≤ g
/-- a heap of one kind of object alone -/
theorem heap_of (o : Obj) (nf : ∀ a, (({ objs := #[] } : Heap).push o).get? a = some o → True) : ∀ n : Nat, ∃ h : Heap, h.objs.size = n ∧ ∀ b u, h.get? b = some u → u = o
  | 0 => ⟨{ objs := #[] }, rfl, fun b u e => by simp [Heap.get?] at e⟩
  | n + 1 => by
    obtain ⟨h, e, k⟩ := heap_of o nf n
    refine ⟨h.push o, (Heap.size_push ..).trans (by rw [e]), fun b u q => ?_⟩
    rcases Heap.get?_push_cases q with ⟨_, q⟩ | q
    · exact q
    · exact k b u q
/-- what is true of a heap without dicts is not what a dict's place tells -/
theorem not_dn {φ : Heap → Prop} {hf : Row → Int} {d : Addr} {es : EntN} (c : Addr) (o : Obj) (nf : o.isFreed = false) (nd : ∀ e p, o.data ≠ .dict e p) (hφ : ∀ h : Heap, h.get? c = some o → φ h) : HO.ext φ ≠ dnO hf d es := fun z => by
  obtain ⟨h, hz, hk⟩ := heap_of o (fun _ _ => trivial) c
  have hc : (h.push o).get? c = some o := by
    rw [← hz]
    exact Heap.get?_push_size _ nf
  have hall : ∀ b u, (h.push o).get? b = some u → u = o := fun b u q => by
    rcases Heap.get?_push_cases q with ⟨_, q⟩ | q
    · exact q
    · exact hk b u q
  have e : φ = fun h => es.length ≤ sizeLine ∧ (d == sysModules) = false ∧ (es.map (·.1)).Nodup ∧
      ∃ xs, RelN es xs ∧ ∃ o ents ep, h.get? d = some o ∧ o.ExactDict ∧ o.data = .dict ents ep ∧ ents.toList = xs.map fun x => (⟨hf x.1, .ref x.2.1, x.2.2⟩ : DictEntry) := by
    unfold dnO at z
    injection z
  have t := hφ (h.push o) hc
  rw [e] at t
  obtain ⟨_, _, _, xs, _, o', ents, ep, q1, _, q2, _⟩ := t
  rw [hall _ _ q1] at q2
  exact nd _ _ q2
def mutO : HO → Prop
  | .lst _ => True
  | .ins _ _ _ => True
  | .dK _ => True
  | .dT _ => True
  | .ext φ => ∃ hf d es, HO.ext φ = dnO hf d es
  | _ => False
theorem codeO_notM {c : Addr} {q : Str} : ¬ mutO (LamX.CodeO c q) := fun h => by
  obtain ⟨hf, d, es, e⟩ := (show ∃ hf d es, LamX.CodeO c q = dnO hf d es from h)
  exact not_dn c { cls := .none, data := .fields #[.none, .str q 1] } rfl (fun _ _ z => by cases z) (fun h hc => ⟨_, _, 1, hc, rfl, rfl⟩) e
theorem mut_dn {hf : Row → Int} {d : Addr} {es : EntN} : mutO (dnO hf d es) := ⟨hf, d, es, rfl⟩
def notT : HO → Prop
  | .tbl _ => False
  | _ => True
theorem _root_.LamX.Tabs.but {T : List (Addr × Str)} {H : Hp} {o : HO} (t : LamX.Tabs T H) (a : Addr) (h : ∀ ps, H a = some (.tbl ps) → False) (h2 : ∀ c q, H a = some (LamX.CodeO c q) → False) : LamX.Tabs T (upd H a o) := fun p hp => by
  obtain ⟨ps, h1, h3, h4⟩ := t p hp
  have n1 : p.1 ≠ a := fun e => h ps (by rw [← e]; exact h1)
  refine ⟨ps, (upd_ne n1).trans h1, h3, fun pos cv hc => ?_⟩
  obtain ⟨c, e1, e2⟩ := h4 pos cv hc
  have n2 : c ≠ a := fun e => h2 _ _ (by rw [← e]; exact e2)
  exact ⟨c, e1, (upd_ne n2).trans e2⟩
section
variable {K : PySem.W.Frag} {Tb : List (Addr × Str)} {F F' H H' Z : Hp} {G : Gm} {a : Addr} {m : MO}
theorem MRep.at_ (h : MRep K F H a m) : ∃ o, H a = some o ∧ mutO o := by
  cases m with
  | lst ds => obtain ⟨xs, e, _⟩ := h; exact ⟨_, e, trivial⟩
  | ins C fs => obtain ⟨dx, fv, e, _⟩ := h; exact ⟨_, e, trivial⟩
  | dic kvs => obtain ⟨ks, e, _⟩ := h; exact ⟨_, e, trivial⟩
  | dln hf kvs => obtain ⟨es, e, _⟩ := h; exact ⟨_, e, mut_dn⟩
  | pen m => obtain ⟨c, ns, n, g, e, _⟩ := h; exact ⟨_, e, trivial⟩
theorem MRep.mono (s : Same F F') (e : ∀ o, H a = some o → H' a = some o) (h : MRep K F H a m) : MRep K F' H' a m := by
  cases m with
  | lst ds => obtain ⟨xs, q, r⟩ := h; exact ⟨xs, e _ q, r.mono s⟩
  | ins C fs => obtain ⟨dx, fv, q, g, n, r⟩ := h; exact ⟨dx, fv, e _ q, g, n, r.mono s⟩
  | dic kvs => obtain ⟨ks, q, r⟩ := h; exact ⟨ks, e _ q, r.mono s⟩
  | dln hf kvs => obtain ⟨es, q, k, r⟩ := h; exact ⟨es, e _ q, k.same s, r.mono s⟩
  | pen m => obtain ⟨c, ns, n, g, q, r, t⟩ := h; exact ⟨c, ns, n, g, e _ q, s _ _ r, t⟩
/-- the heap: F stays, G may change, Z is the callers' own that may change but not here; Tb: tables of code objects that grow -/
structure DS (K : PySem.W.Frag) (Tb : List (Addr × Str)) (F H : Hp) (G : Gm) (Z : Hp) : Prop where
  sub : Same F H
  mu : ∀ a m, G a = some m → F a = none ∧ MRep K F H a m
  zub : Same Z H
  zf : ∀ a o, Z a = some o → F a = none ∧ G a = none ∧ mutO o
  ft : ∀ a o, F a = some o → notT o
  tab : LamX.Tabs Tb H
theorem DS.same (d : DS K Tb F H G Z) (s : Same H H') : DS K Tb F H' G Z :=
  ⟨d.sub.trans s, fun a m e => ⟨(d.mu a m e).1, (d.mu a m e).2.mono (.refl F) fun o q => s _ _ q⟩, d.zub.trans s, d.zf, d.ft, d.tab.ext s⟩
theorem DS.frz {o : HO} (d : DS K Tb F H G Z) (h : H a = some o) (g : G a = none) (z : Z a = none) (nt : notT o := by exact trivial) : DS K Tb (upd F a o) H G Z ∧ Same F (upd F a o) := by
  have s : Same F (upd F a o) := fun b u e => by
    by_cases c : b = a
    · subst c
      have := d.sub _ _ e
      rw [h] at this
      cases this
      exact upd_same
    · rw [upd_ne c]
      exact e
  refine ⟨⟨fun b u e => ?_, fun b m e => ?_, d.zub, fun b u e => ?_, fun b u e => ?_, d.tab⟩, s⟩
  · by_cases c : b = a
    · subst c
      rw [upd_same] at e
      cases e
      exact h
    · rw [upd_ne c] at e
      exact d.sub _ _ e
  · have c : b ≠ a := fun c => by rw [c, g] at e; cases e
    exact ⟨(upd_ne c).trans (d.mu b m e).1, (d.mu b m e).2.mono s fun o q => q⟩
  · have c : b ≠ a := fun c => by rw [c, z] at e; cases e
    exact ⟨(upd_ne c).trans (d.zf b u e).1, (d.zf b u e).2⟩
  · by_cases c : b = a
    · subst c
      rw [upd_same] at e
      cases e
      exact nt
    · rw [upd_ne c] at e
      exact d.ft b u e
theorem DS.noG (d : DS K Tb F H G Z) (h : H a = none) : G a = none := by
  cases e : G a with
  | none => rfl
  | some m =>
    obtain ⟨o, q, _⟩ := (d.mu a m e).2.at_
    rw [h] at q
    cases q
theorem DS.noZ (d : DS K Tb F H G Z) (h : H a = none) : Z a = none := by
  cases e : Z a with
  | none => rfl
  | some m =>
    have := d.zub a m e
    rw [h] at this
    cases this
theorem DS.noF (d : DS K Tb F H G Z) (h : H a = none) : F a = none := by
  cases e : F a with
  | none => rfl
  | some m =>
    have := d.sub a m e
    rw [h] at this
    cases this
theorem DS.notM (d : DS K Tb F H G Z) {o : HO} (h : H a = some o) (n : ¬ mutO o) : G a = none ∧ Z a = none := by
  constructor
  · cases e : G a with
    | none => rfl
    | some m =>
      obtain ⟨u, q, k⟩ := (d.mu a m e).2.at_
      rw [h] at q
      cases q
      exact absurd k n
  · cases e : Z a with
    | none => rfl
    | some u =>
      have := d.zub a u e
      rw [h] at this
      cases this
      exact absurd (d.zf a _ e).2.2 n
/-- a new thing that stays -/
theorem DS.new {o : HO} (d : DS K Tb F H G Z) (n : H a = none) (nt : notT o := by exact trivial) : DS K Tb (upd F a o) (upd H a o) G Z ∧ Same F (upd F a o) :=
  (d.same (same_new n)).frz upd_same (d.noG n) (d.noZ n) nt
/-- a thing that was got, new or not -/
theorem DS.got {o : HO} (d : DS K Tb F H G Z) (s : Same H H') (h : H' a = some o) (n : ¬ mutO o) (nt : notT o := by exact trivial) : DS K Tb (upd F a o) H' G Z ∧ Same F (upd F a o) :=
  have d' := d.same s
  d'.frz h (d'.notM h n).1 (d'.notM h n).2 nt
/-- a new thing that may change -/
theorem DS.open {o : HO} (d : DS K Tb F H G Z) (n : H a = none) (r : MRep K F (upd H a o) a m) : DS K Tb F (upd H a o) (updG G a m) Z := by
  have d' := d.same (same_new (o := o) n)
  refine ⟨d'.sub, fun b k e => ?_, d'.zub, fun b u e => ?_, d.ft, d'.tab⟩
  · by_cases c : b = a
    · subst c
      rw [updG_same] at e
      cases e
      exact ⟨d.noF n, r⟩
    · rw [updG_ne c] at e
      exact d'.mu b k e
  · have c : b ≠ a := fun c => by rw [c, d.noZ n] at e; cases e
    exact ⟨(d.zf b u e).1, (updG_ne c).trans (d.zf b u e).2.1, (d.zf b u e).2.2⟩
/-- it is written -/
theorem DS.write {o : HO} {m' : MO} (d : DS K Tb F H G Z) (g : G a = some m) (r : MRep K F (upd H a o) a m') : DS K Tb F (upd H a o) (updG G a m') Z := by
  have hf := (d.mu a m g).1
  have hz : Z a = none := by
    cases e : Z a with
    | none => rfl
    | some u =>
      have := (d.zf a u e).2.1
      rw [g] at this
      cases this
  have keep : ∀ b u, b ≠ a → H b = some u → upd H a o b = some u := fun b u n e => (upd_ne n).trans e
  refine ⟨fun b u e => ?_, fun b k e => ?_, fun b u e => ?_, fun b u e => ?_, d.ft, d.tab.but a (fun ps q => ?_) (fun c0 q0 q => ?_)⟩
  · exact keep b u (fun c => by rw [c, hf] at e; cases e) (d.sub b u e)
  · by_cases c : b = a
    · subst c
      rw [updG_same] at e
      cases e
      exact ⟨hf, r⟩
    · rw [updG_ne c] at e
      exact ⟨(d.mu b k e).1, (d.mu b k e).2.mono (.refl F) fun u q => keep b u c q⟩
  · exact keep b u (fun c => by rw [c, hz] at e; cases e) (d.zub b u e)
  · have c : b ≠ a := fun c => by rw [c, hz] at e; cases e
    exact ⟨(d.zf b u e).1, (updG_ne c).trans (d.zf b u e).2.1, (d.zf b u e).2.2⟩
  · obtain ⟨u, q', k⟩ := (d.mu a m g).2.at_
    rw [q] at q'
    cases q'
    exact k
  · obtain ⟨u, q', k⟩ := (d.mu a m g).2.at_
    rw [q] at q'
    obtain rfl := Option.some.inj q'
    exact codeO_notM k
/-- it is not changed any more -/
theorem DS.close {o : HO} (d : DS K Tb F H G Z) (g : G a = some m) (h : H a = some o) (nt : notT o := by exact trivial) : DS K Tb (upd F a o) H (delG G a) Z ∧ Same F (upd F a o) := by
  have hz : Z a = none := by
    cases e : Z a with
    | none => rfl
    | some u =>
      have := (d.zf a u e).2.1
      rw [g] at this
      cases this
  have d' : DS K Tb F H (delG G a) Z := ⟨d.sub, fun b k e => by
    by_cases c : b = a
    · rw [c, delG_same] at e
      cases e
    · rw [delG_ne c] at e
      exact d.mu b k e, d.zub, fun b u e => by
    have c : b ≠ a := fun c => by rw [c, hz] at e; cases e
    exact ⟨(d.zf b u e).1, (delG_ne c).trans (d.zf b u e).2.1, (d.zf b u e).2.2⟩, d.ft, d.tab⟩
  exact d'.frz h delG_same hz nt
/-- a further thing that is to stay as it is, for a while -/
theorem DS.zadd {o : HO} (d : DS K Tb F H G Z) (h : H a = some o) (f : F a = none) (g : G a = none) (n : mutO o) : DS K Tb F H G (upd Z a o) :=
  ⟨d.sub, d.mu, fun b u e => by
    by_cases c : b = a
    · subst c
      rw [upd_same] at e
      cases e
      exact h
    · rw [upd_ne c] at e
      exact d.zub b u e, fun b u e => by
    by_cases c : b = a
    · subst c
      rw [upd_same] at e
      cases e
      exact ⟨f, g, n⟩
    · rw [upd_ne c] at e
      exact d.zf b u e, d.ft, d.tab⟩
theorem DS.zdel {o : HO} (d : DS K Tb F H G (upd Z a o)) (n : Z a = none) : DS K Tb F H G Z ∧ H a = some o ∧ F a = none ∧ G a = none :=
  have k : ∀ b u, Z b = some u → upd Z a o b = some u := fun b u e => by
    have c : b ≠ a := fun c => by rw [c, n] at e; cases e
    rw [upd_ne c]
    exact e
  ⟨⟨d.sub, d.mu, fun b u e => d.zub b u (k b u e), fun b u e => d.zf b u (k b u e), d.ft, d.tab⟩, d.zub a o upd_same, (d.zf a o upd_same).1, (d.zf a o upd_same).2.1⟩
/-- a thing that nobody knows of is written -/
theorem DS.other {o u : HO} (d : DS K Tb F H G Z) (h : H a = some u) (f : F a = none) (g : G a = none) (z : Z a = none) (mu : mutO u := by exact trivial) : DS K Tb F (upd H a o) G Z :=
  have ne : ∀ {b : Addr} {Y : Hp} {q : HO}, Y a = none → Y b = some q → b ≠ a := fun y e c => by rw [c, y] at e; cases e
  ⟨fun b q e => (upd_ne (ne f e)).trans (d.sub b q e), fun b m e => ⟨(d.mu b m e).1, (d.mu b m e).2.mono (.refl F) fun q t => by
    have c : b ≠ a := fun c => by rw [c, g] at e; cases e
    exact (upd_ne c).trans t⟩, fun b q e => (upd_ne (ne z e)).trans (d.zub b q e), d.zf, d.ft, d.tab.but a (fun ps q => by rw [h] at q; cases q; exact mu) (fun c0 q0 q => by rw [h] at q; obtain rfl := Option.some.inj q; exact codeO_notM mu)⟩
end
abbrev SD := List (Option D)
abbrev QD := D → Gm → Prop
abbrev TED := SD → Gm → QD → Prop
abbrev TTD := SD → Gm → (Bool → Gm → Prop) → Prop
abbrev TAD := SD → Gm → (List D → Gm → Prop) → Prop
/-- the slots -/
structure Sl (K : PySem.W.Frag) (F : Hp) (σ : L2.St) (δ : SD) : Prop where
  len : δ.length = σ.length
  get : ∀ (i : Nat) (d : D), δ[i]? = some (some d) → ∃ v : V, σ[i]? = some (some v) ∧ Rep K F v d
theorem Sl.mono {K : PySem.W.Frag} {F F' : Hp} {σ : L2.St} {δ : SD} (s : Same F F') (h : Sl K F σ δ) : Sl K F' σ δ :=
  ⟨h.len, fun i d e => let ⟨v, e', r⟩ := h.get i d e; ⟨v, e', r.mono s⟩⟩
theorem Sl.set {K : PySem.W.Frag} {F : Hp} {σ : L2.St} {δ : SD} {v : V} {d : D} (h : Sl K F σ δ) (i : Nat) (r : Rep K F v d) : Sl K F (σ.set i (some v)) (δ.set i (some d)) := by
  refine ⟨by simp [h.len], fun j e q => ?_⟩
  rw [List.getElem?_set] at q
  rw [List.getElem?_set]
  by_cases c : i = j
  · subst c
    rw [if_pos rfl] at q ⊢
    split at q
    · rename_i l
      cases q
      rw [if_pos (by rw [← h.len]; exact l)]
      exact ⟨v, rfl, r⟩
    · cases q
  · rw [if_neg c] at q ⊢
    exact h.get j e q
theorem Sl.drop {K : PySem.W.Frag} {F : Hp} {σ : L2.St} {δ : SD} (h : Sl K F σ δ) (i : Nat) (o : Option V) : Sl K F (σ.set i o) (δ.set i none) := by
  refine ⟨by simp [h.len], fun j e q => ?_⟩
  rw [List.getElem?_set] at q
  rw [List.getElem?_set]
  by_cases c : i = j
  · subst c
    rw [if_pos rfl] at q
    split at q <;> cases q
  · rw [if_neg c] at q ⊢
    exact h.get j e q
/-- where the code stands: what stood at the entry, and what is to stay -/
structure Bs where
  F : Hp
  Z : Hp
  T : List (Addr × Str)
/-- the state at δ, G -/
structure Sit (K : PySem.W.Frag) (B : Bs) (σ : L2.St) (H : Hp) (F : Hp) (δ : SD) (G : Gm) : Prop where
  ds : DS K B.T F H G B.Z
  gr : Same B.F F
  sl : Sl K F σ δ
theorem Sit.same {K : PySem.W.Frag} {B : Bs} {σ : L2.St} {H H' F : Hp} {δ : SD} {G : Gm} (S : Sit K B σ H F δ G) (s : Same H H') : Sit K B σ H' F δ G := ⟨S.ds.same s, S.gr, S.sl⟩
/-- behind an expression -/
def Beh (K : PySem.W.Frag) (B : Bs) (σ : L2.St) (F : Hp) (δ : SD) (Qd : QD) (v : V) (H' : Hp) : Prop :=
  ∃ F' G' d, Same F F' ∧ Sit K B σ H' F' δ G' ∧ Rep K F' v d ∧ Qd d G'
def up (K : PySem.W.Frag) (B : Bs) (T : TED) : TE := fun σ H Q => ∃ F G δ Qd, Sit K B σ H F δ G ∧ T δ G Qd ∧ ∀ v H', Beh K B σ F δ Qd v H' → Q v H'
def upT (K : PySem.W.Frag) (B : Bs) (T : TTD) : TT := fun σ H Q => ∃ F G δ Qd, Sit K B σ H F δ G ∧ T δ G Qd ∧ ∀ b H', (∃ F' G', Same F F' ∧ Sit K B σ H' F' δ G' ∧ Qd b G') → Q b H'
def upA (K : PySem.W.Frag) (B : Bs) (T : TAD) : TA := fun σ H Q => ∃ F G δ Qd, Sit K B σ H F δ G ∧ T δ G Qd ∧ ∀ vs H', (∃ F' G' ds, Same F F' ∧ Sit K B σ H' F' δ G' ∧ RepAll K F' vs ds ∧ Qd ds G') → Q vs H'
def DE (X : Cx) (B : Bs) (e : Expr) (T : TED) : Prop := PE X e (up X.K B T)
def DT (X : Cx) (B : Bs) (e : Expr) (T : TTD) : Prop := PT X e (upT X.K B T)
def DW (X : Cx) (B : Bs) (e : Expr) (T : TTD) : Prop := PW X e (upT X.K B T)
def DA (X : Cx) (B : Bs) (es : List Expr) (T : TAD) : Prop := PA X es (upA X.K B T)
section
variable {X : Cx} {B : Bs} {K : PySem.W.Frag}
theorem PE.weak {e : Expr} {t t' : TE} (h : PE X e t) (w : ∀ σ H Q, t' σ H Q → t σ H Q) : PE X e t' := ⟨fun pins s σ H Q I q => h.run pins s σ H Q I (w _ _ _ q)⟩
theorem PT.weak {e : Expr} {t t' : TT} (h : PT X e t) (w : ∀ σ H Q, t' σ H Q → t σ H Q) : PT X e t' := ⟨fun pins s σ H Q I q => h.run pins s σ H Q I (w _ _ _ q)⟩
theorem PW.weak {e : Expr} {t t' : TT} (h : PW X e t) (w : ∀ σ H Q, t' σ H Q → t σ H Q) : PW X e t' := ⟨fun wh pins s σ H Q I q => h.run wh pins s σ H Q I (w _ _ _ q)⟩
theorem PA.weak {e : List Expr} {t t' : TA} (h : PA X e t) (w : ∀ σ H Q, t' σ H Q → t σ H Q) : PA X e t' := ⟨fun pos pins s σ H Q I q => h.run pos pins s σ H Q I (w _ _ _ q)⟩
/-- two in a row -/
theorem up2 {ta tb : TED} {R : D → D → Gm → Prop} {RV : V → V → Hp → Prop} {σ : L2.St} {H F : Hp} {δ : SD} {G : Gm} (S : Sit K B σ H F δ G) (h : ta δ G fun x G1 => tb δ G1 fun y G2 => R x y G2)
    (k : ∀ x y H2 F2 G2 a b, Same F F2 → Sit K B σ H2 F2 δ G2 → Rep K F2 x a → Rep K F2 y b → R a b G2 → RV x y H2) : up K B ta σ H fun x H1 => up K B tb σ H1 fun y H2 => RV x y H2 :=
  ⟨F, G, δ, _, S, h, fun x H1 ⟨F1, G1, a, s1, S1, r1, h1⟩ => ⟨F1, G1, δ, _, S1, h1, fun y H2 ⟨F2, G2, b, s2, S2, r2, h2⟩ => k x y H2 F2 G2 a b (s1.trans s2) S2 (r1.mono s2) r2 h2⟩⟩
/-- the same thing again -/
theorem Beh.end_ {σ : L2.St} {H F F' : Hp} {δ : SD} {G' : Gm} {Qd : QD} {v : V} {d : D} (s : Same F F') (S : Sit K B σ H F' δ G') (r : Rep K F' v d) (q : Qd d G') : Beh K B σ F δ Qd v H := ⟨F', G', d, s, S, r, q⟩
def dVar (i : Nat) : TED := fun δ G Q => match δ[i]? with | some (some d) => Q d G | _ => False
def dC (d : D) : TED := fun _ G Q => Q d G
theorem de_var {i : Nat} {x : Str} {pos : Pos} (hN : X.N[i]? = some x) (hv : Vis X.env.scope x) (hd : (x == ("__debug__" : Str)) = false := by decide) (hcd : (x == ("__classdict__" : Str)) = false := by decide) : DE X B (.Name x pos) (dVar i) :=
  PE.weak (pe_var hN hv hd hcd) fun σ H Q ⟨F, G, δ, Qd, S, h, k⟩ => by
    unfold dVar at h
    split at h
    · rename_i d e
      obtain ⟨v, e', r⟩ := S.sl.get i d e
      exact ⟨v, e', k v H (.end_ (.refl F) S r h)⟩
    · exact h.elim
theorem de_c {e : Expr} {v : V} {d : D} (h : PE X e (tC v)) (r : ∀ F, Rep X.K F v d) : DE X B e (dC d) :=
  PE.weak h fun σ H Q ⟨F, G, δ, Qd, S, h, k⟩ => k v H (.end_ (.refl F) S (r F) h)
theorem de_int {i j pos} : DE X B (.Constant (.int i) j pos) (dC (.int i)) := de_c pe_int fun _ => .int i
theorem de_bl {b j pos} : DE X B (.Constant (.bool b) j pos) (dC (.bl b)) := de_c pe_bl fun _ => .bl b
theorem de_non {j pos} : DE X B (.Constant .none j pos) (dC .non) := de_c pe_non fun _ => .non
theorem de_str {x j pos} : DE X B (.Constant (.str x) j pos) (dC (.str x)) := de_c pe_str fun _ => .str x
theorem de_gint {x : Str} {i : Int} {u : Value} {pos : Pos} (hg : Gl X x) (hm : X.mg x = some u) (r : RelV (.int i) u) (hd : (x == ("__debug__" : Str)) = false := by decide) : DE X B (.Name x pos) (dC (.int i)) := de_c (pe_glob hg hm r hd) fun _ => .int i
abbrev R2D := D → D → Gm → QD → Prop
abbrev R1D := D → Gm → QD → Prop
def dOp (r : R2D) (ta tb : TED) : TED := fun δ G Q => ta δ G fun x G1 => tb δ G1 fun y G2 => r x y G2 Q
def dUn (r : R1D) (ta : TED) : TED := fun δ G Q => ta δ G fun x G1 => r x G1 Q
/-- an operator by the heap's own and by trees -/
def OpA (K : PySem.W.Frag) (rv : R2) (r : R2D) : Prop := ∀ (B : Bs) (σ : L2.St) (δ : SD) (H F : Hp) (G : Gm) (x y : V) (a b : D) (Qd : QD) (Q : VK), Sit K B σ H F δ G → Rep K F x a → Rep K F y b → r a b G Qd → (∀ v H', Beh K B σ F δ Qd v H' → Q v H') → rv x y H Q
theorem de_op {op : Operator} {rv : R2} {r : R2D} {a b : Expr} {ta tb : TED} {pos : Pos} (ho : OpR X (binaryOp op) rv) (hA : OpA X.K rv r) (ha : DE X B a ta) (hb : DE X B b tb) : DE X B (.BinOp a op b pos) (dOp r ta tb) :=
  PE.weak (pe_op ho ha hb) fun σ H Q ⟨F, G, δ, Qd, S, h, k⟩ => up2 S h fun x y H2 F2 G2 d e s2 S2 r1 r2 h2 => hA B σ δ H2 F2 G2 x y d e Qd Q S2 r1 r2 h2 fun v H' ⟨F', G', d', s', S', r', q'⟩ => k v H' ⟨F', G', d', s2.trans s', S', r', q'⟩
theorem de_cmp {op : CmpOp} {rv : R2} {r : R2D} {a b : Expr} {ta tb : TED} {pos : Pos} (ho : OpR X (compareOp op) rv) (hA : OpA X.K rv r) (ha : DE X B a ta) (hb : DE X B b tb) (hm : behindInMarks op b = false) : DE X B (.Compare a [op] [b] pos) (dOp r ta tb) :=
  PE.weak (pe_cmpR ho ha hb hm) fun σ H Q ⟨F, G, δ, Qd, S, h, k⟩ => up2 S h fun x y H2 F2 G2 d e s2 S2 r1 r2 h2 => hA B σ δ H2 F2 G2 x y d e Qd Q S2 r1 r2 h2 fun v H' ⟨F', G', d', s', S', r', q'⟩ => k v H' ⟨F', G', d', s2.trans s', S', r', q'⟩
theorem de_ix {rv : R2} {r : R2D} {a b : Expr} {ta tb : TED} {pos : Pos} (ho : IxR X rv) (hA : OpA X.K rv r) (ha : DE X B a ta) (hb : DE X B b tb) (hs : PlainIx b) : DE X B (.Subscript a b pos) (dOp r ta tb) :=
  PE.weak (pe_ix ho ha hb hs) fun σ H Q ⟨F, G, δ, Qd, S, h, k⟩ => up2 S h fun x y H2 F2 G2 d e s2 S2 r1 r2 h2 => hA B σ δ H2 F2 G2 x y d e Qd Q S2 r1 r2 h2 fun v H' ⟨F', G', d', s', S', r', q'⟩ => k v H' ⟨F', G', d', s2.trans s', S', r', q'⟩
/-- a test out of a value -/
def dTest (t : TED) : TTD := fun δ G Q => t δ G fun x G' => match x with | .bl b => Q b G' | _ => False
theorem rep_bl {F : Hp} {v : V} {b : Bool} (r : Rep K F v (.bl b)) : v = .bl b := by cases r; rfl
theorem rep_int {F : Hp} {v : V} {b : Int} (r : Rep K F v (.int b)) : v = .int b := by cases r; rfl
theorem rep_str {F : Hp} {v : V} {b : Str} (r : Rep K F v (.str b)) : v = .str b := by cases r; rfl
theorem rep_non {F : Hp} {v : V} (r : Rep K F v .non) : v = .non := by cases r; rfl
theorem up_test {t : TED} {σ : L2.St} {H : Hp} {Q : Bool → Hp → Prop} (h : upT K B (dTest t) σ H Q) : up K B t σ H fun x H' => ∃ k, x = .bl k ∧ Q k H' := by
  obtain ⟨F, G, δ, Qd, S, h, k⟩ := h
  refine ⟨F, G, δ, _, S, h, fun v H' ⟨F', G', d, s, S', r, q⟩ => ?_⟩
  cases d with
  | bl b =>
    cases r
    exact ⟨b, rfl, k b H' ⟨F', G', s, S', q⟩⟩
  | _ => exact q.elim
theorem dt_val {e : Expr} {t : TED} (h : DE X B e t) (he : ∀ whole, isTrue e X.env whole = (do let v ← whole; standAt e.pos; holding [v] (truthy v)) := by intro _; rfl) : DT X B e (dTest t) :=
  PT.weak (pt_val h he) fun σ H Q q => up_test q
theorem dt_cmp {op : CmpOp} {rv : R2} {r : R2D} {a b : Expr} {ta tb : TED} {pos : Pos} (ho : OpR X (compareOp op) rv) (hA : OpA X.K rv r) (ha : DE X B a ta) (hb : DE X B b tb) (hm : behindInMarks op b = false) : DT X B (.Compare a [op] [b] pos) (dTest (dOp r ta tb)) :=
  PT.weak (pt_cmpR ho ha hb hm) fun σ H Q q => by
    obtain ⟨F, G, δ, Qd, S, h, k⟩ := q
    refine up2 S h fun x y H2 F2 G2 d e s2 S2 r1 r2 h2 => hA B σ δ H2 F2 G2 x y d e _ _ S2 r1 r2 h2 fun v H' ⟨F', G', d', s', S', r', q'⟩ => ?_
    cases d' with
    | bl b =>
      cases r'
      exact ⟨b, rfl, k b H' ⟨F', G', s2.trans s', S', q'⟩⟩
    | _ => exact q'.elim
end
end JP
namespace JP
open PySem PySem.Spec PyProof.Rows L2
section
variable {X : Cx} {B : Bs} {K : PySem.W.Frag} {a b c : Expr} {rest : List Expr} {ta tb : TED} {pos : Pos}
def dAnd (ta tb : TED) : TED := fun δ G Q => ta δ G fun x G1 => match x with | .bl true => tb δ G1 Q | .bl false => Q (.bl false) G1 | _ => False
def dOr (ta tb : TED) : TED := fun δ G Q => ta δ G fun x G1 => match x with | .bl true => Q (.bl true) G1 | .bl false => tb δ G1 Q | _ => False
def dNot (ta : TED) : TED := fun δ G Q => ta δ G fun x G1 => match x with | .bl c => Q (.bl (!c)) G1 | _ => False
theorem de_one {op} {t : TED} (h : DE X B a t) : DE X B (.BoolOp op [a] pos) t := pe_one h
theorem de_and (ha : DE X B a ta) (hb : DE X B (.BoolOp .And (b :: rest) pos) tb) : DE X B (.BoolOp .And (a :: b :: rest) pos) (dAnd ta tb) :=
  PE.weak (pe_and ha hb) fun σ H Q ⟨F, G, δ, Qd, S, h, k⟩ => ⟨F, G, δ, _, S, h, fun v H1 ⟨F1, G1, d, s1, S1, r1, h1⟩ => by
    cases d with
    | bl c =>
      cases r1
      cases c with
      | true => exact ⟨true, rfl, F1, G1, δ, Qd, S1, h1, fun v H' ⟨F', G', d', s', S', r', q'⟩ => k v H' ⟨F', G', d', s1.trans s', S', r', q'⟩⟩
      | false => exact ⟨false, rfl, k _ _ ⟨F1, G1, _, s1, S1, .bl false, h1⟩⟩
    | _ => exact h1.elim⟩
theorem de_or (ha : DE X B a ta) (hb : DE X B (.BoolOp .Or (b :: rest) pos) tb) : DE X B (.BoolOp .Or (a :: b :: rest) pos) (dOr ta tb) :=
  PE.weak (pe_or ha hb) fun σ H Q ⟨F, G, δ, Qd, S, h, k⟩ => ⟨F, G, δ, _, S, h, fun v H1 ⟨F1, G1, d, s1, S1, r1, h1⟩ => by
    cases d with
    | bl c =>
      cases r1
      cases c with
      | false => exact ⟨false, rfl, F1, G1, δ, Qd, S1, h1, fun v H' ⟨F', G', d', s', S', r', q'⟩ => k v H' ⟨F', G', d', s1.trans s', S', r', q'⟩⟩
      | true => exact ⟨true, rfl, k _ _ ⟨F1, G1, _, s1, S1, .bl true, h1⟩⟩
    | _ => exact h1.elim⟩
theorem de_not (ha : DE X B a ta) : DE X B (.UnaryOp .Not a pos) (dNot ta) :=
  PE.weak (pe_not ha) fun σ H Q ⟨F, G, δ, Qd, S, h, k⟩ => ⟨F, G, δ, _, S, h, fun v H1 ⟨F1, G1, d, s1, S1, r1, h1⟩ => by
    cases d with
    | bl c =>
      cases r1
      exact ⟨c, rfl, k _ _ ⟨F1, G1, _, s1, S1, .bl _, h1⟩⟩
    | _ => exact h1.elim⟩
/-- tests -/
def dAndT (t u : TTD) : TTD := fun δ G Q => t δ G fun c G1 => match c with | true => u δ G1 Q | false => Q false G1
def dOrT (t u : TTD) : TTD := fun δ G Q => t δ G fun c G1 => match c with | true => Q true G1 | false => u δ G1 Q
def dNotT (t : TTD) : TTD := fun δ G Q => t δ G fun c G1 => Q (!c) G1
variable {tA tB' : TTD}
theorem dw_pt {e : Expr} {t : TTD} (h : DW X B e t) : DT X B e t := PW.pt h
theorem dw_and1 (ha : DT X B a tA) : DW X B (.BoolOp .And [a] pos) tA := pw_and1 ha
theorem dw_or1 (ha : DT X B a tA) : DW X B (.BoolOp .Or [a] pos) tA := pw_or1 ha
theorem dw_and (ha : DT X B a tA) (hb : DW X B (.BoolOp .And (b :: rest) pos) tB') : DW X B (.BoolOp .And (a :: b :: rest) pos) (dAndT tA tB') :=
  PW.weak (pw_and ha hb) fun σ H Q ⟨F, G, δ, Qd, S, h, k⟩ => ⟨F, G, δ, _, S, h, fun c H1 ⟨F1, G1, s1, S1, h1⟩ => by
    cases c with
    | true => exact ⟨F1, G1, δ, Qd, S1, h1, fun v H' ⟨F', G', s', S', q'⟩ => k v H' ⟨F', G', s1.trans s', S', q'⟩⟩
    | false => exact k _ _ ⟨F1, G1, s1, S1, h1⟩⟩
theorem dw_or (ha : DT X B a tA) (hb : DW X B (.BoolOp .Or (b :: rest) pos) tB') : DW X B (.BoolOp .Or (a :: b :: rest) pos) (dOrT tA tB') :=
  PW.weak (pw_or ha hb) fun σ H Q ⟨F, G, δ, Qd, S, h, k⟩ => ⟨F, G, δ, _, S, h, fun c H1 ⟨F1, G1, s1, S1, h1⟩ => by
    cases c with
    | false => exact ⟨F1, G1, δ, Qd, S1, h1, fun v H' ⟨F', G', s', S', q'⟩ => k v H' ⟨F', G', s1.trans s', S', q'⟩⟩
    | true => exact k _ _ ⟨F1, G1, s1, S1, h1⟩⟩
theorem dt_not (ha : DT X B a tA) : DT X B (.UnaryOp .Not a pos) (dNotT tA) :=
  PT.weak (pt_not ha) fun σ H Q ⟨F, G, δ, Qd, S, h, k⟩ => ⟨F, G, δ, _, S, h, fun c H1 ⟨F1, G1, s1, S1, h1⟩ => k _ _ ⟨F1, G1, s1, S1, h1⟩⟩
def dIf (t : TTD) (ta tb : TED) : TED := fun δ G Q => t δ G fun c G1 => match c with | true => ta δ G1 Q | false => tb δ G1 Q
theorem de_if (hc : DT X B c tA) (ha : DE X B a ta) (hb : DE X B b tb) : DE X B (.IfExp c a b pos) (dIf tA ta tb) :=
  PE.weak (pe_ifExp hc ha hb) fun σ H Q ⟨F, G, δ, Qd, S, h, k⟩ => ⟨F, G, δ, _, S, h, fun c H1 ⟨F1, G1, s1, S1, h1⟩ => by
    cases c with
    | true => exact ⟨F1, G1, δ, Qd, S1, h1, fun v H' ⟨F', G', d', s', S', r', q'⟩ => k v H' ⟨F', G', d', s1.trans s', S', r', q'⟩⟩
    | false => exact ⟨F1, G1, δ, Qd, S1, h1, fun v H' ⟨F', G', d', s', S', r', q'⟩ => k v H' ⟨F', G', d', s1.trans s', S', r', q'⟩⟩⟩
end
section
variable {X : Cx} {B : Bs} {K : PySem.W.Frag} {e : Expr} {es : List Expr} {te : TED} {t : TAD} {pos : Pos}
def dNil : TAD := fun _ G Q => Q [] G
def dCons (te : TED) (tr : TAD) : TAD := fun δ G Q => te δ G fun d G1 => tr δ G1 fun ds G2 => Q (d :: ds) G2
theorem da_nil : DA X B [] dNil := PA.weak pa_nil fun σ H Q ⟨F, G, δ, Qd, S, h, k⟩ => k [] H ⟨F, G, [], .refl F, S, .nil, h⟩
theorem da_cons (ha : DE X B e te) (hr : DA X B es t) (hs : starEach (e :: es) X.env = (false, eval e X.env) :: starEach es X.env := by rfl) : DA X B (e :: es) (dCons te t) :=
  PA.weak (pa_cons ha hr hs) fun σ H Q ⟨F, G, δ, Qd, S, h, k⟩ => ⟨F, G, δ, _, S, h, fun v H1 ⟨F1, G1, d, s1, S1, r1, h1⟩ => ⟨F1, G1, δ, _, S1, h1, fun vs H2 ⟨F2, G2, ds, s2, S2, r2, h2⟩ =>
    k _ H2 ⟨F2, G2, d :: ds, s1.trans s2, S2, .cons (r1.mono s2) r2, h2⟩⟩⟩
def dTup (t : TAD) : TED := fun δ G Q => t δ G fun ds G1 => ds.length ≤ sizeLine ∧ Q (.tup ds) G1
def dLst (t : TAD) : TED := fun δ G Q => t δ G fun ds G1 => ds.length ≤ sizeLine ∧ Q (.lst ds) G1
/-- a new thing in the heap, that stays -/
theorem Beh.new {σ : L2.St} {H F F1 : Hp} {δ : SD} {G : Gm} {Qd : QD} {p : Addr} {o : HO} {d : D} (S : Sit K B σ H F1 δ G) (s : Same F F1) (n : H p = none) (r : Rep K (upd F1 p o) (.ref p) d) (q : Qd d G) (nt : notT o := by exact trivial) : Beh K B σ F δ Qd (.ref p) (upd H p o) :=
  have ⟨d1, s1⟩ := S.ds.new (o := o) n nt
  ⟨upd F1 p o, G, d, s.trans s1, ⟨d1, S.gr.trans s1, S.sl.mono s1⟩, r, q⟩
theorem rep_tup_new {F1 : Hp} {p : Addr} {vs : List V} {ds : List D} (n : F1 p = none) (r : RepAll K F1 vs ds) : Rep K (upd F1 p (.tup vs)) (.ref p) (.tup ds) := .tup upd_same (r.mono (same_new n))
theorem rep_lst_new {F1 : Hp} {p : Addr} {vs : List V} {ds : List D} (n : F1 p = none) (r : RepAll K F1 vs ds) : Rep K (upd F1 p (.lst vs)) (.ref p) (.lst ds) := .lst upd_same (r.mono (same_new n))
theorem de_tup {x1} (h : DA X B es t) : DE X B (.Tuple es x1 pos) (dTup t) :=
  PE.weak (pe_tup h) fun σ H Q ⟨F, G, δ, Qd, S, q, k⟩ => ⟨F, G, δ, _, S, q, fun vs H1 ⟨F1, G1, ds, s1, S1, r1, l, h1⟩ => ⟨by rw [r1.length]; exact l, fun p n =>
    k _ _ (.new S1 s1 n (rep_tup_new (S1.ds.noF n) r1) h1)⟩⟩
theorem de_lst (h : DA X B es t) : DE X B (.List es pos) (dLst t) :=
  PE.weak (pe_lst h) fun σ H Q ⟨F, G, δ, Qd, S, q, k⟩ => ⟨F, G, δ, _, S, q, fun vs H1 ⟨F1, G1, ds, s1, S1, r1, l, h1⟩ => ⟨by rw [r1.length]; exact l, fun p n =>
    k _ _ (.new S1 s1 n (rep_lst_new (S1.ds.noF n) r1) h1)⟩⟩
/-- a list that will be changed -/
def dLstM (t : TAD) : TED := fun δ G Q => t δ G fun ds G1 => ds.length ≤ sizeLine ∧ ∀ p, G1 p = none → Q (.adr p) (updG G1 p (.lst ds))
theorem Beh.open {σ : L2.St} {H F F1 : Hp} {δ : SD} {G : Gm} {Qd : QD} {p : Addr} {o : HO} {m : MO} (S : Sit K B σ H F1 δ G) (s : Same F F1) (n : H p = none) (r : MRep K F1 (upd H p o) p m) (q : Qd (.adr p) (updG G p m)) : Beh K B σ F δ Qd (.ref p) (upd H p o) :=
  ⟨F1, updG G p m, .adr p, s, ⟨S.ds.open n r, S.gr, S.sl⟩, .adr p, q⟩
theorem de_lstM (h : DA X B es t) : DE X B (.List es pos) (dLstM t) :=
  PE.weak (pe_lst h) fun σ H Q ⟨F, G, δ, Qd, S, q, k⟩ => ⟨F, G, δ, _, S, q, fun vs H1 ⟨F1, G1, ds, s1, S1, r1, l, h1⟩ => ⟨by rw [r1.length]; exact l, fun p n =>
    k _ _ (.open (m := .lst ds) S1 s1 n ⟨vs, upd_same, r1⟩ (h1 p (S1.ds.noG n)))⟩⟩
/-- what was changed and is so no more: it is read as what it is worth -/
def dClose (t : TED) : TED := fun δ G Q => t δ G fun d G1 => ∃ a, d = .adr a ∧ match G1 a with | some (.lst ds) => Q (.lst ds) (delG G1 a) | some (.ins C fs) => Q (.ins C fs) (delG G1 a) | some (.dic kvs) => Q (.dic kvs) (delG G1 a) | _ => False
theorem Sit.close {σ : L2.St} {H F : Hp} {δ : SD} {G : Gm} {a : Addr} {m : MO} {o : HO} (S : Sit K B σ H F δ G) (g : G a = some m) (h : H a = some o) (nt : notT o := by exact trivial) : Sit K B σ H (upd F a o) δ (delG G a) ∧ Same F (upd F a o) :=
  have ⟨d1, s1⟩ := S.ds.close g h nt
  ⟨⟨d1, S.gr.trans s1, S.sl.mono s1⟩, s1⟩
theorem de_close (h : DE X B e te) : DE X B e (dClose te) :=
  PE.weak h fun σ H Q ⟨F, G, δ, Qd, S, q, k⟩ => ⟨F, G, δ, _, S, q, fun v H1 ⟨F1, G1, d, s1, S1, r1, a, ea, h1⟩ => by
    subst ea
    cases r1
    cases g : G1 a with
    | none =>
      rw [g] at h1
      exact h1.elim
    | some m =>
      rw [g] at h1
      have r := (S1.ds.mu a m g).2
      cases m with
      | lst ds =>
        obtain ⟨xs, e, r⟩ := r
        obtain ⟨S2, s2⟩ := S1.close g e
        exact k _ _ ⟨_, _, _, s1.trans s2, S2, .lst upd_same (r.mono s2), h1⟩
      | ins C fs =>
        obtain ⟨dx, fv, e, gc, na, r⟩ := r
        obtain ⟨S2, s2⟩ := S1.close g e
        exact k _ _ ⟨_, _, _, s1.trans s2, S2, .ins upd_same gc na (r.mono s2), h1⟩
      | dic kvs =>
        obtain ⟨ks, e, r⟩ := r
        obtain ⟨S2, s2⟩ := S1.close g e
        exact k _ _ ⟨_, _, _, s1.trans s2, S2, .dk (.of upd_same) (r.mono s2), h1⟩
      | dln hf kvs => exact h1.elim
      | pen m => exact h1.elim⟩
end
structure EndsD where
  nx : SD → Gm → Prop
  rt : QD
  bk : SD → Gm → Prop := fun _ _ => False
  ct : SD → Gm → Prop := fun _ _ => False
abbrev TSD := EndsD → SD → Gm → Prop
def BehS (K : PySem.W.Frag) (B : Bs) (F : Hp) (q : SD → Gm → Prop) (σ : L2.St) (H : Hp) : Prop := ∃ F' G' δ', Same F F' ∧ Sit K B σ H F' δ' G' ∧ q δ' G'
def BehR (K : PySem.W.Frag) (B : Bs) (F : Hp) (q : QD) (v : V) (H : Hp) : Prop := ∃ F' G' d, Same F F' ∧ DS K B.T F' H G' B.Z ∧ Same B.F F' ∧ Rep K F' v d ∧ q d G'
structure Low (K : PySem.W.Frag) (B : Bs) (F : Hp) (E : EndsD) (D : Ends) : Prop where
  nx : ∀ σ H, BehS K B F E.nx σ H → D.nx σ H
  rt : ∀ v H, BehR K B F E.rt v H → D.rt v H
  bk : ∀ σ H, BehS K B F E.bk σ H → D.bk σ H
  ct : ∀ σ H, BehS K B F E.ct σ H → D.ct σ H
section
variable {X : Cx} {B : Bs} {K : PySem.W.Frag}
theorem BehS.mono {F F' : Hp} {q : SD → Gm → Prop} {σ : L2.St} {H : Hp} (s : Same F F') (h : BehS K B F' q σ H) : BehS K B F q σ H := let ⟨F1, G, δ, s1, r⟩ := h; ⟨F1, G, δ, s.trans s1, r⟩
theorem BehR.mono {F F' : Hp} {q : QD} {v : V} {H : Hp} (s : Same F F') (h : BehR K B F' q v H) : BehR K B F q v H := let ⟨F1, G, δ, s1, r⟩ := h; ⟨F1, G, δ, s.trans s1, r⟩
theorem Low.mono {F F' : Hp} {E : EndsD} {D : Ends} (s : Same F F') (h : Low K B F E D) : Low K B F' E D :=
  ⟨fun σ H q => h.nx σ H (q.mono s), fun σ H q => h.rt σ H (q.mono s), fun σ H q => h.bk σ H (q.mono s), fun σ H q => h.ct σ H (q.mono s)⟩
def upS (K : PySem.W.Frag) (B : Bs) (T : TSD) : TS := fun D σ H => ∃ F G δ E, Sit K B σ H F δ G ∧ T E δ G ∧ Low K B F E D
def DSt (X : Cx) (B : Bs) (st : Stmt) (T : TSD) : Prop := PS X st (upS X.K B T)
def DB (X : Cx) (B : Bs) (st : List Stmt) (T : TSD) : Prop := PSs X st (upS X.K B T)
theorem PS.weak {e : Stmt} {t t' : TS} (h : PS X e t) (w : ∀ D σ H, t' D σ H → t D σ H) : PS X e t' := ⟨fun pins s σ H D I q => h.run pins s σ H D I (w _ _ _ q)⟩
theorem PSs.weak {e : List Stmt} {t t' : TS} (h : PSs X e t) (w : ∀ D σ H, t' D σ H → t D σ H) : PSs X e t' := ⟨fun pins s σ H D I q => h.run pins s σ H D I (w _ _ _ q)⟩
variable {st : Stmt} {rest : List Stmt} {t u : TSD} {e : Expr} {te : TED} {pos : Pos}
def dNext : TSD := fun E δ G => E.nx δ G
def dSeq (t u : TSD) : TSD := fun E δ G => t { E with nx := u E } δ G
theorem db_nil : DB X B [] dNext := PSs.weak pss_nil fun D σ H ⟨F, G, δ, E, S, h, L⟩ => L.nx σ H ⟨F, G, δ, .refl F, S, h⟩
theorem db_cons (h1 : DSt X B st t) (h2 : DB X B rest u) : DB X B (st :: rest) (dSeq t u) :=
  PSs.weak (pss_cons h1 h2) fun D σ H ⟨F, G, δ, E, S, h, L⟩ => ⟨F, G, δ, _, S, h, ⟨fun σ' H' ⟨F', G', δ', s', S', q'⟩ => ⟨F', G', δ', E, S', q', L.mono s'⟩, L.rt, L.bk, L.ct⟩⟩
theorem db_one (h1 : DSt X B st t) : DB X B [st] t := pss_one h1
def dDrop (te : TED) : TSD := fun E δ G => te δ G fun _ G1 => E.nx δ G1
theorem ds_expr (he : DE X B e te) (hs : swapsWith e none pos.line X.env = pure false := by rfl) : DSt X B (.Expr e pos) (dDrop te) :=
  PS.weak (ps_expr he hs) fun D σ H ⟨F, G, δ, E, S, h, L⟩ => ⟨F, G, δ, _, S, h, fun v H' ⟨F', G', d, s', S', r', q'⟩ => L.nx σ H' ⟨F', G', δ, s', S', q'⟩⟩
def dRet (te : TED) : TSD := fun E δ G => te δ G E.rt
theorem ds_ret (he : DE X B e te) : DSt X B (.Return (some e) pos) (dRet te) :=
  PS.weak (ps_ret he) fun D σ H ⟨F, G, δ, E, S, h, L⟩ => ⟨F, G, δ, _, S, h, fun v H' ⟨F', G', d, s', S', r', q'⟩ => L.rt v H' ⟨F', G', d, s', S'.ds, S'.gr, r', q'⟩⟩
def dIfS (c : TTD) (t u : TSD) : TSD := fun E δ G => c δ G fun b G1 => match b with | true => t E δ G1 | false => u E δ G1
theorem ds_if {c : Expr} {a b : List Stmt} {tc : TTD} (hc : DT X B c tc) (ha : DB X B a t) (hb : DB X B b u) : DSt X B (.If c a b pos) (dIfS tc t u) :=
  PS.weak (ps_if hc ha hb) fun D σ H ⟨F, G, δ, E, S, h, L⟩ => ⟨F, G, δ, _, S, h, fun b H' ⟨F', G', s', S', q'⟩ => by
    cases b with
    | true => exact ⟨F', G', δ, E, S', q', L.mono s'⟩
    | false => exact ⟨F', G', δ, E, S', q', L.mono s'⟩⟩
/-- targets -/
abbrev TGD := D → SD → Gm → (SD → Gm → Prop) → Prop
abbrev TGsD := List D → SD → Gm → (SD → Gm → Prop) → Prop
def upG (K : PySem.W.Frag) (B : Bs) (T : TGD) : TG := fun v σ H Q => ∃ F G δ d Qd, Sit K B σ H F δ G ∧ Rep K F v d ∧ T d δ G Qd ∧ ∀ σ' H', BehS K B F Qd σ' H' → Q σ' H'
def upGs (K : PySem.W.Frag) (B : Bs) (T : TGsD) : TGs := fun vs σ H Q => ∃ F G δ ds Qd, Sit K B σ H F δ G ∧ RepAll K F vs ds ∧ T ds δ G Qd ∧ ∀ σ' H', BehS K B F Qd σ' H' → Q σ' H'
def DG (X : Cx) (B : Bs) (tg : Expr) (T : TGD) : Prop := PG X tg (upG X.K B T)
def DGs (X : Cx) (B : Bs) (ts : List Expr) (T : TGsD) : Prop := PGs X ts (upGs X.K B T)
theorem PG.weak {e : Expr} {t t' : TG} (h : PG X e t) (w : ∀ v σ H Q, t' v σ H Q → t v σ H Q) : PG X e t' := ⟨fun pins s σ H v u Q I r q => h.run pins s σ H v u Q I r (w _ _ _ _ q)⟩
theorem PGs.weak {e : List Expr} {t t' : TGs} (h : PGs X e t) (w : ∀ v σ H Q, t' v σ H Q → t v σ H Q) : PGs X e t' := ⟨fun pins s σ H v u Q I r q => h.run pins s σ H v u Q I r (w _ _ _ _ q)⟩
def gNameD (i : Nat) : TGD := fun d δ G Q => Q (δ.set i (some d)) G
theorem Sit.set {σ : L2.St} {H F : Hp} {δ : SD} {G : Gm} {v : V} {d : D} (S : Sit K B σ H F δ G) (i : Nat) (r : Rep K F v d) : Sit K B (σ.set i (some v)) H F (δ.set i (some d)) G := ⟨S.ds, S.gr, S.sl.set i r⟩
theorem dg_name {i : Nat} {x : Str} (hN : X.N.Nodup) (hi : X.N[i]? = some x) (hx : Loc X.env.scope x) (hf : X.fn x = true ∨ X.env.scope.names.lookup x = some .local := by first | exact .inl rfl | exact .inr rfl | assumption) : DG X B (.Name x pos) (gNameD i) :=
  PG.weak (pg_name hN hi hx hf) fun v σ H Q ⟨F, G, δ, d, Qd, S, r, h, k⟩ => k _ _ ⟨F, G, _, .refl F, S.set i r, h⟩
def gNilD : TGsD := fun ds δ G Q => match ds with | [] => Q δ G | _ => False
def gConsD (t : TGD) (u : TGsD) : TGsD := fun ds δ G Q => match ds with | d :: r => t d δ G fun δ1 G1 => u r δ1 G1 Q | [] => False
theorem dgs_nil : DGs X B [] gNilD := PGs.weak pgs_nil fun vs σ H Q ⟨F, G, δ, ds, Qd, S, r, h, k⟩ => by
  cases r with
  | nil => exact ⟨rfl, k _ _ ⟨F, G, _, .refl F, S, h⟩⟩
  | cons _ _ => exact h.elim
theorem dgs_cons {e : Expr} {es : List Expr} {t : TGD} {u : TGsD} (h1 : DG X B e t) (h2 : DGs X B es u)
    (hs : (assignEach (e :: es) X.env).map (·.2) = assign e X.env :: (assignEach es X.env).map (·.2) := by rfl) : DGs X B (e :: es) (gConsD t u) :=
  PGs.weak (pgs_cons h1 h2 hs) fun vs σ H Q ⟨F, G, δ, ds, Qd, S, r, h, k⟩ => by
    cases r with
    | nil => exact h.elim
    | cons r1 rr => exact ⟨_, _, rfl, F, G, δ, _, _, S, r1, h, fun σ' H' ⟨F', G', δ', s', S', q'⟩ => ⟨F', G', δ', _, Qd, S', rr.mono s', q', fun σ2 H2 q2 => k σ2 H2 (q2.mono s')⟩⟩
def gTupD (n : Nat) (t : TGsD) : TGD := fun d δ G Q => match d with | .tup ds => ds.length = n ∧ t ds δ G Q | _ => False
theorem dg_tup {es : List Expr} {k : Nat} {t : TGsD} {n : Nat} (hc : X.calm = true) (h : DGs X B es t)
    (hn : (assignEach es X.env).length = n := by rfl) (hst : (assignEach es X.env).findIdx? (·.1) = none := by rfl) : DG X B (.Tuple es k pos) (gTupD n t) :=
  PG.weak (pg_tup hc h hn hst) fun v σ H Q ⟨F, G, δ, d, Qd, S, r, h, k⟩ => by
    cases d with
    | tup ds =>
      cases r with
      | tup hq ra => exact ⟨_, _, rfl, SqT.of (S.ds.sub _ _ hq), ra.length.trans h.1, F, G, δ, ds, Qd, S, ra, h.2, k⟩
    | _ => exact h.elim
def dAsg (te : TED) (g : TGD) : TSD := fun E δ G => te δ G fun d G1 => g d δ G1 E.nx
theorem ds_asg {tg e : Expr} {te : TED} {g : TGD} (he : DE X B e te) (hg : DG X B tg g) (hs : swapsWithSole [tg] e pos.line X.env = pure false := by rfl) (hw : swappedStores [tg] e X.env = pure none := by rfl)
    (h1 : (assignEach [tg] X.env).map (·.2) = [assign tg X.env] := by rfl) : DSt X B (.Assign [tg] e pos) (dAsg te g) :=
  PS.weak (ps_asg he hg hs hw h1) fun D σ H ⟨F, G, δ, E, S, h, L⟩ => ⟨F, G, δ, _, S, h, fun v H' ⟨F', G', d, s', S', r', q'⟩ => ⟨F', G', δ, d, E.nx, S', r', q', fun σ2 H2 q2 => L.nx σ2 H2 (q2.mono s')⟩⟩
end
end JP
namespace JP
open PySem PySem.Spec PyProof.Rows L2
section
variable {X : Cx} {B : Bs} {K : PySem.W.Frag} {e : Expr} {te : TED} {pos : Pos}
theorem ds_set {i : Nat} {x : Str} {pos' : Pos} (hN : X.N.Nodup) (hi : X.N[i]? = some x) (hx : Loc X.env.scope x) (he : DE X B e te) (hs : swapsWith e (some (.Name x pos')) pos.line X.env = pure false := by rfl) (hf : X.fn x = true ∨ X.env.scope.names.lookup x = some .local := by first | exact .inl rfl | exact .inr rfl | assumption) :
    DSt X B (.Assign [.Name x pos'] e pos) (dAsg te (gNameD i)) :=
  PS.weak (ps_set hN hi hx he hs hf) fun D σ H ⟨F, G, δ, E, S, h, L⟩ => ⟨F, G, δ, _, S, h, fun v H' ⟨F', G', d, s', S', r', q'⟩ => L.nx _ _ ⟨F', G', _, s', S'.set i r', q'⟩⟩
def dPar (i j : Nat) (ta : TAD) : TSD := fun E δ G => ta δ G fun ds G1 => match ds with | [d, e] => E.nx ((δ.set i (some d)).set j (some e)) G1 | _ => False
theorem ds_par {i j : Nat} {x y : Str} {a b : Expr} {ta : TAD} {px py pt : Pos} {kt k2 pt2} (hc : X.calm = true) (hN : X.N.Nodup) (hi : X.N[i]? = some x) (hj : X.N[j]? = some y) (hij : i ≠ j)
    (hx : X.env.scope.names.lookup x = some .local) (hy : X.env.scope.names.lookup y = some .local) (ha : DA X B [a, b] ta)
    (hw : swappedStores [.Tuple [.Name x px, .Name y py] kt pt] (.Tuple [a, b] k2 pt2) X.env = pure (some [x, y]))
    (hs : swapsWithSole [.Tuple [.Name x px, .Name y py] kt pt] (.Tuple [a, b] k2 pt2) pos.line X.env = pure false := by rfl) :
    DSt X B (.Assign [.Tuple [.Name x px, .Name y py] kt pt] (.Tuple [a, b] k2 pt2) pos) (dPar i j ta) :=
  PS.weak (ps_par hc hN hi hj hij hx hy ha hw hs) fun D σ H ⟨F, G, δ, E, S, h, L⟩ => ⟨F, G, δ, _, S, h, fun vs H' ⟨F', G', ds, s', S', r', q'⟩ => by
    match ds, r', q' with
    | [d, e], .cons r1 (.cons r2 .nil), q' => exact ⟨_, _, rfl, L.nx _ _ ⟨F', G', _, s', (S'.set i r1).set j r2, q'⟩⟩⟩
/-- a op= b by trees -/
def IpA (K : PySem.W.Frag) (rv : TIp) (r : R2D) : Prop := ∀ (B : Bs) (σ : L2.St) (δ : SD) (H F : Hp) (G : Gm) (x y : V) (a b : D) (Qd : QD) (Q : VK), Sit K B σ H F δ G → Rep K F x a → Rep K F y b → r a b G Qd → (∀ v H', Beh K B σ F δ Qd v H' → Q v H') → rv x y H Q
def dAug (i : Nat) (te : TED) (r : R2D) : TSD := fun E δ G => match δ[i]? with | some (some a) => te δ G fun b G1 => r a b G1 fun d G2 => E.nx (δ.set i (some d)) G2 | _ => False
theorem ds_aug {i : Nat} {x : Str} {op : Operator} {ti : TIp} {r : R2D} {pos' : Pos} (hN : X.N.Nodup) (hi : X.N[i]? = some x) (hx : Loc X.env.scope x) (he : DE X B e te) (ho : PIp X op ti) (hA : IpA X.K ti r) (hf : X.fn x = true ∨ X.env.scope.names.lookup x = some .local := by first | exact .inl rfl | exact .inr rfl | assumption) :
    DSt X B (.AugAssign (.Name x pos') op e pos) (dAug i te r) :=
  PS.weak (ps_aug hN hi hx he ho hf) fun D σ H ⟨F, G, δ, E, S, h, L⟩ => by
    unfold dAug at h
    split at h
    · rename_i a e
      obtain ⟨v, e', ra⟩ := S.sl.get i a e
      exact ⟨v, e', F, G, δ, _, S, h, fun y H1 ⟨F1, G1, b, s1, S1, r1, h1⟩ => hA B σ δ H1 F1 G1 v y a b _ _ S1 (ra.mono s1) r1 h1 fun z H2 ⟨F2, G2, d, s2, S2, r2, h2⟩ => L.nx _ _ ⟨F2, G2, _, s1.trans s2, S2.set i r2, h2⟩⟩
    · exact h.elim
/-- while: turn by turn, at most so many -/
def whD (c : TTD) (tb : TSD) (E : EndsD) : Nat → SD → Gm → Prop
  | 0, _, _ => False
  | n + 1, δ, G => c δ G fun b G1 => match b with | true => tb { nx := whD c tb E n, rt := E.rt, bk := E.nx, ct := whD c tb E n } δ G1 | false => E.nx δ G1
def dWhile (c : TTD) (tb : TSD) : TSD := fun E δ G => ∃ n, whD c tb E n δ G
theorem ds_while {c : Expr} {body : List Stmt} {tc : TTD} {tb : TSD} (hp : PassesOwn (model X.prog X.w) X.A X.env X.xe) (hc : DT X B c tc) (hb : DB X B body tb) : DSt X B (.While c body [] pos) (dWhile tc tb) :=
  PS.weak (ps_while hp hc hb) fun D σ H ⟨F, G, δ, E, S, ⟨n, h⟩, L⟩ => by
    refine ⟨fun m σ' H' => ∃ F' G' δ', Same F F' ∧ Sit X.K B σ' H' F' δ' G' ∧ whD tc tb E m δ' G', ⟨n, F, G, δ, .refl F, S, h⟩, ?_⟩
    rintro m σ1 H1 ⟨F1, G1, δ1, s1, S1, h1⟩
    cases m with
    | zero => exact h1.elim
    | succ m =>
      refine ⟨F1, G1, δ1, _, S1, h1, fun b H2 ⟨F2, G2, s2, S2, h2⟩ => ?_⟩
      cases b with
      | true => exact ⟨fun σ' H' => ∃ F' G' δ', Same F F' ∧ Sit X.K B σ' H' F' δ' G' ∧ whD tc tb E m δ' G', fun σ' H' q => ⟨m, Nat.lt_succ_self m, q⟩, F2, G2, δ1, _, S2, h2,
          ⟨fun σ' H' ⟨F', G', δ', s', S', q⟩ => ⟨F', G', δ', (s1.trans s2).trans s', S', q⟩, fun v H' q => L.rt v H' (q.mono (s1.trans s2)), fun σ' H' q => L.nx σ' H' (BehS.mono (s1.trans s2) q), fun σ' H' ⟨F', G', δ', s', S', q⟩ => ⟨F', G', δ', (s1.trans s2).trans s', S', q⟩⟩⟩
      | false => exact L.nx _ _ ⟨F2, G2, δ1, s1.trans s2, S2, h2⟩
structure ItD (K : PySem.W.Frag) (F : Hp) (J : L2.It) (ds : List D) : Prop where
  go : ∀ i H, i < ds.length → Same F H → J.go i H
  stop : ∀ H, Same F H → J.stop ds.length H
  yld : ∀ i H x H', i < ds.length → Same F H → J.yld i H x H' → ∀ (B : Bs) σ δ G F1, Sit K B σ H F1 δ G → Same F F1 → ∃ F2 d, Same F1 F2 ∧ Sit K B σ H' F2 δ G ∧ ds[i]? = some d ∧ Rep K F2 x d
abbrev TID := SD → Gm → (List D → Gm → Prop) → Prop
def upI (K : PySem.W.Frag) (B : Bs) (T : TID) : TI := fun σ H R => ∃ F G δ Qd, Sit K B σ H F δ G ∧ T δ G Qd ∧ ∀ J H', (∃ F' G' ds, Same F F' ∧ Sit K B σ H' F' δ G' ∧ ItD K F' J ds ∧ Qd ds G') → R J H'
def DI (X : Cx) (B : Bs) (tg iter : Expr) (T : TID) : Prop := PI X tg iter (upI X.K B T)
theorem PI.weak {tg e : Expr} {t t' : TI} (h : PI X tg e t) (w : ∀ σ H Q, t' σ H Q → t σ H Q) : PI X tg e t' := ⟨fun pins s σ H Q I q => h.run pins s σ H Q I (w _ _ _ q)⟩
theorem itD_list {F : Hp} {a : Addr} {xs : List V} {ds : List D} (h : SqL K F a xs) (r : RepAll K F xs ds) : ItD K F (Itl K a) ds :=
  ⟨fun i H hi s => by
    have l := r.length
    exact ⟨xs, xs[i]'(by omega), same_seqL' s h, by simp [show i < xs.length by omega]⟩, fun H s => ⟨xs, same_seqL' s h, by rw [r.length]; exact Nat.le_refl _⟩, fun i H x H' hi s y B σ δ G F1 S s1 => by
    obtain ⟨rfl, y⟩ := y
    obtain ⟨d, hd, rd⟩ := r.get' (y xs (same_seqL' s h))
    exact ⟨F1, d, .refl F1, S, hd, rd.mono s1⟩⟩
theorem itD_tup {F : Hp} {a : Addr} {xs : List V} {ds : List D} (h : SqT K F a xs) (r : RepAll K F xs ds) : ItD K F (Itt K a) ds :=
  ⟨fun i H hi s => by
    have l := r.length
    exact ⟨xs, xs[i]'(by omega), same_seqT s h, by simp [show i < xs.length by omega]⟩, fun H s => ⟨xs, same_seqT s h, by rw [r.length]; exact Nat.le_refl _⟩, fun i H x H' hi s y B σ δ G F1 S s1 => by
    obtain ⟨rfl, y⟩ := y
    obtain ⟨d, hd, rd⟩ := r.get' (y xs (same_seqT s h))
    exact ⟨F1, d, .refl F1, S, hd, rd.mono s1⟩⟩
def iListD (te : TED) : TID := fun δ G R => te δ G fun d G1 => match d with | .lst ds => R ds G1 | _ => False
def iTupD (te : TED) : TID := fun δ G R => te δ G fun d G1 => match d with | .tup ds => R ds G1 | _ => False
theorem di_list {tg : Expr} (h : DE X B e te) : DI X B tg e (iListD te) :=
  PI.weak (pi_list h) fun σ H R ⟨F, G, δ, Qd, S, h, k⟩ => ⟨F, G, δ, _, S, h, fun v H1 ⟨F1, G1, d, s1, S1, r1, h1⟩ => by
    cases d with
    | lst ds =>
      cases r1 with
      | lst hq ra => exact ⟨_, rfl, ⟨_, SqL.of (S1.ds.sub _ _ hq)⟩, k _ _ ⟨F1, G1, ds, s1, S1, itD_list (.of hq) ra, h1⟩⟩
    | _ => exact h1.elim⟩
theorem di_tup {tg : Expr} (h : DE X B e te) : DI X B tg e (iTupD te) :=
  PI.weak (pi_tup h) fun σ H R ⟨F, G, δ, Qd, S, h, k⟩ => ⟨F, G, δ, _, S, h, fun v H1 ⟨F1, G1, d, s1, S1, r1, h1⟩ => by
    cases d with
    | tup ds =>
      cases r1 with
      | tup hq ra => exact ⟨_, rfl, ⟨_, SqT.of (S1.ds.sub _ _ hq)⟩, k _ _ ⟨F1, G1, ds, s1, S1, itD_tup (.of hq) ra, h1⟩⟩
    | _ => exact h1.elim⟩
/-- a name that holds a list or a tuple -/
def iAnyD (i : Nat) : TID := fun δ G R => match δ[i]? with | some (some (.lst ds)) => R ds G | some (some (.tup ds)) => R ds G | _ => False
theorem di_anyV {tg l : Expr} {i : Nat} (hl : PE X l (tVar i)) : DI X B tg l (iAnyD i) :=
  PI.weak (pi_anyV hl) fun σ H R ⟨F, G, δ, Qd, S, h, k⟩ => by
    unfold iAnyD at h
    split at h
    · rename_i ds e
      obtain ⟨v, e', r⟩ := S.sl.get i _ e
      cases r with
      | lst hq ra => exact ⟨_, e', .inl ⟨⟨_, SqL.of (S.ds.sub _ _ hq)⟩, k _ _ ⟨F, G, ds, .refl F, S, itD_list (.of hq) ra, h⟩⟩⟩
    · rename_i ds e
      obtain ⟨v, e', r⟩ := S.sl.get i _ e
      cases r with
      | tup hq ra => exact ⟨_, e', .inr ⟨⟨_, SqT.of (S.ds.sub _ _ hq)⟩, k _ _ ⟨F, G, ds, .refl F, S, itD_tup (.of hq) ra, h⟩⟩⟩
    · exact h.elim
def rangeD (lo : Int) (n : Nat) : List D := (List.range n).map fun (i : Nat) => .int (lo + i)
theorem itD_range {F : Hp} (lo : Int) (n : Nat) : ItD K F (Itr lo n) (rangeD lo n) := by
  have l : (rangeD lo n).length = n := by simp [rangeD]
  refine ⟨fun i H hi _ => by rw [l] at hi; exact hi, fun H _ => by rw [l]; exact Nat.le_refl n, fun i H x H' hi s y B σ δ G F1 S s1 => ?_⟩
  obtain ⟨rfl, rfl⟩ := y
  rw [l] at hi
  exact ⟨F1, .int (lo + i), .refl F1, S, by simp [rangeD, hi], .int _⟩
def iRange1D (ta : TAD) : TID := fun δ G R => ta δ G fun ds G1 => match ds with | [.int j] => (-(2 ^ 62) ≤ j ∧ j < 2 ^ 62) ∧ R (rangeD 0 j.toNat) G1 | _ => False
theorem di_range1 {tg a : Expr} {ta : TAD} {p pos : Pos} (hg : Gl X "range") (hm : X.mg "range" = none) (ha : DA X B [a] ta) (hs : starEach [a] X.env = [(false, eval a X.env)] := by rfl) : DI X B tg (.Call (.Name "range" p) [a] [] pos) (iRange1D ta) :=
  PI.weak (pi_range1 hg hm ha hs) fun σ H R ⟨F, G, δ, Qd, S, h, k⟩ => ⟨F, G, δ, _, S, h, fun vs H1 ⟨F1, G1, ds, s1, S1, r1, h1⟩ => by
    match ds, r1, h1 with
    | [.int j], .cons r .nil, h1 =>
      cases r
      exact ⟨j, rfl, h1.1.1, h1.1.2, k _ _ ⟨F1, G1, _, s1, S1, itD_range 0 _, h1.2⟩⟩⟩
def forD (g : TGD) (tb : TSD) (E : EndsD) : List D → SD → Gm → Prop
  | [] => fun δ G => E.nx δ G
  | d :: ds => fun δ G => g d δ G fun δ1 G1 => tb { nx := forD g tb E ds, rt := E.rt, bk := E.nx, ct := forD g tb E ds } δ1 G1
def dFor (ti : TID) (g : TGD) (tb : TSD) : TSD := fun E δ G => ti δ G fun ds G1 => forD g tb E ds δ G1
theorem drop_get {α : Type} {ds : List α} {i : Nat} {d : α} (h : ds[i]? = some d) : ds.drop i = d :: ds.drop (i + 1) := by
  have hi : i < ds.length := (List.getElem?_eq_some_iff.mp h).1
  rw [List.drop_eq_getElem_cons hi]
  rw [List.getElem?_eq_getElem hi] at h
  cases h
  rfl
theorem ds_for {tg iter : Expr} {body : List Stmt} {ti : TID} {g : TGD} {tb : TSD} (hp : PassesOwn (model X.prog X.w) X.A X.env X.xe) (hc : X.calm = true) (hi : DI X B tg iter ti) (hg : DG X B tg g) (hb : DB X B body tb)
    (hs : ∀ x, foldedSetIterable iter X.env x = pure x := by intro _; rfl) : DSt X B (.For tg iter body [] pos) (dFor ti g tb) :=
  PS.weak (ps_for hp hc hi hg hb hs) fun D σ H ⟨F, G, δ, E, S, h, L⟩ => ⟨F, G, δ, _, S, h, fun J H1 ⟨F1, G1, ds, s1, S1, it, h1⟩ => by
    refine ⟨fun i m σ' H' => m = ds.length - i ∧ i ≤ ds.length ∧ ∃ F' G' δ', Same F1 F' ∧ Sit X.K B σ' H' F' δ' G' ∧ forD g tb E (ds.drop i) δ' G', ⟨ds.length, by simp, Nat.zero_le _, F1, G1, δ, .refl F1, S1, h1⟩, ?_⟩
    rintro i m σ2 H2 ⟨rfl, hi, F2, G2, δ2, s2, S2, h2⟩
    have sh : Same F1 H2 := s2.trans S2.ds.sub
    rcases Nat.lt_or_ge i ds.length with hlt | hge
    · refine .inr ⟨it.go i H2 hlt sh, fun σ' H' => ∃ F' G' δ', Same F1 F' ∧ Sit X.K B σ' H' F' δ' G' ∧ forD g tb E (ds.drop (i + 1)) δ' G', fun σ' H' q => ⟨ds.length - (i + 1), by omega, rfl, hlt, q⟩, fun x H3 y => ?_⟩
      obtain ⟨F3, d, s3, S3, hd, rd⟩ := it.yld i H2 x H3 hlt sh y B σ2 δ2 G2 F2 S2 s2
      rw [drop_get hd] at h2
      refine ⟨F3, G2, δ2, d, _, S3, rd, h2, fun σ4 H4 ⟨F4, G4, δ4, s4, S4, h4⟩ => ⟨F4, G4, δ4, _, S4, h4, ?_⟩⟩
      have st : Same F1 F4 := (s2.trans s3).trans s4
      exact ⟨fun σ' H' ⟨F', G', δ', s', S', q⟩ => ⟨F', G', δ', st.trans s', S', q⟩, fun v H' q => L.rt v H' (q.mono (s1.trans st)), fun σ' H' q => L.nx σ' H' (BehS.mono (s1.trans st) q), fun σ' H' ⟨F', G', δ', s', S', q⟩ => ⟨F', G', δ', st.trans s', S', q⟩⟩
    · have e : i = ds.length := by omega
      subst e
      rw [List.drop_length] at h2
      exact .inl ⟨it.stop H2 sh, L.nx _ _ ⟨F2, G2, δ2, s1.trans s2, S2, h2⟩⟩⟩
def wipeD (δ : SD) : List Nat → SD
  | [] => δ
  | v :: vs => (wipeD δ vs).set v none
theorem Sl.wipe {F : Hp} {σ : L2.St} {δ : SD} (h : Sl K F σ δ) : ∀ vs : List Nat, Sl K F (wipe σ vs) (wipeD δ vs)
  | [] => h
  | v :: vs => (Sl.wipe h vs).drop v none
/-- a target within a comprehension -/
def CG (K : PySem.W.Frag) (vs : List Nat) (g : TG) (gD : TGD) : Prop := ∀ (B : Bs) (σ : L2.St) (H F : Hp) (δ : SD) (G : Gm) (v : V) (d : D) (Qd : SD → Gm → Prop) (Q : L2.St → Hp → Prop), Sit K B σ H F δ G → Rep K F v d → gD d δ G Qd →
  (∀ σ' δ', wipe σ' vs = wipe σ vs → Sit K B σ' H F δ' G → Qd δ' G → Q σ' H) → g v σ H Q
def CGs (K : PySem.W.Frag) (vs : List Nat) (g : TGs) (gD : TGsD) : Prop := ∀ (B : Bs) (σ : L2.St) (H F : Hp) (δ : SD) (G : Gm) (us : List V) (ds : List D) (Qd : SD → Gm → Prop) (Q : L2.St → Hp → Prop), Sit K B σ H F δ G → RepAll K F us ds → gD ds δ G Qd →
  (∀ σ' δ', wipe σ' vs = wipe σ vs → Sit K B σ' H F δ' G → Qd δ' G → Q σ' H) → g us σ H Q
theorem wipe_set {i : Nat} {o : Option V} : ∀ {vs : List Nat} {σ : L2.St}, i ∈ vs → wipe (σ.set i o) vs = wipe σ vs
  | [], _, h => by simp at h
  | v :: vs, σ, h => by
    by_cases c : i ∈ vs
    · show (wipe (σ.set i o) vs).set v none = (wipe σ vs).set v none
      rw [wipe_set c]
    · have e : i = v := by
        rcases List.mem_cons.mp h with h | h
        · exact h
        · exact absurd h c
      subst e
      have : ∀ {us : List Nat}, i ∉ us → wipe (σ.set i o) us = (wipe σ us).set i o := by
        intro us
        induction us with
        | nil => intro _; rfl
        | cons u us ih =>
          intro hu
          have h1 : i ≠ u := fun z => hu (z ▸ List.mem_cons_self)
          have h2 : i ∉ us := fun z => hu (List.mem_cons_of_mem _ z)
          show (wipe (σ.set i o) us).set u none = ((wipe σ us).set u none).set i o
          rw [ih h2, List.set_comm _ _ h1]
      show (wipe (σ.set i o) vs).set i none = (wipe σ vs).set i none
      rw [this c, List.set_set]
theorem cg_name {vs : List Nat} {i : Nat} (h : i ∈ vs) : CG K vs (gName i) (gNameD i) := fun B σ H F δ G v d Qd Q S r q k => k _ _ (wipe_set h) (S.set i r) q
theorem cg_nil {vs : List Nat} : CGs K vs gNil gNilD := fun B σ H F δ G us ds Qd Q S r q k => by
  cases r with
  | nil => exact ⟨rfl, k _ _ rfl S q⟩
  | cons _ _ => exact q.elim
theorem cg_cons {vs : List Nat} {g : TG} {gD : TGD} {u : TGs} {uD : TGsD} (h1 : CG K vs g gD) (h2 : CGs K vs u uD) : CGs K vs (gCons g u) (gConsD gD uD) := fun B σ H F δ G us ds Qd Q S r q k => by
  cases r with
  | nil => exact q.elim
  | cons r rr => exact ⟨_, _, rfl, h1 B σ H F δ G _ _ _ _ S r q fun σ1 δ1 e1 S1 q1 => h2 B σ1 H F δ1 G _ _ _ _ S1 rr q1 fun σ2 δ2 e2 S2 q2 => k σ2 δ2 (e2.trans e1) S2 q2⟩
theorem cg_tup {vs : List Nat} {n : Nat} {u : TGs} {uD : TGsD} (h : CGs K vs u uD) : CG K vs (gTup K n u) (gTupD n uD) := fun B σ H F δ G v d Qd Q S r q k => by
  cases d with
  | tup ds =>
    cases r with
    | tup hq ra => exact ⟨_, _, rfl, SqT.of (S.ds.sub _ _ hq), ra.length.trans q.1, h B σ H F δ G _ _ _ _ S ra q.2 k⟩
  | _ => exact q.elim
def lcD (g : TGD) (tt : TTD) (te : TED) (Fin : List D → Gm → Prop) (δ : SD) : List D → List D → Gm → Prop
  | [], acc, G => Fin acc G
  | d :: ds, acc, G => g d δ G fun δ1 G1 => tt δ1 G1 fun b G2 => match b with | true => te δ1 G2 fun y G3 => lcD g tt te Fin δ ds (acc ++ [y]) G3 | false => lcD g tt te Fin δ ds acc G2
/-- one more, all of it within what a list holds -/
def dLcF (ti : TID) (g : TGD) (tt : TTD) (te : TED) (vs : List Nat) (Fin : QD → List D → Gm → Prop) : TED := fun δ G Q => ti δ G fun ds G1 => ds.length < sizeLine ∧ lcD g tt te (Fin Q) (wipeD δ vs) ds [] G1
abbrev finL : QD → List D → Gm → Prop := fun Q acc G => Q (.lst acc) G
/-- what is made of the list in the end -/
def FinA (K : PySem.W.Frag) (Fin : QD → List D → Gm → Prop) : Prop := ∀ (B : Bs) (σ : L2.St) (δ : SD) (F F3 H3 : Hp) (G3 : Gm) (acc : List D) (av : List V) (D : Addr) (Qd : QD), Same F F3 → Sit K B σ H3 F3 δ G3 → H3 D = some (.lst av) → F3 D = none → G3 D = none → B.Z D = none → RepAll K F3 av acc → Fin Qd acc G3 → Beh K B σ F δ Qd (.ref D) H3
theorem finA_l : FinA K finL := fun B σ δ F F3 H3 G3 acc av D Qd s S h f g z ra q => by
  obtain ⟨d3, s3⟩ := S.ds.frz h g z
  exact ⟨_, G3, .lst acc, s.trans s3, ⟨d3, S.gr.trans s3, S.sl.mono s3⟩, .lst upd_same (ra.mono s3), q⟩
def dYes : TTD := fun _ G Q => Q true G
def DTs (X : Cx) (B : Bs) (ifs : List Expr) (T : TTD) : Prop := PTs X ifs (upT X.K B T)
theorem dts_nil : DTs X B [] dYes := ⟨fun pins s σ H Q I h => pts_nil.run pins s σ H Q I (let ⟨F, G, δ, Qd, S, h, k⟩ := h; k true H ⟨F, G, .refl F, S, h⟩)⟩
theorem dts_one {c : Expr} {t : TTD} (h : DT X B c t) : DTs X B [c] t := pts_one h
def upU (K : PySem.W.Frag) (T : TED) : TE := fun σ H Q => ∃ B, up K B T σ H Q
def upTU (K : PySem.W.Frag) (T : TTD) : TT := fun σ H Q => ∃ B, upT K B T σ H Q
/-- what a comprehension's reading comes to -/
theorem lc_adeq {ti : TID} {gV : TG} {g : TGD} {tt : TTD} {te : TED} {vs : List Nat} {Fin : QD → List D → Gm → Prop} (fin : FinA K Fin) (hg : CG K vs gV g) (σ : L2.St) (H : Hp) (Q : VK) (h : up K B (dLcF ti g tt te vs Fin) σ H Q) : tLc (upI K B ti) gV (upTU K tt) (upU K te) vs σ H Q := by
  obtain ⟨F, G, δ, Qd, S, h, k⟩ := h
  refine ⟨F, G, δ, _, S, h, fun J H1 ⟨F1, G1, ds, s1, S1, it, hz, h1⟩ D nD => ?_⟩
  have fD : F1 D = none := S1.ds.noF nD
  have zD : B.Z D = none := S1.ds.noZ nD
  refine ⟨fun i m H' => m = ds.length - i ∧ i ≤ ds.length ∧ ∃ F' G' acc av, Same F1 F' ∧ F' D = none ∧ G' D = none ∧ H' D = some (.lst av) ∧ RepAll K F' av acc ∧ acc.length ≤ i ∧ Sit K B σ H' F' δ G' ∧ lcD g tt te (Fin Qd) (wipeD δ vs) (ds.drop i) acc G',
    ⟨ds.length, by simp, Nat.zero_le _, F1, G1, [], [], .refl F1, fD, S1.ds.noG nD, upd_same, .nil, Nat.le_refl _, S1.same (same_new nD), h1⟩, ?_⟩
  rintro i m H2 ⟨rfl, hi, F2, G2, acc, av, s2, f2, g2, h2D, ra, la, S2, h2⟩
  have sh : Same F1 H2 := s2.trans S2.ds.sub
  rcases Nat.lt_or_ge i ds.length with hlt | hge
  · refine .inr ⟨it.go i H2 hlt sh, fun H' => ∃ F' G' acc av, Same F1 F' ∧ F' D = none ∧ G' D = none ∧ H' D = some (.lst av) ∧ RepAll K F' av acc ∧ acc.length ≤ i + 1 ∧ Sit K B σ H' F' δ G' ∧ lcD g tt te (Fin Qd) (wipeD δ vs) (ds.drop (i + 1)) acc G', fun H' q => ⟨ds.length - (i + 1), by omega, rfl, hlt, q⟩, fun x H3 y => ?_⟩
    -- the new list stays through the turn
    obtain ⟨F3, d, s3, S3, hd, rd⟩ := it.yld i H2 x H3 hlt sh y ⟨F1, upd B.Z D (.lst av), B.T⟩ σ δ G2 F2 ⟨S2.ds.zadd h2D f2 g2 trivial, s2, S2.sl⟩ s2
    rw [drop_get hd] at h2
    have Sw : Sit K ⟨F1, upd B.Z D (.lst av), B.T⟩ (wipe σ vs) H3 F3 (wipeD δ vs) G2 := ⟨S3.ds, S3.gr, S3.sl.wipe vs⟩
    refine hg _ _ _ _ _ _ _ _ _ _ Sw rd h2 fun σ4 δ4 e4 S4 h4 => ⟨?_, ⟨F1, upd B.Z D (.lst av), B.T⟩, F3, G2, δ4, _, S4, h4, fun b H5 ⟨F5, G5, s5, S5, h5⟩ => ?_⟩
    · have ww : ∀ (us : List Nat) (σ : L2.St), (∀ u ∈ us, u ∈ vs) → wipe (wipe σ us) vs = wipe σ vs := by
        intro us
        induction us with
        | nil => intro σ _; rfl
        | cons u us ih =>
          intro σ hu
          show wipe ((wipe σ us).set u none) vs = wipe σ vs
          rw [wipe_set (hu u List.mem_cons_self)]
          exact ih σ fun v hv => hu v (List.mem_cons_of_mem _ hv)
      exact e4.trans (ww vs σ fun u hu => hu)
    · cases b with
      | false =>
        obtain ⟨d5, h5D, f5, g5⟩ := S5.ds.zdel zD
        exact ⟨F5, G5, acc, av, (s2.trans s3).trans s5, f5, g5, h5D, ra.mono (s3.trans s5), by omega, ⟨d5, S2.gr.trans (s3.trans s5), S2.sl.mono (s3.trans s5)⟩, h5⟩
      | true =>
        refine ⟨⟨F1, upd B.Z D (.lst av), B.T⟩, F5, G5, δ4, _, S5, h5, fun y H6 ⟨F6, G6, dy, s6, S6, r6, h6⟩ => ?_⟩
        obtain ⟨d6, h6D, f6, g6⟩ := S6.ds.zdel zD
        have st := (s3.trans s5).trans s6
        refine ⟨av, h6D, by rw [ra.length]; omega, F6, G6, acc ++ [dy], av ++ [y], s2.trans st, f6, g6, upd_same, (ra.mono st).append (.cons r6 .nil), by simp; omega, ⟨d6.other h6D f6 g6 zD, S2.gr.trans st, S2.sl.mono st⟩, h6⟩
  · have e : i = ds.length := by omega
    subst e
    rw [List.drop_length] at h2
    exact .inl ⟨it.stop H2 sh, k _ _ (fin B σ δ F F2 H2 G2 acc av D Qd (s1.trans s2) S2 h2D f2 g2 zD ra h2)⟩
section
variable {elt tg iter : Expr} {ifs : List Expr} {scope : Scope} {own : List (Str × Nat)} {ti : TID} {gV : TG} {g : TGD} {tt : TTD} {te : TED}
theorem de_lcF {Fin : QD → List D → Gm → Prop} (fin : FinA X.K Fin) (hc : X.calm = true) (hN : X.N.Nodup) (hi : DI X B tg iter ti) (ok : BlkOk X.N X.env.scope scope own)
    (hcg : CG X.K (own.map (·.2)) gV g)
    (hg : ∀ (s : Shared) (H : Hp) (C : Addr) (cl : List (Str × Addr)) (fp : List Addr), PG (X.blk s H scope (compEnvC scope cl C X.env) fp) tg gV)
    (ht : ∀ (s : Shared) (H : Hp) (C : Addr) (cl : List (Str × Addr)) (fp : List Addr) (B : Bs), DTs (X.blk s H scope (compEnvC scope cl C X.env) fp) B ifs tt)
    (he : ∀ (s : Shared) (H : Hp) (C : Addr) (cl : List (Str × Addr)) (fp : List Addr) (B : Bs), DE (X.blk s H scope (compEnvC scope cl C X.env) fp) B elt te) (hs : ∀ x, foldedSetIterable iter X.env x = pure x := by intro _; rfl) :
    DE X B (.ListComp elt [⟨tg, iter, ifs, 0⟩] scope pos) (dLcF ti g tt te (own.map (·.2)) Fin) :=
  PE.weak (pe_lc hc hN hi ok hg (fun s H C cl fp => ⟨fun pins s σ H Q I ⟨B, h⟩ => (ht _ _ C cl fp B).run pins s σ H Q I h⟩) (fun s H C cl fp => ⟨fun pins s σ H Q I ⟨B, h⟩ => (he _ _ C cl fp B).run pins s σ H Q I h⟩) hs) fun σ H Q h => lc_adeq fin hcg σ H Q h
theorem ds_setLcF {Fin : QD → List D → Gm → Prop} (fin : FinA X.K Fin) {i : Nat} {y : Str} {py spos : Pos} (hc : X.calm = true) (hN : X.N.Nodup) (hy : X.N[i]? = some y) (hyl : X.env.scope.names.lookup y = some .local)
    (hsw : swapsWith (.ListComp elt [⟨tg, iter, ifs, 0⟩] scope pos) (some (.Name y py)) spos.line X.env = pure true) (hi : DI X B tg iter ti) (ok : BlkOk X.N X.env.scope scope own)
    (hcg : CG X.K (own.map (·.2)) gV g)
    (hg : ∀ (s : Shared) (H : Hp) (C : Addr) (cl : List (Str × Addr)) (fp : List Addr), PG (X.blk s H scope (compEnvC scope cl C X.env) fp) tg gV)
    (ht : ∀ (s : Shared) (H : Hp) (C : Addr) (cl : List (Str × Addr)) (fp : List Addr) (B : Bs), DTs (X.blk s H scope (compEnvC scope cl C X.env) fp) B ifs tt)
    (he : ∀ (s : Shared) (H : Hp) (C : Addr) (cl : List (Str × Addr)) (fp : List Addr) (B : Bs), DE (X.blk s H scope (compEnvC scope cl C X.env) fp) B elt te) (hs : ∀ x, foldedSetIterable iter X.env x = pure x := by intro _; rfl) :
    DSt X B (.Assign [.Name y py] (.ListComp elt [⟨tg, iter, ifs, 0⟩] scope pos) spos) (dAsg (dLcF ti g tt te (own.map (·.2)) Fin) (gNameD i)) :=
  PS.weak (ps_setLc hc hN hy hyl hsw hi ok hg (fun s H C cl fp => ⟨fun pins s σ H Q I ⟨B, h⟩ => (ht _ _ C cl fp B).run pins s σ H Q I h⟩) (fun s H C cl fp => ⟨fun pins s σ H Q I ⟨B, h⟩ => (he _ _ C cl fp B).run pins s σ H Q I h⟩) hs) fun D σ H ⟨F, G, δ, E, S, h, L⟩ =>
    lc_adeq fin hcg σ H _ ⟨F, G, δ, _, S, h, fun v H' ⟨F', G', d, s', S', r', q'⟩ => L.nx _ _ ⟨F', G', _, s', S'.set i r', q'⟩⟩
end
end
end JP
namespace JP
open PySem PySem.Spec PyProof.Rows L2
/-- what is wished of an exception: its class, its fields -/
abbrev WD := Addr → List (Str × D) → Gm → Prop
abbrev WN : WD := fun _ _ _ => False
abbrev SpD := List D → Gm → QD → WD → Prop
def XRep (K : PySem.W.Frag) (F : Hp) (dd : Option Addr) (fs : List (Str × D)) : Prop := (dd = none ∧ fs = []) ∨ ∃ a fv, dd = some a ∧ F a = some (.xd fv) ∧ RepF K F fv fs
def XW (K : PySem.W.Frag) (B : Bs) (W : WD) : XK := fun cls dd H => ∃ F G C fs, cls = .ref C ∧ Same B.F F ∧ DS K B.T F H G B.Z ∧ XRep K F dd fs ∧ W C fs G
def lowSp (K : PySem.W.Frag) (sp : SpD) : Sp := fun vs H Q E => ∃ (B : Bs) (G : Gm) (ds : List D) (Qd : QD) (W : WD), DS K B.T B.F H G B.Z ∧ RepAll K B.F vs ds ∧ sp ds G Qd W ∧ (∀ v H', BehR K B B.F Qd v H' → Q v H') ∧ (∀ cls dd H', XW K B W cls dd H' → E cls dd H')
abbrev FnD (P : Program) (w : World) (K : PySem.W.Frag) (mg : Str → Option Value) (base : Heap) (k : Nat) (f : Addr) (fd : FuncData) (ps : List Str) (sp : SpD) : Prop := FnOk P w K mg base (L2.CX P w) k f fd ps (lowSp K sp)
abbrev GnD (P : Program) (w : World) (K : PySem.W.Frag) (mg : Str → Option Value) (base : Heap) (k : Nat) (f : Addr) (fd : FuncData) (ps : List Str) (sp : SpD) : Prop := GOk P w K mg base k f fd ps (lowSp K sp)
def startD (N : List Str) (ds : List D) : SD := ds.map some ++ List.replicate (N.length - ds.length) none
theorem sl_start {K : PySem.W.Frag} {F : Hp} {N : List Str} {vs : List V} {ds : List D} (r : RepAll K F vs ds) : Sl K F (L2.start N vs) (startD N ds) := by
  have l := r.length
  refine ⟨by simp [L2.start, startD, l], fun i d e => ?_⟩
  unfold startD at e
  unfold L2.start
  rcases Nat.lt_or_ge i ds.length with h | h
  · rw [List.getElem?_append_left (by simpa using h), List.getElem?_map] at e
    obtain ⟨d', e1, e2⟩ := Option.map_eq_some_iff.mp e
    cases e2
    obtain ⟨v, ev, rv⟩ := r.get e1
    exact ⟨v, by rw [List.getElem?_append_left (by simp; omega), List.getElem?_map, ev]; rfl, rv⟩
  · rw [List.getElem?_append_right (by simpa using h)] at e
    rw [List.getElem?_replicate] at e
    split at e <;> cases e
section
variable {P : Program} {w : World} {K : PySem.W.Frag} {mg : Str → Option Value} {base : Heap} {k : Nat} {f : Addr} {fd : FuncData} {ps N : List Str} {sp : SpD}
theorem FnD.arity (F : FnD P w K mg base k f fd ps sp) {ds : List D} {G : Gm} {Q : QD} {W : WD} {B : Bs} {H : Hp} {vs : List V} (d : DS K B.T B.F H G B.Z) (r : RepAll K B.F vs ds) (h : sp ds G Q W) : vs.length = ps.length :=
  F.len vs H (fun _ _ => True) (fun _ _ _ => True) ⟨B, G, ds, Q, W, d, r, h, fun _ _ _ => trivial, fun _ _ _ _ => trivial⟩
/-- a def of the text by its body -/
theorem dfn {x qual : Str} {st : Stmt} (F : Fun K x qual st f fd) (S : FnScope N ps (defScope st)) (len : ∀ ds G Q W, sp ds G Q W → ds.length = ps.length)
    (body : ∀ (cdv : Value) (A : Around) (outer : List Env) (s : Shared) (H : Hp) (E : XK) (B : Bs) (W : WD), Room k (A.deeper (envOfC qual (defScope st) s.heap.objs.size f cdv)) →
      Takes (cxOf (L2.CX P w) P w K mg base N qual (defScope st) f cdv A outer s H E) (fun cls d _ H => XW K B W cls d H) →
      ∃ T, DB (cxOf (L2.CX P w) P w K mg base N qual (defScope st) f cdv A outer s H E) B (defBody st) T ∧ ∀ ds G Q, sp ds G Q W → T { nx := fun _ G => Q .non G, rt := Q } (startD N ds) G) :
    FnD P w K mg base (k + 1) f fd ps sp :=
  F.okX S (fun vs H Q E ⟨B, G, ds, Qd, W, d, r, h, _, _⟩ => r.length.trans (len ds G Qd W h)) fun cdv A outer s H vs Q E hr ⟨B, G, ds, Qd, W, d, r, h, kq, ke⟩ => by
    obtain ⟨T, hT, hq⟩ := body cdv A outer s H E B W hr ((takes_of rfl rfl rfl rfl).imp fun c d _ H q => ke c d H q)
    refine ⟨upS K B T, hT, B.F, G, startD N ds, _, ⟨d, .refl B.F, sl_start r⟩, hq ds G Qd h, ⟨fun σ H' ⟨F', G', δ', s', S', q⟩ => kq _ _ ⟨F', G', .non, s', S'.ds, S'.gr, .non, q⟩, fun v H' q => kq v H' q, fun _ _ ⟨_, _, _, _, _, q⟩ => q.elim, fun _ _ ⟨_, _, _, _, _, q⟩ => q.elim⟩⟩
/-- a def that is called where no repr goes on, and lets nothing out -/
theorem dfg {x qual : Str} {st : Stmt} (F : Fun K x qual st f fd) (S : FnScope N ps (defScope st)) (len : ∀ ds G Q W, sp ds G Q W → ds.length = ps.length)
    (body : ∀ (cdv : Value) (A : Around) (outer : List Env) (s : Shared) (H : Hp) (E : XK) (B : Bs), A.guards = some [] → Room k (A.deeper (envOfC qual (defScope st) s.heap.objs.size f cdv)) →
      ∃ T, DB (cxOf CX0 P w K mg base N qual (defScope st) f cdv A outer s H E).nox B (defBody st) T ∧ ∀ ds G Q W, sp ds G Q W → T { nx := fun _ G => Q .non G, rt := Q } (startD N ds) G) :
    GnD P w K mg base (k + 1) f fd ps sp :=
  gok F S (fun vs H Q E ⟨B, G, ds, Qd, W, d, r, h, _, _⟩ => r.length.trans (len ds G Qd W h)) fun cdv A outer s H vs Q E g hr ⟨B, G, ds, Qd, W, d, r, h, kq, ke⟩ => by
    obtain ⟨T, hT, hq⟩ := body cdv A outer s H E B g hr
    refine ⟨upS K B T, hT, B.F, G, startD N ds, _, ⟨d, .refl B.F, sl_start r⟩, hq ds G Qd W h, ⟨fun σ H' ⟨F', G', δ', s', S', q⟩ => kq _ _ ⟨F', G', .non, s', S'.ds, S'.gr, .non, q⟩, fun v H' q => kq v H' q, fun _ _ ⟨_, _, _, _, _, q⟩ => q.elim, fun _ _ ⟨_, _, _, _, _, q⟩ => q.elim⟩⟩
end
section
variable {X : Cx} {B : Bs} {K : PySem.W.Frag} {W : WD}
/-- what a callee may let out is taken -/
theorem hx_of (tk : Takes X fun cls d _ H => XW X.K B W cls d H) : Passes (L2.CX X.prog X.w) X (XW X.K B W) := passes_call tk fun _ _ _ _ h => h
theorem hx0 : Passes (L2.CX X.prog X.w) X (XW X.K B WN) := passes_call takesN fun cls d σ H ⟨_, _, _, _, _, _, _, _, h⟩ => h.elim
def dCall (sp : SpD) (W : WD) (t : TAD) : TED := fun δ G Q => t δ G fun ds G1 => sp ds G1 Q W
variable {k : Nat} {f C : Addr} {fd : FuncData} {ps : List Str} {sp : SpD} {x m : Str} {p pos apos : Pos} {e o : Expr} {es : List Expr} {te : TED} {t : TAD} {σ : L2.St} {H F : Hp} {δ : SD} {G : Gm}
/-- into a call: what it wants of trees is had of the heap -/
theorem low_of {Q : VK} {Qd : QD} {vs : List V} {ds : List D} {F1 : Hp} {G1 : Gm} (kk : ∀ v H', Beh K B σ F δ Qd v H' → Q v H') (s1 : Same F F1) (S1 : Sit K B σ H F1 δ G1) (r : RepAll K F1 vs ds) (h : sp ds G1 Qd W) : lowSp K sp vs H Q (XW K B W) :=
  ⟨⟨F1, B.Z, B.T⟩, G1, ds, Qd, W, S1.ds, r, h, fun v H' ⟨F', G', d, s', ds', _, r', q'⟩ => kk v H' ⟨F', G', d, s1.trans s', ⟨ds', S1.gr.trans s', S1.sl.mono s'⟩, r', q'⟩,
    fun cls dd H' ⟨F', G', C, fs, e, s', ds', xr, w⟩ => ⟨F', G', C, fs, e, S1.gr.trans s', ds', xr, w⟩⟩
theorem de_call (Fn : FnD X.prog X.w X.K X.mg X.base k f fd ps sp) (hr : Room k X.A) (hg : Gl X x) (hm : X.mg x = some (.ref f)) (hk : PySem.W.keepIn X.K (.ref f) = true) (hb : Binds X.K fd ps []) (hx : Passes (L2.CX X.prog X.w) X (XW X.K B W))
    (ha : DA X B (e :: es) t) (hdb : (x == ("__debug__" : Str)) = false := by decide) (he : starEach (e :: es) X.env = (false, eval e X.env) :: starEach es X.env := by rfl) (hpl : (backTo pos (starEach es X.env)).any (·.1) = false := by rfl) :
    DE X B (.Call (.Name x p) (e :: es) [] pos) (dCall sp W t) :=
  PE.weak (pe_call Fn hr hg hm hk hb .nil hx ha hdb he hpl) fun σ H Q ⟨F, G, δ, Qd, S, h, kk⟩ => ⟨F, G, δ, _, S, h, fun vs H1 ⟨F1, G1, ds, s1, S1, r1, h1⟩ => by
    show lowSp X.K sp (vs ++ []) H1 Q _
    rw [List.append_nil]
    exact low_of kk s1 S1 r1 h1⟩
def DK (X : Cx) (B : Bs) (kws : List Keyword) (T : TAD) : Prop := PK X kws (upA X.K B T)
theorem dk_nil : DK X B [] dNil := ⟨fun pos pins s σ H Q I ⟨F, G, δ, Qd, S, h, k⟩ => pk_nil.run pos pins s σ H Q I (k [] H ⟨F, G, [], .refl F, S, .nil, h⟩)⟩
theorem dk_cons {nm : Option Str} {kpos : Pos} {kws : List Keyword} (ha : DE X B e te) (hr : DK X B kws t) : DK X B (⟨nm, e, kpos⟩ :: kws) (dCons te t) :=
  ⟨fun pos pins s σ H Q I ⟨F, G, δ, Qd, S, h, k⟩ => (pk_cons ha hr).run pos pins s σ H Q I ⟨F, G, δ, _, S, h, fun v H1 ⟨F1, G1, d, s1, S1, r1, h1⟩ => ⟨F1, G1, δ, _, S1, h1, fun vs H2 ⟨F2, G2, ds, s2, S2, r2, h2⟩ =>
    k _ H2 ⟨F2, G2, d :: ds, s1.trans s2, S2, .cons (r1.mono s2) r2, h2⟩⟩⟩⟩
def PermOk (gV : List V → List V → List V) (gD : List D → List D → List D) : Prop := ∀ (K : PySem.W.Frag) (F : Hp) (vs zs : List V) (ds es : List D), RepAll K F vs ds → RepAll K F zs es → RepAll K F (gV vs zs) (gD ds es)
theorem perm_ok {np nk : Nat} {ix : List Nat} : PermOk (gPerm np nk ix) (gPerm np nk ix) := fun K F vs zs ds es r q => by
  unfold gPerm
  rw [r.length, q.length]
  split
  · have a := r.append q
    generalize vs ++ zs = xs at a
    generalize ds ++ es = ys at a
    clear r q
    induction ix with
    | nil => exact .nil
    | cons i ix ih =>
      rw [List.filterMap_cons, List.filterMap_cons]
      cases e : ys[i]? with
      | none =>
        have : xs[i]? = none := by
          rw [List.getElem?_eq_none_iff] at e ⊢
          rw [a.length]
          exact e
        rw [this]
        exact ih
      | some d =>
        obtain ⟨v, ev, rv⟩ := a.get e
        rw [ev]
        exact .cons rv ih
  · exact .nil
variable {kws : List Keyword} {tk : TAD} {ks : List Str} {gg : List Value → List Value → List Value} {gV : List V → List V → List V} {gD : List D → List D → List D}
def dCallK (sp : SpD) (gD : List D → List D → List D) (W : WD) (t tk : TAD) : TED := fun δ G Q => t δ G fun ds G1 => tk δ G1 fun es G2 => sp (gD ds es) G2 Q W
/-- the instance and its attributes, changeable or not -/
def insD (d : D) (G : Gm) : Option (Addr × List (Str × D)) := match d with
  | .ins C fs => some (C, fs)
  | .adr a => match G a with | some (.ins C fs) => some (C, fs) | _ => none
  | _ => none
theorem ins_rep {v : V} {d : D} {C : Addr} {fs : List (Str × D)} (S : Sit K B σ H F δ G) (r : Rep K F v d) (h : insD d G = some (C, fs)) : ∃ a dx fv, v = .ref a ∧ H a = some (.ins C dx fv) ∧ GoodC K C ∧ (∀ p ∈ fs, NoAttr K C p.1) ∧ RepF K F fv fs := by
  cases d with
  | ins C' fs' =>
    cases h
    cases r with
    | ins e g n rf => exact ⟨_, _, _, rfl, S.ds.sub _ _ e, g, n, rf⟩
  | adr a =>
    cases r
    cases g : G a with
    | none => simp [insD, g] at h
    | some mo =>
      cases mo with
      | ins C' fs' =>
        simp only [insD, g, Option.some.injEq, Prod.mk.injEq] at h
        obtain ⟨rfl, rfl⟩ := h
        obtain ⟨dx, fv, e, gc, n, rf⟩ := (S.ds.mu a _ g).2
        exact ⟨a, dx, fv, rfl, e, gc, n, rf⟩
      | _ => simp [insD, g] at h
  | _ => simp [insD] at h
theorem look_mem {f : Str} {y : D} : ∀ {fs : List (Str × D)}, fs.lookup f = some y → (f, y) ∈ fs
  | [], h => by cases h
  | (g, e) :: r, h => by
    rw [List.lookup_cons] at h
    cases q : f == g with
    | true =>
      rw [q] at h
      cases h
      rw [beq_iff_eq] at q
      subst q
      exact List.mem_cons_self
    | false =>
      rw [q] at h
      exact List.mem_cons_of_mem _ (look_mem h)
def fldD (d : D) (G : Gm) (f : Str) : Option D := (insD d G).bind fun p => p.2.lookup f
def dFld (te : TED) (f : Str) : TED := fun δ G Q => te δ G fun d G1 => match fldD d G1 f with | some y => Q y G1 | none => False
theorem de_fld {f : Str} (he : DE X B e te) (hb : attributeBase e f X.env (eval e X.env) = eval e X.env := by rfl) : DE X B (.Attribute e f pos) (dFld te f) :=
  PE.weak (pe_fld he hb) fun σ H Q ⟨F, G, δ, Qd, S, h, kk⟩ => ⟨F, G, δ, _, S, h, fun v H1 ⟨F1, G1, d, s1, S1, r1, h1⟩ => by
    cases q : insD d G1 with
    | none => simp [fldD, q] at h1
    | some cf =>
      obtain ⟨C, fs⟩ := cf
      obtain ⟨a, dx, fv, rfl, e, gc, na, rf⟩ := ins_rep S1 r1 q
      cases l : fs.lookup f with
      | none => simp [fldD, q, l] at h1
      | some y =>
        simp only [fldD, q, Option.bind_some, l] at h1
        obtain ⟨u, lu, ru⟩ := rf.look l
        exact ⟨a, C, dx, fv, u, rfl, e, gc.cl, na _ (look_mem l), lu, kk _ _ ⟨F1, G1, y, s1, S1, ru, h1⟩⟩⟩
theorem repF_put {f : Str} {v : V} {d : D} (r : Rep K F v d) : ∀ {fv : List (Str × V)} {fs : List (Str × D)}, RepF K F fv fs → RepF K F (putF f v fv) (putD f d fs)
  | _, _, .nil => .cons r .nil
  | _, _, .cons (f := g) h q => by
    by_cases c : g = f
    · subst c
      unfold putF putD
      rw [if_pos rfl, if_pos rfl]
      exact .cons r q
    · unfold putF putD
      rw [if_neg c, if_neg c]
      exact .cons h (repF_put r q)
theorem putD_mem {f : Str} {d : D} : ∀ {fs : List (Str × D)} {p : Str × D}, p ∈ putD f d fs → p = (f, d) ∨ p ∈ fs
  | [], p, h => by
    rcases List.mem_cons.mp h with h | h
    · exact .inl h
    · cases h
  | (g, e) :: r, p, h => by
    unfold putD at h
    split at h
    · rcases List.mem_cons.mp h with h | h
      · exact .inl h
      · exact .inr (List.mem_cons_of_mem _ h)
    · rcases List.mem_cons.mp h with h | h
      · exact .inr (h ▸ List.mem_cons_self)
      · rcases putD_mem h with h | h
        · exact .inl h
        · exact .inr (List.mem_cons_of_mem _ h)
/-- o.f = e, o what may change -/
def dSetF (C : Addr) (to te : TED) (f : Str) : TSD := fun E δ G => te δ G fun y G1 => to δ G1 fun d G2 => match d with
  | .adr a => (match G2 a with | some (.ins C' fs) => C' = C ∧ fs.length < 1000 ∧ E.nx δ (updG G2 a (.ins C (putD f y fs))) | _ => False)
  | _ => False
theorem ds_fld {f : Str} {to : TED} {value : Expr} {tv : TED} {pos' : Pos} (na : NoAttr X.K C f) (ho : DE X B o to) (hv : DE X B value tv) (hs : swapsWith value (some (.Attribute o f pos')) pos.line X.env = pure false := by rfl) : DSt X B (.Assign [.Attribute o f pos'] value pos) (dSetF C to tv f) :=
  PS.weak (ps_fld ho hv hs) fun D σ H ⟨F, G, δ, E, S, h, L⟩ => ⟨F, G, δ, _, S, h, fun y H1 ⟨F1, G1, dy, s1, S1, r1, h1⟩ => ⟨F1, G1, δ, _, S1, h1, fun x H2 ⟨F2, G2, d, s2, S2, r2, h2⟩ => by
    cases d with
    | adr a =>
      cases r2
      cases g : G2 a with
      | none =>
        simp only [g] at h2
      | some mo =>
        cases mo with
        | ins C' fs =>
          simp only [g] at h2
          obtain ⟨rfl, hl, q⟩ := h2
          obtain ⟨dx, fv, e, gc, n, rf⟩ := (S2.ds.mu a _ g).2
          refine ⟨a, C', dx, fv, rfl, e, gc.cl, na, by rw [rf.length]; exact hl, L.nx _ _ ⟨F2, _, δ, s1.trans s2, ⟨S2.ds.write (m' := .ins C' (putD f dy fs)) g ⟨dx, _, upd_same, gc, fun p hp => ?_, repF_put (r1.mono s2) rf⟩, S2.gr, S2.sl⟩, q⟩⟩
          rcases putD_mem hp with hp | hp
          · rw [hp]
            exact na
          · exact n p hp
        | _ => simp only [g] at h2
    | _ => exact h2.elim⟩⟩
/-- C(..): made, its __init__ called, then it changes no more -/
def dMake (C : Addr) (sp : SpD) (W : WD) (t : TAD) : TED := fun δ G Q => t δ G fun ds G1 => ∀ x, G1 x = none →
  sp (.adr x :: ds) (updG G1 x (.ins C [])) (fun d G2 => d = .non ∧ match G2 x with | some (.ins C' fs) => Q (.ins C' fs) (delG G2 x) | _ => False) (fun C' fs G2 => W C' fs (delG G2 x))
theorem DS.forget {K : PySem.W.Frag} {Tb : List (Addr × Str)} {F H Z : Hp} {G : Gm} {a : Addr} (d : DS K Tb F H G Z) : DS K Tb F H (delG G a) Z := ⟨d.sub, fun b m e => by
    by_cases c : b = a
    · rw [c, delG_same] at e
      cases e
    · rw [delG_ne c] at e
      exact d.mu b m e, d.zub, fun b u e => ⟨(d.zf b u e).1, by
      have := (d.zf b u e).2.1
      by_cases c : b = a
      · rw [c, delG_same]
      · rw [delG_ne c]
        exact this, (d.zf b u e).2.2⟩, d.ft, d.tab⟩
/-- what a making comes to -/
theorem low_make {vs : List V} {ds : List D} {F1 : Hp} {G1 : Gm} {Q : VK} {Qd : QD} (gc : GoodC K C) (kk : ∀ v H', Beh K B σ F δ Qd v H' → Q v H') (s1 : Same F F1) (S1 : Sit K B σ H F1 δ G1) (r1 : RepAll K F1 vs ds)
    (h1 : ∀ x, G1 x = none → sp (.adr x :: ds) (updG G1 x (.ins C [])) (fun d G2 => d = .non ∧ match G2 x with | some (.ins C' fs) => Qd (.ins C' fs) (delG G2 x) | _ => False) (fun C' fs G2 => W C' fs (delG G2 x))) :
    ∀ x dx, H x = none → H dx = none → dx ≠ x → lowSp K sp (.ref x :: vs) (upd (upd H dx (.own x)) x (.ins C dx [])) (fun v H2 => v = .non ∧ Q (.ref x) H2) (XW K B W) := fun x dx nx ndx ne => by
  have sa : Same H (upd H dx (.own x)) := same_new ndx
  have S2 := S1.same sa
  have nx2 : upd H dx (.own x) x = none := by rw [upd_ne ne.symm]; exact nx
  have d3 := S2.ds.open (o := .ins C dx []) (m := .ins C []) nx2 ⟨dx, [], upd_same, gc, fun p hp => (by cases hp), .nil⟩
  refine ⟨⟨F1, B.Z, B.T⟩, _, _, _, _, d3, .cons (.adr x) r1, h1 x (S1.ds.noG nx), fun v H' ⟨F', G', d, s', ds', _, r', e, q'⟩ => ?_, fun cls dd H' ⟨F', G', C', fs, e, s', ds', xr, w⟩ => ⟨F', _, C', fs, e, S1.gr.trans s', ds'.forget, xr, w⟩⟩
  subst e
  refine ⟨rep_non r', ?_⟩
  cases g : G' x with
  | none => simp only [g] at q'
  | some mo =>
    cases mo with
    | ins C' fs =>
      simp only [g] at q'
      obtain ⟨dx', fv, e, gc', na, rf⟩ := (ds'.mu x _ g).2
      obtain ⟨d4, s4⟩ := ds'.close g e
      exact kk _ _ ⟨_, _, _, (s1.trans s').trans s4, ⟨d4, S1.gr.trans (s'.trans s4), S1.sl.mono (s'.trans s4)⟩, .ins upd_same gc' na (rf.mono s4), q'⟩
    | _ => simp only [g] at q'
/-- o.m(..) -/
def dMeth (C : Addr) (m : Str) (sp : SpD) (W : WD) (to : TED) (t : TAD) : TED := fun δ G Q => to δ G fun d G1 => match insD d G1 with | some (C', fs) => C' = C ∧ fs.lookup m = none ∧ t δ G1 fun ds G2 => sp (d :: ds) G2 Q W | none => False
theorem de_meth {pl : Sem Bool} {to : TED} (he : DE X B o to) (c : Cls X.K C) (hm : Meth X.K C m f) (Fn : FnD X.prog X.w X.K X.mg X.base k f fd ps sp) (hr : Room k X.A) (hb : Binds X.K fd ps []) (hx : Passes (L2.CX X.prog X.w) X (XW X.K B W)) (ha : DA X B (e :: es) t)
    (hst : starEach (e :: es) X.env = (false, eval e X.env) :: starEach es X.env := by rfl) (hpl : (backTo pos (starEach es X.env)).any (·.1) = false := by rfl)
    (ht : eval (.Call (.Attribute o m apos) (e :: es) [] pos) X.env = (do
      let ov ← eval o X.env
      standAt apos.atName
      let (f, first) ← holding [ov] (getMethod ov m pl)
      callWith pos f first (backTo pos (starEach (e :: es) X.env)) (backToKw pos (keywordEach [] X.env))) := by rfl) :
    DE X B (.Call (.Attribute o m apos) (e :: es) [] pos) (dMeth C m sp W to t) :=
  PE.weak (pe_meth he c hm Fn hr hb .nil hx ha hst hpl ht) fun σ H Q ⟨F, G, δ, Qd, S, h, kk⟩ => ⟨F, G, δ, _, S, h, fun v H1 ⟨F1, G1, d, s1, S1, r1, h1⟩ => by
    cases q : insD d G1 with
    | none =>
      simp only [q] at h1
    | some cf =>
      obtain ⟨C', fs⟩ := cf
      simp only [q] at h1
      obtain ⟨rfl, hl, h1⟩ := h1
      obtain ⟨a, dx, fv, rfl, e, gc, na, rf⟩ := ins_rep S1 r1 q
      refine ⟨a, dx, fv, rfl, e, rf.lookN hl, F1, G1, δ, _, S1, h1, fun vs H2 ⟨F2, G2, ds, s2, S2, r2, h2⟩ => ?_⟩
      show lowSp X.K sp (.ref a :: (vs ++ [])) H2 Q _
      rw [List.append_nil]
      exact low_of kk (s1.trans s2) S2 (.cons (r1.mono s2) r2) h2⟩
/-- o.f, a property -/
def dProp (C : Addr) (sp : SpD) (to : TED) : TED := fun δ G Q => to δ G fun d G1 => match insD d G1 with | some (C', _) => C' = C ∧ sp [d] G1 Q WN | none => False
theorem de_prop {f' : Str} {pa : Addr} {to : TED} (he : DE X B o to) (c : Cls X.K C) (hp : PropOf X.K C f' pa f) (Fn : FnD X.prog X.w X.K X.mg X.base k f fd ps sp) (hr : Room (k + 1) X.A) (hb : Binds X.K fd ps [])
    (hab : attributeBase o f' X.env (eval o X.env) = eval o X.env := by rfl) : DE X B (.Attribute o f' pos) (dProp C sp to) :=
  PE.weak (pe_prop he c hp Fn hr hb .nil (E := XW X.K B WN) (fun pins σ H s e s' I c => (hx0 (X := X.nox) (B := B)) pins σ H s e s' I c) hab) fun σ H Q ⟨F, G, δ, Qd, S, h, kk⟩ => ⟨F, G, δ, _, S, h, fun v H1 ⟨F1, G1, d, s1, S1, r1, h1⟩ => by
    cases q : insD d G1 with
    | none =>
      simp only [q] at h1
    | some cf =>
      obtain ⟨C', fs⟩ := cf
      simp only [q] at h1
      obtain ⟨rfl, h1⟩ := h1
      obtain ⟨a, dx, fv, rfl, e, gc, na, rf⟩ := ins_rep S1 r1 q
      exact ⟨a, dx, fv, rfl, e, low_of kk s1 S1 (.cons r1 .nil) h1⟩⟩
end
end JP
namespace JP
open PySem PySem.Spec PyProof.Rows L2
theorem tuple_mulW00 (l : Addr) (its : List Value) (n : Nat) (dd : Option Addr) (sl : Array (Option Value)) (u : Tok) (hne : its ≠ []) :
    Meets (Builtin.«tuple.__mul__» ⟨[.ref l, .int 0 u], []⟩) (fun _ R s => s.heap.get? l = some { cls := .type "tuple", dict := dd, data := .seq its.toArray n, slots := sl } ∧
      R (.ok (.ret (Value.ref s.heap.objs.size))) { s with heap := s.heap.push { cls := .type "tuple", data := .seq #[] }, toks := s.toks }) :=
  .of_wp fun prog w A R s h => by
    obtain ⟨hp, g, d, tk, os⟩ := s
    obtain ⟨hl, h⟩ := h
    have f1 := AutoSeq1.idx_int
    have e0 : its.toArray.isEmpty = false := by cases its with | nil => exact absurd rfl hne | cons _ _ => rfl
    have c1 : (its.toArray.isEmpty || (0 : Int) == 1) = false := by rw [e0]; rfl
    have c2 : (decide ((0 : Int) ≤ 0) || its.toArray.isEmpty) = true := by simp
    have c0 : (decide ((0 : Int) < -(2 ^ 63)) || decide ((0 : Int) ≥ 2 ^ 63)) = false := by decide
    wp_walk using AutoSeq1.wpAny_loadPart' hl
    repeat (first
      | (refine wpAny_ite_false (decide_eq_false (by rw [c0]; exact Bool.false_ne_true)) ?_; wp_walk using AutoSeq1.wpAny_loadPart' hl)
      | (refine wpAny_ite_false (decide_eq_false (by rw [c1]; exact Bool.false_ne_true)) ?_; wp_walk using AutoSeq1.wpAny_loadPart' hl)
      | (refine wpAny_ite_true (decide_eq_true c2) ?_; wp_walk using AutoSeq1.wpAny_loadPart' hl))
    all_goals first | exact ⟨_, rfl, h⟩ | skip
/-- t * 0 -/
def rRep0 : R2 := fun x y H Q => ∃ l xs, x = .ref l ∧ y = .int 0 ∧ H l = some (.tup xs) ∧ xs ≠ [] ∧ ∀ p, H p = none → Q (.ref p) (upd H p (.tup []))
theorem op_rep0 {X : Cx} : OpR X (binaryOp .Mult) rRep0 := by
  intro pins s σ H x y v u Q I rx ry h
  obtain ⟨l, xs, rfl, rfl, hT, hne, q⟩ := h
  cases rx
  obtain ⟨t, rfl⟩ := ry
  obtain ⟨its, r, ⟨⟨cls, dd, data, sl⟩, ho, hc, n, hd⟩, hs⟩ := I.tuple (SqT.of hT)
  simp only at hc hd
  subst hc hd
  have hi : its ≠ [] := fun z => hne (by
    have := r.length
    rw [z] at this
    exact List.length_eq_zero_iff.mp this)
  refine wpAny_binaryOp_repeat_ref (T := "tuple") (U := "int") (by decide) ⟨_, ho, rfl⟩ (fun s' => typeIs_int s' 0 t) noFill_tuple_mul F.fills_int_mul F.slot_int_rmul repeat_tuple F.slot_int_index.lookup
    (call_meets F.slot_int_rmul (typeIs_int s 0 t) F.entry_int_rmul (F.args_int_rmul_2 _ _) (int_rmul_tuple 0 t l its.toArray n dd sl)
      ⟨ho, rfl, ⟨_, ho, rfl⟩, call_meets F.slot_tuple_mul ⟨_, ho, rfl⟩ F.entry_tuple_mul (F.args_tuple_mul_2 _ _) (tuple_mulW00 l its n dd sl t hi) ⟨ho, ?_⟩⟩)
  refine ⟨.ref s.heap.objs.size, _, I.laid (o := .tup []) (t' := s.toks) (fun b o e => Heap.get?_push_of_some _ e) (Nat.le_refl _) ⟨Nat.zero_le _, [], .nil, ⟨_, Heap.get?_push_size _ rfl, rfl, 0, rfl⟩⟩, rfl, q _ (I.hok.fresh (Nat.le_refl _))⟩
section
variable {X : Cx} {B : Bs} {K : PySem.W.Frag} {a b : Expr} {ta tb : TED} {pos : Pos}
variable {σ : L2.St} {H F : Hp} {δ : SD} {G : Gm}
theorem rep_tup {v : V} {ds : List D} (r : Rep K F v (.tup ds)) : ∃ p xs, v = .ref p ∧ F p = some (.tup xs) ∧ RepAll K F xs ds := by
  cases r with
  | tup h r => exact ⟨_, _, rfl, h, r⟩
theorem rep_lst {v : V} {ds : List D} (r : Rep K F v (.lst ds)) : ∃ p xs, v = .ref p ∧ F p = some (.lst xs) ∧ RepAll K F xs ds := by
  cases r with
  | lst h r => exact ⟨_, _, rfl, h, r⟩
/-- got: a tuple that stands behind -/
theorem Beh.gotT {H' : Hp} {Qd : QD} {p : Addr} {xs : List V} {ds : List D} (S : Sit K B σ H F δ G) (s : Same H H') (h : H' p = some (.tup xs)) (r : RepAll K F xs ds) (q : Qd (.tup ds) G) : Beh K B σ F δ Qd (.ref p) H' :=
  have ⟨d1, s1⟩ := S.ds.got s h (by intro z; exact z)
  ⟨_, G, _, s1, ⟨d1, S.gr.trans s1, S.sl.mono s1⟩, .tup upd_same (r.mono s1), q⟩
theorem Beh.newL {Qd : QD} {p : Addr} {xs : List V} {ds : List D} (S : Sit K B σ H F δ G) (n : H p = none) (r : RepAll K F xs ds) (q : Qd (.lst ds) G) : Beh K B σ F δ Qd (.ref p) (upd H p (.lst xs)) :=
  .new S (.refl F) n (rep_lst_new (S.ds.noF n) r) q
theorem Beh.val {Qd : QD} {v : V} {d : D} (S : Sit K B σ H F δ G) (r : Rep K F v d) (q : Qd d G) : Beh K B σ F δ Qd v H := ⟨F, G, d, .refl F, S, r, q⟩
/-- + -/
def addD : R2D := fun a b G Q => match a, b with
  | .int i, .int j => Q (.int (i + j)) G
  | .int i, .bl k => Q (.int (i + b2i k)) G
  | .str x, .str y => x.length + y.length ≤ sizeLine ∧ Q (.str (x ++ y)) G
  | .lst xs, .lst ys => xs.length + ys.length ≤ sizeLine ∧ Q (.lst (xs ++ ys)) G
  | .tup xs, .tup ys => xs.length + ys.length ≤ sizeLine ∧ Q (.tup (xs ++ ys)) G
  | _, _ => False
theorem de_add (ha : DE X B a ta) (hb : DE X B b tb) : DE X B (.BinOp a .Add b pos) (dOp addD ta tb) :=
  de_op (op_add.or (op_add_ib.or (op_add_str.or (op_cat.or op_cat2)))) (fun B σ δ H F G x y a b Qd Q S r1 r2 h k => by
    unfold addD at h
    split at h
    · rw [rep_int r1, rep_int r2]
      exact .inl ⟨_, _, rfl, rfl, k _ _ (.val S (.int _) h)⟩
    · rw [rep_int r1, rep_bl r2]
      exact .inr (.inl ⟨_, _, rfl, rfl, k _ _ (.val S (.int _) h)⟩)
    · rw [rep_str r1, rep_str r2]
      exact .inr (.inr (.inl ⟨_, _, rfl, rfl, h.1, k _ _ (.val S (.str _) h.2)⟩))
    · obtain ⟨p, us, rfl, e1, q1⟩ := rep_lst r1
      obtain ⟨p2, us2, rfl, e2, q2⟩ := rep_lst r2
      exact .inr (.inr (.inr (.inl ⟨p, p2, us, us2, rfl, rfl, S.ds.sub _ _ e1, S.ds.sub _ _ e2, by rw [q1.length, q2.length]; exact h.1, fun l nl => k _ _ (.newL S nl (q1.append q2) h.2)⟩)))
    · obtain ⟨p, us, rfl, e1, q1⟩ := rep_tup r1
      obtain ⟨p2, us2, rfl, e2, q2⟩ := rep_tup r2
      exact .inr (.inr (.inr (.inr ⟨p, p2, us, us2, rfl, rfl, S.ds.sub _ _ e1, S.ds.sub _ _ e2, by rw [q1.length, q2.length]; exact h.1, fun l H' s e => k _ _ (.gotT S s e (q1.append q2) h.2)⟩)))
    · exact h.elim) ha hb
def subD : R2D := fun a b G Q => match a, b with | .int i, .int j => Q (.int (i - j)) G | _, _ => False
theorem de_sub (ha : DE X B a ta) (hb : DE X B b tb) : DE X B (.BinOp a .Sub b pos) (dOp subD ta tb) :=
  de_op op_sub (fun B σ δ H F G x y a b Qd Q S r1 r2 h k => by
    unfold subD at h
    split at h
    · rw [rep_int r1, rep_int r2]
      exact ⟨_, _, rfl, rfl, k _ _ (.val S (.int _) h)⟩
    · exact h.elim) ha hb
/-- *: within what is reckoned -/
def mulD : R2D := fun a b G Q => match a, b with
  | .int i, .int j => CMulW i j ∧ Q (.int (i * j)) G
  | .str x, .int n => MulOk x n ∧ Q (.str (Txt.mul x n)) G
  | .lst xs, .int n => (-(2 ^ 63) ≤ n ∧ n < 2 ^ 63 ∧ xs.length * n.toNat ≤ sizeLine) ∧ Q (.lst (List.replicate n.toNat xs).flatten) G
  | .tup xs, .int n => (xs ≠ [] ∧ 0 ≤ n ∧ n ≤ 1000 ∧ xs.length ≤ 1000) ∧ Q (.tup (List.replicate n.toNat xs).flatten) G
  | _, _ => False
theorem RepAll.rep {F : Hp} {vs : List V} {ds : List D} (r : RepAll K F vs ds) : ∀ n : Nat, RepAll K F (List.replicate n vs).flatten (List.replicate n ds).flatten
  | 0 => .nil
  | n + 1 => by
    rw [List.replicate_succ, List.replicate_succ, List.flatten_cons, List.flatten_cons]
    exact r.append (RepAll.rep r n)
theorem de_mul (ha : DE X B a ta) (hb : DE X B b tb) : DE X B (.BinOp a .Mult b pos) (dOp mulD ta tb) :=
  de_op (op_mulW.or (op_mulS.or (op_rep.or (op_rep2.or op_rep0)))) (fun B σ δ H F G x y a b Qd Q S r1 r2 h k => by
    unfold mulD at h
    split at h
    · rw [rep_int r1, rep_int r2]
      exact .inl ⟨_, _, rfl, rfl, h.1, k _ _ (.val S (.int _) h.2)⟩
    · rw [rep_str r1, rep_int r2]
      exact .inr (.inl ⟨_, _, rfl, rfl, h.1, k _ _ (.val S (.str _) h.2)⟩)
    · obtain ⟨p, us, rfl, e1, q1⟩ := rep_lst r1
      rw [rep_int r2]
      exact .inr (.inr (.inl ⟨p, _, us, rfl, rfl, S.ds.sub _ _ e1, h.1.1, h.1.2.1, by rw [q1.length]; exact h.1.2.2, fun l nl => k _ _ (.newL S nl (q1.rep _) h.2)⟩))
    · rename_i ds n
      obtain ⟨p, us, rfl, e1, q1⟩ := rep_tup r1
      rw [rep_int r2]
      have l := q1.length
      obtain ⟨⟨h1, h2, h3, h4⟩, hq⟩ := h
      have hne : us ≠ [] := fun z => h1 (by rw [z] at l; exact List.length_eq_zero_iff.mp l.symm)
      by_cases c : n = 0
      · subst c
        exact .inr (.inr (.inr (.inr ⟨p, us, rfl, rfl, S.ds.sub _ _ e1, hne, fun l nl => k _ _ (.gotT S (same_new nl) upd_same .nil hq)⟩)))
      · exact .inr (.inr (.inr (.inl ⟨p, n, us, rfl, rfl, S.ds.sub _ _ e1, hne, by omega, h3, by omega, fun l H' s e => k _ _ (.gotT S s e (q1.rep _) hq)⟩)))
    · exact h.elim) ha hb
def divD : R2D := fun a b G Q => match a, b with | .int i, .int j => CDivW i j ∧ Q (.int (i / j)) G | _, _ => False
theorem de_fdiv (ha : DE X B a ta) (hb : DE X B b tb) : DE X B (.BinOp a .FloorDiv b pos) (dOp divD ta tb) :=
  de_op op_fdivW (fun B σ δ H F G x y a b Qd Q S r1 r2 h k => by
    unfold divD at h
    split at h
    · rw [rep_int r1, rep_int r2]
      exact ⟨_, _, rfl, rfl, h.1, k _ _ (.val S (.int _) h.2)⟩
    · exact h.elim) ha hb
def powD : R2D := fun a b G Q => match a, b with | .int i, .int j => CPow i j ∧ Q (.int (i ^ j.toNat)) G | _, _ => False
theorem de_pow (ha : DE X B a ta) (hb : DE X B b tb) : DE X B (.BinOp a .Pow b pos) (dOp powD ta tb) :=
  de_op op_pow (fun B σ δ H F G x y a b Qd Q S r1 r2 h k => by
    unfold powD at h
    split at h
    · rw [rep_int r1, rep_int r2]
      exact ⟨_, _, rfl, rfl, h.1, k _ _ (.val S (.int _) h.2)⟩
    · exact h.elim) ha hb
def negD : R1D := fun a G Q => match a with | .int i => Q (.int (-i)) G | _ => False
theorem de_neg (ha : DE X B a ta) : DE X B (.UnaryOp .USub a pos) (dUn negD ta) :=
  PE.weak (pe_un un_neg ha) fun σ H Q ⟨F, G, δ, Qd, S, h, k⟩ => ⟨F, G, δ, _, S, h, fun v H1 ⟨F1, G1, d, s1, S1, r1, h1⟩ => by
    cases d with
    | int i =>
      cases r1
      exact ⟨i, rfl, k _ _ ⟨F1, G1, _, s1, S1, .int _, h1⟩⟩
    | _ => exact h1.elim⟩
/-- comparisons of ints, of texts -/
def cmpD (p : Int → Int → Bool) : R2D := fun a b G Q => match a, b with | .int i, .int j => Q (.bl (p i j)) G | _, _ => False
theorem cmp_A {p : Int → Int → Bool} : OpA K (rI0 fun i j => .bl (p i j)) (cmpD p) := fun B σ δ H F G x y a b Qd Q S r1 r2 h k => by
  unfold cmpD at h
  split at h
  · rw [rep_int r1, rep_int r2]
    exact ⟨_, _, rfl, rfl, k _ _ (.val S (.bl _) h)⟩
  · exact h.elim
abbrev ltD : R2D := cmpD fun i j => decide (i < j)
abbrev leD : R2D := cmpD fun i j => decide (i ≤ j)
abbrev gtD : R2D := cmpD fun i j => decide (j < i)
theorem lt_A : OpA K (rI0 fun i j => .bl (decide (i < j))) ltD := cmp_A
theorem le_A : OpA K (rI0 fun i j => .bl (decide (i ≤ j))) leD := cmp_A
theorem gt_A : OpA K (rI0 fun i j => .bl (decide (j < i))) gtD := cmp_A
def isNon : D → Bool
  | .non => true
  | _ => false
def isND : R2D := fun a b G Q => match b with | .non => Q (.bl (isNon a)) G | _ => False
theorem rep_isnon {F : Hp} {v : V} {d : D} (r : Rep K F v d) : decide (v = .non) = isNon d := by
  cases r <;> rfl
theorem isN_A : OpA K (fun x y H Q => y = .non ∧ Q (.bl (decide (x = .non))) H) isND := fun B σ δ H F G x y a b Qd Q S r1 r2 h k => by
  unfold isND at h
  split at h
  · refine ⟨rep_non r2, k _ _ (.val S (.bl _) ?_)⟩
    rw [rep_isnon r1]
    exact h
  · exact h.elim
mutual
inductive DP : D → PyData → Prop
  | non : DP .non .none
  | bl (b : Bool) : DP (.bl b) (.bool b)
  | int (i : Int) : DP (.int i) (.int i)
  | str (x : Str) : DP (.str x) (.str x)
  | lst {ds : List D} {ps : List PyData} : DPs ds ps → DP (.lst ds) (.list ps)
  | tup {ds : List D} {ps : List PyData} : DPs ds ps → DP (.tup ds) (.tuple ps)
inductive DPs : List D → List PyData → Prop
  | nil : DPs [] []
  | cons {d : D} {ds : List D} {p : PyData} {ps : List PyData} : DP d p → DPs ds ps → DPs (d :: ds) (p :: ps)
end
mutual
theorem DP.rep (s : Same F H) : ∀ {d : D} {p : PyData} {v : V}, DP d p → Rep K F v d → Dp K H v p
  | _, _, _, .non, r => by cases r; exact .non
  | _, _, _, .bl b, r => by cases r; exact .bl b
  | _, _, _, .int i, r => by cases r; exact .int i
  | _, _, _, .str x, r => by cases r; exact .str x
  | _, _, _, .lst h, r => by
    cases r with
    | lst e q => exact .lst (.of (s _ _ e)) (DPs.rep s h q)
  | _, _, _, .tup h, r => by
    cases r with
    | tup e q => exact .tup (.of (s _ _ e)) (DPs.rep s h q)
theorem DPs.rep (s : Same F H) : ∀ {d : List D} {p : List PyData} {v : List V}, DPs d p → RepAll K F v d → DpAll K H v p
  | _, _, _, .nil, r => by cases r; exact .nil
  | _, _, _, .cons h t, r => by
    cases r with
    | cons r q => exact .cons (DP.rep s h r) (DPs.rep s t q)
end
def eqD2 : R2D := fun a b G Q => ∃ p q, DP a p ∧ DP b q ∧ SeqAt.shaped p = true ∧ SeqAt.shaped q = true ∧ Q (.bl (PyData.eqv p q)) G
def neD2 : R2D := fun a b G Q => ∃ p q, DP a p ∧ DP b q ∧ SeqAt.shaped p = true ∧ SeqAt.shaped q = true ∧ Q (.bl (!PyData.eqv p q)) G
theorem eq_A : OpA K (rEqD K) eqD2 := fun B σ δ H F G x y a b Qd Q S r1 r2 ⟨p, q, hp, hq, s1, s2, h⟩ k => ⟨p, q, hp.rep S.ds.sub r1, hq.rep S.ds.sub r2, s1, s2, k _ _ (.val S (.bl _) h)⟩
theorem ne_A : OpA K (rNeD K) neD2 := fun B σ δ H F G x y a b Qd Q S r1 r2 ⟨p, q, hp, hq, s1, s2, h⟩ k => ⟨p, q, hp.rep S.ds.sub r1, hq.rep S.ds.sub r2, s1, s2, k _ _ (.val S (.bl _) h)⟩
/-- in a list or a tuple of plain things -/
inductive Fl : V → D → Prop
  | non : Fl .non .non | bl (b : Bool) : Fl (.bl b) (.bl b) | int (i : Int) : Fl (.int i) (.int i) | str (x : Str) : Fl (.str x) (.str x)
theorem Fl.rep {F : Hp} {v u : V} {d : D} (f : Fl v d) (r : Rep K F u d) : u = v ∧ flatV v = true := by
  cases f <;> cases r <;> exact ⟨rfl, rfl⟩
def seqD (d : D) (G : Gm) : Option (List D) := match d with
  | .lst ds => some ds
  | .tup ds => some ds
  | .adr a => match G a with | some (.lst ds) => some ds | _ => none
  | _ => none
theorem seq_rep {v : V} {d : D} {ds : List D} (S : Sit K B σ H F δ G) (r : Rep K F v d) (h : seqD d G = some ds) : ∃ p xs, v = .ref p ∧ (SqL K H p xs ∨ SqT K H p xs) ∧ RepAll K F xs ds := by
  cases d with
  | lst es =>
    cases h
    obtain ⟨p, xs, e, h1, h2⟩ := rep_lst r
    exact ⟨p, xs, e, .inl (.of (S.ds.sub _ _ h1)), h2⟩
  | tup es =>
    cases h
    obtain ⟨p, xs, e, h1, h2⟩ := rep_tup r
    exact ⟨p, xs, e, .inr (.of (S.ds.sub _ _ h1)), h2⟩
  | adr a =>
    cases r
    cases g : G a with
    | none => simp [seqD, g] at h
    | some mo =>
      cases mo with
      | lst es =>
        simp only [seqD, g, Option.some.injEq] at h
        subst h
        obtain ⟨xs, e, q⟩ := (S.ds.mu a _ g).2
        exact ⟨a, xs, rfl, .inl (.of e), q⟩
      | _ => simp [seqD, g] at h
  | _ => simp [seqD] at h
/-- d[i] -/
def ixD : R2D := fun a b G Q => match b with
  | .int i => (match a with
    | .str z => z.length ≤ sizeLine ∧ (match atI z.cps.toList i with | some c => Q (.str ⟨#[c]⟩) G | none => False)
    | _ => match seqD a G with | some ds => (match atI ds i with | some d => Q d G | none => False) | none => False)
  | _ => False
theorem atI_rep {F : Hp} {xs : List V} {ds : List D} {i : Int} {d : D} (r : RepAll K F xs ds) (h : atI ds i = some d) : ∃ v, atI xs i = some v ∧ Rep K F v d := by
  unfold atI at h ⊢
  rw [r.length]
  cases e : ixN ds.length i with
  | none => rw [e] at h; cases h
  | some j =>
    rw [e] at h
    exact r.get h
theorem ix_A : OpA K (rIx K) ixD := fun B σ δ H F G x y a b Qd Q S r1 r2 h k => by
  cases b with
  | int i =>
    cases r2
    have main : ∀ {ds : List D} {d : D}, seqD a G = some ds → atI ds i = some d → Qd d G → rIx K x (.int i) H Q := fun {ds d} e1 e2 q => by
      obtain ⟨p, xs, rfl, hs, ra⟩ := seq_rep S r1 e1
      obtain ⟨v, ev, rv⟩ := atI_rep ra e2
      rcases hs with hs | hs
      · exact .inl ⟨p, xs, i, v, rfl, rfl, hs, ev, k _ _ (.val S rv q)⟩
      · exact .inr (.inl ⟨p, xs, i, v, rfl, rfl, hs, ev, k _ _ (.val S rv q)⟩)
    have tail : (match seqD a G with | some ds => (match atI ds i with | some d => Qd d G | none => False) | none => False) → rIx K x (.int i) H Q := fun h => by
      cases e : seqD a G with
      | none => simp only [e] at h
      | some ds =>
        simp only [e] at h
        cases e2 : atI ds i with
        | none => simp only [e2] at h
        | some d =>
          simp only [e2] at h
          exact main e e2 h
    cases a with
    | str z =>
      cases r1
      obtain ⟨h1, h2⟩ := h
      cases e : atI z.cps.toList i with
      | none => simp only [e] at h2
      | some c =>
        simp only [e] at h2
        exact .inr (.inr ⟨z, i, c, rfl, rfl, h1, e, k _ _ (.val S (.str _) h2)⟩)
    | _ => exact tail h
  | _ => exact h.elim
end
end JP
namespace JP
open PySem PySem.Spec PyProof.Rows L2
section
variable {X : Cx} {B : Bs} {K : PySem.W.Frag} {a b e : Expr} {es : List Expr} {ta tb te : TED} {t : TAD} {pos p : Pos}
variable {σ : L2.St} {H F : Hp} {δ : SD} {G : Gm} {W : WD}
def kiD : D → Option Ki
  | .non => some .non | .bl _ => some .bl | .int _ => some .int | .str _ => some .str | .lst _ => some .lst | .tup _ => some .tup | .dic _ => some .dct | .dit _ => some .dct
  | _ => none
inductive TyD (K : PySem.W.Frag) (d : D) (G : Gm) : Value → Prop
  | ki {k : Ki} : kiD d = some k → TyD K d G (.type k.name)
  | ins {C : Addr} {fs : List (Str × D)} : insD d G = some (C, fs) → TyD K d G (.ref C)
theorem ki_ty {v : V} {d : D} {k : Ki} (S : Same F H) (r : Rep K F v d) (h : kiD d = some k) : TyX K H v (.type k.name) := by
  cases r with
  | dk q r =>
    cases h
    rcases q with q | ⟨o, q⟩
    · exact .base (.dK (S _ _ q))
    · exact .fDict (S _ _ q)
  | dt q r => cases h; exact .base (.dT (S _ _ q))
  | tup q r => cases h; exact .base (.tup (S _ _ q))
  | lst q r => cases h; exact .base (.lst (S _ _ q))
  | non => cases h; exact .base .non
  | bl b => cases h; exact .base (.bl b)
  | int b => cases h; exact .base (.int b)
  | str b => cases h; exact .base (.str b)
  | _ => cases h
theorem tyD_ty {v : V} {d : D} {t : Value} (S : Sit K B σ H F δ G) (r : Rep K F v d) (h : TyD K d G t) : TyX K H v t := by
  cases h with
  | ki h => exact ki_ty S.ds.sub r h
  | ins h =>
    obtain ⟨a, dx, fv, rfl, e, gc, _, _⟩ := ins_rep S r h
    exact .base (.ins e gc.cl gc.ca gc.sg gc.tk gc.mr)
theorem kit_any {K : PySem.W.Frag} (k : Ki) : ∀ ks : List Ki, PySem.W.kitAny K (.type k.name) (ks.map fun j => .type j.name) = some (ks.any k.below)
  | [] => rfl
  | j :: js => by
    have h1 := ki_kit (K := K) k j
    have h2 := kit_any (K := K) k js
    rw [List.map_cons, List.any_cons]
    show (match PySem.W.kitOne K (.type k.name) (.type j.name) with | some true => _ | some false => _ | none => _) = _
    rw [h1]
    cases k.below j with
    | true => rfl
    | false => exact h2
theorem mem_ty : ∀ j : Ki, j = .non ∨ j.name ∈ tyNames := by intro j; cases j <;> first | exact .inl rfl | (right; simp [Ki.name, tyNames])
/-- isinstance(x, T), T built-in -/
def isK (d : D) (G : Gm) (j : Ki) : Option Bool := match kiD d with
  | some k => some (k.below j)
  | none => match insD d G with | some _ => (if j = .non then none else some false) | none => none
def dIsK (j : Ki) (te : TED) : TED := fun δ G Q => te δ G fun d G1 => match isK d G1 j with | some b => Q (.bl b) G1 | none => False
theorem isK_ty {v : V} {d : D} {j : Ki} {b : Bool} (S : Sit K B σ H F δ G) (r : Rep K F v d) (h : isK d G j = some b) : ∃ t, TyX K H v t ∧ PySem.W.kitOne K t (.type j.name) = some b := by
  cases q : kiD d with
  | some k =>
    simp only [isK, q, Option.some.injEq] at h
    subst h
    exact ⟨_, ki_ty S.ds.sub r q, ki_kit k j⟩
  | none =>
    cases i : insD d G with
    | none => simp [isK, q, i] at h
    | some cf =>
      obtain ⟨C, fs⟩ := cf
      simp only [isK, q, i] at h
      split at h
      · cases h
      · rename_i nj
        cases h
        obtain ⟨a, dx, fv, rfl, e, gc, _, _⟩ := ins_rep S r i
        exact ⟨.ref C, .base (.ins e gc.cl gc.ca gc.sg gc.tk gc.mr), gc.kt _ ((mem_ty j).resolve_left nj)⟩
theorem de_isK {c : Expr} {j : Ki} (hg : Gl X "isinstance") (hm : X.mg "isinstance" = none) (hv : bootBuiltins "isinstance" = some (.builtin "isinstance")) (ha : DE X B e te) (hc : PE X c (tC (.ty j.name)))
    (h1 : starEach [e, c] X.env = (false, eval e X.env) :: starEach [c] X.env := by rfl) (h2 : starEach [c] X.env = (false, eval c X.env) :: starEach [] X.env := by rfl) (hpl : (backTo pos (starEach [c] X.env)).any (·.1) = false := by rfl) :
    DE X B (.Call (.Name "isinstance" p) [e, c] [] pos) (dIsK j te) :=
  PE.weak (pe_callB call_isi hg hm hv (pa_cons ha (pa_cons hc pa_nil h2) h1) (he := h1) (hpl := hpl)) fun σ H Q ⟨F, G, δ, Qd, S, h, k⟩ => ⟨F, G, δ, _, S, h, fun v H1 ⟨F1, G1, d, s1, S1, r1, h1⟩ => by
    cases q : isK d G1 j with
    | none => simp only [q] at h1
    | some b =>
      simp only [q] at h1
      obtain ⟨t, ty, kt⟩ := isK_ty S1 r1 q
      exact ⟨v, .ty _, t, _, b, rfl, .ty _, ty, kt, k _ _ ⟨F1, G1, _, s1, S1, .bl b, h1⟩⟩⟩
/-- isinstance(x, (T1, T2)) -/
def isKs (d : D) (G : Gm) (js : List Ki) : Option Bool := match kiD d with
  | some k => some (js.any k.below)
  | none => match insD d G with | some _ => (if js.all (fun j => decide (j ≠ .non)) = true then some false else none) | none => none
def dIsKs (js : List Ki) (te : TED) : TED := fun δ G Q => te δ G fun d G1 => match isKs d G1 js with | some b => Q (.bl b) G1 | none => False
theorem kit_anyC {C : Addr} (g : GoodC K C) : ∀ js : List Ki, (∀ j ∈ js, j ≠ .non) → PySem.W.kitAny K (.ref C) (js.map fun j => .type j.name) = some false
  | [], _ => rfl
  | j :: js, h => by
    have h1 := g.kt j.name ((mem_ty j).resolve_left (h j List.mem_cons_self))
    have h2 := kit_anyC g js fun i hi => h i (List.mem_cons_of_mem _ hi)
    rw [List.map_cons]
    show (match PySem.W.kitOne K (.ref C) (.type j.name) with | some true => _ | some false => _ | none => _) = _
    rw [h1]
    exact h2
def tyVs (js : List Ki) : TA := fun _ H Q => Q (js.map fun j => .ty j.name) H
theorem pa_tys_nil : PA X [] (tyVs []) := pa_nil
theorem pa_tys_cons {c : Expr} {j : Ki} {js : List Ki} (hc : PE X c (tC (.ty j.name))) (hr : PA X es (tyVs js)) (h1 : starEach (c :: es) X.env = (false, eval c X.env) :: starEach es X.env := by rfl) : PA X (c :: es) (tyVs (j :: js)) := pa_cons hc hr h1
theorem de_isKs {es : List Expr} {x1} {tp : Pos} {js : List Ki} (hg : Gl X "isinstance") (hm : X.mg "isinstance" = none) (hv : bootBuiltins "isinstance" = some (.builtin "isinstance")) (ha : DE X B e te) (hc : PA X es (tyVs js)) (hl : js.length ≤ sizeLine)
    (h1 : starEach [e, .Tuple es x1 tp] X.env = (false, eval e X.env) :: starEach [.Tuple es x1 tp] X.env := by rfl) (h2 : starEach [.Tuple es x1 tp] X.env = (false, eval (.Tuple es x1 tp) X.env) :: starEach [] X.env := by rfl) (hpl : (backTo pos (starEach [.Tuple es x1 tp] X.env)).any (·.1) = false := by rfl) :
    DE X B (.Call (.Name "isinstance" p) [e, .Tuple es x1 tp] [] pos) (dIsKs js te) :=
  PE.weak (pe_callB call_isiT hg hm hv (pa_cons ha (pa_cons (pe_tup hc) pa_nil h2) h1) (he := h1) (hpl := hpl)) fun σ H Q ⟨F, G, δ, Qd, S, h, k⟩ => ⟨F, G, δ, _, S, h, fun v H1 ⟨F1, G1, d, s1, S1, r1, h1⟩ => by
    refine ⟨by rw [List.length_map]; exact hl, fun tp ntp => ?_⟩
    have s2 := same_new (o := .tup (js.map fun j => V.ty j.name)) ntp
    have S2 := S1.same s2
    have pair : ∀ js : List Ki, Paired ClsV (js.map fun j => V.ty j.name) (js.map fun j => .type j.name) := fun js => by
      induction js with
      | nil => exact .nil
      | cons j js ih => exact .cons (.ty _) ih
    cases q : kiD d with
    | some kk =>
      simp only [isKs, q] at h1
      exact ⟨v, tp, _, _, _, _, rfl, upd_same, pair js, ki_ty S2.ds.sub r1 q, kit_any kk js, k _ _ ⟨F1, G1, _, s1, S2, .bl _, h1⟩⟩
    | none =>
      cases i : insD d G1 with
      | none => simp only [isKs, q, i] at h1
      | some cf =>
        obtain ⟨C, fs⟩ := cf
        by_cases hn : js.all (fun j => decide (j ≠ .non)) = true
        · simp only [isKs, q, i, if_pos hn] at h1
          obtain ⟨a, dx, fv, rfl, e, gc, _, _⟩ := ins_rep S2 r1 i
          exact ⟨_, tp, _, _, _, _, rfl, upd_same, pair js, .base (.ins e gc.cl gc.ca gc.sg gc.tk gc.mr), kit_anyC gc js (fun j hj => of_decide_eq_true (List.all_eq_true.mp hn j hj)), k _ _ ⟨F1, G1, _, s1, S2, .bl _, h1⟩⟩
        · simp only [isKs, q, i, if_neg hn] at h1⟩
/-- isinstance(x, C), C an own class -/
def dIsC (K : PySem.W.Frag) (C : Addr) (te : TED) : TED := fun δ G Q => te δ G fun d G1 => ∃ t b, TyD K d G1 t ∧ PySem.W.kitOne K t (.ref C) = some b ∧ Q (.bl b) G1
theorem de_isC {c : Expr} {C : Addr} (hg : Gl X "isinstance") (hm : X.mg "isinstance" = none) (hv : bootBuiltins "isinstance" = some (.builtin "isinstance")) (ha : DE X B e te) (hc : PE X c (tC (.ref C)))
    (h1 : starEach [e, c] X.env = (false, eval e X.env) :: starEach [c] X.env := by rfl) (h2 : starEach [c] X.env = (false, eval c X.env) :: starEach [] X.env := by rfl) (hpl : (backTo pos (starEach [c] X.env)).any (·.1) = false := by rfl) :
    DE X B (.Call (.Name "isinstance" p) [e, c] [] pos) (dIsC X.K C te) :=
  PE.weak (pe_callB call_isi hg hm hv (pa_cons ha (pa_cons hc pa_nil h2) h1) (he := h1) (hpl := hpl)) fun σ H Q ⟨F, G, δ, Qd, S, h, k⟩ => ⟨F, G, δ, _, S, h, fun v H1 ⟨F1, G1, d, s1, S1, r1, t, b, ty, kt, h1⟩ =>
    ⟨v, .ref C, t, _, b, rfl, .own C, tyD_ty S1 r1 ty, kt, k _ _ ⟨F1, G1, _, s1, S1, .bl b, h1⟩⟩⟩
def CallA (K : PySem.W.Frag) (rv : List V → Hp → VK → Prop) (r : List D → Gm → QD → Prop) : Prop := ∀ (B : Bs) (σ : L2.St) (δ : SD) (H F : Hp) (G : Gm) (xs : List V) (ds : List D) (Qd : QD) (Q : VK), Sit K B σ H F δ G → RepAll K F xs ds → r ds G Qd → (∀ v H', Beh K B σ F δ Qd v H' → Q v H') → rv xs H Q
def dCB (r : List D → Gm → QD → Prop) (t : TAD) : TED := fun δ G Q => t δ G fun ds G1 => r ds G1 Q
theorem cb_adeq {rv : List V → Hp → VK → Prop} {r : List D → Gm → QD → Prop} (hA : CallA K rv r) {Q : VK} (h : up K B (dCB r t) σ H Q) : tCB rv (upA K B t) σ H Q := by
  obtain ⟨F, G, δ, Qd, S, h, k⟩ := h
  exact ⟨F, G, δ, _, S, h, fun vs H1 ⟨F1, G1, ds, s1, S1, r1, h1⟩ => hA B σ δ H1 F1 G1 vs ds Qd Q S1 r1 h1 fun v H' ⟨F', G', d, s', S', r', q'⟩ => k v H' ⟨F', G', d, s1.trans s', S', r', q'⟩⟩
theorem de_callB {id : String} {x : Str} {rv : List V → Hp → VK → Prop} {r : List D → Gm → QD → Prop} (hc : CallR X (.builtin id) rv) (hA : CallA X.K rv r) (hg : Gl X x) (hm : X.mg x = none) (hv : bootBuiltins x = some (.builtin id)) (ha : DA X B (e :: es) t) (hn : x ≠ "__name__" := by decide) (hdb : (x == ("__debug__" : Str)) = false := by decide)
    (he : starEach (e :: es) X.env = (false, eval e X.env) :: starEach es X.env := by rfl) (hpl : (backTo pos (starEach es X.env)).any (·.1) = false := by rfl) : DE X B (.Call (.Name x p) (e :: es) [] pos) (dCB r t) :=
  PE.weak (pe_callB hc hg hm hv ha (hn := hn) (hdb := hdb) (he := he) (hpl := hpl)) fun σ H Q h => cb_adeq hA h
theorem de_callTy {T : String} {x : Str} {rv : List V → Hp → VK → Prop} {r : List D → Gm → QD → Prop} (hc : CallR X (.type T) rv) (hA : CallA X.K rv r) (hg : Gl X x) (hm : X.mg x = none) (hv : bootBuiltins x = some (.type T)) (ha : DA X B (e :: es) t) (hn : x ≠ "__name__" := by decide) (hdb : (x == ("__debug__" : Str)) = false := by decide)
    (he : starEach (e :: es) X.env = (false, eval e X.env) :: starEach es X.env := by rfl) (hpl : (backTo pos (starEach es X.env)).any (·.1) = false := by rfl) : DE X B (.Call (.Name x p) (e :: es) [] pos) (dCB r t) :=
  PE.weak (pe_callTy hc hg hm hv ha (hn := hn) (hdb := hdb) (he := he) (hpl := hpl)) fun σ H Q h => cb_adeq hA h
theorem repAll1 {vs : List V} {d : D} (r : RepAll K F vs [d]) : ∃ v, vs = [v] ∧ Rep K F v d := by
  cases r with
  | cons h t => cases t; exact ⟨_, rfl, h⟩
theorem repAll2 {vs : List V} {d d' : D} (r : RepAll K F vs [d, d']) : ∃ v u, vs = [v, u] ∧ Rep K F v d ∧ Rep K F u d' := by
  cases r with
  | cons h t =>
    obtain ⟨u, rfl, h2⟩ := repAll1 t
    exact ⟨_, u, rfl, h, h2⟩
abbrev LD := List D → Gm → QD → Prop
/-- len -/
def lenD : LD := fun ds G Q => match ds with
  | [.str z] => z.length ≤ sizeLine ∧ Q (.int z.length) G
  | [d] => (match seqD d G with | some es => Q (.int es.length) G | none => False)
  | _ => False
abbrev rLen2 (K : PySem.W.Frag) : List V → Hp → VK → Prop := fun xs H Q => (∃ p ys, xs = [.ref p] ∧ (SqL K H p ys ∨ SqT K H p ys) ∧ Q (.int ys.length) H) ∨ (∃ z, xs = [.str z] ∧ z.length ≤ sizeLine ∧ Q (.int z.length) H)
theorem call_len2 : CallR X (.builtin "len") (rLen2 X.K) := call_len_seq.or call_len_str
theorem len_A : CallA K (rLen2 K) lenD := fun B σ δ H F G xs ds Qd Q S r h k => by
  have main : ∀ {d : D}, ds = [d] → (match seqD d G with | some es => Qd (.int es.length) G | none => False) → rLen2 K xs H Q := fun {d} ed hh => by
    subst ed
    obtain ⟨v, rfl, rv⟩ := repAll1 r
    cases e : seqD d G with
    | none =>
      rw [e] at hh
      exact hh.elim
    | some es =>
      rw [e] at hh
      obtain ⟨p, xs, rfl, hs, ra⟩ := seq_rep S rv e
      exact .inl ⟨p, xs, rfl, hs, k _ _ (.val S (.int _) (by rw [ra.length]; exact hh))⟩
  unfold lenD at h
  split at h
  · obtain ⟨v, rfl, rv⟩ := repAll1 r
    rw [rep_str rv]
    exact .inr ⟨_, rfl, h.1, k _ _ (.val S (.int _) h.2)⟩
  · exact main rfl h
  · exact h.elim
/-- sum, all, any of a list that was made -/
def sumD : LD := fun ds G Q => ∃ ns : List Int, ds = [.lst (ns.map .int)] ∧ Q (.int ns.sum) G
theorem rep_ints {xs : List V} : ∀ {ns : List Int}, RepAll K F xs (ns.map .int) → xs = ns.map V.int := by
  intro ns
  induction ns generalizing xs with
  | nil => intro r; cases r; rfl
  | cons n ns ih => intro r; cases r with | cons h t => cases h; rw [ih t]; rfl
theorem rep_bls {xs : List V} : ∀ {ns : List Bool}, RepAll K F xs (ns.map .bl) → xs = ns.map V.bl := by
  intro ns
  induction ns generalizing xs with
  | nil => intro r; cases r; rfl
  | cons n ns ih => intro r; cases r with | cons h t => cases h; rw [ih t]; rfl
theorem sum_A : CallA K (rSum K) sumD := fun B σ δ H F G xs ds Qd Q S r ⟨ns, e, h⟩ k => by
  subst e
  obtain ⟨v, rfl, rv⟩ := repAll1 r
  obtain ⟨p, us, rfl, e1, q1⟩ := rep_lst rv
  exact ⟨p, ns, rfl, .of (by rw [← rep_ints q1]; exact S.ds.sub _ _ e1), k _ _ (.val S (.int _) h)⟩
def allD : LD := fun ds G Q => ∃ bs : List Bool, ds = [.lst (bs.map .bl)] ∧ Q (.bl (bs.all id)) G
def anyD : LD := fun ds G Q => ∃ bs : List Bool, ds = [.lst (bs.map .bl)] ∧ Q (.bl (bs.any id)) G
theorem all_A : CallA K (rAll K) allD := fun B σ δ H F G xs ds Qd Q S r ⟨ns, e, h⟩ k => by
  subst e
  obtain ⟨v, rfl, rv⟩ := repAll1 r
  obtain ⟨p, us, rfl, e1, q1⟩ := rep_lst rv
  exact ⟨p, ns, rfl, .of (by rw [← rep_bls q1]; exact S.ds.sub _ _ e1), k _ _ (.val S (.bl _) h)⟩
theorem any_A : CallA K (rAny K) anyD := fun B σ δ H F G xs ds Qd Q S r ⟨ns, e, h⟩ k => by
  subst e
  obtain ⟨v, rfl, rv⟩ := repAll1 r
  obtain ⟨p, us, rfl, e1, q1⟩ := rep_lst rv
  exact ⟨p, ns, rfl, .of (by rw [← rep_bls q1]; exact S.ds.sub _ _ e1), k _ _ (.val S (.bl _) h)⟩
def intD : LD := fun ds G Q => match ds with | [.int i] => Q (.int i) G | [.bl c] => Q (.int (if c then 1 else 0)) G | _ => False
theorem int_A : CallA K (fun xs H Q => (∃ i, xs = [.int i] ∧ Q (.int i) H) ∨ ∃ k, xs = [.bl k] ∧ Q (.int (if k then 1 else 0)) H) intD := fun B σ δ H F G xs ds Qd Q S r h k => by
  unfold intD at h
  split at h
  · obtain ⟨v, rfl, rv⟩ := repAll1 r
    rw [rep_int rv]
    exact .inl ⟨_, rfl, k _ _ (.val S (.int _) h)⟩
  · obtain ⟨v, rfl, rv⟩ := repAll1 r
    rw [rep_bl rv]
    exact .inr ⟨_, rfl, k _ _ (.val S (.int _) h)⟩
  · exact h.elim
/-- tuple(..), list(..) -/
def tupD : LD := fun ds G Q => match ds with | [.lst es] => Q (.tup es) G | [.tup es] => Q (.tup es) G | _ => False
theorem tup_A : CallA K (fun xs H Q => ∃ p ys, xs = [.ref p] ∧ ((SqL K H p ys ∧ ∀ l, H l = none → Q (.ref l) (upd H l (.tup ys))) ∨ (SqT K H p ys ∧ Q (.ref p) H))) tupD := fun B σ δ H F G xs ds Qd Q S r h k => by
  unfold tupD at h
  split at h
  · obtain ⟨v, rfl, rv⟩ := repAll1 r
    obtain ⟨p, us, rfl, e1, q1⟩ := rep_lst rv
    exact ⟨p, us, rfl, .inl ⟨.of (S.ds.sub _ _ e1), fun l nl => k _ _ (.gotT S (same_new nl) upd_same q1 h)⟩⟩
  · obtain ⟨v, rfl, rv⟩ := repAll1 r
    obtain ⟨p, us, rfl, e1, q1⟩ := rep_tup rv
    exact ⟨p, us, rfl, .inr ⟨.of (S.ds.sub _ _ e1), k _ _ (.val S (.tup e1 q1) h)⟩⟩
  · exact h.elim
def lstD : LD := fun ds G Q => match ds with | [d] => (match seqD d G with | some es => Q (.lst es) G | none => False) | _ => False
theorem lst_A : CallA K (fun xs H Q => ∃ p ys, xs = [.ref p] ∧ (SqL K H p ys ∨ SqT K H p ys) ∧ ∀ l, H l = none → Q (.ref l) (upd H l (.lst ys))) lstD := fun B σ δ H F G xs ds Qd Q S r h k => by
  unfold lstD at h
  split at h
  · rename_i d
    obtain ⟨v, rfl, rv⟩ := repAll1 r
    cases e : seqD d G with
    | none => simp only [e] at h
    | some es =>
      simp only [e] at h
      obtain ⟨p, xs, rfl, hs, ra⟩ := seq_rep S rv e
      exact ⟨p, xs, rfl, hs, fun l nl => k _ _ (.newL S nl ra h)⟩
  · exact h.elim
abbrev TOD := SD → Gm → (Option Int → Gm → Prop) → Prop
def upO (K : PySem.W.Frag) (B : Bs) (T : TOD) : TO := fun σ H Q => ∃ F G δ Qd, Sit K B σ H F δ G ∧ T δ G Qd ∧ ∀ o H', (∃ F' G', Same F F' ∧ Sit K B σ H' F' δ G' ∧ Qd o G') → Q o H'
def DO (X : Cx) (B : Bs) (e : Option Expr) (T : TOD) : Prop := PO X e (upO X.K B T)
def oNone : TOD := fun _ G Q => Q none G
def oSome (te : TED) : TOD := fun δ G Q => te δ G fun d G1 => match d with | .int i => Q (some i) G1 | _ => False
theorem do_none : DO X B none oNone := ⟨fun pins s σ H Q I ⟨F, G, δ, Qd, S, h, k⟩ => po_none.run pins s σ H Q I (k none H ⟨F, G, .refl F, S, h⟩)⟩
theorem do_some (h : DE X B e te) : DO X B (some e) (oSome te) := ⟨fun pins s σ H Q I ⟨F, G, δ, Qd, S, q, k⟩ => (po_some h).run pins s σ H Q I ⟨F, G, δ, _, S, q, fun v H1 ⟨F1, G1, d, s1, S1, r1, h1⟩ => by
    cases d with
    | int i =>
      cases r1
      exact ⟨i, rfl, k _ _ ⟨F1, G1, s1, S1, h1⟩⟩
    | _ => exact h1.elim⟩⟩
def cutD {α : Type} (xs : List α) (lo hi : Option Int) : List α := (xs.drop (HT.sIx xs.length 0 lo)).take (HT.sIx xs.length xs.length hi - HT.sIx xs.length 0 lo)
/-- a list, changeable or not -/
def lsD (d : D) (G : Gm) : Option (List D) := match d with
  | .lst ds => some ds
  | .adr a => match G a with | some (.lst ds) => some ds | _ => none
  | _ => none
theorem ls_rep {v : V} {d : D} {ds : List D} (S : Sit K B σ H F δ G) (r : Rep K F v d) (h : lsD d G = some ds) : ∃ p xs, v = .ref p ∧ H p = some (.lst xs) ∧ RepAll K F xs ds := by
  cases d with
  | lst es =>
    cases h
    obtain ⟨p, xs, e, h1, h2⟩ := rep_lst r
    exact ⟨p, xs, e, S.ds.sub _ _ h1, h2⟩
  | adr a =>
    cases r
    cases g : G a with
    | none => simp [lsD, g] at h
    | some mo =>
      cases mo with
      | lst es =>
        simp only [lsD, g, Option.some.injEq] at h
        subst h
        obtain ⟨xs, e, q⟩ := (S.ds.mu a _ g).2
        exact ⟨a, xs, rfl, e, q⟩
      | _ => simp [lsD, g] at h
  | _ => simp [lsD] at h
def slD (d : D) (G : Gm) (lo hi : Option Int) (Q : QD) : Prop := match d with
  | .tup ds => Q (.tup (cutD ds lo hi)) G
  | .scr ns => Q (.lst ((cutD ns lo hi).map .int)) G
  | _ => match lsD d G with | some ds => Q (.lst (cutD ds lo hi)) G | none => False
def dSl (te : TED) (tl th : TOD) : TED := fun δ G Q => te δ G fun d G1 => tl δ G1 fun lo G2 => th δ G2 fun hi G3 => slD d G3 lo hi Q
theorem cut_rep {xs : List V} {ds : List D} (r : RepAll K F xs ds) (lo hi : Option Int) : RepAll K F (cutV xs lo hi) (cutD ds lo hi) := by
  unfold cutV cutD
  rw [r.length]
  exact (r.drop _).take _
theorem cut_map {α β : Type} (f : α → β) (xs : List α) (lo hi : Option Int) : cutD (xs.map f) lo hi = (cutD xs lo hi).map f := by
  unfold cutD
  rw [List.length_map, List.map_take, List.map_drop]
theorem de_sl {lo hi : Option Expr} {tl th : TOD} {p2 : Pos} (he : DE X B e te) (hl : DO X B lo tl) (hu : DO X B hi th) : DE X B (.Subscript e (.Slice lo hi none p2) pos) (dSl te tl th) :=
  PE.weak (pe_slice (sl_list.or sl_tup2) he hl hu) fun σ H Q ⟨F, G, δ, Qd, S, h, k⟩ => ⟨F, G, δ, _, S, h, fun v H1 ⟨F1, G1, d, s1, S1, r1, h1⟩ => ⟨F1, G1, δ, _, S1, h1, fun l H2 ⟨F2, G2, s2, S2, h2⟩ => ⟨F2, G2, δ, _, S2, h2, fun u H3 ⟨F3, G3, s3, S3, h3⟩ => by
    have r3 := (r1.mono s2).mono s3
    have kk : ∀ v H', Beh X.K B σ F3 δ Qd v H' → Q v H' := fun v H' ⟨F', G', d, s', S', r', q'⟩ => k v H' ⟨F', G', d, ((s1.trans s2).trans s3).trans s', S', r', q'⟩
    have main : (match lsD d G3 with | some ds => Qd (.lst (cutD ds l u)) G3 | none => False) → (rSlL X.K v l u H3 Q ∨ rSl2 v l u H3 Q) := fun h3 => by
      cases e : lsD d G3 with
      | none =>
        rw [e] at h3
        exact h3.elim
      | some ds =>
        rw [e] at h3
        obtain ⟨p, xs, rfl, hs, ra⟩ := ls_rep S3 r3 e
        exact .inl ⟨p, xs, rfl, .of hs, fun q nq => kk _ _ (.newL S3 nq (cut_rep ra l u) h3)⟩
    cases d with
    | tup ds =>
      obtain ⟨p, us, rfl, e1, q1⟩ := rep_tup r3
      exact .inr ⟨p, us, rfl, S3.ds.sub _ _ e1, fun q H' s e => kk _ _ (.gotT S3 s e (cut_rep q1 l u) h3)⟩
    | scr ns =>
      cases r3 with
      | scr hs => exact .inl ⟨_, _, rfl, same_seqL' S3.ds.sub hs, fun q nq => kk _ _ (.newL S3 nq (by rw [show cutV (ns.map V.int) l u = (cutD ns l u).map V.int from cut_map V.int ns l u]; exact repAll_ints _) h3)⟩
    | _ => exact main h3⟩⟩⟩
end
end JP
namespace JP
open PySem PySem.Spec PyProof.Rows L2
section
variable {X : Cx} {B : Bs} {K : PySem.W.Frag} {a b e o : Expr} {es : List Expr} {ta tb te to : TED} {t : TAD} {pos p apos : Pos}
variable {σ : L2.St} {H F : Hp} {δ : SD} {G : Gm} {W : WD}
def lsM (d : D) (G : Gm) : Option (Addr × List D) := match d with
  | .adr a => match G a with | some (.lst ds) => some (a, ds) | _ => none
  | _ => none
theorem lsM_rep {v : V} {d : D} {a : Addr} {ds : List D} (S : Sit K B σ H F δ G) (r : Rep K F v d) (h : lsM d G = some (a, ds)) : d = .adr a ∧ v = .ref a ∧ G a = some (.lst ds) ∧ ∃ xs, H a = some (.lst xs) ∧ RepAll K F xs ds := by
  cases d with
  | adr a' =>
    cases r
    cases g : G a' with
    | none => simp [lsM, g] at h
    | some mo =>
      cases mo with
      | lst es =>
        simp only [lsM, g, Option.some.injEq, Prod.mk.injEq] at h
        obtain ⟨rfl, rfl⟩ := h
        obtain ⟨xs, e, q⟩ := (S.ds.mu _ _ g).2
        exact ⟨rfl, rfl, g, xs, e, q⟩
      | _ => simp [lsM, g] at h
  | _ => simp [lsM] at h
def dApp (to te : TED) : TED := fun δ G Q => to δ G fun d G1 => match lsM d G1 with
  | some _ => te δ G1 fun y G2 => (match lsM d G2 with | some (a, ds) => ds.length < sizeLine ∧ Q .non (updG G2 a (.lst (ds ++ [y]))) | none => False)
  | none => False
theorem de_append (ho : DE X B o to) (he : DE X B e te)
    (hbase : attributeBase o (Str.ofString "append") X.env (eval o X.env) = eval o X.env := by rfl)
    (hfew : ((backTo pos (starEach (e :: []) X.env)).all (fun x => !x.1) && (backToKw pos (keywordEach [] X.env)).all (fun x => x.1.isSome)
      && decide ((e :: ([] : List Expr)).length + ([] : List Keyword).length + (if ([] : List Keyword).isEmpty then 0 else 1) < 30)) = true := by rfl)
    (hline : (apos.endLine == pos.line) = true := by rfl) (hs : starEach (e :: []) X.env = (false, eval e X.env) :: starEach [] X.env := by rfl) (hplain : (backTo pos (starEach [] X.env)).any (·.1) = false := by rfl) :
    DE X B (.Call (.Attribute o (Str.ofString "append") apos) [e] [] pos) (dApp to te) :=
  PE.weak (pe_bm PySem.F.plainAttrs_list PySem.F.slot_list_append PySem.F.type_list_append mt_append ho (pa_cons he pa_nil hs) (hbase := hbase) (hfew := hfew) (hline := hline) (hs := hs) (hplain := hplain)) fun σ H Q ⟨F, G, δ, Qd, S, h, k⟩ => ⟨F, G, δ, _, S, h, fun v H1 ⟨F1, G1, d, s1, S1, r1, h1⟩ => by
    cases q : lsM d G1 with
    | none => simp only [q] at h1
    | some ad =>
      obtain ⟨a, ds⟩ := ad
      simp only [q] at h1
      obtain ⟨rfl, rfl, g, xs, e1, ra⟩ := lsM_rep S1 r1 q
      refine ⟨.inl ⟨rfl, xs, .of e1⟩, F1, G1, δ, _, S1, h1, fun y H2 ⟨F2, G2, dy, s2, S2, r2, h2⟩ => ?_⟩
      cases q2 : lsM (.adr a) G2 with
      | none => simp only [q2] at h2
      | some ad2 =>
        obtain ⟨a2, ds2⟩ := ad2
        simp only [q2] at h2
        obtain ⟨e3, e4, g2, xs2, e5, ra2⟩ := lsM_rep S2 (.adr a) q2
        cases e4
        refine ⟨a, xs2, y, rfl, rfl, e5, by rw [ra2.length]; exact h2.1, k _ _ ⟨F2, _, .non, s1.trans s2, ⟨S2.ds.write (m' := .lst (ds2 ++ [dy])) g2 ⟨_, upd_same, ra2.append (.cons r2 .nil)⟩, S2.gr, S2.sl⟩, .non, h2.2⟩⟩⟩
theorem xw_new {H1 F1 : Hp} {G1 : Gm} {C d : Addr} {fv : List (Str × V)} {fs : List (Str × D)} (S1 : Sit K B σ H1 F1 δ G1) (n : H1 d = none) (r : RepF K F1 fv fs) (w : W C fs G1) : XW K B W (.ref C) (some d) (upd H1 d (.xd fv)) := by
  obtain ⟨d2, s2⟩ := S1.ds.new (o := .xd fv) n
  exact ⟨_, G1, C, fs, rfl, S1.gr.trans s2, d2, .inr ⟨d, fv, rfl, upd_same, r.mono s2⟩, w⟩
section
variable {k : Nat} {f C pa : Addr} {mc : Value} {fd : FuncData} {ps ks : List Str} {sp : SpD} {x m : Str} {kws : List Keyword} {tk : TAD} {gg : List Value → List Value → List Value} {gV : List V → List V → List V} {gD : List D → List D → List D}
/-- into a def from a state, its end to be looked at -/
theorem low_at {Qd : QD} {Q : VK} {vs : List V} {ds : List D} (S : Sit K B σ H F δ G) (r : RepAll K F vs ds) (h : sp ds G Qd W) (kk : ∀ v H', Beh K B σ F δ Qd v H' → Q v H') : lowSp K sp vs H Q (XW K B W) := low_of kk (.refl F) S r h
def lenOD (C : Addr) (sp : SpD) (W : WD) : LD := fun ds G Q => match ds with
  | [d] => (match insD d G with | some (C', _) => C' = C ∧ sp [d] G (fun z G1 => match z with | .int n => (0 ≤ n ∧ n < 2 ^ 63) ∧ Q (.int n) G1 | _ => False) W | none => False)
  | _ => False
theorem de_lenO (M : OwnM X.K C "__len__" f) (Fn : FnD X.prog X.w X.K X.mg X.base k f fd ps sp) (hb : Binds X.K fd ps []) (hr : Room (k + 1) X.A) (hx : Passes (L2.CX X.prog X.w) X (XW X.K B W)) (hg : Gl X "len") (hm : X.mg "len" = none) (hv : bootBuiltins "len" = some (.builtin "len")) (ha : DA X B [e] t)
    (he : starEach [e] X.env = (false, eval e X.env) :: starEach [] X.env := by rfl) (hpl : (backTo pos (starEach [] X.env)).any (·.1) = false := by rfl) : DE X B (.Call (.Name "len" p) [e] [] pos) (dCB (lenOD C sp W) t) :=
  PE.weak (pe_callB (call_lenO M Fn hb hr hx) hg hm hv ha (he := he) (hpl := hpl)) fun σ H Q ⟨F, G, δ, Qd, S, h, kk⟩ => ⟨F, G, δ, _, S, h, fun vs H1 ⟨F1, G1, ds, s1, S1, r1, h1⟩ => by
    unfold lenOD at h1
    split at h1
    case h_2 => exact h1.elim
    case h_1 d =>
      obtain ⟨v, rfl, r⟩ := repAll1 r1
      cases q : insD d G1 with
      | none => simp only [q] at h1
      | some cf =>
        obtain ⟨C', fs⟩ := cf
        simp only [q] at h1
        obtain ⟨rfl, h2⟩ := h1
        obtain ⟨a, dx, fv, rfl, e1, gc, na, rf⟩ := ins_rep S1 r q
        refine ⟨a, dx, fv, rfl, e1, low_at S1 (.cons r .nil) h2 fun v H' ⟨F', G', d', s', S', r', q'⟩ => ?_⟩
        cases d' with
        | int n =>
          cases r'
          obtain ⟨⟨n0, n1⟩, q'⟩ := q'
          obtain ⟨j, rfl⟩ := Int.eq_ofNat_of_zero_le n0
          exact ⟨j, rfl, by omega, kk _ _ ⟨F', G', _, s1.trans s', S', .int _, q'⟩⟩
        | _ => exact q'.elim⟩
/-- x == y, x != y, x of the class C -/
def eqOD (K : PySem.W.Frag) (C : Addr) (sp : SpD) (W : WD) (neg : Bool) : R2D := fun a b G Q => match insD a G with
  | some (C', _) => C' = C ∧ (∃ t, TyD K b G t ∧ PySem.W.notFirst K C t = true) ∧ sp [a, b] G (fun z G1 => match z with | .bl c => Q (.bl (if neg then !c else c)) G1 | _ => False) W
  | none => False
theorem eqO_A {B : Bs} {σ : L2.St} {δ : SD} {H F : Hp} {G : Gm} {x y : V} {a b : D} {neg : Bool} {Qd : QD} {Q : VK} (S : Sit K B σ H F δ G) (r1 : Rep K F x a) (r2 : Rep K F y b) (h : eqOD K C sp W neg a b G Qd) (kk : ∀ v H', Beh K B σ F δ Qd v H' → Q v H') : rEqO C (lowSp K sp) (XW K B W) K neg x y H Q := by
  unfold eqOD at h
  cases q : insD a G with
  | none => simp only [q] at h
  | some cf =>
    obtain ⟨C', fs⟩ := cf
    simp only [q] at h
    obtain ⟨rfl, ⟨t, ty, nf⟩, h⟩ := h
    obtain ⟨ad, dx, fv, rfl, e1, gc, na, rf⟩ := ins_rep S r1 q
    refine ⟨ad, dx, fv, rfl, e1, ⟨t, tyD_ty S r2 ty, nf⟩, low_at S (.cons r1 (.cons r2 .nil)) h fun v H' ⟨F', G', d', s', S', r', q'⟩ => ?_⟩
    cases d' with
    | bl c =>
      cases r'
      exact ⟨c, rfl, kk _ _ ⟨F', G', _, s', S', .bl _, q'⟩⟩
    | _ => exact q'.elim
theorem dt_eqO (M : OwnM X.K C "__eq__" f) (Fn : FnD X.prog X.w X.K X.mg X.base k f fd ps sp) (hb : Binds X.K fd ps []) (hr : Room k X.A) (hx : Passes (L2.CX X.prog X.w) X (XW X.K B W)) (ha : DE X B a ta) (hb2 : DE X B b tb) : DT X B (.Compare a [.Eq] [b] pos) (dTest (dOp (eqOD X.K C sp W false) ta tb)) :=
  PT.weak (pt_cmpR (op_eqO M Fn hb hr hx) ha hb2 (nomark _)) fun σ H Q q => by
    obtain ⟨F, G, δ, Qd, S, h, k⟩ := q
    refine up2 S h fun x y H2 F2 G2 d e s2 S2 r1 r2 h2 => eqO_A S2 r1 r2 h2 fun v H' ⟨F', G', d', s', S', r', q'⟩ => ?_
    cases d' with
    | bl b =>
      cases r'
      exact ⟨b, rfl, k b H' ⟨F', G', s2.trans s', S', q'⟩⟩
    | _ => exact q'.elim
theorem dt_neO (M : OwnM X.K C "__eq__" f) (hne : PySem.W.findIn X.K (.ref C) "__ne__" = some (some (.builtin "object.__ne__"))) (hmr : PySem.W.mroIn X.K C (.type "object") = some true) (Fn : FnD X.prog X.w X.K X.mg X.base k f fd ps sp) (hb : Binds X.K fd ps []) (hr : Room (k + 1) X.A) (hx : Passes (L2.CX X.prog X.w) X (XW X.K B W)) (ha : DE X B a ta) (hb2 : DE X B b tb) :
    DT X B (.Compare a [.NotEq] [b] pos) (dTest (dOp (eqOD X.K C sp W true) ta tb)) :=
  PT.weak (pt_cmpR (op_neO M hne hmr Fn hb hr hx) ha hb2 (nomark _)) fun σ H Q q => by
    obtain ⟨F, G, δ, Qd, S, h, k⟩ := q
    refine up2 S h fun x y H2 F2 G2 d e s2 S2 r1 r2 h2 => eqO_A S2 r1 r2 h2 fun v H' ⟨F', G', d', s', S', r', q'⟩ => ?_
    cases d' with
    | bl b =>
      cases r'
      exact ⟨b, rfl, k b H' ⟨F', G', s2.trans s', S', q'⟩⟩
    | _ => exact q'.elim
/-- C.m(..), m a static method -/
theorem de_smeth {pl : Sem Bool} (hx : Passes (L2.CX X.prog X.w) X (XW X.K B W)) (he : PE X o (tC (.ref C))) (c : SMet X.K C mc m pa f) (Fn : FnD X.prog X.w X.K X.mg X.base k f fd ps sp) (hr : Room k X.A) (hb : Binds X.K fd ps []) (ha : DA X B (e :: es) t)
    (hst : starEach (e :: es) X.env = (false, eval e X.env) :: starEach es X.env := by rfl) (hpl : (backTo pos (starEach es X.env)).any (·.1) = false := by rfl)
    (ht : eval (.Call (.Attribute o m apos) (e :: es) [] pos) X.env = (do
      let ov ← eval o X.env
      standAt apos.atName
      let (f, first) ← holding [ov] (getMethod ov m pl)
      callWith pos f first (backTo pos (starEach (e :: es) X.env)) (backToKw pos (keywordEach [] X.env))) := by rfl) :
    DE X B (.Call (.Attribute o m apos) (e :: es) [] pos) (dCall sp W t) :=
  PE.weak (pe_smeth (E := fun _ => XW X.K B W) he c Fn hr hb (fun σ pins H s e s' I c => hx pins σ H s e s' I c) ha hst hpl ht) fun σ H Q ⟨F, G, δ, Qd, S, h, kk⟩ => ⟨rfl, F, G, δ, _, S, h, fun vs H1 ⟨F1, G1, ds, s1, S1, r1, h1⟩ => low_of kk s1 S1 r1 h1⟩
theorem de_smethK0 {pl : Sem Bool} (hx : Passes (L2.CX X.prog X.w) X (XW X.K B W)) (he : PE X o (tC (.ref C))) (c : SMet X.K C mc m pa f) (Fn : FnD X.prog X.w X.K X.mg X.base k f fd ps sp) (hr : Room k X.A) (hb : KBinds X.K fd ps ks gg gV) (hp : PermOk gV gD) (hkw : DK X B kws tk)
    (hall : (backToKw pos (keywordEach kws X.env)).all (·.1.isSome) = true := by rfl) (hks : (backToKw pos (keywordEach kws X.env)).filterMap (·.1) = ks := by rfl)
    (hpl : ((backTo pos (starEach [] X.env)).any (·.1) || (backToKw pos (keywordEach kws X.env)).any (·.1.isNone)) = false := by rfl)
    (ht : eval (.Call (.Attribute o m apos) [] kws pos) X.env = (do
      let ov ← eval o X.env
      standAt apos.atName
      let (f, first) ← holding [ov] (getMethod ov m pl)
      callWith pos f first (backTo pos (starEach [] X.env)) (backToKw pos (keywordEach kws X.env))) := by rfl) :
    DE X B (.Call (.Attribute o m apos) [] kws pos) (dCallK sp gD W dNil tk) :=
  PE.weak (pe_smethK0 he c Fn hr hb hx hkw hall hks hpl ht) fun σ H Q ⟨F, G, δ, Qd, S, h, kk⟩ => ⟨rfl, F, G, δ, _, S, h, fun zs H1 ⟨F1, G1, es, s1, S1, r1, h1⟩ => low_of kk s1 S1 (hp _ _ _ _ _ _ .nil r1) h1⟩
/-- x(..), x an instance of C -/
def isO : D → Bool
  | .ins _ _ => true
  | .adr _ => true
  | _ => false
theorem isO_ref {v : V} {d : D} (r : Rep K F v d) (h : isO d = true) : ∃ a, v = .ref a := by
  cases r <;> first | exact ⟨_, rfl⟩ | cases h
end
end
section
variable {X : Cx} {B : Bs} {K : PySem.W.Frag} {e e2 : Expr} {t : TAD} {pos p tpos : Pos}
variable {σ : L2.St} {H F : Hp} {δ : SD} {G : Gm}
def seqS (d : D) : Option (List D) := match d with
  | .lst ds => some ds
  | .tup ds => some ds
  | _ => none
def zipD (xs ys : List D) : List D := (xs.zip ys).map fun p => .tup [p.1, p.2]
theorem seqS_rep {v : V} {d : D} {ds : List D} (r : Rep K F v d) (h : seqS d = some ds) : ∃ k a xs, v = .ref a ∧ SqK K k F a xs ∧ RepAll K F xs ds := by
  cases d with
  | lst es =>
    cases h
    obtain ⟨p, xs, e, h1, h2⟩ := rep_lst r
    exact ⟨false, p, xs, e, .of h1, h2⟩
  | tup es =>
    cases h
    obtain ⟨p, xs, e, h1, h2⟩ := rep_tup r
    exact ⟨true, p, xs, e, .of h1, h2⟩
  | _ => simp [seqS] at h
theorem itD_zip {k1 k2 : Bool} {a b : Addr} {xs ys : List V} {ds es : List D} (h1 : SqK K k1 F a xs) (h2 : SqK K k2 F b ys) (r1 : RepAll K F xs ds) (r2 : RepAll K F ys es) : ItD K F (ItzK K k1 k2 a b) (zipD ds es) := by
  have l1 := r1.length
  have l2 := r2.length
  have lz : (zipD ds es).length = min ds.length es.length := by simp [zipD]
  refine ⟨fun i H hi s => ?_, fun H s => ⟨xs, ys, sqK_same s h1, sqK_same s h2, by rw [lz]; omega⟩, fun i H x H' hi s y B σ δ G F1 S s1 => ?_⟩
  · rw [lz] at hi
    have i1 : i < xs.length := by omega
    have i2 : i < ys.length := by omega
    exact ⟨xs, ys, xs[i], ys[i], sqK_same s h1, sqK_same s h2, by simp [i1], by simp [i2]⟩
  · obtain ⟨T, u, w, rfl, nT, rfl, y1, y2⟩ := y
    obtain ⟨d1, e1, q1⟩ := r1.get' (y1 xs (sqK_same s h1))
    obtain ⟨d2, e2, q2⟩ := r2.get' (y2 ys (sqK_same s h2))
    obtain ⟨d3, s3⟩ := S.ds.new (o := .tup [u, w]) nT
    refine ⟨_, .tup [d1, d2], s3, ⟨d3, S.gr.trans s3, S.sl.mono s3⟩, ?_, .tup upd_same (.cons ((q1.mono s1).mono s3) (.cons ((q2.mono s1).mono s3) .nil))⟩
    have hz : (ds.zip es)[i]? = some (d1, d2) := by
      rw [List.getElem?_zip_eq_some]
      exact ⟨e1, e2⟩
    simp [zipD, hz]
def iZipD (ta : TAD) : TID := fun δ G R => ta δ G fun ds G1 => match ds with
  | [d, d2] => (match seqS d, seqS d2 with | some xs, some ys => R (zipD xs ys) G1 | _, _ => False)
  | _ => False
theorem di_zip {elts : List Expr} {kk : Nat} (hg : Gl X "zip") (hm : X.mg "zip" = none) (ha : DA X B [e, e2] t)
    (hs : starEach [e, e2] X.env = (false, eval e X.env) :: starEach [e2] X.env := by rfl) (hpl : (backTo pos (starEach [e2] X.env)).any (·.1) = false := by rfl) : DI X B (.Tuple elts kk tpos) (.Call (.Name "zip" p) [e, e2] [] pos) (iZipD t) :=
  PI.weak (pi_zipK hg hm ha hs hpl) fun σ H R ⟨F, G, δ, Qd, S, h, k⟩ => ⟨F, G, δ, _, S, h, fun vs H1 ⟨F1, G1, ds, s1, S1, r1, h1⟩ => by
    split at h1
    case h_2 => exact h1.elim
    case h_1 d d2 =>
      obtain ⟨v, u, rfl, q1, q2⟩ := repAll2 r1
      split at h1
      case h_2 => exact h1.elim
      case h_1 xs ys ex ey =>
        obtain ⟨k1, a, us, rfl, g1, ra1⟩ := seqS_rep q1 ex
        obtain ⟨k2, b, ws, rfl, g2, ra2⟩ := seqS_rep q2 ey
        exact ⟨k1, k2, a, b, us, ws, rfl, sqK_same S1.ds.sub g1, sqK_same S1.ds.sub g2, k _ _ ⟨F1, G1, _, s1, S1, itD_zip g1 g2 ra1 ra2, h1⟩⟩⟩
end
end JP
namespace JP
open PySem PySem.Spec PyProof.Rows L2
section
variable {X : Cx} {B : Bs} {K : PySem.W.Frag} {e : Expr} {te : TED} {pos p : Pos}
theorem dv (i : Nat) {x : Str} {pos : Pos} (hN : X.N[i]? = some x := by rfl) (hv : Vis X.env.scope x := by first | exact Or.inl rfl | exact Or.inr (Or.inl rfl) | exact Or.inr (Or.inr rfl)) (hd : (x == ("__debug__" : Str)) = false := by decide)
    (hcd : (x == ("__classdict__" : Str)) = false := by decide) : DE X B (.Name x pos) (dVar i) := de_var hN hv hd hcd
theorem de_dict0 : DE X B (.Dict [] [] pos) (dC (.dic [])) :=
  PE.weak pe_dnewK fun σ H Q ⟨F, G, δ, Qd, S, h, k⟩ => fun p n => k _ _ (.new S (.refl F) n (.dk (.of upd_same) .nil) h)
theorem de_isCK {c : Expr} {C : Addr} (hK : X.K = K) (hg : Gl X "isinstance") (hm : X.mg "isinstance" = none) (hv : bootBuiltins "isinstance" = some (.builtin "isinstance")) (ha : DE X B e te) (hc : PE X c (tC (.ref C)))
    (h1 : starEach [e, c] X.env = (false, eval e X.env) :: starEach [c] X.env := by rfl) (h2 : starEach [c] X.env = (false, eval c X.env) :: starEach [] X.env := by rfl) (hpl : (backTo pos (starEach [c] X.env)).any (·.1) = false := by rfl) :
    DE X B (.Call (.Name "isinstance" p) [e, c] [] pos) (dIsC K C te) := hK ▸ de_isC hg hm hv ha hc h1 h2 hpl
end
section
variable {P : Program} {w : World} {K : PySem.W.Frag} {mg : Str → Option Value} {base : Heap} {k : Nat} {f : Addr} {fd : FuncData} {ps : List Str}
theorem fn_any {CX : CXT} {sp : Sp} (F : FnOk P w K mg base CX0 k f fd ps sp) : FnOk P w K mg base CX k f fd ps sp :=
  ⟨F.len, fun A outer s H args us vs Q E hr e0 hb r h => codeAny_mono (F.run A outer s H args us vs Q E hr e0 hb r h) fun r s' q => by
    cases r with
    | error e => exact (show False from q).elim
    | ok fl => cases fl <;> exact q⟩
theorem DS.but {Tb : List (Addr × Str)} {F H H' Z : Hp} {G : Gm} {p : Addr} {m m' : MO} (d : DS K Tb F H G Z) (g : G p = some m) (b : But p H H') (r : MRep K F H' p m') : DS K Tb F H' (updG G p m') Z := by
  have hf := (d.mu p m g).1
  obtain ⟨u, hu, mu⟩ := (d.mu p m g).2.at_
  have hz : Z p = none := by
    cases e : Z p with
    | none => rfl
    | some u =>
      have := (d.zf p u e).2.1
      rw [g] at this
      cases this
  refine ⟨fun a o e => b a o (fun c => by rw [c, hf] at e; cases e) (d.sub a o e), fun a n e => ?_, fun a o e => b a o (fun c => by rw [c, hz] at e; cases e) (d.zub a o e), fun a o e => ?_, d.ft, fun q hq => ?_⟩
  · by_cases c : a = p
    · subst c
      rw [updG_same] at e
      cases e
      exact ⟨hf, r⟩
    · rw [updG_ne c] at e
      exact ⟨(d.mu a n e).1, (d.mu a n e).2.mono (.refl F) fun o q => b a o c q⟩
  · have c : a ≠ p := fun c => by rw [c, hz] at e; cases e
    exact ⟨(d.zf a o e).1, (updG_ne c).trans (d.zf a o e).2.1, (d.zf a o e).2.2⟩
  · obtain ⟨ps, h1, h3, h4⟩ := d.tab q hq
    refine ⟨ps, b _ _ (fun c => ?_) h1, h3, fun pos cv hc => ?_⟩
    · rw [c, hu] at h1
      cases h1
      exact mu
    · obtain ⟨c, e1, e2⟩ := h4 pos cv hc
      refine ⟨c, e1, b _ _ (fun c' => ?_) e2⟩
      rw [c', hu] at e2
      have e3 : u = LamX.CodeO _ q.2 := Option.some.inj e2
      rw [e3] at mu
      exact codeO_notM mu
def spDraw : Sp := fun vs H Q _ => ∃ (p c : Addr) (many : Int) (m : Nat), vs = [.ref p, .int many] ∧ Pen H p c m ∧ 1 ≤ many ∧ many < 2 ^ 60 ∧ m ≤ 2 ^ 20 ∧
  ∀ (r : Int) (H' : Hp), 0 ≤ r → r < many → Pen H' p c (m + 1) → But p H H' → Q (.int r) H'
def spPen (K : PySem.W.Frag) : Sp := fun vs H Q _ => ∃ (a : Addr) (ns : List Int), vs = [.ref a] ∧ SqL K H a (ns.map V.int) ∧ ns.length ≤ 63 ∧
  ∀ (p c : Addr) (H' : Hp), Same H H' → H p = none → H c = none → Pen H' p c 0 → Q (.ref p) H'
/-- a draw: any number below, one step of the pen -/
def drawD : SpD := fun ds G Q _ => ∃ (p : Addr) (n : Int) (m : Nat), ds = [.adr p, .int n] ∧ G p = some (.pen m) ∧ 1 ≤ n ∧ n < 2 ^ 60 ∧ m ≤ 2 ^ 20 ∧ ∀ r, 0 ≤ r → r < n → Q (.int r) (updG G p (.pen (m + 1)))
theorem draw_of (Fn : FnOk P w K mg base CX0 k f fd ps spDraw) : FnD P w K mg base k f fd ps drawD :=
  (fn_any Fn).imp fun vs H Q E ⟨B, G, ds, Qd, W, d, r, ⟨p, n, m, ed, g, n1, n2, hm, q⟩, kq, ke⟩ => by
    subst ed
    obtain ⟨v, u, rfl, r1, r2⟩ := repAll2 r
    cases r1
    cases r2
    obtain ⟨fp, c, ns, j, gg, h1, h2, h3, h4, h5, h6⟩ := d.mu p _ g
    have ncp : c ≠ p := fun e => by rw [e, fp] at h2; cases h2
    have hP : Pen H p c m := ⟨ns, j, gg, h1, d.sub _ _ h2, ncp, h3, h4, h5, h6⟩
    refine ⟨p, c, n, m, rfl, hP, n1, n2, hm, fun r H' r0 r1 hP' hB => kq _ _ ⟨B.F, _, .int r, .refl _, d.but g hB (m' := .pen (m + 1)) ?_, .refl _, .int r, q r r0 r1⟩⟩
    obtain ⟨ns', j', g', q1, q2, q3, q4, q5, q6, q7⟩ := hP'
    have e2 := hB c _ ncp (d.sub _ _ h2)
    rw [q2] at e2
    have e3 : ns'.map V.int = ns.map V.int := by injection Option.some.inj e2
    exact ⟨c, ns', j', g', q1, by rw [e3]; exact h2, q4, q5, q6, q7⟩
/-- the pen -/
def penD : SpD := fun ds G Q _ => ∃ ns, ds = [.scr ns] ∧ ns.length ≤ 63 ∧ ∀ p, G p = none → Q (.adr p) (updG G p (.pen 0))
theorem pen_of (Fn : FnOk P w K mg base CX0 k f fd ps (spPen K)) : FnD P w K mg base k f fd ps penD :=
  (fn_any Fn).imp fun vs H Q E ⟨B, G, ds, Qd, W, d, r, ⟨ns, ed, hl, q⟩, kq, ke⟩ => by
    subst ed
    obtain ⟨v, rfl, r1⟩ := repAll1 r
    cases r1 with
    | scr hs =>
      refine ⟨_, ns, rfl, same_seqL' d.sub hs, hl, fun p c H' s np nc hP => ?_⟩
      obtain ⟨ns', j', g', q1, q2, q3, q4, q5, q6, q7⟩ := hP
      have d1 := d.same s
      obtain ⟨d2, s2⟩ := d1.frz q2 (d.noG nc) (d.noZ nc)
      refine kq _ _ ⟨upd B.F c (.lst (ns'.map V.int)), updG G p (.pen 0), .adr p, s2, ⟨d2.sub, fun a n e => ?_, d2.zub, fun a o e => ?_, d2.ft, d2.tab⟩, s2, .adr p, q p (d.noG np)⟩
      · by_cases c' : a = p
        · subst c'
          rw [updG_same] at e
          cases e
          exact ⟨(upd_ne q3.symm).trans (d.noF np), c, ns', j', g', q1, upd_same, q4, q5, q6, q7⟩
        · rw [updG_ne c'] at e
          exact d2.mu a n e
      · have c' : a ≠ p := fun c => by rw [c, d.noZ np] at e; cases e
        exact ⟨(d2.zf a o e).1, (updG_ne c').trans (d2.zf a o e).2.1, (d2.zf a o e).2.2⟩
/-- the law: from the script to True -/
def lawD : SpD := fun ds G Q _ => ∃ ns, ds = [.scr ns] ∧ ns.length ≤ 63 ∧ (∀ a, G a = none) ∧ ∀ G', Q (.bl true) G'
theorem only_notT {H : Hp} (o : Only H) : ∀ b u, H b = some u → notT u := fun b u e => by
  rcases o b with n | ⟨ob, xs, n⟩
  · rw [n] at e
    cases e
  · rw [n] at e
    cases e
    trivial
theorem law_sat {a : Addr} {ns : List Int} {H : Hp} (hl : ns.length ≤ 63) (o : Only H) (s : SqL K H a (ns.map V.int)) : lowSp K lawD [.ref a] H (fun v _ => v = .bl true) fun _ _ _ => False := by
  refine ⟨⟨H, fun _ => none, []⟩, fun _ => none, [.scr ns], fun d _ => d = .bl true, WN, ⟨.refl H, ?_, ?_, ?_, only_notT o, ?_⟩, .cons (.scr s) .nil, ⟨ns, rfl, hl, fun _ => rfl, fun _ => rfl⟩, ?_, ?_⟩
  · intro _ _ e
    cases e
  · intro _ _ e
    cases e
  · intro _ _ e
    cases e
  · intro _ hp
    cases hp
  · rintro v H' ⟨_, _, _, _, _, _, r, e⟩
    subst e
    exact rep_bl r
  · rintro _ _ _ ⟨_, _, _, _, _, _, _, _, w⟩
    exact w
end
end JP
namespace JP
open PySem PySem.Spec PyProof.Rows L2
/-- a thing whose type is told -/
def Told (d : D) (G : Gm) : Prop := (kiD d).isSome = true ∨ (insD d G).isSome = true
def isB (d : D) (j : Ki) : Bool := match kiD d with
  | some k => k.below j
  | none => false
theorem told_is {d : D} {G : Gm} (h : Told d G) {j : Ki} (hj : j ≠ .non) : isK d G j = some (isB d j) := by
  unfold isK isB
  cases q : kiD d with
  | some k => rfl
  | none =>
    rcases h with h | h
    · rw [q] at h; cases h
    · cases i : insD d G with
      | none => rw [i] at h; cases h
      | some _ => simp [hj]
theorem told_ki {d : D} {G : Gm} {k : Ki} (h : kiD d = some k) : Told d G := .inl (by rw [h]; rfl)
/-- a comprehension over pure things -/
theorem lc_map {i : Nat} {te : TED} {Fin : List D → Gm → Prop} {δ : SD} {G : Gm} (f : D → D) : ∀ (ds acc : List D), (∀ d ∈ ds, ∀ Q : QD, Q (f d) G → te (δ.set i (some d)) G Q) → Fin (acc ++ ds.map f) G → lcD (gNameD i) dYes te Fin δ ds acc G
  | [], acc, _, q => by rw [List.map_nil, List.append_nil] at q; exact q
  | d :: ds, acc, h, q => h d List.mem_cons_self _ (lc_map f ds (acc ++ [f d]) (fun e he => h e (List.mem_cons_of_mem _ he)) (by rw [List.append_assoc]; exact q))
/-- for, by a word; each turn is told of any end -/
theorem for_inv {g : TGD} {tb : TSD} {E : EndsD} (I : Nat → SD → Gm → Prop) {n : Nat} : ∀ (ds : List D) (j : Nat) (δ : SD) (G : Gm), j + ds.length = n →
    (∀ j δ G d (N : SD → Gm → Prop), d ∈ ds → j < n → I j δ G → (∀ δ' G', I (j + 1) δ' G' → N δ' G') → g d δ G fun δ1 G1 => tb { nx := N, rt := E.rt, bk := E.nx, ct := N } δ1 G1) → I j δ G → (∀ δ G, I n δ G → E.nx δ G) → forD g tb E ds δ G
  | [], j, δ, G, hj, _, h, hF => by
    have e : j = n := by simpa using hj
    subst e
    exact hF δ G h
  | d :: ds, j, δ, G, hj, hs, h, hF =>
    hs j δ G d _ List.mem_cons_self (by rw [List.length_cons] at hj; omega) h fun δ' G' q => for_inv I ds (j + 1) δ' G' (by rw [List.length_cons] at hj; omega) (fun j δ G e N he => hs j δ G e N (List.mem_cons_of_mem _ he)) q hF
theorem small1000 {n : Nat} (h : n ≤ 1000) : n ≤ sizeLine := by
  rw [sizeLine_eq]
  omega
/-- the class facts that GoodC wants -/
theorem gc_kt {K : PySem.W.Frag} {C : Addr} (h1 : PySem.W.kitOne K (.ref C) (.type "int") = some false) (h2 : PySem.W.kitOne K (.ref C) (.type "str") = some false) (h3 : PySem.W.kitOne K (.ref C) (.type "bool") = some false) (h4 : PySem.W.kitOne K (.ref C) (.type "list") = some false)
    (h5 : PySem.W.kitOne K (.ref C) (.type "tuple") = some false) (h6 : PySem.W.kitOne K (.ref C) (.type "dict") = some false) (h7 : PySem.W.kitOne K (.ref C) (.type "set") = some false) (h8 : PySem.W.kitOne K (.ref C) (.type "bytes") = some false) (h9 : PySem.W.kitOne K (.ref C) (.type "float") = some false) :
    ∀ n ∈ tyNames, PySem.W.kitOne K (.ref C) (.type n) = some false := by
  intro n hn
  simp only [tyNames, List.mem_cons, List.not_mem_nil, or_false] at hn
  rcases hn with rfl | rfl | rfl | rfl | rfl | rfl | rfl | rfl | rfl <;> assumption
end JP
namespace JP
open PySem PySem.Spec PyProof.Rows L2
section
variable {X : Cx} {B : Bs} {K : PySem.W.Frag} {a b : Expr} {ta tb : TED} {pos : Pos} {W : WD} {k : Nat} {f C : Addr} {fd : FuncData} {ps : List Str} {sp : SpD}
theorem dt_eqOK (hK : X.K = K) (M : OwnM X.K C "__eq__" f) (Fn : FnD X.prog X.w X.K X.mg X.base k f fd ps sp) (hb : Binds X.K fd ps []) (hr : Room k X.A) (hx : Passes (L2.CX X.prog X.w) X (XW X.K B W)) (ha : DE X B a ta) (hb2 : DE X B b tb) : DT X B (.Compare a [.Eq] [b] pos) (dTest (dOp (eqOD K C sp W false) ta tb)) := hK ▸ dt_eqO M Fn hb hr hx ha hb2
theorem dt_neOK (hK : X.K = K) (M : OwnM X.K C "__eq__" f) (hne : PySem.W.findIn X.K (.ref C) "__ne__" = some (some (.builtin "object.__ne__"))) (hmr : PySem.W.mroIn X.K C (.type "object") = some true) (Fn : FnD X.prog X.w X.K X.mg X.base k f fd ps sp) (hb : Binds X.K fd ps []) (hr : Room (k + 1) X.A) (hx : Passes (L2.CX X.prog X.w) X (XW X.K B W)) (ha : DE X B a ta) (hb2 : DE X B b tb) :
    DT X B (.Compare a [.NotEq] [b] pos) (dTest (dOp (eqOD K C sp W true) ta tb)) := hK ▸ dt_neO M hne hmr Fn hb hr hx ha hb2
end
end JP
namespace JP
open PySem PySem.Spec PyProof.Rows L2
def flatD : D → Bool
  | .non => true
  | .bl _ => true
  | .int _ => true
  | .str _ => true
  | _ => false
theorem flatD_V {K : PySem.W.Frag} {F : Hp} {v : V} {d : D} (r : Rep K F v d) (h : flatD d = true) : flatV v = true := by
  cases d with
  | non => cases r; rfl
  | bl b => cases r; rfl
  | int b => cases r; rfl
  | str b => cases r; rfl
  | _ => cases h
/-- p, where all are flat -/
def andFlat : List D → Prop → Prop
  | [], p => p
  | .non :: r, p => andFlat r p
  | .bl _ :: r, p => andFlat r p
  | .int _ :: r, p => andFlat r p
  | .str _ :: r, p => andFlat r p
  | _, _ => False
theorem flat_cons {d : D} {ds : List D} (h : flatD d = true) (t : ∀ e ∈ ds, flatD e = true) : ∀ e ∈ d :: ds, flatD e = true := fun e he => by
  rcases List.mem_cons.mp he with rfl | he
  · exact h
  · exact t e he
theorem andFlat_and {p : Prop} : ∀ {ds : List D}, andFlat ds p → p ∧ ∀ d ∈ ds, flatD d = true
  | [], h => ⟨h, fun d hd => by cases hd⟩
  | .non :: r, h => have := andFlat_and (ds := r) h; ⟨this.1, flat_cons rfl this.2⟩
  | .bl _ :: r, h => have := andFlat_and (ds := r) h; ⟨this.1, flat_cons rfl this.2⟩
  | .int _ :: r, h => have := andFlat_and (ds := r) h; ⟨this.1, flat_cons rfl this.2⟩
  | .str _ :: r, h => have := andFlat_and (ds := r) h; ⟨this.1, flat_cons rfl this.2⟩
  | .ty _ :: _, h => h.elim
  | .adr _ :: _, h => h.elim
  | .tup _ :: _, h => h.elim
  | .lst _ :: _, h => h.elim
  | .scr _ :: _, h => h.elim
  | .ins _ _ :: _, h => h.elim
  | .exc _ _ :: _, h => h.elim
  | .dic _ :: _, h => h.elim
  | .dit _ :: _, h => h.elim
  | .dln _ _ :: _, h => h.elim
def dRaiseF (W : WD) (C : Addr) (fs : List Str) (t : TAD) : TSD := fun E δ G => t δ G fun ds G1 => ds.length = fs.length ∧ andFlat ds (W C (fs.zip ds).reverse G1)
section
variable {X : Cx} {B : Bs} {K : PySem.W.Frag} {e : Expr} {es : List Expr} {t : TAD} {pos p apos : Pos} {W : WD}
variable {k : Nat} {f C : Addr} {fI : Addr} {fd : FuncData} {ps : List Str} {x f1 f2 : Str}
theorem ds_raise1F (hc : X.calm = true) (tk : Takes X fun cls d _ H => XW X.K B W cls d H) (T : OexC X.K C) (iC : PySem.W.findIn X.K (.ref C) "__init__" = some (some (.ref fI))) (tI : PySem.W.typeIn X.K (.ref fI) = some (.type "function"))
    (F1 : FnOk X.prog X.w X.K X.mg X.base CX0 k fI fd ps (spE1F X.K C f1)) (hr : Room (k + 1) X.A) (hb : Binds X.K fd ps []) (hg : Gl X x) (hm : X.mg x = some (.ref C)) (ha : DA X B (e :: es) t)
    (hdb : (x == ("__debug__" : Str)) = false := by decide) (he : starEach (e :: es) X.env = (false, eval e X.env) :: starEach es X.env := by rfl) (hpl : (backTo pos (starEach es X.env)).any (·.1) = false := by rfl) :
    DSt X B (.Raise (some (.Call (.Name x p) (e :: es) [] pos)) none apos) (dRaiseF W C [f1] t) :=
  PS.weak (ps_raise hc tk (pmk_oex T iC tI F1 hr hb .nil pass0 hg hm ha hdb he hpl)) fun D σ H ⟨F, G, δ, E, S, h, L⟩ => ⟨F, G, δ, _, S, h, fun vs H1 ⟨F1, G1, ds, s1, S1, r1, hl, h1⟩ => by
    match ds, r1, hl, h1 with
    | [d], .cons r .nil, hl, h1 =>
      obtain ⟨h1, hf⟩ := andFlat_and h1
      have fl := flatD_V r (hf d List.mem_cons_self)
      exact mkE1F (fun dd n => xw_new S1 n (.cons r .nil) h1) fl⟩
theorem ds_raise2F (hc : X.calm = true) (tk : Takes X fun cls d _ H => XW X.K B W cls d H) (T : OexC X.K C) (iC : PySem.W.findIn X.K (.ref C) "__init__" = some (some (.ref fI))) (tI : PySem.W.typeIn X.K (.ref fI) = some (.type "function"))
    (F1 : FnOk X.prog X.w X.K X.mg X.base CX0 k fI fd ps (spE2F X.K C f1 f2)) (hr : Room (k + 1) X.A) (hb : Binds X.K fd ps []) (hg : Gl X x) (hm : X.mg x = some (.ref C)) (ha : DA X B (e :: es) t)
    (hdb : (x == ("__debug__" : Str)) = false := by decide) (he : starEach (e :: es) X.env = (false, eval e X.env) :: starEach es X.env := by rfl) (hpl : (backTo pos (starEach es X.env)).any (·.1) = false := by rfl) :
    DSt X B (.Raise (some (.Call (.Name x p) (e :: es) [] pos)) none apos) (dRaiseF W C [f1, f2] t) :=
  PS.weak (ps_raise hc tk (pmk_oex T iC tI F1 hr hb .nil pass0 hg hm ha hdb he hpl)) fun D σ H ⟨F, G, δ, E, S, h, L⟩ => ⟨F, G, δ, _, S, h, fun vs H1 ⟨F1, G1, ds, s1, S1, r1, hl, h1⟩ => by
    match ds, r1, hl, h1 with
    | [d, d2], .cons r (.cons r2 .nil), hl, h1 =>
      obtain ⟨h1, hf⟩ := andFlat_and h1
      have fl := flatD_V r (hf d List.mem_cons_self)
      have fl2 := flatD_V r2 (hf d2 (List.mem_cons_of_mem _ List.mem_cons_self))
      exact mkE2F (fun dd n => xw_new S1 n (.cons r2 (.cons r .nil)) h1) fl fl2⟩
end
end JP
namespace JP
open PySem PySem.Spec PyProof.Rows L2
section
variable {X : Cx} {B : Bs} {K : PySem.W.Frag} {e : Expr} {es : List Expr} {te : TED} {t : TAD} {pos p sp_ : Pos} {W : WD}
variable {σ : L2.St} {H F : Hp} {δ : SD} {G : Gm}
def dStar (te : TED) (t : TAD) : TAD := fun δ G Q => te δ G fun d G1 => match seqD d G1 with | some ds => t δ G1 fun es G2 => Q (ds ++ es) G2 | none => False
theorem da_star (he : DE X B e te) (hr : DA X B es t) (hs : starEach (.Starred e p :: es) X.env = (true, eval e X.env) :: starEach es X.env := by rfl) : DA X B (.Starred e p :: es) (dStar te t) :=
  PA.weak (StX.pa_star he hr hs) fun σ H Q ⟨F, G, δ, Qd, S, h, k⟩ => ⟨F, G, δ, _, S, h, fun v H1 ⟨F1, G1, d, s1, S1, r1, h1⟩ => by
    cases q : seqD d G1 with
    | none => simp only [q] at h1
    | some ds =>
      simp only [q] at h1
      obtain ⟨a, xs, rfl, hs, ra⟩ := seq_rep S1 r1 q
      exact ⟨a, xs, rfl, hs.symm, F1, G1, δ, _, S1, h1, fun ys H2 ⟨F2, G2, es, s2, S2, r2, h2⟩ => k _ _ ⟨F2, G2, _, s1.trans s2, S2, (ra.mono s2).append r2, h2⟩⟩⟩
/-- what a def with a star parameter is told: its first n, then the rest in a tuple -/
def starD (n : Nat) (sp : SpD) : SpD := fun ds G Q W => n ≤ ds.length ∧ ds.length ≤ 1000 ∧ sp (ds.take n ++ [.tup (ds.drop n)]) G Q W
abbrev RnD (P : Program) (w : World) (K : PySem.W.Frag) (mg : Str → Option Value) (base : Heap) (k : Nat) (f : Addr) (sp : SpD) : Prop := FnR P w K mg base (L2.CX P w) k f (lowSp K sp)
theorem dfnS {P : Program} {w : World} {mg : Str → Option Value} {base : Heap} {k : Nat} {f : Addr} {fd : FuncData} {x qual pv : Str} {st : Stmt} {ps N : List Str} {sp : SpD} (Fn : Fun K x qual st f fd) (S : FnScope N (ps ++ [pv]) (defScope st))
    (hb : ∀ (kV doc pm : Value) (an : Option Addr) (cdv ct : Value) (us rest : List Value), us.length = ps.length → bindArgs (PySem.W.fnOf x qual (defArgs st) (defBody st) (defScope st) .none kV doc pm an cdv ct) ⟨us ++ rest, []⟩ = (newTuple rest >>= fun t => pure (ps.zip us ++ [(pv, t)])))
    (body : ∀ (cdv : Value) (A : Around) (outer : List Env) (s : Shared) (H : Hp) (E : XK) (B : Bs) (W : WD), Room k (A.deeper (envOfC qual (defScope st) s.heap.objs.size f cdv)) →
      Takes (cxOf (L2.CX P w) P w K mg base N qual (defScope st) f cdv A outer s H E) (fun cls d _ H => XW K B W cls d H) →
      ∃ T, DB (cxOf (L2.CX P w) P w K mg base N qual (defScope st) f cdv A outer s H E) B (defBody st) T ∧ ∀ ds G Q, sp ds G Q W → T { nx := fun _ G => Q .non G, rt := Q } (startD N ds) G) :
    RnD P w K mg base (k + 1) f (starD ps.length sp) := by
  obtain ⟨oc, od, kV, doc, pm, an, cdv, ct, osl, rfl, lk, hcd⟩ := Fn.ex
  refine FnR.imp (StX.fn_star (sp := lowSp K sp) lk hcd S StX.cxUp (hb kV doc pm an cdv ct) fun A outer s H vs Q E hr ⟨B, G, ds, Qd, W, d, r, h, kq, ke⟩ => ?_) ?_
  · obtain ⟨T, hT, hq⟩ := body cdv A outer s H E B W hr ((takes_of rfl rfl rfl rfl).imp fun c d _ H q => ke c d H q)
    exact ⟨upS K B T, hT, B.F, G, startD N ds, _, ⟨d, .refl B.F, sl_start r⟩, hq ds G Qd h, ⟨fun σ H' ⟨F', G', δ', s', S', q⟩ => kq _ _ ⟨F', G', .non, s', S'.ds, S'.gr, .non, q⟩, fun v H' q => kq v H' q, fun _ _ ⟨_, _, _, _, _, q⟩ => q.elim, fun _ _ ⟨_, _, _, _, _, q⟩ => q.elim⟩⟩
  · rintro vs H Q E ⟨B, G, ds, Qd, W, d, r, ⟨h1, h2, h3⟩, kq, ke⟩
    have l := r.length
    refine ⟨vs.take ps.length, vs.drop ps.length, (List.take_append_drop _ _).symm, by rw [List.length_take]; omega, by rw [List.length_drop]; exact small1000 (by omega), fun p np => ?_⟩
    obtain ⟨d2, s2⟩ := d.new (o := .tup (vs.drop ps.length)) np
    refine ⟨⟨upd B.F p (.tup (vs.drop ps.length)), B.Z, B.T⟩, G, _, Qd, W, d2, ((r.take _).mono s2).append (.cons (.tup upd_same ((r.drop _).mono s2)) .nil), h3, fun v H' ⟨F', G', d', s', ds', gr', r', q'⟩ => kq v H' ⟨F', G', d', s2.trans s', ds', s2.trans gr', r', q'⟩, fun cls dd H' ⟨F', G', C', fs, e, s', ds', xr, w'⟩ => ke cls dd H' ⟨F', G', C', fs, e, s2.trans s', ds', xr, w'⟩⟩
variable {k : Nat} {f C : Addr} {sp : SpD} {x : Str}
theorem de_makeR (M : Mk X.K C f) (gc : GoodC X.K C) (Fn : RnD X.prog X.w X.K X.mg X.base k f sp) (hr : Room (k + 1) X.A) (hg : Gl X x) (hm : X.mg x = some (.ref C)) (hx : Passes (L2.CX X.prog X.w) X (XW X.K B W)) (ha : DA X B (e :: es) t)
    (hdb : (x == ("__debug__" : Str)) = false := by decide) (he : starEach (e :: es) X.env = (false, eval e X.env) :: starEach es X.env := by rfl) (hpl : (backTo pos (starEach es X.env)).any (·.1) = false := by rfl) : DE X B (.Call (.Name x p) (e :: es) [] pos) (dMake C sp W t) :=
  PE.weak (StX.pe_makeR M Fn hr hg hm hx ha hdb he hpl) fun σ H Q ⟨F, G, δ, Qd, S, h, kk⟩ => ⟨F, G, δ, _, S, h, fun vs H1 ⟨F1, G1, ds, s1, S1, r1, h1⟩ => low_make gc kk s1 S1 r1 h1⟩
theorem de_makeS1 (M : Mk X.K C f) (gc : GoodC X.K C) (Fn : RnD X.prog X.w X.K X.mg X.base k f sp) (hr : Room (k + 1) X.A) (hg : Gl X x) (hm : X.mg x = some (.ref C)) (hx : Passes (L2.CX X.prog X.w) X (XW X.K B W)) (he : DE X B e te)
    (hdb : (x == ("__debug__" : Str)) = false := by decide) (hst : starEach [.Starred e sp_] X.env = [(true, eval e X.env)] := by rfl) : DE X B (.Call (.Name x p) [.Starred e sp_] [] pos) (dMake C sp W (dStar te dNil)) :=
  PE.weak (pe_makeS1 M Fn hr hg hm hx he hdb hst) fun σ H Q ⟨F, G, δ, Qd, S, h, kk⟩ => ⟨F, G, δ, _, S, h, fun v H1 ⟨F1, G1, d, s1, S1, r1, h1⟩ => by
    cases q : seqD d G1 with
    | none => simp only [q] at h1
    | some ds =>
      simp only [q] at h1
      obtain ⟨a, xs, rfl, hs, ra⟩ := seq_rep S1 r1 q
      refine ⟨a, xs, rfl, hs.symm, ?_⟩
      have h2 : ∀ x, G1 x = none → _ := h1
      rw [List.append_nil] at h2
      show ∀ x dx, _ → _ → _ → lowSp X.K sp (.ref x :: (xs ++ [])) _ _ _
      rw [List.append_nil]
      exact low_make gc kk s1 S1 ra h2⟩
theorem de_makeR0 (M : Mk X.K C f) (gc : GoodC X.K C) (Fn : RnD X.prog X.w X.K X.mg X.base k f sp) (hr : Room (k + 1) X.A) (hg : Gl X x) (hm : X.mg x = some (.ref C)) (hx : Passes (L2.CX X.prog X.w) X (XW X.K B W)) (hdb : (x == ("__debug__" : Str)) = false := by decide) : DE X B (.Call (.Name x p) [] [] pos) (dMake C sp W dNil) :=
  PE.weak (pe_makeR0 M Fn hr hg hm hx hdb) fun σ H Q ⟨F, G, δ, Qd, S, h, kk⟩ => low_make gc kk (.refl F) S .nil h
end
section
variable {X : Cx} {B : Bs} {K : PySem.W.Frag} {k : Nat} {C g : Addr} {fd : FuncData} {ps : List Str} {sp : SpD} {W : WD} {op : Operator} {a b e : Expr} {ta tb te : TED} {pos : Pos}
variable {σ : L2.St} {H F : Hp} {δ : SD} {G : Gm}
/-- x op y, x of the class C -/
def ownD (K : PySem.W.Frag) (C : Addr) (nm : String) (sp : SpD) (W : WD) : R2D := fun a b G Q => match insD a G with
  | some (C1, _) => C1 = C ∧ (∃ t, TyD K b G t ∧ RtK K C nm t) ∧ sp [a, b] G (fun z G1 => isO z = true ∧ Q z G1) W
  | none => False
theorem own_A {x y : V} {a b : D} {nm : String} {Qd : QD} {Q : VK} (S : Sit K B σ H F δ G) (r1 : Rep K F x a) (r2 : Rep K F y b) (h : ownD K C nm sp W a b G Qd) (kk : ∀ v H', Beh K B σ F δ Qd v H' → Q v H') : rOwn K C nm (lowSp K sp) (XW K B W) x y H Q := by
  unfold ownD at h
  cases q : insD a G with
  | none => simp only [q] at h
  | some cf =>
    obtain ⟨C', fs⟩ := cf
    simp only [q] at h
    obtain ⟨rfl, ⟨t, ty, rk⟩, h⟩ := h
    obtain ⟨ad, dx, fv, rfl, e1, gc, na, rf⟩ := ins_rep S r1 q
    exact ⟨ad, dx, fv, t, rfl, e1, tyD_ty S r2 ty, rk, low_at S (.cons r1 (.cons r2 .nil)) h fun v H' ⟨F', G', d', s', S', r', o', q'⟩ => ⟨isO_ref r' o', kk _ _ ⟨F', G', d', s', S', r', q'⟩⟩⟩
theorem de_own (hK : X.K = K) {nm : String} (hop : op.info.2 = nm) (O : LeftOp K C nm g) (Fn : FnD X.prog X.w X.K X.mg X.base k g fd ps sp) (hb : Binds X.K fd ps []) (hr : Room k X.A) (hx : Passes (L2.CX X.prog X.w) X (XW X.K B W)) (ha : DE X B a ta) (hb2 : DE X B b tb) : DE X B (.BinOp a op b pos) (dOp (ownD K C nm sp W) ta tb) := by
  subst hK hop
  exact PE.weak (pe_op (op_own O Fn hb hr hx) ha hb2) fun σ H Q ⟨F, G, δ, Qd, S, h, k⟩ => up2 S h fun x y H2 F2 G2 d e s2 S2 r1 r2 h2 => own_A S2 r1 r2 h2 fun v H' ⟨F', G', d', s', S', r', q'⟩ => k v H' ⟨F', G', d', s2.trans s', S', r', q'⟩
end
end JP
namespace JP
open PySem PySem.Spec PyProof.Rows L2
abbrev EntL := List (List Key × D)
def hasL (es : EntL) (ks : List Key) : Bool := es.any fun p => decide (p.1 = ks)
def putL (es : EntL) (ks : List Key) (d : D) : EntL := if hasL es ks = true then es.map (fun p => if p.1 = ks then (p.1, d) else p) else es ++ [(ks, d)]
inductive RepL (K : PySem.W.Frag) (F : Hp) : List (List Key × V) → EntL → Prop
  | nil : RepL K F [] []
  | cons {k : List Key} {v : V} {vs : List (List Key × V)} {d : D} {ds : EntL} : Rep K F v d → RepL K F vs ds → RepL K F ((k, v) :: vs) ((k, d) :: ds)
section
variable {K : PySem.W.Frag} {F F' : Hp}
theorem RepL.mono (s : Same F F') : ∀ {vs : List (List Key × V)} {ds : EntL}, RepL K F vs ds → RepL K F' vs ds
  | _, _, .nil => .nil
  | _, _, .cons h r => .cons (h.mono s) (RepL.mono s r)
theorem RepL.len : ∀ {vs : List (List Key × V)} {ds : EntL}, RepL K F vs ds → vs.length = ds.length
  | _, _, .nil => rfl
  | _, _, .cons _ r => congrArg (· + 1) (RepL.len r)
theorem RepL.any {ks : List Key} : ∀ {vs : List (List Key × V)} {ds : EntL}, RepL K F vs ds → (vs.any fun kv => decide (kv.1 = ks)) = hasL ds ks
  | _, _, .nil => rfl
  | _, _, .cons _ r => by
    unfold hasL
    rw [List.any_cons, List.any_cons, RepL.any r]
    rfl
theorem RepL.map {ks : List Key} {z : V} {d : D} (rz : Rep K F z d) : ∀ {vs : List (List Key × V)} {ds : EntL}, RepL K F vs ds → RepL K F (vs.map fun kv => if kv.1 = ks then (kv.1, z) else kv) (ds.map fun p => if p.1 = ks then (p.1, d) else p)
  | _, _, .nil => .nil
  | _, _, .cons (k := k) h r => by
    rw [List.map_cons, List.map_cons]
    by_cases c : k = ks
    · subst c
      simp only [if_true]
      exact .cons rz (RepL.map rz r)
    · simp only [c, if_false]
      exact .cons h (RepL.map rz r)
theorem RepL.append : ∀ {vs us : List (List Key × V)} {ds es : EntL}, RepL K F vs ds → RepL K F us es → RepL K F (vs ++ us) (ds ++ es)
  | _, _, _, _, .nil, q => q
  | _, _, _, _, .cons h r, q => .cons h (RepL.append r q)
theorem RepL.put {ks : List Key} {z : V} {d : D} {vs : List (List Key × V)} {ds : EntL} (r : RepL K F vs ds) (rz : Rep K F z d) : RepL K F (putK vs ks z) (putL ds ks d) := by
  unfold putK putL
  rw [← r.any (ks := ks)]
  split
  · exact r.map rz
  · exact r.append (.cons rz .nil)
end
end JP
namespace JP
open PySem PySem.Spec PyProof.Rows L2
section
variable {X : Cx} {B : Bs} {K : PySem.W.Frag} {o e : Expr} {es : List Expr} {te to : TED} {t : TAD} {pos apos : Pos}
variable {σ : L2.St} {H F : Hp} {δ : SD} {G : Gm}
variable {x : Str} {p : Pos}
/-- list(..), to be changed -/
def lstMD : LD := fun ds G Q => match ds with | [d] => (match seqD d G with | some es => ∀ p, G p = none → Q (.adr p) (updG G p (.lst es)) | none => False) | _ => False
theorem lstM_A : CallA K (fun xs H Q => ∃ p ys, xs = [.ref p] ∧ (SqL K H p ys ∨ SqT K H p ys) ∧ ∀ l, H l = none → Q (.ref l) (upd H l (.lst ys))) lstMD := fun B σ δ H F G xs ds Qd Q S r h k => by
  unfold lstMD at h
  split at h
  · rename_i d
    obtain ⟨v, rfl, rv⟩ := repAll1 r
    cases e : seqD d G with
    | none => simp only [e] at h
    | some es =>
      simp only [e] at h
      obtain ⟨p, xs, rfl, hs, ra⟩ := seq_rep S rv e
      exact ⟨p, xs, rfl, hs, fun l nl => k _ _ (.open (m := .lst es) S (.refl F) nl ⟨xs, upd_same, ra⟩ (h l (S.ds.noG nl)))⟩
  · exact h.elim
def enumT (ds : List D) : List D := ds.mapIdx fun i d => .tup [.int (i : Nat), d]
theorem itD_enumT {a : Addr} {xs : List V} {ds : List D} (h : SqT K F a xs) (r : RepAll K F xs ds) : ItD K F (IteT K a) (enumT ds) := by
  have l := r.length
  have le : (enumT ds).length = ds.length := by simp [enumT]
  refine ⟨fun i H hi s => ?_, fun H s => ⟨xs, same_seqT s h, by rw [le, l]; exact Nat.le_refl _⟩, fun i H x H' hi s y B σ δ G F1 S s1 => ?_⟩
  · rw [le] at hi
    exact ⟨xs, xs[i]'(by omega), same_seqT s h, by simp [show i < xs.length by omega]⟩
  · obtain ⟨T, x0, rfl, nT, rfl, hx⟩ := y
    obtain ⟨d, hd, rd⟩ := r.get' (hx xs (same_seqT s h))
    obtain ⟨d2, s2⟩ := S.ds.new (o := .tup [.int (i : Nat), x0]) nT
    exact ⟨_, .tup [.int (i : Nat), d], s2, ⟨d2, S.gr.trans s2, S.sl.mono s2⟩, by simp [enumT, List.getElem?_mapIdx, hd], .tup upd_same (.cons (.int _) (.cons ((rd.mono s1).mono s2) .nil))⟩
def iEnumD (ta : TAD) : TID := fun δ G R => ta δ G fun ds G1 => match ds with | [.tup es] => R (enumT es) G1 | _ => False
theorem di_enumT {ta : TAD} {tpos : Pos} {elts : List Expr} {kk : Nat} (hg : Gl X "enumerate") (hm : X.mg "enumerate" = none) (ha : DA X B [e] ta) (hs : starEach [e] X.env = [(false, eval e X.env)] := by rfl) : DI X B (.Tuple elts kk tpos) (.Call (.Name "enumerate" p) [e] [] pos) (iEnumD ta) :=
  PI.weak (pi_enumT hg hm ha hs) fun σ H R ⟨F, G, δ, Qd, S, h, k⟩ => ⟨F, G, δ, _, S, h, fun vs H1 ⟨F1, G1, ds, s1, S1, r1, h1⟩ => by
    match ds, r1, h1 with
    | [.tup es], .cons r .nil, h1 =>
      cases r with
      | tup hq ra => exact ⟨_, _, rfl, .of (S1.ds.sub _ _ hq), k _ _ ⟨F1, G1, _, s1, S1, itD_enumT (.of hq) ra, h1⟩⟩⟩
end
theorem lc_at {g : TGD} {tt : TTD} {te : TED} {Fin : List D → Gm → Prop} {δ : SD} (I : Nat → List D → Gm → Prop) (ds : List D) (hs : ∀ j acc G d (N : List D → Gm → Prop), ds[j]? = some d → I j acc G → (∀ acc' G', I (j + 1) acc' G' → N acc' G') →
      g d δ G fun δ1 G1 => tt δ1 G1 fun b G2 => match b with | true => te δ1 G2 fun y G3 => N (acc ++ [y]) G3 | false => N acc G2)
    (hF : ∀ acc G, I ds.length acc G → Fin acc G) : ∀ (es acc : List D) (j : Nat) (G : Gm), j ≤ ds.length → ds.drop j = es → I j acc G → lcD g tt te Fin δ es acc G
  | [], acc, j, G, hj, e, h => by
    have : j = ds.length := by have := List.drop_eq_nil_iff.mp e; omega
    subst this
    exact hF acc G h
  | d :: es, acc, j, G, hj, e, h => by
    have hj' : j < ds.length := by
      rcases Nat.lt_or_ge j ds.length with q | q
      · exact q
      · rw [List.drop_eq_nil_iff.mpr q] at e
        cases e
    rw [List.drop_eq_getElem_cons hj'] at e
    injection e with e1 e2
    exact hs j acc G d (fun a G => lcD g tt te Fin δ es a G) (by rw [List.getElem?_eq_getElem hj', e1]) h fun acc' G' h' => lc_at I ds hs hF es acc' (j + 1) G' hj' e2 h'
end JP
namespace JP
open PySem PySem.Spec PyProof.Rows L2
section
variable {X : Cx} {B : Bs} {CX : CXT} {k : Nat} {f C : Addr} {fd : FuncData} {ps ks : List Str} {o : Expr} {m : Str} {apos pos : Pos} {kws : List Keyword} {g : List Value → List Value → List Value} {gV : List V → List V → List V} {gD : List D → List D → List D}
def tMethKw (C : Addr) (m : Str) (n : Nat) (sp : Sp) (gV : List V → List V → List V) (E : XK) (ta : TE) (tk : TA) : TE := fun σ H Q => ta σ H fun x H1 => ∃ a dx fs, x = V.ref a ∧ H1 a = some (.ins C dx fs) ∧ fs.lookup m = none ∧ tk σ H1 fun zs H2 => zs.length = n ∧ sp (gV [.ref a] zs) H2 Q E
theorem pe_methKw {pl : Sem Bool} {sp : Sp} {E : XK} {ta : TE} {tk : TA} (he : PE X o ta) (c : Cls X.K C) (hm : Meth X.K C m f) (F : FnOk X.prog X.w X.K X.mg X.base CX k f fd ps sp) (hr : Room k X.A) (hb : KBn X.K fd ps 1 ks g gV) (hx : Passes CX X E) (hkw : PK X kws tk)
    (hall : (backToKw pos (keywordEach kws X.env)).all (·.1.isSome) = true := by rfl) (hks : (backToKw pos (keywordEach kws X.env)).filterMap (·.1) = ks := by rfl)
    (hpl : ((backTo pos (starEach [] X.env)).any (·.1) || (backToKw pos (keywordEach kws X.env)).any (·.1.isNone)) = false := by rfl)
    (ht : eval (.Call (.Attribute o m apos) [] kws pos) X.env = (do
      let ov ← eval o X.env
      standAt apos.atName
      let (f, first) ← holding [ov] (getMethod ov m pl)
      callWith pos f first (backTo pos (starEach [] X.env)) (backToKw pos (keywordEach kws X.env))) := by rfl) :
    PE X (.Call (.Attribute o m apos) [] kws pos) (tMethKw C m ks.length sp gV E ta tk) := by
  refine ⟨fun pins s σ H Q I h => ?_⟩
  refine PySem.W.methodCall_KW (pl := pl) (thn (he.run pins s σ H _ I h) fun u s1 ⟨x, H1, I1, rx, a, dx, fs, ex, ea, l, q⟩ => ?_) ht
  subst ex
  obtain rfl : u = Value.ref a := rx
  refine getmeth_ok I1 ea c hm l ?_
  refine PySem.W.callWith_KW0 (first := [.ref a]) (h₀ := X.base) I.ok.mod.kin hm.kp hall (thn (hkw.run pos pins s1 σ H1 _ I1 q) fun ws s2 ⟨zs, H2, I2, rz, lz, q2⟩ => ⟨I2.kIn, ?_⟩) hpl
  rw [hks]
  have r1 : Vals [V.ref a] [Value.ref a] := .cons rfl .nil
  refine wpAny_call (codeAny_mono (F.run X.A X.stack s2 H2 ⟨[.ref a] ++ [], ks.zip ws⟩ (g [.ref a] ws) (gV [.ref a] zs) Q E hr I2.env0 (hb.to s2 [.ref a] ws I2.kIn rfl (rz.length.symm.trans lz)) (hb.rel r1 rz) q2) fun r s' hq => ?_)
  match r, hq with
  | .error e, hq => exact hx pins σ H2 s2 e s' I2 hq
  | .ok (.ret u), hq => exact I2.after hq
  | .ok .next, hq => exact hq.elim
  | .ok .brk, hq => exact hq.elim
  | .ok .cont, hq => exact hq.elim
def dMethKw (C : Addr) (m : Str) (n : Nat) (sp : SpD) (gD : List D → List D → List D) (W : WD) (to : TED) (tk : TAD) : TED := fun δ G Q => to δ G fun d G1 => match insD d G1 with | some (C', fs) => C' = C ∧ fs.lookup m = none ∧ tk δ G1 fun ds G2 => ds.length = n ∧ sp (gD [d] ds) G2 Q W | none => False
theorem de_methKw {pl : Sem Bool} {sp : SpD} {W : WD} {to : TED} {tk : TAD} (he : DE X B o to) (c : Cls X.K C) (hm : Meth X.K C m f) (Fn : FnD X.prog X.w X.K X.mg X.base k f fd ps sp) (hr : Room k X.A) (hb : KBn X.K fd ps 1 ks g gV) (hx : Passes (L2.CX X.prog X.w) X (XW X.K B W)) (hp : PermOk gV gD) (hkw : DK X B kws tk)
    (hall : (backToKw pos (keywordEach kws X.env)).all (·.1.isSome) = true := by rfl) (hks : (backToKw pos (keywordEach kws X.env)).filterMap (·.1) = ks := by rfl)
    (hpl : ((backTo pos (starEach [] X.env)).any (·.1) || (backToKw pos (keywordEach kws X.env)).any (·.1.isNone)) = false := by rfl)
    (ht : eval (.Call (.Attribute o m apos) [] kws pos) X.env = (do
      let ov ← eval o X.env
      standAt apos.atName
      let (f, first) ← holding [ov] (getMethod ov m pl)
      callWith pos f first (backTo pos (starEach [] X.env)) (backToKw pos (keywordEach kws X.env))) := by rfl) :
    DE X B (.Call (.Attribute o m apos) [] kws pos) (dMethKw C m ks.length sp gD W to tk) :=
  PE.weak (pe_methKw he c hm Fn hr hb hx hkw hall hks hpl ht) fun σ H Q ⟨F, G, δ, Qd, S, h, kk⟩ => ⟨F, G, δ, _, S, h, fun v H1 ⟨F1, G1, d, s1, S1, r1, h1⟩ => by
    cases q : insD d G1 with
    | none =>
      simp only [q] at h1
    | some cf =>
      obtain ⟨C', fs⟩ := cf
      simp only [q] at h1
      obtain ⟨rfl, hl, h1⟩ := h1
      obtain ⟨a, dx, fv, rfl, e, gc, na, rf⟩ := ins_rep S1 r1 q
      exact ⟨a, dx, fv, rfl, e, rf.lookN hl, F1, G1, δ, _, S1, h1, fun zs H2 ⟨F2, G2, ds, s2, S2, r2, hl2, h2⟩ => ⟨r2.length.trans hl2, low_of kk (s1.trans s2) S2 (hp _ _ _ _ _ _ (.cons (r1.mono s2) .nil) r2) h2⟩⟩⟩
end
end JP
namespace JP
open PySem PySem.Spec PyProof.Rows L2
mutual
def toP : D → PyData
  | .bl b => .bool b
  | .int i => .int i
  | .str x => .str x
  | .tup ds => .tuple (toPs ds)
  | .lst ds => .list (toPs ds)
  | .non | .ty _ | .adr _ | .scr _ | .ins _ _ | .exc _ _ | .dic _ | .dit _ | .dln _ _ => .none
def toPs : List D → List PyData
  | [] => []
  | d :: ds => toP d :: toPs ds
end
mutual
def isP : D → Bool
  | .non | .bl _ | .int _ | .str _ => true
  | .tup ds => isPs ds
  | .lst ds => isPs ds
  | .ty _ | .adr _ | .scr _ | .ins _ _ | .exc _ _ | .dic _ | .dit _ | .dln _ _ => false
def isPs : List D → Bool
  | [] => true
  | d :: ds => isP d && isPs ds
end
mutual
theorem dp_toP : ∀ {d : D}, isP d = true → DP d (toP d)
  | .non, _ => by simp only [toP]; exact .non
  | .bl b, _ => by simp only [toP]; exact .bl b
  | .int i, _ => by simp only [toP]; exact .int i
  | .str x, _ => by simp only [toP]; exact .str x
  | .tup ds, h => by simp only [toP]; exact .tup (dps_toP (by simpa only [isP] using h))
  | .lst ds, h => by simp only [toP]; exact .lst (dps_toP (by simpa only [isP] using h))
  | .ty _, h | .adr _, h | .scr _, h | .ins _ _, h | .exc _ _, h | .dic _, h | .dit _, h | .dln _ _, h => by simp only [isP] at h; cases h
theorem dps_toP : ∀ {ds : List D}, isPs ds = true → DPs ds (toPs ds)
  | [], _ => by simp only [toPs]; exact .nil
  | d :: ds, h => by
    simp only [isPs, Bool.and_eq_true] at h
    simp only [toPs]
    exact .cons (dp_toP h.1) (dps_toP h.2)
end
/-- plain, of such a depth -/
structure Pl (k : Nat) (d : D) : Prop where
  p : isP d = true
  l : (toP d).canLay0 = true
  h : (toP d).depth ≤ k
theorem Pl.mono {k m : Nat} {d : D} (h : Pl k d) (hk : k ≤ m) : Pl m d := ⟨h.p, h.l, Nat.le_trans h.h hk⟩
theorem pl_non {k : Nat} : Pl k .non := ⟨by simp only [isP], by simp only [toP, PyData.canLay0], by simp only [toP, PyData.depth]; exact Nat.zero_le _⟩
theorem pl_bl {k : Nat} {b : Bool} : Pl k (.bl b) := ⟨by simp only [isP], by simp only [toP, PyData.canLay0], by simp only [toP, PyData.depth]; exact Nat.zero_le _⟩
theorem pl_int {k : Nat} {i : Int} : Pl k (.int i) := ⟨by simp only [isP], by simp only [toP, PyData.canLay0], by simp only [toP, PyData.depth]; exact Nat.zero_le _⟩
theorem pls {k : Nat} : ∀ {ds : List D}, (∀ d ∈ ds, Pl k d) → isPs ds = true ∧ PyData.canLayAll0 (toPs ds) = true ∧ PyData.depthAll (toPs ds) ≤ k
  | [], _ => by simp only [isPs, toPs, PyData.canLayAll0, PyData.depthAll]; exact ⟨trivial, trivial, Nat.zero_le _⟩
  | d :: ds, h => by
    obtain ⟨a, b, c⟩ := pls (ds := ds) fun e he => h e (List.mem_cons_of_mem _ he)
    obtain ⟨x, y, z⟩ := h d List.mem_cons_self
    simp only [isPs, toPs, PyData.canLayAll0, PyData.depthAll, Bool.and_eq_true]
    exact ⟨⟨x, a⟩, ⟨y, b⟩, Nat.max_le.mpr ⟨z, c⟩⟩
theorem pl_tup {k : Nat} {ds : List D} (h : ∀ d ∈ ds, Pl k d) : Pl (k + 1) (.tup ds) := by
  obtain ⟨a, b, c⟩ := pls h
  exact ⟨by simp only [isP]; exact a, by simp only [toP, PyData.canLay0]; exact b, by simp only [toP, PyData.depth]; omega⟩
theorem pl_lst {k : Nat} {ds : List D} (h : ∀ d ∈ ds, Pl k d) : Pl (k + 1) (.lst ds) := by
  obtain ⟨a, b, c⟩ := pls h
  exact ⟨by simp only [isP]; exact a, by simp only [toP, PyData.canLay0]; exact b, by simp only [toP, PyData.depth]; omega⟩
theorem pl_map {α : Type} {k : Nat} {f : α → D} {xs : List α} (h : ∀ x ∈ xs, Pl k (f x)) : ∀ d ∈ xs.map f, Pl k d := fun d hd => by
  obtain ⟨x, mx, rfl⟩ := List.mem_map.mp hd
  exact h x mx
theorem pl_nil {k : Nat} : ∀ d ∈ ([] : List D), Pl k d := fun d h => by cases h
theorem pl_cons {k : Nat} {d : D} {ds : List D} (h : Pl k d) (t : ∀ e ∈ ds, Pl k e) : ∀ e ∈ d :: ds, Pl k e := fun e he => by
  rcases List.mem_cons.mp he with rfl | he
  · exact h
  · exact t e he
theorem Pl.sh {d : D} (h : Pl 60 d) : SeqAt.shaped (toP d) = true := by
  unfold SeqAt.shaped
  rw [h.l, Bool.true_and]
  have := h.h
  exact decide_eq_true (by omega)
/-- == of plain things -/
def eqvD (a b : D) : Bool := PyData.eqv (toP a) (toP b)
def eqvL (a b : List D) : Bool := PyData.eqvAll (toPs a) (toPs b)
theorem eq_pl {a b : D} {G : Gm} {Q : QD} (ha : Pl 60 a) (hb : Pl 60 b) (q : Q (.bl (eqvD a b)) G) : eqD2 a b G Q := ⟨toP a, toP b, dp_toP ha.p, dp_toP hb.p, ha.sh, hb.sh, q⟩
theorem ne_pl {a b : D} {G : Gm} {Q : QD} (ha : Pl 60 a) (hb : Pl 60 b) (q : Q (.bl (!eqvD a b)) G) : neD2 a b G Q := ⟨toP a, toP b, dp_toP ha.p, dp_toP hb.p, ha.sh, hb.sh, q⟩
theorem eqvD_lst {xs ys : List D} : eqvD (.lst xs) (.lst ys) = eqvL xs ys := by simp only [eqvD, eqvL, toP, PyData.eqv]
theorem eqvD_tup {xs ys : List D} : eqvD (.tup xs) (.tup ys) = eqvL xs ys := by simp only [eqvD, eqvL, toP, PyData.eqv]
theorem eqvD_int {i j : Int} : eqvD (.int i) (.int j) = decide (i = j) := by simp only [eqvD, toP, PyData.eqv]; rfl
theorem eqvL_nil : eqvL [] [] = true := by simp only [eqvL, toPs, PyData.eqvAll]
theorem eqvL_cons {x y : D} {xs ys : List D} : eqvL (x :: xs) (y :: ys) = (eqvD x y && eqvL xs ys) := by simp only [eqvL, eqvD, toPs, PyData.eqvAll]
theorem eqvL_nc {y : D} {ys : List D} : eqvL [] (y :: ys) = false := by simp only [eqvL, toPs, PyData.eqvAll]
theorem eqvL_cn {y : D} {ys : List D} : eqvL (y :: ys) [] = false := by simp only [eqvL, toPs, PyData.eqvAll]
theorem eqvL_0 : ∀ {xs : List D}, eqvL xs [] = decide (xs = [])
  | [] => by rw [eqvL_nil]; rfl
  | x :: xs => by rw [eqvL_cn]; exact (decide_eq_false (by simp)).symm
theorem eqvD_l0 {xs : List D} : eqvD (.lst xs) (.lst []) = decide (xs = []) := by rw [eqvD_lst, eqvL_0]
theorem eqvL_map {α : Type} [DecidableEq α] {f : α → D} (h : ∀ x y, eqvD (f x) (f y) = decide (x = y)) : ∀ {xs ys : List α}, eqvL (xs.map f) (ys.map f) = decide (xs = ys)
  | [], [] => by rw [List.map_nil, eqvL_nil]; rfl
  | [], y :: ys => by rw [List.map_cons, List.map_nil, eqvL_nc]; exact (decide_eq_false (by simp)).symm
  | x :: xs, [] => by rw [List.map_cons, List.map_nil, eqvL_cn]; exact (decide_eq_false (by simp)).symm
  | x :: xs, y :: ys => by
    rw [List.map_cons, List.map_cons, eqvL_cons, h, eqvL_map h]
    by_cases c : x = y
    · subst c
      simp
    · simp [c]
mutual
theorem eqv_refl : ∀ p : PyData, p.canLay0 = true → PyData.eqv p p = true
  | .none, _ => by simp only [PyData.eqv]
  | .bool b, _ => by simp [PyData.eqv]
  | .int i, _ => by simp [PyData.eqv]
  | .str x, _ => by simp [PyData.eqv]
  | .list ps, h => by simp only [PyData.eqv]; exact eqvAll_refl ps (by simpa only [PyData.canLay0] using h)
  | .tuple ps, h => by simp only [PyData.eqv]; exact eqvAll_refl ps (by simpa only [PyData.canLay0] using h)
  | .dict _, h => by simp only [PyData.canLay0] at h; cases h
theorem eqvAll_refl : ∀ ps : List PyData, PyData.canLayAll0 ps = true → PyData.eqvAll ps ps = true
  | [], _ => by simp only [PyData.eqvAll]
  | p :: ps, h => by
    simp only [PyData.canLayAll0, Bool.and_eq_true] at h
    simp only [PyData.eqvAll, eqv_refl p h.1, eqvAll_refl ps h.2, Bool.and_self]
end
theorem eqvD_self {k : Nat} {d : D} (h : Pl k d) : eqvD d d = true := eqv_refl _ h.l
inductive EqI (a b : D) (G : Gm) (Q : QD) : Prop
  | mk (ha : Pl 60 a) (hb : Pl 60 b) (q : Q (.bl (eqvD a b)) G) : EqI a b G Q
inductive NeI (a b : D) (G : Gm) (Q : QD) : Prop
  | mk (ha : Pl 60 a) (hb : Pl 60 b) (q : Q (.bl (!eqvD a b)) G) : NeI a b G Q
section
variable {K : PySem.W.Frag}
theorem eqI_A : OpA K (rEqD K) EqI := fun B σ δ H F G x y a b Qd Q S r1 r2 ⟨ha, hb, q⟩ k => eq_A B σ δ H F G x y a b Qd Q S r1 r2 (eq_pl ha hb q) k
theorem neI_A : OpA K (rNeD K) NeI := fun B σ δ H F G x y a b Qd Q S r1 r2 ⟨ha, hb, q⟩ k => ne_A B σ δ H F G x y a b Qd Q S r1 r2 (ne_pl ha hb q) k
end
theorem eqI_self {d : D} {G : Gm} {Q : QD} (h : Pl 60 d) (q : Q (.bl true) G) : EqI d d G Q := ⟨h, h, by rw [eqvD_self h]; exact q⟩
theorem neI_self {d : D} {G : Gm} {Q : QD} (h : Pl 60 d) (q : Q (.bl false) G) : NeI d d G Q := ⟨h, h, by rw [eqvD_self h]; exact q⟩
theorem neI_l0 {xs : List D} {G : Gm} {Q : QD} (h : ∀ d ∈ xs, Pl 58 d) (q : Q (.bl (!decide (xs = []))) G) : NeI (.lst xs) (.lst []) G Q := ⟨(pl_lst h).mono (by decide), (pl_lst (k := 0) pl_nil).mono (by decide), by rw [eqvD_l0]; exact q⟩
theorem lsM_at {G : Gm} {a : Addr} {l : List D} (h : G a = some (.lst l)) : lsM (.adr a) G = some (a, l) := by
  show (match G a with | some (.lst ds) => some (a, ds) | _ => none) = _
  rw [h]
theorem updG_comm {G : Gm} {a b : Addr} {x y : MO} (h : a ≠ b) : updG (updG G a x) b y = updG (updG G b y) a x := by
  funext c
  unfold updG
  by_cases h1 : c = a
  · by_cases h2 : c = b
    · exact absurd (h1.symm.trans h2) h
    · simp [h1, h2, h]
  · by_cases h2 : c = b
    · subst h2
      simp [h1]
    · simp [h1, h2]
theorem range_at {n j : Nat} {d : D} (h : (rangeD 0 n)[j]? = some d) : j < n ∧ d = .int (j : Int) := by
  unfold rangeD at h
  rw [List.getElem?_map] at h
  cases e : (List.range n)[j]? with
  | none => rw [e] at h; cases h
  | some i =>
    rw [e] at h
    obtain ⟨hi, rfl⟩ := List.getElem?_eq_some_iff.mp e
    rw [List.length_range] at hi
    refine ⟨hi, ?_⟩
    rw [List.getElem_range] at h
    have := (Option.some.inj h).symm
    rw [this]
    show D.int (0 + (j : Int)) = _
    rw [Int.zero_add]
theorem range_len (n : Nat) : (rangeD 0 n).length = n := by simp [rangeD]
theorem rep_one (n : Nat) (d : D) : (List.replicate n [d]).flatten = List.replicate n d := by simp
/-- a comprehension over things told by α: which are taken, what is made of them; nothing is changed -/
theorem lc_fm {α : Type} {g : TGD} {tt : TTD} {te : TED} {Fin : List D → Gm → Prop} {δ : SD} {G : Gm} (e : α → D) (p : α → Bool) (f : α → D) : ∀ (xs : List α) (acc : List D),
    (∀ x ∈ xs, ∀ (acc : List D) (N : List D → Gm → Prop), (p x = true → N (acc ++ [f x]) G) → (p x = false → N acc G) →
      g (e x) δ G fun δ1 G1 => tt δ1 G1 fun b G2 => match b with | true => te δ1 G2 fun y G3 => N (acc ++ [y]) G3 | false => N acc G2) →
    Fin (acc ++ (xs.filter p).map f) G → lcD g tt te Fin δ (xs.map e) acc G
  | [], acc, _, h => by
    rw [List.filter_nil, List.map_nil, List.append_nil] at h
    exact h
  | x :: xs, acc, hs, h => by
    refine hs x List.mem_cons_self acc (fun a G' => lcD g tt te Fin δ (xs.map e) a G') (fun hp => ?_) fun hp => ?_
    · refine lc_fm e p f xs _ (fun y hy => hs y (List.mem_cons_of_mem _ hy)) ?_
      rw [List.filter_cons, if_pos hp, List.map_cons] at h
      rw [List.append_assoc]
      exact h
    · refine lc_fm e p f xs _ (fun y hy => hs y (List.mem_cons_of_mem _ hy)) ?_
      rw [List.filter_cons, if_neg (by rw [hp]; decide)] at h
      exact h
/-- the same, all being taken -/
theorem lc_f0 {α : Type} {g : TGD} {te : TED} {Fin : List D → Gm → Prop} {δ : SD} {G : Gm} (e : α → D) (f : α → D) : ∀ (xs : List α) (acc : List D),
    (∀ x ∈ xs, ∀ (N : D → Gm → Prop), N (f x) G → g (e x) δ G fun δ1 G1 => te δ1 G1 N) →
    Fin (acc ++ xs.map f) G → lcD g dYes te Fin δ (xs.map e) acc G
  | [], acc, _, h => by
    rw [List.map_nil, List.append_nil] at h
    exact h
  | x :: xs, acc, hs, h => by
    refine hs x List.mem_cons_self (fun y G' => lcD g dYes te Fin δ (xs.map e) (acc ++ [y]) G') ?_
    refine lc_f0 e f xs _ (fun y hy => hs y (List.mem_cons_of_mem _ hy)) ?_
    rw [List.map_cons] at h
    rw [List.append_assoc]
    exact h
/-- a comprehension of which each turn draws -/
theorem lc_draws {α : Type} {g : TGD} {te : TED} {Fin : List D → Gm → Prop} {δ : SD} {G : Gm} (e : α → D) (Pr : α → Prop) (p : Addr) (m c : Nat) (ds : List D)
    (hs : ∀ j d, ds[j]? = some d → ∀ m', m' ≤ m + c * j → ∀ N : D → Gm → Prop, (∀ x, Pr x → ∀ m2, m2 ≤ m' + c → N (e x) (updG G p (.pen m2))) → g d δ (updG G p (.pen m')) fun δ1 G1 => te δ1 G1 N)
    (hF : ∀ xs : List α, xs.length = ds.length → (∀ x ∈ xs, Pr x) → ∀ m', m' ≤ m + c * ds.length → Fin (xs.map e) (updG G p (.pen m'))) : lcD g dYes te Fin δ ds [] (updG G p (.pen m)) := by
  refine lc_at (fun j acc G' => ∃ (xs : List α) (m' : Nat), acc = xs.map e ∧ xs.length = j ∧ (∀ x ∈ xs, Pr x) ∧ m' ≤ m + c * j ∧ G' = updG G p (.pen m')) ds (fun j acc G' d N hd hI hN => ?_) (fun acc G' hI => ?_) _ [] 0 _ (Nat.zero_le _) rfl ⟨[], m, rfl, rfl, (fun x hx => by cases hx), by omega, rfl⟩
  · obtain ⟨xs, m', rfl, hl, hp, hm, rfl⟩ := hI
    refine hs j d hd m' hm (fun y G3 => N (xs.map e ++ [y]) G3) fun x hx m2 hm2 => ?_
    refine hN _ _ ⟨xs ++ [x], m2, by rw [List.map_append]; rfl, by rw [List.length_append, hl]; rfl, fun z hz => ?_, by rw [Nat.mul_succ]; omega, rfl⟩
    rcases List.mem_append.mp hz with hz | hz
    · exact hp z hz
    · rw [List.mem_singleton.mp hz]
      exact hx
  · obtain ⟨xs, m', rfl, hl, hp, hm, rfl⟩ := hI
    exact hF xs hl hp m' hm
end JP
namespace JP
open PySem PySem.Spec PyProof.Rows L2
def lD : PySem.Leaf → D
  | .none => .non
  | .num i => .int i
  | .text x => .str x
def lfD : D → Option PySem.Leaf
  | .non => some .none
  | .int i => some (.num i)
  | .str x => some (.text x)
  | _ => none
def lfsD : List D → Option Row
  | [] => some []
  | d :: ds => match lfD d, lfsD ds with | some k, some ks => some (k :: ks) | _, _ => none
def rowD? : D → Option Row
  | .tup ds => lfsD ds
  | _ => none
def rowT (k : Row) : D := .tup (k.map lD)
theorem lfsD_map : ∀ k : Row, lfsD (k.map lD) = some k
  | [] => rfl
  | k :: ks => by
    rw [List.map_cons]
    show (match lfD (lD k), lfsD (ks.map lD) with | some k, some ks => some (k :: ks) | _, _ => none) = _
    rw [lfsD_map ks]
    cases k <;> rfl
theorem rowD_T (k : Row) : rowD? (rowT k) = some k := lfsD_map k
abbrev KvN := List (Row × D)
def getR (kvs : KvN) (k : Row) : Option D := (kvs.find? fun p => decide (p.1 = k)).map (·.2)
def putR (kvs : KvN) (k : Row) (d : D) : KvN := if (getR kvs k).isSome = true then kvs.map (fun p => if p.1 = k then (p.1, d) else p) else kvs ++ [(k, d)]
section
variable {K : PySem.W.Frag} {F : Hp}
theorem lf_rep {v : V} {d : D} {k : PySem.Leaf} (r : Rep K F v d) (h : lfD d = some k) : v = lV k := by
  cases d <;> first | (cases h; done) | skip
  all_goals
    cases h
    cases r
    rfl
theorem lfs_rep : ∀ {vs : List V} {ds : List D} {k : Row}, RepAll K F vs ds → lfsD ds = some k → vs = k.map lV
  | _, _, _, .nil, h => by cases h; rfl
  | _, _, _, .cons (d := d) (ds := ds) r rs, h => by
    have h' : (match lfD d, lfsD ds with | some k, some ks => some (k :: ks) | _, _ => none) = some _ := h
    cases e1 : lfD d with
    | none => rw [e1] at h'; cases h'
    | some k1 =>
      cases e2 : lfsD ds with
      | none => rw [e1, e2] at h'; cases h'
      | some ks =>
        rw [e1, e2] at h'
        cases h'
        rw [List.map_cons, lf_rep r e1, lfs_rep rs e2]
theorem row_rep {v : V} {d : D} {k : Row} (r : Rep K F v d) (h : rowD? d = some k) : ∃ b, v = .ref b ∧ F b = some (.tup (k.map lV)) := by
  cases d <;> first | (cases h; done) | skip
  cases r with
  | tup e ra =>
    refine ⟨_, rfl, ?_⟩
    rw [← lfs_rep ra h]
    exact e
theorem leaf_rep : ∀ k : PySem.Leaf, Rep K F (lV k) (lD k)
  | .none => .non
  | .num i => .int i
  | .text x => .str x
theorem leafs_rep : ∀ k : Row, RepAll K F (k.map lV) (k.map lD)
  | [] => .nil
  | k :: ks => .cons (leaf_rep k) (leafs_rep ks)
theorem rowT_rep {b : Addr} {k : Row} (h : F b = some (.tup (k.map lV))) : Rep K F (.ref b) (rowT k) := .tup h (leafs_rep k)
theorem RepN.len : ∀ {es : EntN} {ds : KvN}, RepN K F es ds → es.length = ds.length
  | _, _, .nil => rfl
  | _, _, .cons _ r => congrArg (· + 1) (RepN.len r)
theorem RepN.has {k : Row} : ∀ {es : EntN} {ds : KvN}, RepN K F es ds → (valN es k).isSome = (getR ds k).isSome
  | _, _, .nil => rfl
  | _, _, .cons (k := k') (vs := vs) (ds := ds) _ r => by
    have ih := RepN.has (k := k) r
    by_cases e : k' = k
    · simp [valN, getR, List.find?_cons, e]
    · simpa [valN, getR, List.find?_cons, e] using ih
theorem RepN.get {k : Row} {d : D} : ∀ {es : EntN} {ds : KvN}, RepN K F es ds → getR ds k = some d → ∃ v, valN es k = some v ∧ Rep K F v d
  | _, _, .nil, h => by cases h
  | _, _, .cons (k := k') (v := v) (d := d') rv r, h => by
    by_cases e : k' = k
    · have h' : some d' = some d := by simpa [getR, List.find?_cons, e] using h
      cases h'
      exact ⟨v, by simp [valN, List.find?_cons, e], rv⟩
    · obtain ⟨v', a, b⟩ := RepN.get (k := k) r (by simpa [getR, List.find?_cons, e] using h)
      exact ⟨v', by simpa [valN, List.find?_cons, e] using a, b⟩
theorem RepN.getD {k : Row} {d : D} {x : V} {es : EntN} {ds : KvN} (r : RepN K F es ds) (rx : Rep K F x d) : Rep K F ((valN es k).getD x) ((getR ds k).getD d) := by
  cases e : getR ds k with
  | none =>
    have h := r.has (k := k)
    rw [e] at h
    have : valN es k = none := by
      cases q : valN es k with
      | none => rfl
      | some v => rw [q] at h; cases h
    rw [this]
    exact rx
  | some d' =>
    obtain ⟨v, a, b⟩ := r.get e
    rw [a]
    exact b
theorem RepN.repl {k : Row} {v : V} {d : D} (rv : Rep K F v d) : ∀ {es : EntN} {ds : KvN}, RepN K F es ds → RepN K F (es.map fun p => if p.1 = k then (p.1, p.2.1, v) else p) (ds.map fun p => if p.1 = k then (p.1, d) else p)
  | _, _, .nil => .nil
  | _, _, .cons (k := k') r rs => by
    rw [List.map_cons, List.map_cons]
    by_cases e : k' = k
    · rw [if_pos e, if_pos e]
      exact .cons rv (RepN.repl rv rs)
    · rw [if_neg e, if_neg e]
      exact .cons r (RepN.repl rv rs)
theorem RepN.app : ∀ {es fs : EntN} {ds gs : KvN}, RepN K F es ds → RepN K F fs gs → RepN K F (es ++ fs) (ds ++ gs)
  | _, _, _, _, .nil, q => q
  | _, _, _, _, .cons r rs, q => .cons r (RepN.app rs q)
theorem RepN.put {k : Row} {b : Addr} {v : V} {d : D} {es : EntN} {ds : KvN} (r : RepN K F es ds) (rv : Rep K F v d) : RepN K F (putN es k b v) (putR ds k d) := by
  unfold putN putR
  rw [r.has (k := k)]
  by_cases q : (getR ds k).isSome = true
  · rw [if_pos q, if_pos q]
    exact .repl rv r
  · rw [if_neg q, if_neg q]
    exact r.app (.cons rv .nil)
theorem RepN.rows : ∀ {es : EntN} {ds : KvN}, RepN K F es ds → KsN F es → RepAll K F (es.map fun e => V.ref e.2.1) (ds.map fun q => rowT q.1)
  | _, _, .nil, _ => .nil
  | _, _, .cons r rs, ks => .cons (rowT_rep (ks _ List.mem_cons_self)) (RepN.rows rs fun p hp => ks p (List.mem_cons_of_mem _ hp))
end
theorem putR_len (kvs : KvN) (k : Row) (d : D) : (putR kvs k d).length ≤ kvs.length + 1 := by
  unfold putR
  split
  · rw [List.length_map]; omega
  · simp
/-- the dict that d tells -/
def dlnD : D → Gm → Option ((Row → Int) × KvN)
  | .dln hf kvs, _ => some (hf, kvs)
  | .adr a, G => match G a with | some (.dln hf kvs) => some (hf, kvs) | _ => none
  | _, _ => none
section
variable {X : Cx} {B : Bs} {K : PySem.W.Frag} {e o i f value : Expr} {pos pos' apos cpos p : Pos} {te to ti tx tv : TED}
variable {σ : L2.St} {H F : Hp} {δ : SD} {G : Gm}
theorem dln_rep {v : V} {d : D} {hf : Row → Int} {kvs : KvN} (S : Sit K B σ H F δ G) (r : Rep K F v d) (h : dlnD d G = some (hf, kvs)) : ∃ a es, v = .ref a ∧ Rd H a (dnO hf a es) ∧ KsN F es ∧ RepN K F es kvs := by
  cases d <;> first | (cases h; done) | skip
  case dln =>
    cases h
    cases r with
    | dn e k rn => exact ⟨_, _, rfl, .inr ⟨_, S.ds.sub _ _ e⟩, k, rn⟩
  case adr a =>
    cases r
    have h' : (match G a with | some (.dln hf kvs) => some (hf, kvs) | _ => none) = some (hf, kvs) := h
    cases g : G a with
    | none => rw [g] at h'; cases h'
    | some m =>
      rw [g] at h'
      cases m <;> first | (cases h'; done) | skip
      cases h'
      obtain ⟨es, e, k, rn⟩ := (S.ds.mu a _ g).2
      exact ⟨a, es, rfl, .inl e, k, rn⟩
/-- {} -/
def dDictM (w : World) : TED := fun _ G Q => ∀ p, G p = none → Q (.adr p) (updG G p (.dln (rowH w) []))
theorem de_dictM : DE X B (.Dict [] [] pos) (dDictM X.w) :=
  PE.weak pe_dnewN fun σ H Q ⟨F, G, δ, Qd, S, h, k⟩ => fun p n => k _ _ (.open (m := .dln (rowH X.w) []) S (.refl F) n ⟨[], upd_same, (fun q hq => by cases hq), .nil⟩ (h p (S.ds.noG n)))
/-- d[k] -/
def dNGet (w : World) (to ti : TED) : TED := fun δ G Q => to δ G fun a G1 => ti δ G1 fun b G2 => match dlnD a G2, rowD? b with | some (hf, kvs), some k => hf = rowH w ∧ (match getR kvs k with | some d => Q d G2 | none => False) | _, _ => False
theorem nget_A {x y : V} {a b : D} {w : World} {Qd : QD} {Q : VK} (S : Sit K B σ H F δ G) (r1 : Rep K F x a) (r2 : Rep K F y b) (kk : ∀ v H', Beh K B σ F δ Qd v H' → Q v H') (h : match dlnD a G, rowD? b with | some (hf, kvs), some k => hf = rowH w ∧ (match getR kvs k with | some d => Qd d G | none => False) | _, _ => False) :
    ∃ d b es k v, AtN w H x y d b es k ∧ valN es k = some v ∧ Q v H := by
  cases e1 : dlnD a G with
  | none => simp only [e1] at h
  | some hk =>
    obtain ⟨hf, kvs⟩ := hk
    cases e2 : rowD? b with
    | none => simp only [e1, e2] at h
    | some k =>
      simp only [e1, e2] at h
      obtain ⟨rfl, h⟩ := h
      cases e3 : getR kvs k with
      | none => simp only [e3] at h
      | some d =>
        simp only [e3] at h
        obtain ⟨ad, es, rfl, rd, ks, rn⟩ := dln_rep S r1 e1
        obtain ⟨bd, rfl, eb⟩ := row_rep r2 e2
        obtain ⟨v, ev, rv⟩ := rn.get e3
        exact ⟨ad, bd, es, k, v, ⟨rfl, rfl, rd, ks.same S.ds.sub, S.ds.sub _ _ eb⟩, ev, kk _ _ ⟨F, G, d, .refl F, S, rv, h⟩⟩
theorem de_nget (hu : X.A.units + 1 < cLine) (ho : DE X B o to) (hi : DE X B i ti) (hs : NoSl i) : DE X B (.Subscript o i pos) (dNGet X.w to ti) :=
  PE.weak (pe_nget hu ho hi hs) fun σ H Q ⟨F, G, δ, Qd, S, h, k⟩ => ⟨F, G, δ, _, S, h, fun x H1 ⟨F1, G1, a, s1, S1, r1, h1⟩ => ⟨F1, G1, δ, _, S1, h1, fun y H2 ⟨F2, G2, b, s2, S2, r2, h2⟩ =>
    nget_A S2 (r1.mono s2) r2 (fun v H' ⟨F', G', d', s', S', r', q'⟩ => k v H' ⟨F', G', d', (s1.trans s2).trans s', S', r', q'⟩) h2⟩⟩
/-- k in d -/
def dNIn (w : World) (ti to : TED) : TED := fun δ G Q => ti δ G fun b G1 => to δ G1 fun a G2 => match dlnD a G2, rowD? b with | some (hf, kvs), some k => hf = rowH w ∧ Q (.bl (getR kvs k).isSome) G2 | _, _ => False
theorem pc_ninD (hu : X.A.units + 1 < cLine) (hi : DE X B i ti) (ho : DE X B o to) : PC X .In i o (up X.K B (dNIn X.w ti to)) :=
  ⟨fun pins s σ H Q I ⟨F, G, δ, Qd, S, h, k⟩ => (pc_nin hu hi ho).run pins s σ H Q I ⟨F, G, δ, _, S, h, fun y H1 ⟨F1, G1, b, s1, S1, r1, h1⟩ => ⟨F1, G1, δ, _, S1, h1, fun x H2 ⟨F2, G2, a, s2, S2, r2, h2⟩ => by
    cases e1 : dlnD a G2 with
    | none => simp only [e1] at h2
    | some hk =>
      obtain ⟨hf, kvs⟩ := hk
      cases e2 : rowD? b with
      | none => simp only [e1, e2] at h2
      | some kr =>
        simp only [e1, e2] at h2
        obtain ⟨rfl, h2⟩ := h2
        obtain ⟨ad, es, rfl, rd, ks, rn⟩ := dln_rep S2 r2 e1
        obtain ⟨bd, rfl, eb⟩ := row_rep (r1.mono s2) e2
        refine ⟨ad, bd, es, kr, ⟨rfl, rfl, rd, ks.same S2.ds.sub, S2.ds.sub _ _ eb⟩, ?_⟩
        rw [rn.has]
        exact k _ _ ⟨F2, G2, _, s1.trans s2, S2, .bl _, h2⟩⟩⟩⟩
theorem de_nin (hu : X.A.units + 1 < cLine) (hi : DE X B i ti) (ho : DE X B o to) (hm : behindInMarks .In o = false := by rfl) : DE X B (.Compare i [.In] [o] pos) (dNIn X.w ti to) := pe_cmp (pc_ninD hu hi ho) hm
/-- d.get(k, x) -/
def dNGet2 (w : World) (to ti tx : TED) : TED := fun δ G Q => to δ G fun a G1 => (dlnD a G1).isSome = true ∧ ((match dlnD a G1 with | some (hf, _) => hf = rowH w | none => False) ∧ ti δ G1 fun b G2 => tx δ G2 fun c G3 => match dlnD a G3, rowD? b with | some (hf, kvs), some k => hf = rowH w ∧ Q ((getR kvs k).getD c) G3 | _, _ => False)
theorem de_nget2 (hu : X.A.units + 1 < cLine) (ho : DE X B o to) (hi : DE X B e ti) (hx : DE X B f tx) (m : M2 X o "get" apos e f cpos) : DE X B (.Call (.Attribute o "get" apos) [e, f] [] cpos) (dNGet2 X.w to ti tx) :=
  PE.weak (pe_nget2 hu ho hi hx m) fun σ H Q ⟨F, G, δ, Qd, S, h, k⟩ => ⟨F, G, δ, _, S, h, fun x H1 ⟨F1, G1, a, s1, S1, r1, _, hw, h1⟩ => by
    cases e0 : dlnD a G1 with
    | none => simp only [e0] at hw
    | some hk0 =>
      obtain ⟨hf0, kvs0⟩ := hk0
      simp only [e0] at hw
      subst hw
      obtain ⟨ad, es, rfl, rd, ks, rn⟩ := dln_rep S1 r1 e0
      refine ⟨ad, es, rfl, rd, ks.same S1.ds.sub, F1, G1, δ, _, S1, h1, fun y H2 ⟨F2, G2, b, s2, S2, r2, h2⟩ => ⟨F2, G2, δ, _, S2, h2, fun z H3 ⟨F3, G3, c, s3, S3, r3, h3⟩ => ?_⟩⟩
      cases e1 : dlnD a G3 with
      | none => simp only [e1] at h3
      | some hk =>
        obtain ⟨hf, kvs⟩ := hk
        cases e2 : rowD? b with
        | none => simp only [e1, e2] at h3
        | some kr =>
          simp only [e1, e2] at h3
          obtain ⟨rfl, h3⟩ := h3
          obtain ⟨ad', es', ea, rd', ks', rn'⟩ := dln_rep S3 (r1.mono (s2.trans s3)) e1
          cases ea
          obtain ⟨bd, rfl, eb⟩ := row_rep (r2.mono s3) e2
          exact ⟨bd, es', kr, ⟨rfl, rfl, rd', ks'.same S3.ds.sub, S3.ds.sub _ _ eb⟩, k _ _ ⟨F3, G3, _, (s1.trans s2).trans s3, S3, rn'.getD r3, h3⟩⟩⟩
/-- d[k] = v -/
def dNPut (w : World) (to ti tv : TED) : TSD := fun E δ G => tv δ G fun d G1 => to δ G1 fun a G2 => ti δ G2 fun b G3 => ∃ p, a = .adr p ∧ match G3 p, rowD? b with | some (.dln hf kvs), some k => hf = rowH w ∧ kvs.length < 1000 ∧ E.nx δ (updG G3 p (.dln hf (putR kvs k d))) | _, _ => False
theorem ds_nput (hu : X.A.units + 1 < cLine) (ho : DE X B o to) (hi : DE X B i ti) (hv : DE X B value tv) (hs : swapsWith value (some (.Subscript o i pos')) pos.line X.env = pure false := by rfl) :
    DSt X B (.Assign [.Subscript o i pos'] value pos) (dNPut X.w to ti tv) :=
  PS.weak (ps_nput hu ho hi hv hs) fun D σ H ⟨F, G, δ, E, S, h, L⟩ => ⟨F, G, δ, _, S, h, fun v H1 ⟨F1, G1, d, s1, S1, r1, h1⟩ => ⟨F1, G1, δ, _, S1, h1, fun x H2 ⟨F2, G2, a, s2, S2, r2, h2⟩ => ⟨F2, G2, δ, _, S2, h2, fun y H3 ⟨F3, G3, b, s3, S3, r3, pa, ea, h3⟩ => by
    subst ea
    cases r2
    cases g : G3 pa with
    | none => simp only [g] at h3
    | some m =>
      cases m <;> first | (simp only [g] at h3; done) | skip
      rename_i hf kvs
      cases e2 : rowD? b with
      | none => simp only [g, e2] at h3
      | some kr =>
        simp only [g, e2] at h3
        obtain ⟨rfl, hl, h3⟩ := h3
        obtain ⟨es, e, ks, rn⟩ := (S3.ds.mu pa _ g).2
        obtain ⟨bd, rfl, eb⟩ := row_rep r3 e2
        refine ⟨pa, bd, es, kr, rfl, rfl, e, ks.same S3.ds.sub, S3.ds.sub _ _ eb, small_size (by rw [rn.len]; omega), ?_⟩
        exact L.nx _ _ ⟨F3, _, δ, (s1.trans s2).trans s3, ⟨S3.ds.write (m' := .dln (rowH X.w) (putR kvs kr d)) g ⟨_, upd_same, ks.put eb, rn.put (r1.mono (s2.trans s3))⟩, S3.gr, S3.sl⟩, h3⟩⟩⟩⟩
/-- a dict that is not changed any more -/
def dCloseN (t : TED) : TED := fun δ G Q => t δ G fun d G1 => ∃ a, d = .adr a ∧ match G1 a with | some (.dln hf kvs) => Q (.dln hf kvs) (delG G1 a) | _ => False
theorem DS.closeN {K : PySem.W.Frag} {Tb : List (Addr × Str)} {F H Z : Hp} {G : Gm} {a : Addr} {hf : Row → Int} {kvs : KvN} {es : EntN} {o : Obj} (d : DS K Tb F H G Z) (g : G a = some (.dln hf kvs)) (h : H a = some (dnO hf a es)) :
    DS K Tb (upd F a (.frz o (dnO hf a es))) (upd H a (.frz o (dnO hf a es))) (delG G a) Z ∧ Same F (upd F a (.frz o (dnO hf a es))) := by
  have hF := (d.mu a _ g).1
  have hZ : Z a = none := by
    cases e : Z a with
    | none => rfl
    | some u =>
      have := (d.zf a u e).2.1
      rw [g] at this
      cases this
  have s : Same F (upd F a (.frz o (dnO hf a es))) := same_new hF
  refine ⟨⟨fun b u e => ?_, fun b m e => ?_, fun b u e => ?_, fun b u e => ?_, fun b u e => ?_, ?_⟩, s⟩
  · by_cases c : b = a
    · subst c
      rw [upd_same] at e ⊢
      exact e
    · rw [upd_ne c] at e ⊢
      exact d.sub _ _ e
  · have c : b ≠ a := fun c => by rw [c, delG_same] at e; cases e
    rw [delG_ne c] at e
    refine ⟨(upd_ne c).trans (d.mu b m e).1, (d.mu b m e).2.mono s fun q t => (upd_ne c).trans t⟩
  · have c : b ≠ a := fun c => by rw [c, hZ] at e; cases e
    exact (upd_ne c).trans (d.zub _ _ e)
  · have c : b ≠ a := fun c => by rw [c, hZ] at e; cases e
    exact ⟨(upd_ne c).trans (d.zf b u e).1, (delG_ne c).trans (d.zf b u e).2.1, (d.zf b u e).2.2⟩
  · by_cases c : b = a
    · subst c
      rw [upd_same] at e
      cases e
      trivial
    · rw [upd_ne c] at e
      exact d.ft _ _ e
  · refine d.tab.but a (fun ps q => ?_) (fun c q z => ?_)
    · rw [h] at q
      cases q
    · rw [h] at z
      exact codeO_notM ((Option.some.inj z) ▸ mut_dn)
theorem de_closeN (h : DE X B e te) : DE X B e (dCloseN te) :=
  PE.weak (pe_frz h) fun σ H Q ⟨F, G, δ, Qd, S, q, k⟩ => ⟨F, G, δ, _, S, q, fun v H1 ⟨F1, G1, d, s1, S1, r1, a, ea, h1⟩ => by
    subst ea
    cases r1
    cases g : G1 a with
    | none => rw [g] at h1; exact h1.elim
    | some m =>
      rw [g] at h1
      cases m <;> first | (exact h1.elim) | skip
      obtain ⟨es, e, ks, rn⟩ := (S1.ds.mu a _ g).2
      refine ⟨a, _, rfl, e, trivial, fun o => ?_⟩
      obtain ⟨D2, s2⟩ := S1.ds.closeN (o := o) g e
      exact k _ _ ⟨_, _, _, s1.trans s2, ⟨D2, S1.gr.trans s2, S1.sl.mono s2⟩, .dn upd_same (ks.same s2) (rn.mono s2), h1⟩⟩
end
end JP
namespace JP
open PySem PySem.Spec PyProof.Rows L2
def dcN (g : TGD) (tt : TTD) (tk tv : TED) (Fin : KvN → Gm → Prop) (δ : SD) : List D → KvN → Gm → Prop
  | [], acc, G => Fin acc G
  | d :: ds, acc, G => g d δ G fun δ1 G1 => tt δ1 G1 fun b G2 => match b with
    | true => tk δ1 G2 fun y G3 => tv δ1 G3 fun z G4 => ∃ ks, rowD? y = some ks ∧ dcN g tt tk tv Fin δ ds (putR acc ks z) G4
    | false => dcN g tt tk tv Fin δ ds acc G2
def dDcN (w : World) (ti : TID) (g : TGD) (tt : TTD) (tk tv : TED) (vs : List Nat) : TED := fun δ G Q => ti δ G fun ds G1 => ds.length ≤ 1000 ∧ dcN g tt tk tv (fun acc G => Q (.dln (rowH w) acc) G) (wipeD δ vs) ds [] G1
section
variable {K : PySem.W.Frag} {B : Bs} {w : World}
theorem dcN_adeq {ti : TID} {gV : TG} {g : TGD} {tt : TTD} {tk tv : TED} {vs : List Nat} (hg : CG K vs gV g) (σ : L2.St) (H : Hp) (Q : VK) (h : up K B (dDcN w ti g tt tk tv vs) σ H Q) :
    tDcG (fun D => dnO (rowH w) D []) (stN w) (upI K B ti) gV (upTU K tt) (upU K tk) (upU K tv) vs σ H (fun x H1 => ∃ a u, x = .ref a ∧ H1 a = some u ∧ Mut (some u) ∧ ∀ o, Q x (upd H1 a (.frz o u))) := by
  obtain ⟨F, G, δ, Qd, S, h, k⟩ := h
  refine ⟨F, G, δ, _, S, h, fun J H1 ⟨F1, G1, ds, s1, S1, it, hz, h1⟩ D nD => ?_⟩
  have fD : F1 D = none := S1.ds.noF nD
  have zD : B.Z D = none := S1.ds.noZ nD
  refine ⟨fun i m H' => m = ds.length - i ∧ i ≤ ds.length ∧ ∃ F' G' acc av, Same F1 F' ∧ F' D = none ∧ G' D = none ∧ H' D = some (dnO (rowH w) D av) ∧ KsN F' av ∧ RepN K F' av acc ∧ acc.length ≤ i ∧ Sit K B σ H' F' δ G' ∧ dcN g tt tk tv (fun acc G => Qd (.dln (rowH w) acc) G) (wipeD δ vs) (ds.drop i) acc G',
    ⟨ds.length, by simp, Nat.zero_le _, F1, G1, [], [], .refl F1, fD, S1.ds.noG nD, upd_same, (fun q hq => by cases hq), .nil, Nat.le_refl _, S1.same (same_new nD), h1⟩, ?_⟩
  rintro i m H2 ⟨rfl, hi, F2, G2, acc, av, s2, f2, g2, h2D, kn, ra, la, S2, h2⟩
  have sh : Same F1 H2 := s2.trans S2.ds.sub
  rcases Nat.lt_or_ge i ds.length with hlt | hge
  · refine .inr ⟨it.go i H2 hlt sh, fun H' => ∃ F' G' acc av, Same F1 F' ∧ F' D = none ∧ G' D = none ∧ H' D = some (dnO (rowH w) D av) ∧ KsN F' av ∧ RepN K F' av acc ∧ acc.length ≤ i + 1 ∧ Sit K B σ H' F' δ G' ∧ dcN g tt tk tv (fun acc G => Qd (.dln (rowH w) acc) G) (wipeD δ vs) (ds.drop (i + 1)) acc G', fun H' q => ⟨ds.length - (i + 1), by omega, rfl, hlt, q⟩, fun x H3 y => ?_⟩
    obtain ⟨F3, d, s3, S3, hd, rd⟩ := it.yld i H2 x H3 hlt sh y ⟨F1, upd B.Z D (dnO (rowH w) D av), B.T⟩ σ δ G2 F2 ⟨S2.ds.zadd h2D f2 g2 mut_dn, s2, S2.sl⟩ s2
    rw [drop_get hd] at h2
    have Sw : Sit K ⟨F1, upd B.Z D (dnO (rowH w) D av), B.T⟩ (wipe σ vs) H3 F3 (wipeD δ vs) G2 := ⟨S3.ds, S3.gr, S3.sl.wipe vs⟩
    refine hg _ _ _ _ _ _ _ _ _ _ Sw rd h2 fun σ4 δ4 e4 S4 h4 => ⟨?_, ⟨F1, upd B.Z D (dnO (rowH w) D av), B.T⟩, F3, G2, δ4, _, S4, h4, fun b H5 ⟨F5, G5, s5, S5, h5⟩ => ?_⟩
    · have ww : ∀ (us : List Nat) (σ : L2.St), (∀ u ∈ us, u ∈ vs) → wipe (wipe σ us) vs = wipe σ vs := by
        intro us
        induction us with
        | nil => intro σ _; rfl
        | cons u us ih =>
          intro σ hu
          show wipe ((wipe σ us).set u none) vs = wipe σ vs
          rw [wipe_set (hu u List.mem_cons_self)]
          exact ih σ fun v hv => hu v (List.mem_cons_of_mem _ hv)
      exact e4.trans (ww vs σ fun u hu => hu)
    · cases b with
      | false =>
        obtain ⟨d5, h5D, f5, g5⟩ := S5.ds.zdel zD
        exact ⟨F5, G5, acc, av, (s2.trans s3).trans s5, f5, g5, h5D, kn.same (s3.trans s5), ra.mono (s3.trans s5), by omega, ⟨d5, S2.gr.trans (s3.trans s5), S2.sl.mono (s3.trans s5)⟩, h5⟩
      | true =>
        refine ⟨⟨F1, upd B.Z D (dnO (rowH w) D av), B.T⟩, F5, G5, δ4, _, S5, h5, fun y H6 ⟨F6, G6, dy, s6, S6, r6, h6⟩ => ?_⟩
        refine ⟨⟨F1, upd B.Z D (dnO (rowH w) D av), B.T⟩, F6, G6, δ4, _, S6, h6, fun z H7 ⟨F7, G7, dz, s7, S7, r7, ks, ek, h7⟩ => ?_⟩
        obtain ⟨d7, h7D, f7, g7⟩ := S7.ds.zdel zD
        have st := ((s3.trans s5).trans s6).trans s7
        obtain ⟨b, eb, fb⟩ := row_rep (r6.mono s7) ek
        have rn : RepN K F7 (putN av ks b z) (putR acc ks dz) := (ra.mono st).put r7
        refine ⟨_, ⟨av, ks, b, eb, S7.ds.sub _ _ fb, h7D, (kn.same st).same S7.ds.sub, small_size (by rw [ra.len]; omega), rfl⟩, F7, G7, putR acc ks dz, putN av ks b z, s2.trans st, f7, g7, upd_same, (kn.same st).put fb, rn, ?_, ⟨d7.other h7D f7 g7 zD mut_dn, S2.gr.trans st, S2.sl.mono st⟩, h7⟩
        have := putR_len acc ks dz
        omega
  · have e : i = ds.length := by omega
    subst e
    rw [List.drop_length] at h2
    refine .inl ⟨it.stop H2 sh, D, _, rfl, h2D, trivial, fun o => k _ _ ?_⟩
    obtain ⟨d3, s3⟩ := (S2.ds.other (o := .frz o (dnO (rowH w) D av)) h2D f2 g2 zD mut_dn).frz upd_same g2 zD
    exact ⟨_, G2, .dln (rowH w) acc, (s1.trans s2).trans s3, ⟨d3, S2.gr.trans s3, S2.sl.mono s3⟩, .dn upd_same (kn.same s3) (ra.mono s3), h2⟩
end
section
variable {X : Cx} {B : Bs} {kx vx tg iter : Expr} {ifs : List Expr} {scope : Scope} {own : List (Str × Nat)} {pos : Pos} {ti : TID} {gV : TG} {g : TGD} {tt : TTD} {tk tv : TED}
theorem de_dcN (hu : X.A.units + 1 < cLine) (hc : X.calm = true) (hN : X.N.Nodup) (hi : DI X B tg iter ti) (ok : BlkOk X.N X.env.scope scope own)
    (hcg : CG X.K (own.map (·.2)) gV g)
    (hg : ∀ (s : Shared) (H : Hp) (C : Addr) (cl : List (Str × Addr)) (fp : List Addr), PG (X.blk s H scope (compEnvC scope cl C X.env) fp) tg gV)
    (ht : ∀ (s : Shared) (H : Hp) (C : Addr) (cl : List (Str × Addr)) (fp : List Addr) (B : Bs), DTs (X.blk s H scope (compEnvC scope cl C X.env) fp) B ifs tt)
    (hk : ∀ (s : Shared) (H : Hp) (C : Addr) (cl : List (Str × Addr)) (fp : List Addr) (B : Bs), DE (X.blk s H scope (compEnvC scope cl C X.env) fp) B kx tk)
    (he : ∀ (s : Shared) (H : Hp) (C : Addr) (cl : List (Str × Addr)) (fp : List Addr) (B : Bs), DE (X.blk s H scope (compEnvC scope cl C X.env) fp) B vx tv) (hs : ∀ x, foldedSetIterable iter X.env x = pure x := by intro _; rfl) :
    DE X B (.DictComp kx vx [⟨tg, iter, ifs, 0⟩] scope pos) (dDcN X.w ti g tt tk tv (own.map (·.2))) :=
  PE.weak (pe_frz (pe_dcG dicK_N hu hc hN hi ok hg (fun s H C cl fp => ⟨fun pins s σ H Q I ⟨B, h⟩ => (ht _ _ C cl fp B).run pins s σ H Q I h⟩) (fun s H C cl fp => ⟨fun pins s σ H Q I ⟨B, h⟩ => (hk _ _ C cl fp B).run pins s σ H Q I h⟩) (fun s H C cl fp => ⟨fun pins s σ H Q I ⟨B, h⟩ => (he _ _ C cl fp B).run pins s σ H Q I h⟩) hs)) fun σ H Q h => dcN_adeq hcg σ H Q h
end
section
variable {X : Cx} {B : Bs} {K : PySem.W.Frag} {e : Expr} {te : TED} {pos p : Pos}
theorem itD_N {F : Hp} {d : Addr} {o : Obj} {hf : Row → Int} {es : EntN} {kvs : KvN} (h : F d = some (.frz o (dnO hf d es))) (ks : KsN F es) (r : RepN K F es kvs) : ItD K F (ItN d o hf es) (kvs.map fun q => rowT q.1) :=
  ⟨fun i H hi s => ⟨s _ _ h, by rw [r.len]; simpa using hi⟩, fun H s => ⟨s _ _ h, by rw [r.len]; simp⟩, fun i H x H' hi s y B σ δ G F1 S s1 => by
    obtain ⟨rfl, en, he, rfl⟩ := y
    have ra := r.rows ks
    obtain ⟨d', hd, rd⟩ := ra.get' (i := i) (v := .ref en.2.1) (by rw [List.getElem?_map, he]; rfl)
    exact ⟨F1, d', .refl F1, S, hd, rd.mono s1⟩⟩
def iKeysND (te : TED) : TID := fun δ G R => te δ G fun d G1 => match d with | .dln _ kvs => R (kvs.map fun q => rowT q.1) G1 | _ => False
theorem di_keysN {tg : Expr} (h : DE X B e te) : DI X B tg e (iKeysND te) :=
  PI.weak (pi_keysN h) fun σ H R ⟨F, G, δ, Qd, S, h, k⟩ => ⟨F, G, δ, _, S, h, fun v H1 ⟨F1, G1, d, s1, S1, r1, h1⟩ => by
    cases d with
    | dln hf kvs =>
      cases r1 with
      | dn hq ks rn => exact ⟨_, _, hf, _, rfl, S1.ds.sub _ _ hq, k _ _ ⟨F1, G1, _, s1, S1, itD_N hq ks rn, h1⟩⟩
    | _ => exact h1.elim⟩
def listND : LD := fun ds G Q => match ds with | [.dln _ kvs] => Q (.lst (kvs.map fun q => rowT q.1)) G | _ => False
theorem listN_A : CallA K (fun xs H Q => ∃ d o hf es, xs = [V.ref d] ∧ H d = some (.frz o (dnO hf d es)) ∧ ∀ p, H p = none → Q (.ref p) (upd H p (.lst (es.map fun e => V.ref e.2.1)))) listND := fun B σ δ H F G xs ds Qd Q S r h k => by
  unfold listND at h
  split at h
  · obtain ⟨v, rfl, rv⟩ := repAll1 r
    cases rv with
    | dn hq ks rn =>
      refine ⟨_, _, _, _, rfl, S.ds.sub _ _ hq, fun p np => k _ _ ?_⟩
      exact .new S (.refl F) np (.lst upd_same ((rn.rows ks).mono (same_new (S.ds.noF np)))) h
  · exact h.elim
def lenND (w : World) : LD := fun ds G Q => match ds with | [d] => (match dlnD d G with | some (hf, kvs) => hf = rowH w ∧ Q (.int kvs.length) G | none => False) | _ => False
theorem lenN_A {w : World} : CallA K (fun xs H Q => ∃ d es, xs = [V.ref d] ∧ Rd H d (dnO (rowH w) d es) ∧ KsN H es ∧ Q (.int es.length) H) (lenND w) := fun B σ δ H F G xs ds Qd Q S r h k => by
  unfold lenND at h
  split at h
  · rename_i d
    obtain ⟨v, rfl, rv⟩ := repAll1 r
    cases e : dlnD d G with
    | none => simp only [e] at h
    | some hk =>
      obtain ⟨hf, kvs⟩ := hk
      simp only [e] at h
      obtain ⟨rfl, h⟩ := h
      obtain ⟨a, es, rfl, rd, ks, rn⟩ := dln_rep S rv e
      refine ⟨a, es, rfl, rd, ks.same S.ds.sub, ?_⟩
      rw [rn.len]
      exact k _ _ (.val S (.int _) h)
  · exact h.elim
end
end JP
namespace JP
open PySem PySem.Spec PyProof.Rows L2
abbrev tiObj (t : Addr) (i : Nat) : Obj := { cls := .type "tuple_iterator", data := .fields #[.ref t, .int i 0] }
abbrev tiEnd (i : Nat) : Obj := { cls := .type "tuple_iterator", data := .fields #[.none, .int i 0] }
theorem ti_obj (t : Addr) (i : Nat) : Obj.mapFields (·.setIfInBounds 1 (rawInt ((i : Int) + 1))) (tiObj t i) = tiObj t (i + 1) := by
  first | rfl | simp [Obj.mapFields, rawInt]
theorem ti_endo (t : Addr) (i : Nat) : Obj.mapFields (·.setIfInBounds 0 Value.none) (tiObj t i) = tiEnd i := by
  first | rfl | simp [Obj.mapFields]
section
variable {prog : Program} {w : World} {A : Around} {E : Value → Shared → Prop} {s : Shared} {it t : Addr} {i : Nat} {items : Array Value}
theorem call_iterTup {Q : Value → Shared → Prop} (ht : s.heap.IsTuple t items) (h : Q (.ref s.heap.objs.size) { s with heap := s.heap.push (tiObj t 0) }) : wpAny (model prog w) A (call (.builtin "iter") [.ref t]) Q E s := by
  refine Calls.call_function_entry (by decide +kernel) (by decide +kernel) PySem.W.kdk_entry_iter (PySem.W.kdk_args_iter _) ?_
  unfold Builtin.«iter»
  refine wpAny_bind (m := someArgs "iter" 1 2 _) (wpAny_of_eq (a := [Value.ref t]) (by first | rfl | kernel_rfl!) ?_)
  show wpAny _ _ (pyIter (.ref t) >>= _) _ _ _
  refine wpAny_bind (wpAny_pyIter_tuple ht ?_)
  exact wpAny_pure ⟨_, rfl, h⟩
theorem ti_next {x : Value} {Q : Option Value → Shared → Prop} (ho : s.heap.get? it = some (tiObj t i)) (ht : s.heap.IsTuple t items) (hx : items[i]? = some x)
    (hQ : ∀ h', h'.get? it = some (tiObj t (i + 1)) → Heap.SameBut it s.heap h' → Q (some x) { s with heap := h' }) : wpAny (model prog w) A (pyNext (.ref it)) Q E s := by
  obtain ⟨ol, hol, _, nl, hdl⟩ := ht
  have hT : s.TypeIs (.ref it) "tuple_iterator" := ⟨_, ho, rfl⟩
  unfold pyNext
  refine wpAny_bind (wpAny_attempt (wpAny_callSpecial?_slot (name := Str.ofString "__next__") hT F.slot_tuple_iterator_next
    (wpAny_call_entry F.slot_tuple_iterator_next hT F.entry_tuple_iterator_next ?_ (F.args_tuple_iterator_next_1 _))))
  show wpAny _ _ (field (.ref it) 0 >>= _) _ _ s
  refine wpAny_bind (wpAny_field ho rfl (x := .ref t) rfl ?_)
  show wpAny _ _ (if (Value.ref t == Value.none) = true then _ else _) _ _ s
  rw [if_neg (show ¬ ((Value.ref t == Value.none) = true) from Bool.false_ne_true)]
  show wpAny _ _ (field (.ref it) 1 >>= _) _ _ s
  refine wpAny_bind (wpAny_field ho rfl (x := .int i 0) rfl ?_)
  show wpAny _ _ (seqItems? (.ref t) >>= _) _ _ s
  refine wpAny_bind (wpAny_seqItems hol hdl ?_)
  simp only [Int.toNat_natCast, hx]
  refine wpAny_bind (wpAny_setField ho rfl (by simp) (wpAny_pure ⟨x, rfl, wpAny_pure (hQ _ ?_ (Heap.SameBut.update ..))⟩))
  rw [Heap.get?_update_self _ ho (by rfl)]
  exact congrArg some (ti_obj t i)
theorem ti_stop {Q : Option Value → Shared → Prop} (hh : A.handled = none) (ho : s.heap.get? it = some (tiObj t i)) (ht : s.heap.IsTuple t items) (hx : items[i]? = none)
    (hQ : ∀ h1 h', h1.get? it = some (tiEnd i) → Heap.SameBut it s.heap h1 → (∀ b o, h1.get? b = some o → h'.get? b = some o) → Q none { s with heap := h' }) : wpAny (model prog w) A (pyNext (.ref it)) Q E s := by
  obtain ⟨ol, hol, _, nl, hdl⟩ := ht
  have hT : s.TypeIs (.ref it) "tuple_iterator" := ⟨_, ho, rfl⟩
  unfold pyNext
  refine wpAny_bind (wpAny_attempt (wpAny_callSpecial?_slot (name := Str.ofString "__next__") hT F.slot_tuple_iterator_next
    (wpAny_call_entry F.slot_tuple_iterator_next hT F.entry_tuple_iterator_next ?_ (F.args_tuple_iterator_next_1 _))))
  show wpAny _ _ (field (.ref it) 0 >>= _) _ _ s
  refine wpAny_bind (wpAny_field ho rfl (x := .ref t) rfl ?_)
  show wpAny _ _ (if (Value.ref t == Value.none) = true then _ else _) _ _ s
  rw [if_neg (show ¬ ((Value.ref t == Value.none) = true) from Bool.false_ne_true)]
  show wpAny _ _ (field (.ref it) 1 >>= _) _ _ s
  refine wpAny_bind (wpAny_field ho rfl (x := .int i 0) rfl ?_)
  show wpAny _ _ (seqItems? (.ref t) >>= _) _ _ s
  refine wpAny_bind (wpAny_seqItems hol hdl ?_)
  simp only [Int.toNat_natCast, hx]
  refine wpAny_bind (wpAny_rule (wpAny_bind (wpAny_setField ho rfl (by simp) ?_)))
  show wpAny _ _ (newExc (.type "StopIteration") [] >>= _) _ _ _
  refine wpAny_bind ?_
  simp only [newExc, newTuple]
  refine wpAny_bind (wpAny_newObj_type ?_ (by size_fits))
  refine wpAny_bind (m := firstArgMember _ _) (wpAny_of_eq (a := Value.none) (by first | rfl | (simp only [firstArgMember]; rfl)) ?_)
  refine wpAny_newObj_type ?_ (by size_fits)
  simp only [raiseNew]
  refine wpAny_bind (wpAny_handled ?_)
  first | rw [show A.in1.handled = none from hh] | rw [hh]
  refine wpAny_bind (wpAny_pure (wpAny_throw ?_))
  refine wpAny_bind (wpAny_isInstance (T := "StopIteration") (b := true) ⟨_, Heap.get?_push_size _ rfl, rfl⟩ isSubtype_stop ?_)
  refine wpAny_pure (hQ (s.heap.update it (Obj.mapFields (·.setIfInBounds 0 Value.none))) _ ?_ (Heap.SameBut.update ..) (fun b o e => Heap.get?_push_of_some _ (Heap.get?_push_of_some _ e)))
  rw [Heap.get?_update_self _ ho (by rfl)]
  exact congrArg some (ti_endo t i)
end
def TiO (t it : Addr) (i : Nat) : HO := .ext fun h => h.get? it = some (tiObj t i)
def TiE (it : Addr) (i : Nat) : HO := .ext fun h => h.get? it = some (tiEnd i)
section
variable {P : Program} {w : World} {H : Hp} {h : Heap} {t it : Addr} {i : Nat}
theorem tiO_ok (e : h.get? it = some (tiObj t i)) : ObjOk P w H h it (TiO t it i) := ⟨e, ⟨_, e⟩, fun h1 h2 q k => k _ q⟩
theorem tiE_ok (e : h.get? it = some (tiEnd i)) : ObjOk P w H h it (TiE it i) := ⟨e, ⟨_, e⟩, fun h1 h2 q k => k _ q⟩
end
theorem updH_comm {H : Hp} {a b : Addr} {x y : HO} (h : a ≠ b) : upd (upd H a x) b y = upd (upd H b y) a x := by
  funext c
  by_cases h1 : c = b
  · subst h1
    rw [upd_same, upd_ne (Ne.symm h), upd_same]
  · rw [upd_ne h1]
    by_cases h2 : c = a
    · subst h2
      rw [upd_same, upd_same]
    · rw [upd_ne h2, upd_ne h2, upd_ne h1]
/-- iter(t), t a tuple -/
def rIterT (K : PySem.W.Frag) : List V → Hp → VK → Prop := fun xs H Q => ∃ (t : Addr) (zs : List V), xs = [.ref t] ∧ SqT K H t zs ∧ ∀ it, H it = none → Q (.ref it) (upd H it (TiO t it 0))
theorem call_iterT {X : Cx} : CallR X (.builtin "iter") (rIterT X.K) := by
  intro pins s σ H xs us Q I r h
  obtain ⟨t, zs, rfl, hq, q⟩ := h
  obtain ⟨u, rfl, ru⟩ := vals1 r
  cases ru
  obtain ⟨its, rv, pl, hz⟩ := I.tuple hq
  refine call_iterTup pl ?_
  exact ⟨.ref s.heap.objs.size, _, I.laid (t' := s.toks) (fun b u e => Heap.get?_push_of_some _ e) (Nat.le_refl _) (tiO_ok (Heap.get?_push_size _ rfl)), rfl, q _ (I.hok.fresh (Nat.le_refl _))⟩
structure StO (K : PySem.W.Frag) (C fi fl : Addr) : Prop where
  it : PySem.W.findIn K (.ref C) "__iter__" = some (some (.ref fi))
  itF : PySem.W.isFn K (.ref fi) = true
  ln : OwnM K C "__len__" fl
/-- what __iter__ promises: the walk of the tuple in a field -/
def spIterO (K : PySem.W.Frag) (C : Addr) (f : Str) : Sp := fun vs H Q _ => ∃ a dx fs t xs, vs = [.ref a] ∧ H a = some (.ins C dx fs) ∧ fs.lookup f = some (.ref t) ∧ SqT K H t xs ∧ ∀ it, H it = none → Q (.ref it) (upd H it (TiO t it 0))
section
variable {X : Cx} {CX CI : CXT} {pins : List (Addr × Obj)} {σ : L2.St} {H : Hp} {s : Shared} {C fi fl a q t it : Addr} {fdI fdL : FuncData} {psI psL : List Str} {spL : Sp} {E EI : XK} {kI kL : Nat} {A1 : Around} {xs : List V}
/-- the walk fills the list at q -/
theorem ti_loop {Rs : Result → Shared → Prop} {res : Value} (hh : A1.in1.handled = none) (hqi : q ≠ it) (hqt : q ≠ t) (hit : it ≠ t) (hl : xs.length ≤ sizeLine)
    (hdone : ∀ s' H', Inv X pins σ H' s' → H' = upd (upd H it (TiE it xs.length)) q (.lst xs) → Rs (.ok (.ret res)) s') :
    ∀ (m i : Nat) (s : Shared), xs.length - i = m → i ≤ xs.length → Inv X pins σ (upd (upd H it (TiO t it i)) q (.lst (xs.take i))) s → SqT X.K H t xs → H it = none → H q = none →
      codeAny (model X.prog X.w) A1 (.builtin "list.extend.loop" ⟨[.ref q, .ref it, res], []⟩) Rs s := by
  intro m
  induction m with
  | zero =>
    intro i s hm hi I ht n1 n2
    obtain rfl : i = xs.length := by omega
    refine codeAny_builtin PySem.F.entry_extend_loop ?_
    rw [Around.under_plainId PySem.F.plain_extend_loop _]
    show wpAny _ A1.in1 (pyNext (.ref it) >>= _) _ _ s
    have hI : upd (upd H it (TiO t it xs.length)) q (.lst (xs.take xs.length)) it = some (TiO t it xs.length) := by rw [upd_ne hqi.symm, upd_same]
    have ht' : SqT X.K (upd (upd H it (TiO t it xs.length)) q (.lst (xs.take xs.length))) t xs := SqT.ext ht (fun b o e => by
      rw [upd_ne (fun z => by rw [z, n2] at e; cases e), upd_ne (fun z => by rw [z, n1] at e; cases e)]; exact e)
    obtain ⟨its, rv, pl, hz⟩ := I.tuple ht'
    refine wpAny_bind (ti_stop hh ((I.hok it _ hI).1) pl (by rw [List.getElem?_toArray]; exact List.getElem?_eq_none_iff.mpr (by rw [← rv.length]; exact Nat.le_refl _)) fun h1 h' e1 sb k => ?_)
    have mu : Mut (upd (upd H it (TiO t it xs.length)) q (.lst (xs.take xs.length)) it) := by rw [hI]; exact True.intro
    have I2 := I.write (x := it) (e := it) (t' := s.toks) mu (.inl rfl) (fun b o nb z => (sb.2 b nb).trans z) ⟨_, e1⟩ (tiE_ok e1)
    have I3 : Inv X pins σ _ { s with heap := h' } := I2.kept (t' := s.toks) k
    refine wpAny_pure (hdone _ _ I3 ?_)
    rw [List.take_length, updH_comm hqi, upd_upd]
  | succ m ih =>
    intro i s hm hi I ht n1 n2
    have hlt : i < xs.length := by omega
    refine codeAny_builtin PySem.F.entry_extend_loop ?_
    rw [Around.under_plainId PySem.F.plain_extend_loop _]
    show wpAny _ A1.in1 (pyNext (.ref it) >>= _) _ _ s
    have hI : upd (upd H it (TiO t it i)) q (.lst (xs.take i)) it = some (TiO t it i) := by rw [upd_ne hqi.symm, upd_same]
    have ht' : SqT X.K (upd (upd H it (TiO t it i)) q (.lst (xs.take i))) t xs := SqT.ext ht (fun b o e => by
      rw [upd_ne (fun z => by rw [z, n2] at e; cases e), upd_ne (fun z => by rw [z, n1] at e; cases e)]; exact e)
    obtain ⟨its, rv, pl, hz⟩ := I.tuple ht'
    obtain ⟨u, hu, ru⟩ := rv.get (List.getElem?_eq_getElem hlt)
    refine wpAny_bind (ti_next ((I.hok it _ hI).1) pl (by rw [List.getElem?_toArray]; exact hu) fun h' e1 sb => ?_)
    have mu : Mut (upd (upd H it (TiO t it i)) q (.lst (xs.take i)) it) := by rw [hI]; exact True.intro
    have I2 := I.write (x := it) (e := it) (t' := s.toks) mu (.inl rfl) (fun b o nb z => (sb.2 b nb).trans z) ⟨_, e1⟩ (tiO_ok e1)
    have eH : upd (upd (upd H it (TiO t it i)) q (.lst (xs.take i))) it (TiO t it (i + 1)) = upd (upd H it (TiO t it (i + 1))) q (.lst (xs.take i)) := by
      rw [updH_comm hqi, upd_upd]
    rw [eH] at I2
    show wpAny _ A1.in1 (updateSeq q (·.push u) >>= _) _ _ _
    obtain ⟨z, its', k, r2, hl2, e⟩ := I2.lstM upd_same
    refine wpAny_bind (wpAny_updateSeq e rfl (wpAny_pure ⟨plainId_quiet PySem.F.plain_extend_loop _, ?_⟩) (by rw [List.size_toArray]; rw [← hl2, List.length_take]; omega) (by show (its'.toArray.push u).size ≤ sizeLine + 1; rw [Array.size_push, List.size_toArray, ← hl2, List.length_take]; omega))
    have I3 := I2.lset (f := (·.push u)) (its' := its' ++ [u]) (ys := xs.take (i + 1)) (t' := s.toks) upd_same e (by simp) (by rw [List.take_succ_eq_append_getElem hlt]; exact r2.append (.cons ru .nil)) (by rw [List.length_take]; omega)
    rw [upd_upd] at I3
    exact ih (i + 1) _ (by omega) hlt I3 ht n1 n2
/-- what __len__ promises: the length of the tuple in a field -/
def spLenO (K : PySem.W.Frag) (C : Addr) (f : Str) : Sp := fun vs H Q _ => ∃ a dx fs t xs, vs = [.ref a] ∧ H a = some (.ins C dx fs) ∧ fs.lookup f = some (.ref t) ∧ SqT K H t xs ∧ xs.length ≤ sizeLine ∧ Q (.int xs.length) H
theorem call_at0 {A : Around} {E' : Value → Shared → Prop} {k : Nat} {g : Addr} {fd : FuncData} {ps : List Str} {sp : Sp} {us : List Value} {vs : List V} {Q : VK} (F : FnOk X.prog X.w X.K X.mg X.base CX0 k g fd ps sp) (hb : Binds X.K fd ps []) (hr : Room k A) (I : Inv X pins σ H s) (e0 : Env0 X.prog X.w X.K X.mg X.base A X.stack s H) (r : Vals vs us) (h : sp vs H Q E) :
    wpAny (model X.prog X.w) A (call (.ref g) us) (EP X pins σ Q) E' s := by
  have n : us.length = ps.length := r.length.symm.trans (F.len _ _ _ _ h)
  refine wpAny_call (codeAny_mono (F.run A X.stack s H ⟨us, []⟩ us vs Q E hr e0 (by
    have := hb s us I.kIn (by rw [List.append_nil]; exact n)
    rw [List.append_nil] at this
    exact this) r h) fun r s' hq => ?_)
  cases r with
  | error e => exact False.elim hq
  | ok fl =>
    cases fl with
    | ret u => exact I.after hq
    | next => exact False.elim hq
    | brk => exact False.elim hq
    | cont => exact False.elim hq
theorem len_in {E' : Value → Shared → Prop} {Q : Value → Shared → Prop} {sp : Sp} {dx : Addr} {fs : List (Str × V)} (S : OwnM X.K C "__len__" fl) (F : FnOk X.prog X.w X.K X.mg X.base CX0 kL fl fdL psL sp) (hb : Binds X.K fdL psL []) (hr : Room kL A1.in1) (e0 : Env0 X.prog X.w X.K X.mg X.base A1.in1 X.stack s H) (I : Inv X pins σ H s)
    (ha : H a = some (.ins C dx fs)) (q : sp [.ref a] H (fun z H' => ∃ n : Nat, z = .int n ∧ n < 2 ^ 63 ∧ ∀ t s', Inv X pins σ H' s' → Q (.int n t) s') E) : wpAny (model X.prog X.w) A1 (call (.builtin "len") [.ref a]) Q E' s := by
  obtain ⟨ox, od, J⟩ := ins_inst I ha
  have inner := call_at0 (E' := E') (A := A1.in1) (us := [.ref a]) (vs := [.ref a]) F hb hr I e0 (.cons rfl .nil) q
  refine Calls.call_function_entry kind_len plain_len entry_len (args_len1 _) ?_
  unfold Builtin.«len»
  refine wpAny_bind (m := oneArg "len" _) (wpAny_pure (wpAny_bind (m := callSpecial? (.ref a) (Str.ofString "__len__")) (PySem.W.special_fn I.kIn J S.at_ (beq_iff_eq.mp S.fn) (wpAny_mono inner (fun v s' z => ?_) fun _ _ x => x))))
  obtain ⟨z', H', I', rz, n, ez, hn, qz⟩ := z
  subst ez
  obtain ⟨t, rfl⟩ := (show ∃ t, v = Value.int n t from rz)
  refine wpAny_bind (wpAny_holding (wpAny_pure (wpAny_bind (wpAny_letGo ?_))))
  have n1 : ¬ (n : Int) < 0 := by omega
  have n2 : ¬ (n : Int) ≥ 2 ^ 63 := by omega
  show wpAny _ _ (if (n : Int) < 0 then _ else _) _ _ _
  rw [if_neg n1]
  show wpAny _ _ (if (n : Int) ≥ 2 ^ 63 then _ else _) _ _ _
  rw [if_neg n2]
  exact wpAny_bind (wpAny_mkInt (wpAny_pure ⟨_, rfl, qz _ _ (I'.tok _)⟩))
theorem hint_in {Q : Bool → Shared → Prop} {dx : Addr} {f : Str} {fs : List (Str × V)} (S : OwnM X.K C "__len__" fl) (F : FnOk X.prog X.w X.K X.mg X.base CX0 kL fl fdL psL (spLenO X.K C f)) (hb : Binds X.K fdL psL []) (hr : Room kL A1.in1) (e0 : Env0 X.prog X.w X.K X.mg X.base A1.in1 X.stack s H) (I : Inv X pins σ H s)
    (ha : H a = some (.ins C dx fs)) (hf : fs.lookup f = some (.ref t)) (ht : SqT X.K H t xs) (hl : xs.length ≤ sizeLine) (q : ∀ b s', Inv X pins σ H s' → Q b s') : wpAny (model X.prog X.w) A1 (Builtin.List.listLengthHint (.ref a)) Q X.xe s := by
  obtain ⟨ox, od, J⟩ := ins_inst I ha
  unfold Builtin.List.listLengthHint
  refine wpAny_bind (wpAny_bind (J.type.here ((PySem.W.looks_findIn I.kIn S.at_).here ?_)))
  refine PySem.W.KFB.if_not rfl ?_
  refine wpAny_ite_split (fun _ => ?_) (fun z => absurd rfl z)
  refine wpAny_bind (wpAny_rule ?_)
  refine wpAny_bind (wpAny_attempt (len_in (E := fun _ _ _ => False) S F hb hr e0 I ha ⟨a, dx, fs, t, xs, rfl, ha, hf, ht, hl, xs.length, rfl, by rw [sizeLine_eq] at hl; omega, fun tk s' I' => ?_⟩))
  refine wpAny_bind (wpAny_of_eq (a := some ((xs.length : Nat) : Int)) rfl ?_)
  dsimp only
  rw [Int.toNat_natCast, notLongL hl]
  exact wpAny_pure (q _ _ I')
theorem star_own {f : Str} {dx : Addr} {fs : List (Str × V)} {Q : List Value → Shared → Prop} (hc : X.calm = true) (S : StO X.K C fi fl) (FI : FnOk X.prog X.w X.K X.mg X.base CX0 kI fi fdI psI (spIterO X.K C f)) (bI : Binds X.K fdI psI []) (hrI : Room kI X.A.in1)
    (FL : FnOk X.prog X.w X.K X.mg X.base CX0 kL fl fdL psL (spLenO X.K C f)) (bL : Binds X.K fdL psL []) (hrL : Room kL X.A.in1.in1) (I : Inv X pins σ H s) (ha : H a = some (.ins C dx fs)) (hf : fs.lookup f = some (.ref t)) (ht : SqT X.K H t xs) (hl : xs.length ≤ sizeLine)
    (hQ : ∀ us s' it q, H it = none → H q = none → it ≠ q → Inv X pins σ (upd (upd H it (TiE it xs.length)) q (.lst xs)) s' → Vals xs us → Q us s') : PySem.W.StarOf (model X.prog X.w) X.A X.xe (.ref a) Q s := by
  obtain ⟨ox, od, J⟩ := ins_inst I ha
  have z : wpAny (model X.prog X.w) X.A (collect (.ref a)) Q X.xe s := by
    unfold collect
    refine wpAny_bind (wpAny_runValue (codeAny_builtin PySem.F.entry_proto_collect ?_))
    rw [Around.under_plainId PySem.F.plain_proto_collect _]
    show wpAny _ X.A.in1 (newList [] >>= fun l => again (.builtin "list.__iadd__" ⟨[l, .ref a], []⟩)) _ _ s
    refine wpAny_bind (wpAny_newObj_type ?_)
    refine wpAny_pure ⟨plainId_quiet PySem.F.plain_list_iadd _, codeAny_builtin PySem.F.entry_list_iadd ?_⟩
    rw [Around.under_plainId PySem.F.plain_list_iadd _]
    have nq : H s.heap.objs.size = none := I.fresh
    have I1 : Inv X pins σ (upd H s.heap.objs.size (.lst [])) { s with heap := s.heap.push { cls := .type "list", data := .seq ([] : List Value).toArray } } := I.lnew (its := []) (t' := s.toks) .nil (Nat.zero_le _)
    generalize hq : s.heap.objs.size = q at nq I1
    have naq : a ≠ q := ne_of_none ha nq
    have ha1 : upd H q (.lst []) a = some (.ins C dx fs) := by rw [upd_ne naq]; exact ha
    have ex1 : Ext H (upd H q (.lst [])) := fun b o e => by rw [upd_ne (ne_of_none e nq)]; exact e
    obtain ⟨ox1, od1, J1⟩ := ins_inst I1 ha1
    obtain ⟨m1, hF1⟩ := I1.fr
    show wpAny _ X.A.in1 (Builtin.List.listExtendWith (.ref q) (.ref a) (.ref q)) _ _ _
    unfold Builtin.List.listExtendWith
    refine wpAny_bind (J1.type.here ?_)
    have h1 : Builtin.List.listSameRef (.ref q) (.ref a) = false := by simp [Builtin.List.listSameRef, naq.symm]
    have h2 : (Value.ref C == Value.type "list") = false := rfl
    have h3 : (Value.ref C == Value.type "tuple") = false := rfl
    simp only [h1, h2, h3, Bool.or_false, Bool.false_eq_true, if_false]
    refine wpAny_bind (PySem.W.owit_iter hF1 I1.ok.mod.kin J1 S.it S.itF ?_)
    refine wpAny_mono (call_at0 (E := fun _ _ _ => False) (A := X.A.in1) (us := [.ref a]) (vs := [.ref a]) (Q := fun v H' => ∃ it, v = .ref it ∧ upd H q (.lst []) it = none ∧ H' = upd (upd H q (.lst [])) it (TiO t it 0)) FI bI hrI I1 I1.env0.in1 (.cons rfl .nil)
      ⟨a, dx, fs, t, xs, rfl, ha1, hf, ht.ext ex1, fun it n => ⟨it, rfl, n, rfl⟩⟩) (fun v s2 hv => ?_) fun _ _ z => z
    obtain ⟨v', H2, I2, rv, it, ev, nit, eH⟩ := hv
    subst ev eH
    obtain rfl : v = Value.ref it := rv
    have hit : upd (upd H q (.lst [])) it (TiO t it 0) it = some (TiO t it 0) := upd_same
    have oit := (I2.hok it _ hit).1
    unfold PySem.W.OwitIt
    have hT2 : s2.TypeIs (.ref it) "tuple_iterator" := ⟨_, oit, rfl⟩
    refine wpAny_specialOf hT2 PySem.F.slot_tuple_iterator_next.lookup ?_
    have niq : it ≠ q := fun e => by rw [e, upd_same] at nit; cases nit
    have nit0 : H it = none := by rw [upd_ne niq] at nit; exact nit
    have nai : a ≠ it := ne_of_none ha nit0
    have ex2 : Ext H (upd (upd H q (.lst [])) it (TiO t it 0)) := fun b o e => by rw [upd_ne (ne_of_none e nit0), upd_ne (ne_of_none e nq)]; exact e
    have eC : upd (upd H q (.lst [])) it (TiO t it 0) = upd (upd H it (TiO t it 0)) q (.lst []) := updH_comm niq.symm
    refine wpAny_bind (wpAny_holding (hint_in (A1 := X.A.in1) S.ln FL bL hrL I2.env0.in1.in1 I2 (by rw [upd_ne nai, upd_ne naq]; exact ha) hf (ht.ext ex2) hl fun b s3 I3 => ?_))
    obtain ⟨its0, _, pl0, _⟩ := I.tuple ht
    obtain ⟨o0, ho0, hc0, _⟩ := pl0
    have hne : q ≠ t := fun e => by
      have := Heap.lt_size ho0
      rw [← e, ← hq] at this
      exact Nat.lt_irrefl _ this
    obtain ⟨its2, _, pl2, _⟩ := I2.tuple (ht.ext ex2)
    have hit2 : it ≠ t := fun e => by
      obtain ⟨o2, ho2, hc2, _⟩ := pl2
      rw [← e, oit] at ho2
      cases ho2
      injection hc2 with hc3
      exact absurd hc3 (by decide)
    have fin : ∀ s4, Inv X pins σ (upd (upd H it (TiO t it 0)) q (.lst [])) s4 → codeAny (model X.prog X.w) X.A (.builtin "list.extend.loop" ⟨[.ref q, .ref it, .ref q], []⟩) _ s4 := fun s4 I4 =>
      ti_loop (A1 := X.A) (xs := xs) (Rs := fun r s' => match r with | .ok (.ret v) => wpAny (model X.prog X.w) X.A (match v with | .ref a => (do match (← load a).data with | .seq xs _ => pure xs.toList | _ => unsupported "internal:collect") | _ => unsupported "internal:collect") Q X.xe s' | .ok _ => False | .error e => X.xe e s')
        (res := .ref q) (I.ok.hd hc) niq.symm hne hit2 hl (fun s5 H5 I5 e5 => by
          subst e5
          obtain ⟨z6, its6, k6, r6, hl6, e6⟩ := I5.lstM upd_same
          show wpAny _ X.A (load q >>= _) _ _ s5
          refine wpAny_bind (wpAny_load e6 ?_)
          refine wpAny_pure ?_
          have e7 : its6.toArray.toList = its6 := by simp
          show Q its6.toArray.toList s5
          rw [e7]
          exact hQ its6 s5 it q nit0 nq niq I5 r6) xs.length 0 s4 rfl (Nat.zero_le _) I4 ht nit0 nq
    rw [eC] at I3
    refine wpAny_ite_split (fun _ => ?_) (fun _ => wpAny_pure ⟨plainId_quiet PySem.F.plain_extend_loop _, fin _ I3⟩)
    refine wpAny_bind (wpAny_rule ?_)
    refine wpAny_bind ?_
    show wpAny _ _ (updateSeq q (·.push .none) >>= fun _ => updateSeq q (·.pop)) _ _ _
    obtain ⟨z, its, k, r3, hl3, e3⟩ := I3.lstM upd_same
    cases r3
    refine wpAny_bind (wpAny_updateSeq e3 rfl ?_)
    have I4 := I3.lset (f := (·.push Value.none)) (its' := [Value.none]) (ys := [.non]) (t' := s3.toks) upd_same e3 (by simp) (.cons rfl .nil) (by rw [List.length_singleton, sizeLine_eq]; decide)
    obtain ⟨z4, its4, k4, r4, hl4, e4⟩ := I4.lstM upd_same
    obtain ⟨u4, rfl, ru4⟩ := r4.one
    refine wpAny_updateSeq e4 rfl ?_ (by show 1 ≤ sizeLine; rw [sizeLine_eq]; decide) (by show 0 ≤ sizeLine + 1; exact Nat.zero_le _)
    refine wpAny_pure ⟨plainId_quiet PySem.F.plain_extend_loop _, fin _ ?_⟩
    have I5 := I4.lset (f := (·.pop)) (its := [u4]) (its' := []) (ys := []) (t' := s3.toks) upd_same e4 (by rfl) .nil (Nat.zero_le _)
    rw [upd_upd, upd_upd] at I5
    exact I5
  unfold PySem.W.StarOf notIterableAtAll
  exact wpAny_bind (wpAny_bind (J.type.here ((PySem.W.looks_findIn I.kIn S.it).here (wpAny_pure ⟨rfl, z⟩))))
end
end JP
namespace JP
open PySem PySem.Spec PyProof.Rows L2
section
variable {X : Cx} {C fi fl : Addr} {fdI fdL : FuncData} {psI psL : List Str} {kI kL : Nat} {f : Str} {e : Expr} {es : List Expr} {te : TE} {t : TA} {p : Pos}
def tStarO (K : PySem.W.Frag) (C : Addr) (f : Str) (te : TE) (t : TA) : TA := fun σ H Q => te σ H fun x H1 => ∃ a dx fs tt xs, x = .ref a ∧ H1 a = some (.ins C dx fs) ∧ fs.lookup f = some (.ref tt) ∧ SqT K H1 tt xs ∧ xs.length ≤ sizeLine ∧
  ∀ it q, H1 it = none → H1 q = none → it ≠ q → t σ (upd (upd H1 it (TiE it xs.length)) q (.lst xs)) fun ys H2 => Q (xs ++ ys) H2
theorem pa_starO (hc : X.calm = true) (S : StO X.K C fi fl) (FI : FnOk X.prog X.w X.K X.mg X.base CX0 kI fi fdI psI (spIterO X.K C f)) (bI : Binds X.K fdI psI []) (FL : FnOk X.prog X.w X.K X.mg X.base CX0 kL fl fdL psL (spLenO X.K C f)) (bL : Binds X.K fdL psL [])
    (hrI : Room (kI + 1) X.A) (hrL : Room (kL + 2) X.A) (he : PE X e te) (hr : PA X es t) (hs : starEach (.Starred e p :: es) X.env = (true, eval e X.env) :: starEach es X.env := by rfl) : PA X (.Starred e p :: es) (tStarO X.K C f te t) := by
  refine ⟨fun pos pins s σ H Q I h => ?_⟩
  refine PySem.W.items_star (thn (he.run pins s σ H _ I h) fun v s1 ⟨y, H1, I1, ry, a, dx, fs, tt, xs, ey, ha, hf, ht, hl, q⟩ => ?_) hs
  subst ey
  obtain rfl : v = Value.ref a := ry
  refine star_own hc S FI bI (Room.in1 hrI) FL bL (Room.in1 (Room.in1 hrL : Room (kL + 1) X.A.in1)) I1 ha hf ht hl fun us s2 it q' n1 n2 n3 I2 rv => ?_
  exact thn (hr.run pos pins s2 σ _ _ I2 (q it q' n1 n2 n3)) fun ws s3 ⟨vs, H3, I3, r3, q3⟩ => ⟨xs ++ vs, H3, I3, rv.append r3, q3⟩
end
end JP
namespace JP
open PySem PySem.Spec PyProof.Rows L2
def dChain (r r' : R2D) (ta tb tc : TED) : TED := fun δ G Q => ta δ G fun x G1 => tb δ G1 fun y G2 => r x y G2 fun z G3 => match z with
  | .bl true => tc δ G3 fun w G4 => r' y w G4 Q
  | .bl false => Q (.bl false) G3
  | _ => False
section
variable {X : Cx} {B : Bs} {a b c : Expr} {ta tb tc : TED} {pos : Pos} {op op' : CmpOp} {rv rv' : R2} {r r' : R2D}
theorem de_chain (ho : OpR X (compareOp op) rv) (hA : OpA X.K rv r) (ho' : OpR X (compareOp op') rv') (hA' : OpA X.K rv' r') (ha : DE X B a ta) (hb : DE X B b tb) (hc : DE X B c tc) (hm : lastMarks [op, op'] [b, c] = false := by with_unfolding_all rfl) :
    DE X B (.Compare a [op, op'] [b, c] pos) (dChain r r' ta tb tc) :=
  PE.weak (pe_chain ho ho' ha hb hc hm) fun σ H Q ⟨F, G, δ, Qd, S, h, k⟩ => up2 S h fun x y H2 F2 G2 d e s2 S2 r1 r2 h2 => hA B σ δ H2 F2 G2 x y d e _ _ S2 r1 r2 h2 fun z H3 ⟨F3, G3, d3, s3, S3, r3, q3⟩ => by
    cases d3 with
    | bl c' =>
      cases r3
      refine ⟨c', rfl, ?_⟩
      cases c' with
      | true =>
        rw [if_pos rfl]
        exact ⟨F3, G3, δ, _, S3, q3, fun w H4 ⟨F4, G4, d4, s4, S4, r4, q4⟩ => hA' B σ δ H4 F4 G4 y w e d4 _ _ S4 (r2.mono (s3.trans s4)) r4 q4 fun v H5 ⟨F5, G5, d5, s5, S5, r5, q5⟩ => k v H5 ⟨F5, G5, d5, ((s2.trans s3).trans s4).trans s5, S5, r5, q5⟩⟩
      | false =>
        rw [if_neg (by decide)]
        exact k _ _ ⟨F3, G3, _, s2.trans s3, S3, .bl _, q3⟩
    | _ => exact q3.elim
theorem dt_chain (ho : OpR X (compareOp op) rv) (hA : OpA X.K rv r) (ho' : OpR X (compareOp op') rv') (hA' : OpA X.K rv' r') (ha : DE X B a ta) (hb : DE X B b tb) (hc : DE X B c tc) (hm : lastMarks [op, op'] [b, c] = false := by with_unfolding_all rfl) :
    DT X B (.Compare a [op, op'] [b, c] pos) (dTest (dChain r r' ta tb tc)) :=
  PT.weak (pt_chain ho ho' ha hb hc hm) fun σ H Q ⟨F, G, δ, Qd, S, h, k⟩ => up2 S h fun x y H2 F2 G2 d e s2 S2 r1 r2 h2 => hA B σ δ H2 F2 G2 x y d e _ _ S2 r1 r2 h2 fun z H3 ⟨F3, G3, d3, s3, S3, r3, q3⟩ => by
    cases d3 with
    | bl c' =>
      cases r3
      refine ⟨c', rfl, ?_⟩
      cases c' with
      | true =>
        rw [if_pos rfl]
        exact ⟨F3, G3, δ, _, S3, q3, fun w H4 ⟨F4, G4, d4, s4, S4, r4, q4⟩ => hA' B σ δ H4 F4 G4 y w e d4 _ _ S4 (r2.mono (s3.trans s4)) r4 q4 fun v H5 ⟨F5, G5, d5, s5, S5, r5, q5⟩ => by
          cases d5 with
          | bl b5 =>
            cases r5
            exact ⟨b5, rfl, k b5 H5 ⟨F5, G5, ((s2.trans s3).trans s4).trans s5, S5, q5⟩⟩
          | _ => exact q5.elim⟩
      | false =>
        rw [if_neg (by decide)]
        exact ⟨false, rfl, k _ _ ⟨F3, G3, s2.trans s3, S3, q3⟩⟩
    | _ => exact q3.elim
end
def min2D : LD := fun ds G Q => match ds with | [.int i, .int j] => Q (.int (if j < i then j else i)) G | _ => False
theorem min2_A {K : PySem.W.Frag} : CallA K (fun xs H Q => ∃ i j, xs = [.int i, .int j] ∧ Q (.int (if j < i then j else i)) H) min2D := fun B σ δ H F G xs ds Qd Q S r h k => by
  unfold min2D at h
  split at h
  · obtain ⟨v, u, rfl, rv, ru⟩ := repAll2 r
    rw [rep_int rv, rep_int ru]
    exact ⟨_, _, rfl, k _ _ (.val S (.int _) h)⟩
  · exact h.elim
section
variable {X : Cx} {B : Bs} {K : PySem.W.Frag} {e : Expr} {te : TED} {pos : Pos}
def dTruT (te : TED) : TTD := fun δ G Q => te δ G fun d G1 => match d with | .tup ds => Q (!ds.isEmpty) G1 | _ => False
theorem dt_truT (he : DE X B e te) (ht : ∀ whole, isTrue e X.env whole = (do let v ← whole; standAt e.pos; holding [v] (truthy v)) := by intro _; rfl) : DT X B e (dTruT te) :=
  PT.weak (pt_truth he ht) fun σ H Q ⟨F, G, δ, Qd, S, h, k⟩ => ⟨F, G, δ, _, S, h, fun v H1 ⟨F1, G1, d, s1, S1, r1, h1⟩ => by
    cases d with
    | tup ds =>
      obtain ⟨p, xs, rfl, hp, ra⟩ := rep_tup r1
      refine ⟨!ds.isEmpty, .inr (.inl ⟨xs, SqT.of (S1.ds.sub _ _ hp), ?_⟩), k _ _ ⟨F1, G1, s1, S1, h1⟩⟩
      cases ra <;> rfl
    | _ => exact h1.elim⟩
def gLstD (n : Nat) (t : TGsD) : TGD := fun d δ G Q => match d with | .lst ds => ds.length = n ∧ t ds δ G Q | _ => False
theorem dg_lst {es : List Expr} {k : Nat} {t : TGsD} {n : Nat} (hc : X.calm = true) (h : DGs X B es t)
    (hn : (assignEach es X.env).length = n := by rfl) (hst : (assignEach es X.env).findIdx? (·.1) = none := by rfl) : DG X B (.Tuple es k pos) (gLstD n t) :=
  PG.weak (pg_unl hc h hn hst) fun v σ H Q ⟨F, G, δ, d, Qd, S, r, h, k⟩ => by
    cases d with
    | lst ds =>
      cases r with
      | lst hq ra => exact ⟨_, _, rfl, SqL.of (S.ds.sub _ _ hq), ra.length.trans h.1, F, G, δ, ds, Qd, S, ra, h.2, k⟩
    | _ => exact h.elim
def dAsg2 (te : TED) (g1 g2 : TGD) : TSD := fun E δ G => te δ G fun d G1 => g1 d δ G1 fun δ1 G2 => g2 d δ1 G2 E.nx
theorem ds_asg2 {t1 t2 : Expr} {g1 g2 : TGD} (he : DE X B e te) (h1 : DG X B t1 g1) (h2 : DG X B t2 g2) (ha : (assignEach [t1, t2] X.env).map (·.2) = [assign t1 X.env, assign t2 X.env] := by rfl) (hw : swappedStores [t1, t2] e X.env = pure none := by rfl) :
    DSt X B (.Assign [t1, t2] e pos) (dAsg2 te g1 g2) :=
  PS.weak (ps_asg2 he h1 h2 ha hw) fun D σ H ⟨F, G, δ, E, S, h, L⟩ => ⟨F, G, δ, _, S, h, fun v H1 ⟨F1, G1, d, s1, S1, r1, q1⟩ => ⟨F1, G1, δ, d, _, S1, r1, q1, fun σ2 H2 ⟨F2, G2, δ2, s2, S2, q2⟩ => ⟨F2, G2, δ2, d, E.nx, S2, r1.mono s2, q2, fun σ3 H3 q3 => L.nx σ3 H3 (q3.mono (s1.trans s2))⟩⟩⟩
end
section
variable {X : Cx} {B : Bs} {K : PySem.W.Frag} {k : Nat} {C g : Addr} {fd : FuncData} {ps : List Str} {sp : SpD} {W : WD} {op : CmpOp} {a b e : Expr} {es : List Expr} {ta tb te : TED} {t : TAD} {p pos : Pos}
variable {σ : L2.St} {H F : Hp} {δ : SD} {G : Gm}
def dStarO (C : Addr) (f : Str) (te : TED) (t : TAD) : TAD := fun δ G Q => te δ G fun d G1 => match insD d G1 with
  | some (C1, fs) => C1 = C ∧ ∃ ds, fs.lookup f = some (.tup ds) ∧ ds.length ≤ sizeLine ∧ t δ G1 fun es G2 => Q (ds ++ es) G2
  | none => False
theorem da_starO {fi fl : Addr} {fdI fdL : FuncData} {psI psL : List Str} {kI kL : Nat} {f : Str} (hc : X.calm = true) (So : StO X.K C fi fl) (FI : FnOk X.prog X.w X.K X.mg X.base CX0 kI fi fdI psI (spIterO X.K C f)) (bI : Binds X.K fdI psI []) (FL : FnOk X.prog X.w X.K X.mg X.base CX0 kL fl fdL psL (spLenO X.K C f)) (bL : Binds X.K fdL psL [])
    (hrI : Room (kI + 1) X.A) (hrL : Room (kL + 2) X.A) (he : DE X B e te) (hr : DA X B es t) (hs : starEach (.Starred e p :: es) X.env = (true, eval e X.env) :: starEach es X.env := by rfl) : DA X B (.Starred e p :: es) (dStarO C f te t) :=
  PA.weak (pa_starO hc So FI bI FL bL hrI hrL he hr hs) fun σ H Q ⟨F, G, δ, Qd, S, h, k⟩ => ⟨F, G, δ, _, S, h, fun v H1 ⟨F1, G1, d, s1, S1, r1, h1⟩ => by
    cases q : insD d G1 with
    | none => simp only [q] at h1
    | some cf =>
      obtain ⟨C', fs⟩ := cf
      simp only [q] at h1
      obtain ⟨rfl, ds, hl, hz, h2⟩ := h1
      obtain ⟨a1, dx1, fv1, rfl, e1, _, _, rf⟩ := ins_rep S1 r1 q
      obtain ⟨u, eu, ru⟩ := rf.look hl
      obtain ⟨tp, xs, rfl, hp, ra⟩ := rep_tup ru
      refine ⟨a1, dx1, fv1, tp, xs, rfl, e1, eu, SqT.of (S1.ds.sub _ _ hp), by rw [ra.length]; exact hz, fun it q' n1 n2 n3 => ?_⟩
      obtain ⟨d1, t1⟩ := S1.ds.new (o := TiE it xs.length) n1
      have n2' : upd H1 it (TiE it xs.length) q' = none := by rw [upd_ne n3.symm]; exact n2
      obtain ⟨d2, t2⟩ := d1.new (o := .lst xs) n2'
      have tt := t1.trans t2
      exact ⟨_, G1, δ, _, ⟨d2, S1.gr.trans tt, S1.sl.mono tt⟩, h2, fun ys H2 ⟨F2, G2, es, s2, S2, r2, h2⟩ => k _ _ ⟨F2, G2, _, (s1.trans tt).trans s2, S2, (ra.mono (tt.trans s2)).append r2, h2⟩⟩⟩
end
/-- __len__ by trees -/
def lenOS (C : Addr) (f : Str) : SpD := fun ds G Q _ => ∃ fs ts, ds = [.ins C fs] ∧ fs.lookup f = some (.tup ts) ∧ ts.length ≤ sizeLine ∧ Q (.int ts.length) G
theorem lenO_of {P : Program} {w : World} {K : PySem.W.Frag} {mg : Str → Option Value} {base : Heap} {k : Nat} {C f : Addr} {fd : FuncData} {ps : List Str} {fld : Str} (Fn : FnOk P w K mg base CX0 k f fd ps (spLenO K C fld)) : FnD P w K mg base k f fd ps (lenOS C fld) :=
  (fn_any Fn).imp fun vs H Q E ⟨B, G, ds, Qd, W, d, r, ⟨fs, ts, ed, hf, hl, q⟩, kq, ke⟩ => by
    subst ed
    obtain ⟨v, rfl, r1⟩ := repAll1 r
    cases r1 with
    | ins e gc na rf =>
      obtain ⟨v2, e2, r2⟩ := rf.look hf
      obtain ⟨tp, xs, rfl, hp, ra⟩ := rep_tup r2
      exact ⟨_, _, _, tp, xs, rfl, d.sub _ _ e, e2, SqT.of (d.sub _ _ hp), by rw [ra.length]; exact hl, kq _ _ ⟨B.F, G, .int ts.length, .refl _, d, .refl _, by rw [ra.length]; exact .int _, q⟩⟩
def ipaddD : R2D := fun a b G Q => match a, b with | .int i, .int j => Q (.int (i + j)) G | _, _ => False
theorem ipadd_A {K : PySem.W.Frag} : IpA K (ipI fun i j => i + j) ipaddD := fun B σ δ H F G x y a b Qd Q S r1 r2 h k => by
  unfold ipaddD at h
  split at h
  · rw [rep_int r1, rep_int r2]
    exact ⟨_, _, rfl, rfl, k _ _ (.val S (.int _) h)⟩
  · exact h.elim
section
variable {X : Cx} {B : Bs} {o i e f : Expr} {to ti tx : TED} {pos apos cpos : Pos} {w : World}
theorem de_ngetW (hw : X.w = w) (hu : X.A.units + 1 < cLine) (ho : DE X B o to) (hi : DE X B i ti) (hs : NoSl i) : DE X B (.Subscript o i pos) (dNGet w to ti) := hw ▸ de_nget hu ho hi hs
theorem de_nget2W (hw : X.w = w) (hu : X.A.units + 1 < cLine) (ho : DE X B o to) (hi : DE X B e ti) (hx : DE X B f tx) (m : M2 X o "get" apos e f cpos) : DE X B (.Call (.Attribute o "get" apos) [e, f] [] cpos) (dNGet2 w to ti tx) := hw ▸ de_nget2 hu ho hi hx m
end
end JP
namespace JP
open PySem PySem.Spec PyProof.Rows L2
open Sem (wp)
section
variable {prog : Program} {w : World} {K : Type} [DecidableEq K] {knd : HeapKind prog w K} {A : Around} {E : Value → Shared → Prop} {s : Shared}
/-- are they the same pairs -/
theorem samePairsH {nm : String} {a b : Addr} {ka kb : List (K × Addr × Value)} {r : Bool} {Q : Bool → Shared → Prop} (hu : knd.room A) (ha : (a == sysModules) = false) (hb : (b == sysModules) = false)
    (da : s.heap.DictOfH knd a ka) (db : s.heap.DictOfH knd b kb) (hits : ka.length = kb.length → PySem.W.KeqHits A s (pairsH kb) (pairsH ka) r) (h : Q (ka.length == kb.length && r) s) :
    wpAny (model prog w) A (Builtin.Dict.samePairs nm a b) Q E s := by
  obtain ⟨oa, es, ep, hoa, _, hda, hka, hisa, hna⟩ := da
  obtain ⟨ob, es', ep', hob, _, hdb, hkb, hisb, hnb⟩ := db
  have hla : ka.length = es.size := (size_of_entries hka).symm
  have hlb : kb.length = es'.size := (size_of_entries hkb).symm
  rw [hla, hlb] at h
  unfold Builtin.Dict.samePairs Builtin.Dict.showsAll
  rw [if_neg (show ¬ (a == sysModules) = true by rw [ha]; exact Bool.false_ne_true), if_neg (show ¬ (b == sysModules) = true by rw [hb]; exact Bool.false_ne_true)]
  refine wpAny_bind (wpAny_pure (wpAny_bind (wpAny_pure ?_)))
  refine wpAny_bind (wpAny_dictEntries hoa hda ?_)
  dsimp only
  refine wpAny_bind (wpAny_dictEntries hob hdb ?_)
  by_cases hsz : es.size = es'.size
  case neg =>
    rw [if_pos (by simpa using hsz)]
    have hbf : (es.size == es'.size) = false := by simpa using hsz
    rw [hbf, Bool.false_and] at h
    exact wpAny_bind (wpAny_rule (wpAny_pure h))
  case pos =>
    have h' : Q r s := by simpa [hsz] using h
    have hits' := hits (by rw [hla, hlb]; exact hsz)
    rw [if_neg (by rw [hsz]; simp)]
    refine wpAny_bind (wpAny_dictEpoch hoa hda ?_)
    refine wpAny_bind ?_
    rw [Std.Legacy.Range.forIn_eq_forIn_range']
    simp only [Std.Legacy.Range.size, Nat.sub_zero, Nat.add_sub_cancel, Nat.div_one]
    refine wpAny_forIn_list _
      (fun rest q s' => s' = s ∧ q = (none, ()) ∧ ∃ i, rest = List.range' i (es.size - i) ∧ i ≤ es.size ∧ PySem.W.KeqHits A s (pairsH kb) ((pairsH ka).drop i) r)
      _ ?_ ?_ _ _ ⟨rfl, rfl, 0, by simp, Nat.zero_le _, hits'⟩
    · rintro x rest q s' ⟨rfl, rfl, i, hr, hi, hpre⟩
      have hlt : i < es.size := by
        rcases Nat.lt_or_ge i es.size with h | h
        · exact h
        · rw [Nat.sub_eq_zero_of_le h] at hr; simp at hr
      obtain ⟨rfl, hrest⟩ : x = i ∧ rest = List.range' (i + 1) (es.size - (i + 1)) := by
        have e : es.size - i = (es.size - (i + 1)) + 1 := by omega
        rw [e, List.range'_succ] at hr
        injection hr with h1 h2
        exact ⟨h1, h2⟩
      refine wpAny_bind (wpAny_dictEntries hoa hda ?_)
      have hlt' : x < ka.length := by rw [hla]; exact hlt
      obtain ⟨⟨k, c, v⟩, hkv⟩ : ∃ kv, ka[x]? = some kv := ⟨ka[x], List.getElem?_eq_getElem hlt'⟩
      have hdrop : (pairsH ka).drop x = (k, v) :: (pairsH ka).drop (x + 1) := by
        have e1 : (pairsH ka)[x]? = some (k, v) := by unfold pairsH; rw [List.getElem?_map, hkv]; rfl
        obtain ⟨h1, h2⟩ := List.getElem?_eq_some_iff.mp e1
        rw [List.drop_eq_getElem_cons h1, h2]
      rw [hdrop] at hpre
      rw [entry_at hka x, hkv]
      have hkey : knd.is s'.heap k c := hisa _ (List.mem_of_getElem? hkv)
      show wpAny _ _ (holding [Value.ref c, v] _ >>= _) _ _ _
      refine wpAny_bind (wpAny_holding (wpAny_bind (wpAny_dictFind_heap hu hkey hob hdb hkb hisb hnb ?_ ?_)))
      · intro hno
        have hn : valueAt (pairsH kb) k = none := by rw [valueAt_pairsH, atKey_none_of_get hno]; rfl
        rcases hpre.inv with ⟨_, er⟩ | ⟨y, _, _, hy, _⟩
        · rw [er] at h'
          refine wpAny_pure ?_
          show wpAny _ _ (if (!false) = true then _ else _) _ _ _
          rw [if_pos (by decide)]
          exact wpAny_pure (wpAny_pure h')
        · rw [hn] at hy; exact nomatch hy
      · intro j p hj
        have hv' : valueAt (pairsH kb) k = some p.2 := by rw [valueAt_pairsH, atKey_of_get hnb hj]; rfl
        refine wpAny_bind (wpAny_dictEntries hob hdb ?_)
        rw [entry_at hkb j, hj]
        rcases hpre.inv with ⟨hn, _⟩ | ⟨y, e, b', hy, he, hrr, er⟩
        · rw [hv'] at hn; exact nomatch hn
        · have ey : p.2 = y := Option.some.inj (hv'.symm.trans hy)
          rw [← ey] at he
          refine wpAny_holding (he prog w _ _ ?_)
          cases e with
          | false =>
            rw [er, Bool.false_and] at h'
            show wpAny _ _ (if (!false) = true then _ else _) _ _ _
            rw [if_pos (by decide)]
            exact wpAny_pure (wpAny_pure h')
          | true =>
            rw [Bool.true_and] at er
            rw [← er] at hrr
            show wpAny _ _ (if (!true) = true then _ else _) _ _ _
            rw [if_neg (by decide)]
            refine wpAny_bind (wpAny_dictEpoch hoa hda ?_)
            rw [if_neg (by simp)]
            exact wpAny_pure ⟨rfl, rfl, x + 1, hrest, hlt, hrr⟩
    · rintro q s' ⟨rfl, rfl, i, hr, hi, hpre⟩
      have hin : i = es.size := by
        rcases Nat.lt_or_ge i es.size with h | h
        · have e : es.size - i = (es.size - (i + 1)) + 1 := by omega
          rw [e, List.range'_succ] at hr; exact nomatch hr
        · exact Nat.le_antisymm hi h
      refine wpAny_pure ?_
      rw [hin, ← hla, ← pairsH_length, List.drop_length] at hpre
      cases hpre
      exact h'
theorem eqH {neg : Bool} {a b : Addr} {ka kb : List (K × Addr × Value)} {r : Bool} {Q : Value → Shared → Prop} (hr : knd.room A.in1) (ha : (a == sysModules) = false) (hb : (b == sysModules) = false)
    (da : s.heap.DictOfH knd a ka) (db : s.heap.DictOfH knd b kb) (hu : A.units < cLine) (hits : ka.length = kb.length → PySem.W.KeqHits A.in1 s (pairsH kb) (pairsH ka) r) (h : Q (.bool (xor neg (ka.length == kb.length && r))) s) :
    wpAny (model prog w) A (compareOp (if neg then .NotEq else .Eq) (.ref a) (.ref b)) Q E s := by
  cases neg with
  | false =>
    show wpAny (model prog w) A (compareOp .Eq (.ref a) (.ref b)) Q E s
    refine wpAny_richCompare_same_room (op := .Eq) da.typeIs db.typeIs PySem.F.slot_dict_eq (wpAny_call_entry PySem.F.slot_dict_eq da.typeIs PySem.F.entry_dict_eq ?_ (PySem.F.args_dict_eq_2 _ _)) hu
    show wpAny _ _ (Builtin.Dict.dictSlotArgs "__eq__" ⟨[.ref a, .ref b], []⟩ >>= _) _ _ s
    refine wpAny_bind ?_
    unfold Builtin.Dict.dictSlotArgs
    refine wpAny_bind (wpAny_notOrdered_dict da.typeIs ?_)
    show wpAny _ _ (pure (Value.ref a, Value.ref b)) _ _ s
    refine wpAny_pure ?_
    refine wpAny_bind (wpAny_isInstance (T := "dict") db.typeIs PySem.F.sub_dict_dict ?_)
    simp only [Bool.not_true, Bool.false_eq_true, if_false]
    refine wpAny_bind (wpAny_pure (wpAny_bind (wpAny_pure ?_)))
    refine wpAny_bind (samePairsH hr ha hb da db hits ?_)
    refine wpAny_pure ⟨_, rfl, ?_, ?_⟩
    · exact fun x => nomatch x
    · simpa using h
  | true =>
    show wpAny (model prog w) A (compareOp .NotEq (.ref a) (.ref b)) Q E s
    refine wpAny_richCompare_same_room (op := .NotEq) da.typeIs db.typeIs PySem.F.slot_dict_ne (wpAny_call_entry PySem.F.slot_dict_ne da.typeIs PySem.F.entry_dict_ne ?_ (PySem.F.args_dict_ne_2 _ _)) hu
    show wpAny _ _ (Builtin.Dict.dictSlotArgs "__ne__" ⟨[.ref a, .ref b], []⟩ >>= _) _ _ s
    refine wpAny_bind ?_
    unfold Builtin.Dict.dictSlotArgs
    refine wpAny_bind (wpAny_notOrdered_dict da.typeIs ?_)
    show wpAny _ _ (pure (Value.ref a, Value.ref b)) _ _ s
    refine wpAny_pure ?_
    refine wpAny_bind (wpAny_isInstance (T := "dict") db.typeIs PySem.F.sub_dict_dict ?_)
    simp only [Bool.not_true, Bool.false_eq_true, if_false]
    refine wpAny_bind (wpAny_pure (wpAny_bind (wpAny_pure ?_)))
    refine wpAny_bind (samePairsH hr ha hb da db hits ?_)
    refine wpAny_pure ⟨_, rfl, ?_, ?_⟩
    · exact fun x => nomatch x
    · simpa using h
end
abbrev KvJ := List (Row × Int)
/-- the number at a row -/
def getJ (kv : KvJ) (r : Row) : Option Int := (kv.find? fun p => decide (p.1 = r)).map (·.2)
/-- as dicts they are equal -/
def sameKv (ka kb : KvJ) : Bool := ka.length == kb.length && ka.all fun p => decide (getJ kb p.1 = some p.2)
/-- what such a dict holds: numbers -/
def NumN (es : EntN) (ka : KvJ) : Prop := es.map (fun p => (p.1, p.2.2)) = ka.map fun p => (p.1, V.int p.2)
theorem num_val {A : Around} {s : Shared} : ∀ {fs : EntN} {ys : List (Row × Addr × Value)} {kb : KvJ}, RelN fs ys → NumN fs kb → ∀ k, (getJ kb k = none ∧ valueAt (pairsH ys) k = none) ∨ ∃ i t, getJ kb k = some i ∧ valueAt (pairsH ys) k = some (.int i t)
  | _, _, kb, .nil, h, k => by
    cases kb with
    | nil => exact .inl ⟨rfl, rfl⟩
    | cons _ _ => cases h
  | _, _, kb, .cons (a := p) (b := q) (l₁ := ps) (l₂ := qs) hq t, h, k => by
    cases kb with
    | nil => cases h
    | cons b kb =>
      unfold NumN at h
      simp only [List.map_cons, List.cons.injEq] at h
      obtain ⟨h1, h2⟩ := h
      obtain ⟨e1, e2⟩ := Prod.mk.inj h1
      obtain ⟨q1, _, q2⟩ := hq
      rw [e2] at q2
      obtain ⟨tk, ev⟩ := (show ∃ t, q.2.2 = Value.int b.2 t from q2)
      rw [valueAt_pairsH]
      by_cases c : b.1 = k
      · refine .inr ⟨b.2, tk, by simp [getJ, List.find?_cons, c], ?_⟩
        have c' : q.1 = k := (q1.symm.trans e1).trans c
        simp [atKey, List.find?_cons, c', ev]
      · have c' : ¬ q.1 = k := fun z => c ((q1.symm.trans e1).symm.trans z)
        have g1 : getJ (b :: kb) k = getJ kb k := by simp [getJ, List.find?_cons, c]
        have g2 : atKey (q :: qs) k = atKey qs k := by simp [atKey, List.find?_cons, c']
        rw [g1, g2, ← valueAt_pairsH]
        exact num_val (A := A) (s := s) t h2 k
theorem num_hits {A : Around} {s : Shared} {fs : EntN} {ys : List (Row × Addr × Value)} {kb : KvJ} (r2 : RelN fs ys) (n2 : NumN fs kb) : ∀ {es : EntN} {xs : List (Row × Addr × Value)} {ka : KvJ}, RelN es xs → NumN es ka →
    PySem.W.KeqHits A s (pairsH ys) (pairsH xs) (ka.all fun p => decide (getJ kb p.1 = some p.2))
  | _, _, ka, .nil, h => by
    cases ka with
    | nil => exact .nil
    | cons _ _ => cases h
  | _, _, ka, .cons (a := p) (b := q) (l₁ := ps) (l₂ := qs) hq t, h => by
    cases ka with
    | nil => cases h
    | cons b ka =>
      unfold NumN at h
      simp only [List.map_cons, List.cons.injEq] at h
      obtain ⟨h1, h2⟩ := h
      obtain ⟨e1, e2⟩ := Prod.mk.inj h1
      obtain ⟨q1, _, q2⟩ := hq
      rw [e2] at q2
      obtain ⟨tk, ev⟩ := (show ∃ t, q.2.2 = Value.int b.2 t from q2)
      have ek : q.1 = b.1 := q1.symm.trans e1
      have ih := num_hits (A := A) (s := s) r2 n2 t h2
      show PySem.W.KeqHits A s (pairsH ys) ((q.1, q.2.2) :: pairsH qs) (decide (getJ kb b.1 = some b.2) && ka.all fun p => decide (getJ kb p.1 = some p.2))
      rcases num_val (A := A) (s := s) r2 n2 b.1 with ⟨g, v⟩ | ⟨i, tk', g, v⟩
      · rw [g, decide_eq_false (by simp), Bool.false_and]
        exact .miss (by rw [ek]; exact v)
      · rw [g, ev, ek]
        refine .hit v ?_ ih
        refine (SeqAt.EqAt.int_int b.2 tk i tk').cast ?_
        by_cases c : b.2 = i
        · simp [c]
        · simp [c, Ne.symm c]
end JP
namespace JP
open PySem PySem.Spec PyProof.Rows L2
/-- numbers at rows -/
def kvJ (kv : KvJ) : KvN := kv.map fun p => (p.1, D.int p.2)
section
variable {X : Cx} {B : Bs} {K : PySem.W.Frag} {e o i f value : Expr} {pos pos' apos cpos p : Pos} {te to ti tx tv : TED}
variable {σ : L2.St} {H F : Hp} {δ : SD} {G : Gm}
theorem num_rep : ∀ {es : EntN} {ka : KvJ}, RepN K F es (kvJ ka) → NumN es ka := by
  intro es ka
  induction ka generalizing es with
  | nil =>
    intro r
    cases r
    rfl
  | cons p ka ih =>
    intro r
    have r' : RepN K F es ((p.1, D.int p.2) :: kvJ ka) := r
    cases r' with
    | cons rv rs =>
      cases rv
      have := ih rs
      unfold NumN at this ⊢
      rw [List.map_cons, List.map_cons, this]
end
end JP
namespace JP
open PySem PySem.Spec PyProof.Rows L2
theorem fnS {P : Program} {w : World} {K : PySem.W.Frag} {mg : Str → Option Value} {base : Heap} {k : Nat} {f : Addr} {name qual : Str} {params : Arguments} {body : List Stmt} {scope : Scope} {dV kV doc pm cdv ct oc : Value} {an od : Option Addr}
    {osl : Array (Option Value)} {N ps : List Str} {sp : Shared → Sp} (lk : K.lookup f = some ⟨oc, od, .func (PySem.W.fnOf name qual params body scope dV kV doc pm an cdv ct), osl⟩) (hcd : PySem.W.codeIn K cdv qual = true) (S : FnScope N ps scope)
    (hbody : ∀ (A : Around) (outer : List Env) (s : Shared) (H : Hp) (vs : List V) (Q : VK) (E : XK), Room k (A.deeper (envOfC qual scope s.heap.objs.size f cdv)) → sp s vs H Q E →
      ∃ t, PSs (cxOf CX0 P w K mg base N qual scope f cdv A outer s H E) body t ∧ t { nx := fun _ H' => Q .non H', rt := Q } (start N vs) H)
    {A : Around} {outer : List Env} {s : Shared} {H : Hp} {args : Args} {us : List Value} {vs : List V} {Q : VK} {E : XK} (hr : Room (k + 1) A) (e0 : Env0 P w K mg base A outer s H)
    (hb : BindsTo s (PySem.W.fnOf name qual params body scope dV kV doc pm an cdv ct) args (ps.zip us)) (r : Vals vs us) (hl : vs.length = ps.length) (hsp : sp s vs H Q E) : codeAny (model P w) A (.call (.ref f) args) (CR CX0 outer P w H s Q E) s := by
  have inK := e0.mod.kin.keeps fun c q z => (e0.bs c q z).1
  have room0 := e0.mod.nolimit.keeps fun c q z => (e0.bs c q z).1
  have kinds : ∀ y ∈ ps.zip us, scope.names.lookup y.1 = some .local ∨ (scope.names.lookup y.1 = some .cell ∧ ((cellsFrom (s.heap.objs.size + 1) scope.names []).lookup y.1).isSome = true) := by
    intro y hy
    obtain ⟨x, v⟩ := y
    exact (S.par x (List.of_mem_zip hy).1).imp id fun z => ⟨z, PySem.W.cellsFrom_some _ _ _ (.inl z)⟩
  refine codeAny_call_function hr.depth (inK _ _ lk) rfl S.co S.gen rfl (PySem.W.codeRec_of inK hcd) (hb _ _ _ _ (wpAny_newFunctionEnv_cells S.kind kinds ?_))
  rintro env rfl s1 entry
  refine ⟨room0.keeps entry.toInCall.keep, codeAny_func ?_⟩
  obtain ⟨t, derived, reads⟩ := hbody A outer s H vs Q E (hr.deeper _) hsp
  refine wpAny_mono (derived.run [] s1 (start N vs) H _ (inv_start S hr.hd e0 hl r entry) reads) (fun fl s' z => ?_) fun _ _ z => z
  cases fl with
  | ret u => obtain ⟨v, _, H', J, rv, q⟩ := z; exact ⟨v, H', J.os, J.bare, J.base, J.hok, rv, q⟩
  | next => obtain ⟨_, H', J, q⟩ := z; exact ⟨V.non, H', J.os, J.bare, J.base, J.hok, rfl, q⟩
  | brk => obtain ⟨_, _, _, q⟩ := z; exact q.elim
  | cont => obtain ⟨_, _, _, q⟩ := z; exact q.elim
/-- what __iter__ promises: a new walk of the tuple in a field -/
def spIterS (K : PySem.W.Frag) (C : Addr) (f : Str) : Shared → Sp := fun s vs H Q _ => ∃ a dx fs t xs, vs = [.ref a] ∧ H a = some (.ins C dx fs) ∧ fs.lookup f = some (.ref t) ∧ SqT K H t xs ∧ ∀ it, H it = none → s.heap.objs.size ≤ it → Q (.ref it) (upd H it (TiO t it 0))
/-- the def keeps it -/
def IterS (P : Program) (w : World) (K : PySem.W.Frag) (mg : Str → Option Value) (base : Heap) (C : Addr) (f : Str) (k : Nat) (g : Addr) : Prop := ∀ (A : Around) (outer : List Env) (s : Shared) (H : Hp) (us : List Value) (vs : List V) (Q : VK) (E : XK), Room k A → Env0 P w K mg base A outer s H → Vals vs us → spIterS K C f s vs H Q E →
  codeAny (model P w) A (.call (.ref g) ⟨us, []⟩) (CR CX0 outer P w H s Q E) s
theorem IterS.mono {P : Program} {w : World} {K : PySem.W.Frag} {mg : Str → Option Value} {base : Heap} {C : Addr} {f : Str} {j k : Nat} {g : Addr} (F : IterS P w K mg base C f j g) (h : j ≤ k) : IterS P w K mg base C f k g := fun A outer s H us vs Q E hr => F A outer s H us vs Q E (hr.mono h)
def rIterTN (K : PySem.W.Frag) (n : Nat) : List V → Hp → VK → Prop := fun xs H Q => ∃ (t : Addr) (zs : List V), xs = [.ref t] ∧ SqT K H t zs ∧ ∀ it, H it = none → n ≤ it → Q (.ref it) (upd H it (TiO t it 0))
theorem call_iterTN {X : Cx} : CallR X (.builtin "iter") (rIterTN X.K X.s_0.heap.objs.size) := by
  intro pins s σ H xs us Q I r h
  obtain ⟨t, zs, rfl, hq, q⟩ := h
  obtain ⟨u, rfl, ru⟩ := vals1 r
  cases ru
  obtain ⟨its, rv, pl, hz⟩ := I.tuple hq
  exact call_iterTup pl ⟨.ref s.heap.objs.size, _, I.laid (t' := s.toks) (fun b u e => Heap.get?_push_of_some _ e) (Nat.le_refl _) (tiO_ok (Heap.get?_push_size _ rfl)), rfl, q _ (I.hok.fresh (Nat.le_refl _)) I.sz⟩
def iOwnT (K : PySem.W.Frag) (C : Addr) (f : Str) (te : TE) : TI := fun σ H R => te σ H fun x H1 => ∃ a dx fs t xs, x = .ref a ∧ H1 a = some (.ins C dx fs) ∧ fs.lookup f = some (.ref t) ∧ SqT K H1 t xs ∧ R (Itt K t) H1
section
variable {X : Cx} {tg e : Expr} {te : TE} {C fi : Addr} {f : Str} {k : Nat}
theorem pi_ownT (at_ : PySem.W.findIn X.K (.ref C) "__iter__" = some (some (.ref fi))) (fn : PySem.W.isFn X.K (.ref fi) = true) (F : IterS X.prog X.w X.K X.mg X.base C f k fi) (hr : Room k X.A) (he : PE X e te) : PI X tg e (iOwnT X.K C f te) := by
  refine ⟨fun pins s σ H R I h => ?_⟩
  refine thn (he.run pins s σ H _ I h) fun u s1 ⟨x, H1, I1, rx, a, dx, fs, t, xs, ex, ha, hf, ht, q⟩ => ?_
  subst ex
  obtain rfl : u = Value.ref a := rx
  obtain ⟨ox, od, J⟩ := ins_inst I1 ha
  obtain ⟨m1, hF1⟩ := I1.fr
  refine PySem.W.owit_iter hF1 I1.ok.mod.kin J at_ fn ?_
  have called : wpAny (model X.prog X.w) X.A (call (.ref fi) [.ref a]) (EP X pins σ fun v H' => ∃ it, v = .ref it ∧ H1 it = none ∧ X.s_0.heap.objs.size ≤ it ∧ H' = upd H1 it (TiO t it 0)) X.xe s1 := by
    refine wpAny_call (codeAny_mono (F X.A X.stack s1 H1 [.ref a] [.ref a] (fun v H' => ∃ it, v = .ref it ∧ H1 it = none ∧ X.s_0.heap.objs.size ≤ it ∧ H' = upd H1 it (TiO t it 0)) (fun _ _ _ => False) hr I1.env0 (.cons rfl .nil) ⟨a, dx, fs, t, xs, rfl, ha, hf, ht, fun it n ge => ⟨it, rfl, n, Nat.le_trans I1.sz ge, rfl⟩⟩) fun r s' hq => ?_)
    rcases r with z | fl
    · exact hq.elim
    · cases fl <;> first | exact I1.after hq | exact hq.elim
  refine wpAny_mono called (fun v s2 hv => ?_) fun _ _ z => z
  obtain ⟨v', H2, I2, rv, it, ev, nit, ge, eH⟩ := hv
  subst ev eH
  obtain rfl : v = Value.ref it := rv
  have hit : upd H1 it (TiO t it 0) it = some (TiO t it 0) := upd_same
  have oit := (I2.hok it _ hit).1
  have st : s2.heap.IsTupleIter it t 0 := ⟨_, oit, rfl, rfl⟩
  have I3 := ItX.inv_drop I2 (show upd H1 it (TiO t it 0) it = some (.ext fun h => h.get? it = some (tiObj t 0)) from hit)
  have fp := ItX.inv_fp I2 hit ge
  rw [ItX.dropH_upd nit] at I3 fp
  unfold PySem.W.OwitIt
  have hT2 : s2.TypeIs (.ref it) "tuple_iterator" := ⟨_, oit, rfl⟩
  refine wpAny_specialOf hT2 PySem.F.slot_tuple_iterator_next.lookup ?_
  refine ⟨it, [it], _, _, H1, rfl, I3, turn_tuple t it, st, fun b hb => ?_, q⟩
  have e : b = it := by simpa using hb
  rw [e]
  exact fp
end
def mergeN (acc es : EntN) : EntN := es.foldl (fun a e => putN a e.1 e.2.1 e.2.2) acc
theorem mergeN_len : ∀ (es acc : EntN), (mergeN acc es).length ≤ acc.length + es.length
  | [], acc => Nat.le_refl _
  | e :: es, acc => by
    have h1 := mergeN_len es (putN acc e.1 e.2.1 e.2.2)
    have h2 := putN_len acc e.1 e.2.1 e.2.2
    show (mergeN (putN acc e.1 e.2.1 e.2.2) es).length ≤ _
    rw [List.length_cons]
    omega
theorem RelN.merge : ∀ {es : EntN} {xs : List (Row × Addr × Value)} {acc : EntN} {ys : List (Row × Addr × Value)}, RelN es xs → RelN acc ys → RelN (mergeN acc es) (storedAllH ys xs)
  | _, _, acc, ys, .nil, h => h
  | _, _, acc, ys, .cons (a := p) (b := q) (l₁ := ps) (l₂ := qs) hq t, h => by
    show RelN (mergeN (putN acc p.1 p.2.1 p.2.2) ps) (storedAllH (storedH ys q.1 q.2.1 q.2.2) qs)
    refine RelN.merge t ?_
    rw [← hq.1, ← hq.2.1]
    exact h.put p.1 p.2.1 hq.2.2
section
variable {X : Cx} {pins : List (Addr × Obj)} {σ : L2.St} {H : Hp} {s : Shared}
theorem pairsN_of (I : Inv X pins σ H s) : ∀ {ps : List Addr} {es : EntN}, Paired (fun p (e : Row × Addr × V) => SqT X.K H p [.ref e.2.1, e.2.2]) ps es →
    ∃ xs : List (Row × Addr × Value), RelN es xs ∧ xs.length = ps.length ∧ ∀ (j : Nat) (k : Row) (b : Addr) (u : Value), xs[j]? = some (k, b, u) → ∃ p : Addr, ps[j]? = some p ∧ s.heap.IsTuple p #[.ref b, u]
  | _, _, .nil => ⟨[], .nil, rfl, fun j k b u z => by simp at z⟩
  | _, _, .cons (a := p) (b := e) (l₁ := ps) (l₂ := es) hq t => by
    obtain ⟨xs, r, l, hx⟩ := pairsN_of I t
    obtain ⟨its, rv, pl, _⟩ := I.tuple hq
    cases rv with
    | cons r1 rest =>
      cases rest with
      | cons r2 nil_ =>
        cases nil_
        cases r1
        rename_i u2
        refine ⟨(e.1, e.2.1, u2) :: xs, .cons ⟨rfl, rfl, r2⟩ r, by rw [List.length_cons, List.length_cons, l], fun j k b u z => ?_⟩
        cases j with
        | zero =>
          cases Option.some.inj z
          exact ⟨p, rfl, pl⟩
        | succ j => exact hx j k b u z
theorem call_dictPN (hu : X.A.units + 64 < cLine) (hc : X.calm = true) : CallR X (.type "dict") (fun xs H Q => ∃ (l : Addr) (ps : List Addr) (es : EntN), xs = [V.ref l] ∧ SqL X.K H l (ps.map V.ref) ∧ Paired (fun p (e : Row × Addr × V) => SqT X.K H p [.ref e.2.1, e.2.2]) ps es ∧ KsN H es ∧
    ∀ p, H p = none → Q (.ref p) (upd H p (dnO (rowH X.w) p (mergeN [] es)))) := by
  intro pins s σ H xs us Q I r h
  obtain ⟨l, ps, es, rfl, hq, hp, ks, q⟩ := h
  obtain ⟨u, rfl, rx⟩ := vals1 r
  obtain rfl : u = Value.ref l := rx
  obtain ⟨its, rv, pl, hz⟩ := I.list hq
  have ei := refs_at rv
  subst ei
  rw [List.length_map] at hz
  obtain ⟨xs, rel, hl, hpr⟩ := pairsN_of I hp
  have hps : xs.length = ps.length := hl
  have rN := rel.keys
  have his : ∀ x ∈ xs, (rowK X.prog X.w).is s.heap x.1 x.2.1 := by
    have all : ∀ {l : EntN} {m : List (Row × Addr × Value)}, RelN l m → KsN H l → ∀ q ∈ m, (rowK X.prog X.w).is s.heap q.1 q.2.1 := by
      intro l m r
      induction r with
      | nil => intro _ q hq; cases hq
      | @cons p q ps qs hpq t ih =>
        intro ks q' hq'
        rcases List.mem_cons.mp hq' with rfl | hq'
        · rw [← hpq.1, ← hpq.2.1]
          exact rowkey_of I.hok (ks p List.mem_cons_self)
        · exact ih (fun p hp => ks p (List.mem_cons_of_mem _ hp)) q' hq'
    exact all rel ks
  have stay : KeysStay (rowK X.prog X.w) s.heap s.heap.objs.size [] xs := fun h' hk x hx => tupleKind_stays.stays (fun b o vs n e _ => hk b o (Nat.ne_of_lt (Heap.lt_size e)) (fun z => nomatch z) e) (his x hx)
  generalize hprs : (xs.map fun x => (Value.ref x.2.1, x.2.2)) = prs
  have hpl : prs.length = ps.length := by rw [← hprs, List.length_map, hl]
  have at_ : ∀ (j : Nat) (k v : Value), prs[j]? = some (k, v) → ∃ x, xs[j]? = some x ∧ k = .ref x.2.1 ∧ v = x.2.2 := fun j k v z => by
    rw [← hprs, List.getElem?_map] at z
    obtain ⟨x, hx, e⟩ := Option.map_eq_some_iff.mp z
    cases e
    exact ⟨x, hx, rfl, rfl⟩
  obtain ⟨o, n, ho, hcl, hd, hdt⟩ := pl
  refine call_dict_pairsH (knd := rowK X.prog X.w) (ps := xs) (PairArg.list l (ps.map Value.ref).toArray (fun j => (ps[j]?).getD 0) prs) (I.ok.hd hc) (show X.A.units + 1 + 1 < cLine by omega) ⟨⟨o, n, ho, hcl, hd, hdt⟩, ?_, ?_⟩ ⟨by rw [hl, hpl], fun i key v z => ?_⟩ stay (by rw [hpl]; exact hz) fun h' tk dd' hk => ?_
  · rw [List.size_toArray, List.length_map, hpl]
  · intro j k v z
    obtain ⟨x, hx, rfl, rfl⟩ := at_ j k v z
    obtain ⟨p, hp1, hp2⟩ := hpr j x.1 x.2.1 x.2.2 hx
    have e : (fun j => (ps[j]?).getD 0) j = p := by
      show (ps[j]?).getD 0 = p
      rw [hp1]
      rfl
    rw [e, List.getElem?_toArray, List.getElem?_map, hp1]
    exact ⟨rfl, .inl hp2⟩
  · obtain ⟨x, hx, rfl, rfl⟩ := at_ i key v z
    exact ⟨x.1, x.2.1, hx, rfl⟩
  · obtain ⟨o', ents, ep, h1, h2, h3, h4, _, h5⟩ := dd'
    have z1 : (mergeN [] es).length ≤ sizeLine := by
      have := mergeN_len es []
      have l3 : es.length = xs.length := Paired.length rel
      rw [List.length_nil] at this
      omega
    exact ⟨.ref s.heap.objs.size, _, I.laid (a := s.heap.objs.size) (o := dnO (rowH X.w) s.heap.objs.size (mergeN [] es)) (t' := tk) (fun b o e => hk b o (fun z => nomatch z) e) (Nat.le_refl _) (dn_ok z1 (beq_eq_false_iff_ne.mpr (Ne.symm (Nat.ne_of_lt I.big))) (RelN.merge rel .nil) h1 h2 h3 h4 h5), rfl, q _ (I.hok.fresh (Nat.le_refl _))⟩
end
end JP
namespace JP
open PySem PySem.Spec PyProof.Rows L2
section
variable {X : Cx} {B : Bs} {K : PySem.W.Frag} {e o i : Expr} {pos : Pos} {te to ti : TED} {C fi : Addr} {f : Str} {k : Nat}
variable {σ : L2.St} {H F : Hp} {δ : SD} {G : Gm}
def iOwnD (C : Addr) (f : Str) (te : TED) : TID := fun δ G R => te δ G fun d G1 => match insD d G1 with
  | some (C1, fs) => C1 = C ∧ ∃ ds, fs.lookup f = some (.tup ds) ∧ R ds G1
  | none => False
theorem di_own {tg : Expr} (at_ : PySem.W.findIn X.K (.ref C) "__iter__" = some (some (.ref fi))) (fn : PySem.W.isFn X.K (.ref fi) = true) (Fs : IterS X.prog X.w X.K X.mg X.base C f k fi) (hr : Room k X.A) (h : DE X B e te) : DI X B tg e (iOwnD C f te) :=
  PI.weak (pi_ownT at_ fn Fs hr h) fun σ H R ⟨F, G, δ, Qd, S, h, k⟩ => ⟨F, G, δ, _, S, h, fun v H1 ⟨F1, G1, d, s1, S1, r1, h1⟩ => by
    cases q : insD d G1 with
    | none => simp only [q] at h1
    | some cf =>
      obtain ⟨C', fs⟩ := cf
      simp only [q] at h1
      obtain ⟨rfl, ds, hl, h2⟩ := h1
      obtain ⟨a1, dx1, fv1, rfl, e1, _, _, rf⟩ := ins_rep S1 r1 q
      obtain ⟨u, eu, ru⟩ := rf.look hl
      obtain ⟨tp, xs, rfl, hp, ra⟩ := rep_tup ru
      exact ⟨a1, dx1, fv1, tp, xs, rfl, e1, eu, SqT.of (S1.ds.sub _ _ hp), k _ _ ⟨F1, G1, ds, s1, S1, itD_tup (.of hp) ra, h2⟩⟩⟩
/-- dict([(row, y), ..]) -/
def mrgN (acc kvs : KvN) : KvN := kvs.foldl (fun a p => putR a p.1 p.2) acc
def pairN (p : Row × D) : D := .tup [rowT p.1, p.2]
theorem RepN.merge : ∀ {es acc : EntN} {kvs ac : KvN}, RepN K F es kvs → RepN K F acc ac → RepN K F (mergeN acc es) (mrgN ac kvs)
  | _, _, _, _, .nil, h => h
  | _, acc, _, ac, .cons (k := k') (b := b') (v := v) (d := d) (vs := vs) (ds := ds) rv r, h => by
    show RepN K F (mergeN (putN acc k' b' v) vs) (mrgN (putR ac k' d) ds)
    exact RepN.merge r (h.put rv)
theorem pairs_rep : ∀ {vs : List V} {kvs : KvN}, RepAll K F vs (kvs.map pairN) → ∃ (ps : List Addr) (es : EntN), vs = ps.map V.ref ∧ Paired (fun p (e : Row × Addr × V) => F p = some (.tup [.ref e.2.1, e.2.2])) ps es ∧ KsN F es ∧ RepN K F es kvs
  | [], [], _ => ⟨[], [], rfl, .nil, (fun p hp => by cases hp), .nil⟩
  | v :: vs, p :: kvs, r => by
    rw [List.map_cons] at r
    cases r with
    | cons r1 rs =>
      obtain ⟨ps, es, rfl, hp, ks, rn⟩ := pairs_rep rs
      unfold pairN at r1
      obtain ⟨a, xs, rfl, ha, rx⟩ := rep_tup r1
      cases rx with
      | cons ra rest =>
        cases rest with
        | cons rb nl =>
          cases nl
          obtain ⟨b, rfl, hb⟩ := row_rep ra (rowD_T p.1)
          rename_i y
          refine ⟨a :: ps, (p.1, b, y) :: es, rfl, .cons ha hp, fun q hq => ?_, .cons rb rn⟩
          rcases List.mem_cons.mp hq with rfl | hq
          · exact hb
          · exact ks q hq
def dictPD (w : World) : LD := fun ds G Q => ∃ kvs : KvN, ds = [.lst (kvs.map pairN)] ∧ ∀ p, G p = none → Q (.adr p) (updG G p (.dln (rowH w) (mrgN [] kvs)))
theorem dictPN_A {w : World} : CallA K (fun xs H Q => ∃ (l : Addr) (ps : List Addr) (es : EntN), xs = [V.ref l] ∧ SqL K H l (ps.map V.ref) ∧ Paired (fun p (e : Row × Addr × V) => SqT K H p [.ref e.2.1, e.2.2]) ps es ∧ KsN H es ∧
    ∀ p, H p = none → Q (.ref p) (upd H p (dnO (rowH w) p (mergeN [] es)))) (dictPD w) := fun B σ δ H F G xs ds Qd Q S r ⟨kvs, e, h⟩ k => by
  subst e
  obtain ⟨v, rfl, rv⟩ := repAll1 r
  cases rv with
  | lst hq ra =>
    obtain ⟨ps, es, rfl, hp, ks, rn⟩ := pairs_rep ra
    have up : ∀ {ps : List Addr} {es : EntN}, Paired (fun p (e : Row × Addr × V) => F p = some (.tup [.ref e.2.1, e.2.2])) ps es → Paired (fun p (e : Row × Addr × V) => SqT K H p [.ref e.2.1, e.2.2]) ps es := by
      intro ps es h
      induction h with
      | nil => exact .nil
      | cons h t ih => exact .cons (SqT.of (S.ds.sub _ _ h)) ih
    have all : ∀ (es acc : EntN), KsN F acc → KsN F es → KsN F (mergeN acc es) := by
      intro es
      induction es with
      | nil => intro acc h _; exact h
      | cons e es ih => intro acc h h2; exact ih _ (h.put (h2 e List.mem_cons_self)) fun q hq => h2 q (List.mem_cons_of_mem _ hq)
    refine ⟨_, ps, es, rfl, SqL.of (S.ds.sub _ _ hq), up hp, ks.same S.ds.sub, fun p np => k _ _ ?_⟩
    exact .open (m := .dln (rowH w) (mrgN [] kvs)) S (.refl F) np ⟨mergeN [] es, upd_same, all es [] (fun p hp => by cases hp) ks, RepN.merge rn .nil⟩ (h p (S.ds.noG np))
end
end JP
namespace NQ
open PySem PySem.SeqAt
open AutoSeq1 (wpAny_loadPart')
open MeetsSeq MeetsSeq2 MeetsSeq3 SeqRoads2
open GQ (FinOf call_here)
/-- at each turn both lists stand there, N items each, and the i-th two are alike -/
def Like (prog : Program) (w : World) (A : Around) (E : Value → Shared → Prop) (l b : Addr) (N : Nat) (I : Nat → Shared → Prop) : Prop :=
  ∀ i s, I i s → ∃ (o o2 : Obj) (xs ys : Array Value) (n n2 : Nat), s.heap.get? l = some o ∧ o.cls = .type "list" ∧ o.data = .seq xs n ∧ s.heap.get? b = some o2 ∧ o2.cls = .type "list" ∧ o2.data = .seq ys n2 ∧ xs.size = N ∧ ys.size = N ∧
    ∀ (h1 : i < xs.size) (h2 : i < ys.size), wpAny (model prog w) A.in1 (eqBool xs[i] ys[i]) (fun r s' => r = true ∧ I (i + 1) s') E s
section
variable {prog : Program} {w : World} {A : Around} {R : Result → Shared → Prop}
theorem ne_from (l b : Addr) (N : Nat) (I : Nat → Shared → Prop) (hl : Like prog w A (fun e s' => R (.error e) s') l b N I) (fin : ∀ s, I N s → R (.ok (.ret (.bool false))) s) :
    ∀ (left i : Nat), i + left = N → ∀ s, I i s →
      wpAny (model prog w) A.in1 (Builtin.«list.__eq__.loop» ⟨[.ref l, .ref b, rawInt i, rawInt 3], []⟩) (FinOf prog w A R) (fun e s' => R (.error e) s') s
  | 0, i, hi, s, h => by
    obtain ⟨⟨_, dd, _, sl⟩, ⟨_, dd2, _, sl2⟩, xs, ys, n, n2, hx, c1, d1, hy, c2, d2', sx, sy, _⟩ := hl _ _ h
    simp only at c1 d1 c2 d2'
    subst c1 d1 c2 d2'
    have last : R (.ok (.ret (.bool false))) s := fin s (by rw [← hi]; exact h)
    obtain ⟨hp, g, d, tk, os⟩ := s
    wp_walk using wpAny_loadPart' hx, wpAny_loadPart' hy
    have o1 : xs[((i : Nat) : Int).toNat]? = none := by simp; omega
    have o2 : ys[((i : Nat) : Int).toNat]? = none := by simp; omega
    rw [o1, o2]
    wp_walk using wpAny_loadPart' hx, wpAny_loadPart' hy
    show R (.ok (.ret (.bool (xs.size != ys.size)))) _
    rw [sx, sy]
    simpa using last
  | left + 1, i, hi, s, h => by
    obtain ⟨⟨_, dd, _, sl⟩, ⟨_, dd2, _, sl2⟩, xs, ys, n, n2, hx, c1, d1, hy, c2, d2', sx, sy, turn⟩ := hl _ _ h
    simp only at c1 d1 c2 d2'
    subst c1 d1 c2 d2'
    have ix : i < xs.size := by omega
    have iy : i < ys.size := by omega
    have one := turn ix iy
    obtain ⟨hp, g, d, tk, os⟩ := s
    wp_walk using wpAny_loadPart' hx, wpAny_loadPart' hy
    have o1 : xs[((i : Nat) : Int).toNat]? = some xs[i] := by simp [ix]
    have o2 : ys[((i : Nat) : Int).toNat]? = some ys[i] := by simp [iy]
    rw [o1, o2]
    refine wpAny_bind (wpAny_mono one (fun r s2 q => ?_) fun _ _ x => x)
    obtain ⟨rfl, q⟩ := q
    have rest := ne_from l b N I hl fin left (i + 1) (by omega) s2 q
    obtain ⟨hp2, g2, d2, tk2, os2⟩ := s2
    wp_walk
    rw [show ((i : Int) + 1) = ((i + 1 : Nat) : Int) by omega]
    exact ⟨plainId_quiet plain_eq_loop _, codeAny_builtin entry_eq_loop (by
      rw [Around.under_plainId plain_eq_loop _]
      exact rest)⟩
theorem ne_whole (l b : Addr) (N : Nat) (I : Nat → Shared → Prop) (hl : Like prog w A (fun e s' => R (.error e) s') l b N I) (fin : ∀ s, I N s → R (.ok (.ret (.bool false))) s) {s : Shared} (h : I 0 s) :
    wpAny (model prog w) A.in1 (Builtin.«list.__ne__» ⟨[.ref l, .ref b], []⟩) (FinOf prog w A R) (fun e s' => R (.error e) s') s := by
  obtain ⟨⟨_, dd, _, sl⟩, ⟨_, dd2, _, sl2⟩, xs, ys, n, n2, hx, c1, d1, hy, c2, d2', sx, sy, _⟩ := hl _ _ h
  simp only at c1 d1 c2 d2'
  subst c1 d1 c2 d2'
  have rest := ne_from l b N I hl fin N 0 (Nat.zero_add _) s h
  obtain ⟨hp, g, d, tk, os⟩ := s
  have f3 := AutoSeq1.sub_list_list
  have like : ¬ (xs.size != ys.size) = true := by simp [sx, sy]
  wp_walk using wpAny_loadPart' hx, wpAny_loadPart' hy
  exact ⟨plainId_quiet plain_eq_loop _, codeAny_builtin entry_eq_loop (by
    rw [Around.under_plainId plain_eq_loop _]
    exact rest)⟩
end
theorem rcNe_listG {prog : Program} {w : World} {A : Around} {E : Value → Shared → Prop} {s : Shared} {l b : Addr} {N : Nat} {Q : Value → Shared → Prop} (hu : A.units < cLine) (I : Nat → Shared → Prop) (hl : Like prog w A E l b N I)
    (fin : ∀ s, I N s → Q (.bool false) s) (h : I 0 s) : wpAny (model prog w) A (richCompare .NotEq (.ref l) (.ref b)) Q E s := by
  obtain ⟨o, o2, xs, ys, n, n2, hx, c1, _, hy, c2, _⟩ := hl _ _ h
  refine wpAny_richCompare_same_room (op := .NotEq) ⟨_, hx, c1⟩ ⟨_, hy, c2⟩ F.slot_list_ne (call_here F.slot_list_ne ⟨_, hx, c1⟩ F.entry_list_ne (F.args_list_ne_2 _ _) ?_) hu
  exact ne_whole (R := wants (fun v s' => v ≠ .notImplemented ∧ Q v s') E) l b N I hl (fun s' q => ⟨(fun x => nomatch x), fin s' q⟩) h
end NQ
namespace JP
open PySem PySem.W PySem.Spec PySem.Calls PyProof.Rows L2
section
variable {X : Cx}
/-- two dicts of numbers, the same ones -/
def DDn (w : World) : Eqv := fun x y H => ∃ d e es fs ka kb, x = .ref d ∧ y = .ref e ∧ Rd H d (dnO (rowH w) d es) ∧ Rd H e (dnO (rowH w) e fs) ∧ KsN H es ∧ KsN H fs ∧ NumN es ka ∧ NumN fs kb ∧ sameKv ka kb = true
theorem ddn_eq {A : Around} {pins : List (Addr × Obj)} {s : Shared} {σ : L2.St} {H : Hp} {x y : V} {u v : Value} (hu : A.units + 64 < cLine) (I : Inv X pins σ H s) (rx : RelV x u) (ry : RelV y v) (h : DDn X.w x y H) :
    wpAny (model X.prog X.w) A (eqBool u v) (fun r s' => r = true ∧ s' = s) X.xe s := by
  obtain ⟨d, e, es, fs, ka, kb, rfl, rfl, ed, ee, ks, kt, na, nb, q⟩ := h
  obtain rfl : u = Value.ref d := rx
  obtain rfl : v = Value.ref e := ry
  by_cases hde : d = e
  · subst hde
    exact SeqAt.EqAt.same (A := A) (s := s) (.ref d) X.prog X.w X.xe _ ⟨rfl, rfl⟩
  obtain ⟨_, hd, xs, rel, dd⟩ := dn_rd (P := X.prog) I.hok ed ks
  obtain ⟨_, he, ys, rel', de⟩ := dn_rd (P := X.prog) I.hok ee kt
  have l1 : ka.length = xs.length := by
    have := congrArg List.length na
    rw [List.length_map, List.length_map] at this
    rw [← this]
    exact Paired.length rel
  have l2 : kb.length = ys.length := by
    have := congrArg List.length nb
    rw [List.length_map, List.length_map] at this
    rw [← this]
    exact Paired.length rel'
  refine GQ.eqBool_refG hde ?_
  refine eqH (neg := false) (knd := rowK X.prog X.w) (show A.units + 1 < cLine by omega) hd he dd de (by omega) (fun _ => num_hits rel' nb rel na) ?_
  refine ⟨true, ?_, rfl, rfl⟩
  unfold sameKv at q
  rw [l1, l2] at q
  show Value.bool (xor false _) = _
  rw [q]
  rfl
/-- lists of such dicts are alike -/
def rNeDn (K : PySem.W.Frag) (w : World) : R2 := fun x y H Q => ∃ l b xs ys, x = .ref l ∧ y = .ref b ∧ SqL K H l xs ∧ SqL K H b ys ∧ Prs (DDn w) xs ys H ∧ Q (.bl false) H
theorem op_neDn (hu : X.A.units + 66 < cLine) : OpR X (compareOp .NotEq) (rNeDn X.K X.w) := by
  intro pins s σ H x y v u Q I rx ry h
  obtain ⟨l, b, xs, ys, rfl, rfl, hl, hb, p, q⟩ := h
  obtain rfl : v = Value.ref l := rx
  obtain rfl : u = Value.ref b := ry
  obtain ⟨its, r1, ⟨o1, n1, e1, c1, _, d1⟩, z1⟩ := I.list hl
  obtain ⟨its2, r2, ⟨o2, n2, e2, c2, _, d2⟩, z2⟩ := I.list hb
  show wpAny (model X.prog X.w) X.A (richCompare .NotEq (.ref l) (.ref b)) (EP X pins σ Q) X.xe s
  refine NQ.rcNe_listG (N := xs.length) (by omega) (fun _ s' => s' = s) (fun i s' e => ?_) (fun s' e => ?_) rfl
  · subst e
    refine ⟨o1, o2, its.toArray, its2.toArray, _, _, e1, c1, d1, e2, c2, d2, by rw [List.size_toArray, ← r1.length], by rw [List.size_toArray, ← r2.length, ← p.1], fun h1 h2 => ?_⟩
    have g1 : its[i]? = some its.toArray[i] := by
      have h1' : i < its.length := by simpa using h1
      rw [List.getElem?_eq_getElem h1'] <;> simp
    have g2 : its2[i]? = some its2.toArray[i] := by
      have h2' : i < its2.length := by simpa using h2
      rw [List.getElem?_eq_getElem h2'] <;> simp
    have k1 : i < xs.length := by rw [r1.length]; simpa using h1
    have k2 : i < ys.length := by rw [r2.length]; simpa using h2
    obtain ⟨u, hu', ru⟩ := r1.get (List.getElem?_eq_getElem k1)
    obtain ⟨v, hv', rv⟩ := r2.get (List.getElem?_eq_getElem k2)
    rw [g1] at hu'
    rw [g2] at hv'
    rw [Option.some.inj hu', Option.some.inj hv']
    exact ddn_eq (A := X.A.in1) (by show X.A.units + 1 + 64 < cLine; omega) I ru rv (p.2 i _ _ (List.getElem?_eq_getElem k1) (List.getElem?_eq_getElem k2))
  · subst e
    exact ⟨.bl false, H, I, rfl, q⟩
end
end JP
namespace JP
open PySem PySem.Spec PyProof.Rows L2
section
variable {X : Cx} {B : Bs} {K : PySem.W.Frag} {k : Nat} {C g : Addr} {fd : FuncData} {ps : List Str} {sp : SpD} {W : WD} {a b : Expr} {ta tb : TED} {pos : Pos}
variable {σ : L2.St} {H F : Hp} {δ : SD} {G : Gm}
def sameDn (w : World) (G : Gm) (x y : D) : Prop := ∃ ka kb : KvJ, dlnD x G = some (rowH w, kvJ ka) ∧ dlnD y G = some (rowH w, kvJ kb) ∧ sameKv ka kb = true
def neDnD (w : World) : R2D := fun a b G Q => ∃ as bs : List D, a = .lst as ∧ b = .lst bs ∧ as.length = bs.length ∧ (∀ (i : Nat) x y, as[i]? = some x → bs[i]? = some y → sameDn w G x y) ∧ Q (.bl false) G
theorem neDn_A {w : World} : OpA K (rNeDn K w) (neDnD w) := fun B σ δ H F G x y a b Qd Q S r1 r2 ⟨as, bs, ea, eb, hl, hp, h⟩ k => by
  subst ea eb
  cases r1 with
  | lst h1 ra =>
    cases r2 with
    | lst h2 rb =>
      refine ⟨_, _, _, _, rfl, rfl, .of (S.ds.sub _ _ h1), .of (S.ds.sub _ _ h2), ⟨by rw [ra.length, rb.length, hl], fun i x y hx hy => ?_⟩, k _ _ (.val S (.bl _) h)⟩
      obtain ⟨d, hd, rd⟩ := ra.get' hx
      obtain ⟨e, he, re⟩ := rb.get' hy
      obtain ⟨ka, kb, e1, e2, hs⟩ := hp i d e hd he
      obtain ⟨p, es, rfl, rp, ks, rn⟩ := dln_rep S rd e1
      obtain ⟨q, fs, rfl, rq, kt, rm⟩ := dln_rep S re e2
      exact ⟨p, q, es, fs, ka, kb, rfl, rfl, rp, rq, ks.same S.ds.sub, kt.same S.ds.sub, num_rep rn, num_rep rm, hs⟩
theorem units100 {k : Nat} {A : Around} (r : Room k A) : A.units + 100 < cLine := by have := r.un; omega
theorem op_neDn1 {X : Cx} (hu : X.A.units + 100 < cLine) : OpR X (compareOp .NotEq) (rNeDn X.K X.w) := op_neDn (by omega)
end
end JP
namespace JP
open PySem PySem.Spec PyProof.Rows L2
section
variable {X : Cx} {B : Bs} {K : PySem.W.Frag} {e : Expr} {es : List Expr} {t : TAD} {pos p apos : Pos} {W : WD}
variable {k : Nat} {f C : Addr} {fI : Addr} {fd : FuncData} {ps : List Str} {x f1 : Str} {σ : L2.St} {H F : Hp} {δ : SD} {G : Gm}
theorem del_ne {H : Hp} {a b : Addr} (h : b ≠ a) : del H a b = H b := by
  unfold del
  rw [if_neg h]
end
end JP
namespace JP
open PySem PySem.W PySem.Spec PySem.Calls PyProof.Rows L2
/-- a slice object -/
def SlcO (sl : Addr) (lo hi : Option Int) : HO := .ext fun h => ∃ vl vu, h.IsSliceOf sl vl vu .none ∧ IsPart vl lo ∧ IsPart vu hi
theorem slcO_ok {P : Program} {w : World} {H : Hp} {h : Heap} {sl : Addr} {vl vu : Value} {lo hi : Option Int} (e : h.IsSliceOf sl vl vu .none) (pl : IsPart vl lo) (pu : IsPart vu hi) : ObjOk P w H h sl (SlcO sl lo hi) := by
  obtain ⟨o, ho, hc, hd⟩ := id e
  refine ⟨⟨vl, vu, e, pl, pu⟩, ⟨o, ho⟩, fun h1 h2 ⟨vl', vu', ⟨o1, ho1, hc1, hd1⟩, pl', pu'⟩ k => ⟨vl', vu', ⟨o1, k _ ho1, hc1, hd1⟩, pl', pu'⟩⟩
section
variable {X : Cx}
/-- t[s], s a slice object -/
def rIxSl : R2 := fun x y H Q => ∃ a xs sl lo hi, x = .ref a ∧ y = .ref sl ∧ H a = some (.tup xs) ∧ H sl = some (SlcO sl lo hi) ∧ (cutV xs lo hi = xs → Q (.ref a) H) ∧ ∀ p, H p = none → Q (.ref p) (upd H p (.tup (cutV xs lo hi)))
theorem ix_slc : IxR X rIxSl := by
  intro value slice pins s σ H x y v u Q I rx ry h hs
  obtain ⟨a, xs, sl, lo, hi, rfl, rfl, hx, hsl, q0, q1⟩ := h
  cases rx
  cases ry
  obtain ⟨⟨vl, vu, isl, pl, pu⟩, _⟩ := I.hok sl _ hsl
  by_cases hw : HT.sIx xs.length 0 lo = 0 ∧ HT.sIx xs.length xs.length hi = xs.length
  · obtain ⟨its, r, ht, hz⟩ := I.tuple (SqT.of hx)
    have hlen : its.toArray.size = xs.length := by rw [List.size_toArray]; exact r.length.symm
    have e : cutV xs lo hi = xs := by
      unfold cutV
      rw [hw.1, hw.2]
      simp
    exact tail_any ht.typeIs PyProof.Rows.slot_tuple_getitem.lookup (getItem_tuple_whole ht isl pl pu (by rw [hlen]; exact hw) ⟨.ref a, H, I, rfl, q0 e⟩) hs
  · obtain ⟨T, id, hT, ht, hg⟩ := sl_tup pins s σ H (.ref a) (.ref a) vl vu lo hi sl Q I rfl isl pl pu ⟨a, xs, rfl, .of hx, hw, q1⟩
    exact tail_any ht hT hg hs
/-- what an own __getitem__ of a tuple in a field promises -/
def spGetT (K : PySem.W.Frag) (C : Addr) (f : Str) : Sp := fun vs H Q _ => ∃ a dx fs t xs y, vs = [.ref a, y] ∧ H a = some (.ins C dx fs) ∧ fs.lookup f = some (.ref t) ∧ H t = some (.tup xs) ∧
  ((∃ i v, y = .int i ∧ atI xs i = some v ∧ Q v H) ∨ (∃ sl lo hi, y = .ref sl ∧ H sl = some (SlcO sl lo hi) ∧ (cutV xs lo hi = xs → Q (.ref t) H) ∧ ∀ p, H p = none → Q (.ref p) (upd H p (.tup (cutV xs lo hi)))))
section
variable {k : Nat} {C g : Addr} {fd : FuncData} {ps : List Str} {f : Str} {e a b : Expr} {te ta tb : TE} {pos p2 : Pos} {lo hi : Option Expr} {tl th : TO}
/-- x[i] -/
def tIxO (K : PySem.W.Frag) (C : Addr) (f : Str) (ta tb : TE) : TE := fun σ H Q => ta σ H fun x H1 => tb σ H1 fun y H2 => ∃ a dx fs t xs i v, x = .ref a ∧ y = .int i ∧ H2 a = some (.ins C dx fs) ∧ fs.lookup f = some (.ref t) ∧ H2 t = some (.tup xs) ∧ atI xs i = some v ∧ Q v H2
theorem pe_ixO (hs : PySem.W.findIn X.K (.ref C) "__getitem__" = some (some (.ref g))) (hf : PySem.W.fnIn X.K g = true) (hfn : PySem.W.isFn X.K (.ref g) = true) (Fn : FnOk X.prog X.w X.K X.mg X.base CX0 k g fd ps (spGetT X.K C f)) (hb : Binds X.K fd ps []) (hr : Room (k + 1) X.A) (ha : PE X a ta) (hbe : PE X b tb)
    (hsl : ∀ o i, subscripted b true o i = runValue (.builtin "lifetime.subscript" ⟨[o, i], []⟩)) : PE X (.Subscript a b pos) (tIxO X.K C f ta tb) := by
  refine ⟨fun pins s σ H Q I h => ?_⟩
  refine Subscript_ (binT ha hbe I h fun v u s2 x y H2 I2 rx ry q => ?_)
  obtain ⟨a0, dx, fs, t, xs, i, z, rfl, rfl, h1, h2, h3, h4, q⟩ := q
  cases rx
  obtain ⟨ox, od, J⟩ := ins_inst I2 h1
  obtain ⟨m, hF⟩ := I2.fr
  refine PySem.W.sub_K hF I2.ok.mod.kin J hs hf hfn ?_ (hsl _ _)
  exact call_at (E := fun _ _ _ => False) (A := X.A.in1) (us := [.ref a0, u]) (vs := [.ref a0, .int i]) Fn hb (Room.in1 hr) (fun _ _ _ _ _ _ _ z => z.elim) I2 I2.env0.in1 (.cons rfl (.cons ry .nil)) ⟨a0, dx, fs, t, xs, _, rfl, h1, h2, h3, .inl ⟨i, z, rfl, h4, q⟩⟩
/-- x[lo:hi] -/
def tSlO (C : Addr) (f : Str) (te : TE) (tl th : TO) : TE := fun σ H Q => te σ H fun x H1 => tl σ H1 fun l H2 => th σ H2 fun u H3 => ∃ a dx fs t xs, x = .ref a ∧ H3 a = some (.ins C dx fs) ∧ fs.lookup f = some (.ref t) ∧ H3 t = some (.tup xs) ∧
  ∀ p H', Same H3 H' → H' p = some (.tup (cutV xs l u)) → Q (.ref p) H'
theorem pe_slO (hq : PySem.W.noSeq X.K C = true) (hs : PySem.W.findIn X.K (.ref C) "__getitem__" = some (some (.ref g))) (hfn : PySem.W.isFn X.K (.ref g) = true) (hff : PySem.W.fnIn X.K g = true) (Fn : FnOk X.prog X.w X.K X.mg X.base CX0 k g fd ps (spGetT X.K C f)) (hb : Binds X.K fd ps []) (hr : Room k X.A) (he : PE X e te) (hl : PO X lo tl) (hu : PO X hi th) :
    PE X (.Subscript e (.Slice lo hi none p2) pos) (tSlO C f te tl th) := by
  refine ⟨fun pins s σ H Q I h => ?_⟩
  refine Subscript_ (thn (he.run pins s σ H _ I h) fun v s1 ⟨x, H1, I1, r1, q1⟩ => ?_)
  refine wpAny_Slice (thn (hl.run pins s1 σ H1 _ I1 q1) fun vl s2 ⟨l, H2, I2, pl, q2⟩ => thn (hu.run pins s2 σ H2 _ I2 q2) fun vu s3 ⟨u, H3, I3, pu, q3⟩ => ?_)
  rw [evalPart_none]
  refine wpAny_pure ?_
  obtain ⟨a0, dx, fs, t, xs, rfl, h1, h2, h3, q⟩ := q3
  cases r1
  have nsl : H3 s3.heap.objs.size = none := I3.hok.fresh (Nat.le_refl _)
  have isl := Heap.IsSliceOf.new s3.heap vl vu .none
  have I4 : Inv X pins σ (upd H3 s3.heap.objs.size (SlcO s3.heap.objs.size l u)) { s3 with heap := s3.heap.push { cls := .type "slice", data := .fields #[vl, vu, .none] } } :=
    I3.laid (t' := s3.toks) (fun b o e => Heap.get?_push_of_some _ e) (Nat.le_refl _) (slcO_ok isl pl pu)
  have n1 : a0 ≠ s3.heap.objs.size := fun z => by rw [z, nsl] at h1; cases h1
  have n3 : t ≠ s3.heap.objs.size := fun z => by rw [z, nsl] at h3; cases h3
  have h1' : upd H3 s3.heap.objs.size (SlcO s3.heap.objs.size l u) a0 = some (.ins C dx fs) := (upd_ne n1).trans h1
  have h3' : upd H3 s3.heap.objs.size (SlcO s3.heap.objs.size l u) t = some (.tup xs) := (upd_ne n3).trans h3
  obtain ⟨ox, od, J⟩ := ins_inst I4 h1'
  obtain ⟨m, hF⟩ := I4.fr
  have called : wpAny (model X.prog X.w) X.A (getItem (.ref a0) (.ref s3.heap.objs.size)) (EP X pins σ fun z H' => ∃ p, z = .ref p ∧ ((p = t ∧ cutV xs l u = xs ∧ H' = upd H3 s3.heap.objs.size (SlcO s3.heap.objs.size l u)) ∨ (upd H3 s3.heap.objs.size (SlcO s3.heap.objs.size l u) p = none ∧ H' = upd (upd H3 s3.heap.objs.size (SlcO s3.heap.objs.size l u)) p (.tup (cutV xs l u))))) X.xe { s3 with heap := s3.heap.push { cls := .type "slice", data := .fields #[vl, vu, .none] } } := by
    refine PySem.W.getItem_K hF I4.ok.mod.kin J hq hs hfn ?_
    exact call_at (E := fun _ _ _ => False) (us := [.ref a0, .ref s3.heap.objs.size]) (vs := [.ref a0, .ref s3.heap.objs.size]) Fn hb hr (fun _ _ _ _ _ _ _ z => z.elim) I4 I4.env0 (.cons rfl (.cons rfl .nil))
      ⟨a0, dx, fs, t, xs, _, rfl, h1', h2, h3', .inr ⟨_, l, u, rfl, upd_same, fun e => ⟨t, rfl, .inl ⟨rfl, e, rfl⟩⟩, fun p hp => ⟨p, rfl, .inr ⟨hp, rfl⟩⟩⟩⟩
  have X0 := I4.kIn
  unfold fnIn at hff
  split at hff
  · rename_i e0
    unfold subscriptTail getitemInPython
    refine wpAny_bind (wpAny_bind (wpAny_bind (J.type.here ((looks_findIn X0 hs).here ?_))))
    dsimp only
    refine wpAny_bind (wpAny_load (X0 _ _ e0) (wpAny_pure ?_))
    dsimp only
    have hsub : ∀ bb : Bool, subscripted (.Slice lo hi none p2) bb (.ref a0) (.ref s3.heap.objs.size) = operate [.ref s3.heap.objs.size, .ref a0] (getItem (.ref a0) (.ref s3.heap.objs.size)) := fun bb => by cases bb <;> rfl
    rw [hsub]
    refine wpAny_bind (PyProof.Rows.wpAny_operate' (wpAny_mono called (fun z s5 hz => ?_) fun _ _ z => z))
    obtain ⟨zv, H5, I5, rz, p, ez, hz⟩ := hz
    subst ez
    cases rz
    refine wpAny_bind (wpAny_letTemporaryGo (wpAny_pure ?_))
    rcases hz with ⟨rfl, ec, rfl⟩ | ⟨np, rfl⟩
    · have I6 := ItX.inv_drop I5 (show upd H3 s3.heap.objs.size (SlcO s3.heap.objs.size l u) s3.heap.objs.size = some (.ext _) from upd_same)
      rw [ItX.dropH_upd nsl] at I6
      exact ⟨.ref p, H3, I6, rfl, q p H3 (.refl H3) (by rw [ec]; exact h3)⟩
    · have hps : p ≠ s3.heap.objs.size := fun z => by rw [z, upd_same] at np; cases np
      have np' : H3 p = none := by rw [upd_ne hps] at np; exact np
      have I6 := ItX.inv_drop I5 (show upd (upd H3 s3.heap.objs.size (SlcO s3.heap.objs.size l u)) p (.tup (cutV xs l u)) s3.heap.objs.size = some (.ext _) by rw [upd_ne hps.symm]; exact upd_same)
      have eH : ItX.dropH (upd (upd H3 s3.heap.objs.size (SlcO s3.heap.objs.size l u)) p (.tup (cutV xs l u))) s3.heap.objs.size = upd H3 p (.tup (cutV xs l u)) := by
        funext b
        by_cases c : b = s3.heap.objs.size
        · rw [c, ItX.dropH_same, upd_ne hps.symm, nsl]
        · rw [ItX.dropH_ne c]
          by_cases d : b = p
          · rw [d, upd_same, upd_same]
          · rw [upd_ne d, upd_ne d, upd_ne c]
      rw [eH] at I6
      exact ⟨.ref p, _, I6, rfl, q p _ (same_new np') upd_same⟩
  · cases hff
end
section
variable {CX : CXT} {k : Nat} {C g : Addr} {fd : FuncData} {ps : List Str} {sp : Sp} {E : XK}
def rInO (C : Addr) (sp : Sp) (E : XK) : R2 := fun x y H Q => ∃ a dx fs, y = .ref a ∧ H a = some (.ins C dx fs) ∧ sp [.ref a, x] H (fun z H' => ∃ b, z = .bl b ∧ Q (.bl b) H') E
theorem op_inO (M : OwnM X.K C "__contains__" g) (F : FnOk X.prog X.w X.K X.mg X.base CX k g fd ps sp) (hb : Binds X.K fd ps []) (hr : Room k X.A) (hx : Passes CX X E) : OpR X (compareOp .In) (rInO C sp E) := by
  intro pins s σ H x y v u Q I rx ry h
  obtain ⟨a, dx, fs, rfl, ha, q⟩ := h
  cases ry
  obtain ⟨ox, od, J⟩ := ins_inst I ha
  obtain ⟨m, hF⟩ := I.fr
  refine PySem.W.in_K hF I.ok.mod.kin J M.at_ M.fn ?_
  refine wpAny_mono (call_at (us := [.ref a, v]) (vs := [.ref a, x]) F hb hr hx I I.env0 (.cons rfl (.cons rx .nil)) q) (fun w s' z => ?_) fun _ _ x => x
  obtain ⟨z', H', I', rz, b, eb, qz⟩ := z
  subst eb
  cases (show w = Value.bool b from rz)
  show wpAny _ _ (truthy (.bool b)) _ _ _
  exact wpAny_pure ⟨.bl b, H', I', rfl, qz⟩
end
def rLtP (K : PySem.W.Frag) : R2 := fun x y H Q => ∃ d e, Dp K H x d ∧ Dp K H y e ∧ PySem.W.alike d e = true ∧ d ≠ .none ∧ min d.depth e.depth ≤ 60 ∧ Q (.bl (PySem.W.dataLt d e)) H
theorem op_ltP (hu : X.A.units + 64 < cLine) : OpR X (compareOp .Lt) (rLtP X.K) := by
  intro pins s σ H x y v u Q I rx ry h
  obtain ⟨d, e, hd, he, ha, hn, hz, q⟩ := h
  obtain ⟨as, r1⟩ := Dp.reads I d x v hd rx
  obtain ⟨bs, r2⟩ := Dp.reads I e y u he ry
  exact PySem.W.rcLt_alike d e X.A s v u as bs r1 r2 ha hn (by omega) _ _ _ _ ⟨.bl _, H, I, rfl, q⟩
end
end JP
namespace JP
open PySem PySem.Spec PyProof.Rows L2
section
variable {X : Cx} {B : Bs} {K : PySem.W.Frag} {k : Nat} {C g : Addr} {fd : FuncData} {ps : List Str} {f : Str} {a b e : Expr} {ta tb te : TED} {t : TAD} {pos p2 : Pos}
variable {σ : L2.St} {H F : Hp} {δ : SD} {G : Gm}
def dIxO (C : Addr) (f : Str) (ta tb : TED) : TED := fun δ G Q => ta δ G fun d G1 => tb δ G1 fun y G2 => ∃ fs ts i e, d = .ins C fs ∧ y = .int i ∧ fs.lookup f = some (.tup ts) ∧ atI ts i = some e ∧ Q e G2
theorem de_ixO (M : OwnM X.K C "__getitem__" g) (hf : PySem.W.fnIn X.K g = true) (Fn : FnOk X.prog X.w X.K X.mg X.base CX0 k g fd ps (spGetT X.K C f)) (hb : Binds X.K fd ps []) (hr : Room (k + 1) X.A) (ha : DE X B a ta) (hb2 : DE X B b tb)
    (hsl : ∀ o i, subscripted b true o i = runValue (.builtin "lifetime.subscript" ⟨[o, i], []⟩) := by intro _ _; rfl) : DE X B (.Subscript a b pos) (dIxO C f ta tb) :=
  PE.weak (pe_ixO M.at_ hf M.fn Fn hb hr ha hb2 hsl) fun σ H Q ⟨F, G, δ, Qd, S, h, k⟩ => up2 S h fun x y H2 F2 G2 d e s2 S2 r1 r2 h2 => by
    obtain ⟨fs, ts, i, z, rfl, rfl, hl, ha, q⟩ := h2
    cases r2
    obtain ⟨a0, dx, fv, rfl, e1, gc, na, rf⟩ := ins_rep S2 r1 rfl
    obtain ⟨tv, ev, rt⟩ := rf.look hl
    obtain ⟨t0, xs, rfl, et, ra⟩ := rep_tup rt
    obtain ⟨v, hv, rv⟩ := atI_rep ra ha
    exact ⟨a0, dx, fv, t0, xs, i, v, rfl, rfl, e1, ev, S2.ds.sub _ _ et, hv, k _ _ ⟨F2, G2, z, s2, S2, rv, q⟩⟩
def dSlO (C : Addr) (f : Str) (te : TED) (tl th : TOD) : TED := fun δ G Q => te δ G fun d G1 => tl δ G1 fun lo G2 => th δ G2 fun hi G3 => ∃ fs ts, d = .ins C fs ∧ fs.lookup f = some (.tup ts) ∧ Q (.tup (cutD ts lo hi)) G3
theorem de_slO {lo hi : Option Expr} {tl th : TOD} (hq : PySem.W.noSeq X.K C = true) (M : OwnM X.K C "__getitem__" g) (hf : PySem.W.fnIn X.K g = true) (Fn : FnOk X.prog X.w X.K X.mg X.base CX0 k g fd ps (spGetT X.K C f)) (hb : Binds X.K fd ps []) (hr : Room k X.A) (he : DE X B e te) (hl : DO X B lo tl) (hu : DO X B hi th) :
    DE X B (.Subscript e (.Slice lo hi none p2) pos) (dSlO C f te tl th) :=
  PE.weak (pe_slO hq M.at_ M.fn hf Fn hb hr he hl hu) fun σ H Q ⟨F, G, δ, Qd, S, h, k⟩ => ⟨F, G, δ, _, S, h, fun v H1 ⟨F1, G1, d, s1, S1, r1, h1⟩ => ⟨F1, G1, δ, _, S1, h1, fun l H2 ⟨F2, G2, s2, S2, h2⟩ => ⟨F2, G2, δ, _, S2, h2, fun u H3 ⟨F3, G3, s3, S3, h3⟩ => by
    obtain ⟨fs, ts, rfl, hl, q⟩ := h3
    have r3 := (r1.mono s2).mono s3
    obtain ⟨a0, dx, fv, rfl, e1, gc, na, rf⟩ := ins_rep S3 r3 rfl
    obtain ⟨tv, ev, rt⟩ := rf.look hl
    obtain ⟨t0, xs, rfl, et, ra⟩ := rep_tup rt
    refine ⟨a0, dx, fv, t0, xs, rfl, e1, ev, S3.ds.sub _ _ et, fun p H' s e => ?_⟩
    obtain ⟨F', G', d', s', S', r', q'⟩ := Beh.gotT (Qd := Qd) S3 s e (cut_rep ra l u) q
    exact k _ _ ⟨F', G', d', ((s1.trans s2).trans s3).trans s', S', r', q'⟩⟩⟩⟩
section
variable {sp : SpD} {W : WD}
def inOD (C : Addr) (sp : SpD) (W : WD) : R2D := fun x y G Q => match insD y G with
  | some (C', _) => C' = C ∧ sp [y, x] G (fun z G1 => match z with | .bl c => Q (.bl c) G1 | _ => False) W
  | none => False
theorem inO_A {x y : V} {d e : D} {Qd : QD} {Q : VK} (S : Sit K B σ H F δ G) (r1 : Rep K F x d) (r2 : Rep K F y e) (h2 : inOD C sp W d e G Qd) (kk : ∀ v H', Beh K B σ F δ Qd v H' → Q v H') : rInO C (lowSp K sp) (XW K B W) x y H Q := by
  unfold inOD at h2
  cases q : insD e G with
  | none => simp only [q] at h2
  | some cf =>
    obtain ⟨C', fs⟩ := cf
    simp only [q] at h2
    obtain ⟨rfl, h3⟩ := h2
    obtain ⟨a1, dx1, fv1, rfl, e1, _⟩ := ins_rep S r2 q
    refine ⟨a1, dx1, fv1, rfl, e1, low_at S (.cons r2 (.cons r1 .nil)) h3 fun v H' ⟨F', G', d', s', S', r', q'⟩ => ?_⟩
    cases d' with
    | bl c =>
      cases r'
      exact ⟨c, rfl, kk _ _ ⟨F', G', _, s', S', .bl _, q'⟩⟩
    | _ => exact q'.elim
theorem de_inO (M : OwnM X.K C "__contains__" g) (Fn : FnD X.prog X.w X.K X.mg X.base k g fd ps sp) (hb : Binds X.K fd ps []) (hr : Room k X.A) (hx : Passes (L2.CX X.prog X.w) X (XW X.K B W)) (ha : DE X B a ta) (hb2 : DE X B b tb) (hm : behindInMarks .In b = false) : DE X B (.Compare a [.In] [b] pos) (dOp (inOD C sp W) ta tb) :=
  PE.weak (pe_cmpR (op_inO M Fn hb hr hx) ha hb2 hm) fun σ H Q ⟨F, G, δ, Qd, S, h, k⟩ => up2 S h fun x y H2 F2 G2 d e s2 S2 r1 r2 h2 => inO_A S2 r1 r2 h2 fun v H' ⟨F', G', d', s', S', r', q'⟩ => k v H' ⟨F', G', d', s2.trans s', S', r', q'⟩
theorem dt_inO (M : OwnM X.K C "__contains__" g) (Fn : FnD X.prog X.w X.K X.mg X.base k g fd ps sp) (hb : Binds X.K fd ps []) (hr : Room k X.A) (hx : Passes (L2.CX X.prog X.w) X (XW X.K B W)) (ha : DE X B a ta) (hb2 : DE X B b tb) (hm : behindInMarks .In b = false) : DT X B (.Compare a [.In] [b] pos) (dTest (dOp (inOD C sp W) ta tb)) :=
  PT.weak (pt_cmpR (op_inO M Fn hb hr hx) ha hb2 hm) fun σ H Q q => by
    obtain ⟨F, G, δ, Qd, S, h, k⟩ := q
    refine up2 S h fun x y H2 F2 G2 d e s2 S2 r1 r2 h2 => inO_A S2 r1 r2 h2 fun v H' ⟨F', G', d', s', S', r', q'⟩ => ?_
    cases d' with
    | bl b =>
      cases r'
      exact ⟨b, rfl, k b H' ⟨F', G', s2.trans s', S', q'⟩⟩
    | _ => exact q'.elim
end
def rangeCD (lo c : Int) (n : Nat) : List D := (List.range n).map fun (i : Nat) => .int (lo + (i : Int) * c)
theorem itD_rangeC {F : Hp} (lo c : Int) (n : Nat) : ItD K F (Itc lo c n) (rangeCD lo c n) := by
  have l : (rangeCD lo c n).length = n := by simp [rangeCD]
  refine ⟨fun i H hi _ => by rw [l] at hi; exact hi, fun H _ => by rw [l]; exact Nat.le_refl n, fun i H x H' hi s y B σ δ G F1 S s1 => ?_⟩
  obtain ⟨rfl, rfl⟩ := y
  rw [l] at hi
  exact ⟨F1, .int (lo + (i : Int) * c), .refl F1, S, by simp [rangeCD, hi], .int _⟩
def iRange3D (ta : TAD) : TID := fun δ G R => ta δ G fun ds G1 => match ds with | [.int i, .int j, .int c] => ∃ n, RgC i j c n ∧ R (rangeCD i c n) G1 | _ => False
theorem di_range3 {tg a b c : Expr} {ta : TAD} {p pos : Pos} (hg : Gl X "range") (hm : X.mg "range" = none) (ha : DA X B [a, b, c] ta)
    (hs : starEach [a, b, c] X.env = (false, eval a X.env) :: starEach [b, c] X.env := by rfl) (hpl : (backTo pos (starEach [b, c] X.env)).any (·.1) = false := by rfl) : DI X B tg (.Call (.Name "range" p) [a, b, c] [] pos) (iRange3D ta) :=
  PI.weak (pi_range3 hg hm ha hs hpl) fun σ H R ⟨F, G, δ, Qd, S, h, k⟩ => ⟨F, G, δ, _, S, h, fun vs H1 ⟨F1, G1, ds, s1, S1, r1, h1⟩ => by
    match ds, r1, h1 with
    | [.int i, .int j, .int c], .cons r (.cons r2 (.cons r3 .nil)), h1 =>
      cases r
      cases r2
      cases r3
      obtain ⟨n, hn, h1⟩ := h1
      exact ⟨i, j, c, n, rfl, hn, k _ _ ⟨F1, G1, _, s1, S1, itD_rangeC i c n, h1⟩⟩⟩
theorem repAll_rev {F : Hp} : ∀ {vs : List V} {ds : List D}, RepAll K F vs ds → RepAll K F vs.reverse ds.reverse
  | _, _, .nil => .nil
  | _, _, .cons h r => by
    rw [List.reverse_cons, List.reverse_cons]
    exact (repAll_rev r).append (.cons h .nil)
def dRevL (te : TED) : TED := fun δ G Q => te δ G fun d G1 => match lsD d G1 with | some ds => Q (.lst ds.reverse) G1 | none => False
theorem de_revL {j : Nat} {p1 p2 p3 pos : Pos} (he : DE X B e te) : DE X B (.Subscript e (.Slice none none (some (.UnaryOp .USub (.Constant (.int 1) j p1) p2)) p3) pos) (dRevL te) :=
  PE.weak (pe_revL he) fun σ H Q ⟨F, G, δ, Qd, S, h, k⟩ => ⟨F, G, δ, _, S, h, fun v H1 ⟨F1, G1, d, s1, S1, r1, h1⟩ => by
    cases e : lsD d G1 with
    | none => simp only [e] at h1
    | some ds =>
      simp only [e] at h1
      obtain ⟨p, xs, rfl, hs, ra⟩ := ls_rep S1 r1 e
      refine ⟨p, xs, rfl, .of hs, fun q nq => ?_⟩
      obtain ⟨F', G', d', s', S', r', q'⟩ := Beh.newL (Qd := Qd) S1 nq (repAll_rev ra) h1
      exact k _ _ ⟨F', G', d', s1.trans s', S', r', q'⟩⟩
def ltPD : R2D := fun a b G Q => ∃ p q, DP a p ∧ DP b q ∧ PySem.W.alike p q = true ∧ p ≠ .none ∧ min p.depth q.depth ≤ 60 ∧ Q (.bl (PySem.W.dataLt p q)) G
theorem ltP_A : OpA K (rLtP K) ltPD := fun B σ δ H F G x y a b Qd Q S r1 r2 ⟨p, q, hp, hq, s1, s2, s3, h⟩ k => ⟨p, q, hp.rep S.ds.sub r1, hq.rep S.ds.sub r2, s1, s2, s3, k _ _ (.val S (.bl _) h)⟩
mutual
/-- no list within -/
def noL : D → Bool
  | .non | .bl _ | .int _ | .str _ | .ty _ => true
  | .tup ds => noLs ds
  | .ins _ fs => noLf fs
  | .dln _ kvs => noLn kvs
  | .adr _ | .lst _ | .scr _ | .exc _ _ | .dic _ | .dit _ => false
def noLs : List D → Bool
  | [] => true
  | d :: ds => noL d && noLs ds
def noLf : List (Str × D) → Bool
  | [] => true
  | (_, d) :: ds => noL d && noLf ds
def noLn : List (Row × D) → Bool
  | [] => true
  | (_, d) :: ds => noL d && noLn ds
end
def dropA (F : Hp) (a : Addr) : Hp := fun b => if b = a then none else F b
theorem dropA_same {F : Hp} {a : Addr} : dropA F a a = none := by unfold dropA; rw [if_pos rfl]
theorem dropA_ne {F : Hp} {a b : Addr} (h : b ≠ a) : dropA F a b = F b := by unfold dropA; rw [if_neg h]
theorem dropA_of {F : Hp} {a b : Addr} {xs : List V} {o : HO} (ha : F a = some (.lst xs)) (h : F b = some o) (n : ∀ ys, o ≠ .lst ys) : dropA F a b = some o := by
  rw [dropA_ne]
  · exact h
  · intro z
    rw [z, ha] at h
    exact n _ (Option.some.inj h).symm
section
variable {F : Hp} {a0 : Addr} {xs0 : List V}
mutual
theorem Rep.dropA (h0 : F a0 = some (.lst xs0)) : ∀ {v : V} {d : D}, noL d = true → Rep K F v d → Rep K (dropA F a0) v d
  | _, _, _, .non => .non
  | _, _, _, .bl b => .bl b
  | _, _, _, .int i => .int i
  | _, _, _, .str x => .str x
  | _, _, _, .ty n => .ty n
  | _, .adr _, n, _ => by simp only [noL] at n; cases n
  | _, _, n, .tup h r => .tup (dropA_of h0 h fun _ z => by cases z) (RepAll.dropA h0 (by simpa only [noL] using n) r)
  | _, _, n, .lst h r => by simp only [noL] at n; cases n
  | _, _, n, .scr h => by simp only [noL] at n; cases n
  | _, _, n, .ins h g m r => .ins (dropA_of h0 h fun _ z => by cases z) g m (RepF.dropA h0 (by simpa only [noL] using n) r)
  | _, _, n, .exc h g r => by simp only [noL] at n; cases n
  | _, _, n, .dk h r => by simp only [noL] at n; cases n
  | _, _, n, .dt h r => by simp only [noL] at n; cases n
  | _, _, n, .dn h k r => .dn (dropA_of h0 h fun _ z => by cases z) (fun p hp => dropA_of h0 (k p hp) fun _ z => by cases z) (RepN.dropA h0 (by simpa only [noL] using n) r)
theorem RepAll.dropA (h0 : F a0 = some (.lst xs0)) : ∀ {vs : List V} {ds : List D}, noLs ds = true → RepAll K F vs ds → RepAll K (dropA F a0) vs ds
  | _, _, _, .nil => .nil
  | _, _, n, .cons h r => by
    simp only [noLs, Bool.and_eq_true] at n
    exact .cons (Rep.dropA h0 n.1 h) (RepAll.dropA h0 n.2 r)
theorem RepF.dropA (h0 : F a0 = some (.lst xs0)) : ∀ {vs : List (Str × V)} {ds : List (Str × D)}, noLf ds = true → RepF K F vs ds → RepF K (dropA F a0) vs ds
  | _, _, _, .nil => .nil
  | _, _, n, .cons h r => by
    simp only [noLf, Bool.and_eq_true] at n
    exact .cons (Rep.dropA h0 n.1 h) (RepF.dropA h0 n.2 r)
theorem RepN.dropA (h0 : F a0 = some (.lst xs0)) : ∀ {vs : EntN} {ds : List (Row × D)}, noLn ds = true → RepN K F vs ds → RepN K (dropA F a0) vs ds
  | _, _, _, .nil => .nil
  | _, _, n, .cons h r => by
    simp only [noLn, Bool.and_eq_true] at n
    exact .cons (Rep.dropA h0 n.1 h) (RepN.dropA h0 n.2 r)
end
end
theorem de_ninW {w : World} {i o : Expr} {ti to : TED} {pos : Pos} (hw : X.w = w) (hu : X.A.units + 1 < cLine) (hi : DE X B i ti) (ho : DE X B o to) (hm : behindInMarks .In o = false := by rfl) : DE X B (.Compare i [.In] [o] pos) (dNIn w ti to) := hw ▸ de_nin hu hi ho hm
def noG : Gm := fun _ => none
def dLent (sp : SpD) (t : TAD) : TED := fun δ G Q => t δ G fun ds G1 => ∃ a es, ds = [.adr a] ∧ G1 a = some (.lst es) ∧ sp [.lst es] noG (fun d _ => noL d = true ∧ Q d G1) WN
theorem lent_low {sp : SpD} {W : WD} {Qd : QD} {Q : VK} {a : Addr} {es : List D} {F1 : Hp} {G1 : Gm} (kk : ∀ v H', Beh K B σ F δ Qd v H' → Q v H') (s1 : Same F F1) (S1 : Sit K B σ H F1 δ G1) (hg : G1 a = some (.lst es)) (h : sp [.lst es] noG (fun d _ => noL d = true ∧ Qd d G1) WN) : lowSp K sp [.ref a] H Q (XW K B W) := by
  obtain ⟨nF, xs, hx, ra⟩ := S1.ds.mu a _ hg
  have hz : B.Z a = none := by
    cases e : B.Z a with
    | none => rfl
    | some o =>
      have := (S1.ds.zf a o e).2.1
      rw [hg] at this
      cases this
  let Z' : Hp := fun b => if b = a then none else if (G1 b).isSome = true then H b else B.Z b
  have Za : Z' a = none := by show (if a = a then none else _) = none; rw [if_pos rfl]
  have Zg : ∀ b m, b ≠ a → G1 b = some m → Z' b = H b := fun b m n e => by
    show (if b = a then none else if (G1 b).isSome = true then H b else B.Z b) = _
    rw [if_neg n, e]
    rfl
  have Zn : ∀ b, G1 b = none → Z' b = B.Z b := fun b e => by
    show (if b = a then none else if (G1 b).isSome = true then H b else B.Z b) = _
    rw [if_neg (fun z => by rw [z, hg] at e; cases e), e]
    rfl
  have sF : Same F1 (upd F1 a (.lst xs)) := fun b u e => by
    rw [upd_ne (fun z => by rw [z, nF] at e; cases e)]
    exact e
  have D1 : DS K B.T (upd F1 a (.lst xs)) H noG Z' := by
    refine ⟨fun b u e => ?_, fun b m e => (by cases e), fun b u e => ?_, fun b u e => ?_, fun b u e => ?_, S1.ds.tab⟩
    · by_cases c : b = a
      · rw [c, upd_same] at e
        cases e
        rw [c]
        exact hx
      · rw [upd_ne c] at e
        exact S1.ds.sub _ _ e
    · cases g : G1 b with
      | none =>
        rw [Zn b g] at e
        exact S1.ds.zub _ _ e
      | some m =>
        by_cases c : b = a
        · rw [c, Za] at e
          cases e
        · rw [Zg b m c g] at e
          exact e
    · have c : b ≠ a := fun z => by rw [z, Za] at e; cases e
      rw [upd_ne c]
      cases g : G1 b with
      | none =>
        rw [Zn b g] at e
        exact ⟨(S1.ds.zf _ _ e).1, rfl, (S1.ds.zf _ _ e).2.2⟩
      | some m =>
        rw [Zg b m c g] at e
        obtain ⟨n1, mr⟩ := S1.ds.mu b m g
        obtain ⟨o, eo, mo⟩ := mr.at_
        rw [eo] at e
        cases e
        exact ⟨n1, rfl, mo⟩
    · by_cases c : b = a
      · rw [c, upd_same] at e
        cases e
        exact trivial
      · rw [upd_ne c] at e
        exact S1.ds.ft _ _ e
  refine ⟨⟨upd F1 a (.lst xs), Z', B.T⟩, noG, [.lst es], _, WN, D1, .cons (.lst upd_same (ra.mono sF)) .nil, h, fun v H' hv => ?_, fun cls dd H' ⟨_, _, _, _, _, _, _, _, z⟩ => z.elim⟩
  obtain ⟨F', G', d, s', ds', _, r', q0⟩ := hv
  obtain ⟨nl, q'⟩ := q0
  have hFa : F' a = some (.lst xs) := s' _ _ upd_same
  have s3 : Same F1 (dropA F' a) := fun b u e => by
    have c : b ≠ a := fun z => by rw [z, nF] at e; cases e
    rw [dropA_ne c]
    exact s' _ _ (sF _ _ e)
  refine kk v H' ⟨dropA F' a, G1, d, s1.trans s3, ⟨⟨fun b u e => ?_, fun b m e => ?_, fun b u e => ?_, fun b u e => ?_, fun b u e => ?_, ds'.tab⟩, S1.gr.trans s3, S1.sl.mono s3⟩, r'.dropA hFa nl, q'⟩
  · have c : b ≠ a := fun z => by rw [z, dropA_same] at e; cases e
    rw [dropA_ne c] at e
    exact ds'.sub _ _ e
  · by_cases c : b = a
    · subst c
      rw [hg] at e
      cases e
      exact ⟨dropA_same, xs, ds'.sub _ _ hFa, ra.mono s3⟩
    · obtain ⟨n1, mr⟩ := S1.ds.mu b m e
      obtain ⟨o, eo, mo⟩ := mr.at_
      have ez : Z' b = some o := (Zg b m c e).trans eo
      rw [dropA_ne c]
      exact ⟨(ds'.zf b o ez).1, mr.mono s3 fun o' eo' => by
        rw [eo] at eo'
        cases eo'
        exact ds'.zub _ _ ez⟩
  · have g : G1 b = none := (S1.ds.zf _ _ e).2.1
    exact ds'.zub _ _ ((Zn b g).trans e)
  · obtain ⟨z1, z2, z3⟩ := S1.ds.zf _ _ e
    have c : b ≠ a := fun z => by rw [z, hz] at e; cases e
    rw [dropA_ne c]
    exact ⟨(ds'.zf b u ((Zn b z2).trans e)).1, z2, z3⟩
  · have c : b ≠ a := fun z => by rw [z, dropA_same] at e; cases e
    rw [dropA_ne c] at e
    exact ds'.ft _ _ e
theorem de_smethL {pl : Sem Bool} {mc : Value} {m : Str} {pa g : Addr} {sp : SpD} {W : WD} {o : Expr} {es : List Expr} {apos : Pos} (hx : Passes (L2.CX X.prog X.w) X (XW X.K B W)) (he : PE X o (tC (.ref C))) (c : SMet X.K C mc m pa g) (Fn : FnD X.prog X.w X.K X.mg X.base k g fd ps sp) (hr : Room k X.A) (hb : Binds X.K fd ps []) (ha : DA X B (e :: es) t)
    (hst : starEach (e :: es) X.env = (false, eval e X.env) :: starEach es X.env := by rfl) (hpl : (backTo pos (starEach es X.env)).any (·.1) = false := by rfl)
    (ht : eval (.Call (.Attribute o m apos) (e :: es) [] pos) X.env = (do
      let ov ← eval o X.env
      standAt apos.atName
      let (f, first) ← holding [ov] (getMethod ov m pl)
      callWith pos f first (backTo pos (starEach (e :: es) X.env)) (backToKw pos (keywordEach [] X.env))) := by rfl) :
    DE X B (.Call (.Attribute o m apos) (e :: es) [] pos) (dLent sp t) :=
  PE.weak (pe_smeth (E := fun _ => XW X.K B W) he c Fn hr hb (fun σ pins H s e s' I c => hx pins σ H s e s' I c) ha hst hpl ht) fun σ H Q ⟨F, G, δ, Qd, S, h, kk⟩ => ⟨rfl, F, G, δ, _, S, h, fun vs H1 ⟨F1, G1, ds, s1, S1, r1, h1⟩ => by
    obtain ⟨a, es, rfl, hg, h2⟩ := h1
    match vs, r1 with
    | [v], .cons r .nil =>
      cases r
      exact lent_low kk s1 S1 hg h2⟩
end
end JP
namespace JP
open PySem PySem.Spec PySem.W PyProof.Rows L2
/-- a def: where its function object is, what the text says of it, its defaults -/
structure DefY where
  ad : Frag → Addr
  nm : Str
  qual : Str
  st : Stmt
  dfl : List V
/-- the address behind a class's name in a table -/
def nsA (K : Frag) (C : Addr) (x : Str) : Addr := match findIn K (.ref C) x with
  | some (some (.ref a)) => a
  | _ => 0
/-- what a staticmethod, a property holds first -/
def fstA (K : Frag) (c : String) (p : Addr) : Addr := match recIn K p c with
  | some (.ref a :: _) => a
  | _ => 0
def fnY (K : Frag) (d : DefY) : He.FnW := match K.lookup (d.ad K) with
  | some ⟨_, _, .func fd, _⟩ => some (fd.name, fd.qualname, fd.params, fd.body, fd.scope, fd.globals, fd.closure, fd.builtins)
  | _ => none
def valOf (d : DefY) : He.FnW := some (d.nm, d.qual, defArgs d.st, .stmts (defBody d.st), defScope d.st, mainGlobals, [], builtinsNs)
def okY (K : Frag) (d : DefY) : Bool := keepIn K (.ref (d.ad K)) && match K.lookup (d.ad K) with
  | some ⟨_, _, .func fd, _⟩ => codeIn K fd.code d.qual && He.dflB K fd.defaults d.dfl
  | _ => false
/-- the code object of the function at a -/
def codeAt (K : Frag) (a : Addr) : Addr := match K.lookup a with
  | some ⟨_, _, .func fd, _⟩ => (match fd.code with
    | .ref c => c
    | _ => 0)
  | _ => 0
def tabAt (K : Frag) (a : Addr) : Addr × Addr := (codeAt K a, He.tabOf K (codeAt K a))
def tabsOk (g : Addr → Option Obj) (K : Frag) (tf : List (Frag → Addr)) : Bool := tf.all fun f => codeHdIn K (tabAt K (f K)).1 (tabAt K (f K)).2 && match g (tabAt K (f K)).2 with
  | some o => He.emptyTab o
  | none => false
/-- a dict of the top with text keys: where, its keys in order -/
abbrev TabY : Type := (Frag → Addr) × List Str
abbrev ObY : Type := Bool × List He.FnW × List (Option (List (Option (Str × Int))))
def lookY (n : Nat) (bs : Frag → List Bool) (fn : List DefY) (tf : List (Frag → Addr)) (ts : List TabY) (g : Addr → Option Obj) : ObY :=
  ((bs (He.frT g (PySem.cStatics :: He.asD g n))).all id && ((fn.all (okY (He.frT g (PySem.cStatics :: He.asD g n)))) && tabsOk g (He.frT g (PySem.cStatics :: He.asD g n)) tf), fn.map (fnY (He.frT g (PySem.cStatics :: He.asD g n))), ts.map fun t => He.dicW (He.frT g (PySem.cStatics :: He.asD g n)) (t.1 (He.frT g (PySem.cStatics :: He.asD g n))))
structure SaysY (bs : Frag → List Bool) (fn : List DefY) (tf : List (Frag → Addr)) (ts : List TabY) (w : World) (h : Heap) (K : Frag) : Prop where
  inK : K.In h
  bools : (bs K).all id = true
  oks : fn.all (okY K) = true
  fns : fn.map (fnY K) = fn.map valOf
  tabs : ts.map (fun t => He.dicW K (t.1 K)) = ts.map fun t => some (He.keysIn w.params t.2)
  hd : ∀ f ∈ tf, codeHdIn K (tabAt K (f K)).1 (tabAt K (f K)).2 = true
  out : ∀ f ∈ tf, K.lookup (tabAt K (f K)).2 = none
  mt : ∀ f ∈ tf, h.get? (tabAt K (f K)).2 = some { cls := .none, data := .fields #[] }
theorem saysY_of {n : Nat} {bs : Frag → List Bool} {fn : List DefY} {tf : List (Frag → Addr)} {ts : List TabY} {w : World} {h : Heap} (e : lookY n bs fn tf ts h.get? = (true, fn.map valOf, ts.map fun t => some (He.keysIn w.params t.2))) : SaysY bs fn tf ts w h (He.frT h.get? (PySem.cStatics :: He.asD h.get? n)) := by
  generalize hK : He.frT h.get? (PySem.cStatics :: He.asD h.get? n) = K at *
  have e' : ((bs K).all id && (fn.all (okY K) && tabsOk h.get? K tf), fn.map (fnY K), ts.map fun t => He.dicW K (t.1 K)) = ((true, fn.map valOf, ts.map fun t => some (He.keysIn w.params t.2)) : ObY) := by rw [← hK]; exact e
  injection e' with e1 e23
  injection e23 with e2 e3
  rw [Bool.and_eq_true, Bool.and_eq_true] at e1
  obtain ⟨b1, b2, b3⟩ := e1
  have each : ∀ f ∈ tf, codeHdIn K (tabAt K (f K)).1 (tabAt K (f K)).2 = true ∧ ∃ o, h.get? (tabAt K (f K)).2 = some o ∧ He.emptyTab o = true := by
    intro f hf
    have z := List.all_eq_true.mp b3 f hf
    rw [Bool.and_eq_true] at z
    refine ⟨z.1, ?_⟩
    cases q : h.get? (tabAt K (f K)).2 with
    | none => rw [q] at z; cases z.2
    | some o => rw [q] at z; exact ⟨o, rfl, z.2⟩
  refine ⟨hK ▸ He.frT_in, b1, b2, e2, e3, fun f hf => (each f hf).1, fun f hf => ?_, fun f hf => ?_⟩
  · obtain ⟨_, o, q, z⟩ := each f hf
    have := He.frT_none (as := PySem.cStatics :: He.asD h.get? n) q z
    rw [hK] at this
    exact this
  · obtain ⟨_, o, q, z⟩ := each f hf
    rw [q, He.emptyTab_eq z]
def hookY (n : Nat) (bs : Frag → List Bool) (fn : List DefY) (tf : List (Frag → Addr)) (ts : List TabY) : Hook where
  α := ObY
  obs := fun s => lookY n bs fn tf ts s.heap.get?
  val := fun w => (true, fn.map valOf, ts.map fun t => some (He.keysIn w.params t.2))
  says := fun w h => ∃ K : Frag, SaysY bs fn tf ts w h K
  of := fun _ _ e => ⟨_, saysY_of e⟩
  keeps := fun _ _ _ ⟨K, c⟩ k => ⟨K, ⟨Frag.In.keeps c.inK k, c.bools, c.oks, c.fns, c.tabs, c.hd, c.out, fun f hf => k _ _ (c.mt f hf)⟩⟩
theorem lookY_eq {n : Nat} {bs : Frag → List Bool} {fn : List DefY} {tf : List (Frag → Addr)} {ts : List TabY} {g : Addr → Option Obj} {s : Shared} (h : ∀ a, g a = s.heap.get? a) : lookY n bs fn tf ts g = (hookY n bs fn tf ts).obs s := by
  obtain rfl : g = s.heap.get? := funext h
  rfl
section
variable {bs : Frag → List Bool} {fn : List DefY} {tf : List (Frag → Addr)} {ts : List TabY} {w : World} {h : Heap} {K : Frag}
theorem SaysY.bit (c : SaysY bs fn tf ts w h K) (i : Nat) {b : Bool} (e : (bs K)[i]? = some b) : b = true := List.all_eq_true.mp c.bools b (List.mem_of_getElem? e)
theorem SaysY.tab (c : SaysY bs fn tf ts w h K) (i : Nat) {t : TabY} (e : ts[i]? = some t := by rfl) : ∃ es n, L2.KDict K w (t.1 K) es n := by
  have e2 : (ts.map fun t => He.dicW K (t.1 K))[i]? = (ts.map fun t => some (He.keysIn w.params t.2))[i]? := by rw [c.tabs]
  rw [List.getElem?_map, List.getElem?_map, e] at e2
  exact He.dicW_ok (Option.some.inj e2)
theorem SaysY.fn_at (c : SaysY bs fn tf ts w h K) (i : Nat) {d : DefY} (e : fn[i]? = some d) :
    ∃ oc od osl dV kV doc pm an cdv ct, K.lookup (d.ad K) = some ⟨oc, od, .func (fnOf d.nm d.qual (defArgs d.st) (defBody d.st) (defScope d.st) dV kV doc pm an cdv ct), osl⟩ ∧ codeIn K cdv d.qual = true ∧ keepIn K (.ref (d.ad K)) = true ∧ DflV K dV d.dfl := by
  have ok := List.all_eq_true.mp c.oks d (List.mem_of_getElem? e)
  have val : fnY K d = valOf d := by
    have := congrArg (fun z : List He.FnW => z[i]?) c.fns
    simp only [List.getElem?_map, e, Option.map_some, Option.some.injEq] at this
    exact this
  unfold okY at ok
  unfold fnY at val
  rw [Bool.and_eq_true] at ok
  obtain ⟨k1, k2⟩ := ok
  cases q : K.lookup (d.ad K) with
  | none => rw [q] at k2; cases k2
  | some o =>
    obtain ⟨oc, od, dt, osl⟩ := o
    rw [q] at k2 val
    cases dt with
    | func fd =>
      obtain ⟨n1, n2, n3, n4, n5, n6, n7, n8, n9, n10, n11, n12, n13, n14, n15⟩ := fd
      rw [Bool.and_eq_true] at k2
      have v : (some (n1, n2, n3, n4, n5, n6, n7, n15) : He.FnW) = valOf d := val
      simp only [valOf, Option.some.injEq, Prod.mk.injEq] at v
      obtain ⟨rfl, rfl, rfl, rfl, rfl, rfl, rfl, rfl⟩ := v
      exact ⟨oc, od, osl, _, _, _, _, _, _, _, rfl, k2.1, k1, He.dflB_ok k2.2⟩
    | _ => cases k2
end
end JP
namespace JP
open PySem PySem.Spec PySem.W PySem.Calls PyProof.Rows L2
/-- the abstract heap at the law's call: the empty tables, the script at most -/
def endHp (K : Frag) (ts : List Addr) (a : Addr) (o : Obj) (xs : List V) : Hp := fun b => if b ∈ ts then some (.tbl #[]) else scriptHp K a o xs b
/-- so it looks -/
def OnlyT (ts : List Addr) (H : Hp) : Prop := ∀ b, (b ∈ ts → H b = some (.tbl #[])) ∧ (b ∉ ts → H b = none ∨ ∃ o xs, H b = some (.frz o (.lst xs)))
section
variable {K : Frag} {ts : List Addr} {a b : Addr} {o : Obj} {xs : List V}
theorem endHp_tab (h : b ∈ ts) : endHp K ts a o xs b = some (.tbl #[]) := if_pos h
theorem endHp_not (h : b ∉ ts) : endHp K ts a o xs b = scriptHp K a o xs b := if_neg h
theorem endHp_only : OnlyT ts (endHp K ts a o xs) := fun b => ⟨endHp_tab, fun h => by
  rw [endHp_not h]
  exact scriptHp_only b⟩
end
theorem law_gt {P : Program} {w : World} {K : Frag} {mg mb : Str → Option Value} {k : Nat} {fa a : Addr} {fd : FuncData} {x : Str} {sp : Sp} {s : Shared} {vs : List Value} {ns : List Int} {cs : List (Addr × Addr)}
    (inK : K.In s.heap) (gl : s.heap.Ns mainGlobals mg) (bl : s.heap.Ns builtinsNs mb) (blt : ∀ x : Str, x ≠ "__name__" → mb x = bootBuiltins x) (nl : s.heap.NoLimit) (gens : s.gens = #[])
    (mt : ∀ p ∈ cs, s.heap.get? p.2 = some { cls := .none, data := .fields #[] }) (out : ∀ p ∈ cs, K.lookup p.2 = none) (hds : ∀ p ∈ cs, CodeHd s.heap p.1 p.2)
    (main : ∃ (bm : Addr) (ob : Obj), mg "__builtins__" = some (.ref bm) ∧ bm ≠ builtinsNs ∧ s.heap.get? bm = some ob ∧ ob.cls = .type "module" ∧ ob.dict = some builtinsNs ∧ ob.data = .plain)
    (obj : s.heap.get? a = some { cls := .type "list", data := .seq vs.toArray }) (hnum : IntsAre vs ns) (small : ns.length ≤ sizeLine) (room : Room k callerA)
    (F : ∀ base : Heap, K.In base → base.Ns mainGlobals mg → (∀ p ∈ cs, LamX.TabB base mg p.1 p.2) → GOk P w K mg base k fa fd [x] sp) (bind : ∀ (s : Shared) (u : Value), BindsTo s fd ⟨[u], []⟩ [(x, u)])
    (sat : ∀ H : Hp, OnlyT (cs.map Prod.snd) H → SqL K H a (ns.map V.int) → sp [.ref a] H (fun v _ => v = .bl true) fun _ _ _ => False) :
    codeAny (model P w) callerA (.call (.ref fa) ⟨[.ref a], []⟩) (fun r s' => r = .ok (.ret (.bool true)) ∧ OldK s.heap s'.heap ∧ s'.os = s.os ∧ AllBare s'.gens) s := by
  have rel := vals_ints hnum
  have wide : (ns.map V.int).length ≤ sizeLine := by
    rw [List.length_map]
    exact small
  generalize hts : cs.map Prod.snd = ts at sat
  have tab_at : ∀ {b : Addr}, b ∈ ts → s.heap.get? b = some { cls := .none, data := .fields #[] } := by
    intro b hb
    rw [← hts] at hb
    obtain ⟨p, hp, rfl⟩ := List.mem_map.mp hb
    exact mt p hp
  have tab_K : ∀ {b : Addr}, b ∈ ts → K.lookup b = none := by
    intro b hb
    rw [← hts] at hb
    obtain ⟨p, hp, rfl⟩ := List.mem_map.mp hb
    exact out p hp
  have a_ts : a ∉ ts := by
    intro hb
    have q := tab_at hb
    rw [obj] at q
    cases q
  generalize hH : endHp K ts a { cls := .type "list", data := .seq vs.toArray } (ns.map V.int) = H
  have only : OnlyT ts H := hH ▸ endHp_only
  have kinds : ∀ {b : Addr} {u : HO}, H b = some u → (b ∈ ts ∧ u = .tbl #[]) ∨ (b ∉ ts ∧ b = a ∧ K.lookup a = none ∧ u = .frz { cls := .type "list", data := .seq vs.toArray } (.lst (ns.map V.int))) := by
    intro b u e
    by_cases hb : b ∈ ts
    · rw [(only b).1 hb] at e
      exact .inl ⟨hb, (Option.some.inj e).symm⟩
    · rw [← hH, endHp_not hb] at e
      obtain ⟨q1, q2, q3⟩ := scriptHp_some e
      exact .inr ⟨hb, q1, q2, q3⟩
  have held : HOk P w H s.heap := by
    intro b u e
    rcases kinds e with ⟨hb, rfl⟩ | ⟨_, rfl, _, rfl⟩
    · exact tab_at hb
    · exact ⟨obj, wide, vs, _, rel, obj⟩
  have seq : SqL K H a (ns.map V.int) := by
    cases q : K.lookup a with
    | none =>
      refine .inl (.inr ⟨{ cls := .type "list", data := .seq vs.toArray }, ?_⟩)
      rw [← hH, endHp_not a_ts]
      exact if_pos ⟨rfl, q⟩
    | some o =>
      have e := inK a o q
      rw [obj] at e
      cases e
      exact .inr ⟨_, vs.toArray, _, q, rfl, rfl, rfl, by
        rw [List.size_toArray, hnum.length]
        exact small, by simpa using rel⟩
  have free : ∀ {b : Addr} {ob : Obj}, s.heap.get? b = some ob → (∀ its n, ob.data ≠ .seq its n) → ob.data ≠ .fields #[] → H b = none := by
    intro b ob e d1 d2
    cases q : H b with
    | none => rfl
    | some u =>
      rcases kinds q with ⟨hb, _⟩ | ⟨_, rfl, _, _⟩
      · rw [tab_at hb] at e
        cases e
        exact absurd rfl d2
      · rw [obj] at e
        cases e
        exact absurd rfl (d1 _ _)
  have nsOk : ∀ {b : Addr} {m : Str → Option Value}, s.heap.Ns b m → (hidT s.heap H).Ns b m := by
    intro b m z
    obtain ⟨ob, es, ep, e, d, r⟩ := z
    exact ⟨ob, es, ep, hidT_get e (free e (by intro its n z; rw [d] at z; cases z) (by intro z; rw [d] at z; cases z)), d, r⟩
  have inB : K.In (hidT s.heap H) := by
    intro b ob e
    refine hidT_get (inK b ob e) ?_
    cases q : H b with
    | none => rfl
    | some u =>
      rcases kinds q with ⟨hb, _⟩ | ⟨_, rfl, z, _⟩
      · rw [tab_K hb] at e
        cases e
      · rw [z] at e
        cases e
  have mods : Mod K mg (hidT s.heap H) := by
    obtain ⟨mc, h1, h2⟩ := nl
    exact ⟨inB, nsOk gl, ⟨mb, nsOk bl, blt⟩, mc, nsOk h1, h2⟩
  have tabB : ∀ p ∈ cs, LamX.TabB (hidT s.heap H) mg p.1 p.2 := by
    intro p hp
    have here := mt p hp
    constructor
    · obtain ⟨ob, fs, y1, y2, y3, y4, y5, y6, y7, got, cl, da, p11, rest⟩ := hds p hp
      refine ⟨ob, fs, y1, y2, y3, y4, y5, y6, y7, hidT_get got (free got ?_ ?_), cl, da, p11, rest⟩
      · intro its n z
        rw [da] at z
        cases z
      · intro z
        rw [da] at z
        cases z
        cases p11
    · obtain ⟨bm, ob, b1, b2, b3, b4, b5, b6⟩ := main
      refine ⟨bm, ob, b1, b2, ?_, ?_, hidT_get b3 (free b3 ?_ ?_), b4, b5, b6⟩
      · intro q
        obtain ⟨o', es, ep, e, hd, _⟩ := gl
        rw [q, e] at b3
        cases b3
        rw [hd] at b6
        cases b6
      · intro q
        rw [q, here] at b3
        cases b3
        cases b6
      · intro its n z
        rw [b6] at z
        cases z
      · intro z
        rw [b6] at z
        cases z
    · intro z
      obtain ⟨o', es, ep, e, hd, _⟩ := gl
      rw [z, here] at e
      cases e
      cases hd
  have e0 : Env0 P w K mg (hidT s.heap H) callerA [] s H :=
    { frames := rfl, mod := mods, bs := fun b o e => of_hidT e, bsz := Nat.le_of_eq (hidT_size _ _), funs := trivial, frf := fun b z => (List.not_mem_nil z).elim, hok := held, bare := .of_eq gens }
  apply codeAny_mono ((F _ inB (nsOk gl) tabB).kept callerA [] s H ⟨[.ref a], []⟩ [.ref a] [.ref a] _ _ rfl room e0 (bind s (.ref a)) (.cons rfl .nil) (sat H only seq))
  intro r s' z
  match r, z with
  | .error _, z => exact z.elim
  | .ok .next, z => exact z.elim
  | .ok .brk, z => exact z.elim
  | .ok .cont, z => exact z.elim
  | .ok (.ret u), ⟨v, H', os, bare, un, held', rv, z⟩ =>
    have ev : v = .bl true := z
    subst ev
    have eu : u = Value.bool true := rv
    subst eu
    have stays : ∀ b ob, b ∉ ts → s.heap.get? b = some ob → s'.heap.get? b = some ob := by
      intro b ob hb e
      cases q : H b with
      | none => exact un.keep b ob e q List.not_mem_nil List.not_mem_nil
      | some u =>
        rcases kinds q with ⟨hb', _⟩ | ⟨_, rfl, _, rfl⟩
        · exact absurd hb' hb
        · have e1 := (held' _ _ (un.frzs _ _ _ q)).1
          rw [obj] at e
          cases e
          exact e1
    have grows : ∀ p ∈ cs, ∃ more : Array Value, s'.heap.get? p.2 = some { cls := .none, data := .fields more } := by
      intro p hp
      have mem : p.2 ∈ ts := hts ▸ List.mem_map.mpr ⟨p, hp, rfl⟩
      obtain ⟨more, q⟩ := un.tbls p.2 #[] ((only p.2).1 mem)
      exact ⟨_, held' p.2 _ q⟩
    have isTab : ∀ {b : Addr}, b ∈ ts → ∃ p ∈ cs, p.2 = b := by
      intro b hb
      rw [← hts] at hb
      obtain ⟨p, hp, e⟩ := List.mem_map.mp hb
      exact ⟨p, hp, e⟩
    refine ⟨rfl, ⟨?_, ?_⟩, os, bare⟩
    · intro b ob e
      by_cases hb : b ∈ ts
      · right; left
        obtain ⟨p, hp, rfl⟩ := isTab hb
        obtain ⟨more, hm⟩ := grows p hp
        rw [mt p hp] at e
        cases e
        refine ⟨((hds p hp).tab (mt p hp)).isCodeTable, rfl, #[], more, rfl, ?_⟩
        rw [hm, Array.empty_append]
      · left
        exact stays b ob hb e
    · intro b ob e
      by_cases hb : b ∈ ts
      · obtain ⟨p, hp, rfl⟩ := isTab hb
        obtain ⟨more, hm⟩ := grows p hp
        exact ⟨_, hm⟩
      · exact ⟨ob, stays b ob hb e⟩
/-- the law by what the head says of it -/
theorem walk_gt {l : OpenLaw} {n k : Nat} {q : Program} {loose : List Str} {XP : (Str → Option Value) → Heap → Prop} {YP : World → Heap → Prop} {d : DefRec} {x : Str}
    (most : l.most = some n) (small : n ≤ sizeLine) (nodef : d.params.defaults = []) (room : Room k callerA)
    (F : ∀ (w : World) (mg : Str → Option Value) (fa : Addr) (h : Heap), YP w h → h.Ns mainGlobals mg → mg d.name = some (.ref fa) →
      ∃ (K : Frag) (fd : FuncData) (cs : List (Addr × Addr)) (sp : Sp), K.In h ∧ (∀ p ∈ cs, h.get? p.2 = some { cls := .none, data := .fields #[] }) ∧ (∀ p ∈ cs, K.lookup p.2 = none) ∧ (∀ p ∈ cs, CodeHd h p.1 p.2) ∧
        (∀ (s : Shared) (u : Value), BindsTo s fd ⟨[u], []⟩ [(x, u)]) ∧ (∀ (H : Hp) (a : Addr) (ns : List Int), ns.length ≤ n → OnlyT (cs.map Prod.snd) H → SqL K H a (ns.map V.int) → sp [.ref a] H (fun v _ => v = .bl true) fun _ _ _ => False) ∧
        ∀ base : Heap, K.In base → base.Ns mainGlobals mg → (∀ p ∈ cs, LamX.TabB base mg p.1 p.2) → GOk l.prog w K mg base k fa fd [x] sp) :
    WalkO q loose XP YP l.row.toRowW d [] (fun f vs => PySem.call f vs) := by
  apply Att.attach_callB most nodef
  intro w s₀ s mg mb fa o pm cd doc a vs ns G Y ho hd hcd hmg obj hnum len bits gens
  obtain ⟨K, fd, cs, sp, inK, mt, out, hds, hb, sat, hF⟩ := F w mg fa _ Y G.T.g hmg
  exact law_gt inK G.T.g G.T.b G.T.builtins G.T.nolimit gens mt out hds G.T.bmain obj hnum (Nat.le_trans len small) room hF hb fun H hO hS => sat H a ns len hO hS
end JP
namespace JP
open PySem PySem.Spec PySem.W PySem.Calls PyProof.Rows L2
/-- an own error class with an own __init__ -/
def oexB (K : Frag) (C : Addr) : Bool := match K.lookup C with
  | some ⟨.type "type", _, .cls cd, sl⟩ => (match cd.mro, sl.toList with
    | .ref D :: up, [_, _, _, _, some (.builtin made), _] => decide (D = C) && (decide (made = "ValueError.__new__") && (cd.hasDict && (!cd.hasDel && PySem.HandSPX.refsVE up)))
    | _, _ => false)
  | _ => false
theorem oexB_cls {K : Frag} {C : Addr} (e : oexB K C = true) : ∃ nm q N bs bm sn sub ab col dd k0 k1 k2 k3 k5, K.lookup C = some (excClassObj nm q C N bs bm true sn sub ab col dd k0 k1 k2 k3 k5 "ValueError.__new__") ∧ PySem.HandSPX.refsVE bm = true := by
  unfold oexB at e
  cases q : K.lookup C with
  | none =>
    rw [q] at e
    cases e
  | some o =>
    rw [q] at e
    split at e
    · rename_i dd cd sl ho
      injection ho with ho
      subst ho
      split at e
      · rename_i D up s0 s1 s2 s3 made s5 hm hs
        rw [Bool.and_eq_true, Bool.and_eq_true, Bool.and_eq_true, Bool.and_eq_true] at e
        obtain ⟨e1, e2, e3, e4, e5⟩ := e
        obtain rfl := of_decide_eq_true e1
        obtain rfl := of_decide_eq_true e2
        obtain ⟨nm, bs, mro, ns, qn, hd, sn, sub, ab, col, del⟩ := cd
        have hm' : mro = .ref D :: up := hm
        have e3' : hd = true := e3
        have e4' : del = false := by simpa using e4
        subst hm' e3' e4'
        obtain ⟨l⟩ := sl
        have hs' : l = [s0, s1, s2, s3, some (.builtin "ValueError.__new__"), s5] := hs
        subst hs'
        exact ⟨nm, qn, ns, bs, up, sn, sub, ab, col, dd, s0, s1, s2, s3, s5, rfl, e5⟩
      · cases e
    · cases e
theorem dfl_none {K : Frag} {dV : Value} (h : DflV K dV []) : dV = .none := by
  rcases h with ⟨_, e⟩ | ⟨e, _⟩
  · exact e
  · exact absurd rfl e
/-- what stands behind the first -/
def rstA (K : Frag) (c : String) (p : Addr) : List Value := match recIn K p c with
  | some (_ :: r) => r
  | _ => []
section
variable {bs : Frag → List Bool} {fn : List DefY} {tf : List (Frag → Addr)} {ts : List TabY} {w : World} {h : Heap} {K : Frag}
theorem SaysY.fact (c : SaysY bs fn tf ts w h K) (i : Nat) {p : Prop} [Decidable p] (e : (bs K)[i]? = some (decide p) := by rfl) : p := of_decide_eq_true (c.bit i e)
end
end JP
namespace JP
open PySem PySem.Spec PyProof.Rows L2
def topS (i : Nat) : Stmt := PySem.Challenge.pw_rowcounts_k02_bags_made_and_asked.main.body.getD i (.Pass ⟨0, 0, 0, 0⟩)
abbrev sis_integer : Stmt := topS 2
abbrev Nis_integer : List Str := ["value"]
theorem scis_integer : FnScope Nis_integer ["value"] (defScope sis_integer) := ⟨rfl, rfl, rfl, by decide +kernel, rfl, by decide +kernel, by decide +kernel⟩
abbrev sis_value : Stmt := topS 3
abbrev Nis_value : List Str := ["value"]
theorem scis_value : FnScope Nis_value ["value"] (defScope sis_value) := ⟨rfl, rfl, rfl, by decide +kernel, rfl, by decide +kernel, by decide +kernel⟩
abbrev sis_row : Stmt := topS 4
abbrev Nis_row : List Str := ["value", "item"]
theorem scis_row : FnScope Nis_row ["value"] (defScope sis_row) := ⟨rfl, rfl, rfl, by decide +kernel, rfl, by decide +kernel, by decide +kernel⟩
abbrev svalue_before : Stmt := topS 5
abbrev Nvalue_before : List Str := ["one", "other"]
theorem scvalue_before : FnScope Nvalue_before ["one", "other"] (defScope svalue_before) := ⟨rfl, rfl, rfl, by decide +kernel, rfl, by decide +kernel, by decide +kernel⟩
abbrev srow_before : Stmt := topS 6
abbrev Nrow_before : List Str := ["one", "other", "value", "against"]
theorem scrow_before : FnScope Nrow_before ["one", "other"] (defScope srow_before) := ⟨rfl, rfl, rfl, by decide +kernel, rfl, by decide +kernel, by decide +kernel⟩
abbrev smerged_rows : Stmt := topS 8
abbrev Nmerged_rows : List Str := ["one", "other", "found", "left", "right"]
theorem scmerged_rows : FnScope Nmerged_rows ["one", "other"] (defScope smerged_rows) := ⟨rfl, rfl, rfl, by decide +kernel, rfl, by decide +kernel, by decide +kernel⟩
abbrev sordered_rows : Stmt := topS 7
abbrev Nordered_rows : List Str := ["rows", "half"]
theorem scordered_rows : FnScope Nordered_rows ["rows"] (defScope sordered_rows) := ⟨rfl, rfl, rfl, by decide +kernel, rfl, by decide +kernel, by decide +kernel⟩
abbrev sown_copy : Stmt := topS 10
abbrev Nown_copy : List Str := ["value", "item", "key"]
theorem scown_copy : FnScope Nown_copy ["value"] (defScope sown_copy) := ⟨rfl, rfl, rfl, by decide +kernel, rfl, by decide +kernel, by decide +kernel⟩
abbrev sis_times : Stmt := topS 34
abbrev Nis_times : List Str := ["value"]
theorem scis_times : FnScope Nis_times ["value"] (defScope sis_times) := ⟨rfl, rfl, rfl, by decide +kernel, rfl, by decide +kernel, by decide +kernel⟩
abbrev sis_pair : Stmt := topS 33
abbrev Nis_pair : List Str := ["value"]
theorem scis_pair : FnScope Nis_pair ["value"] (defScope sis_pair) := ⟨rfl, rfl, rfl, by decide +kernel, rfl, by decide +kernel, by decide +kernel⟩
abbrev scheck_pairs : Stmt := topS 32
abbrev Ncheck_pairs : List Str := ["pairs", "at", "pair"]
theorem sccheck_pairs : FnScope Ncheck_pairs ["pairs"] (defScope scheck_pairs) := ⟨rfl, rfl, rfl, by decide +kernel, rfl, by decide +kernel, by decide +kernel⟩
abbrev sadded_up : Stmt := topS 35
abbrev Nadded_up : List Str := ["pairs", "numbers", "row", "times"]
theorem scadded_up : FnScope Nadded_up ["pairs"] (defScope sadded_up) := ⟨rfl, rfl, rfl, by decide +kernel, rfl, by decide +kernel, by decide +kernel⟩
abbrev scheck_numbers : Stmt := topS 36
abbrev Ncheck_numbers : List Str := ["numbers", "row"]
theorem sccheck_numbers : FnScope Ncheck_numbers ["numbers"] (defScope scheck_numbers) := ⟨rfl, rfl, rfl, by decide +kernel, rfl, by decide +kernel, by decide +kernel⟩
abbrev scheck_other : Stmt := topS 37
abbrev Ncheck_other : List Str := ["bag", "other"]
theorem sccheck_other : FnScope Ncheck_other ["bag", "other"] (defScope scheck_other) := ⟨rfl, rfl, rfl, by decide +kernel, rfl, by decide +kernel, by decide +kernel⟩
abbrev srows_of : Stmt := topS 38
abbrev Nrows_of : List Str := ["one", "other", "row", "_"]
theorem scrows_of : FnScope Nrows_of ["one", "other"] (defScope srows_of) := ⟨rfl, rfl, rfl, by decide +kernel, rfl, by decide +kernel, by decide +kernel⟩
abbrev sbag_of : Stmt := topS 30
abbrev Nbag_of : List Str := ["numbers", "standing", "pairs", "row"]
theorem scbag_of : FnScope Nbag_of ["numbers"] (defScope sbag_of) := ⟨rfl, rfl, rfl, by decide +kernel, rfl, by decide +kernel, by decide +kernel⟩
abbrev s_law_pen : Stmt := topS 46
abbrev N_law_pen : List Str := ["_law_script"]
theorem sc_law_pen : FnScope N_law_pen ["_law_script"] (defScope s_law_pen) := ⟨rfl, rfl, rfl, by decide +kernel, rfl, by decide +kernel, by decide +kernel⟩
abbrev s_law_draw : Stmt := topS 47
abbrev N_law_draw : List Str := ["_law_pen_here", "_law_many", "_law_digit", "_law_at", "_law_cell", "_law_great", "_law_mixed"]
theorem sc_law_draw : FnScope N_law_draw ["_law_pen_here", "_law_many"] (defScope s_law_draw) := ⟨rfl, rfl, rfl, by decide +kernel, rfl, by decide +kernel, by decide +kernel⟩
abbrev s_law_pick : Stmt := topS 48
abbrev N_law_pick : List Str := ["_law_pen_here", "_law_some"]
theorem sc_law_pick : FnScope N_law_pick ["_law_pen_here", "_law_some"] (defScope s_law_pick) := ⟨rfl, rfl, rfl, by decide +kernel, rfl, by decide +kernel, by decide +kernel⟩
abbrev s_law_rows : Stmt := topS 49
abbrev N_law_rows : List Str := ["_law_pen_here", "_law_width", "_law_many", "_law_found", "_law_at", "_law_row", "_law_spot"]
theorem sc_law_rows : FnScope N_law_rows ["_law_pen_here", "_law_width", "_law_many"] (defScope s_law_rows) := ⟨rfl, rfl, rfl, by decide +kernel, rfl, by decide +kernel, by decide +kernel⟩
abbrev s_law_key : Stmt := topS 50
abbrev N_law_key : List Str := ["_law_row", "_law_value"]
theorem sc_law_key : FnScope N_law_key ["_law_row"] (defScope s_law_key) := ⟨rfl, rfl, rfl, by decide +kernel, rfl, by decide +kernel, by decide +kernel⟩
abbrev s_law_in_order : Stmt := topS 51
abbrev N_law_in_order : List Str := ["_law_rows_here", "_law_found", "_law_row", "_law_ahead", "_law_other"]
theorem sc_law_in_order : FnScope N_law_in_order ["_law_rows_here"] (defScope s_law_in_order) := ⟨rfl, rfl, rfl, by decide +kernel, rfl, by decide +kernel, by decide +kernel⟩
abbrev s_law_torn : Stmt := topS 52
abbrev N_law_torn : List Str := ["_law_pen_here", "_law_found", "_law_pairs", "_law_row", "_law_part", "_law_some", "_law_at"]
theorem sc_law_torn : FnScope N_law_torn ["_law_pen_here", "_law_found"] (defScope s_law_torn) := ⟨rfl, rfl, rfl, by decide +kernel, rfl, by decide +kernel, by decide +kernel⟩
abbrev s_law_of_pairs : Stmt := topS 53
abbrev N_law_of_pairs : List Str := ["_law_pairs", "_law_made", "_law_at", "_law_a", "_law_b", "_law_c"]
theorem sc_law_of_pairs : FnScope N_law_of_pairs ["_law_pairs"] (defScope s_law_of_pairs) := ⟨rfl, rfl, rfl, by decide +kernel, rfl, by decide +kernel, by decide +kernel⟩
abbrev s_law_asked_right : Stmt := topS 54
abbrev N_law_asked_right : List Str := ["_law_pen_here", "_law_made", "_law_found", "_law_due", "_law_odd", "_law_row", "_law_low", "_law_high", "_law_at"]
theorem sc_law_asked_right : FnScope N_law_asked_right ["_law_pen_here", "_law_made", "_law_found", "_law_due"] (defScope s_law_asked_right) := ⟨rfl, rfl, rfl, by decide +kernel, rfl, by decide +kernel, by decide +kernel⟩
abbrev slaw : Stmt := topS 55
abbrev Nlaw : List Str := ["_law_script", "_law_pen_here", "_law_lap", "_law_width_so", "_law_found", "_law_due", "_law_made", "_law_again", "_law_row", "_law_many", "_law_walks", "_law_some", "_law_rows_so", "_law_few", "_law_held", "_law_lists", "_law_pair", "_law_other", "_law_one"]
theorem sclaw : FnScope Nlaw ["_law_script"] (defScope slaw) := ⟨rfl, rfl, rfl, by decide +kernel, rfl, by decide +kernel, by decide +kernel⟩
abbrev sBag___init__ : Stmt := inClass (topS 29) 0
abbrev NBag___init__ : List Str := ["self", "pairs", "numbers", "row"]
theorem scBag___init__ : FnScope NBag___init__ ["self", "pairs"] (defScope sBag___init__) := ⟨rfl, rfl, rfl, by decide +kernel, rfl, by decide +kernel, by decide +kernel⟩
abbrev sBag_of : Stmt := inClass (topS 29) 1
abbrev NBag_of : List Str := ["rows", "pairs", "row"]
theorem scBag_of : FnScope NBag_of ["rows"] (defScope sBag_of) := ⟨rfl, rfl, rfl, by decide +kernel, rfl, by decide +kernel, by decide +kernel⟩
abbrev sBag_width : Stmt := inClass (topS 29) 3
abbrev NBag_width : List Str := ["self"]
theorem scBag_width : FnScope NBag_width ["self"] (defScope sBag_width) := ⟨rfl, rfl, rfl, by decide +kernel, rfl, by decide +kernel, by decide +kernel⟩
abbrev sBag_whole : Stmt := inClass (topS 29) 4
abbrev NBag_whole : List Str := ["self", "_", "times"]
theorem scBag_whole : FnScope NBag_whole ["self"] (defScope sBag_whole) := ⟨rfl, rfl, rfl, by decide +kernel, rfl, by decide +kernel, by decide +kernel⟩
abbrev sBag_often : Stmt := inClass (topS 29) 5
abbrev NBag_often : List Str := ["self", "row"]
theorem scBag_often : FnScope NBag_often ["self", "row"] (defScope sBag_often) := ⟨rfl, rfl, rfl, by decide +kernel, rfl, by decide +kernel, by decide +kernel⟩
abbrev sBag___contains__ : Stmt := inClass (topS 29) 6
abbrev NBag___contains__ : List Str := ["self", "x"]
theorem scBag___contains__ : FnScope NBag___contains__ ["self", "x"] (defScope sBag___contains__) := ⟨rfl, rfl, rfl, by decide +kernel, rfl, by decide +kernel, by decide +kernel⟩
abbrev sBag___len__ : Stmt := inClass (topS 29) 7
abbrev NBag___len__ : List Str := ["self"]
theorem scBag___len__ : FnScope NBag___len__ ["self"] (defScope sBag___len__) := ⟨rfl, rfl, rfl, by decide +kernel, rfl, by decide +kernel, by decide +kernel⟩
abbrev sBag___iter__ : Stmt := inClass (topS 29) 8
abbrev NBag___iter__ : List Str := ["self"]
theorem scBag___iter__ : FnScope NBag___iter__ ["self"] (defScope sBag___iter__) := ⟨rfl, rfl, rfl, by decide +kernel, rfl, by decide +kernel, by decide +kernel⟩
abbrev sBag___getitem__ : Stmt := inClass (topS 29) 9
abbrev NBag___getitem__ : List Str := ["self", "at"]
theorem scBag___getitem__ : FnScope NBag___getitem__ ["self", "at"] (defScope sBag___getitem__) := ⟨rfl, rfl, rfl, by decide +kernel, rfl, by decide +kernel, by decide +kernel⟩
abbrev sBag___add__ : Stmt := inClass (topS 29) 10
abbrev NBag___add__ : List Str := ["self", "other", "row"]
theorem scBag___add__ : FnScope NBag___add__ ["self", "other"] (defScope sBag___add__) := ⟨rfl, rfl, rfl, by decide +kernel, rfl, by decide +kernel, by decide +kernel⟩
abbrev sBag___eq__ : Stmt := inClass (topS 29) 20
abbrev NBag___eq__ : List Str := ["self", "other"]
theorem scBag___eq__ : FnScope NBag___eq__ ["self", "other"] (defScope sBag___eq__) := ⟨rfl, rfl, rfl, by decide +kernel, rfl, by decide +kernel, by decide +kernel⟩
abbrev sBadBag___init__ : Stmt := inClass (topS 15) 0
abbrev NBadBag___init__ : List Str := ["self", "part"]
theorem scBadBag___init__ : FnScope NBadBag___init__ ["self", "part"] (defScope sBadBag___init__) := ⟨rfl, rfl, rfl, by decide +kernel, rfl, by decide +kernel, by decide +kernel⟩
abbrev sTooMany___init__ : Stmt := inClass (topS 18) 0
abbrev NTooMany___init__ : List Str := ["self", "what", "most"]
theorem scTooMany___init__ : FnScope NTooMany___init__ ["self", "what", "most"] (defScope sTooMany___init__) := ⟨rfl, rfl, rfl, by decide +kernel, rfl, by decide +kernel, by decide +kernel⟩
structure Top (K : PySem.W.Frag) (mg : Str → Option Value) where
  a_is_integer : Addr
  d_is_integer : FuncData
  F_is_integer : Fun K "is_integer" "is_integer" sis_integer a_is_integer d_is_integer
  b_is_integer : Binds K d_is_integer ["value"] []
  g_is_integer : mg "is_integer" = some (.ref a_is_integer)
  a_is_value : Addr
  d_is_value : FuncData
  F_is_value : Fun K "is_value" "is_value" sis_value a_is_value d_is_value
  b_is_value : Binds K d_is_value ["value"] []
  g_is_value : mg "is_value" = some (.ref a_is_value)
  a_is_row : Addr
  d_is_row : FuncData
  F_is_row : Fun K "is_row" "is_row" sis_row a_is_row d_is_row
  b_is_row : Binds K d_is_row ["value"] []
  g_is_row : mg "is_row" = some (.ref a_is_row)
  a_value_before : Addr
  d_value_before : FuncData
  F_value_before : Fun K "value_before" "value_before" svalue_before a_value_before d_value_before
  b_value_before : Binds K d_value_before ["one", "other"] []
  g_value_before : mg "value_before" = some (.ref a_value_before)
  a_row_before : Addr
  d_row_before : FuncData
  F_row_before : Fun K "row_before" "row_before" srow_before a_row_before d_row_before
  b_row_before : Binds K d_row_before ["one", "other"] []
  g_row_before : mg "row_before" = some (.ref a_row_before)
  a_merged_rows : Addr
  d_merged_rows : FuncData
  F_merged_rows : Fun K "merged_rows" "merged_rows" smerged_rows a_merged_rows d_merged_rows
  b_merged_rows : Binds K d_merged_rows ["one", "other"] []
  g_merged_rows : mg "merged_rows" = some (.ref a_merged_rows)
  a_ordered_rows : Addr
  d_ordered_rows : FuncData
  F_ordered_rows : Fun K "ordered_rows" "ordered_rows" sordered_rows a_ordered_rows d_ordered_rows
  b_ordered_rows : Binds K d_ordered_rows ["rows"] []
  g_ordered_rows : mg "ordered_rows" = some (.ref a_ordered_rows)
  a_own_copy : Addr
  d_own_copy : FuncData
  F_own_copy : Fun K "own_copy" "own_copy" sown_copy a_own_copy d_own_copy
  b_own_copy : Binds K d_own_copy ["value"] []
  g_own_copy : mg "own_copy" = some (.ref a_own_copy)
  a_is_times : Addr
  d_is_times : FuncData
  F_is_times : Fun K "is_times" "is_times" sis_times a_is_times d_is_times
  b_is_times : Binds K d_is_times ["value"] []
  g_is_times : mg "is_times" = some (.ref a_is_times)
  a_is_pair : Addr
  d_is_pair : FuncData
  F_is_pair : Fun K "is_pair" "is_pair" sis_pair a_is_pair d_is_pair
  b_is_pair : Binds K d_is_pair ["value"] []
  g_is_pair : mg "is_pair" = some (.ref a_is_pair)
  a_check_pairs : Addr
  d_check_pairs : FuncData
  F_check_pairs : Fun K "check_pairs" "check_pairs" scheck_pairs a_check_pairs d_check_pairs
  b_check_pairs : Binds K d_check_pairs ["pairs"] []
  g_check_pairs : mg "check_pairs" = some (.ref a_check_pairs)
  a_added_up : Addr
  d_added_up : FuncData
  F_added_up : Fun K "added_up" "added_up" sadded_up a_added_up d_added_up
  b_added_up : Binds K d_added_up ["pairs"] []
  g_added_up : mg "added_up" = some (.ref a_added_up)
  a_check_numbers : Addr
  d_check_numbers : FuncData
  F_check_numbers : Fun K "check_numbers" "check_numbers" scheck_numbers a_check_numbers d_check_numbers
  b_check_numbers : Binds K d_check_numbers ["numbers"] []
  g_check_numbers : mg "check_numbers" = some (.ref a_check_numbers)
  a_check_other : Addr
  d_check_other : FuncData
  F_check_other : Fun K "check_other" "check_other" scheck_other a_check_other d_check_other
  b_check_other : Binds K d_check_other ["bag", "other"] []
  g_check_other : mg "check_other" = some (.ref a_check_other)
  a_rows_of : Addr
  d_rows_of : FuncData
  F_rows_of : Fun K "rows_of" "rows_of" srows_of a_rows_of d_rows_of
  b_rows_of : Binds K d_rows_of ["one", "other"] []
  g_rows_of : mg "rows_of" = some (.ref a_rows_of)
  a_bag_of : Addr
  d_bag_of : FuncData
  F_bag_of : Fun K "bag_of" "bag_of" sbag_of a_bag_of d_bag_of
  b_bag_of : Binds K d_bag_of ["numbers"] []
  g_bag_of : mg "bag_of" = some (.ref a_bag_of)
  a__law_pen : Addr
  d__law_pen : FuncData
  F__law_pen : Fun K "_law_pen" "_law_pen" s_law_pen a__law_pen d__law_pen
  b__law_pen : Binds K d__law_pen ["_law_script"] []
  g__law_pen : mg "_law_pen" = some (.ref a__law_pen)
  a__law_draw : Addr
  d__law_draw : FuncData
  F__law_draw : Fun K "_law_draw" "_law_draw" s_law_draw a__law_draw d__law_draw
  b__law_draw : Binds K d__law_draw ["_law_pen_here", "_law_many"] []
  g__law_draw : mg "_law_draw" = some (.ref a__law_draw)
  a__law_pick : Addr
  d__law_pick : FuncData
  F__law_pick : Fun K "_law_pick" "_law_pick" s_law_pick a__law_pick d__law_pick
  b__law_pick : Binds K d__law_pick ["_law_pen_here", "_law_some"] []
  g__law_pick : mg "_law_pick" = some (.ref a__law_pick)
  a__law_rows : Addr
  d__law_rows : FuncData
  F__law_rows : Fun K "_law_rows" "_law_rows" s_law_rows a__law_rows d__law_rows
  b__law_rows : Binds K d__law_rows ["_law_pen_here", "_law_width", "_law_many"] []
  g__law_rows : mg "_law_rows" = some (.ref a__law_rows)
  a__law_key : Addr
  d__law_key : FuncData
  F__law_key : Fun K "_law_key" "_law_key" s_law_key a__law_key d__law_key
  b__law_key : Binds K d__law_key ["_law_row"] []
  g__law_key : mg "_law_key" = some (.ref a__law_key)
  a__law_in_order : Addr
  d__law_in_order : FuncData
  F__law_in_order : Fun K "_law_in_order" "_law_in_order" s_law_in_order a__law_in_order d__law_in_order
  b__law_in_order : Binds K d__law_in_order ["_law_rows_here"] []
  g__law_in_order : mg "_law_in_order" = some (.ref a__law_in_order)
  a__law_torn : Addr
  d__law_torn : FuncData
  F__law_torn : Fun K "_law_torn" "_law_torn" s_law_torn a__law_torn d__law_torn
  b__law_torn : Binds K d__law_torn ["_law_pen_here", "_law_found"] []
  g__law_torn : mg "_law_torn" = some (.ref a__law_torn)
  a__law_of_pairs : Addr
  d__law_of_pairs : FuncData
  F__law_of_pairs : Fun K "_law_of_pairs" "_law_of_pairs" s_law_of_pairs a__law_of_pairs d__law_of_pairs
  b__law_of_pairs : Binds K d__law_of_pairs ["_law_pairs"] []
  g__law_of_pairs : mg "_law_of_pairs" = some (.ref a__law_of_pairs)
  a__law_asked_right : Addr
  d__law_asked_right : FuncData
  F__law_asked_right : Fun K "_law_asked_right" "_law_asked_right" s_law_asked_right a__law_asked_right d__law_asked_right
  b__law_asked_right : Binds K d__law_asked_right ["_law_pen_here", "_law_made", "_law_found", "_law_due"] []
  g__law_asked_right : mg "_law_asked_right" = some (.ref a__law_asked_right)
  a_law : Addr
  d_law : FuncData
  F_law : Fun K "law" "law" slaw a_law d_law
  b_law : Binds K d_law ["_law_script"] []
  g_law : mg "law" = some (.ref a_law)
  a_Bag___init__ : Addr
  d_Bag___init__ : FuncData
  F_Bag___init__ : Fun K "__init__" "Bag.__init__" sBag___init__ a_Bag___init__ d_Bag___init__
  a_Bag_of : Addr
  d_Bag_of : FuncData
  F_Bag_of : Fun K "of" "Bag.of" sBag_of a_Bag_of d_Bag_of
  b_Bag_of : Binds K d_Bag_of ["rows"] []
  a_Bag_width : Addr
  d_Bag_width : FuncData
  F_Bag_width : Fun K "width" "Bag.width" sBag_width a_Bag_width d_Bag_width
  b_Bag_width : Binds K d_Bag_width ["self"] []
  a_Bag_whole : Addr
  d_Bag_whole : FuncData
  F_Bag_whole : Fun K "whole" "Bag.whole" sBag_whole a_Bag_whole d_Bag_whole
  b_Bag_whole : Binds K d_Bag_whole ["self"] []
  a_Bag_often : Addr
  d_Bag_often : FuncData
  F_Bag_often : Fun K "often" "Bag.often" sBag_often a_Bag_often d_Bag_often
  b_Bag_often : Binds K d_Bag_often ["self", "row"] []
  a_Bag___contains__ : Addr
  d_Bag___contains__ : FuncData
  F_Bag___contains__ : Fun K "__contains__" "Bag.__contains__" sBag___contains__ a_Bag___contains__ d_Bag___contains__
  b_Bag___contains__ : Binds K d_Bag___contains__ ["self", "x"] []
  a_Bag___len__ : Addr
  d_Bag___len__ : FuncData
  F_Bag___len__ : Fun K "__len__" "Bag.__len__" sBag___len__ a_Bag___len__ d_Bag___len__
  b_Bag___len__ : Binds K d_Bag___len__ ["self"] []
  a_Bag___iter__ : Addr
  d_Bag___iter__ : FuncData
  F_Bag___iter__ : Fun K "__iter__" "Bag.__iter__" sBag___iter__ a_Bag___iter__ d_Bag___iter__
  b_Bag___iter__ : Binds K d_Bag___iter__ ["self"] []
  a_Bag___getitem__ : Addr
  d_Bag___getitem__ : FuncData
  F_Bag___getitem__ : Fun K "__getitem__" "Bag.__getitem__" sBag___getitem__ a_Bag___getitem__ d_Bag___getitem__
  b_Bag___getitem__ : Binds K d_Bag___getitem__ ["self", "at"] []
  a_Bag___add__ : Addr
  d_Bag___add__ : FuncData
  F_Bag___add__ : Fun K "__add__" "Bag.__add__" sBag___add__ a_Bag___add__ d_Bag___add__
  b_Bag___add__ : Binds K d_Bag___add__ ["self", "other"] []
  a_Bag___eq__ : Addr
  d_Bag___eq__ : FuncData
  F_Bag___eq__ : Fun K "__eq__" "Bag.__eq__" sBag___eq__ a_Bag___eq__ d_Bag___eq__
  b_Bag___eq__ : Binds K d_Bag___eq__ ["self", "other"] []
  a_BadBag___init__ : Addr
  d_BadBag___init__ : FuncData
  F_BadBag___init__ : Fun K "__init__" "BadBag.__init__" sBadBag___init__ a_BadBag___init__ d_BadBag___init__
  b_BadBag___init__ : Binds K d_BadBag___init__ ["self", "part"] []
  a_TooMany___init__ : Addr
  d_TooMany___init__ : FuncData
  F_TooMany___init__ : Fun K "__init__" "TooMany.__init__" sTooMany___init__ a_TooMany___init__ d_TooMany___init__
  b_TooMany___init__ : Binds K d_TooMany___init__ ["self", "what", "most"] []
  C_Bag : Addr
  g_Bag : mg "Bag" = some (.ref C_Bag)
  cl_Bag : Cls K C_Bag
  kc_Bag : PySem.W.keepIn K (.ref C_Bag) = true
  na_Bag__pairs : NoAttr K C_Bag "_pairs"
  na_Bag__numbers : NoAttr K C_Bag "_numbers"
  ne_Bag : PySem.W.findIn K (.ref C_Bag) "__ne__" = some (some (.builtin "object.__ne__"))
  mr_Bag : PySem.W.mroIn K C_Bag (.type "object") = some true
  ca_Bag : PySem.W.findIn K (.ref C_Bag) "__class__" = some (some (.builtin "object.__class__"))
  om_Bag___init__ : OwnM K C_Bag "__init__" a_Bag___init__
  mk_Bag : Mk K C_Bag a_Bag___init__
  p_Bag_of : Addr
  mc_Bag_of : Value
  sm_Bag_of : SMet K C_Bag mc_Bag_of "of" p_Bag_of a_Bag_of
  om_Bag_often : OwnM K C_Bag "often" a_Bag_often
  om_Bag___contains__ : OwnM K C_Bag "__contains__" a_Bag___contains__
  om_Bag___len__ : OwnM K C_Bag "__len__" a_Bag___len__
  om_Bag___iter__ : OwnM K C_Bag "__iter__" a_Bag___iter__
  om_Bag___getitem__ : OwnM K C_Bag "__getitem__" a_Bag___getitem__
  om_Bag___add__ : OwnM K C_Bag "__add__" a_Bag___add__
  om_Bag___eq__ : OwnM K C_Bag "__eq__" a_Bag___eq__
  ki_Bag : PySem.W.kitOne K (.ref C_Bag) (.ref C_Bag) = some true
  ks_Bag : PySem.W.kitOne K (.ref C_Bag) (.type "str") = some false
  sg : PySem.W.specialIn K (.builtin "object.__class__") "__get__" = some (some (.builtin "getset_descriptor.__get__"))
  tk : PySem.W.takesIn K (.builtin "object.__class__") = some true
  C_BadBag : Addr
  g_BadBag : mg "BadBag" = some (.ref C_BadBag)
  ox_BadBag : OexC K C_BadBag
  ic_BadBag : PySem.W.findIn K (.ref C_BadBag) "__init__" = some (some (.ref a_BadBag___init__))
  ti_BadBag : PySem.W.typeIn K (.ref a_BadBag___init__) = some (.type "function")
  no_BadBag_part : PySem.W.findIn K (.ref C_BadBag) "part" = some none
  xf_BadBag : XfC K C_BadBag
  ki_BadBag : PySem.W.kitOne K (.ref C_BadBag) (.ref C_BadBag) = some true
  ex_BadBag : ExcC K C_BadBag
  C_TooMany : Addr
  g_TooMany : mg "TooMany" = some (.ref C_TooMany)
  ox_TooMany : OexC K C_TooMany
  ic_TooMany : PySem.W.findIn K (.ref C_TooMany) "__init__" = some (some (.ref a_TooMany___init__))
  ti_TooMany : PySem.W.typeIn K (.ref a_TooMany___init__) = some (.type "function")
  no_TooMany_what : PySem.W.findIn K (.ref C_TooMany) "what" = some none
  no_TooMany_most : PySem.W.findIn K (.ref C_TooMany) "most" = some none
  xf_TooMany : XfC K C_TooMany
  ki_TooMany : PySem.W.kitOne K (.ref C_TooMany) (.ref C_TooMany) = some true
  ex_TooMany : ExcC K C_TooMany
  gc_Bag : GoodC K C_Bag
  me_Bag___init__ : Meth K C_Bag "__init__" a_Bag___init__
  pa_Bag_width : Addr
  pr_Bag_width : PropOf K C_Bag "width" pa_Bag_width a_Bag_width
  pa_Bag_whole : Addr
  pr_Bag_whole : PropOf K C_Bag "whole" pa_Bag_whole a_Bag_whole
  me_Bag_often : Meth K C_Bag "often" a_Bag_often
  me_Bag___contains__ : Meth K C_Bag "__contains__" a_Bag___contains__
  me_Bag___len__ : Meth K C_Bag "__len__" a_Bag___len__
  me_Bag___iter__ : Meth K C_Bag "__iter__" a_Bag___iter__
  me_Bag___getitem__ : Meth K C_Bag "__getitem__" a_Bag___getitem__
  me_Bag___add__ : Meth K C_Bag "__add__" a_Bag___add__
  me_Bag___eq__ : Meth K C_Bag "__eq__" a_Bag___eq__
  nf_tuple_Bag : PySem.W.notFirst K C_Bag (.type "tuple") = true
  kn_tuple_Bag : PySem.W.kitOne K (.type "tuple") (.ref C_Bag) = some false
  lo_Bag_add : LeftOp K C_Bag "add" a_Bag___add__
  so_Bag : StO K C_Bag a_Bag___iter__ a_Bag___len__
  nq_Bag : PySem.W.noSeq K C_Bag = true
  fi_Bag___getitem__ : PySem.W.fnIn K a_Bag___getitem__ = true
  kb_Bag_of_0 : KBinds K d_Bag_of ["rows"] ["rows"] (gPerm 0 1 [0]) (gPerm 0 1 [0])
  e_law : ∀ (s : Shared) (u : Value), BindsTo s d_law ⟨[u], []⟩ [("_law_script", u)]
  z_abs : mg "abs" = none
  z_all : mg "all" = none
  z_any : mg "any" = none
  z_bool : mg "bool" = none
  z_dict : mg "dict" = none
  z_enumerate : mg "enumerate" = none
  z_int : mg "int" = none
  z_isinstance : mg "isinstance" = none
  z_len : mg "len" = none
  z_list : mg "list" = none
  z_min : mg "min" = none
  z_range : mg "range" = none
  z_sum : mg "sum" = none
  z_tuple : mg "tuple" = none
  z_zip : mg "zip" = none
  z_iter : mg "iter" = none
  t_MOST_VALUES : Tok
  c_MOST_VALUES : mg "MOST_VALUES" = some (.int 3 t_MOST_VALUES)
  t_MOST_TIMES : Tok
  c_MOST_TIMES : mg "MOST_TIMES" = some (.int 1000000000000000000000000000000 t_MOST_TIMES)
  t_MOST_ROWS : Tok
  c_MOST_ROWS : mg "MOST_ROWS" = some (.int 60 t_MOST_ROWS)
  kb_Bag_often_0 : KBn K d_Bag_often ["self", "row"] 1 ["row"] (gPerm 1 1 [0, 1]) (gPerm 1 1 [0, 1])
section
variable {P : Program} {w : World} {K : PySem.W.Frag} {mg : Str → Option Value} {base : Heap}
theorem vok_own_copy (T : Top K mg) : FnOk P w K mg base CX0 (0 + 1) T.a_own_copy T.d_own_copy ["value"] spCopyF := by
  refine T.F_own_copy.ok scown_copy (fun vs H Q E h => ?_) (fun cdv A outer s H vs Q E hr h => ?_)
  · obtain ⟨y, rfl, _⟩ := h
    rfl
  · obtain ⟨y, rfl, hf, q⟩ := h
    obtain ⟨k, hk, h1, h2, h3⟩ := flat_ki hf H
    refine ⟨_, (pss_cons (ps_if (pt_val (pe_callB call_isi (by rfl) T.z_isinstance (by decide +kernel) (pa_cons (pv 0) (pa_cons (pe_bltn (by rfl) T.z_tuple (by decide +kernel) (show RelV (.ty "tuple") _ from rfl)) pa_nil))))
    (pss_one ps_never)
    pss_nil)
  (pss_cons (ps_if (pt_val (pe_callB call_isi (by rfl) T.z_isinstance (by decide +kernel) (pa_cons (pv 0) (pa_cons (pe_bltn (by rfl) T.z_list (by decide +kernel) (show RelV (.ty "list") _ from rfl)) pa_nil))))
    (pss_one ps_never)
    pss_nil)
  (pss_cons (ps_if (pt_val (pe_callB call_isi (by rfl) T.z_isinstance (by decide +kernel) (pa_cons (pv 0) (pa_cons (pe_bltn (by rfl) T.z_dict (by decide +kernel) (show RelV (.ty "dict") _ from rfl)) pa_nil))))
    (pss_one ps_never)
    pss_nil)
  (pss_one (ps_ret (pv 0)))))), ?_⟩
    refine ⟨y, rfl, _, _, _, _, _, rfl, .ty _, hk.ty, ki_kit _ .tup, _, rfl, ite2 (fun e => absurd e (by rw [h1]; decide)) fun _ => ?_⟩
    refine ⟨y, rfl, _, _, _, _, _, rfl, .ty _, hk.ty, ki_kit _ .lst, _, rfl, ite2 (fun e => absurd e (by rw [h2]; decide)) fun _ => ?_⟩
    refine ⟨y, rfl, _, _, _, _, _, rfl, .ty _, hk.ty, ki_kit _ .dct, _, rfl, ite2 (fun e => absurd e (by rw [h3]; decide)) fun _ => ?_⟩
    exact ⟨y, rfl, q⟩
theorem vok_BadBag___init__ (T : Top K mg) : FnOk P w K mg base CX0 (4 + 1) T.a_BadBag___init__ T.d_BadBag___init__ ["self", "part"] (spE1F K T.C_BadBag "part") := by
  have G_own_copy := (vok_own_copy (P := P) (w := w) (base := base) T).mono (k := 4) (by decide)
  refine T.F_BadBag___init__.ok scBadBag___init__ (fun vs H Q E h => ?_) (fun cdv A outer s H vs Q E hr h => ?_)
  · obtain ⟨⟨a, y, rfl, _⟩, _⟩ := h
    rfl
  · obtain ⟨⟨a0, y0, e0, hf⟩, a, y, rfl, ha, q⟩ := h
    obtain ⟨rfl, rfl⟩ : a = a0 ∧ y = y0 := by cases e0; exact ⟨rfl, rfl⟩
    refine ⟨_, (pss_one (ps_ost (pv 0) (pe_call G_own_copy hr (by rfl) T.g_own_copy T.F_own_copy.kp T.b_own_copy .nil pass0 (pa_cons (pv 1) pa_nil)))), ?_⟩
    exact ⟨y, rfl, y, rfl, hf, .ref a, rfl, a, T.C_BadBag, rfl, T.ox_BadBag, T.no_BadBag_part, .inl ⟨ha, fun d nd nda => q d nd nda⟩⟩
theorem vok_TooMany___init__ (T : Top K mg) : FnOk P w K mg base CX0 (4 + 1) T.a_TooMany___init__ T.d_TooMany___init__ ["self", "what", "most"] (spE2F K T.C_TooMany "what" "most") := by
  have G_own_copy := (vok_own_copy (P := P) (w := w) (base := base) T).mono (k := 4) (by decide)
  refine T.F_TooMany___init__.ok scTooMany___init__ (fun vs H Q E h => ?_) (fun cdv A outer s H vs Q E hr h => ?_)
  · obtain ⟨⟨a, y, z, rfl, _⟩, _⟩ := h
    rfl
  · obtain ⟨⟨a0, y0, z0, e0, hf, hf2⟩, a, y, z, rfl, ha, q⟩ := h
    obtain ⟨rfl, rfl, rfl⟩ : a = a0 ∧ y = y0 ∧ z = z0 := by cases e0; exact ⟨rfl, rfl, rfl⟩
    refine ⟨_, (pss_cons (ps_ost (pv 0) (pe_call G_own_copy hr (by rfl) T.g_own_copy T.F_own_copy.kp T.b_own_copy .nil pass0 (pa_cons (pv 1) pa_nil)))
  (pss_one (ps_ost (pv 0) (pe_call G_own_copy hr (by rfl) T.g_own_copy T.F_own_copy.kp T.b_own_copy .nil pass0 (pa_cons (pv 2) pa_nil))))), ?_⟩
    refine ⟨y, rfl, y, rfl, hf, .ref a, rfl, a, T.C_TooMany, rfl, T.ox_TooMany, T.no_TooMany_what, .inl ⟨ha, fun d nd nda => ?_⟩⟩
    refine ⟨z, rfl, z, rfl, hf2, .ref a, rfl, a, T.C_TooMany, rfl, T.ox_TooMany, T.no_TooMany_most, .inr ⟨d, _, upd_same, ?_, by simp, q d nd nda⟩⟩
    rw [upd_ne nda, upd_same]
end
section
variable {P : Program} {w : World} {K : PySem.W.Frag} {mg : Str → Option Value} {base : Heap}
theorem ft (b : Bool) : (match b with | true => True | false => True) := by cases b <;> trivial
def okL : PySem.Leaf → Bool
  | .none => true
  | .num _ => true
  | _ => false
def OkR (r : Row) : Prop := 1 ≤ r.length ∧ r.length ≤ 3 ∧ ∀ l ∈ r, okL l = true
def isInt : D → Bool
  | .int _ => true
  | _ => false
def isVal : D → Bool
  | .non => true
  | .int _ => true
  | _ => false
def isRow : D → Bool
  | .tup es => decide (1 ≤ es.length) && decide (es.length ≤ 3) && es.all isVal
  | _ => false
def integerD : SpD := fun ds G Q _ => ∃ d, ds = [d] ∧ Told d G ∧ Q (.bl (isInt d)) G
theorem dok_is_integer (T : Top K mg) : FnD P w K mg base 4 T.a_is_integer T.d_is_integer ["value"] integerD := by
  refine dfn (k := 3) T.F_is_integer scis_integer (fun ds G Q W h => ?_) (fun cdv A outer s H E B W hr tk => have hx := hx_of tk; ⟨_, (db_one (ds_ret (de_and (de_isK (j := .int) (by rfl) T.z_isinstance (by decide +kernel) (dv 0) (pe_bltn (by rfl) T.z_int (by decide +kernel) rfl)) (de_one (de_not (de_isK (j := .bl) (by rfl) T.z_isinstance (by decide +kernel) (dv 0) (pe_bltn (by rfl) T.z_bool (by decide +kernel) rfl))))))), fun ds G Q h => ?_⟩)
  · obtain ⟨d, rfl, _⟩ := h
    rfl
  · obtain ⟨d, rfl, ht, q⟩ := h
    show (match isK d G .int with | some b => _ | none => _)
    rw [told_is ht (by decide)]
    cases d <;> first | exact q | skip
    all_goals
      show (match isK _ G .bl with | some b => _ | none => _)
      rw [told_is ht (by decide)]
      exact q
def valueGD : SpD := fun ds G Q _ => ∃ d, ds = [d] ∧ Told d G ∧ Q (.bl (isVal d)) G
theorem dok_is_value (T : Top K mg) : FnD P w K mg base 8 T.a_is_value T.d_is_value ["value"] valueGD := by
  have G_is_integer := (dok_is_integer (P := P) (w := w) (base := base) T).mono (k := 5) (by decide)
  refine dfn (k := 7) T.F_is_value scis_value (fun ds G Q W h => ?_) (fun cdv A outer s H E B W hr tk => have hx := hx_of tk; ⟨_, (db_one (ds_ret (de_or (de_cmp op_isN isN_A (dv 0) de_non (nomark _)) (de_one (de_call G_is_integer (hr.mono (by decide)) (by rfl) T.g_is_integer T.F_is_integer.kp T.b_is_integer hx (da_cons (dv 0) da_nil)))))), fun ds G Q h => ?_⟩)
  · obtain ⟨d, rfl, _⟩ := h
    rfl
  · obtain ⟨d, rfl, ht, q⟩ := h
    cases d
    case non => exact q
    all_goals exact ⟨_, rfl, ht, q⟩
/-- told, and what is in it, too -/
def ToldT (d : D) (G : Gm) : Prop := Told d G ∧ ∀ es, d = .tup es → es.length ≤ 1000 ∧ ∀ e ∈ es, Told e G
def isRowGD : SpD := fun ds G Q _ => ∃ d, ds = [d] ∧ ToldT d G ∧ Q (.bl (isRow d)) G
theorem dok_is_row (T : Top K mg) : FnD P w K mg base 12 T.a_is_row T.d_is_row ["value"] isRowGD := by
  have G_is_value := (dok_is_value (P := P) (w := w) (base := base) T).mono (k := 9) (by decide)
  refine dfn (k := 11) T.F_is_row scis_row (fun ds G Q W h => ?_) (fun cdv A outer s H E B W hr tk => have hx := hx_of tk; ⟨_, (db_cons (ds_if (dw_pt (dw_or (dt_not (dt_val (de_isK (j := .tup) (by rfl) T.z_isinstance (by decide +kernel) (dv 0) (pe_bltn (by rfl) T.z_tuple (by decide +kernel) rfl)))) (dw_or1 (dt_not (dt_chain op_le le_A op_le le_A de_int (de_callB call_len2 len_A (by rfl) T.z_len (by decide +kernel) (da_cons (dv 0) da_nil)) (de_gint rfl T.c_MOST_VALUES (show RelV (.int 3) _ from ⟨_, rfl⟩)))))))
    (db_one (ds_ret de_bl))
    db_nil)
  (db_one (ds_ret (de_callB (cr_all rfl) all_A (by rfl) T.z_all (by decide +kernel) (da_cons (de_lcF (own := [("item", 1)]) (gV := gName 1) finA_l rfl scis_row.nd (di_tup (dv 0)) (blkOk_by (own := [("item", 1)]) (N := Nis_row) (sc := defScope sis_row) (by decide +kernel)) (cg_name (i := 1) (by decide)) (fun _ _ _ _ _ => (pg_name (i := 1) scis_row.nd rfl (.inl rfl))) (fun _ _ _ _ _ _ => dts_nil) (fun _ _ _ _ _ _ => (de_call G_is_value (hr.mono (by decide)) (by rfl) T.g_is_value T.F_is_value.kp T.b_is_value hx0 (da_cons (dv 1) da_nil)))) da_nil))))), fun ds G Q h => ?_⟩)
  · obtain ⟨d, rfl, _⟩ := h
    rfl
  · obtain ⟨d, rfl, ⟨ht, hi⟩, q⟩ := h
    show (match isK d G .tup with | some b => _ | none => _)
    rw [told_is ht (by decide)]
    cases d
    case tup es =>
      obtain ⟨hl, he⟩ := hi es rfl
      show (match D.bl (decide ((1 : Int) ≤ (es.length : Int))) with | .bl true => _ | .bl false => _ | _ => False)
      by_cases h1 : 1 ≤ es.length
      · rw [decide_eq_true (show (1 : Int) ≤ (es.length : Int) by omega)]
        show (match !(decide ((es.length : Int) ≤ 3)) with | true => _ | false => _)
        by_cases h2 : es.length ≤ 3
        · rw [decide_eq_true (show (es.length : Int) ≤ 3 by omega)]
          refine ⟨by rw [sizeLine_eq]; omega, lc_map (fun d => .bl (isVal d)) es [] (fun e me N hN => ⟨e, rfl, he e me, hN⟩) ?_⟩
          refine ⟨es.map isVal, by rw [List.nil_append, List.map_map]; rfl, ?_⟩
          have e : (es.map isVal).all id = es.all isVal := by rw [List.all_map]; rfl
          rw [e]
          replace q : Q (.bl (decide (1 ≤ es.length) && decide (es.length ≤ 3) && es.all isVal)) G := q
          rw [decide_eq_true h1, decide_eq_true h2] at q
          exact q
        · rw [decide_eq_false (show ¬ (es.length : Int) ≤ 3 by omega)]
          replace q : Q (.bl (decide (1 ≤ es.length) && decide (es.length ≤ 3) && es.all isVal)) G := q
          rw [decide_eq_false h2, Bool.and_false, Bool.false_and] at q
          exact q
      · rw [decide_eq_false (show ¬ (1 : Int) ≤ (es.length : Int) by omega)]
        replace q : Q (.bl (decide (1 ≤ es.length) && decide (es.length ≤ 3) && es.all isVal)) G := q
        rw [decide_eq_false h1, Bool.false_and, Bool.false_and] at q
        exact q
    all_goals exact q
theorem isVal_some {d : D} (h : isVal d = true) : ∃ l, d = lD l ∧ okL l = true := by
  cases d <;> first | (cases h; done) | skip
  · exact ⟨.none, rfl, rfl⟩
  · exact ⟨.num _, rfl, rfl⟩
theorem isVal_lD {l : PySem.Leaf} (h : okL l = true) : isVal (lD l) = true := by
  cases l <;> first | rfl | cases h
theorem isRow_some {d : D} (h : isRow d = true) : ∃ r, d = rowT r ∧ OkR r := by
  cases d
  case tup es =>
    have h' : (decide (1 ≤ es.length) && decide (es.length ≤ 3) && es.all isVal) = true := h
    rw [Bool.and_eq_true, Bool.and_eq_true] at h'
    obtain ⟨⟨h1, h2⟩, h3⟩ := h'
    have all : ∀ es : List D, es.all isVal = true → ∃ r : Row, es = r.map lD ∧ ∀ l ∈ r, okL l = true := fun es => by
      induction es with
      | nil => exact fun _ => ⟨[], rfl, fun l hl => by cases hl⟩
      | cons e es ih =>
        intro h
        rw [List.all_cons, Bool.and_eq_true] at h
        obtain ⟨l, rfl, hl⟩ := isVal_some h.1
        obtain ⟨r, rfl, hr⟩ := ih h.2
        exact ⟨l :: r, rfl, fun x hx => (List.mem_cons.mp hx).elim (fun z => z ▸ hl) (hr x)⟩
    obtain ⟨r, rfl, hr⟩ := all es h3
    have q1 := of_decide_eq_true h1
    have q2 := of_decide_eq_true h2
    rw [List.length_map] at q1 q2
    exact ⟨r, rfl, q1, q2, hr⟩
  all_goals cases h
theorem isRow_T {r : Row} (h : OkR r) : isRow (rowT r) = true := by
  show (decide (1 ≤ (r.map lD).length) && decide ((r.map lD).length ≤ 3) && (r.map lD).all isVal) = true
  rw [List.length_map, decide_eq_true h.1, decide_eq_true h.2.1, List.all_map, Bool.true_and, Bool.true_and, List.all_eq_true]
  exact fun l hl => isVal_lD (h.2.2 l hl)
theorem told_lD {l : PySem.Leaf} {G : Gm} : Told (lD l) G := by
  cases l
  · exact told_ki (k := .non) rfl
  · exact told_ki (k := .int) rfl
  · exact told_ki (k := .str) rfl
theorem toldT_row {r : Row} {G : Gm} (h : OkR r) : ToldT (rowT r) G := by
  refine ⟨told_ki (k := .tup) rfl, fun es e => ?_⟩
  cases e
  refine ⟨by rw [List.length_map]; have := h.2.1; omega, fun x hx => ?_⟩
  obtain ⟨l, _, rfl⟩ := List.mem_map.mp hx
  exact told_lD
def vB : PySem.Leaf → PySem.Leaf → Bool
  | .none, _ => false
  | _, .none => true
  | .num a, .num b => decide (a < b)
  | _, _ => false
def vbD : SpD := fun ds G Q _ => ∃ a b, ds = [lD a, lD b] ∧ okL a = true ∧ okL b = true ∧ Q (.bl (vB a b)) G
theorem dok_value_before (T : Top K mg) : FnD P w K mg base 4 T.a_value_before T.d_value_before ["one", "other"] vbD := by
  refine dfn (k := 3) T.F_value_before scvalue_before (fun ds G Q W h => ?_) (fun cdv A outer s H E B W hr tk => have hx := hx_of tk; ⟨_, (db_cons (ds_if (dt_cmp op_isN isN_A (dv 0) de_non (nomark _))
    (db_one (ds_ret de_bl))
    db_nil)
  (db_one (ds_ret (de_or (de_cmp op_isN isN_A (dv 1) de_non (nomark _)) (de_one (de_cmp op_lt lt_A (dv 0) (dv 1) (nomark _))))))), fun ds G Q h => ?_⟩)
  · obtain ⟨a, b, rfl, _⟩ := h
    rfl
  · obtain ⟨a, b, rfl, ha, hb, q⟩ := h
    cases a with
    | none => exact q
    | num i =>
      cases b with
      | none => exact q
      | num j => exact q
      | _ => cases hb
    | _ => cases ha
def rB : Row → Row → Bool
  | a :: as, b :: bs => if a = b then rB as bs else vB a b
  | _, _ => false
theorem pl_lD {k : Nat} {l : PySem.Leaf} (h : okL l = true) : Pl k (lD l) := by
  cases l with
  | none => exact pl_non
  | num i => exact pl_int
  | _ => cases h
theorem eqv_lD {a b : PySem.Leaf} (ha : okL a = true) (hb : okL b = true) : eqvD (lD a) (lD b) = decide (a = b) := by
  cases a with
  | none =>
    cases b with
    | none => exact eqvD_self (pl_non (k := 0))
    | num j => simp only [lD, eqvD, toP, PyData.eqv]; rfl
    | _ => cases hb
  | num i =>
    cases b with
    | none => simp only [lD, eqvD, toP, PyData.eqv]; rfl
    | num j =>
      show eqvD (.int i) (.int j) = _
      rw [eqvD_int]
      by_cases h : i = j
      · rw [decide_eq_true h, decide_eq_true (by rw [h])]
      · rw [decide_eq_false h, decide_eq_false (by intro z; injection z with z; exact h z)]
    | _ => cases hb
  | _ => cases ha
def OkRs (r : Row) : Prop := ∀ l ∈ r, okL l = true
def rbD : SpD := fun ds G Q _ => ∃ a b : Row, ds = [rowT a, rowT b] ∧ OkRs a ∧ OkRs b ∧ Q (.bl (rB a b)) G
theorem dok_row_before (T : Top K mg) : FnD P w K mg base 8 T.a_row_before T.d_row_before ["one", "other"] rbD := by
  have G_value_before := (dok_value_before (P := P) (w := w) (base := base) T).mono (k := 5) (by decide)
  refine dfn (k := 7) T.F_row_before scrow_before (fun ds G Q W h => ?_) (fun cdv A outer s H E B W hr tk => have hx := hx_of tk; ⟨_, (db_cons (ds_for (passes_of rfl) rfl (di_zip (by rfl) T.z_zip (da_cons (dv 0) (da_cons (dv 1) da_nil))) (dg_tup (by rfl) (dgs_cons (dg_name (i := 2) scrow_before.nd rfl (.inl rfl)) (dgs_cons (dg_name (i := 3) scrow_before.nd rfl (.inl rfl)) dgs_nil)))
    (db_one (ds_if (dt_cmp (op_neD (Room.units hr)) neI_A (dv 2) (dv 3) (nomark _))
    (db_one (ds_ret (de_call G_value_before (hr.mono (by decide)) (by rfl) T.g_value_before T.F_value_before.kp T.b_value_before hx (da_cons (dv 2) (da_cons (dv 3) da_nil)))))
    db_nil)))
  (db_one (ds_ret de_bl))), fun ds G Q h => ?_⟩)
  · obtain ⟨a, b, rfl, _⟩ := h
    rfl
  · obtain ⟨a, b, rfl, ha, hb, q⟩ := h
    refine (fun (key : ∀ (as bs : Row) (x y : Option D), OkRs as → OkRs bs → Q (.bl (rB as bs)) G → forD _ _ _ (zipD (as.map lD) (bs.map lD)) [some (rowT a), some (rowT b), x, y] G) => key a b none none ha hb q) ?_
    intro as
    induction as with
    | nil =>
      intro bs x y _ _ q
      cases bs <;> exact q
    | cons u as ih =>
      intro bs x y ha hb q
      cases bs with
      | nil => exact q
      | cons v bs =>
        have hu := ha u List.mem_cons_self
        have hv := hb v List.mem_cons_self
        refine ⟨rfl, pl_lD hu, pl_lD hv, ?_⟩
        rw [eqv_lD hu hv]
        unfold rB at q
        by_cases e : u = v
        · rw [if_pos e] at q
          rw [decide_eq_true e]
          exact ih bs _ _ (fun l hl => ha l (List.mem_cons_of_mem _ hl)) (fun l hl => hb l (List.mem_cons_of_mem _ hl)) q
        · rw [if_neg e] at q
          rw [decide_eq_false e]
          exact ⟨u, v, rfl, hu, hv, q⟩
end
section
variable {P : Program} {w : World} {K : PySem.W.Frag} {mg : Str → Option Value} {base : Heap}
theorem cut_from {α β : Type} {f : α → β} {xs : List α} {i : Nat} (h : i ≤ xs.length) : cutD (xs.map f) (some (i : Int)) none = (xs.drop i).map f := by
  rw [cut_map]
  congr 1
  unfold cutD
  rw [HT.sIx_none, HT.sIx_nat, Nat.min_eq_left h, List.take_of_length_le (by rw [List.length_drop]; omega)]
def mergeR : List Row → List Row → List Row
  | [], ys => ys
  | x :: xs, [] => x :: xs
  | x :: xs, y :: ys => if rB y x = true then y :: mergeR (x :: xs) ys else x :: mergeR xs (y :: ys)
termination_by xs ys => xs.length + ys.length
theorem mergeR_nil : ∀ xs : List Row, mergeR xs [] = xs
  | [] => by unfold mergeR; rfl
  | x :: xs => by unfold mergeR; rfl
def rowsD (xs : List Row) : D := .lst (xs.map rowT)
def mergedD : SpD := fun ds G Q _ => ∃ xs ys : List Row, ds = [rowsD xs, rowsD ys] ∧ (∀ r ∈ xs, OkRs r) ∧ (∀ r ∈ ys, OkRs r) ∧ xs.length ≤ 100 ∧ ys.length ≤ 100 ∧ Q (rowsD (mergeR xs ys)) G
theorem dok_merged_rows (T : Top K mg) : FnD P w K mg base 12 T.a_merged_rows T.d_merged_rows ["one", "other"] mergedD := by
  have G_row_before := (dok_row_before (P := P) (w := w) (base := base) T).mono (k := 9) (by decide)
  refine dfn (k := 11) T.F_merged_rows scmerged_rows (fun ds G Q W h => ?_) (fun cdv A outer s H E B W hr tk => have hx := hx_of tk; ⟨_, (db_cons (ds_set (i := 2) scmerged_rows.nd rfl (.inl rfl) (de_lstM da_nil))
  (db_cons (ds_asg2 de_int (dg_name (i := 3) scmerged_rows.nd rfl (.inl rfl)) (dg_name (i := 4) scmerged_rows.nd rfl (.inl rfl)))
  (db_cons (ds_while (passes_of rfl) (dw_pt (dw_and (dt_cmp op_lt lt_A (dv 3) (de_callB call_len2 len_A (by rfl) T.z_len (by decide +kernel) (da_cons (dv 0) da_nil)) (nomark _)) (dw_and1 (dt_cmp op_lt lt_A (dv 4) (de_callB call_len2 len_A (by rfl) T.z_len (by decide +kernel) (da_cons (dv 1) da_nil)) (nomark _)))))
    (db_one (ds_if (dt_val (de_call G_row_before (hr.mono (by decide)) (by rfl) T.g_row_before T.F_row_before.kp T.b_row_before hx (da_cons (de_ix ix_seq ix_A (dv 1) (dv 4) (fun _ _ => rfl)) (da_cons (de_ix ix_seq ix_A (dv 0) (dv 3) (fun _ _ => rfl)) da_nil))))
    (db_cons (ds_expr (de_append (dv 2) (de_ix ix_seq ix_A (dv 1) (dv 4) (fun _ _ => rfl))))
  (db_one (ds_aug (i := 4) scmerged_rows.nd rfl (.inl rfl) de_int ip_add ipadd_A)))
    (db_cons (ds_expr (de_append (dv 2) (de_ix ix_seq ix_A (dv 0) (dv 3) (fun _ _ => rfl))))
  (db_one (ds_aug (i := 3) scmerged_rows.nd rfl (.inl rfl) de_int ip_add ipadd_A))))))
  (db_one (ds_ret (de_lst (da_star (de_close (dv 2)) (da_star (de_sl (dv 0) (do_some (dv 3)) do_none) (da_star (de_sl (dv 1) (do_some (dv 4)) do_none) da_nil))))))))), fun ds G Q h => ?_⟩)
  · obtain ⟨a, b, rfl, _⟩ := h
    rfl
  · obtain ⟨xs, ys, rfl, hx, hy, lx, ly, q⟩ := h
    refine ⟨by rw [sizeLine_eq]; decide, fun p np => ?_⟩
    refine (fun (key : ∀ (n i j : Nat) (acc : List Row) , (xs.length - i) + (ys.length - j) < n → i ≤ xs.length → j ≤ ys.length → acc.length ≤ i + j → acc ++ mergeR (xs.drop i) (ys.drop j) = mergeR xs ys → whD _ _ _ n [some (rowsD xs), some (rowsD ys), some (.adr p), some (.int i), some (.int j)] (updG G p (.lst (acc.map rowT)))) => ⟨_, key (xs.length + ys.length + 1) 0 0 [] (by omega) (by omega) (by omega) (by simp) (by simp)⟩) ?_
    intro n
    induction n with
    | zero => intro i j acc h; omega
    | succ n ih =>
      intro i j acc hn hi hj hl he
      by_cases hb : i < xs.length ∧ j < ys.length
      · obtain ⟨h1, h2⟩ := hb
        show (match decide ((i : Int) < ((xs.map rowT).length : Int)) with | true => _ | false => _)
        rw [List.length_map, decide_eq_true (by omega)]
        show (match decide ((j : Int) < ((ys.map rowT).length : Int)) with | true => _ | false => _)
        rw [List.length_map, decide_eq_true (by omega)]
        have ex : atI (xs.map rowT) (i : Int) = some (rowT xs[i]) := atI_nat (by rw [List.getElem?_map, List.getElem?_eq_getElem h1]; rfl)
        have ey : atI (ys.map rowT) (j : Int) = some (rowT ys[j]) := atI_nat (by rw [List.getElem?_map, List.getElem?_eq_getElem h2]; rfl)
        have dx : xs.drop i = xs[i] :: xs.drop (i + 1) := List.drop_eq_getElem_cons h1
        have dy : ys.drop j = ys[j] :: ys.drop (j + 1) := List.drop_eq_getElem_cons h2
        have hm : mergeR (xs.drop i) (ys.drop j) = if rB ys[j] xs[i] = true then ys[j] :: mergeR (xs.drop i) (ys.drop (j + 1)) else xs[i] :: mergeR (xs.drop (i + 1)) (ys.drop j) := by
          conv => lhs; rw [dx, dy, mergeR]
          rw [← dx, ← dy]
        show (match atI (ys.map rowT) (j : Int) with | some d => _ | none => False)
        rw [ey]
        show (match atI (xs.map rowT) (i : Int) with | some d => _ | none => False)
        rw [ex]
        refine ⟨ys[j], xs[i], rfl, hy _ (List.getElem_mem h2), hx _ (List.getElem_mem h1), ?_⟩
        have sl : (acc.map rowT).length < sizeLine := by rw [List.length_map, sizeLine_eq]; omega
        cases hr : rB ys[j] xs[i] with
        | true =>
          rw [hr, if_pos rfl] at hm
          show (match lsM (.adr p) (updG G p (.lst (acc.map rowT))) with | some _ => _ | none => False)
          rw [lsM_at updG_same]
          show (match atI (ys.map rowT) (j : Int) with | some d => _ | none => False)
          rw [ey]
          show (match lsM (.adr p) (updG G p (.lst (acc.map rowT))) with | some (a, ds) => _ | none => False)
          rw [lsM_at updG_same]
          refine ⟨sl, ?_⟩
          rw [updG_updG]
          have := ih i (j + 1) (acc ++ [ys[j]]) (by omega) hi (by omega) (by rw [List.length_append, List.length_singleton]; omega) (by rw [← he, hm, List.append_assoc]; rfl)
          rw [List.map_append] at this
          exact this
        | false =>
          rw [hr, if_neg (by decide)] at hm
          show (match lsM (.adr p) (updG G p (.lst (acc.map rowT))) with | some _ => _ | none => False)
          rw [lsM_at updG_same]
          show (match atI (xs.map rowT) (i : Int) with | some d => _ | none => False)
          rw [ex]
          show (match lsM (.adr p) (updG G p (.lst (acc.map rowT))) with | some (a, ds) => _ | none => False)
          rw [lsM_at updG_same]
          refine ⟨sl, ?_⟩
          rw [updG_updG]
          have := ih (i + 1) j (acc ++ [xs[i]]) (by omega) (by omega) hj (by rw [List.length_append, List.length_singleton]; omega) (by rw [← he, hm, List.append_assoc]; rfl)
          rw [List.map_append] at this
          exact this
      · have hm : mergeR (xs.drop i) (ys.drop j) = xs.drop i ++ ys.drop j := by
          by_cases h1 : i < xs.length
          · rw [List.drop_eq_nil_of_le (by omega : ys.length ≤ j), mergeR_nil, List.append_nil]
          · rw [List.drop_eq_nil_of_le (by omega : xs.length ≤ i), mergeR, List.nil_append]
        have c1 : cutD (xs.map rowT) (some (i : Int)) none = (xs.drop i).map rowT := cut_from hi
        have c2 : cutD (ys.map rowT) (some (j : Int)) none = (ys.drop j).map rowT := cut_from hj
        show (match decide ((i : Int) < ((xs.map rowT).length : Int)) with | true => _ | false => _)
        rw [List.length_map]
        by_cases h1 : i < xs.length
        case' pos =>
          rw [decide_eq_true (by omega)]
          show (match decide ((j : Int) < ((ys.map rowT).length : Int)) with | true => _ | false => _)
          rw [List.length_map, decide_eq_false (by omega)]
        case' neg => rw [decide_eq_false (by omega)]
        all_goals
          refine ⟨p, rfl, ?_⟩
          rw [updG_same]
          show (acc.map rowT ++ (cutD (xs.map rowT) (some (i : Int)) none ++ (cutD (ys.map rowT) (some (j : Int)) none ++ []))).length ≤ sizeLine ∧ Q (.lst (acc.map rowT ++ (cutD (xs.map rowT) (some (i : Int)) none ++ (cutD (ys.map rowT) (some (j : Int)) none ++ [])))) (delG (updG G p (.lst (acc.map rowT))) p)
          rw [delG_updG np, c1, c2, List.append_nil, ← List.map_append, ← List.map_append, ← hm, he]
          refine ⟨?_, q⟩
          rw [List.length_map, ← he, hm, List.length_append, List.length_append, List.length_drop, List.length_drop, sizeLine_eq]
          omega
end
section
variable {P : Program} {w : World} {K : PySem.W.Frag} {mg : Str → Option Value} {base : Heap}
theorem cut_upto {α β : Type} {f : α → β} {xs : List α} {i : Nat} (h : i ≤ xs.length) : cutD (xs.map f) none (some (i : Int)) = (xs.take i).map f := by
  rw [cut_map]
  congr 1
  unfold cutD
  rw [HT.sIx_none, HT.sIx_nat, Nat.min_eq_left h, List.drop_zero, Nat.sub_zero]
theorem mergeR_perm : ∀ xs ys : List Row, (mergeR xs ys).Perm (xs ++ ys)
  | [], ys => by rw [mergeR]; exact .refl _
  | x :: xs, [] => by rw [mergeR_nil, List.append_nil]
  | x :: xs, y :: ys => by
    rw [mergeR]
    by_cases h : rB y x = true
    · rw [if_pos h]
      exact ((mergeR_perm (x :: xs) ys).cons y).trans (List.perm_middle (l₁ := x :: xs)).symm
    · rw [if_neg h]
      exact (mergeR_perm xs (y :: ys)).cons x
termination_by xs ys => xs.length + ys.length
def ordR : Nat → List Row → List Row
  | 0, l => l
  | j + 1, l => if l.length < 2 then l else mergeR (ordR j (l.take (l.length / 2))) (ordR j (l.drop (l.length / 2)))
theorem ordR_perm : ∀ (j : Nat) (l : List Row), (ordR j l).Perm l
  | 0, l => .refl _
  | j + 1, l => by
    unfold ordR
    by_cases h : l.length < 2
    · rw [if_pos h]
    · rw [if_neg h]
      refine (mergeR_perm _ _).trans (((ordR_perm j _).append (ordR_perm j _)).trans ?_)
      rw [List.take_append_drop]
theorem fn_never {k : Nat} {f : Addr} {fd : FuncData} {ps : List Str} : FnD P w K mg base k f fd ps (fun _ _ _ _ => False) where
  len := fun _ _ _ _ ⟨_, _, _, _, _, _, _, h, _⟩ => h.elim
  run := fun _ _ _ _ _ _ _ _ _ _ _ _ _ ⟨_, _, _, _, _, _, _, h, _⟩ => h.elim
def ordD (j : Nat) : SpD := fun ds G Q _ => ∃ xs : List Row, ds = [rowsD xs] ∧ (∀ r ∈ xs, OkRs r) ∧ xs.length ≤ 64 ∧ xs.length ≤ 2 ^ j ∧ Q (rowsD (ordR j xs)) G
theorem dok_ordered_n (T : Top K mg) : ∀ j : Nat, FnD P w K mg base (4 * j + 16) T.a_ordered_rows T.d_ordered_rows ["rows"] (ordD j)
  | 0 => by
    have G_merged_rows := (dok_merged_rows (P := P) (w := w) (base := base) T).mono (k := 13) (by decide)
    have G_ordered_rows : FnD P w K mg base 12 T.a_ordered_rows T.d_ordered_rows ["rows"] (fun _ _ _ _ => False) := fn_never
    refine dfn (k := 15) T.F_ordered_rows scordered_rows (fun ds G Q W h => ?_) (fun cdv A outer s H E B W hr tk => have hx := hx_of tk; ⟨_, (db_cons (ds_if (dt_cmp op_lt lt_A (de_callB call_len2 len_A (by rfl) T.z_len (by decide +kernel) (da_cons (dv 0) da_nil)) de_int (nomark _))
    (db_one (ds_ret (de_callTy call_list_of lst_A (by rfl) T.z_list (by decide +kernel) (da_cons (dv 0) da_nil))))
    db_nil)
  (db_cons (ds_set (i := 1) scordered_rows.nd rfl (.inl rfl) (de_fdiv (de_callB call_len2 len_A (by rfl) T.z_len (by decide +kernel) (da_cons (dv 0) da_nil)) de_int))
  (db_one (ds_ret (de_call G_merged_rows (hr.mono (by first | decide | omega)) (by rfl) T.g_merged_rows T.F_merged_rows.kp T.b_merged_rows hx (da_cons (de_call G_ordered_rows (hr.mono (by first | decide | omega)) (by rfl) T.g_ordered_rows T.F_ordered_rows.kp T.b_ordered_rows hx (da_cons (de_sl (dv 0) do_none (do_some (dv 1))) da_nil)) (da_cons (de_call G_ordered_rows (hr.mono (by first | decide | omega)) (by rfl) T.g_ordered_rows T.F_ordered_rows.kp T.b_ordered_rows hx (da_cons (de_sl (dv 0) (do_some (dv 1)) do_none) da_nil)) da_nil))))))), fun ds G Q h => ?_⟩)
    · obtain ⟨xs, rfl, _⟩ := h
      rfl
    · obtain ⟨xs, rfl, hx, l1, l2, q⟩ := h
      show (match decide (((xs.map rowT).length : Int) < 2) with | true => _ | false => _)
      rw [List.length_map, decide_eq_true (by omega)]
      exact q
  | j + 1 => by
    have G_merged_rows := (dok_merged_rows (P := P) (w := w) (base := base) T).mono (k := 13) (by decide)
    have G_ordered_rows := dok_ordered_n T j
    refine dfn (k := 4 * j + 19) T.F_ordered_rows scordered_rows (fun ds G Q W h => ?_) (fun cdv A outer s H E B W hr tk => have hx := hx_of tk; ⟨_, (db_cons (ds_if (dt_cmp op_lt lt_A (de_callB call_len2 len_A (by rfl) T.z_len (by decide +kernel) (da_cons (dv 0) da_nil)) de_int (nomark _))
    (db_one (ds_ret (de_callTy call_list_of lst_A (by rfl) T.z_list (by decide +kernel) (da_cons (dv 0) da_nil))))
    db_nil)
  (db_cons (ds_set (i := 1) scordered_rows.nd rfl (.inl rfl) (de_fdiv (de_callB call_len2 len_A (by rfl) T.z_len (by decide +kernel) (da_cons (dv 0) da_nil)) de_int))
  (db_one (ds_ret (de_call G_merged_rows (hr.mono (by first | decide | omega)) (by rfl) T.g_merged_rows T.F_merged_rows.kp T.b_merged_rows hx (da_cons (de_call G_ordered_rows (hr.mono (by first | decide | omega)) (by rfl) T.g_ordered_rows T.F_ordered_rows.kp T.b_ordered_rows hx (da_cons (de_sl (dv 0) do_none (do_some (dv 1))) da_nil)) (da_cons (de_call G_ordered_rows (hr.mono (by first | decide | omega)) (by rfl) T.g_ordered_rows T.F_ordered_rows.kp T.b_ordered_rows hx (da_cons (de_sl (dv 0) (do_some (dv 1)) do_none) da_nil)) da_nil))))))), fun ds G Q h => ?_⟩)
    · obtain ⟨xs, rfl, _⟩ := h
      rfl
    · obtain ⟨xs, rfl, hx, l1, l2, q⟩ := h
      show (match decide (((xs.map rowT).length : Int) < 2) with | true => _ | false => _)
      rw [List.length_map]
      unfold ordR at q
      by_cases hl : xs.length < 2
      · rw [if_pos hl] at q
        rw [decide_eq_true (by omega)]
        exact q
      · rw [if_neg hl] at q
        rw [decide_eq_false (by omega)]
        have eh : ((xs.map rowT).length : Int) / 2 = ((xs.length / 2 : Nat) : Int) := by
          rw [List.length_map]
          rfl
        have c1 : cutD (xs.map rowT) none (some ((xs.length / 2 : Nat) : Int)) = (xs.take (xs.length / 2)).map rowT := cut_upto (by omega)
        have c2 : cutD (xs.map rowT) (some ((xs.length / 2 : Nat) : Int)) none = (xs.drop (xs.length / 2)).map rowT := cut_from (by omega)
        have p2 : 2 ^ (j + 1) = 2 * 2 ^ j := by rw [Nat.pow_succ, Nat.mul_comm]
        refine ⟨wide_div (b := 60) (by decide) (by decide) (by decide) (by decide), ?_⟩
        refine ⟨xs.take (xs.length / 2), ?_, fun r hr => hx r (List.mem_of_mem_take hr), ?_, ?_, ?_⟩
        · show [D.lst (cutD (xs.map rowT) none (some (((xs.map rowT).length : Int) / 2)))] = _
          rw [eh, c1]
          rfl
        · rw [List.length_take]; omega
        · rw [List.length_take]; omega
        refine ⟨xs.drop (xs.length / 2), ?_, fun r hr => hx r (List.mem_of_mem_drop hr), ?_, ?_, ?_⟩
        · show [D.lst (cutD (xs.map rowT) (some (((xs.map rowT).length : Int) / 2)) none)] = _
          rw [eh, c2]
          rfl
        · rw [List.length_drop]; omega
        · rw [List.length_drop]; omega
        refine ⟨_, _, rfl, fun r hr => hx r (List.mem_of_mem_take ((ordR_perm j _).mem_iff.mp hr)), fun r hr => hx r (List.mem_of_mem_drop ((ordR_perm j _).mem_iff.mp hr)), ?_, ?_, q⟩
        · rw [(ordR_perm j _).length_eq, List.length_take]; omega
        · rw [(ordR_perm j _).length_eq, List.length_drop]; omega
theorem dok_ordered_rows (T : Top K mg) : FnD P w K mg base 60 T.a_ordered_rows T.d_ordered_rows ["rows"] (ordD 6) := (dok_ordered_n T 6).mono (by decide)
end
section
theorem vB_asym {a b : PySem.Leaf} (ha : okL a = true) (hb : okL b = true) (h : vB a b = true) : vB b a = false := by
  cases a <;> cases b <;> simp_all [vB, okL]
  omega
theorem vB_ne {a b : PySem.Leaf} (ha : okL a = true) (hb : okL b = true) (h : a ≠ b) : vB a b = true ∨ vB b a = true := by
  cases a <;> cases b <;> simp_all [vB, okL]
  omega
theorem vB_trans {a b c : PySem.Leaf} (ha : okL a = true) (hb : okL b = true) (hc : okL c = true) (h : vB a b = true) (h2 : vB b c = true) : vB a c = true := by
  cases a <;> cases b <;> cases c <;> simp_all [vB, okL]
  omega
theorem vB_irrefl {a : PySem.Leaf} (ha : okL a = true) : vB a a = false := by
  cases a <;> simp_all [vB, okL]
theorem rB_asym : ∀ {a b : Row}, OkRs a → OkRs b → rB a b = true → rB b a = false
  | [], _, _, _, h => by cases ‹Row› <;> simp [rB] at h
  | x :: xs, [], _, _, h => by simp [rB] at h
  | x :: xs, y :: ys, ha, hb, h => by
    unfold rB at h ⊢
    by_cases e : x = y
    · rw [if_pos e] at h
      rw [if_pos e.symm]
      exact rB_asym (fun l hl => ha l (List.mem_cons_of_mem _ hl)) (fun l hl => hb l (List.mem_cons_of_mem _ hl)) h
    · rw [if_neg e] at h
      rw [if_neg (Ne.symm e)]
      exact vB_asym (ha x List.mem_cons_self) (hb y List.mem_cons_self) h
theorem rB_tri : ∀ {a b : Row}, OkRs a → OkRs b → a.length = b.length → a = b ∨ rB a b = true ∨ rB b a = true
  | [], [], _, _, _ => .inl rfl
  | [], _ :: _, _, _, h => by cases h
  | _ :: _, [], _, _, h => by cases h
  | x :: xs, y :: ys, ha, hb, h => by
    by_cases e : x = y
    · subst e
      rcases rB_tri (fun l hl => ha l (List.mem_cons_of_mem _ hl)) (fun l hl => hb l (List.mem_cons_of_mem _ hl)) (Nat.succ.inj h) with q | q | q
      · exact .inl (by rw [q])
      · exact .inr (.inl (by unfold rB; rw [if_pos rfl]; exact q))
      · exact .inr (.inr (by unfold rB; rw [if_pos rfl]; exact q))
    · rcases vB_ne (ha x List.mem_cons_self) (hb y List.mem_cons_self) e with q | q
      · exact .inr (.inl (by unfold rB; rw [if_neg e]; exact q))
      · exact .inr (.inr (by unfold rB; rw [if_neg (Ne.symm e)]; exact q))
theorem rB_trans : ∀ {a b c : Row}, OkRs a → OkRs b → OkRs c → rB a b = true → rB b c = true → rB a c = true
  | [], b, _, _, _, _, h, _ => by cases b <;> simp [rB] at h
  | x :: xs, [], _, _, _, _, h, _ => by simp [rB] at h
  | x :: xs, y :: ys, [], _, _, _, _, h => by simp [rB] at h
  | x :: xs, y :: ys, z :: zs, ha, hb, hc, h, h2 => by
    have oa := ha x List.mem_cons_self
    have ob := hb y List.mem_cons_self
    have oc := hc z List.mem_cons_self
    unfold rB at h h2 ⊢
    by_cases e : x = y
    · subst e
      rw [if_pos rfl] at h
      by_cases e2 : x = z
      · subst e2
        rw [if_pos rfl] at h2 ⊢
        exact rB_trans (fun l hl => ha l (List.mem_cons_of_mem _ hl)) (fun l hl => hb l (List.mem_cons_of_mem _ hl)) (fun l hl => hc l (List.mem_cons_of_mem _ hl)) h h2
      · rw [if_neg e2] at h2 ⊢
        exact h2
    · rw [if_neg e] at h
      by_cases e2 : y = z
      · subst e2
        rw [if_neg e]
        exact h
      · rw [if_neg e2] at h2
        have q := vB_trans oa ob oc h h2
        have e3 : x ≠ z := fun e3 => by
          rw [e3, vB_irrefl oc] at q
          cases q
        rw [if_neg e3]
        exact q
/-- not behind -/
def rLe (a b : Row) : Prop := rB b a = false
theorem rLe_trans {a b c : Row} (ha : OkRs a) (hb : OkRs b) (hc : OkRs c) (l1 : a.length = b.length) (l2 : b.length = c.length) (h : rLe a b) (h2 : rLe b c) : rLe a c := by
  unfold rLe at *
  rcases rB_tri ha hb l1 with e | e | e
  · rw [e]; exact h2
  · rcases rB_tri hb hc l2 with e2 | e2 | e2
    · rw [← e2]; exact h
    · exact rB_asym ha hc (rB_trans ha hb hc e e2)
    · rw [e2] at h2; cases h2
  · rw [e] at h; cases h
theorem rLe_anti {a b : Row} (ha : OkRs a) (hb : OkRs b) (l1 : a.length = b.length) (h : rLe a b) (h2 : rLe b a) : a = b := by
  unfold rLe at *
  rcases rB_tri ha hb l1 with e | e | e
  · exact e
  · rw [e] at h2; cases h2
  · rw [e] at h; cases h
/-- rows of one width -/
def Wd (n : Nat) (l : List Row) : Prop := ∀ r ∈ l, OkRs r ∧ r.length = n
theorem mergeR_sorted {n : Nat} : ∀ (xs ys : List Row), Wd n xs → Wd n ys → xs.Pairwise rLe → ys.Pairwise rLe → (mergeR xs ys).Pairwise rLe
  | [], ys, _, _, _, h => by rw [mergeR]; exact h
  | x :: xs, [], _, _, h, _ => by rw [mergeR_nil]; exact h
  | x :: xs, y :: ys, wx, wy, hx, hy => by
    have ox := wx x List.mem_cons_self
    have oy := wy y List.mem_cons_self
    rw [mergeR]
    by_cases h : rB y x = true
    · rw [if_pos h]
      refine List.pairwise_cons.mpr ⟨fun z hz => ?_, mergeR_sorted (x :: xs) ys wx (fun r hr => wy r (List.mem_cons_of_mem _ hr)) hx (List.pairwise_cons.mp hy).2⟩
      have yx : rLe y x := rB_asym oy.1 ox.1 h
      rcases List.mem_append.mp ((mergeR_perm (x :: xs) ys).mem_iff.mp hz) with q | q
      · rcases List.mem_cons.mp q with rfl | q
        · exact yx
        · exact rLe_trans oy.1 ox.1 (wx z (List.mem_cons_of_mem _ q)).1 (by rw [oy.2, ox.2]) (by rw [ox.2, (wx z (List.mem_cons_of_mem _ q)).2]) yx ((List.pairwise_cons.mp hx).1 z q)
      · exact (List.pairwise_cons.mp hy).1 z q
    · rw [if_neg h]
      have xy : rLe x y := by unfold rLe; simpa using h
      refine List.pairwise_cons.mpr ⟨fun z hz => ?_, mergeR_sorted xs (y :: ys) (fun r hr => wx r (List.mem_cons_of_mem _ hr)) wy (List.pairwise_cons.mp hx).2 hy⟩
      rcases List.mem_append.mp ((mergeR_perm xs (y :: ys)).mem_iff.mp hz) with q | q
      · exact (List.pairwise_cons.mp hx).1 z q
      · rcases List.mem_cons.mp q with rfl | q
        · exact xy
        · exact rLe_trans ox.1 oy.1 (wy z (List.mem_cons_of_mem _ q)).1 (by rw [oy.2, ox.2]) (by rw [oy.2, (wy z (List.mem_cons_of_mem _ q)).2]) xy ((List.pairwise_cons.mp hy).1 z q)
termination_by xs ys => xs.length + ys.length
theorem Wd.perm {n : Nat} {a b : List Row} (p : a.Perm b) (h : Wd n b) : Wd n a := fun r hr => h r (p.mem_iff.mp hr)
theorem ordR_sorted {n : Nat} : ∀ (j : Nat) (l : List Row), Wd n l → l.length ≤ 2 ^ j → (ordR j l).Pairwise rLe
  | 0, l, _, h => by
    match l, h with
    | [], _ => exact List.Pairwise.nil
    | [x], _ => exact List.pairwise_singleton _ _
    | _ :: _ :: _, h => simp at h
  | j + 1, l, w, h => by
    unfold ordR
    by_cases h2 : l.length < 2
    · rw [if_pos h2]
      match l, h2 with
      | [], _ => exact List.Pairwise.nil
      | [x], _ => exact List.pairwise_singleton _ _
      | _ :: _ :: _, h => simp at h; omega
    · rw [if_neg h2]
      have p2 : 2 ^ (j + 1) = 2 * 2 ^ j := by rw [Nat.pow_succ, Nat.mul_comm]
      have wt : Wd n (l.take (l.length / 2)) := fun r hr => w r (List.mem_of_mem_take hr)
      have wd : Wd n (l.drop (l.length / 2)) := fun r hr => w r (List.mem_of_mem_drop hr)
      exact mergeR_sorted _ _ (wt.perm (ordR_perm j _)) (wd.perm (ordR_perm j _)) (ordR_sorted j _ wt (by rw [List.length_take]; omega)) (ordR_sorted j _ wd (by rw [List.length_drop]; omega))
/-- one order alone -/
theorem ordR_same {n : Nat} {j : Nat} {a b : List Row} (wa : Wd n a) (wb : Wd n b) (la : a.length ≤ 2 ^ j) (lb : b.length ≤ 2 ^ j) (na : a.Nodup) (nb : b.Nodup) (h : ∀ r, r ∈ a ↔ r ∈ b) : ordR j a = ordR j b := by
  have p : a.Perm b := (List.perm_ext_iff_of_nodup na nb).mpr h
  refine List.Perm.eq_of_pairwise (le := rLe) (fun x y hx hy h1 h2 => ?_) (ordR_sorted j a wa la) (ordR_sorted j b wb lb) (((ordR_perm j a).trans p).trans (ordR_perm j b).symm)
  have qx := wa x ((ordR_perm j a).mem_iff.mp hx)
  have qy := wb y ((ordR_perm j b).mem_iff.mp hy)
  exact rLe_anti qx.1 qy.1 (by rw [qx.2, qy.2]) h1 h2
end
section
variable {P : Program} {w : World} {K : PySem.W.Frag} {mg : Str → Option Value} {base : Heap}
abbrev KvI := List (Row × Int)
def kvD (kv : KvI) : KvN := kv.map fun p => (p.1, .int p.2)
def getI (kv : KvI) (r : Row) : Option Int := (kv.find? fun p => decide (p.1 = r)).map (·.2)
def cnt (kv : KvI) (r : Row) : Int := (getI kv r).getD 0
def putI (kv : KvI) (r : Row) (n : Int) : KvI := if (getI kv r).isSome = true then kv.map (fun p => if p.1 = r then (p.1, n) else p) else kv ++ [(r, n)]
def keys (kv : KvI) : List Row := kv.map (·.1)
theorem getR_kvD (r : Row) : ∀ kv : KvI, getR (kvD kv) r = (getI kv r).map D.int
  | [] => rfl
  | p :: kv => by
    unfold getR getI kvD
    rw [List.map_cons, List.find?_cons, List.find?_cons]
    by_cases h : p.1 = r
    · rw [decide_eq_true h]; rfl
    · rw [decide_eq_false h]
      exact getR_kvD r kv
theorem getR_getD (kv : KvI) (r : Row) : (getR (kvD kv) r).getD (.int 0) = .int (cnt kv r) := by
  rw [getR_kvD]
  unfold cnt
  cases getI kv r <;> rfl
theorem putR_kvD (kv : KvI) (r : Row) (n : Int) : putR (kvD kv) r (.int n) = kvD (putI kv r n) := by
  unfold putR putI
  rw [getR_kvD, Option.isSome_map]
  by_cases h : (getI kv r).isSome = true
  · rw [if_pos h, if_pos h]
    unfold kvD
    rw [List.map_map, List.map_map]
    refine List.map_congr_left fun p _ => ?_
    show (if p.1 = r then (p.1, D.int n) else (p.1, D.int p.2)) = ((if p.1 = r then (p.1, n) else p).1, D.int (if p.1 = r then (p.1, n) else p).2)
    by_cases e : p.1 = r
    · rw [if_pos e, if_pos e]
    · rw [if_neg e, if_neg e]
  · rw [if_neg h, if_neg h]
    unfold kvD
    rw [List.map_append]
    rfl
theorem getI_some {kv : KvI} {r : Row} : (getI kv r).isSome = true ↔ r ∈ keys kv := by
  unfold getI keys
  rw [Option.isSome_map, List.find?_isSome, List.mem_map]
  exact ⟨fun ⟨p, hp, e⟩ => ⟨p, hp, of_decide_eq_true e⟩, fun ⟨p, hp, e⟩ => ⟨p, hp, decide_eq_true e⟩⟩
theorem getI_append (kv kv2 : KvI) (r : Row) : getI (kv ++ kv2) r = (getI kv r).or (getI kv2 r) := by
  unfold getI
  rw [List.find?_append]
  cases List.find? (fun p => decide (p.1 = r)) kv <;> simp
theorem getI_map (r : Row) (n : Int) (s : Row) : ∀ kv : KvI, getI (kv.map fun p => if p.1 = r then (p.1, n) else p) s = if s = r then (getI kv s).map fun _ => n else getI kv s
  | [] => by by_cases h : s = r <;> simp [getI, h]
  | p :: kv => by
    have ih := getI_map r n s kv
    unfold getI at ih ⊢
    rw [List.map_cons, List.find?_cons, List.find?_cons]
    by_cases h : p.1 = r
    · rw [if_pos h]
      by_cases h2 : p.1 = s
      · rw [decide_eq_true h2]
        rw [if_pos (by rw [← h2, h])]
        rfl
      · rw [decide_eq_false h2]
        exact ih
    · rw [if_neg h]
      by_cases h2 : p.1 = s
      · rw [decide_eq_true h2]
        rw [if_neg (by rw [← h2]; exact h)]
      · rw [decide_eq_false h2]
        exact ih
theorem getI_put (kv : KvI) (r : Row) (n : Int) (s : Row) : getI (putI kv r n) s = if s = r then some n else getI kv s := by
  unfold putI
  by_cases h : (getI kv r).isSome = true
  · rw [if_pos h, getI_map]
    by_cases e : s = r
    · subst e
      rw [if_pos rfl, if_pos rfl]
      obtain ⟨m, hm⟩ := Option.isSome_iff_exists.mp h
      rw [hm]; rfl
    · rw [if_neg e, if_neg e]
  · rw [if_neg h, getI_append]
    by_cases e : s = r
    · subst e
      rw [if_pos rfl]
      have : getI kv s = none := by cases q : getI kv s with | none => rfl | some m => rw [q] at h; exact absurd rfl h
      rw [this]
      show getI [(s, n)] s = _
      unfold getI
      rw [List.find?_cons, decide_eq_true rfl]
      rfl
    · rw [if_neg e]
      have : getI [(r, n)] s = none := by
        unfold getI
        rw [List.find?_cons, decide_eq_false (Ne.symm e)]
        rfl
      rw [this, Option.or_none]
theorem cnt_put (kv : KvI) (r : Row) (n : Int) (s : Row) : cnt (putI kv r n) s = if s = r then n else cnt kv s := by
  unfold cnt
  rw [getI_put]
  by_cases e : s = r
  · rw [if_pos e, if_pos e]; rfl
  · rw [if_neg e, if_neg e]
theorem keys_put {kv : KvI} {r : Row} {n : Int} : keys (putI kv r n) = if r ∈ keys kv then keys kv else keys kv ++ [r] := by
  unfold putI
  by_cases h : (getI kv r).isSome = true
  · rw [if_pos h, if_pos (getI_some.mp h)]
    unfold keys
    rw [List.map_map]
    refine List.map_congr_left fun p _ => ?_
    show (if p.1 = r then (p.1, n) else p).1 = p.1
    by_cases e : p.1 = r
    · rw [if_pos e]
    · rw [if_neg e]
  · rw [if_neg h, if_neg (fun z => h (getI_some.mpr z))]
    unfold keys
    rw [List.map_append]
    rfl
theorem nodup_put {kv : KvI} {r : Row} {n : Int} (h : (keys kv).Nodup) : (keys (putI kv r n)).Nodup := by
  rw [keys_put]
  by_cases e : r ∈ keys kv
  · rw [if_pos e]; exact h
  · rw [if_neg e]
    refine List.nodup_append.mpr ⟨h, List.nodup_cons.mpr ⟨by simp, List.nodup_nil⟩, fun a ha b hb => ?_⟩
    rw [List.mem_singleton.mp hb]
    exact fun z => e (z ▸ ha)
theorem mem_keys_put {kv : KvI} {r s : Row} {n : Int} : s ∈ keys (putI kv r n) ↔ s = r ∨ s ∈ keys kv := by
  rw [← getI_some, getI_put]
  by_cases e : s = r
  · rw [if_pos e]; exact ⟨fun _ => .inl e, fun _ => rfl⟩
  · rw [if_neg e, getI_some]; exact ⟨.inr, fun h => h.resolve_left e⟩
theorem cnt_mem {kv : KvI} (nd : (keys kv).Nodup) {p : Row × Int} (h : p ∈ kv) : cnt kv p.1 = p.2 := by
  induction kv with
  | nil => cases h
  | cons q kv ih =>
    unfold keys at nd
    rw [List.map_cons, List.nodup_cons] at nd
    unfold cnt getI
    rw [List.find?_cons]
    by_cases e : q.1 = p.1
    · rw [decide_eq_true e]
      rcases List.mem_cons.mp h with rfl | h
      · rfl
      · exact absurd (List.mem_map.mpr ⟨p, h, e.symm⟩) nd.1
    · rw [decide_eq_false e]
      rcases List.mem_cons.mp h with rfl | h
      · exact absurd rfl e
      · exact ih nd.2 h
theorem cnt_none {kv : KvI} {r : Row} (h : r ∉ keys kv) : cnt kv r = 0 := by
  unfold cnt
  cases e : getI kv r with
  | none => rfl
  | some n => exact absurd (getI_some.mp (by rw [e]; rfl)) h
/-- pairs -/
def pairD (p : Row × Int) : D := .tup [rowT p.1, .int p.2]
def addAll (kv : KvI) (ps : KvI) : KvI := ps.foldl (fun kv p => putI kv p.1 (cnt kv p.1 + p.2)) kv
theorem len_put {kv : KvI} {r : Row} {n : Int} : (putI kv r n).length ≤ kv.length + 1 := by
  have := congrArg List.length (keys_put (kv := kv) (r := r) (n := n))
  unfold keys at this
  rw [List.length_map] at this
  rw [this]
  by_cases e : r ∈ kv.map (·.1)
  · rw [if_pos e, List.length_map]; omega
  · rw [if_neg e, List.length_append, List.length_map]; exact Nat.le_refl _
abbrev BIG : Int := 1000000000000000000000000000000
def isTimes : D → Bool
  | .int n => decide (1 ≤ n) && decide (n ≤ BIG)
  | _ => false
def isTimesGD : SpD := fun ds G Q _ => ∃ d, ds = [d] ∧ Told d G ∧ Q (.bl (isTimes d)) G
theorem dok_is_times (T : Top K mg) : FnD P w K mg base 8 T.a_is_times T.d_is_times ["value"] isTimesGD := by
  have G_is_integer := (dok_is_integer (P := P) (w := w) (base := base) T).mono (k := 5) (by decide)
  refine dfn (k := 7) T.F_is_times scis_times (fun ds G Q W h => ?_) (fun cdv A outer s H E B W hr tk => have hx := hx_of tk; ⟨_, (db_one (ds_ret (de_and (de_call G_is_integer (hr.mono (by decide)) (by rfl) T.g_is_integer T.F_is_integer.kp T.b_is_integer hx (da_cons (dv 0) da_nil)) (de_one (de_chain op_le le_A op_le le_A de_int (dv 0) (de_gint rfl T.c_MOST_TIMES (show RelV (.int 1000000000000000000000000000000) _ from ⟨_, rfl⟩))))))), fun ds G Q h => ?_⟩)
  · obtain ⟨d, rfl, _⟩ := h
    rfl
  · obtain ⟨d, rfl, ht, q⟩ := h
    refine ⟨d, rfl, ht, ?_⟩
    cases d
    case int n =>
      replace q : Q (.bl (decide (1 ≤ n) && decide (n ≤ BIG))) G := q
      show (match D.bl (decide ((1 : Int) ≤ n)) with | .bl true => _ | .bl false => _ | _ => False)
      by_cases h1 : 1 ≤ n
      · rw [decide_eq_true h1] at q ⊢
        rw [Bool.true_and] at q
        exact q
      · rw [decide_eq_false h1] at q ⊢
        rw [Bool.false_and] at q
        exact q
    all_goals exact q
/-- a row and a number, each told -/
def isPair : D → Bool
  | .tup [a, b] => isRow a && isTimes b
  | _ => false
def ToldP (d : D) (G : Gm) : Prop := Told d G ∧ ∀ es, d = .tup es → ∀ e ∈ es, ToldT e G
def isPairGD : SpD := fun ds G Q _ => ∃ d, ds = [d] ∧ ToldP d G ∧ Q (.bl (isPair d)) G
theorem dok_is_pair (T : Top K mg) : FnD P w K mg base 16 T.a_is_pair T.d_is_pair ["value"] isPairGD := by
  have G_is_row := (dok_is_row (P := P) (w := w) (base := base) T).mono (k := 13) (by decide)
  have G_is_times := (dok_is_times (P := P) (w := w) (base := base) T).mono (k := 13) (by decide)
  refine dfn (k := 15) T.F_is_pair scis_pair (fun ds G Q W h => ?_) (fun cdv A outer s H E B W hr tk => have hx := hx_of tk; ⟨_, (db_cons (ds_if (dw_pt (dw_or (dt_not (dt_val (de_isK (j := .tup) (by rfl) T.z_isinstance (by decide +kernel) (dv 0) (pe_bltn (by rfl) T.z_tuple (by decide +kernel) rfl)))) (dw_or1 (dt_cmp (op_neD (Room.units hr)) neI_A (de_callB call_len2 len_A (by rfl) T.z_len (by decide +kernel) (da_cons (dv 0) da_nil)) de_int (nomark _)))))
    (db_one (ds_ret de_bl))
    db_nil)
  (db_one (ds_ret (de_and (de_call G_is_row (hr.mono (by decide)) (by rfl) T.g_is_row T.F_is_row.kp T.b_is_row hx (da_cons (de_ix ix_seq ix_A (dv 0) de_int (fun _ _ => rfl)) da_nil)) (de_one (de_call G_is_times (hr.mono (by decide)) (by rfl) T.g_is_times T.F_is_times.kp T.b_is_times hx (da_cons (de_ix ix_seq ix_A (dv 0) de_int (fun _ _ => rfl)) da_nil))))))), fun ds G Q h => ?_⟩)
  · obtain ⟨d, rfl, _⟩ := h
    rfl
  · obtain ⟨d, rfl, ⟨ht, hi⟩, q⟩ := h
    show (match isK d G .tup with | some b => _ | none => _)
    rw [told_is ht (by decide)]
    cases d
    case tup es =>
      refine ⟨pl_int, pl_int, ?_⟩
      rw [eqvD_int]
      match es, hi, q with
      | [], _, q => exact q
      | [_], _, q => exact q
      | _ :: _ :: _ :: rest, _, q =>
        rw [decide_eq_false (show ¬ (((_ :: _ :: _ :: rest : List D).length : Nat) : Int) = 2 by simp; omega)]
        exact q
      | [a, b], hi, q =>
        replace q : Q (.bl (isRow a && isTimes b)) G := q
        refine ⟨a, rfl, hi _ rfl a (by simp), ?_⟩
        cases hr : isRow a with
        | true =>
          rw [hr, Bool.true_and] at q
          exact ⟨b, rfl, (hi _ rfl b (by simp)).1, q⟩
        | false =>
          rw [hr, Bool.false_and] at q
          exact q
    all_goals exact q
theorem isPair_some {d : D} (h : isPair d = true) : ∃ p : Row × Int, d = pairD p ∧ OkR p.1 ∧ 1 ≤ p.2 ∧ p.2 ≤ BIG := by
  unfold isPair at h
  split at h
  · rename_i a b
    rw [Bool.and_eq_true] at h
    obtain ⟨r, rfl, hr⟩ := isRow_some h.1
    have h2 := h.2
    cases b <;> first | (cases h2; done) | skip
    rename_i n
    have h2' : (decide (1 ≤ n) && decide (n ≤ BIG)) = true := h2
    rw [Bool.and_eq_true] at h2'
    exact ⟨(r, n), rfl, hr, of_decide_eq_true h2'.1, of_decide_eq_true h2'.2⟩
  · cases h
theorem isPair_D {p : Row × Int} (h : OkR p.1) (h1 : 1 ≤ p.2) (h2 : p.2 ≤ BIG) : isPair (pairD p) = true := by
  show (isRow (rowT p.1) && (decide (1 ≤ p.2) && decide (p.2 ≤ BIG))) = true
  rw [isRow_T h, decide_eq_true h1, decide_eq_true h2]
  rfl
theorem toldP_pair {p : Row × Int} {G : Gm} (h : OkR p.1) : ToldP (pairD p) G := by
  refine ⟨told_ki (k := .tup) rfl, fun es e => ?_⟩
  cases e
  intro x hx
  simp only [List.mem_cons, List.not_mem_nil, or_false] at hx
  rcases hx with rfl | rfl
  · exact toldT_row h
  · exact ⟨told_ki (k := .int) rfl, fun es e => by cases e⟩
/-- pairs that a bag can have, rows of one width -/
def OkPs (n : Nat) (ps : KvI) : Prop := ∀ p ∈ ps, OkR p.1 ∧ p.1.length = n ∧ 1 ≤ p.2 ∧ p.2 ≤ BIG
def rowLen : D → Nat
  | .tup (.tup r :: _) => r.length
  | _ => 0
def okAt (n : Nat) (d : D) : Bool := isPair d && decide (rowLen d = n)
def firstBad (p : D → Bool) : List D → Nat → Option Nat
  | [], _ => none
  | e :: es, j => if p e = true then firstBad p es (j + 1) else some j
def headLen : List D → Nat
  | [] => 0
  | e :: _ => rowLen e
/-- the first part that is none -/
def badPair (es : List D) : Option Nat := firstBad (okAt (headLen es)) es 0
def checkPairsX (CX : Addr) : SpD := fun ds G Q W => ∃ es : List D, ds = [.tup es] ∧ (∀ e ∈ es, ToldP e G) ∧ (badPair es = none → Q .non G) ∧ ∀ j : Nat, badPair es = some j → W CX [("part", .int (j : Int))] G
theorem enum_cons (j : Nat) (e : D) (es : List D) : (e :: es).mapIdx (fun i d => D.tup [.int ((j + i : Nat) : Int), d]) = .tup [.int (j : Int), e] :: es.mapIdx (fun i d => D.tup [.int ((j + 1 + i : Nat) : Int), d]) := by
  rw [List.mapIdx_cons]
  congr 1
  apply List.ext_getElem?
  intro i
  simp only [List.getElem?_mapIdx]
  congr 1
  funext d
  have : j + (i + 1) = j + 1 + i := by omega
  rw [this]
theorem dok_check_pairs (T : Top K mg) : FnD P w K mg base 20 T.a_check_pairs T.d_check_pairs ["pairs"] (checkPairsX T.C_BadBag) := by
  have G_BadBag___init__ := (vok_BadBag___init__ (P := P) (w := w) (base := base) T).mono (k := 17) (by decide)
  have G_is_pair := (dok_is_pair (P := P) (w := w) (base := base) T).mono (k := 17) (by decide)
  refine dfn (k := 19) T.F_check_pairs sccheck_pairs (fun ds G Q W h => ?_) (fun cdv A outer s H E B W hr tk => have hx := hx_of tk; ⟨_, (db_one (ds_for (passes_of rfl) rfl (di_enumT (by rfl) T.z_enumerate (da_cons (dv 0) da_nil)) (dg_tup (by rfl) (dgs_cons (dg_name (i := 1) sccheck_pairs.nd rfl (.inl rfl)) (dgs_cons (dg_name (i := 2) sccheck_pairs.nd rfl (.inl rfl)) dgs_nil)))
    (db_one (ds_if (dw_pt (dw_or (dt_not (dt_val (de_call G_is_pair (hr.mono (by decide)) (by rfl) T.g_is_pair T.F_is_pair.kp T.b_is_pair hx (da_cons (dv 2) da_nil)))) (dw_or1 (dt_cmp (op_neD (Room.units hr)) neI_A (de_callB call_len2 len_A (by rfl) T.z_len (by decide +kernel) (da_cons (de_ix ix_seq ix_A (dv 2) de_int (fun _ _ => rfl)) da_nil)) (de_callB call_len2 len_A (by rfl) T.z_len (by decide +kernel) (da_cons (de_ix ix_seq ix_A (de_ix ix_seq ix_A (dv 0) de_int (fun _ _ => rfl)) de_int (fun _ _ => rfl)) da_nil)) (nomark _)))))
    (db_one (ds_raise1F rfl tk T.ox_BadBag T.ic_BadBag T.ti_BadBag G_BadBag___init__ (hr.mono (by decide)) T.b_BadBag___init__ rfl T.g_BadBag (da_cons (dv 1) da_nil)))
    db_nil)))), fun ds G Q h => ?_⟩)
  · obtain ⟨_, rfl, _⟩ := h
    rfl
  · obtain ⟨es, rfl, ht, q0, q1⟩ := h
    have start : enumT es = es.mapIdx (fun i d => D.tup [.int ((0 + i : Nat) : Int), d]) := by
      unfold enumT
      apply List.ext_getElem?
      intro i
      simp only [List.getElem?_mapIdx, Nat.zero_add]
    show forD _ _ _ (enumT es) [some (.tup es), none, none] G
    rw [start]
    refine (fun (key : ∀ (rest : List D) (j : Nat) (x y : Option D), (∀ e ∈ rest, ToldP e G) → (rest = es ∨ isPair (es.headD .non) = true) → (firstBad (okAt (headLen es)) rest j = badPair es) →
      forD _ _ _ (rest.mapIdx (fun i d => D.tup [.int ((j + i : Nat) : Int), d])) [some (.tup es), x, y] G) => key es 0 none none ht (.inl rfl) rfl) ?_
    intro rest
    induction rest with
    | nil =>
      intro j x y _ _ hb
      exact q0 hb.symm
    | cons e rest ih =>
      intro j x y hr hh hb
      rw [enum_cons]
      have he := hr e List.mem_cons_self
      have hr' : ∀ x ∈ rest, ToldP x G := fun x hx => hr x (List.mem_cons_of_mem _ hx)
      have bad : okAt (headLen es) e = false → badPair es = some j := fun z => by
        rw [← hb]
        show (if okAt (headLen es) e = true then _ else some j) = _
        rw [if_neg (by rw [z]; decide)]
      have good : okAt (headLen es) e = true → firstBad (okAt (headLen es)) rest (j + 1) = badPair es := fun z => by
        rw [← hb]
        show _ = (if okAt (headLen es) e = true then _ else some j)
        rw [if_pos z]
      refine ⟨rfl, e, rfl, he, ?_⟩
      cases hp : isPair e with
      | false => exact ⟨rfl, q1 j (bad (by unfold okAt; rw [hp]; rfl))⟩
      | true =>
        obtain ⟨p, rfl, ho, h1, h2⟩ := isPair_some hp
        have hh' : isPair (es.headD .non) = true := hh.elim (fun z => by rw [← z]; exact hp) id
        obtain ⟨p0, hp0, o0, _, _⟩ := isPair_some hh'
        obtain ⟨tl, rfl⟩ : ∃ tl, es = pairD p0 :: tl := by
          cases es with
          | nil => cases hp0
          | cons e0 tl => exact ⟨tl, by rw [← hp0]; rfl⟩
        have e0 : atI (pairD p0 :: tl) 0 = some (pairD p0) := atI_nat (j := 0) rfl
        show (match atI (pairD p0 :: tl) 0 with | some d => _ | none => False)
        rw [e0]
        refine ⟨pl_int, pl_int, ?_⟩
        rw [eqvD_int]
        show (match D.bl (!decide (((p.1.map lD).length : Int) = ((p0.1.map lD).length : Int))) with | .bl b => _ | _ => False)
        have ok : okAt (headLen (pairD p0 :: tl)) (pairD p) = decide ((p.1.map lD).length = (p0.1.map lD).length) := by
          unfold okAt
          rw [hp]
          rfl
        by_cases hw : (p.1.map lD).length = (p0.1.map lD).length
        · rw [decide_eq_true (by omega)]
          exact ih (j + 1) _ _ hr' (.inr hh') (good (by rw [ok]; exact decide_eq_true hw))
        · rw [decide_eq_false (by omega)]
          exact ⟨rfl, q1 j (bad (by rw [ok]; exact decide_eq_false hw))⟩
theorem dlnD_at {G : Gm} {a : Addr} {hf : Row → Int} {kvs : KvN} (h : G a = some (.dln hf kvs)) : dlnD (.adr a) G = some (hf, kvs) := by
  unfold dlnD
  simp only [h]
def addedUpD (w : World) : SpD := fun ds G Q _ => ∃ (ps : KvI), ds = [.tup (ps.map pairD)] ∧ ps.length ≤ 900 ∧ Q (.dln (rowH w) (kvD (addAll [] ps))) G
theorem dok_added_up (T : Top K mg) : FnD P w K mg base 4 T.a_added_up T.d_added_up ["pairs"] (addedUpD w) := by
  refine dfn (k := 3) T.F_added_up scadded_up (fun ds G Q W h => ?_) (fun cdv A outer s H E B W hr tk => have hx := hx_of tk; ⟨_, (db_cons (ds_set (i := 1) scadded_up.nd rfl (.inl rfl) de_dictM)
  (db_cons (ds_for (passes_of rfl) rfl (di_tup (dv 0)) (dg_tup (by rfl) (dgs_cons (dg_name (i := 2) scadded_up.nd rfl (.inl rfl)) (dgs_cons (dg_name (i := 3) scadded_up.nd rfl (.inl rfl)) dgs_nil)))
    (db_one (ds_nput (Nat.lt_of_le_of_lt (Nat.add_le_add_left (by decide) _) (Room.units hr)) (dv 1) (dv 2) (de_add (de_nget2W (w := w) rfl (Nat.lt_of_le_of_lt (Nat.add_le_add_left (by decide) _) (Room.units hr)) (dv 1) (dv 2) de_int ⟨rfl, rfl, rfl, rfl⟩) (dv 3)))))
  (db_one (ds_ret (de_closeN (dv 1)))))), fun ds G Q h => ?_⟩)
  · obtain ⟨_, rfl, _⟩ := h
    rfl
  · obtain ⟨ps, rfl, hl, q⟩ := h
    intro p np
    refine (fun (key : ∀ (rest : KvI) (kv : KvI) (x y : Option D), kv.length + rest.length ≤ 900 → Q (.dln (rowH w) (kvD (addAll kv rest))) G → forD _ _ _ (rest.map pairD) [some (.tup (ps.map pairD)), some (.adr p), x, y] (updG G p (.dln (rowH w) (kvD kv)))) => key ps [] none none (by simpa using hl) q) ?_
    intro rest
    induction rest with
    | nil =>
      intro kv x y _ q
      refine ⟨p, rfl, ?_⟩
      rw [updG_same]
      show Q (.dln (rowH w) (kvD kv)) (delG (updG G p (.dln (rowH w) (kvD kv))) p)
      rw [delG_updG np]
      exact q
    | cons a rest ih =>
      intro kv x y hl q
      rw [List.length_cons] at hl
      refine ⟨rfl, by rw [dlnD_at updG_same]; rfl, by rw [dlnD_at updG_same], ?_⟩
      show (match dlnD (.adr p) (updG G p (.dln (rowH w) (kvD kv))), rowD? (rowT a.1) with | some (hf, kvs), some k => _ | _, _ => False)
      rw [dlnD_at updG_same, rowD_T]
      refine ⟨rfl, ?_⟩
      rw [getR_getD]
      refine ⟨p, rfl, ?_⟩
      rw [updG_same]
      show (match (some (MO.dln (rowH w) (kvD kv))), rowD? (rowT a.1) with | some (.dln hf kvs), some k => _ | _, _ => False)
      rw [rowD_T]
      refine ⟨rfl, by unfold kvD; rw [List.length_map]; omega, ?_⟩
      show forD _ _ _ (rest.map pairD) _ (updG (updG G p (.dln (rowH w) (kvD kv))) p (.dln (rowH w) (putR (kvD kv) a.1 (.int (cnt kv a.1 + a.2)))))
      rw [updG_updG, putR_kvD]
      exact ih _ _ _ (by have := len_put (kv := kv) (r := a.1) (n := cnt kv a.1 + a.2); omega) q
end
section
variable {P : Program} {w : World} {K : PySem.W.Frag} {mg : Str → Option Value} {base : Heap}
theorem kvD_rows (kv : KvI) : (kvD kv).map (fun q => rowT q.1) = (keys kv).map rowT := by
  unfold kvD keys
  rw [List.map_map, List.map_map]
  rfl
theorem getI_in {kv : KvI} {r : Row} (h : r ∈ keys kv) : getI kv r = some (cnt kv r) := by
  obtain ⟨n, hn⟩ := Option.isSome_iff_exists.mp (getI_some.mpr h)
  unfold cnt
  rw [hn]
  rfl
theorem getR_in {kv : KvI} {r : Row} (h : r ∈ keys kv) : getR (kvD kv) r = some (.int (cnt kv r)) := by
  rw [getR_kvD, getI_in h]
  rfl
theorem kvD_len (kv : KvI) : (kvD kv).length = kv.length := List.length_map _
def FitsK (kv : KvI) : Prop := ∀ r ∈ keys kv, cnt kv r ≤ BIG
def checkNumsX (CX : Addr) (w : World) : SpD := fun ds G Q W => ∃ kv : KvI, ds = [.dln (rowH w) (kvD kv)] ∧ kv.length ≤ 900 ∧ (¬ FitsK kv → W CX [("most", .int BIG), ("what", .str "times")] G) ∧ (FitsK kv → 60 < kv.length → W CX [("most", .int 60), ("what", .str "rows")] G) ∧ (FitsK kv → kv.length ≤ 60 → Q .non G)
theorem dok_check_numbers (T : Top K mg) : FnD P w K mg base 9 T.a_check_numbers T.d_check_numbers ["numbers"] (checkNumsX T.C_TooMany w) := by
  have G_TooMany___init__ := (vok_TooMany___init__ (P := P) (w := w) (base := base) T).mono (k := 6) (by decide)
  refine dfn (k := 8) T.F_check_numbers sccheck_numbers (fun ds G Q W h => ?_) (fun cdv A outer s H E B W hr tk => have hx := hx_of tk; ⟨_, (db_cons (ds_if (dt_val (de_callB (cr_any rfl) any_A (by rfl) T.z_any (by decide +kernel) (da_cons (de_lcF (own := [("row", 1)]) (gV := gName 1) finA_l rfl sccheck_numbers.nd (di_keysN (dv 0)) (blkOk_by (own := [("row", 1)]) (N := Ncheck_numbers) (sc := defScope scheck_numbers) (by decide +kernel)) (cg_name (i := 1) (by decide)) (fun _ _ _ _ _ => (pg_name (i := 1) sccheck_numbers.nd rfl (.inl rfl))) (fun _ _ _ _ _ _ => dts_nil) (fun _ _ _ _ _ _ => (de_cmp op_gt gt_A (de_ngetW (w := w) rfl (Nat.lt_of_le_of_lt (Nat.add_le_add_left (by decide) _) (Room.units hr)) (dv 0) (dv 1) (fun _ _ => rfl)) (de_gint rfl T.c_MOST_TIMES (show RelV (.int 1000000000000000000000000000000) _ from ⟨_, rfl⟩)) (nomark _)))) da_nil)))
    (db_one (ds_raise2F rfl tk T.ox_TooMany T.ic_TooMany T.ti_TooMany G_TooMany___init__ (hr.mono (by decide)) T.b_TooMany___init__ rfl T.g_TooMany (da_cons de_str (da_cons (de_gint rfl T.c_MOST_TIMES (show RelV (.int 1000000000000000000000000000000) _ from ⟨_, rfl⟩)) da_nil))))
    db_nil)
  (db_one (ds_if (dt_cmp op_gt gt_A (de_callB call_lenN lenN_A (by rfl) T.z_len (by decide +kernel) (da_cons (dv 0) da_nil)) (de_gint rfl T.c_MOST_ROWS (show RelV (.int 60) _ from ⟨_, rfl⟩)) (nomark _))
    (db_one (ds_raise2F rfl tk T.ox_TooMany T.ic_TooMany T.ti_TooMany G_TooMany___init__ (hr.mono (by decide)) T.b_TooMany___init__ rfl T.g_TooMany (da_cons de_str (da_cons (de_gint rfl T.c_MOST_ROWS (show RelV (.int 60) _ from ⟨_, rfl⟩)) da_nil))))
    db_nil))), fun ds G Q h => ?_⟩)
  · obtain ⟨_, rfl, _⟩ := h
    rfl
  · obtain ⟨kv, rfl, hl, q0, q1, q2⟩ := h
    refine ⟨by rw [List.length_map, kvD_len, sizeLine_eq]; omega, ?_⟩
    rw [kvD_rows]
    refine lc_f0 rowT (fun r => .bl (decide (BIG < cnt kv r))) (keys kv) [] (fun r hr Q hQ => ?_) ?_
    · show (match dlnD (.dln (rowH w) (kvD kv)) G, rowD? (rowT r) with | some (hf, kvs), some k => _ | _, _ => False)
      rw [rowD_T]
      refine ⟨rfl, ?_⟩
      rw [getR_in hr]
      exact hQ
    · refine ⟨(keys kv).map fun r => decide (BIG < cnt kv r), by rw [List.map_map]; rfl, ?_⟩
      rw [List.any_map]
      cases ha : (keys kv).any (id ∘ fun r => decide (BIG < cnt kv r)) with
      | true =>
        obtain ⟨r, hr, hb⟩ := List.any_eq_true.mp ha
        have hb' : BIG < cnt kv r := of_decide_eq_true hb
        exact ⟨rfl, q0 fun z => by have := z r hr; omega⟩
      | false =>
        have fit : FitsK kv := fun r hr => by
          have := List.any_eq_false.mp ha r hr
          have h2 : ¬ BIG < cnt kv r := fun z => this (decide_eq_true z)
          omega
        refine ⟨rfl, ?_⟩
        rw [kvD_len]
        show (match decide ((60 : Int) < (kv.length : Int)) with | true => _ | false => _)
        by_cases c : 60 < kv.length
        · rw [decide_eq_true (show (60 : Int) < (kv.length : Int) by omega)]
          exact ⟨rfl, q1 fit c⟩
        · rw [decide_eq_false (show ¬ (60 : Int) < (kv.length : Int) by omega)]
          exact q2 fit (by omega)
def bagD (C : Addr) (w : World) (kv : KvI) : D := .ins C [("_pairs", .tup (((ordR 6 (keys kv)).map fun r => (r, cnt kv r)).map pairD)), ("_numbers", .dln (rowH w) (kvD kv))]
theorem keys_addAll {r : Row} : ∀ (ps kv : KvI), r ∈ keys (addAll kv ps) ↔ r ∈ keys kv ∨ r ∈ keys ps
  | [], kv => by simp [addAll, keys]
  | p :: ps, kv => by
    have ih := keys_addAll (r := r) ps (putI kv p.1 (cnt kv p.1 + p.2))
    rw [mem_keys_put] at ih
    show r ∈ keys (addAll (putI kv p.1 (cnt kv p.1 + p.2)) ps) ↔ _
    rw [ih]
    have e : r ∈ keys (p :: ps) ↔ r = p.1 ∨ r ∈ keys ps := List.mem_cons
    rw [e]
    constructor
    · rintro ((h | h) | h)
      · exact .inr (.inl h)
      · exact .inl h
      · exact .inr (.inr h)
    · rintro (h | h | h)
      · exact .inl (.inr h)
      · exact .inl (.inl h)
      · exact .inr h
theorem nodup_addAll : ∀ (ps kv : KvI), (keys kv).Nodup → (keys (addAll kv ps)).Nodup
  | [], kv, h => h
  | p :: ps, kv, h => nodup_addAll ps _ (nodup_put h)
theorem len_addAll : ∀ (ps kv : KvI), (addAll kv ps).length ≤ kv.length + ps.length
  | [], kv => Nat.le_refl _
  | p :: ps, kv => by
    have := len_addAll ps (putI kv p.1 (cnt kv p.1 + p.2))
    have h2 := len_put (kv := kv) (r := p.1) (n := cnt kv p.1 + p.2)
    show (addAll (putI kv p.1 (cnt kv p.1 + p.2)) ps).length ≤ _
    rw [List.length_cons]
    omega
def tot (ps : KvI) (r : Row) : Int := (ps.map fun p => if r = p.1 then p.2 else 0).sum
theorem cnt_addAll (r : Row) : ∀ (ps kv : KvI), cnt (addAll kv ps) r = cnt kv r + tot ps r
  | [], kv => by simp [addAll, tot]
  | p :: ps, kv => by
    have ih := cnt_addAll r ps (putI kv p.1 (cnt kv p.1 + p.2))
    rw [cnt_put] at ih
    show cnt (addAll (putI kv p.1 (cnt kv p.1 + p.2)) ps) r = _
    rw [ih]
    show _ = _ + ((if r = p.1 then p.2 else 0) + tot ps r)
    by_cases e : r = p.1
    · subst e
      rw [if_pos rfl, if_pos rfl]
      omega
    · rw [if_neg e, if_neg e]
      omega
theorem keys_len (kv : KvI) : (keys kv).length = kv.length := List.length_map _
theorem firstBad_none {p : D → Bool} : ∀ {es : List D} {j : Nat}, firstBad p es j = none → ∀ e ∈ es, p e = true
  | [], _, _, _, h => by cases h
  | e :: es, j, h, x, hx => by
    have h' : (if p e = true then firstBad p es (j + 1) else some j) = none := h
    by_cases c : p e = true
    · rw [if_pos c] at h'
      rcases List.mem_cons.mp hx with rfl | hx
      · exact c
      · exact firstBad_none h' x hx
    · rw [if_neg c] at h'
      cases h'
theorem badPair_none {es : List D} (h : badPair es = none) : ∃ (n : Nat) (ps : KvI), es = ps.map pairD ∧ OkPs n ps := by
  have all := firstBad_none h
  have mk : ∀ (n : Nat) (es : List D), (∀ e ∈ es, okAt n e = true) → ∃ ps : KvI, es = ps.map pairD ∧ OkPs n ps := by
    intro n es
    induction es with
    | nil => exact fun _ => ⟨[], rfl, fun p hp => by cases hp⟩
    | cons e es ih =>
      intro hh
      have h1 := hh e List.mem_cons_self
      unfold okAt at h1
      rw [Bool.and_eq_true] at h1
      obtain ⟨p, rfl, ho, i1, ib⟩ := isPair_some h1.1
      obtain ⟨ps, rfl, hp⟩ := ih fun x hx => hh x (List.mem_cons_of_mem _ hx)
      have hn : (p.1.map lD).length = n := of_decide_eq_true h1.2
      rw [List.length_map] at hn
      exact ⟨p :: ps, rfl, fun q hq => (List.mem_cons.mp hq).elim (fun z => z ▸ ⟨ho, hn, i1, ib⟩) (hp q)⟩
  obtain ⟨ps, e, hp⟩ := mk _ es all
  exact ⟨_, ps, e, hp⟩
theorem badPair_ok {n : Nat} {ps : KvI} (h : OkPs n ps) : badPair (ps.map pairD) = none := by
  have key : ∀ (ps : KvI) (j : Nat), OkPs n ps → firstBad (okAt n) (ps.map pairD) j = none := by
    intro ps
    induction ps with
    | nil => intro _ _; rfl
    | cons p ps ih =>
      intro j hp
      obtain ⟨o1, o2, o3, o4⟩ := hp p List.mem_cons_self
      show (if okAt n (pairD p) = true then firstBad (okAt n) (ps.map pairD) (j + 1) else some j) = none
      rw [if_pos (by
        unfold okAt
        rw [isPair_D o1 o3 o4, Bool.true_and]
        exact decide_eq_true (show (p.1.map lD).length = n by rw [List.length_map]; exact o2))]
      exact ih _ fun q hq => hp q (List.mem_cons_of_mem _ hq)
  cases ps with
  | nil => rfl
  | cons p ps =>
    have hn : headLen ((p :: ps).map pairD) = n := by
      show (p.1.map lD).length = n
      rw [List.length_map]
      exact (h p List.mem_cons_self).2.1
    unfold badPair
    rw [hn]
    exact key _ _ h
/-- Bag(..), whatever it is given -/
def initX (C CB CT : Addr) (w : World) : SpD := fun ds G Q W => ∃ (x : Addr) (es : List D), ds = [.adr x, .tup es] ∧ G x = some (.ins C []) ∧ (∀ e ∈ es, ToldP e G) ∧ es.length ≤ 900 ∧ (∀ j : Nat, badPair es = some j → W CB [("part", .int (j : Int))] G) ∧
  ∀ (n : Nat) (ps : KvI), es = ps.map pairD → OkPs n ps → (¬ FitsK (addAll [] ps) → W CT [("most", .int BIG), ("what", .str "times")] G) ∧ (FitsK (addAll [] ps) → 60 < (addAll [] ps).length → W CT [("most", .int 60), ("what", .str "rows")] G) ∧
    (FitsK (addAll [] ps) → (addAll [] ps).length ≤ 60 → ∀ fs, .ins C fs = bagD C w (addAll [] ps) → Q .non (updG G x (.ins C fs)))
theorem dok_Bag___init__ (T : Top K mg) : RnD P w K mg base 64 T.a_Bag___init__ (starD 1 (initX T.C_Bag T.C_BadBag T.C_TooMany w)) := by
  have G_check_pairs := (dok_check_pairs (P := P) (w := w) (base := base) T).mono (k := 61) (by decide)
  have G_added_up := (dok_added_up (P := P) (w := w) (base := base) T).mono (k := 61) (by decide)
  have G_check_numbers := (dok_check_numbers (P := P) (w := w) (base := base) T).mono (k := 61) (by decide)
  have G_ordered_rows := (dok_ordered_rows (P := P) (w := w) (base := base) T).mono (k := 61) (by decide)
  refine dfnS (k := 63) (ps := ["self"]) (pv := "pairs") T.F_Bag___init__ scBag___init__ (fun _ _ _ _ _ _ us rest hl => match us, hl with | [_], _ => (match rest with | [] => rfl | _ :: _ => rfl)) (fun cdv A outer s H E B W hr tk => have hx := hx_of tk; ⟨_, (db_cons (ds_expr (de_call G_check_pairs (hr.mono (by decide)) (by rfl) T.g_check_pairs T.F_check_pairs.kp T.b_check_pairs hx (da_cons (dv 1) da_nil)))
  (db_cons (ds_set (i := 2) scBag___init__.nd rfl (.inr rfl) (de_call G_added_up (hr.mono (by decide)) (by rfl) T.g_added_up T.F_added_up.kp T.b_added_up hx (da_cons (dv 1) da_nil)))
  (db_cons (ds_expr (de_call G_check_numbers (hr.mono (by decide)) (by rfl) T.g_check_numbers T.F_check_numbers.kp T.b_check_numbers hx (da_cons (dv 2) da_nil)))
  (db_cons (ds_fld (C := T.C_Bag) T.na_Bag__pairs (dv 0) (de_callTy call_tuple_of tup_A (by rfl) T.z_tuple (by decide +kernel) (da_cons (de_lcF (own := [("row", 3)]) (gV := gName 3) finA_l rfl scBag___init__.nd (di_list (de_call G_ordered_rows (hr.mono (by decide)) (by rfl) T.g_ordered_rows T.F_ordered_rows.kp T.b_ordered_rows hx (da_cons (de_callTy (call_listN (by rfl)) listN_A (by rfl) T.z_list (by decide +kernel) (da_cons (dv 2) da_nil)) da_nil))) (blkOk_by (own := [("row", 3)]) (N := NBag___init__) (sc := defScope sBag___init__) (by decide +kernel)) (cg_name (i := 3) (by decide)) (fun _ _ _ _ _ => (pg_name (i := 3) scBag___init__.nd rfl (.inl rfl))) (fun _ _ _ _ _ _ => dts_nil) (fun _ _ _ _ _ _ => (de_tup (da_cons (dv 3) (da_cons (de_ngetW (w := w) rfl (Nat.lt_of_le_of_lt (Nat.add_le_add_left (by decide) _) (Room.units hr)) (dv 2) (dv 3) (fun _ _ => rfl)) da_nil))))) da_nil)))
  (db_one (ds_fld (C := T.C_Bag) T.na_Bag__numbers (dv 0) (dv 2))))))), fun ds G Q h => ?_⟩)
  obtain ⟨x, es, rfl, hx, ht, hl, q0, q1⟩ := h
  refine ⟨es, rfl, ht, fun hb => ?_, q0⟩
  obtain ⟨n, ps, rfl, hp⟩ := badPair_none hb
  obtain ⟨q2, q3, q4⟩ := q1 n ps rfl hp
  rw [List.length_map] at hl
  have lk : (addAll [] ps).length ≤ 900 := by
    have := len_addAll ps []
    rw [List.length_nil] at this
    omega
  have hok : ∀ r ∈ keys (addAll [] ps), OkR r := fun r hr => by
    rcases (keys_addAll ps []).mp hr with h | h
    · cases h
    · obtain ⟨p, hp', rfl⟩ := List.mem_map.mp h
      exact (hp p hp').1
  refine ⟨ps, rfl, hl, ?_⟩
  generalize hkv : addAll [] ps = kv at *
  refine ⟨kv, rfl, lk, q2, q3, fun fit l60 => ?_⟩
  have q := q4 fit l60
  have lo : (ordR 6 (keys kv)).length = kv.length := by rw [(ordR_perm 6 _).length_eq, keys_len]
  refine ⟨keys kv, by unfold rowsD; rw [kvD_rows], fun r hr => (hok r hr).2.2, by rw [keys_len]; omega, by rw [keys_len]; omega, ?_⟩
  refine ⟨by rw [List.length_map, lo, sizeLine_eq]; omega, ?_⟩
  refine lc_f0 rowT (fun r => pairD (r, cnt kv r)) (ordR 6 (keys kv)) [] (fun r hr N hN => ?_) ?_
  · show (match dlnD (.dln (rowH w) (kvD kv)) G, rowD? (rowT r) with | some (hf, kvs), some k => _ | _, _ => False)
    rw [rowD_T]
    refine ⟨rfl, ?_⟩
    rw [getR_in ((ordR_perm 6 _).mem_iff.mp hr)]
    exact ⟨by show 2 ≤ sizeLine; rw [sizeLine_eq]; decide, hN⟩
  · show (match G x with | some (.ins C' fs) => _ | _ => False)
    rw [hx]
    refine ⟨rfl, by decide, ?_⟩
    show (match updG G x _ x with | some (.ins C' fs) => _ | _ => False)
    rw [updG_same]
    refine ⟨rfl, (by show 1 < 1000; decide), ?_⟩
    rw [updG_updG]
    exact q _ (by unfold bagD; rw [List.map_map]; rfl)
end
section
variable {P : Program} {w : World} {K : PySem.W.Frag} {mg : Str → Option Value} {base : Heap}
theorem vok_Bag___len__ (T : Top K mg) : FnOk P w K mg base CX0 (2 + 1) T.a_Bag___len__ T.d_Bag___len__ ["self"] (spLenO K T.C_Bag "_pairs") := by
  refine T.F_Bag___len__.ok scBag___len__ (fun vs H Q E h => ?_) (fun cdv A outer s H vs Q E hr h => ?_)
  · obtain ⟨a, dx, fs, t, xs, rfl, _⟩ := h
    rfl
  · obtain ⟨a, dx, fs, t, xs, rfl, ha, hf, ht, hl, q⟩ := h
    refine ⟨_, (pss_one (ps_ret (pe_callB call_len_seq (by rfl) T.z_len (by decide +kernel) (pa_cons (pe_fld (pv 0) rfl) pa_nil)))), ?_⟩
    exact ⟨.ref a, rfl, a, T.C_Bag, dx, fs, .ref t, rfl, ha, T.cl_Bag, T.na_Bag__pairs, hf, t, xs, rfl, .inr ht, q⟩
theorem vok_Bag___iter__ (T : Top K mg) : FnOk P w K mg base CX0 (2 + 1) T.a_Bag___iter__ T.d_Bag___iter__ ["self"] (spIterO K T.C_Bag "_pairs") := by
  refine T.F_Bag___iter__.ok scBag___iter__ (fun vs H Q E h => ?_) (fun cdv A outer s H vs Q E hr h => ?_)
  · obtain ⟨a, dx, fs, t, xs, rfl, _⟩ := h
    rfl
  · obtain ⟨a, dx, fs, t, xs, rfl, ha, hf, ht, q⟩ := h
    refine ⟨_, (pss_one (ps_ret (pe_callB call_iterT (by rfl) T.z_iter (by decide +kernel) (pa_cons (pe_fld (pv 0) rfl) pa_nil)))), ?_⟩
    exact ⟨.ref a, rfl, a, T.C_Bag, dx, fs, .ref t, rfl, ha, T.cl_Bag, T.na_Bag__pairs, hf, t, xs, rfl, ht, q⟩
theorem vis_Bag___iter__ (T : Top K mg) : IterS P w K mg base T.C_Bag "_pairs" 3 T.a_Bag___iter__ := by
  obtain ⟨oc, od, kV, doc, pm, an, cdv, ct, osl, ed, lk, hcd⟩ := T.F_Bag___iter__.ex
  have hb := T.b_Bag___iter__
  rw [ed] at hb lk
  intro A outer s H us vs Q E hr e0 r h
  obtain ⟨u, rfl⟩ : ∃ u, us = [u] := by
    obtain ⟨a, dx, fs, t, xs, rfl, _⟩ := h
    obtain ⟨u, rfl, _⟩ := vals1 r
    exact ⟨u, rfl⟩
  have b1 := hb s [u] (e0.mod.kin.keeps fun c q z => (e0.bs c q z).1) rfl
  rw [List.append_nil] at b1
  have hl : vs.length = ["self"].length := r.length
  refine fnS (k := 2) (sp := spIterS K T.C_Bag "_pairs") lk hcd scBag___iter__ (fun A outer s H vs Q E hr h => ?_) hr e0 b1 r hl h
  obtain ⟨a, dx, fs, t, xs, rfl, ha, hf, ht, q⟩ := h
  refine ⟨_, (pss_one (ps_ret (pe_callB call_iterTN (by rfl) T.z_iter (by decide +kernel) (pa_cons (pe_fld (pv 0) rfl) pa_nil)))), ?_⟩
  exact ⟨.ref a, rfl, a, T.C_Bag, dx, fs, .ref t, rfl, ha, T.cl_Bag, T.na_Bag__pairs, hf, t, xs, rfl, ht, q⟩
theorem dok_Bag___len__ (T : Top K mg) : FnD P w K mg base 3 T.a_Bag___len__ T.d_Bag___len__ ["self"] (lenOS T.C_Bag "_pairs") := lenO_of (vok_Bag___len__ T)
/-- a bag of rows of L of width n -/
structure BagK (n : Nat) (L : List Row) (kv : KvI) : Prop where
  nd : (keys kv).Nodup
  row : ∀ r ∈ keys kv, OkR r ∧ r.length = n ∧ r ∈ L
  num : ∀ r ∈ keys kv, 1 ≤ cnt kv r ∧ cnt kv r ≤ BIG
  len : kv.length ≤ 60
def ordK (kv : KvI) : List Row := ordR 6 (keys kv)
theorem ordK_mem {kv : KvI} {r : Row} : r ∈ ordK kv ↔ r ∈ keys kv := (ordR_perm 6 _).mem_iff
theorem ordK_len {kv : KvI} : (ordK kv).length = kv.length := by unfold ordK; rw [(ordR_perm 6 _).length_eq, keys_len]
def psK (kv : KvI) : KvI := (ordK kv).map fun r => (r, cnt kv r)
theorem psK_len {kv : KvI} : (psK kv).length = kv.length := by unfold psK; rw [List.length_map, ordK_len]
theorem psK_mem {kv : KvI} {p : Row × Int} (h : p ∈ psK kv) : p.1 ∈ keys kv ∧ p.2 = cnt kv p.1 := by
  obtain ⟨r, hr, rfl⟩ := List.mem_map.mp h
  exact ⟨ordK_mem.mp hr, rfl⟩
theorem keys_psK {kv : KvI} : keys (psK kv) = ordK kv := by
  unfold keys psK
  rw [List.map_map]
  exact List.map_id _
theorem nodup_ordK {kv : KvI} (h : (keys kv).Nodup) : (ordK kv).Nodup := (ordR_perm 6 _).nodup_iff.mpr h
theorem bagD_eq {C : Addr} {kv : KvI} : bagD C w kv = .ins C [("_pairs", .tup ((psK kv).map pairD)), ("_numbers", .dln (rowH w) (kvD kv))] := rfl
theorem BagK.cnt_pos {n : Nat} {L : List Row} {kv : KvI} (h : BagK n L kv) (r : Row) : 0 ≤ cnt kv r ∧ cnt kv r ≤ BIG := by
  by_cases e : r ∈ keys kv
  · have := h.num r e
    exact ⟨by omega, this.2⟩
  · rw [cnt_none e]
    exact ⟨Int.le_refl _, by decide⟩
theorem BagK.mem_iff {n : Nat} {L : List Row} {kv : KvI} (h : BagK n L kv) {r : Row} : r ∈ keys kv ↔ cnt kv r ≠ 0 := by
  by_cases e : r ∈ keys kv
  · have := h.num r e
    exact ⟨fun _ => by omega, fun _ => e⟩
  · exact ⟨fun z => absurd z e, fun z => absurd (cnt_none e) z⟩
theorem BagK.wd {n : Nat} {L : List Row} {kv : KvI} (h : BagK n L kv) : Wd n (keys kv) := fun r hr => ⟨(h.row r hr).1.2.2, (h.row r hr).2.1⟩
/-- the same numbers, the same pairs -/
theorem psK_same {n : Nat} {L L' : List Row} {kv kv' : KvI} (h : BagK n L kv) (h' : BagK n L' kv') : psK kv = psK kv' ↔ ∀ r, cnt kv r = cnt kv' r := by
  constructor
  · intro e r
    have ek : ordK kv = ordK kv' := by rw [← keys_psK, ← keys_psK, e]
    have em : r ∈ keys kv ↔ r ∈ keys kv' := by rw [← ordK_mem, ← ordK_mem, ek]
    by_cases c : r ∈ keys kv
    · have m1 : (r, cnt kv r) ∈ psK kv := List.mem_map.mpr ⟨r, ordK_mem.mpr c, rfl⟩
      rw [e] at m1
      exact (psK_mem m1).2
    · rw [cnt_none c, cnt_none (fun z => c (em.mpr z))]
  · intro e
    have ek : ordK kv = ordK kv' := by
      refine ordR_same h.wd h'.wd ?_ ?_ h.nd h'.nd fun r => ?_
      · have := h.len
        rw [keys_len]; omega
      · have := h'.len
        rw [keys_len]; omega
      · rw [h.mem_iff, h'.mem_iff, e r]
    unfold psK
    rw [ek]
    exact List.map_congr_left fun r _ => by rw [e r]
/-- how often, whatever is asked -/
inductive oftenX (C : Addr) (w : World) (ds : List D) (G : Gm) (Q : QD) (W : WD) : Prop
  | mk (kv : KvI) (d : D) (e : ds = [bagD C w kv, d]) (ht : ToldT d G) (q0 : ∀ r, d = rowT r → OkR r → Q (.int (cnt kv r)) G) (q1 : isRow d = false → Q (.int 0) G)
theorem dok_Bag_often (T : Top K mg) : FnD P w K mg base 16 T.a_Bag_often T.d_Bag_often ["self", "row"] (oftenX T.C_Bag w) := by
  have G_is_row := (dok_is_row (P := P) (w := w) (base := base) T).mono (k := 13) (by decide)
  refine dfn (k := 15) T.F_Bag_often scBag_often (fun ds G Q W h => ?_) (fun cdv A outer s H E B W hr tk => have hx := hx_of tk; ⟨_, (db_one (ds_ret (de_if (dt_val (de_call G_is_row (hr.mono (by decide)) (by rfl) T.g_is_row T.F_is_row.kp T.b_is_row hx (da_cons (dv 1) da_nil))) (de_nget2W (w := w) rfl (Nat.lt_of_le_of_lt (Nat.add_le_add_left (by decide) _) (Room.units hr)) (de_fld (dv 0)) (dv 1) de_int ⟨rfl, rfl, rfl, rfl⟩) de_int))), fun ds G Q h => ?_⟩)
  · obtain ⟨_, _, rfl, _⟩ := h
    rfl
  · obtain ⟨kv, d, rfl, ht, q0, q1⟩ := h
    refine ⟨d, rfl, ht, ?_⟩
    cases hr : isRow d with
    | false => exact q1 hr
    | true =>
      obtain ⟨r, rfl, ho⟩ := isRow_some hr
      refine ⟨rfl, rfl, ?_⟩
      show (match dlnD (.dln (rowH w) (kvD kv)) G, rowD? (rowT r) with | some (hf, kvs), some k => _ | _, _ => False)
      rw [rowD_T]
      refine ⟨rfl, ?_⟩
      rw [getR_getD]
      exact q0 r rfl ho
theorem often_row {C : Addr} {kv : KvI} {r : Row} {G : Gm} {Q : QD} {W : WD} (ho : OkR r) (q : Q (.int (cnt kv r)) G) : oftenX C w [bagD C w kv, rowT r] G Q W :=
  ⟨kv, rowT r, rfl, toldT_row ho, fun r' e _ => by
    have := rowD_T r
    rw [e, rowD_T r'] at this
    rw [Option.some.inj this]
    exact q, fun z => absurd (isRow_T ho) (by rw [z]; decide)⟩
def widthX (C : Addr) (w : World) : SpD := fun ds G Q _ => ∃ (n : Nat) (L : List Row) (kv : KvI), ds = [bagD C w kv] ∧ BagK n L kv ∧ (kv = [] → Q .non G) ∧ (kv ≠ [] → Q (.int (n : Int)) G)
theorem dok_Bag_width (T : Top K mg) : FnD P w K mg base 4 T.a_Bag_width T.d_Bag_width ["self"] (widthX T.C_Bag w) := by
  refine dfn (k := 3) T.F_Bag_width scBag_width (fun ds G Q W h => ?_) (fun cdv A outer s H E B W hr tk => have hx := hx_of tk; ⟨_, (db_one (ds_ret (de_if (dt_truT (de_fld (dv 0))) (de_callB call_len2 len_A (by rfl) T.z_len (by decide +kernel) (da_cons (de_ix ix_seq ix_A (de_ix ix_seq ix_A (de_fld (dv 0)) de_int (fun _ _ => rfl)) de_int (fun _ _ => rfl)) da_nil)) de_non))), fun ds G Q h => ?_⟩)
  · obtain ⟨_, _, _, rfl, _⟩ := h
    rfl
  · obtain ⟨n, L, kv, rfl, hk, q0, q1⟩ := h
    cases hp : psK kv with
    | nil =>
      have := psK_len (kv := kv)
      rw [hp] at this
      have hn := List.length_eq_zero_iff.mp this.symm
      subst hn
      exact q0 rfl
    | cons p ps =>
      have hm := psK_mem (kv := kv) (p := p) (by rw [hp]; exact List.mem_cons_self)
      rw [bagD_eq, hp]
      have e0 : atI ((p :: ps).map pairD) 0 = some (pairD p) := atI_nat (j := 0) rfl
      show (match atI ((p :: ps).map pairD) 0 with | some d => _ | none => False)
      rw [e0]
      show Q (.int ((p.1.map lD).length : Int)) G
      rw [List.length_map, (hk.row _ hm.1).2.1]
      exact q1 (fun z => by rw [z] at hp; cases hp)
/-- of how many rows, all told -/
def wholeX (C : Addr) (w : World) : SpD := fun ds G Q _ => ∃ kv : KvI, ds = [bagD C w kv] ∧ kv.length ≤ 60 ∧ Q (.int ((psK kv).map (·.2)).sum) G
theorem dok_Bag_whole (T : Top K mg) : FnD P w K mg base 4 T.a_Bag_whole T.d_Bag_whole ["self"] (wholeX T.C_Bag w) := by
  refine dfn (k := 3) T.F_Bag_whole scBag_whole (fun ds G Q W h => ?_) (fun cdv A outer s H E B W hr tk => have hx := hx_of tk; ⟨_, (db_one (ds_ret (de_callB (cr_sum rfl) sum_A (by rfl) T.z_sum (by decide +kernel) (da_cons (de_lcF (own := [("_", 1), ("times", 2)]) (gV := gTup K 2 (gCons (gName 1) (gCons (gName 2) (gNil)))) finA_l rfl scBag_whole.nd (di_tup (de_fld (dv 0))) (blkOk_by (own := [("_", 1), ("times", 2)]) (N := NBag_whole) (sc := defScope sBag_whole) (by decide +kernel)) (cg_tup (cg_cons (cg_name (i := 1) (by decide)) (cg_cons (cg_name (i := 2) (by decide)) cg_nil))) (fun _ _ _ _ _ => (pg_tup (by rfl) (pgs_cons (pg_name (i := 1) scBag_whole.nd rfl (.inl rfl)) (pgs_cons (pg_name (i := 2) scBag_whole.nd rfl (.inl rfl)) pgs_nil)))) (fun _ _ _ _ _ _ => dts_nil) (fun _ _ _ _ _ _ => (dv 2))) da_nil)))), fun ds G Q h => ?_⟩)
  · obtain ⟨_, rfl, _⟩ := h
    rfl
  · obtain ⟨kv, rfl, hl, q⟩ := h
    have l60 : ((psK kv).map pairD).length < sizeLine := by
      rw [List.length_map, psK_len, sizeLine_eq]; omega
    refine ⟨l60, ?_⟩
    refine lc_f0 pairD (fun p => .int p.2) (psK kv) [] (fun p hp N hN => ⟨rfl, hN⟩) ?_
    refine ⟨(psK kv).map (·.2), by rw [List.map_map]; rfl, ?_⟩
    exact q
end
section
variable {P : Program} {w : World} {K : PySem.W.Frag} {mg : Str → Option Value} {base : Heap}
theorem nodup_sub_len {α : Type} [DecidableEq α] : ∀ {a b : List α}, a.Nodup → (∀ x ∈ a, x ∈ b) → a.length ≤ b.length
  | [], _, _, _ => Nat.zero_le _
  | x :: a, b, n, h => by
    have n' := List.nodup_cons.mp n
    have := nodup_sub_len (a := a) (b := b.erase x) n'.2 fun y hy => (List.mem_erase_of_ne (fun e => n'.1 (by rw [← e]; exact hy))).mpr (h y (List.mem_cons_of_mem _ hy))
    rw [List.length_erase_of_mem (h x List.mem_cons_self)] at this
    have hb : 0 < b.length := List.length_pos_of_mem (h x List.mem_cons_self)
    rw [List.length_cons]
    omega
/-- of no own kind: known not to be a bag -/
def OddK (K : PySem.W.Frag) (C : Addr) (e : D) : Prop := ∃ k : Ki, kiD e = some k ∧ PySem.W.kitOne K (.type k.name) (.ref C) = some false ∧ PySem.W.notFirst K C (.type k.name) = true
theorem OddK.ty {C : Addr} {e : D} {G : Gm} (h : OddK K C e) : ∃ t, TyD K e G t ∧ PySem.W.kitOne K t (.ref C) = some false ∧ PySem.W.notFirst K C t = true := by
  obtain ⟨k, h1, h2, h3⟩ := h
  exact ⟨_, .ki h1, h2, h3⟩
/-- what check_other does -/
inductive chkX (K : PySem.W.Frag) (C CX : Addr) (w : World) (ds : List D) (G : Gm) (Q : QD) (W : WD) : Prop
  | bag (n n' : Nat) (L L' : List Row) (kv kv' : KvI) (e : ds = [bagD C w kv, bagD C w kv']) (hk : BagK n L kv) (hk' : BagK n' L' kv') (hn : kv ≠ [] → kv' ≠ [] → n = n') (q : Q .non G)
  | odd (kv : KvI) (x : D) (e : ds = [bagD C w kv, x]) (ho : OddK K C x) (q : W CX [("part", .str "other")] G)
  | wide (n n' : Nat) (L L' : List Row) (kv kv' : KvI) (e : ds = [bagD C w kv, bagD C w kv']) (hk : BagK n L kv) (hk' : BagK n' L' kv') (hn : n ≠ n') (h1 : kv ≠ []) (h2 : kv' ≠ []) (q : W CX [("part", .str "width")] G)
theorem dok_check_other (T : Top K mg) : FnD P w K mg base 9 T.a_check_other T.d_check_other ["bag", "other"] (chkX K T.C_Bag T.C_BadBag w) := by
  have G_BadBag___init__ := (vok_BadBag___init__ (P := P) (w := w) (base := base) T).mono (k := 6) (by decide)
  have G_Bag___len__ := (dok_Bag___len__ (P := P) (w := w) (base := base) T).mono (k := 6) (by decide)
  have G_Bag_width := (dok_Bag_width (P := P) (w := w) (base := base) T).mono (k := 6) (by decide)
  refine dfn (k := 8) T.F_check_other sccheck_other (fun ds G Q W h => ?_) (fun cdv A outer s H E B W hr tk => have hx := hx_of tk; ⟨_, (db_cons (ds_if (dt_not (dt_val (de_isCK (K := K) (C := T.C_Bag) rfl (by rfl) T.z_isinstance (by decide +kernel) (dv 1) (pe_glob rfl T.g_Bag rfl))))
    (db_one (ds_raise1F rfl tk T.ox_BadBag T.ic_BadBag T.ti_BadBag G_BadBag___init__ (hr.mono (by decide)) T.b_BadBag___init__ rfl T.g_BadBag (da_cons de_str da_nil)))
    db_nil)
  (db_one (ds_if (dw_pt (dw_and (dt_cmp op_gt gt_A (de_lenO T.om_Bag___len__ G_Bag___len__ T.b_Bag___len__ (hr.mono (by decide)) hx (by rfl) T.z_len (by decide +kernel) (da_cons (dv 0) da_nil)) de_int (nomark _)) (dw_and (dt_cmp op_gt gt_A (de_lenO T.om_Bag___len__ G_Bag___len__ T.b_Bag___len__ (hr.mono (by decide)) hx (by rfl) T.z_len (by decide +kernel) (da_cons (dv 1) da_nil)) de_int (nomark _)) (dw_and1 (dt_cmp (op_neD (Room.units hr)) neI_A (de_prop (dv 0) T.cl_Bag T.pr_Bag_width G_Bag_width (hr.mono (by decide)) T.b_Bag_width) (de_prop (dv 1) T.cl_Bag T.pr_Bag_width G_Bag_width (hr.mono (by decide)) T.b_Bag_width) (nomark _))))))
    (db_one (ds_raise1F rfl tk T.ox_BadBag T.ic_BadBag T.ti_BadBag G_BadBag___init__ (hr.mono (by decide)) T.b_BadBag___init__ rfl T.g_BadBag (da_cons de_str da_nil)))
    db_nil))), fun ds G Q h => ?_⟩)
  · rcases h with ⟨_, _, _, _, _, _, rfl, _⟩ | ⟨_, _, rfl, _⟩ | ⟨_, _, _, _, _, _, rfl, _⟩ <;> rfl
  · have sl : ∀ {n : Nat} {L : List Row} {kv : KvI}, BagK n L kv → ((psK kv).map pairD).length ≤ sizeLine := fun hk => by
      rw [List.length_map, psK_len, sizeLine_eq]
      have := hk.len
      omega
    have s62 : ∀ {n : Nat} {L : List Row} {kv : KvI}, BagK n L kv → (((psK kv).map pairD).length : Int) < 2 ^ 63 := fun hk => by
      rw [List.length_map, psK_len]
      have := hk.len
      omega
    rcases h with ⟨n, n', L, L', kv, kv', rfl, hk, hk', hn, q⟩ | ⟨kv, x, rfl, ho, q⟩ | ⟨n, n', L, L', kv, kv', rfl, hk, hk', hn, h1, h2, q⟩
    · refine ⟨.ref T.C_Bag, true, .ins rfl, T.ki_Bag, ?_⟩
      refine ⟨rfl, _, (psK kv).map pairD, rfl, rfl, sl hk, ⟨Int.natCast_nonneg _, s62 hk⟩, ?_⟩
      rw [List.length_map, psK_len]
      show (match decide ((0 : Int) < (kv.length : Int)) with | true => _ | false => _)
      by_cases h1 : kv = []
      · subst h1
        exact q
      · have p1 : 0 < kv.length := List.length_pos_iff.mpr h1
        rw [decide_eq_true (show (0 : Int) < (kv.length : Int) by omega)]
        refine ⟨rfl, _, (psK kv').map pairD, rfl, rfl, sl hk', ⟨Int.natCast_nonneg _, s62 hk'⟩, ?_⟩
        rw [List.length_map, psK_len]
        show (match decide ((0 : Int) < (kv'.length : Int)) with | true => _ | false => _)
        by_cases h2 : kv' = []
        · subst h2
          exact q
        · have p2 : 0 < kv'.length := List.length_pos_iff.mpr h2
          rw [decide_eq_true (show (0 : Int) < (kv'.length : Int) by omega)]
          refine ⟨rfl, n, L, kv, rfl, hk, fun z => absurd z h1, fun _ => ?_⟩
          refine ⟨rfl, n', L', kv', rfl, hk', fun z => absurd z h2, fun _ => ?_⟩
          refine ⟨pl_int, pl_int, ?_⟩
          rw [eqvD_int, hn h1 h2, decide_eq_true rfl]
          exact q
    · obtain ⟨t, ty, kt, _⟩ := ho.ty (G := G)
      refine ⟨t, false, ty, kt, ?_⟩
      exact ⟨rfl, q⟩
    · have p1 : 0 < kv.length := List.length_pos_iff.mpr h1
      have p2 : 0 < kv'.length := List.length_pos_iff.mpr h2
      refine ⟨.ref T.C_Bag, true, .ins rfl, T.ki_Bag, ?_⟩
      refine ⟨rfl, _, (psK kv).map pairD, rfl, rfl, sl hk, ⟨Int.natCast_nonneg _, s62 hk⟩, ?_⟩
      rw [List.length_map, psK_len]
      show (match decide ((0 : Int) < (kv.length : Int)) with | true => _ | false => _)
      rw [decide_eq_true (show (0 : Int) < (kv.length : Int) by omega)]
      refine ⟨rfl, _, (psK kv').map pairD, rfl, rfl, sl hk', ⟨Int.natCast_nonneg _, s62 hk'⟩, ?_⟩
      rw [List.length_map, psK_len]
      show (match decide ((0 : Int) < (kv'.length : Int)) with | true => _ | false => _)
      rw [decide_eq_true (show (0 : Int) < (kv'.length : Int) by omega)]
      refine ⟨rfl, n, L, kv, rfl, hk, fun z => absurd z h1, fun _ => ?_⟩
      refine ⟨rfl, n', L', kv', rfl, hk', fun z => absurd z h2, fun _ => ?_⟩
      refine ⟨pl_int, pl_int, ?_⟩
      rw [eqvD_int, decide_eq_false (by omega)]
      exact ⟨rfl, q⟩
def keysN (kvs : KvN) : List Row := kvs.map (·.1)
theorem getR_some {kvs : KvN} {k : Row} : (getR kvs k).isSome = true ↔ k ∈ keysN kvs := by
  unfold getR keysN
  rw [Option.isSome_map, List.find?_isSome, List.mem_map]
  exact ⟨fun ⟨p, hp, e⟩ => ⟨p, hp, of_decide_eq_true e⟩, fun ⟨p, hp, e⟩ => ⟨p, hp, decide_eq_true e⟩⟩
theorem keysN_put {kvs : KvN} {k : Row} {d : D} : keysN (putR kvs k d) = if k ∈ keysN kvs then keysN kvs else keysN kvs ++ [k] := by
  unfold putR
  by_cases h : (getR kvs k).isSome = true
  · rw [if_pos h, if_pos (getR_some.mp h)]
    unfold keysN
    rw [List.map_map]
    refine List.map_congr_left fun p _ => ?_
    show (if p.1 = k then (p.1, d) else p).1 = p.1
    by_cases e : p.1 = k
    · rw [if_pos e]
    · rw [if_neg e]
  · rw [if_neg h, if_neg (fun z => h (getR_some.mpr z))]
    unfold keysN
    rw [List.map_append]
    rfl
theorem mem_keysN_put {kvs : KvN} {k r : Row} {d : D} : r ∈ keysN (putR kvs k d) ↔ r = k ∨ r ∈ keysN kvs := by
  rw [keysN_put]
  by_cases e : k ∈ keysN kvs
  · rw [if_pos e]
    exact ⟨.inr, fun h => h.elim (fun z => z ▸ e) id⟩
  · rw [if_neg e, List.mem_append, List.mem_singleton]
    exact ⟨fun h => h.symm, fun h => h.symm⟩
theorem nodupN_put {kvs : KvN} {k : Row} {d : D} (h : (keysN kvs).Nodup) : (keysN (putR kvs k d)).Nodup := by
  rw [keysN_put]
  by_cases e : k ∈ keysN kvs
  · rw [if_pos e]; exact h
  · rw [if_neg e]
    refine List.nodup_append.mpr ⟨h, List.nodup_cons.mpr ⟨by simp, List.nodup_nil⟩, fun a ha b hb => ?_⟩
    rw [List.mem_singleton.mp hb]
    exact fun z => e (z ▸ ha)
def rowsOfD (C : Addr) (w : World) : SpD := fun ds G Q _ => ∃ (n : Nat) (L L' : List Row) (kv kv' : KvI), ds = [bagD C w kv, bagD C w kv'] ∧ BagK n L kv ∧ BagK n L' kv' ∧
  ∀ us : List Row, us.Nodup → (∀ r, r ∈ us ↔ r ∈ keys kv ∨ r ∈ keys kv') → Q (rowsD us) G
theorem dok_rows_of (T : Top K mg) : FnD P w K mg base 12 T.a_rows_of T.d_rows_of ["one", "other"] (rowsOfD T.C_Bag w) := by
  have V_Bag___iter__ := (vok_Bag___iter__ (P := P) (w := w) (base := base) T).mono (k := 9) (by decide)
  have V_Bag___len__ := (vok_Bag___len__ (P := P) (w := w) (base := base) T).mono (k := 9) (by decide)
  refine dfn (k := 11) T.F_rows_of scrows_of (fun ds G Q W h => ?_) (fun cdv A outer s H E B W hr tk => have hx := hx_of tk; ⟨_, (db_one (ds_ret (de_callTy (call_listN (by rfl)) listN_A (by rfl) T.z_list (by decide +kernel) (da_cons (de_dcN (own := [("row", 2), ("_", 3)]) (gV := gTup K 2 (gCons (gName 2) (gCons (gName 3) (gNil)))) (Nat.lt_of_le_of_lt (Nat.add_le_add_left (by decide) _) (Room.units hr)) rfl scrows_of.nd (di_list (de_lst (da_starO (by rfl) T.so_Bag V_Bag___iter__ T.b_Bag___iter__ V_Bag___len__ T.b_Bag___len__ (hr.mono (by decide)) (hr.mono (by decide)) (dv 0) (da_starO (by rfl) T.so_Bag V_Bag___iter__ T.b_Bag___iter__ V_Bag___len__ T.b_Bag___len__ (hr.mono (by decide)) (hr.mono (by decide)) (dv 1) da_nil)))) (blkOk_by (own := [("row", 2), ("_", 3)]) (N := Nrows_of) (sc := defScope srows_of) (by decide +kernel)) (cg_tup (cg_cons (cg_name (i := 2) (by decide)) (cg_cons (cg_name (i := 3) (by decide)) cg_nil))) (fun _ _ _ _ _ => (pg_tup (by rfl) (pgs_cons (pg_name (i := 2) scrows_of.nd rfl (.inl rfl)) (pgs_cons (pg_name (i := 3) scrows_of.nd rfl (.inl rfl)) pgs_nil)))) (fun _ _ _ _ _ _ => dts_nil) (fun _ _ _ _ _ _ => (dv 2)) (fun _ _ _ _ _ _ => de_bl)) da_nil)))), fun ds G Q h => ?_⟩)
  · obtain ⟨_, _, _, _, _, rfl, _⟩ := h
    rfl
  · obtain ⟨n, L, L', kv, kv', rfl, hk, hk', q⟩ := h
    have sl : ∀ {L : List Row} {kv : KvI}, BagK n L kv → ((psK kv).map pairD).length ≤ 60 := fun hk => by
      rw [List.length_map, psK_len]
      exact hk.len
    have b1 := sl hk
    have b2 := sl hk'
    have el : ((psK kv).map pairD ++ ((psK kv').map pairD ++ [])).length ≤ 120 := by
      rw [List.append_nil, List.length_append]
      omega
    refine ⟨rfl, (psK kv).map pairD, rfl, by rw [sizeLine_eq]; omega, rfl, (psK kv').map pairD, rfl, by rw [sizeLine_eq]; omega, by rw [sizeLine_eq]; omega, by omega, ?_⟩
    rw [List.append_nil, ← List.map_append]
    refine (fun (key : ∀ (rest : KvI) (acc : KvN), (keysN acc).Nodup → (∀ us : List Row, us.Nodup → (∀ r, r ∈ us ↔ r ∈ keysN acc ∨ r ∈ keys rest) → Q (rowsD us) G) → dcN _ _ _ _ _ _ (rest.map pairD) acc G) => key (psK kv ++ psK kv') [] List.nodup_nil fun us nu hu => q us nu fun r => ?_) ?_
    · rw [hu r]
      have e : keys (psK kv ++ psK kv') = ordK kv ++ ordK kv' := by
        have : keys (psK kv ++ psK kv') = keys (psK kv) ++ keys (psK kv') := List.map_append
        rw [this, keys_psK, keys_psK]
      rw [e, List.mem_append, ordK_mem, ordK_mem]
      exact ⟨fun h => h.elim (fun z => by cases z) id, .inr⟩
    · intro rest
      induction rest with
      | nil =>
        intro acc nd q
        have := q (keysN acc) nd fun r => ⟨.inl, fun h => h.elim id fun z => by cases z⟩
        have e : acc.map (fun q => rowT q.1) = (keysN acc).map rowT := by unfold keysN; rw [List.map_map]; rfl
        show Q (.lst (acc.map fun q => rowT q.1)) G
        rw [e]
        exact this
      | cons p rest ih =>
        intro acc nd q
        refine ⟨rfl, p.1, rowD_T p.1, ih _ (nodupN_put nd) fun us nu hu => q us nu fun r => ?_⟩
        rw [hu r, mem_keysN_put]
        have e : r ∈ keys (p :: rest) ↔ r = p.1 ∨ r ∈ keys rest := List.mem_cons
        rw [e]
        constructor
        · rintro ((h | h) | h)
          · exact .inr (.inl h)
          · exact .inl h
          · exact .inr (.inr h)
        · rintro (h | h | h)
          · exact .inl (.inr h)
          · exact .inl (.inl h)
          · exact .inr h
end
section
variable {P : Program} {w : World} {K : PySem.W.Frag} {mg : Str → Option Value} {base : Heap}
theorem tot_nodup {r : Row} : ∀ {ps : KvI}, (keys ps).Nodup → tot ps r = cnt ps r
  | [], _ => rfl
  | p :: ps, h => by
    have n' := List.nodup_cons.mp (show (p.1 :: keys ps).Nodup from h)
    have ih := tot_nodup (r := r) n'.2
    show (if r = p.1 then p.2 else 0) + tot ps r = _
    rw [ih]
    by_cases e : r = p.1
    · have := cnt_none (kv := ps) (r := r) (by rw [e]; exact n'.1)
      rw [if_pos e, this, Int.add_zero]
      unfold cnt getI
      rw [List.find?_cons, decide_eq_true e.symm]
      rfl
    · rw [if_neg e, Int.zero_add]
      unfold cnt getI
      rw [List.find?_cons, decide_eq_false (Ne.symm e)]
/-- those that stand -/
def stand (c : Row → Int) (acc : KvI) (rs : List Row) : KvI := rs.foldl (fun a r => if 0 < c r then putI a r (c r) else a) acc
theorem stand_nodup {c : Row → Int} : ∀ (rs : List Row) (acc : KvI), (keys acc).Nodup → (keys (stand c acc rs)).Nodup
  | [], _, h => h
  | r :: rs, acc, h => by
    show (keys (stand c (if 0 < c r then putI acc r (c r) else acc) rs)).Nodup
    by_cases e : 0 < c r
    · rw [if_pos e]; exact stand_nodup rs _ (nodup_put h)
    · rw [if_neg e]; exact stand_nodup rs _ h
theorem stand_keys {c : Row → Int} {s : Row} : ∀ (rs : List Row) (acc : KvI), s ∈ keys (stand c acc rs) ↔ s ∈ keys acc ∨ (s ∈ rs ∧ 0 < c s)
  | [], acc => by simp [stand]
  | r :: rs, acc => by
    show s ∈ keys (stand c (if 0 < c r then putI acc r (c r) else acc) rs) ↔ _
    rw [stand_keys rs, List.mem_cons]
    by_cases e : 0 < c r
    · rw [if_pos e, mem_keys_put]
      constructor
      · rintro ((h | h) | h)
        · exact .inr ⟨.inl h, h ▸ e⟩
        · exact .inl h
        · exact .inr ⟨.inr h.1, h.2⟩
      · rintro (h | ⟨h | h, h2⟩)
        · exact .inl (.inr h)
        · exact .inl (.inl h)
        · exact .inr ⟨h, h2⟩
    · rw [if_neg e]
      constructor
      · rintro (h | h)
        · exact .inl h
        · exact .inr ⟨.inr h.1, h.2⟩
      · rintro (h | ⟨h | h, h2⟩)
        · exact .inl h
        · exact absurd (h ▸ h2) e
        · exact .inr ⟨h, h2⟩
theorem stand_cnt {c : Row → Int} {s : Row} : ∀ (rs : List Row) (acc : KvI), cnt (stand c acc rs) s = if s ∈ rs ∧ 0 < c s then c s else cnt acc s
  | [], acc => by simp [stand]
  | r :: rs, acc => by
    show cnt (stand c (if 0 < c r then putI acc r (c r) else acc) rs) s = _
    rw [stand_cnt rs]
    by_cases h : s ∈ rs ∧ 0 < c s
    · rw [if_pos h, if_pos ⟨List.mem_cons_of_mem _ h.1, h.2⟩]
    · rw [if_neg h]
      by_cases e : 0 < c r
      · rw [if_pos e, cnt_put]
        by_cases e2 : s = r
        · rw [if_pos e2, if_pos ⟨by rw [e2]; exact List.mem_cons_self, by rw [e2]; exact e⟩, e2]
        · rw [if_neg e2, if_neg (fun z => h ⟨(List.mem_cons.mp z.1).resolve_left e2, z.2⟩)]
      · rw [if_neg e, if_neg (fun z => by
          rcases List.mem_cons.mp z.1 with q | q
          · exact e (q ▸ z.2)
          · exact h ⟨q, z.2⟩)]
def pairsOf (kv : KvI) : KvI := (keys kv).map fun r => (r, cnt kv r)
theorem pairsOf_keys {kv : KvI} : keys (pairsOf kv) = keys kv := by
  unfold pairsOf keys
  rw [List.map_map]
  exact (List.map_congr_left fun p _ => rfl : List.map ((fun x => x.fst) ∘ fun r => (r, cnt kv r)) (List.map (fun x => x.fst) kv) = List.map id (List.map (fun x => x.fst) kv)).trans (List.map_id _)
theorem pairsOf_cnt {kv : KvI} (h : (keys kv).Nodup) (r : Row) : cnt (pairsOf kv) r = cnt kv r := by
  by_cases e : r ∈ keys kv
  · have m : (r, cnt kv r) ∈ pairsOf kv := List.mem_map.mpr ⟨r, e, rfl⟩
    exact cnt_mem (by rw [pairsOf_keys]; exact h) m
  · rw [cnt_none e, cnt_none (by rw [pairsOf_keys]; exact e)]
theorem rowT_inj {a b : Row} (e : rowT a = rowT b) : a = b := by
  have := rowD_T a
  rw [e, rowD_T b] at this
  exact (Option.some.inj this).symm
theorem pairD_inj : ∀ {ps qs : KvI}, ps.map pairD = qs.map pairD → ps = qs
  | [], [], _ => rfl
  | [], _ :: _, e => by cases e
  | _ :: _, [], e => by cases e
  | p :: ps, q :: qs, e => by
    rw [List.map_cons, List.map_cons, List.cons.injEq] at e
    obtain ⟨e1, e2⟩ := e
    unfold pairD at e1
    injection e1 with e1
    simp only [List.cons.injEq, and_true] at e1
    obtain ⟨h1, h2⟩ := e1
    have h3 := rowT_inj h1
    injection h2 with h2
    rw [pairD_inj e2, show p = q from Prod.ext h3 h2]
/-- those that stand -/
def stK (kv : KvI) : KvI := stand (cnt kv) [] (keys kv)
theorem stK_nd (kv : KvI) : (keys (stK kv)).Nodup := stand_nodup _ _ List.nodup_nil
theorem stK_keys {kv : KvI} {r : Row} : r ∈ keys (stK kv) ↔ r ∈ keys kv ∧ 0 < cnt kv r := by
  unfold stK
  rw [stand_keys]
  exact ⟨fun h => h.resolve_left (fun z => by cases z), .inr⟩
theorem stK_cnt {kv : KvI} (h0 : ∀ r ∈ keys kv, 0 ≤ cnt kv r) (r : Row) : cnt (stK kv) r = cnt kv r := by
  unfold stK
  rw [stand_cnt]
  by_cases h : r ∈ keys kv ∧ 0 < cnt kv r
  · rw [if_pos h]
  · rw [if_neg h]
    by_cases e : r ∈ keys kv
    · have := h0 r e
      show (0 : Int) = _
      have h3 : ¬ 0 < cnt kv r := fun z => h ⟨e, z⟩
      omega
    · rw [cnt_none e]; rfl
theorem stand_len {c : Row → Int} : ∀ (rs : List Row) (acc : KvI), (stand c acc rs).length ≤ acc.length + rs.length
  | [], acc => Nat.le_refl _
  | r :: rs, acc => by
    show (stand c (if 0 < c r then putI acc r (c r) else acc) rs).length ≤ _
    have h1 := stand_len (c := c) rs (if 0 < c r then putI acc r (c r) else acc)
    have h2 := len_put (kv := acc) (r := r) (n := c r)
    rw [List.length_cons]
    split at h1 <;> rename_i hc
    · rw [if_pos hc]; omega
    · rw [if_neg hc]; omega
/-- a bag out of numbers from 0 on, whatever they are -/
def bagOfX (C CT : Addr) (w : World) : SpD := fun ds G Q W => ∃ (n : Nat) (kv : KvI), ds = [.dln (rowH w) (kvD kv)] ∧ (keys kv).Nodup ∧ (∀ r ∈ keys kv, OkR r ∧ r.length = n ∧ 0 ≤ cnt kv r) ∧ kv.length ≤ 900 ∧
  (¬ FitsK kv → W CT [("most", .int BIG), ("what", .str "times")] G) ∧ (FitsK kv → 60 < (stK kv).length → W CT [("most", .int 60), ("what", .str "rows")] G) ∧
  (FitsK kv → (stK kv).length ≤ 60 → ∀ kv', BagK n (keys kv) kv' → (∀ r, cnt kv' r = cnt kv r) → Q (bagD C w kv') G)
theorem dok_bag_of (T : Top K mg) : FnD P w K mg base 68 T.a_bag_of T.d_bag_of ["numbers"] (bagOfX T.C_Bag T.C_TooMany w) := by
  have G_check_numbers := (dok_check_numbers (P := P) (w := w) (base := base) T).mono (k := 65) (by decide)
  have G_Bag___init__ := (dok_Bag___init__ (P := P) (w := w) (base := base) T).mono (k := 65) (by decide)
  refine dfn (k := 67) T.F_bag_of scbag_of (fun ds G Q W h => ?_) (fun cdv A outer s H E B W hr tk => have hx := hx_of tk; ⟨_, (db_cons (ds_set (i := 1) scbag_of.nd rfl (.inr rfl) (de_dcN (own := [("row", 3)]) (gV := gName 3) (Nat.lt_of_le_of_lt (Nat.add_le_add_left (by decide) _) (Room.units hr)) rfl scbag_of.nd (di_keysN (dv 0)) (blkOk_by (own := [("row", 3)]) (N := Nbag_of) (sc := defScope sbag_of) (by decide +kernel)) (cg_name (i := 3) (by decide)) (fun _ _ _ _ _ => (pg_name (i := 3) scbag_of.nd rfl (.inl rfl))) (fun _ _ _ _ _ _ => (dts_one (dt_cmp op_gt gt_A (de_ngetW (w := w) rfl (Nat.lt_of_le_of_lt (Nat.add_le_add_left (by decide) _) (Room.units hr)) (dv 0) (dv 3) (fun _ _ => rfl)) de_int (nomark _)))) (fun _ _ _ _ _ _ => (dv 3)) (fun _ _ _ _ _ _ => (de_ngetW (w := w) rfl (Nat.lt_of_le_of_lt (Nat.add_le_add_left (by decide) _) (Room.units hr)) (dv 0) (dv 3) (fun _ _ => rfl)))))
  (db_cons (ds_expr (de_call G_check_numbers (hr.mono (by decide)) (by rfl) T.g_check_numbers T.F_check_numbers.kp T.b_check_numbers hx (da_cons (dv 1) da_nil)))
  (db_cons (ds_setLcF (i := 2) (own := [("row", 3)]) (gV := gName 3) finA_l rfl scbag_of.nd rfl rfl (sw_true rfl rfl rfl (by decide +kernel)) (di_keysN (dv 1)) (blkOk_by (own := [("row", 3)]) (N := Nbag_of) (sc := defScope sbag_of) (by decide +kernel)) (cg_name (i := 3) (by decide)) (fun _ _ _ _ _ => (pg_name (i := 3) scbag_of.nd rfl (.inl rfl))) (fun _ _ _ _ _ _ => dts_nil) (fun _ _ _ _ _ _ => (de_tup (da_cons (dv 3) (da_cons (de_ngetW (w := w) rfl (Nat.lt_of_le_of_lt (Nat.add_le_add_left (by decide) _) (Room.units hr)) (dv 1) (dv 3) (fun _ _ => rfl)) da_nil)))))
  (db_one (ds_ret (de_makeS1 T.mk_Bag T.gc_Bag G_Bag___init__ (hr.mono (by decide)) rfl T.g_Bag hx (dv 2))))))), fun ds G Q h => ?_⟩)
  · obtain ⟨_, _, rfl, _⟩ := h
    rfl
  · obtain ⟨n, kv, rfl, nd, hr, hl, q0, q1, q2⟩ := h
    refine ⟨by rw [List.length_map, kvD_len]; omega, ?_⟩
    rw [kvD_rows]
    have h0 : ∀ r ∈ keys kv, 0 ≤ cnt kv r := fun r h => (hr r h).2.2
    have cst := stK_cnt h0
    have nst := stK_nd kv
    have kst := fun r => stK_keys (kv := kv) (r := r)
    have lst : (stK kv).length ≤ 900 := by
      have := stand_len (c := cnt kv) (keys kv) []
      rw [keys_len, List.length_nil] at this
      show (stand (cnt kv) [] (keys kv)).length ≤ 900
      omega
    have fst : FitsK (stK kv) ↔ FitsK kv := by
      constructor
      · intro h r hk
        by_cases c : 0 < cnt kv r
        · have := h r ((kst r).mpr ⟨hk, c⟩)
          rw [cst r] at this
          exact this
        · have : (0 : Int) ≤ BIG := by decide
          omega
      · intro h r hk
        rw [cst r]
        exact h r ((kst r).mp hk).1
    generalize hst : stK kv = st at *
    refine (fun (key : ∀ (rs : List Row) (acc : KvI), (∀ r ∈ rs, r ∈ keys kv) → stand (cnt kv) acc rs = st → dcN _ _ _ _ _ _ (rs.map rowT) (kvD acc) G) => key (keys kv) [] (fun _ h => h) hst) ?_
    intro rs
    induction rs with
    | nil =>
      intro acc _ e
      have e' : acc = st := e
      subst e'
      refine ⟨acc, rfl, lst, fun z => q0 fun y => z (fst.mpr y), fun z => q1 (fst.mp z), fun fit l60 => ?_⟩
      have q := q2 (fst.mp fit) l60
      refine ⟨by rw [List.length_map, kvD_len, sizeLine_eq]; omega, ?_⟩
      rw [kvD_rows]
      refine lc_f0 rowT (fun r => pairD (r, cnt acc r)) (keys acc) [] (fun r hr' N hN => ?_) ?_
      · show (match dlnD (.dln (rowH w) (kvD acc)) G, rowD? (rowT r) with | some (hf, kvs), some k => _ | _, _ => False)
        rw [rowD_T]
        refine ⟨rfl, ?_⟩
        rw [getR_in hr']
        exact ⟨by show 2 ≤ sizeLine; rw [sizeLine_eq]; decide, hN⟩
      · intro x nx
        have lm : ((keys acc).map fun r => pairD (r, cnt acc r)).length ≤ 60 := by rw [List.length_map, keys_len]; exact l60
        have ca : ∀ r, cnt (addAll [] (pairsOf acc)) r = cnt kv r := fun r => by
          rw [cnt_addAll, tot_nodup (by rw [pairsOf_keys]; exact nst), pairsOf_cnt nst, cst r]
          show 0 + _ = _
          rw [Int.zero_add]
        have ka : ∀ r, r ∈ keys (addAll [] (pairsOf acc)) ↔ r ∈ keys acc := fun r => by
          rw [keys_addAll, pairsOf_keys]
          exact ⟨fun h => h.resolve_left (fun z => by cases z), .inr⟩
        have lp : (pairsOf acc).length = acc.length := by unfold pairsOf; rw [List.length_map, keys_len]
        have la : (addAll [] (pairsOf acc)).length ≤ 60 := by
          have := len_addAll (pairsOf acc) []
          rw [List.length_nil] at this
          omega
        have okp : OkPs n (pairsOf acc) := fun p hp => by
          obtain ⟨r, hr', rfl⟩ := List.mem_map.mp hp
          have k1 := (kst r).mp hr'
          have k2 := hr r k1.1
          have k3 := fit r hr'
          refine ⟨k2.1, k2.2.1, ?_, k3⟩
          show 1 ≤ cnt acc r
          rw [cst r]; omega
        have fit2 : FitsK (addAll [] (pairsOf acc)) := fun r hr' => by
          rw [ca r, ← cst r]
          exact fit r ((ka r).mp hr')
        refine ⟨by simp, by rw [List.length_cons, List.append_nil, List.nil_append]; omega, ?_⟩
        have eL : ([] ++ (keys acc).map fun r => pairD (r, cnt acc r)) ++ [] = (pairsOf acc).map pairD := by
          rw [List.nil_append, List.append_nil]
          unfold pairsOf
          rw [List.map_map]
          rfl
        refine ⟨x, (pairsOf acc).map pairD, ?_, updG_same, fun e he => ?_, by rw [List.length_map]; omega, fun j hb => ?_, fun n2 ps2 e2 hp2 => ?_⟩
        · show [D.adr x, D.tup (([] ++ (keys acc).map fun r => pairD (r, cnt acc r)) ++ [])] = _
          rw [eL]
        · obtain ⟨p, hp, rfl⟩ := List.mem_map.mp he
          exact toldP_pair (okp p hp).1
        · rw [badPair_ok okp] at hb
          cases hb
        · obtain rfl : ps2 = pairsOf acc := pairD_inj e2.symm
          refine ⟨fun z => absurd fit2 z, fun _ z => by omega, fun _ _ fs hfs => ⟨rfl, ?_⟩⟩
          rw [updG_same]
          show Q (.ins T.C_Bag fs) (delG (updG (updG G x _) x _) x)
          rw [updG_updG, delG_updG nx, hfs]
          refine q _ ⟨nodup_addAll _ _ List.nodup_nil, fun r hr' => ?_, fun r hr' => ?_, la⟩ ca
          · have k1 := (kst r).mp ((ka r).mp hr')
            have k2 := hr r k1.1
            exact ⟨k2.1, k2.2.1, k1.1⟩
          · have k1 := (kst r).mp ((ka r).mp hr')
            have k4 := fit r ((ka r).mp hr')
            rw [cst r] at k4
            rw [ca r]
            exact ⟨by omega, k4⟩
    | cons r rs ih =>
      intro acc hm e
      have hr' := hm r List.mem_cons_self
      have hm' : ∀ r ∈ rs, r ∈ keys kv := fun r h => hm r (List.mem_cons_of_mem _ h)
      have e' : stand (cnt kv) (if 0 < cnt kv r then putI acc r (cnt kv r) else acc) rs = st := e
      show (match dlnD (.dln (rowH w) (kvD kv)) G, rowD? (rowT r) with | some (hf, kvs), some k => _ | _, _ => False)
      rw [rowD_T]
      refine ⟨rfl, ?_⟩
      rw [getR_in hr']
      show (match decide ((0 : Int) < cnt kv r) with | true => _ | false => _)
      by_cases c : 0 < cnt kv r
      · rw [if_pos c] at e'
        rw [decide_eq_true c]
        show (match dlnD (.dln (rowH w) (kvD kv)) G, rowD? (rowT r) with | some (hf, kvs), some k => _ | _, _ => False)
        rw [rowD_T]
        refine ⟨rfl, ?_⟩
        rw [getR_in hr']
        refine ⟨r, rfl, ?_⟩
        rw [putR_kvD]
        exact ih _ hm' e'
      · rw [if_neg c] at e'
        rw [decide_eq_false c]
        exact ih _ hm' e'
end
section
variable {P : Program} {w : World} {K : PySem.W.Frag} {mg : Str → Option Value} {base : Heap}
/-- a bag with the numbers f, its rows among L -/
def IsBag (C : Addr) (w : World) (n : Nat) (L : List Row) (f : Row → Int) (d : D) : Prop := ∃ kv, d = bagD C w kv ∧ BagK n L kv ∧ ∀ r, cnt kv r = f r
theorem IsBag.nn {C : Addr} {n : Nat} {L : List Row} {f : Row → Int} {d : D} (h : IsBag C w n L f d) (r : Row) : 0 ≤ f r ∧ f r ≤ BIG := by
  obtain ⟨kv, _, hk, hf⟩ := h
  rw [← hf r]
  exact hk.cnt_pos r
theorem IsBag.isO {C : Addr} {n : Nat} {L : List Row} {f : Row → Int} {d : D} (h : IsBag C w n L f d) : isO d = true := by
  obtain ⟨kv, rfl, _⟩ := h
  rfl
def fillR (c : Row → Int) (acc : KvI) (us : List Row) : KvI := us.foldl (fun a r => putI a r (c r)) acc
theorem fill_nodup {c : Row → Int} : ∀ (us : List Row) (acc : KvI), (keys acc).Nodup → (keys (fillR c acc us)).Nodup
  | [], _, h => h
  | r :: us, acc, h => fill_nodup us _ (nodup_put h)
theorem fill_keys {c : Row → Int} {s : Row} : ∀ (us : List Row) (acc : KvI), s ∈ keys (fillR c acc us) ↔ s ∈ keys acc ∨ s ∈ us
  | [], acc => by simp [fillR]
  | r :: us, acc => by
    show s ∈ keys (fillR c (putI acc r (c r)) us) ↔ _
    rw [fill_keys us, mem_keys_put, List.mem_cons]
    constructor
    · rintro ((h | h) | h)
      · exact .inr (.inl h)
      · exact .inl h
      · exact .inr (.inr h)
    · rintro (h | h | h)
      · exact .inl (.inr h)
      · exact .inl (.inl h)
      · exact .inr h
theorem fill_cnt {c : Row → Int} {s : Row} : ∀ (us : List Row) (acc : KvI), cnt (fillR c acc us) s = if s ∈ us then c s else cnt acc s
  | [], acc => by simp [fillR]
  | r :: us, acc => by
    show cnt (fillR c (putI acc r (c r)) us) s = _
    rw [fill_cnt us]
    by_cases h : s ∈ us
    · rw [if_pos h, if_pos (List.mem_cons_of_mem _ h)]
    · rw [if_neg h, cnt_put]
      by_cases e : s = r
      · rw [if_pos e, if_pos (by rw [e]; exact List.mem_cons_self), e]
      · rw [if_neg e, if_neg (fun z => h ((List.mem_cons.mp z).resolve_left e))]
theorem fill_len {c : Row → Int} : ∀ (us : List Row) (acc : KvI), (fillR c acc us).length ≤ acc.length + us.length
  | [], _ => Nat.le_refl _
  | r :: us, acc => by
    have := fill_len (c := c) us (putI acc r (c r))
    have h2 := len_put (kv := acc) (r := r) (n := c r)
    show (fillR c (putI acc r (c r)) us).length ≤ _
    rw [List.length_cons]
    omega
theorem dc_rows {g : TGD} {tk tv : TED} {Fin : KvN → Gm → Prop} {δ : SD} {G : Gm} (e : Row → D) (c : Row → Int) : ∀ (us : List Row) (acc : KvI),
    (∀ r ∈ us, ∀ N : Row → D → Gm → Prop, N r (.int (c r)) G → g (e r) δ G fun δ1 G1 => tk δ1 G1 fun y G3 => tv δ1 G3 fun z G4 => ∃ ks, rowD? y = some ks ∧ N ks z G4) →
    Fin (kvD (fillR c acc us)) G → dcN g dYes tk tv Fin δ (us.map e) (kvD acc) G
  | [], _, _, h => h
  | r :: us, acc, hs, h => by
    refine hs r List.mem_cons_self (fun ks z G4 => dcN g dYes tk tv Fin δ (us.map e) (putR (kvD acc) ks z) G4) ?_
    rw [putR_kvD]
    exact dc_rows e c us _ (fun y hy => hs y (List.mem_cons_of_mem _ hy)) h
theorem bag_finX {C CT : Addr} {n : Nat} {us : List Row} {c F : Row → Int} {Q : QD} {W : WD} {G : Gm} (nu : us.Nodup) (hu : ∀ r ∈ us, OkR r ∧ r.length = n) (hc : ∀ r ∈ us, 0 ≤ c r) (hF : ∀ r, (if r ∈ us then c r else 0) = F r) (hl : us.length ≤ 900)
    (q0 : (∃ r, BIG < F r) → W CT [("most", .int BIG), ("what", .str "times")] G) (q1 : (∀ r, F r ≤ BIG) → ∀ vs : List Row, vs.Nodup → (∀ r, r ∈ vs ↔ F r ≠ 0) → 60 < vs.length → W CT [("most", .int 60), ("what", .str "rows")] G)
    (q2 : (∀ r, F r ≤ BIG) → ∀ vs : List Row, vs.Nodup → (∀ r, r ∈ vs ↔ F r ≠ 0) → vs.length ≤ 60 → ∀ d', IsBag C w n us F d' → Q d' G) : bagOfX C CT w [.dln (rowH w) (kvD (fillR c [] us))] G Q W := by
  have hk : ∀ r, r ∈ keys (fillR c [] us) ↔ r ∈ us := fun r => by
    rw [fill_keys]
    exact ⟨fun h => h.resolve_left (fun z => by cases z), .inr⟩
  have hcn : ∀ r, cnt (fillR c [] us) r = F r := fun r => by
    rw [fill_cnt, ← hF r]
    rfl
  have hF0 : ∀ r, r ∈ us → F r = c r := fun r hr => by rw [← hF r, if_pos hr]
  have hFn : ∀ r, r ∉ us → F r = 0 := fun r hr => by rw [← hF r, if_neg hr]
  have fit : FitsK (fillR c [] us) ↔ ∀ r, F r ≤ BIG := by
    constructor
    · intro h r
      by_cases e : r ∈ us
      · have := h r ((hk r).mpr e)
        rw [hcn r] at this
        exact this
      · rw [hFn r e]; decide
    · intro h r _
      rw [hcn r]
      exact h r
  have kst : ∀ r, r ∈ keys (stK (fillR c [] us)) ↔ F r ≠ 0 := fun r => by
    rw [stK_keys, hk r, hcn r]
    constructor
    · rintro ⟨_, h⟩; omega
    · intro h
      by_cases e : r ∈ us
      · have := hc r e
        rw [← hF0 r e] at this
        exact ⟨e, by omega⟩
      · exact absurd (hFn r e) h
  have lst : (keys (stK (fillR c [] us))).length = (stK (fillR c [] us)).length := keys_len _
  refine ⟨n, _, rfl, fill_nodup _ _ List.nodup_nil, fun r hr => ?_, ?_, fun z => ?_, fun z y => ?_, fun z y kv' hk' h' => ?_⟩
  · have hr' := (hk r).mp hr
    obtain ⟨h1, h2⟩ := hu r hr'
    refine ⟨h1, h2, ?_⟩
    rw [hcn r, hF0 r hr']
    exact hc r hr'
  · have := fill_len (c := c) us []
    rw [List.length_nil] at this
    omega
  · refine q0 ?_
    false_or_by_contra
    rename_i nn
    exact z (fit.mpr fun r => by
      false_or_by_contra
      exact nn ⟨r, by omega⟩)
  · exact q1 (fit.mp z) _ (stK_nd _) kst (by rw [lst]; exact y)
  · refine q2 (fit.mp z) _ (stK_nd _) kst (by rw [lst]; exact y) _ ⟨kv', rfl, ⟨hk'.nd, fun r hr => ?_, hk'.num, hk'.len⟩, fun r => by rw [h' r, hcn r]⟩
    obtain ⟨h1, h2, h3⟩ := hk'.row r hr
    exact ⟨h1, h2, (hk r).mp h3⟩
theorem ps_map (kv : KvI) : (psK kv).map pairD = (ordK kv).map fun r => pairD (r, cnt kv r) := by
  unfold psK
  rw [List.map_map]
  rfl
/-- x + y, whatever comes of it -/
def addX (C CT : Addr) (w : World) : SpD := fun ds G Q W => ∃ (n : Nat) (L L' : List Row) (f g : Row → Int) (d e : D), ds = [d, e] ∧ IsBag C w n L f d ∧ IsBag C w n L' g e ∧
  ((∃ r, BIG < f r + g r) → W CT [("most", .int BIG), ("what", .str "times")] G) ∧
  ((∀ r, f r + g r ≤ BIG) → ∀ vs : List Row, vs.Nodup → (∀ r, r ∈ vs ↔ f r + g r ≠ 0) → 60 < vs.length → W CT [("most", .int 60), ("what", .str "rows")] G) ∧
  ((∀ r, f r + g r ≤ BIG) → ∀ vs : List Row, vs.Nodup → (∀ r, r ∈ vs ↔ f r + g r ≠ 0) → vs.length ≤ 60 → ∀ d' us, IsBag C w n us (fun r => f r + g r) d' → Q d' G)
theorem dok_Bag___add__ (T : Top K mg) : FnD P w K mg base 72 T.a_Bag___add__ T.d_Bag___add__ ["self", "other"] (addX T.C_Bag T.C_TooMany w) := by
  have G_check_other := (dok_check_other (P := P) (w := w) (base := base) T).mono (k := 69) (by decide)
  have G_bag_of := (dok_bag_of (P := P) (w := w) (base := base) T).mono (k := 69) (by decide)
  have G_rows_of := (dok_rows_of (P := P) (w := w) (base := base) T).mono (k := 69) (by decide)
  have G_Bag_often := (dok_Bag_often (P := P) (w := w) (base := base) T).mono (k := 69) (by decide)
  refine dfn (k := 71) T.F_Bag___add__ scBag___add__ (fun ds G Q W h => ?_) (fun cdv A outer s H E B W hr tk => have hx := hx_of tk; ⟨_, (db_cons (ds_expr (de_call G_check_other (hr.mono (by decide)) (by rfl) T.g_check_other T.F_check_other.kp T.b_check_other hx (da_cons (dv 0) (da_cons (dv 1) da_nil))))
  (db_one (ds_ret (de_call G_bag_of (hr.mono (by decide)) (by rfl) T.g_bag_of T.F_bag_of.kp T.b_bag_of hx (da_cons (de_dcN (own := [("row", 2)]) (gV := gName 2) (Nat.lt_of_le_of_lt (Nat.add_le_add_left (by decide) _) (Room.units hr)) rfl scBag___add__.nd (di_list (de_call G_rows_of (hr.mono (by decide)) (by rfl) T.g_rows_of T.F_rows_of.kp T.b_rows_of hx (da_cons (dv 0) (da_cons (dv 1) da_nil)))) (blkOk_by (own := [("row", 2)]) (N := NBag___add__) (sc := defScope sBag___add__) (by decide +kernel)) (cg_name (i := 2) (by decide)) (fun _ _ _ _ _ => (pg_name (i := 2) scBag___add__.nd rfl (.inl rfl))) (fun _ _ _ _ _ _ => dts_nil) (fun _ _ _ _ _ _ => (dv 2)) (fun _ _ _ _ _ _ => (de_add (de_meth (dv 0) T.cl_Bag T.me_Bag_often G_Bag_often (hr.mono (by decide)) T.b_Bag_often hx0 (da_cons (dv 2) da_nil)) (de_meth (dv 1) T.cl_Bag T.me_Bag_often G_Bag_often (hr.mono (by decide)) T.b_Bag_often hx0 (da_cons (dv 2) da_nil))))) da_nil))))), fun ds G Q h => ?_⟩)
  · obtain ⟨_, _, _, _, _, _, _, rfl, _⟩ := h
    rfl
  · obtain ⟨n, L, L', f, g, d, e, rfl, ⟨kv, rfl, hk, hf⟩, ⟨kv', rfl, hk', hg⟩, q0, q1, q2⟩ := h
    refine .bag n n L L' kv kv' rfl hk hk' (fun _ _ => rfl) ⟨n, L, L', kv, kv', rfl, hk, hk', fun us nu hu => ?_⟩
    have hu' : ∀ r ∈ us, OkR r ∧ r.length = n := fun r hr => by
      rcases (hu r).mp hr with h | h
      · exact ⟨(hk.row r h).1, (hk.row r h).2.1⟩
      · exact ⟨(hk'.row r h).1, (hk'.row r h).2.1⟩
    have l120 : us.length ≤ 120 := by
      have := nodup_sub_len (a := us) (b := keys kv ++ keys kv') nu fun r hr => List.mem_append.mpr ((hu r).mp hr)
      rw [List.length_append, keys_len, keys_len] at this
      have := hk.len
      have := hk'.len
      omega
    refine ⟨by rw [List.length_map]; omega, ?_⟩
    refine dc_rows rowT (fun r => cnt kv r + cnt kv' r) us [] (fun r hr N hN => ⟨rfl, rfl, often_row (hu' r hr).1 ⟨rfl, rfl, often_row (hu' r hr).1 ⟨r, rowD_T r, hN⟩⟩⟩) ?_
    refine bag_finX (W := W) (F := fun r => f r + g r) nu hu' (fun r hr => ?_) (fun r => ?_) (by omega) q0 q1 fun a b c d e d' h => q2 a b c d e d' us h
    · have h1 := hk.cnt_pos r
      have h2 := hk'.cnt_pos r
      omega
    · rw [← hf r, ← hg r]
      by_cases e : r ∈ us
      · rw [if_pos e]
      · rw [if_neg e, cnt_none (fun z => e ((hu r).mpr (.inl z))), cnt_none (fun z => e ((hu r).mpr (.inr z)))]
        rfl
end
section
variable {P : Program} {w : World} {K : PySem.W.Frag} {mg : Str → Option Value} {base : Heap}
theorem var_rd {i : Nat} {δ : SD} {d : D} {G : Gm} {Q : QD} (h : δ[i]? = some (some d)) (q : Q d G) : dVar i δ G Q := by
  unfold dVar
  rw [h]
  exact q
theorem IsBag.ty {C : Addr} {n : Nat} {L : List Row} {f : Row → Int} {d : D} {G : Gm} (h : IsBag C w n L f d) : TyD K d G (.ref C) := by
  obtain ⟨kv, rfl, _⟩ := h
  exact .ins rfl
theorem IsBag.insD {C : Addr} {n : Nat} {L : List Row} {f : Row → Int} {d : D} {G : Gm} (h : IsBag C w n L f d) : ∃ fs, JP.insD d G = some (C, fs) := by
  obtain ⟨kv, rfl, _⟩ := h
  exact ⟨_, rfl⟩
theorem add_bag {C CT : Addr} {n : Nat} {L L' : List Row} {f g : Row → Int} {d e : D} {G : Gm} {Q : QD} {W : WD} (hd : IsBag C w n L f d) (he : IsBag C w n L' g e) (q0 : (∃ r, BIG < f r + g r) → W CT [("most", .int BIG), ("what", .str "times")] G)
    (q1 : (∀ r, f r + g r ≤ BIG) → ∀ vs : List Row, vs.Nodup → (∀ r, r ∈ vs ↔ f r + g r ≠ 0) → 60 < vs.length → W CT [("most", .int 60), ("what", .str "rows")] G)
    (q2 : (∀ r, f r + g r ≤ BIG) → ∀ vs : List Row, vs.Nodup → (∀ r, r ∈ vs ↔ f r + g r ≠ 0) → vs.length ≤ 60 → ∀ d' us, IsBag C w n us (fun r => f r + g r) d' → Q d' G) : ownD K C "add" (addX C CT w) W d e G Q := by
  unfold ownD
  obtain ⟨fs, e1⟩ := hd.insD (G := G)
  rw [e1]
  exact ⟨rfl, ⟨_, he.ty, .same⟩, n, L, L', f, g, d, e, rfl, hd, he, q0, q1, fun a vs b c e d' us h' => ⟨h'.isO, q2 a vs b c e d' us h'⟩⟩
/-- of an empty bag the width doesn't matter -/
theorem IsBag.any {C : Addr} {n n' : Nat} {L : List Row} {f : Row → Int} {d : D} (h : IsBag C w n L f d) (h0 : ∀ r, f r = 0) : IsBag C w n' [] f d := by
  obtain ⟨kv, rfl, hk, hf⟩ := h
  have e : kv = [] := by
    cases kv with
    | nil => rfl
    | cons p kv =>
      have := (hk.num p.1 List.mem_cons_self).1
      rw [hf, h0] at this
      omega
  subst e
  exact ⟨[], rfl, ⟨List.nodup_nil, (fun r hr => by cases hr), (fun r hr => by cases hr), by simp⟩, hf⟩
theorem tot_nn {ps : KvI} (h : ∀ p ∈ ps, 1 ≤ p.2) (r : Row) : 0 ≤ tot ps r := by
  induction ps with
  | nil => exact Int.le_refl _
  | cons p ps ih =>
    have h1 := ih fun q hq => h q (List.mem_cons_of_mem _ hq)
    have h2 := h p List.mem_cons_self
    show 0 ≤ (if r = p.1 then p.2 else 0) + tot ps r
    by_cases e : r = p.1
    · rw [if_pos e]; omega
    · rw [if_neg e]; omega
theorem tot_pos {n : Nat} {ps : KvI} (h : OkPs n ps) {r : Row} (hr : r ∈ keys ps) : 1 ≤ tot ps r := by
  induction ps with
  | nil => cases hr
  | cons p ps ih =>
    have h' : OkPs n ps := fun q hq => h q (List.mem_cons_of_mem _ hq)
    have h2 := (h p List.mem_cons_self).2.2.1
    have h3 := tot_nn (fun q hq => (h' q hq).2.2.1) r
    show 1 ≤ (if r = p.1 then p.2 else 0) + tot ps r
    by_cases e : r = p.1
    · rw [if_pos e]; omega
    · rw [if_neg e]
      have := ih h' ((List.mem_cons.mp hr).resolve_left e)
      omega
/-- Bag(..), whatever it is given -/
theorem make_bag {C CB CT : Addr} {es : List D} {G : Gm} {Q : QD} {W : WD} (ht : ∀ e ∈ es, ∀ G, ToldP e G) (hl : es.length ≤ 900) (q0 : ∀ j : Nat, badPair es = some j → W CB [("part", .int (j : Int))] G)
    (q1 : ∀ (n : Nat) (ps : KvI), es = ps.map pairD → OkPs n ps → (¬ FitsK (addAll [] ps) → W CT [("most", .int BIG), ("what", .str "times")] G) ∧ (FitsK (addAll [] ps) → 60 < (addAll [] ps).length → W CT [("most", .int 60), ("what", .str "rows")] G) ∧
      (FitsK (addAll [] ps) → (addAll [] ps).length ≤ 60 → ∀ d', IsBag C w n (keys ps) (tot ps) d' → Q d' G)) : ∀ x, G x = none →
    starD 1 (initX C CB CT w) (.adr x :: es) (updG G x (.ins C [])) (fun d G2 => d = .non ∧ match G2 x with | some (.ins C' fs) => Q (.ins C' fs) (delG G2 x) | _ => False) (fun C' fs G2 => W C' fs (delG G2 x)) := fun x nx => by
  refine ⟨by simp, by rw [List.length_cons]; omega, x, es, rfl, updG_same, fun e he => ht e he _, hl, fun j hb => ?_, fun n ps e hp => ?_⟩
  · show W CB _ (delG (updG G x _) x)
    rw [delG_updG nx]
    exact q0 j hb
  · obtain ⟨q2, q3, q4⟩ := q1 n ps e hp
    refine ⟨fun z => ?_, fun z y => ?_, fun z y fs hfs => ⟨rfl, ?_⟩⟩
    · show W CT _ (delG (updG G x _) x)
      rw [delG_updG nx]
      exact q2 z
    · show W CT _ (delG (updG G x _) x)
      rw [delG_updG nx]
      exact q3 z y
    · rw [updG_same]
      show Q (.ins C fs) (delG (updG (updG G x _) x _) x)
      rw [updG_updG, delG_updG nx, hfs]
      have hc : ∀ r, cnt (addAll [] ps) r = tot ps r := fun r => by
        rw [cnt_addAll]
        show 0 + _ = _
        rw [Int.zero_add]
      have hk : ∀ r, r ∈ keys (addAll [] ps) ↔ r ∈ keys ps := fun r => by
        rw [keys_addAll]
        exact ⟨fun h => h.resolve_left (fun z => by cases z), .inr⟩
      refine q4 z y _ ⟨_, rfl, ⟨nodup_addAll _ _ List.nodup_nil, fun r hr => ?_, fun r hr => ⟨?_, z r hr⟩, y⟩, hc⟩
      · obtain ⟨p, hp', rfl⟩ := List.mem_map.mp ((hk r).mp hr)
        obtain ⟨o1, o2, _⟩ := hp p hp'
        exact ⟨o1, o2, (hk _).mp hr⟩
      · rw [hc r]
        exact tot_pos hp ((hk r).mp hr)
theorem make_bagM {C CB CT : Addr} {es : List D} {t : TAD} {δ : SD} {G : Gm} {Q : QD} {W : WD} (hargs : ∀ N : List D → Gm → Prop, N es G → t δ G N) (ht : ∀ e ∈ es, ∀ G, ToldP e G) (hl : es.length ≤ 900) (q0 : ∀ j : Nat, badPair es = some j → W CB [("part", .int (j : Int))] G)
    (q1 : ∀ (n : Nat) (ps : KvI), es = ps.map pairD → OkPs n ps → (¬ FitsK (addAll [] ps) → W CT [("most", .int BIG), ("what", .str "times")] G) ∧ (FitsK (addAll [] ps) → 60 < (addAll [] ps).length → W CT [("most", .int 60), ("what", .str "rows")] G) ∧
      (FitsK (addAll [] ps) → (addAll [] ps).length ≤ 60 → ∀ d', IsBag C w n (keys ps) (tot ps) d' → Q d' G)) : dMake C (starD 1 (initX C CB CT w)) W t δ G Q := hargs _ (make_bag ht hl q0 q1)
end
section
variable {P : Program} {w : World} {K : PySem.W.Frag} {mg : Str → Option Value} {base : Heap}
def onesK (rows : List Row) : KvI := rows.map fun r => (r, 1)
theorem onesK_tot : ∀ (rows : List Row) (r : Row), 0 ≤ tot (onesK rows) r ∧ tot (onesK rows) r ≤ rows.length
  | [], r => by simp [onesK, tot]
  | a :: rows, r => by
    have ih := onesK_tot rows r
    show 0 ≤ (if r = a then (1 : Int) else 0) + tot (onesK rows) r ∧ (if r = a then (1 : Int) else 0) + tot (onesK rows) r ≤ ((a :: rows).length : Int)
    rw [List.length_cons]
    by_cases e : r = a
    · rw [if_pos e]; omega
    · rw [if_neg e]; omega
theorem onesK_keys {rows : List Row} : keys (onesK rows) = rows := by
  unfold keys onesK
  rw [List.map_map]
  exact List.map_id _
def one (e : D) : D := .tup [e, .int 1]
theorem ones_map {rows : List Row} : (rows.map rowT).map one = (onesK rows).map pairD := by
  unfold onesK
  rw [List.map_map, List.map_map]
  rfl
theorem ones_some : ∀ {es : List D} {ps : KvI}, es.map one = ps.map pairD → ∃ rows : List Row, es = rows.map rowT ∧ ps = onesK rows
  | [], [], _ => ⟨[], rfl, rfl⟩
  | [], _ :: _, e => by cases e
  | _ :: _, [], e => by cases e
  | e :: es, p :: ps, h => by
    rw [List.map_cons, List.map_cons, List.cons.injEq] at h
    obtain ⟨h1, h2⟩ := h
    obtain ⟨rows, rfl, rfl⟩ := ones_some h2
    unfold one pairD at h1
    injection h1 with h1
    simp only [List.cons.injEq, and_true] at h1
    obtain ⟨a, b⟩ := h1
    injection b with b
    exact ⟨p.1 :: rows, by rw [a]; rfl, by rw [show p = (p.1, 1) from Prod.ext rfl b.symm]; rfl⟩
theorem toldP_one {e : D} (h : ∀ G, ToldT e G) (G : Gm) : ToldP (one e) G := by
  refine ⟨told_ki (k := .tup) rfl, fun es he => ?_⟩
  cases he
  intro x hx
  simp only [List.mem_cons, List.not_mem_nil, or_false] at hx
  rcases hx with rfl | rfl
  · exact h G
  · exact ⟨told_ki (k := .int) rfl, fun es e => by cases e⟩
/-- Bag.of, whatever it is given -/
inductive ofX (C CB CT : Addr) (w : World) (ds : List D) (G : Gm) (Q : QD) (W : WD) : Prop
  | odd (d : D) (e : ds = [d]) (h : isKs d G [.lst, .tup] = some false) (q : W CB [("part", .str "rows")] G)
  | seq (es : List D) (e : ds = [.lst es] ∨ ds = [.tup es]) (ht : ∀ e ∈ es, ∀ G, ToldT e G) (hl : es.length ≤ 900) (q0 : ∀ j : Nat, badPair (es.map one) = some j → W CB [("part", .int (j : Int))] G)
    (q1 : ∀ (n : Nat) (rows : List Row), es = rows.map rowT → (∀ r ∈ rows, OkR r ∧ r.length = n) → (60 < (addAll [] (onesK rows)).length → W CT [("most", .int 60), ("what", .str "rows")] G) ∧
      ((addAll [] (onesK rows)).length ≤ 60 → ∀ d', IsBag C w n rows (tot (onesK rows)) d' → Q d' G))
theorem dok_Bag_of (T : Top K mg) : FnD P w K mg base 68 T.a_Bag_of T.d_Bag_of ["rows"] (ofX T.C_Bag T.C_BadBag T.C_TooMany w) := by
  have G_Bag___init__ := (dok_Bag___init__ (P := P) (w := w) (base := base) T).mono (k := 65) (by decide)
  have G_BadBag___init__ := (vok_BadBag___init__ (P := P) (w := w) (base := base) T).mono (k := 65) (by decide)
  refine dfn (k := 67) T.F_Bag_of scBag_of (fun ds G Q W h => ?_) (fun cdv A outer s H E B W hr tk => have hx := hx_of tk; ⟨_, (db_cons (ds_if (dt_not (dt_val (de_isKs (js := [.lst, .tup]) (by rfl) T.z_isinstance (by decide +kernel) (dv 0) (pa_tys_cons (pe_bltn (by rfl) T.z_list (by decide +kernel) rfl) (pa_tys_cons (pe_bltn (by rfl) T.z_tuple (by decide +kernel) rfl) pa_tys_nil)) (by decide))))
    (db_one (ds_raise1F rfl tk T.ox_BadBag T.ic_BadBag T.ti_BadBag G_BadBag___init__ (hr.mono (by decide)) T.b_BadBag___init__ rfl T.g_BadBag (da_cons de_str da_nil)))
    db_nil)
  (db_cons (ds_setLcF (i := 1) (own := [("row", 2)]) (gV := gName 2) finA_l rfl scBag_of.nd rfl rfl (sw_true rfl rfl rfl (by decide +kernel)) (di_anyV (pv 0)) (blkOk_by (own := [("row", 2)]) (N := NBag_of) (sc := defScope sBag_of) (by decide +kernel)) (cg_name (i := 2) (by decide)) (fun _ _ _ _ _ => (pg_name (i := 2) scBag_of.nd rfl (.inl rfl))) (fun _ _ _ _ _ _ => dts_nil) (fun _ _ _ _ _ _ => (de_tup (da_cons (dv 2) (da_cons de_int da_nil)))))
  (db_one (ds_ret (de_makeS1 T.mk_Bag T.gc_Bag G_Bag___init__ (hr.mono (by decide)) rfl T.g_Bag hx (dv 1)))))), fun ds G Q h => ?_⟩)
  · rcases h with ⟨_, rfl, _⟩ | ⟨_, rfl | rfl, _⟩ <;> rfl
  · rcases h with ⟨d, rfl, hi, q⟩ | ⟨es, rfl | rfl, ht, hl, q0, q1⟩
    · show (match isKs d G [.lst, .tup] with | some b => _ | none => False)
      rw [hi]
      exact ⟨rfl, q⟩
    · refine ⟨by rw [sizeLine_eq]; omega, ?_⟩
      have el : es = es.map id := (List.map_id es).symm
      rw [el]
      refine lc_f0 id one es [] (fun e he N hN => ⟨by show 2 ≤ sizeLine; rw [sizeLine_eq]; decide, hN⟩) ?_
      rw [← el]
      intro x nx
      have mk := make_bag (C := T.C_Bag) (CB := T.C_BadBag) (CT := T.C_TooMany) (w := w) (es := es.map one) (G := G) (Q := Q) (W := W) (fun e he => by
        obtain ⟨a, ha, rfl⟩ := List.mem_map.mp he
        exact toldP_one (ht a ha)) (by rw [List.length_map]; exact hl) q0 (fun n ps e hp => by
          obtain ⟨rows, rfl, rfl⟩ := ones_some e
          have hr : ∀ r ∈ rows, OkR r ∧ r.length = n := fun r hr => by
            obtain ⟨o1, o2, _⟩ := hp (r, 1) (List.mem_map.mpr ⟨r, hr, rfl⟩)
            exact ⟨o1, o2⟩
          obtain ⟨q2, q3⟩ := q1 n rows rfl hr
          have fit : FitsK (addAll [] (onesK rows)) := fun r _ => by
            rw [cnt_addAll]
            have := onesK_tot rows r
            have hB : (900 : Int) < BIG := by decide
            rw [List.length_map] at hl
            show 0 + _ ≤ BIG
            omega
          refine ⟨fun z => absurd fit z, fun _ => q2, fun _ z d' h => q3 z d' ?_⟩
          rw [onesK_keys] at h
          exact h) x nx
      have e2 : ([] ++ es.map one) ++ [] = es.map one := by rw [List.nil_append, List.append_nil]
      rw [← e2] at mk
      exact mk
    · refine ⟨by rw [sizeLine_eq]; omega, ?_⟩
      have el : es = es.map id := (List.map_id es).symm
      rw [el]
      refine lc_f0 id one es [] (fun e he N hN => ⟨by show 2 ≤ sizeLine; rw [sizeLine_eq]; decide, hN⟩) ?_
      rw [← el]
      intro x nx
      have mk := make_bag (C := T.C_Bag) (CB := T.C_BadBag) (CT := T.C_TooMany) (w := w) (es := es.map one) (G := G) (Q := Q) (W := W) (fun e he => by
        obtain ⟨a, ha, rfl⟩ := List.mem_map.mp he
        exact toldP_one (ht a ha)) (by rw [List.length_map]; exact hl) q0 (fun n ps e hp => by
          obtain ⟨rows, rfl, rfl⟩ := ones_some e
          have hr : ∀ r ∈ rows, OkR r ∧ r.length = n := fun r hr => by
            obtain ⟨o1, o2, _⟩ := hp (r, 1) (List.mem_map.mpr ⟨r, hr, rfl⟩)
            exact ⟨o1, o2⟩
          obtain ⟨q2, q3⟩ := q1 n rows rfl hr
          have fit : FitsK (addAll [] (onesK rows)) := fun r _ => by
            rw [cnt_addAll]
            have := onesK_tot rows r
            have hB : (900 : Int) < BIG := by decide
            rw [List.length_map] at hl
            show 0 + _ ≤ BIG
            omega
          refine ⟨fun z => absurd fit z, fun _ => q2, fun _ z d' h => q3 z d' ?_⟩
          rw [onesK_keys] at h
          exact h) x nx
      have e2 : ([] ++ es.map one) ++ [] = es.map one := by rw [List.nil_append, List.append_nil]
      rw [← e2] at mk
      exact mk
end
section
variable {P : Program} {w : World} {K : PySem.W.Frag} {mg : Str → Option Value} {base : Heap}
theorem eqv_leaf (a b : PySem.Leaf) : eqvD (lD a) (lD b) = decide (a = b) := by
  cases a <;> cases b <;> simp only [lD, eqvD, toP, PyData.eqv] <;> first | rfl | (rw [Bool.eq_iff_iff]; simp) | simp
theorem eqv_row (a b : Row) : eqvD (rowT a) (rowT b) = decide (a = b) := by
  unfold rowT
  rw [eqvD_tup]
  exact eqvL_map eqv_leaf
theorem eqv_pairD (p p' : Row × Int) : eqvD (pairD p) (pairD p') = decide (p = p') := by
  unfold pairD
  rw [eqvD_tup, eqvL_cons, eqvL_cons, eqvL_nil, eqv_row, eqvD_int, Bool.and_true, Bool.eq_iff_iff]
  simp [Prod.ext_iff]
theorem pl_row {r : Row} (h : OkRs r) : Pl 1 (rowT r) := pl_tup (pl_map fun l hl => pl_lD (h l hl))
theorem pl_pair {p : Row × Int} (h : OkRs p.1) : Pl 2 (pairD p) := pl_tup (pl_cons (pl_row h) (pl_cons pl_int pl_nil))
theorem pl_pairs {kv : KvI} (h : ∀ r ∈ keys kv, OkRs r) : Pl 60 (.tup ((psK kv).map pairD)) := (pl_tup (pl_map fun p hp => pl_pair (h _ (psK_mem hp).1))).mono (by decide)
inductive eqX (K : PySem.W.Frag) (C : Addr) (w : World) (ds : List D) (G : Gm) (Q : QD) (W : WD) : Prop
  | bag (n n' : Nat) (L L' : List Row) (kv kv' : KvI) (e : ds = [bagD C w kv, bagD C w kv']) (hk : BagK n L kv) (hk' : BagK n' L' kv') (q : Q (.bl (decide (psK kv = psK kv'))) G)
  | odd (kv : KvI) (x : D) (e : ds = [bagD C w kv, x]) (ho : OddK K C x) (q : Q (.bl false) G)
theorem dok_Bag___eq__ (T : Top K mg) : FnD P w K mg base 4 T.a_Bag___eq__ T.d_Bag___eq__ ["self", "other"] (eqX K T.C_Bag w) := by
  refine dfn (k := 3) T.F_Bag___eq__ scBag___eq__ (fun ds G Q W h => ?_) (fun cdv A outer s H E B W hr tk => have hx := hx_of tk; ⟨_, (db_one (ds_ret (de_and (de_isCK (K := K) (C := T.C_Bag) rfl (by rfl) T.z_isinstance (by decide +kernel) (dv 1) (pe_glob rfl T.g_Bag rfl)) (de_one (de_cmp (op_eqD (Room.units hr)) eqI_A (de_fld (dv 0)) (de_fld (dv 1)) (nomark _)))))), fun ds G Q h => ?_⟩)
  · rcases h with ⟨_, _, _, _, _, _, rfl, _⟩ | ⟨_, _, rfl, _⟩ <;> rfl
  · rcases h with ⟨n, n', L, L', kv, kv', rfl, hk, hk', q⟩ | ⟨kv, x, rfl, ho, q⟩
    · refine ⟨.ref T.C_Bag, true, .ins rfl, T.ki_Bag, ?_⟩
      refine ⟨pl_pairs fun r hr => (hk.row r hr).1.2.2, pl_pairs fun r hr => (hk'.row r hr).1.2.2, ?_⟩
      show Q (.bl (eqvD (.tup ((psK kv).map pairD)) (.tup ((psK kv').map pairD)))) G
      rw [eqvD_tup, eqvL_map eqv_pairD]
      exact q
    · obtain ⟨t, ty, kt, _⟩ := ho.ty (G := G)
      exact ⟨t, false, ty, kt, q⟩
theorem eq_bag {C : Addr} {n : Nat} {L L' : List Row} {f g : Row → Int} {d e : D} {neg : Bool} {G : Gm} {Q : QD} {W : WD} (hd : IsBag C w n L f d) (he : IsBag C w n L' g e) (q : ∀ b : Bool, (b = true ↔ ∀ r, f r = g r) → Q (.bl (if neg then !b else b)) G) : eqOD K C (eqX K C w) W neg d e G Q := by
  obtain ⟨fs, e1⟩ := hd.insD (G := G)
  unfold eqOD
  rw [e1]
  refine ⟨rfl, ⟨.ref C, he.ty, by simp [PySem.W.notFirst]⟩, ?_⟩
  obtain ⟨kv, rfl, hk, hf⟩ := hd
  obtain ⟨kv', rfl, hk', hg⟩ := he
  refine .bag n n L L' kv kv' rfl hk hk' (q _ ?_)
  rw [decide_eq_true_iff, psK_same hk hk']
  exact ⟨fun h r => by rw [← hf r, ← hg r]; exact h r, fun h r => by rw [hf r, hg r]; exact h r⟩
theorem eq_odd {C : Addr} {n : Nat} {L : List Row} {f : Row → Int} {d x : D} {neg : Bool} {G : Gm} {Q : QD} {W : WD} (hd : IsBag C w n L f d) (ho : OddK K C x) (q : Q (.bl neg) G) : eqOD K C (eqX K C w) W neg d x G Q := by
  obtain ⟨fs, e1⟩ := hd.insD (G := G)
  obtain ⟨t, ty, _, nf⟩ := ho.ty (G := G)
  unfold eqOD
  rw [e1]
  refine ⟨rfl, ⟨t, ty, nf⟩, ?_⟩
  obtain ⟨kv, rfl, hk, hf⟩ := hd
  refine .odd kv x rfl ho ?_
  cases neg <;> exact q
end
section
variable {P : Program} {w : World} {K : PySem.W.Frag} {mg : Str → Option Value} {base : Heap}
theorem ok_draw (T : Top K mg) : FnOk P w K mg base CX0 (0 + 1) T.a__law_draw T.d__law_draw ["_law_pen_here", "_law_many"] spDraw := by
  refine T.F__law_draw.ok sc_law_draw (fun vs H Q E h => ?_) (fun cdv A outer s H vs Q E hr h => ?_)
  · obtain ⟨p, c, many, m, rfl, _⟩ := h
    rfl
  · obtain ⟨p, c, many, m, rfl, ⟨ns, n, g, hp, hc, ncp, hl, n0, nm, g0⟩, h1, h2, hm, q⟩ := h
    refine ⟨_, (pss_cons (ps_if (pt_cmpR op_gt (pe_ix (ixL (K := K) rfl) (pv 0) pe_int (fun _ _ => rfl)) pe_int (nomark _))
    (pss_cons (ps_set (i := 2) sc_law_draw.nd rfl (.inl rfl) (pe_op op_modN (pe_callTy call_int1 (by rfl) T.z_int (by decide +kernel) (pa_cons (pe_ix (ixL (K := K) rfl) (pv 0) pe_int (fun _ _ => rfl)) pa_nil)) (pv 1)))
  (pss_cons (ps_asg (pe_op op_fdivW (pe_callTy call_int1 (by rfl) T.z_int (by decide +kernel) (pa_cons (pe_ix (ixL (K := K) rfl) (pv 0) pe_int (fun _ _ => rfl)) pa_nil)) (pv 1)) (pg_sub (pv 0) pe_int set_list))
  (pss_one (ps_ret (pv 2)))))
    pss_nil)
  (pss_cons (ps_set (i := 3) sc_law_draw.nd rfl (.inl rfl) (pe_ix (ixL (K := K) rfl) (pv 0) pe_int (fun _ _ => rfl)))
  (pss_cons (ps_asg (pe_op op_add (pv 3) pe_int) (pg_sub (pv 0) pe_int set_list))
  (pss_cons (ps_set (i := 4) sc_law_draw.nd rfl (.inl rfl) (pe_op op_add (pe_op op_mul pe_int (pv 3)) pe_int))
  (pss_cons (ps_if (pt_cmpR (op_neD (Room.units hr)) (pe_ix (ixL (K := K) rfl) (pv 0) pe_int (fun _ _ => rfl)) (pe_lst pa_nil) (nomark _))
    (pss_one (ps_set (i := 4) sc_law_draw.nd rfl (.inl rfl) (pe_ix (ixL (K := K) rfl) (pe_ix (ixL (K := K) rfl) (pv 0) pe_int (fun _ _ => rfl)) (pe_op op_modN (pe_callTy call_int1 (by rfl) T.z_int (by decide +kernel) (pa_cons (pv 3) pa_nil)) (pe_callB call_len_seq (by rfl) T.z_len (by decide +kernel) (pa_cons (pe_ix (ixL (K := K) rfl) (pv 0) pe_int (fun _ _ => rfl)) pa_nil))) (fun _ _ => rfl))))
    pss_nil)
  (pss_cons (ps_if (PW.pt (pw_and (pt_cmpR op_lt (pv 3) (pe_callB call_len_seq (by rfl) T.z_len (by decide +kernel) (pa_cons (pe_ix (ixL (K := K) rfl) (pv 0) pe_int (fun _ _ => rfl)) pa_nil)) (nomark _)) (pw_and1 (pt_cmpR op_ge (pe_callB call_abs (by rfl) T.z_abs (by decide +kernel) (pa_cons (pv 4) pa_nil)) (pe_op op_pow pe_int pe_int) (nomark _)))))
    (pss_cons (ps_set (i := 5) sc_law_draw.nd rfl (.inl rfl) (pe_op op_add (pe_op op_mul pe_int (pe_op op_sub (pe_callB call_abs (by rfl) T.z_abs (by decide +kernel) (pa_cons (pv 4) pa_nil)) (pe_op op_pow pe_int pe_int))) (pe_callTy call_int1 (by rfl) T.z_int (by decide +kernel) (pa_cons (pe_cmpR op_lt (pv 4) pe_int (nomark _)) pa_nil))))
  (pss_cons (ps_asg (pe_op op_fdivW (pe_callTy call_int1 (by rfl) T.z_int (by decide +kernel) (pa_cons (pv 5) pa_nil)) (pv 1)) (pg_sub (pv 0) pe_int set_list))
  (pss_one (ps_ret (pe_op op_modN (pe_callTy call_int1 (by rfl) T.z_int (by decide +kernel) (pa_cons (pv 5) pa_nil)) (pv 1))))))
    pss_nil)
  (pss_cons (ps_set (i := 6) sc_law_draw.nd rfl (.inl rfl) (pe_op op_modN (pe_callTy call_int1 (by rfl) T.z_int (by decide +kernel) (pa_cons (pe_op op_pow (pe_op op_add (pe_op op_add (pe_op op_modN (pe_callTy call_int1 (by rfl) T.z_int (by decide +kernel) (pa_cons (pv 4) pa_nil)) pe_int) (pe_op op_mul pe_int (pv 3))) pe_int) pe_int) pa_nil)) pe_int))
  (pss_cons (ps_set (i := 6) sc_law_draw.nd rfl (.inl rfl) (pe_op op_modN (pe_callTy call_int1 (by rfl) T.z_int (by decide +kernel) (pa_cons (pe_op op_pow (pe_op op_add (pe_op op_add (pe_op op_mul (pv 6) (pe_op op_add (pe_op op_mul pe_int (pv 3)) pe_int)) (pe_op op_mul (pe_op op_mul pe_int (pv 3)) (pv 3))) pe_int) pe_int) pa_nil)) pe_int))
  (pss_one (ps_ret (pe_op op_modN (pe_callTy call_int1 (by rfl) T.z_int (by decide +kernel) (pa_cons (pe_op op_fdivW (pv 6) pe_int) pa_nil)) (pv 1)))))))))))), ?_⟩
    -- if pen[2] > 0
    refine ⟨.ref p, rfl, p, _, 2, .int g, rfl, rfl, .of hp, atI_nat (j := 2) rfl, _, _, rfl, rfl, _, rfl, ite2 (fun e => ?_) (fun e => ?_)⟩
    · have hg : (0 : Int) < g := of_decide_eq_true e
      -- digit = int(pen[2]) % many
      refine ⟨.ref p, rfl, p, _, 2, .int g, rfl, rfl, .of hp, atI_nat (j := 2) rfl, .inl ⟨g, rfl, .int many, rfl, g, many, rfl, rfl, by omega, ?_⟩⟩
      -- pen[2] = int(pen[2]) // many
      refine ⟨.ref p, rfl, p, _, 2, .int g, rfl, rfl, .of hp, atI_nat (j := 2) rfl, .inl ⟨g, rfl, .int many, rfl, g, many, rfl, rfl, wide_div (b := 60) (by omega) (by omega) (by omega) (by omega), .ref p, rfl, p, _, 2, 2, rfl, rfl, hp, rfl, ?_⟩⟩
      refine ⟨_, rfl, q _ _ (fmod_lo _ h1) (fmod_lt _ h1) (pen_set hp hc ncp hl n0 (by omega) (Int.ediv_nonneg g0 (by omega))) (but_upd _ _)⟩
    · -- at = pen[1]; pen[1] = at + 1
      refine ⟨.ref p, rfl, p, _, 1, .int n, rfl, rfl, .of hp, atI_nat (j := 1) rfl, ?_⟩
      refine ⟨.int n, rfl, n, 1, rfl, rfl, .ref p, rfl, p, _, 1, 1, rfl, rfl, hp, rfl, ?_⟩
      generalize hH1 : upd H p (.lst ([V.ref c, .int n, .int g].set 1 (.int (n + 1)))) = H1
      have hp1 : H1 p = some (.lst [.ref c, .int (n + 1), .int g]) := by
        rw [← hH1, upd_same]
        rfl
      have hc1 : H1 c = some (.lst (ns.map V.int)) := by
        rw [← hH1, upd_ne ncp]
        exact hc
      have hb1 : But p H H1 := by
        rw [← hH1]
        exact but_upd _ _
      -- cell = C * at + D
      refine ⟨.int n, rfl, _, n, rfl, rfl, .inl (by decide), _, _, rfl, rfl, ?_⟩
      -- if pen[0] != []
      refine ⟨.ref p, rfl, p, _, 0, .ref c, rfl, rfl, .of hp1, atI_nat (j := 0) rfl, Nat.zero_le _, fun o no => ?_⟩
      have hpo : p ≠ o := ne_of_none hp1 no
      have hco : c ≠ o := ne_of_none hc1 no
      refine ⟨.list (ns.map .int), .list [], .lst (.of ((upd_ne hco).trans hc1)) (dp_ints ns), .lst (.of upd_same) .nil, PySem.W.ke_shaped_ints ns, PySem.W.ke_shaped_ints [], _, rfl, ?_⟩
      generalize hH2 : upd H1 o (.lst []) = H2
      have hp2 : H2 p = some (.lst [.ref c, .int (n + 1), .int g]) := by
        rw [← hH2, upd_ne hpo]
        exact hp1
      have hc2 : H2 c = some (.lst (ns.map V.int)) := by
        rw [← hH2, upd_ne hco]
        exact hc1
      have hb2 : But p H H2 := by
        rw [← hH2]
        exact hb1.trans (but_new no)
      -- cell = pen[0][int(at) % len(pen[0])]
      refine ite2 (fun e2 => ?thn) (fun e2 => ?els)
      case' els =>
        dsimp only
        generalize ((_ : Int) * n + _ : Int) = cell
      case' thn =>
        have hn : ns ≠ [] := fun z => by
          subst z
          cases e2
        have hln : 0 < ns.length := List.length_pos_iff.mpr hn
        have hz : ((ns.map V.int).length : Int) = ns.length := by rw [List.length_map]
        have hj0 : 0 ≤ n.fmod (ns.map V.int).length := fmod_lo _ (by omega)
        have hj1 : n.fmod (ns.map V.int).length < ns.length := hz ▸ fmod_lt _ (by omega)
        have hat : atI (ns.map V.int) (n.fmod (ns.map V.int).length) = some (.int (ns.getD (n.fmod (ns.map V.int).length).toNat 0)) := by
          have := atI_nat (xs := ns.map V.int) (j := (n.fmod (ns.map V.int).length).toNat) (v := .int (ns.getD (n.fmod (ns.map V.int).length).toNat 0)) (by
            rw [List.getElem?_map, List.getD_eq_getElem?_getD, List.getElem?_eq_getElem (by omega)]
            rfl)
          rw [Int.toNat_of_nonneg hj0] at this
          exact this
        refine ⟨.ref p, rfl, p, _, 0, .ref c, rfl, rfl, .of hp2, atI_nat (j := 0) rfl, .int n, rfl, .inl ⟨n, rfl, .ref p, rfl, p, _, 0, .ref c, rfl, rfl, .of hp2, atI_nat (j := 0) rfl, c, _, rfl, .inl (.of hc2), n, _, rfl, rfl, by omega, c, _, _, _, rfl, rfl, .of hc2, hat, ?_⟩⟩
        clear hat hj1 hj0
        generalize ns.getD (n.fmod (ns.map V.int).length).toNat 0 = cell
      all_goals
        -- if at < len(pen[0]) and abs(cell) >= 10 ** 18
        refine ⟨.int n, rfl, .ref p, rfl, p, _, 0, .ref c, rfl, rfl, .of hp2, atI_nat (j := 0) rfl, c, _, rfl, .inl (.of hc2), n, _, rfl, rfl, _, rfl, ite2 (fun e3 => ?_) (fun e3 => ?_)⟩
        · refine ⟨.int cell, rfl, cell, rfl, 10, 18, rfl, rfl, ⟨by decide, by decide, by decide⟩, _, _, rfl, rfl, _, rfl, ite2 (fun e4 => ?_) (fun e4 => ?_)⟩
          · -- great = 2 * (abs(cell) - 10 ** 18) + int(cell < 0)
            have hbig : (10 : Int) ^ 18 ≤ if cell < 0 then -cell else cell := of_decide_eq_true e4
            refine ⟨.int cell, rfl, cell, rfl, 10, 18, rfl, rfl, ⟨by decide, by decide, by decide⟩, _, _, rfl, rfl, 2, _, rfl, rfl, .inl (by decide), .int cell, rfl, _, _, rfl, rfl, .inr ⟨_, rfl, _, _, rfl, rfl, ?_⟩⟩
            have hgr : ∀ k : Bool, 0 ≤ 2 * ((if cell < 0 then -cell else cell) - (10 : Int) ^ (18 : Int).toNat) + (if k = true then 1 else 0) := fun k => by
              have : (10 : Int) ^ (18 : Int).toNat = (10 : Int) ^ 18 := rfl
              rw [this]
              cases k <;> simp <;> omega
            refine ⟨_, rfl, .inl ⟨_, rfl, .int many, rfl, _, many, rfl, rfl, wide_div (b := 60) (by omega) (by omega) (by omega) (by omega), .ref p, rfl, p, _, 2, 2, rfl, rfl, hp2, rfl, ?_⟩⟩
            refine ⟨_, rfl, .inl ⟨_, rfl, .int many, rfl, _, many, rfl, rfl, by omega, ?_⟩⟩
            exact q _ _ (fmod_lo _ h1) (fmod_lt _ h1) (pen_set hp2 hc2 ncp hl (by omega) (by omega) (Int.ediv_nonneg (hgr _) (by omega))) (hb2.trans (but_upd _ _))
          · skip
            refine ⟨.int cell, rfl, .inl ⟨cell, rfl, cell, _, rfl, rfl, (by show (_ : Int) ≠ 0; decide), .int n, rfl, _, n, rfl, rfl, .inl (by decide), _, _, rfl, rfl, _, _, rfl, rfl, _, _, rfl, rfl, ⟨by decide, by decide, mix_bound (by decide) (by decide) (by decide) (by decide) (by decide) (by decide) n0 nm hm⟩, (.inl ⟨_, rfl, _, _, rfl, rfl, (by show (_ : Int) ≠ 0; decide), ?_⟩)⟩⟩
            refine ⟨_, rfl, .int n, rfl, 2, n, rfl, rfl, .inl (by decide), _, _, rfl, rfl, _, _, rfl, rfl, .inl (fmod_64 (by decide) (by decide)), .int n, rfl, _, n, rfl, rfl, .inl (by decide), .int n, rfl, _, n, rfl, rfl, .inr ⟨by omega, by omega⟩, _, _, rfl, rfl, _, _, rfl, rfl, _, _, rfl, rfl, ⟨by decide, by decide, mix_bound2 (by decide) (by decide) (by decide) (by decide) (by decide) (by decide) (fmod_lo _ (by decide)) (fmod_32 (by decide) (by decide)) n0 nm hm⟩, (.inl ⟨_, rfl, _, _, rfl, rfl, (by show (_ : Int) ≠ 0; decide), ?_⟩)⟩
            refine ⟨_, rfl, _, 32, rfl, rfl, ⟨by decide, by decide⟩, .inl ⟨_, rfl, .int many, rfl, _, many, rfl, rfl, by omega, ?_⟩⟩
            exact q _ _ (fmod_lo _ h1) (fmod_lt _ h1) ⟨ns, n + 1, g, hp2, hc2, ncp, hl, by omega, by omega, g0⟩ hb2
        · skip
          refine ⟨.int cell, rfl, .inl ⟨cell, rfl, cell, _, rfl, rfl, (by show (_ : Int) ≠ 0; decide), .int n, rfl, _, n, rfl, rfl, .inl (by decide), _, _, rfl, rfl, _, _, rfl, rfl, _, _, rfl, rfl, ⟨by decide, by decide, mix_bound (by decide) (by decide) (by decide) (by decide) (by decide) (by decide) n0 nm hm⟩, (.inl ⟨_, rfl, _, _, rfl, rfl, (by show (_ : Int) ≠ 0; decide), ?_⟩)⟩⟩
          refine ⟨_, rfl, .int n, rfl, 2, n, rfl, rfl, .inl (by decide), _, _, rfl, rfl, _, _, rfl, rfl, .inl (fmod_64 (by decide) (by decide)), .int n, rfl, _, n, rfl, rfl, .inl (by decide), .int n, rfl, _, n, rfl, rfl, .inr ⟨by omega, by omega⟩, _, _, rfl, rfl, _, _, rfl, rfl, _, _, rfl, rfl, ⟨by decide, by decide, mix_bound2 (by decide) (by decide) (by decide) (by decide) (by decide) (by decide) (fmod_lo _ (by decide)) (fmod_32 (by decide) (by decide)) n0 nm hm⟩, (.inl ⟨_, rfl, _, _, rfl, rfl, (by show (_ : Int) ≠ 0; decide), ?_⟩)⟩
          refine ⟨_, rfl, _, 32, rfl, rfl, ⟨by decide, by decide⟩, .inl ⟨_, rfl, .int many, rfl, _, many, rfl, rfl, by omega, ?_⟩⟩
          exact q _ _ (fmod_lo _ h1) (fmod_lt _ h1) ⟨ns, n + 1, g, hp2, hc2, ncp, hl, by omega, by omega, g0⟩ hb2
theorem ok_pen (T : Top K mg) : FnOk P w K mg base CX0 (0 + 1) T.a__law_pen T.d__law_pen ["_law_script"] (spPen K) := by
  refine T.F__law_pen.ok sc_law_pen (fun vs H Q E h => ?_) (fun cdv A outer s H vs Q E hr h => ?_)
  · obtain ⟨a, ns, rfl, _⟩ := h
    rfl
  · obtain ⟨a, ns, rfl, hS, hl, q⟩ := h
    refine ⟨_, (pss_one (ps_ret (pe_lst (pa_cons (pe_callTy call_list_of (by rfl) T.z_list (by decide +kernel) (pa_cons (pe_slice sl_list (pv 0) po_none (po_some pe_int)) pa_nil)) (pa_cons pe_int (pa_cons pe_int pa_nil)))))), ?_⟩
    refine ⟨.ref a, rfl, 63, rfl, a, _, rfl, hS, fun c nc => ?_⟩
    refine ⟨c, _, rfl, .inl (.of upd_same), fun l nl => ?_⟩
    refine ⟨(by show 3 ≤ sizeLine; decide), fun p np => ?_⟩
    have e : cutV (ns.map V.int) none (some 63) = ns.map V.int := cut_all _ (by
      rw [List.length_map]
      exact hl)
    refine q p l _ (((same_new nc).trans (same_new nl)).trans (same_new np)) (((same_new nc).trans (same_new nl)).free np) ((same_new nc).free nl) ⟨ns, 0, 0, upd_same, ?_, ne_of_none upd_same np, hl, by omega, by omega, by omega⟩
    rw [upd_ne (ne_of_none upd_same np), upd_same, e]
theorem dok__law_draw (T : Top K mg) : FnD P w K mg base 1 T.a__law_draw T.d__law_draw ["_law_pen_here", "_law_many"] drawD := draw_of (ok_draw T)
theorem dok__law_pen (T : Top K mg) : FnD P w K mg base 1 T.a__law_pen T.d__law_pen ["_law_script"] penD := pen_of (ok_pen T)
end
section
variable {P : Program} {w : World} {K : PySem.W.Frag} {mg : Str → Option Value} {base : Heap}
def pickD : SpD := fun ds G Q _ => ∃ (p : Addr) (xs : List D) (m : Nat), ds = [.adr p, .lst xs] ∧ G p = some (.pen m) ∧ xs ≠ [] ∧ xs.length ≤ 1000 ∧ m ≤ 2 ^ 20 ∧ ∀ x ∈ xs, Q x (updG G p (.pen (m + 1)))
theorem dok__law_pick (T : Top K mg) : FnD P w K mg base 5 T.a__law_pick T.d__law_pick ["_law_pen_here", "_law_some"] pickD := by
  have G__law_draw := (dok__law_draw (P := P) (w := w) (base := base) T).mono (k := 2) (by decide)
  refine dfn (k := 4) T.F__law_pick sc_law_pick (fun ds G Q W h => ?_) (fun cdv A outer s H E B W hr tk => have hx := hx_of tk; ⟨_, (db_one (ds_ret (de_ix ix_seq ix_A (dv 1) (de_call G__law_draw (hr.mono (by decide)) (by rfl) T.g__law_draw T.F__law_draw.kp T.b__law_draw hx (da_cons (dv 0) (da_cons (de_callB call_len2 len_A (by rfl) T.z_len (by decide +kernel) (da_cons (dv 1) da_nil)) da_nil))) (fun _ _ => rfl)))), fun ds G Q h => ?_⟩)
  · obtain ⟨p, xs, m, rfl, _⟩ := h
    rfl
  · obtain ⟨p, xs, m, rfl, hG, hne, hl, hm, q⟩ := h
    have pos := List.length_pos_iff.mpr hne
    refine ⟨p, xs.length, m, rfl, hG, by omega, by omega, hm, fun r r0 r1 => ?_⟩
    obtain ⟨k, rfl⟩ := Int.eq_ofNat_of_zero_le r0
    have hk : k < xs.length := by omega
    have e : atI xs (k : Int) = some xs[k] := atI_nat (List.getElem?_eq_getElem hk)
    show (match atI xs (k : Int) with | some d => _ | none => _)
    rw [e]
    exact q _ (List.getElem_mem hk)
end
section
variable {P : Program} {w : World} {K : PySem.W.Frag} {mg : Str → Option Value} {base : Heap}
abbrev B29 : Int := 100000000000000000000000000000
/-- the pen at p, the dict at d -/
def SG (w : World) (G : Gm) (p d : Addr) (kv : KvI) (m : Nat) : Gm := updG (updG G d (.dln (rowH w) (kvD kv))) p (.pen m)
theorem SG_p {G : Gm} {p d : Addr} {kv : KvI} {m : Nat} : SG w G p d kv m p = some (.pen m) := updG_same
theorem SG_d {G : Gm} {p d : Addr} {kv : KvI} {m : Nat} (h : d ≠ p) : SG w G p d kv m d = some (.dln (rowH w) (kvD kv)) := (updG_ne h).trans updG_same
theorem SG_pen {G : Gm} {p d : Addr} {kv : KvI} {m m' : Nat} : updG (SG w G p d kv m) p (.pen m') = SG w G p d kv m' := updG_updG
theorem SG_dic {G : Gm} {p d : Addr} {kv kv' : KvI} {m : Nat} (h : d ≠ p) : updG (SG w G p d kv m) d (.dln (rowH w) (kvD kv')) = SG w G p d kv' m := by
  unfold SG
  rw [updG_comm (Ne.symm h), updG_updG]
/-- numbers of rows of one width -/
structure FoundK (n : Nat) (kv : KvI) : Prop where
  nd : (keys kv).Nodup
  row : ∀ r ∈ keys kv, OkR r ∧ r.length = n
  num : ∀ r ∈ keys kv, 1 ≤ cnt kv r ∧ cnt kv r ≤ B29
theorem FoundK.put {n : Nat} {kv : KvI} (h : FoundK n kv) {r : Row} {i : Int} (hr : OkR r) (hn : r.length = n) (i1 : 1 ≤ i) (ib : i ≤ B29) : FoundK n (putI kv r i) where
  nd := nodup_put h.nd
  row := fun s hs => by
    rcases mem_keys_put.mp hs with rfl | hs
    · exact ⟨hr, hn⟩
    · exact h.row s hs
  num := fun s hs => by
    rw [cnt_put]
    by_cases e : s = r
    · rw [if_pos e]
      exact ⟨i1, ib⟩
    · rw [if_neg e]
      exact h.num s ((mem_keys_put.mp hs).resolve_left e)
def rowsLD (w : World) : SpD := fun ds G Q _ => ∃ (p : Addr) (m n k : Nat), ds = [.adr p, .int n, .int k] ∧ G p = some (.pen m) ∧ 1 ≤ n ∧ n ≤ 3 ∧ k ≤ 20 ∧ m + 200 ≤ 2 ^ 20 ∧
  ∀ (d : Addr) (kv : KvI) (m' : Nat), G d = none → FoundK n kv → kv.length ≤ k → m' ≤ m + 200 → Q (.adr d) (SG w G p d kv m')
theorem dok__law_rows (T : Top K mg) : FnD P w K mg base 9 T.a__law_rows T.d__law_rows ["_law_pen_here", "_law_width", "_law_many"] (rowsLD w) := by
  have G__law_draw := (dok__law_draw (P := P) (w := w) (base := base) T).mono (k := 6) (by decide)
  have G__law_pick := (dok__law_pick (P := P) (w := w) (base := base) T).mono (k := 6) (by decide)
  refine dfn (k := 8) T.F__law_rows sc_law_rows (fun ds G Q W h => ?_) (fun cdv A outer s H E B W hr tk => have hx := hx_of tk; ⟨_, (db_cons (ds_set (i := 3) sc_law_rows.nd rfl (.inl rfl) de_dictM)
  (db_cons (ds_for (passes_of rfl) rfl (di_range1 (by rfl) T.z_range (da_cons (de_call G__law_draw (hr.mono (by decide)) (by rfl) T.g__law_draw T.F__law_draw.kp T.b__law_draw hx (da_cons (dv 0) (da_cons (de_add (dv 2) de_int) da_nil))) da_nil)) (dg_name (i := 4) sc_law_rows.nd rfl (.inl rfl))
    (db_cons (ds_set (i := 5) sc_law_rows.nd rfl (.inl rfl) (de_callTy call_tuple_of tup_A (by rfl) T.z_tuple (by decide +kernel) (da_cons (de_lcF (own := [("_law_spot", 6)]) (gV := gName 6) finA_l rfl sc_law_rows.nd (di_range1 (by rfl) T.z_range (da_cons (dv 1) da_nil)) (blkOk_by (own := [("_law_spot", 6)]) (N := N_law_rows) (sc := defScope s_law_rows) (by decide +kernel)) (cg_name (i := 6) (by decide)) (fun _ _ _ _ _ => (pg_name (i := 6) sc_law_rows.nd rfl (.inl rfl))) (fun _ _ _ _ _ _ => dts_nil) (fun _ _ _ _ _ _ => (de_call G__law_pick (hr.mono (by decide)) (by rfl) T.g__law_pick T.F__law_pick.kp T.b__law_pick hx0 (da_cons (dv 0) (da_cons (de_lst (da_cons de_non (da_cons de_int (da_cons de_int (da_cons de_int (da_cons (de_neg de_int) (da_cons (de_pow de_int de_int) (da_cons (de_call G__law_draw (hr.mono (by decide)) (by rfl) T.g__law_draw T.F__law_draw.kp T.b__law_draw hx0 (da_cons (dv 0) (da_cons de_int da_nil))) da_nil)))))))) da_nil))))) da_nil)))
  (db_one (ds_nput (Nat.lt_of_le_of_lt (Nat.add_le_add_left (by decide) _) (Room.units hr)) (dv 3) (dv 5) (de_call G__law_pick (hr.mono (by decide)) (by rfl) T.g__law_pick T.F__law_pick.kp T.b__law_pick hx (da_cons (dv 0) (da_cons (de_lst (da_cons de_int (da_cons de_int (da_cons de_int (da_cons de_int (da_cons (de_add de_int (de_call G__law_draw (hr.mono (by decide)) (by rfl) T.g__law_draw T.F__law_draw.kp T.b__law_draw hx (da_cons (dv 0) (da_cons de_int da_nil)))) (da_cons (de_pow de_int de_int) da_nil))))))) da_nil)))))))
  (db_one (ds_ret (dv 3))))), fun ds G Q h => ?_⟩)
  · obtain ⟨_, _, _, _, rfl, _⟩ := h
    rfl
  · obtain ⟨p, m, n, k, rfl, hG, n1, n2, hk20, hm, q⟩ := h
    intro d nd
    have dp : d ≠ p := fun e => by rw [e, hG] at nd; cases nd
    have e0 : updG G d (.dln (rowH w) []) = SG w G p d [] m := by
      unfold SG
      exact (updG_self ((updG_ne (Ne.symm dp)).trans hG)).symm
    show gNameD 3 (D.adr d) _ (updG G d (.dln (rowH w) [])) _
    rw [e0]
    refine ⟨p, _, m, rfl, SG_p, by omega, by omega, by omega, fun t t0 t1 => ?_⟩
    rw [SG_pen]
    have t1' : t < k + 1 := t1
    refine ⟨⟨by omega, by omega⟩, ?_⟩
    refine for_inv (n := t.toNat) (fun j δ G' => ∃ kv m' x4 x5 x6, G' = SG w G p d kv m' ∧ FoundK n kv ∧ kv.length ≤ j ∧ m' ≤ m + 1 + 8 * j ∧ δ = [some (.adr p), some (.int n), some (.int k), some (.adr d), x4, x5, x6]) _ 0 _ _ (by rw [range_len, Nat.zero_add]) (fun j δ G' e N he hj hI hN => ?_) ⟨[], m + 1, none, none, none, rfl, ⟨List.nodup_nil, (fun r hr => by cases hr), (fun r hr => by cases hr)⟩, Nat.le_refl _, by omega, rfl⟩ (fun δ G' hI => ?_)
    · obtain ⟨kv, m1, x4, x5, x6, eG, hk, hkl, hm1, eδ⟩ := hI
      subst eG eδ
      refine ⟨⟨by omega, by omega⟩, by rw [range_len, sizeLine_eq]; omega, ?_⟩
      show lcD _ _ _ _ _ (rangeD 0 _) [] (updG (updG G d (.dln (rowH w) (kvD kv))) p (.pen m1))
      refine lc_draws lD (fun l => okL l = true) p m1 2 _ (fun j2 dd hd m2 hm2 N2 hN2 => ?_) (fun xs hl hx m2 hm2 => ?_)
      · obtain ⟨hj2, _⟩ := range_at hd
        refine ⟨⟨by decide, by decide, by decide⟩, ?_⟩
        refine ⟨p, 30, m2, rfl, updG_same, by decide, by decide, by omega, fun r r0 r1 => ?_⟩
        rw [updG_updG]
        refine ⟨by show 7 ≤ sizeLine; rw [sizeLine_eq]; decide, p, _, m2 + 1, rfl, updG_same, by simp, by show 7 ≤ 1000; decide, by omega, fun x hx => ?_⟩
        rw [updG_updG]
        have : ∃ l, x = lD l ∧ okL l = true := by
          simp only [List.mem_cons, List.not_mem_nil, or_false] at hx
          rcases hx with rfl | rfl | rfl | rfl | rfl | rfl | rfl
          · exact ⟨.none, rfl, rfl⟩
          all_goals exact ⟨.num _, rfl, rfl⟩
        obtain ⟨l, rfl, hl⟩ := this
        exact hN2 l hl _ (by omega)
      · rw [range_len] at hl hm2
        have ln : xs.length = n := by rw [hl]; exact Int.toNat_natCast n
        have mn : m2 ≤ m1 + 6 := by
          have : (n : Int).toNat = n := Int.toNat_natCast n
          omega
        have okr : OkR xs := ⟨by omega, by omega, hx⟩
        refine ⟨p, 50, m2, rfl, updG_same, by decide, by decide, by omega, fun r r0 r1 => ?_⟩
        rw [updG_updG]
        refine ⟨⟨by decide, by decide, by decide⟩, ?_⟩
        refine ⟨by show 6 ≤ sizeLine; rw [sizeLine_eq]; decide, p, _, m2 + 1, rfl, updG_same, by simp, by show 6 ≤ 1000; decide, by omega, fun x hx2 => ?_⟩
        rw [updG_updG]
        have : ∃ i : Int, x = .int i ∧ 1 ≤ i ∧ i ≤ B29 := by
          simp only [List.mem_cons, List.not_mem_nil, or_false] at hx2
          have hB : (60 : Int) < B29 := by decide
          rcases hx2 with rfl | rfl | rfl | rfl | rfl | rfl
          · exact ⟨1, rfl, by decide, by decide⟩
          · exact ⟨1, rfl, by decide, by decide⟩
          · exact ⟨2, rfl, by decide, by decide⟩
          · exact ⟨3, rfl, by decide, by decide⟩
          · exact ⟨1 + r, rfl, by omega, by omega⟩
          · exact ⟨(10 : Int) ^ 29, rfl, by decide, by decide⟩
        obtain ⟨i, rfl, i1, ib⟩ := this
        refine ⟨d, rfl, ?_⟩
        show (match SG w G p d kv (m2 + 1 + 1) d, rowD? (rowT xs) with | some (.dln hf kvs), some k => _ | _, _ => False)
        rw [SG_d dp, rowD_T]
        refine ⟨rfl, by rw [kvD_len]; omega, ?_⟩
        show N _ (updG (SG w G p d kv (m2 + 1 + 1)) d (.dln (rowH w) (putR (kvD kv) xs (.int i))))
        rw [putR_kvD, SG_dic dp]
        refine hN _ _ ⟨_, _, _, _, _, rfl, hk.put okr ln i1 (by omega), by have := len_put (kv := kv) (r := xs) (n := i); omega, by omega, rfl⟩
    · obtain ⟨kv, m1, x4, x5, x6, eG, hk, hkl, hm1, eδ⟩ := hI
      subst eG eδ
      exact q d kv m1 nd hk (by omega) (by omega)
end
section
variable {P : Program} {w : World} {K : PySem.W.Frag} {mg : Str → Option Value} {base : Heap}
theorem vok_Bag___getitem__ (T : Top K mg) : FnOk P w K mg base CX0 (2 + 1) T.a_Bag___getitem__ T.d_Bag___getitem__ ["self", "at"] (spGetT K T.C_Bag "_pairs") := by
  refine T.F_Bag___getitem__.ok scBag___getitem__ (fun vs H Q E h => ?_) (fun cdv A outer s H vs Q E hr h => ?_)
  · obtain ⟨a, dx, fs, t, xs, y, rfl, _⟩ := h
    rfl
  · obtain ⟨a, dx, fs, t, xs, y, rfl, ha, hf, ht, h⟩ := h
    refine ⟨_, (pss_one (ps_ret (pe_ix (IxR.or (ixT rfl) ix_slc) (pe_fld (pv 0) rfl) (pv 1) (fun _ _ => rfl)))), ?_⟩
    refine ⟨.ref a, rfl, a, T.C_Bag, dx, fs, .ref t, rfl, ha, T.cl_Bag, T.na_Bag__pairs, hf, y, rfl, ?_⟩
    rcases h with ⟨i, v, rfl, hi, q⟩ | ⟨sl, lo, hi, rfl, hs, q0, q1⟩
    · exact .inl ⟨t, xs, i, v, rfl, rfl, .of ht, hi, q⟩
    · exact .inr ⟨t, xs, sl, lo, hi, rfl, rfl, ht, hs, q0, q1⟩
/-- whether it is in a bag, whatever is asked -/
inductive inX (C : Addr) (w : World) (ds : List D) (G : Gm) (Q : QD) (W : WD) : Prop
  | mk (kv : KvI) (d : D) (e : ds = [bagD C w kv, d]) (ht : ToldT d G) (q0 : ∀ r, d = rowT r → OkR r → Q (.bl (decide (0 < cnt kv r))) G) (q1 : isRow d = false → Q (.bl false) G)
theorem dok_Bag___contains__ (T : Top K mg) : FnD P w K mg base 20 T.a_Bag___contains__ T.d_Bag___contains__ ["self", "x"] (inX T.C_Bag w) := by
  have G_Bag_often := (dok_Bag_often (P := P) (w := w) (base := base) T).mono (k := 17) (by decide)
  refine dfn (k := 19) T.F_Bag___contains__ scBag___contains__ (fun ds G Q W h => ?_) (fun cdv A outer s H E B W hr tk => have hx := hx_of tk; ⟨_, (db_one (ds_ret (de_cmp op_gt gt_A (de_meth (dv 0) T.cl_Bag T.me_Bag_often G_Bag_often (hr.mono (by decide)) T.b_Bag_often hx (da_cons (dv 1) da_nil)) de_int (nomark _)))), fun ds G Q h => ?_⟩)
  · obtain ⟨_, _, rfl, _⟩ := h
    rfl
  · obtain ⟨kv, d, rfl, ht, q0, q1⟩ := h
    refine ⟨rfl, rfl, .mk kv d rfl ht (fun r e ho => ?_) fun z => ?_⟩
    · exact q0 r e ho
    · exact q1 z
theorem in_row {C : Addr} {kv : KvI} {r : Row} {G : Gm} {Q : QD} {W : WD} (ho : OkR r) (q : Q (.bl (decide (0 < cnt kv r))) G) : inX C w [bagD C w kv, rowT r] G Q W :=
  ⟨kv, rowT r, rfl, toldT_row ho, fun r' e _ => by
    have := rowD_T r
    rw [e, rowD_T r'] at this
    rw [Option.some.inj this]
    exact q, fun z => absurd (isRow_T ho) (by rw [z]; decide)⟩
theorem FoundK.bagK {n : Nat} {kv : KvI} (h : FoundK n kv) (hl : kv.length ≤ 60) : BagK n (keys kv) kv := ⟨h.nd, fun r hr => ⟨(h.row r hr).1, (h.row r hr).2, hr⟩, fun r hr => by
  have := h.num r hr
  have hB : BIG = 10 * B29 ∧ 0 < B29 := by decide
  omega, hl⟩
/-- a bag with the numbers kv: its pairs are those of kv -/
theorem IsBag.at_ {C : Addr} {n : Nat} {L : List Row} {kv : KvI} {d : D} (h : IsBag C w n L (cnt kv) d) (hk : FoundK n kv) (hl : kv.length ≤ 60) : ∃ kv', d = bagD C w kv' ∧ BagK n L kv' ∧ psK kv' = psK kv ∧ ∀ r, cnt kv' r = cnt kv r := by
  obtain ⟨kv', rfl, hk', e⟩ := h
  exact ⟨kv', rfl, hk', (psK_same hk' (hk.bagK hl)).mpr e, e⟩
end
section
variable {P : Program} {w : World} {K : PySem.W.Frag} {mg : Str → Option Value} {base : Heap}
def keyL : PySem.Leaf → D
  | .none => .tup [.bl true, .int 0]
  | .num i => .tup [.bl false, .int i]
  | _ => .tup [.bl false, .int 0]
def keyR (r : Row) : D := .lst (r.map keyL)
def keyX : SpD := fun ds G Q _ => ∃ r : Row, ds = [rowT r] ∧ OkRs r ∧ r.length ≤ 1000 ∧ Q (keyR r) G
theorem dok__law_key (T : Top K mg) : FnD P w K mg base 4 T.a__law_key T.d__law_key ["_law_row"] keyX := by
  refine dfn (k := 3) T.F__law_key sc_law_key (fun ds G Q W h => ?_) (fun cdv A outer s H E B W hr tk => have hx := hx_of tk; ⟨_, (db_one (ds_ret (de_lcF (own := [("_law_value", 1)]) (gV := gName 1) finA_l rfl sc_law_key.nd (di_tup (dv 0)) (blkOk_by (own := [("_law_value", 1)]) (N := N_law_key) (sc := defScope s_law_key) (by decide +kernel)) (cg_name (i := 1) (by decide)) (fun _ _ _ _ _ => (pg_name (i := 1) sc_law_key.nd rfl (.inl rfl))) (fun _ _ _ _ _ _ => dts_nil) (fun _ _ _ _ _ _ => (de_tup (da_cons (de_cmp op_isN isN_A (dv 1) de_non (nomark _)) (da_cons (de_if (dt_cmp op_isN isN_A (dv 1) de_non (nomark _)) de_int (dv 1)) da_nil))))))), fun ds G Q h => ?_⟩)
  · obtain ⟨_, rfl, _⟩ := h
    rfl
  · obtain ⟨r, rfl, hr, hl, q⟩ := h
    have z2 : 2 ≤ sizeLine := by rw [sizeLine_eq]; decide
    refine ⟨by rw [List.length_map, sizeLine_eq]; omega, ?_⟩
    refine lc_f0 lD keyL r [] (fun l hl N hN => ?_) ?_
    · have ho := hr l hl
      cases l with
      | none => exact ⟨z2, hN⟩
      | num i => exact ⟨z2, hN⟩
      | _ => cases ho
    · exact q
theorem toP_keyL {l : PySem.Leaf} : ∃ b i, toP (keyL l) = .tuple [.bool b, .int i] := by
  cases l <;> (simp only [keyL, toP, toPs]; exact ⟨_, _, rfl⟩)
theorem isP_keyL {l : PySem.Leaf} : Pl 1 (keyL l) := by
  cases l <;> exact pl_tup (pl_cons pl_bl (pl_cons pl_int pl_nil))
theorem pl_keyR {r : Row} : Pl 2 (keyR r) := pl_lst (pl_map fun _ _ => isP_keyL)
theorem alike_keyL {a b : PySem.Leaf} : PySem.W.alike (toP (keyL a)) (toP (keyL b)) = true := by
  obtain ⟨p, i, e⟩ := toP_keyL (l := a)
  obtain ⟨q, j, e2⟩ := toP_keyL (l := b)
  rw [e, e2]
  simp [PySem.W.alike, PySem.W.alikeAll]
theorem alike_keys : ∀ a b : Row, PySem.W.alikeAll (toPs (a.map keyL)) (toPs (b.map keyL)) = true
  | [], b => by cases b <;> simp [toPs, PySem.W.alikeAll]
  | x :: a, [] => by simp [toPs, PySem.W.alikeAll]
  | x :: a, y :: b => by
    simp only [List.map_cons, toPs, PySem.W.alikeAll, alike_keyL, alike_keys a b, Bool.and_self]
theorem eqv_keyL {a b : PySem.Leaf} (ha : okL a = true) (hb : okL b = true) : PyData.eqv (toP (keyL a)) (toP (keyL b)) = decide (a = b) := by
  cases a with
  | none =>
    cases b with
    | none => simp [keyL, toP, toPs, PyData.eqv, PyData.eqvAll]
    | num j => simp [keyL, toP, toPs, PyData.eqv, PyData.eqvAll]
    | _ => cases hb
  | num i =>
    cases b with
    | none => simp [keyL, toP, toPs, PyData.eqv, PyData.eqvAll]
    | num j =>
      simp [keyL, toP, toPs, PyData.eqv, PyData.eqvAll]
      rw [Bool.eq_iff_iff]
      simp
    | _ => cases hb
  | _ => cases ha
theorem lt_keyL {a b : PySem.Leaf} (ha : okL a = true) (hb : okL b = true) (h : a ≠ b) : PySem.W.dataLt (toP (keyL a)) (toP (keyL b)) = vB a b := by
  have two : ∀ (p q : Bool) (i j : Int), PySem.W.dataLt (.tuple [.bool p, .int i]) (.tuple [.bool q, .int j]) = if p = q then (if i = j then false else decide (i < j)) else decide (b2i p < b2i q) := fun p q i j => by
    rw [PySem.W.dataLt_tuple]
    by_cases e : p = q
    · rw [if_pos e, PySem.W.dataLt_all_yes (by simp [PySem.W.alike]) (by simp [PyData.eqv, e])]
      by_cases e2 : i = j
      · rw [if_pos e2, PySem.W.dataLt_all_yes (by simp [PySem.W.alike]) (by simp [PyData.eqv, e2])]
        exact lex_irrefl (O := itemOrd) _
      · rw [if_neg e2, PySem.W.dataLt_all_no (by simp [PySem.W.alike]) (by simp [PyData.eqv, e2]), PySem.W.dataLt_int]
    · rw [if_neg e, PySem.W.dataLt_all_no (by simp [PySem.W.alike]) (by simp [PyData.eqv, e]), PySem.W.dataLt_bool]
  cases a with
  | none =>
    cases b with
    | none => exact absurd rfl h
    | num j =>
      show PySem.W.dataLt (toP (.tup [.bl true, .int 0])) (toP (.tup [.bl false, .int j])) = _
      simp only [toP, toPs]
      rw [two]
      rfl
    | _ => cases hb
  | num i =>
    cases b with
    | none =>
      show PySem.W.dataLt (toP (.tup [.bl false, .int i])) (toP (.tup [.bl true, .int 0])) = _
      simp only [toP, toPs]
      rw [two]
      rfl
    | num j =>
      show PySem.W.dataLt (toP (.tup [.bl false, .int i])) (toP (.tup [.bl false, .int j])) = _
      simp only [toP, toPs]
      rw [two, if_pos rfl, if_neg (fun z => h (by rw [z]))]
      rfl
    | _ => cases hb
  | _ => cases ha
theorem lt_keyR : ∀ {a b : Row}, OkRs a → OkRs b → a.length = b.length → PyProof.Rows.lexLt itemOrd (PySem.W.keyToksAll (toPs (a.map keyL))) (PySem.W.keyToksAll (toPs (b.map keyL))) = rB a b
  | [], [], _, _, _ => lex_irrefl (O := itemOrd) _
  | [], _ :: _, _, _, e => by cases e
  | _ :: _, [], _, _, e => by cases e
  | x :: a, y :: b, ha, hb, e => by
    have ox := ha x List.mem_cons_self
    have oy := hb y List.mem_cons_self
    have ih := lt_keyR (a := a) (b := b) (fun l hl => ha l (List.mem_cons_of_mem _ hl)) (fun l hl => hb l (List.mem_cons_of_mem _ hl)) (by simpa using e)
    simp only [List.map_cons, toPs]
    unfold rB
    by_cases c : x = y
    · rw [if_pos c, PySem.W.dataLt_all_yes alike_keyL (by rw [eqv_keyL ox oy]; exact decide_eq_true c)]
      exact ih
    · rw [if_neg c, PySem.W.dataLt_all_no alike_keyL (by rw [eqv_keyL ox oy]; exact decide_eq_false c)]
      exact lt_keyL ox oy c
theorem lt_rows {a b : Row} {G : Gm} {Q : QD} (ha : OkRs a) (hb : OkRs b) (e : a.length = b.length) (q : Q (.bl (rB a b)) G) : ltPD (keyR a) (keyR b) G Q := by
  refine ⟨toP (keyR a), toP (keyR b), dp_toP pl_keyR.p, dp_toP pl_keyR.p, ?_, ?_, ?_, ?_⟩
  · simp only [keyR, toP, PySem.W.alike]
    exact alike_keys a b
  · simp only [keyR, toP]
    intro z
    cases z
  · have := (pl_keyR (r := a)).h
    omega
  · have el : PySem.W.dataLt (toP (keyR a)) (toP (keyR b)) = rB a b := by
      simp only [keyR, toP]
      rw [PySem.W.dataLt_list]
      exact lt_keyR ha hb e
    rw [el]
    exact q
/-- a row put in its place -/
def insR (r : Row) (found : List Row) : List Row := (found.filter fun o => rB o r) ++ [r] ++ found.drop (found.filter fun o => rB o r).length
theorem ins_cut {n : Nat} {r : Row} (hr : OkRs r ∧ r.length = n) : ∀ {found : List Row}, Wd n found → found.Pairwise rLe → found = (found.filter fun o => rB o r) ++ found.drop (found.filter fun o => rB o r).length ∧ ∀ y ∈ found.drop (found.filter fun o => rB o r).length, rB y r = false
  | [], _, _ => ⟨rfl, fun y hy => by simp at hy⟩
  | x :: xs, w, h => by
    have wx := w x List.mem_cons_self
    have wt : Wd n xs := fun y hy => w y (List.mem_cons_of_mem _ hy)
    have h2 := List.pairwise_cons.mp h
    by_cases c : rB x r = true
    · obtain ⟨e, k⟩ := ins_cut hr (found := xs) wt h2.2
      rw [List.filter_cons_of_pos (p := fun o => rB o r) c]
      refine ⟨?_, fun y hy => k y (by simpa using hy)⟩
      show x :: xs = x :: ((xs.filter fun o => rB o r) ++ xs.drop (xs.filter fun o => rB o r).length)
      rw [← e]
    · have cf : rB x r = false := by simpa using c
      have all : ∀ y ∈ x :: xs, rB y r = false := fun y hy => by
        rcases List.mem_cons.mp hy with rfl | hy
        · exact cf
        · cases q : rB y r with
          | false => rfl
          | true =>
            have wy := wt y hy
            have xy : rLe x y := h2.1 y hy
            have : rLe y r := rB_asym wy.1 hr.1 q
            have yr : rLe x r := rLe_trans wx.1 wy.1 hr.1 (by rw [wx.2, wy.2]) (by rw [wy.2, hr.2]) xy this
            -- r is not before x, x not before r: equal; then y is before x
            have rx : rLe r x := cf
            have er := rLe_anti hr.1 wx.1 (by rw [hr.2, wx.2]) rx yr
            rw [er] at q
            rw [show rB y x = false from xy] at q
            cases q
      have en : (x :: xs).filter (fun o => rB o r) = [] := List.filter_eq_nil_iff.mpr fun y hy => by rw [all y hy]; decide
      rw [en]
      exact ⟨rfl, all⟩
theorem ins_perm {n : Nat} {r : Row} (hr : OkRs r ∧ r.length = n) {found : List Row} (w : Wd n found) (h : found.Pairwise rLe) : (insR r found).Perm (r :: found) := by
  obtain ⟨e, _⟩ := ins_cut hr w h
  unfold insR
  rw [List.append_assoc]
  refine List.perm_middle.trans ?_
  show (r :: ((found.filter fun o => rB o r) ++ found.drop (found.filter fun o => rB o r).length)).Perm _
  rw [← e]
theorem ins_sorted {n : Nat} {r : Row} (hr : OkRs r ∧ r.length = n) {found : List Row} (w : Wd n found) (h : found.Pairwise rLe) : (insR r found).Pairwise rLe := by
  obtain ⟨e, k⟩ := ins_cut hr w h
  have h' := h
  rw [e] at h'
  obtain ⟨h1, h2, h3⟩ := List.pairwise_append.mp h'
  unfold insR
  rw [List.append_assoc]
  refine List.pairwise_append.mpr ⟨h1, List.pairwise_cons.mpr ⟨fun y hy => k y hy, h2⟩, fun a ha b hb => ?_⟩
  rcases List.mem_cons.mp hb with rfl | hb
  · have wa := w a (List.mem_filter.mp ha).1
    exact rB_asym wa.1 hr.1 (List.mem_filter.mp ha).2
  · exact h3 a ha b hb
def orderX : SpD := fun ds G Q _ => ∃ (n : Nat) (xs : List Row), ds = [rowsD xs] ∧ Wd n xs ∧ n ≤ 1000 ∧ xs.length ≤ 60 ∧ xs.Nodup ∧ Q (rowsD (ordR 6 xs)) G
theorem dok__law_in_order (T : Top K mg) : FnD P w K mg base 8 T.a__law_in_order T.d__law_in_order ["_law_rows_here"] orderX := by
  have G__law_key := (dok__law_key (P := P) (w := w) (base := base) T).mono (k := 5) (by decide)
  refine dfn (k := 7) T.F__law_in_order sc_law_in_order (fun ds G Q W h => ?_) (fun cdv A outer s H E B W hr tk => have hx := hx_of tk; ⟨_, (db_cons (ds_set (i := 1) sc_law_in_order.nd rfl (.inl rfl) (de_lst da_nil))
  (db_cons (ds_for (passes_of rfl) rfl (di_list (dv 0)) (dg_name (i := 2) sc_law_in_order.nd rfl (.inr rfl))
    (db_cons (ds_setLcF (i := 3) (own := [("_law_other", 4)]) (gV := gName 4) finA_l rfl sc_law_in_order.nd rfl rfl (sw_true rfl rfl rfl (by decide +kernel)) (di_list (dv 1)) (blkOk_by (own := [("_law_other", 4)]) (N := N_law_in_order) (sc := defScope s_law_in_order) (by decide +kernel)) (cg_name (i := 4) (by decide)) (fun _ _ _ _ _ => (pg_name (i := 4) sc_law_in_order.nd rfl (.inl rfl))) (fun _ _ _ _ _ _ => (dts_one (dt_cmp (op_ltP (Room.units hr)) ltP_A (de_call G__law_key (hr.mono (by decide)) (by rfl) T.g__law_key T.F__law_key.kp T.b__law_key hx0 (da_cons (dv 4) da_nil)) (de_call G__law_key (hr.mono (by decide)) (by rfl) T.g__law_key T.F__law_key.kp T.b__law_key hx0 (da_cons (dv 2) da_nil)) (nomark _)))) (fun _ _ _ _ _ _ => (dv 4)))
  (db_one (ds_set (i := 1) sc_law_in_order.nd rfl (.inl rfl) (de_add (de_add (dv 3) (de_lst (da_cons (dv 2) da_nil))) (de_sl (dv 1) (do_some (de_callB call_len2 len_A (by rfl) T.z_len (by decide +kernel) (da_cons (dv 3) da_nil))) do_none))))))
  (db_one (ds_ret (dv 1))))), fun ds G Q h => ?_⟩)
  · obtain ⟨_, _, rfl, _⟩ := h
    rfl
  · obtain ⟨n, xs, rfl, hw, hn, hl, nd, q⟩ := h
    refine ⟨Nat.zero_le _, ?_⟩
    show forD _ _ _ (xs.map rowT) _ G
    refine (fun (key : ∀ (rs found : List Row) (x2 x3 x4 : Option D), (∀ r ∈ rs, OkRs r ∧ r.length = n) → Wd n found → found.Pairwise rLe → (found ++ rs).Perm xs → forD _ _ _ (rs.map rowT) [some (rowsD xs), some (rowsD found), x2, x3, x4] G) => key xs [] none none none hw (fun r hr => by cases hr) List.Pairwise.nil (.refl _)) ?_
    intro rs
    induction rs with
    | nil =>
      intro found x2 x3 x4 _ wf hs hp
      rw [List.append_nil] at hp
      have e : found = ordR 6 xs := by
        refine List.Perm.eq_of_pairwise (le := rLe) (fun x y hx hy h1 h2 => ?_) hs (ordR_sorted 6 xs hw (by omega)) (hp.trans (ordR_perm 6 xs).symm)
        have qx := wf x hx
        have qy := hw y ((ordR_perm 6 xs).mem_iff.mp hy)
        exact rLe_anti qx.1 qy.1 (by rw [qx.2, qy.2]) h1 h2
      rw [e]
      exact q
    | cons r rs ih =>
      intro found x2 x3 x4 hr wf hs hp
      have hr0 := hr r List.mem_cons_self
      have hpl := hp.length_eq
      rw [List.length_append, List.length_cons] at hpl
      have hfl : (found.filter fun o => rB o r).length ≤ found.length := List.length_filter_le _ _
      refine ⟨by rw [List.length_map, sizeLine_eq]; omega, ?_⟩
      refine lc_fm rowT (fun o => rB o r) rowT found [] (fun o ho acc N h1 h2 => ?_) ?_
      · have wo := wf o ho
        refine ⟨o, rfl, wo.1, by omega, r, rfl, hr0.1, by omega, ?_⟩
        refine lt_rows wo.1 hr0.1 (by rw [wo.2, hr0.2]) ?_
        cases c : rB o r with
        | true => exact h1 c
        | false => exact h2 c
      · rw [List.nil_append]
        refine ⟨by show 1 ≤ sizeLine; rw [sizeLine_eq]; decide, by show _ + 1 ≤ sizeLine; rw [List.length_map, sizeLine_eq]; omega, ?_⟩
        show ((((found.filter fun o => rB o r).map rowT ++ [rowT r]).length + (cutD (found.map rowT) (some ((((found.filter fun o => rB o r).map rowT).length : Nat) : Int)) none).length ≤ sizeLine) ∧
          gNameD 1 (.lst (((found.filter fun o => rB o r).map rowT ++ [rowT r]) ++ cutD (found.map rowT) (some ((((found.filter fun o => rB o r).map rowT).length : Nat) : Int)) none)) _ G _)
        rw [List.length_map (f := rowT), cut_from hfl]
        refine ⟨by
          rw [List.length_append, List.length_map, List.length_map, List.length_drop, sizeLine_eq]
          simp only [List.length_singleton]
          omega, ?_⟩
        have e : ((found.filter fun o => rB o r).map rowT ++ [rowT r]) ++ (found.drop (found.filter fun o => rB o r).length).map rowT = (insR r found).map rowT := by
          unfold insR
          rw [List.map_append, List.map_append]
          rfl
        rw [e]
        have pr := ins_perm hr0 wf hs
        refine ih (insR r found) _ _ _ (fun y hy => hr y (List.mem_cons_of_mem _ hy)) (fun y hy => ?_) (ins_sorted hr0 wf hs) ?_
        · rcases List.mem_cons.mp (pr.mem_iff.mp hy) with rfl | hy
          · exact hr0
          · exact wf y hy
        · exact ((pr.append_right rs).trans (List.perm_middle (l₁ := found)).symm).trans hp
end
section
variable {P : Program} {w : World} {K : PySem.W.Frag} {mg : Str → Option Value} {base : Heap}
theorem tot_app (r : Row) : ∀ a b : KvI, tot (a ++ b) r = tot a r + tot b r
  | [], b => by show _ = 0 + _; rw [Int.zero_add]; rfl
  | p :: a, b => by
    have ih := tot_app r a b
    show (if r = p.1 then p.2 else 0) + tot (a ++ b) r = (if r = p.1 then p.2 else 0) + tot a r + tot b r
    rw [ih, Int.add_assoc]
theorem tot_cut (r : Row) (ps : KvI) (i : Nat) : tot (ps.take i) r + tot (ps.drop i) r = tot ps r := by
  rw [← tot_app, List.take_append_drop]
theorem OkPs.app {n : Nat} {a b : KvI} (ha : OkPs n a) (hb : OkPs n b) : OkPs n (a ++ b) := fun p hp => (List.mem_append.mp hp).elim (ha p) (hb p)
theorem OkPs.take {n : Nat} {a : KvI} (h : OkPs n a) (i : Nat) : OkPs n (a.take i) := fun p hp => h p (List.mem_of_mem_take hp)
theorem OkPs.drop {n : Nat} {a : KvI} (h : OkPs n a) (i : Nat) : OkPs n (a.drop i) := fun p hp => h p (List.mem_of_mem_drop hp)
theorem FoundK.big {n : Nat} {kv : KvI} (h : FoundK n kv) {r : Row} (hr : r ∈ keys kv) : 1 ≤ cnt kv r ∧ cnt kv r ≤ BIG := by
  have := h.num r hr
  have hB : BIG = 10 * B29 ∧ 0 < B29 := by decide
  omega
def tornX (w : World) : SpD := fun ds G Q _ => ∃ (p : Addr) (m n : Nat) (kv : KvI), ds = [.adr p, .dln (rowH w) (kvD kv)] ∧ G p = some (.pen m) ∧ FoundK n kv ∧ kv.length ≤ 20 ∧ m + 100 ≤ 2 ^ 20 ∧
  ∀ (ps : KvI) (m' : Nat), OkPs n ps → ps.length ≤ 40 → (∀ r, tot ps r = cnt kv r) → m' ≤ m + 40 → Q (.lst (ps.map pairD)) (updG G p (.pen m'))
theorem dok__law_torn (T : Top K mg) : FnD P w K mg base 5 T.a__law_torn T.d__law_torn ["_law_pen_here", "_law_found"] (tornX w) := by
  have G__law_draw := (dok__law_draw (P := P) (w := w) (base := base) T).mono (k := 2) (by decide)
  refine dfn (k := 4) T.F__law_torn sc_law_torn (fun ds G Q W h => ?_) (fun cdv A outer s H E B W hr tk => have hx := hx_of tk; ⟨_, (db_cons (ds_set (i := 2) sc_law_torn.nd rfl (.inl rfl) (de_lst da_nil))
  (db_cons (ds_for (passes_of rfl) rfl (di_keysN (dv 1)) (dg_name (i := 3) sc_law_torn.nd rfl (.inl rfl))
    (db_cons (ds_set (i := 4) sc_law_torn.nd rfl (.inl rfl) (de_call G__law_draw (hr.mono (by decide)) (by rfl) T.g__law_draw T.F__law_draw.kp T.b__law_draw hx (da_cons (dv 0) (da_cons (de_callB (call_min2 (by rfl)) min2_A (by rfl) T.z_min (by decide +kernel) (da_cons (de_ngetW (w := w) rfl (Nat.lt_of_le_of_lt (Nat.add_le_add_left (by decide) _) (Room.units hr)) (dv 1) (dv 3) (fun _ _ => rfl)) (da_cons de_int da_nil))) da_nil))))
  (db_cons (ds_set (i := 5) sc_law_torn.nd rfl (.inl rfl) (de_add (de_lst (da_cons (de_tup (da_cons (dv 3) (da_cons (de_sub (de_ngetW (w := w) rfl (Nat.lt_of_le_of_lt (Nat.add_le_add_left (by decide) _) (Room.units hr)) (dv 1) (dv 3) (fun _ _ => rfl)) (dv 4)) da_nil))) da_nil)) (de_mul (de_lst (da_cons (de_tup (da_cons (dv 3) (da_cons (dv 4) da_nil))) da_nil)) (de_callTy call_int1 int_A (by rfl) T.z_int (by decide +kernel) (da_cons (de_cmp op_gt gt_A (dv 4) de_int (nomark _)) da_nil)))))
  (db_cons (ds_set (i := 6) sc_law_torn.nd rfl (.inl rfl) (de_call G__law_draw (hr.mono (by decide)) (by rfl) T.g__law_draw T.F__law_draw.kp T.b__law_draw hx (da_cons (dv 0) (da_cons (de_add (de_callB call_len2 len_A (by rfl) T.z_len (by decide +kernel) (da_cons (dv 2) da_nil)) de_int) da_nil))))
  (db_one (ds_set (i := 2) sc_law_torn.nd rfl (.inl rfl) (de_add (de_add (de_add (de_sl (dv 2) do_none (do_some (dv 6))) (de_sl (dv 5) do_none (do_some de_int))) (de_sl (dv 2) (do_some (dv 6)) do_none)) (de_sl (dv 5) (do_some de_int) do_none))))))))
  (db_one (ds_ret (dv 2))))), fun ds G Q h => ?_⟩)
  · obtain ⟨_, _, _, _, rfl, _⟩ := h
    rfl
  · obtain ⟨p, m, n, kv, rfl, hG, hk, hl, hm, q⟩ := h
    refine ⟨Nat.zero_le _, ?_⟩
    show forD _ _ _ ((kvD kv).map fun q => rowT q.1) _ G
    rw [kvD_rows]
    have hG0 : updG G p (.pen m) = G := updG_self hG
    refine (fun (key : ∀ (rs : List Row) (ps : KvI) (m1 : Nat) (x3 x4 x5 x6 : Option D), rs.Nodup → OkPs n ps → (∀ r ∈ rs, r ∈ keys kv ∧ tot ps r = 0) → (∀ r, r ∉ rs → tot ps r = cnt kv r) → ps.length + 2 * rs.length ≤ 40 → m1 + 2 * rs.length ≤ m + 40 →
      forD _ _ _ (rs.map rowT) [some (.adr p), some (.dln (rowH w) (kvD kv)), some (.lst (ps.map pairD)), x3, x4, x5, x6] (updG G p (.pen m1))) => by
      have := key (keys kv) [] m none none none none hk.nd (fun p hp => by cases hp) (fun r hr => ⟨hr, rfl⟩) (fun r h => (cnt_none h).symm) (by rw [keys_len]; simp; omega) (by rw [keys_len]; omega)
      rw [hG0] at this
      exact this) ?_
    intro rs
    induction rs with
    | nil =>
      intro ps m1 x3 x4 x5 x6 _ hp _ ht hlen hm1
      exact q ps m1 hp (by simpa using hlen) (fun r => ht r (by simp)) (by simpa using hm1)
    | cons r rs ih =>
      intro ps m1 x3 x4 x5 x6 nd hp hr ht hlen hm1
      rw [List.length_cons] at hlen hm1
      obtain ⟨hr0, tr0⟩ := hr r List.mem_cons_self
      have nd' := List.nodup_cons.mp nd
      obtain ⟨okr, wr⟩ := hk.row r hr0
      obtain ⟨i1, ib⟩ := hk.big hr0
      rw [List.map_cons]
      show gNameD 3 (rowT r) _ _ (fun δ1 G1 => dAsg _ _ _ δ1 G1)
      dsimp only [gNameD, dAsg]
      have z2 : 2 ≤ sizeLine := by rw [sizeLine_eq]; decide
      show (match dlnD (.dln (rowH w) (kvD kv)) (updG G p (.pen m1)), rowD? (rowT r) with | some (hf, kvs), some k => _ | _, _ => False)
      rw [rowD_T]
      refine ⟨rfl, ?_⟩
      rw [getR_in hr0]
      refine ⟨p, _, m1, rfl, updG_same, by split <;> omega, by split <;> omega, by omega, fun part p0 p1 => ?_⟩
      rw [updG_updG]
      have p9 : part < cnt kv r := by split at p1 <;> omega
      show (match dlnD (.dln (rowH w) (kvD kv)) (updG G p (.pen (m1 + 1))), rowD? (rowT r) with | some (hf, kvs), some k => _ | _, _ => False)
      rw [rowD_T]
      refine ⟨rfl, ?_⟩
      rw [getR_in hr0]
      have z1 : 1 ≤ sizeLine := Nat.le_trans (by decide) z2
      refine ⟨z2, z1, z2, z1, ?_⟩
      show mulD (.lst [pairD (r, part)]) (.int (if decide (part > 0) = true then 1 else 0)) _ (fun y G2 => addD (.lst [pairD (r, cnt kv r - part)]) y G2 _)
      generalize hc : (if decide (part > 0) = true then (1 : Int) else 0) = c
      have c01 : (c = 0 ∧ part = 0) ∨ (c = 1 ∧ 0 < part) := by
        by_cases h : part > 0
        · rw [decide_eq_true h, if_pos rfl] at hc
          exact .inr ⟨hc.symm, h⟩
        · rw [decide_eq_false h, if_neg (by decide)] at hc
          exact .inl ⟨hc.symm, by omega⟩
      obtain ⟨sm, es, s0, s2, okS, totS⟩ : ∃ sm : KvI, ([pairD (r, cnt kv r - part)] ++ (List.replicate c.toNat [pairD (r, part)]).flatten) = sm.map pairD ∧ 1 ≤ sm.length ∧ sm.length ≤ 2 ∧ OkPs n sm ∧ ∀ s, tot sm s = if s = r then cnt kv r else 0 := by
        rcases c01 with ⟨rfl, e0⟩ | ⟨rfl, e1⟩
        · refine ⟨[(r, cnt kv r - part)], rfl, Nat.le_refl _, Nat.le_succ 1, fun x hx => ?_, fun s => ?_⟩
          · rw [List.mem_singleton.mp hx]
            exact ⟨okr, wr, (show 1 ≤ cnt kv r - part by omega), (show cnt kv r - part ≤ BIG by omega)⟩
          · show (if s = r then cnt kv r - part else 0) + 0 = _
            split <;> omega
        · refine ⟨[(r, cnt kv r - part), (r, part)], rfl, Nat.le_succ 1, Nat.le_refl _, fun x hx => ?_, fun s => ?_⟩
          · simp only [List.mem_cons, List.not_mem_nil, or_false] at hx
            rcases hx with rfl | rfl
            · exact ⟨okr, wr, (show 1 ≤ cnt kv r - part by omega), (show cnt kv r - part ≤ BIG by omega)⟩
            · exact ⟨okr, wr, (show 1 ≤ part by omega), (show part ≤ BIG by omega)⟩
          · show (if s = r then cnt kv r - part else 0) + ((if s = r then part else 0) + 0) = _
            split <;> omega
      have lsm : ([pairD (r, cnt kv r - part)] ++ (List.replicate c.toNat [pairD (r, part)]).flatten).length ≤ 2 := by rw [es, List.length_map]; exact s2
      refine ⟨⟨by omega, by omega, ?_⟩, Nat.le_trans (by rw [← List.length_append]; exact lsm) z2, ?_⟩
      · rcases c01 with ⟨rfl, _⟩ | ⟨rfl, _⟩ <;> (first | exact Nat.zero_le _ | exact z1)
      rw [es]
      refine ⟨p, _, m1 + 1, rfl, updG_same, ?_, ?_, by omega, fun at_ a0 a1 => ?_⟩
      · show 1 ≤ ((ps.map pairD).length : Int) + 1
        omega
      · show ((ps.map pairD).length : Int) + 1 < 2 ^ 60
        rw [List.length_map]
        omega
      rw [updG_updG]
      obtain ⟨k, rfl⟩ := Int.eq_ofNat_of_zero_le a0
      have hkp : k ≤ ps.length := by
        have : (k : Int) < ((ps.map pairD).length : Int) + 1 := a1
        rw [List.length_map] at this
        omega
      show (cutD (ps.map pairD) none (some (k : Int))).length + (cutD (sm.map pairD) none (some ((1 : Nat) : Int))).length ≤ sizeLine ∧
        (cutD (ps.map pairD) none (some (k : Int)) ++ cutD (sm.map pairD) none (some ((1 : Nat) : Int))).length + (cutD (ps.map pairD) (some (k : Int)) none).length ≤ sizeLine ∧
        (cutD (ps.map pairD) none (some (k : Int)) ++ cutD (sm.map pairD) none (some ((1 : Nat) : Int)) ++ cutD (ps.map pairD) (some (k : Int)) none).length + (cutD (sm.map pairD) (some ((1 : Nat) : Int)) none).length ≤ sizeLine ∧
        gNameD 2 (.lst (cutD (ps.map pairD) none (some (k : Int)) ++ cutD (sm.map pairD) none (some ((1 : Nat) : Int)) ++ cutD (ps.map pairD) (some (k : Int)) none ++ cutD (sm.map pairD) (some ((1 : Nat) : Int)) none)) _ _ _
      rw [cut_upto hkp, cut_upto s0, cut_from hkp, cut_from s0]
      have len4 : ps.length + sm.length ≤ 1000 := by omega
      have lt := List.length_take (i := k) (l := ps)
      have ld := List.length_drop (i := k) (l := ps)
      have lt2 := List.length_take (i := 1) (l := sm)
      have ld2 := List.length_drop (i := 1) (l := sm)
      have hz := sizeLine_eq
      refine ⟨by rw [List.length_map, List.length_map]; omega, by rw [List.length_append, List.length_map, List.length_map, List.length_map]; omega, by rw [List.length_append, List.length_append, List.length_map, List.length_map, List.length_map, List.length_map]; omega, ?_⟩
      rw [← List.map_append, ← List.map_append, ← List.map_append]
      have tots : ∀ s, tot (ps.take k ++ sm.take 1 ++ ps.drop k ++ sm.drop 1) s = tot ps s + tot sm s := fun s => by
        rw [tot_app, tot_app, tot_app, ← tot_cut s ps k, ← tot_cut s sm 1]
        omega
      refine ih _ (m1 + 1 + 1) _ _ _ _ nd'.2 (((hp.take k).app (okS.take 1)).app (hp.drop k) |>.app (okS.drop 1)) (fun s hs => ⟨(hr s (List.mem_cons_of_mem _ hs)).1, ?_⟩) (fun s hs => ?_) ?_ (by omega)
      · rw [tots, (hr s (List.mem_cons_of_mem _ hs)).2, totS, if_neg (fun e => nd'.1 (by rw [← e]; exact hs))]
        rfl
      · rw [tots, totS]
        by_cases e : s = r
        · rw [if_pos e, e, tr0, Int.zero_add]
        · rw [if_neg e, Int.add_zero]
          exact ht s fun z => (List.mem_cons.mp z).elim e hs
      · rw [List.length_append, List.length_append, List.length_append]
        omega
end
section
variable {P : Program} {w : World} {K : PySem.W.Frag} {mg : Str → Option Value} {base : Heap}
theorem rgc3 {len : Nat} (h : len ≤ 1000) : RgC 0 (len : Int) 3 ((len + 2) / 3) := by
  have e : Builtin.Range.rangeSize 0 (len : Int) 3 = (((len + 2) / 3 : Nat) : Int) := by
    unfold Builtin.Range.rangeSize
    rw [if_pos (by decide)]
    split <;> omega
  refine ⟨by decide, by decide, ?_, e⟩
  have fits : ∀ i : Int, -(2 ^ 63) ≤ i → i < 2 ^ 63 → Builtin.Range.rangeFitsLong i = true := fun i a b => by
    unfold Builtin.Range.rangeFitsLong
    rw [decide_eq_true a, decide_eq_true b]
    rfl
  unfold Builtin.Range.small
  rw [e]
  rw [if_pos (show (3 : Int) > 0 by decide), fits 0 (by decide) (by decide), fits 3 (by decide) (by decide), fits (len : Int) (by omega) (by omega), fits _ (by omega) (by omega), fits ((len : Int) + (3 - 1)) (by omega) (by omega)]
  simp
theorem bagPX {C CB CT : Addr} {n : Nat} {ps : KvI} {δ : SD} {G : Gm} {Q : QD} {W : WD} {t : TAD} (ht : ∀ N : List D → Gm → Prop, N (ps.map pairD) G → t δ G N) (hp : OkPs n ps) (hl : ps.length ≤ 60) (fit : ∀ r, tot ps r ≤ BIG) (q : ∀ d', IsBag C w n (keys ps) (tot ps) d' → Q d' G) :
    dMake C (starD 1 (initX C CB CT w)) W t δ G Q := by
  refine make_bagM (es := ps.map pairD) ht (fun e he G => ?_) (by rw [List.length_map]; omega) (fun j hj => ?_) (fun n' ps' e hp' => ?_)
  · obtain ⟨x, hx, rfl⟩ := List.mem_map.mp he
    exact toldP_pair (hp x hx).1
  · rw [badPair_ok hp] at hj
    cases hj
  · obtain rfl : ps' = ps := (pairD_inj e).symm
    refine ⟨fun z => absurd (fun s _ => ?_) z, fun _ z => absurd z (by have := len_addAll ps' []; simp at this; omega), fun _ _ b hb => ?_⟩
    · rw [cnt_addAll]
      show 0 + _ ≤ BIG
      rw [Int.zero_add]
      exact fit s
    · cases ps' with
      | nil => exact q b (by
          have := IsBag.any (n' := n) hb fun r => rfl
          exact this)
      | cons x xs =>
        have en : n' = n := by rw [← (hp' x List.mem_cons_self).2.1, ← (hp x List.mem_cons_self).2.1]
        subst en
        exact q b hb
theorem IsBag.congr {C : Addr} {n : Nat} {L : List Row} {f g : Row → Int} {d : D} (h : IsBag C w n L f d) (e : ∀ r, f r = g r) : IsBag C w n L g d := by
  obtain ⟨kv, rfl, hk, hf⟩ := h
  exact ⟨kv, rfl, hk, fun r => by rw [hf r, e r]⟩
theorem bag0X {C CB CT : Addr} {n : Nat} {δ : SD} {G : Gm} {Q : QD} {W : WD} (q : ∀ d', IsBag C w n [] (fun _ => 0) d' → Q d' G) : dMake C (starD 1 (initX C CB CT w)) W dNil δ G Q :=
  bagPX (n := n) (ps := []) (fun N hN => hN) (fun p hp => by cases hp) (by simp) (fun r => by show (0 : Int) ≤ BIG; decide) fun d' h => q d' (h.congr fun r => rfl)
/-- one more bag added, all fits -/
theorem add_fit {C CT : Addr} {n : Nat} {L L' us : List Row} {f g : Row → Int} {d e : D} {G : Gm} {Q : QD} {W : WD} (hd : IsBag C w n L f d) (he : IsBag C w n L' g e) (fit : ∀ r, f r + g r ≤ BIG) (hu : ∀ r, f r + g r ≠ 0 → r ∈ us) (hl : us.length ≤ 60)
    (q : ∀ d' vs, IsBag C w n vs (fun r => f r + g r) d' → Q d' G) : ownD K C "add" (addX C CT w) W d e G Q := by
  refine add_bag hd he (fun ⟨r, hr⟩ => absurd (fit r) (by omega)) (fun _ vs nv hv hlv => ?_) (fun _ vs nv hv _ d' us h => q d' us h)
  exfalso
  have := nodup_sub_len (a := vs) (b := us) nv fun r hr => hu r ((hv r).mp hr)
  omega
theorem tot_in {ps : KvI} {r : Row} (h : tot ps r ≠ 0) : r ∈ keys ps := by
  false_or_by_contra
  rename_i n
  have e := cnt_addAll r ps []
  have n : cnt (addAll [] ps) r = 0 := cnt_none fun z => (keys_addAll ps []).mp z |>.elim (fun y => by cases y) n
  have z : cnt [] r = 0 := rfl
  omega
theorem drop3 {ps : KvI} {j : Nat} (h : 3 * j < ps.length) : (∃ a, (ps.drop (3 * j)).take 3 = [a]) ∨ (∃ a b, (ps.drop (3 * j)).take 3 = [a, b]) ∨ ∃ a b c, (ps.drop (3 * j)).take 3 = [a, b, c] := by
  have ne : 0 < (ps.drop (3 * j)).length := by rw [List.length_drop]; omega
  match ps.drop (3 * j), ne with
  | [a], _ => exact .inl ⟨a, rfl⟩
  | [a, b], _ => exact .inr (.inl ⟨a, b, rfl⟩)
  | a :: b :: c :: _, _ => exact .inr (.inr ⟨a, b, c, rfl⟩)
theorem cut3 {ps : KvI} {j : Nat} (h : 3 * j < ps.length) : cutD (ps.map pairD) (some ((3 * j : Nat) : Int)) (some ((3 * j + 3 : Nat) : Int)) = ((ps.drop (3 * j)).take 3).map pairD := by
  rw [cut_map]
  congr 1
  unfold cutD
  rw [HT.sIx_nat, HT.sIx_nat, Nat.min_eq_left (Nat.le_of_lt h)]
  rcases Nat.lt_or_ge ps.length (3 * j + 3) with h2 | h2
  · rw [Nat.min_eq_right (by omega), List.take_of_length_le (by rw [List.length_drop]; omega), List.take_of_length_le (by rw [List.length_drop]; omega)]
  · rw [Nat.min_eq_left h2, show 3 * j + 3 - 3 * j = 3 by omega]
theorem if_t {tt : TTD} {ta tb : TED} {δ : SD} {G : Gm} {Q : QD} (h : ∀ N : Bool → Gm → Prop, N true G → tt δ G N) (k : ta δ G Q) : dIf tt ta tb δ G Q := h _ k
theorem if_f {tt : TTD} {ta tb : TED} {δ : SD} {G : Gm} {Q : QD} (h : ∀ N : Bool → Gm → Prop, N false G → tt δ G N) (k : tb δ G Q) : dIf tt ta tb δ G Q := h _ k
def ofPairsX (C : Addr) (w : World) : SpD := fun ds G Q _ => ∃ (n : Nat) (ps : KvI), ds = [.lst (ps.map pairD)] ∧ OkPs n ps ∧ ps.length ≤ 60 ∧ (∀ r, tot ps r ≤ BIG) ∧ ∀ d' L, IsBag C w n L (tot ps) d' → Q d' G
theorem dok__law_of_pairs (T : Top K mg) : FnD P w K mg base 76 T.a__law_of_pairs T.d__law_of_pairs ["_law_pairs"] (ofPairsX T.C_Bag w) := by
  have G_Bag___init__ := (dok_Bag___init__ (P := P) (w := w) (base := base) T).mono (k := 73) (by decide)
  have G_Bag___add__ := (dok_Bag___add__ (P := P) (w := w) (base := base) T).mono (k := 73) (by decide)
  refine dfn (k := 75) T.F__law_of_pairs sc_law_of_pairs (fun ds G Q W h => ?_) (fun cdv A outer s H E B W hr tk => have hx := hx_of tk; ⟨_, (db_cons (ds_set (i := 1) sc_law_of_pairs.nd rfl (.inl rfl) (de_makeR0 T.mk_Bag T.gc_Bag G_Bag___init__ (hr.mono (by decide)) rfl T.g_Bag hx))
  (db_cons (ds_for (passes_of rfl) rfl (di_range3 (by rfl) T.z_range (da_cons de_int (da_cons (de_callB call_len2 len_A (by rfl) T.z_len (by decide +kernel) (da_cons (dv 0) da_nil)) (da_cons de_int da_nil)))) (dg_name (i := 2) sc_law_of_pairs.nd rfl (.inl rfl))
    (db_cons (ds_asg (de_sl (de_add (de_sl (dv 0) (do_some (dv 2)) (do_some (de_add (dv 2) de_int))) (de_lst (da_cons de_non (da_cons de_non da_nil)))) do_none (do_some de_int)) (dg_lst (by rfl) (dgs_cons (dg_name (i := 3) sc_law_of_pairs.nd rfl (.inl rfl)) (dgs_cons (dg_name (i := 4) sc_law_of_pairs.nd rfl (.inl rfl)) (dgs_cons (dg_name (i := 5) sc_law_of_pairs.nd rfl (.inl rfl)) dgs_nil)))))
  (db_one (ds_set (i := 1) sc_law_of_pairs.nd rfl (.inl rfl) (de_own (K := K) rfl (nm := "add") rfl T.lo_Bag_add G_Bag___add__ T.b_Bag___add__ (hr.mono (by decide)) hx (dv 1) (de_if (dt_cmp op_isN isN_A (dv 4) de_non (nomark _)) (de_makeR T.mk_Bag T.gc_Bag G_Bag___init__ (hr.mono (by decide)) rfl T.g_Bag hx (da_cons (dv 3) da_nil)) (de_if (dt_cmp op_isN isN_A (dv 5) de_non (nomark _)) (de_makeR T.mk_Bag T.gc_Bag G_Bag___init__ (hr.mono (by decide)) rfl T.g_Bag hx (da_cons (dv 3) (da_cons (dv 4) da_nil))) (de_makeR T.mk_Bag T.gc_Bag G_Bag___init__ (hr.mono (by decide)) rfl T.g_Bag hx (da_cons (dv 3) (da_cons (dv 4) (da_cons (dv 5) da_nil)))))))))))
  (db_one (ds_ret (dv 1))))), fun ds G Q h => ?_⟩)
  · obtain ⟨_, _, rfl, _⟩ := h
    rfl
  · obtain ⟨n, ps, rfl, hp, hl, fit, q⟩ := h
    dsimp only [dSeq, dAsg]
    refine bag0X (n := n) fun x0 h0 => ?_
    refine ⟨(ps.length + 2) / 3, ?_, ?_⟩
    · have := rgc3 (len := ps.length) (by omega)
      show RgC 0 ((ps.map pairD).length : Int) 3 _
      rw [List.length_map]
      exact this
    have er : rangeCD 0 3 ((ps.length + 2) / 3) = (List.range' 0 ((ps.length + 2) / 3)).map fun (i : Nat) => D.int (0 + (i : Int) * 3) := by
      unfold rangeCD
      rw [List.range_eq_range']
    show forD _ _ _ (rangeCD 0 3 ((ps.length + 2) / 3)) _ G
    rw [er]
    refine (fun (key : ∀ (k j : Nat) (made : D) (L : List Row) (x2 x3 x4 x5 : Option D), j + k = (ps.length + 2) / 3 → IsBag T.C_Bag w n L (tot (ps.take (3 * j))) made → forD _ _ _ ((List.range' j k).map fun (i : Nat) => D.int (0 + (i : Int) * 3)) [some (.lst (ps.map pairD)), some made, x2, x3, x4, x5] G) => key _ 0 x0 [] none none none none (Nat.zero_add _) (h0.congr fun r => rfl)) ?_
    intro k
    induction k with
    | zero =>
      intro j made L x2 x3 x4 x5 e hm
      have : ps.take (3 * j) = ps := List.take_of_length_le (by omega)
      rw [this] at hm
      exact q made L hm
    | succ k ih =>
      intro j made L x2 x3 x4 x5 e hm
      have h3 : 3 * j < ps.length := by omega
      rw [List.range'_succ, List.map_cons]
      have ej : (0 : Int) + (j : Int) * 3 = ((3 * j : Nat) : Int) := by omega
      rw [ej]
      have two : ((3 * j : Nat) : Int) + 3 = ((3 * j + 3 : Nat) : Int) := by omega
      have step : ∀ r, tot (ps.take (3 * j)) r + tot ((ps.drop (3 * j)).take 3) r = tot (ps.take (3 * (j + 1))) r := fun r => by
        rw [← tot_app, show 3 * (j + 1) = 3 * j + 3 by omega, List.take_add]
      have nnT : ∀ (i : Nat) r, 0 ≤ tot (ps.drop i) r := fun i r => tot_nn (fun p h => (hp p (List.mem_of_mem_drop h)).2.2.1) r
      have okq : OkPs n ((ps.drop (3 * j)).take 3) := (hp.drop _).take _
      have nnq : ∀ r, 0 ≤ tot ((ps.drop (3 * j)).take 3) r := fun r => tot_nn (fun p h => (okq p h).2.2.1) r
      have nnm : ∀ r, 0 ≤ tot (ps.take (3 * j)) r := fun r => tot_nn (fun p h => ((hp.take _) p h).2.2.1) r
      have lim : ∀ r, tot (ps.take (3 * (j + 1))) r ≤ tot ps r := fun r => by
        have := tot_cut r ps (3 * (j + 1))
        have := nnT (3 * (j + 1)) r
        omega
      have fin : ∀ (W : WD) (b : D) (x3 x4 x5 : Option D) , IsBag T.C_Bag w n (keys ((ps.drop (3 * j)).take 3)) (tot ((ps.drop (3 * j)).take 3)) b → ∀ Qd : QD, (∀ d' vs, IsBag T.C_Bag w n vs (tot (ps.take (3 * (j + 1)))) d' → Qd d' G) → ownD K T.C_Bag "add" (addX T.C_Bag T.C_TooMany w) W made b G Qd := fun W b x3 x4 x5 hb Qd hq => by
        refine add_fit hm hb (fun r => ?_) (us := keys ps) (fun r hr => ?_) (by rw [keys_len]; exact hl) fun d' vs h => hq d' vs (h.congr step)
        · rw [step r]
          exact Int.le_trans (lim r) (fit r)
        · rw [step r] at hr
          have a := nnm r
          have b := nnq r
          have c := step r
          have d := lim r
          exact tot_in (by omega)
      have fitq : ∀ r, tot ((ps.drop (3 * j)).take 3) r ≤ BIG := fun r => by
        have a := nnm r
        have c := step r
        have d := lim r
        have e := fit r
        omega
      have z2 : 2 ≤ sizeLine := by rw [sizeLine_eq]; decide
      have z5 : 5 ≤ sizeLine := by rw [sizeLine_eq]; decide
      show (fun (c : List D) => 2 ≤ sizeLine ∧ c.length + 2 ≤ sizeLine ∧ gLstD _ _ (.lst (cutD (c ++ [.non, .non]) none (some 3))) _ G _) (cutD (ps.map pairD) (some ((3 * j : Nat) : Int)) (some (((3 * j : Nat) : Int) + 3)))
      rw [two]
      rw [cut3 h3]
      rcases drop3 h3 with ⟨a, ea⟩ | ⟨a, b, ea⟩ | ⟨a, b, c, ea⟩
      · rw [ea] at okq fitq fin ⊢
        rw [show cutD ([a].map pairD ++ [.non, .non]) none (some 3) = [pairD a, .non, .non] from rfl]
        refine ⟨z2, Nat.le_trans (show 3 ≤ 5 by decide) z5, rfl, ?_⟩
        dsimp only [gConsD, gNameD, gNilD, dAsg, dOp]
        refine var_rd rfl ?_
        refine if_t (fun N hN => hN) ?_
        refine bagPX (ps := [a]) (fun N hN => hN) okq (by simp) fitq fun bb hb => ?_
        exact fin _ bb none none none hb _ fun d' vs h => ih (j + 1) d' vs _ _ _ _ (by omega) h
      · rw [ea] at okq fitq fin ⊢
        rw [show cutD ([a, b].map pairD ++ [.non, .non]) none (some 3) = [pairD a, pairD b, .non] from rfl]
        refine ⟨z2, Nat.le_trans (show 4 ≤ 5 by decide) z5, rfl, ?_⟩
        dsimp only [gConsD, gNameD, gNilD, dAsg, dOp]
        refine var_rd rfl ?_
        refine if_f (fun N hN => hN) (if_t (fun N hN => hN) ?_)
        refine bagPX (ps := [a, b]) (fun N hN => hN) okq (by simp) fitq fun bb hb => ?_
        exact fin _ bb none none none hb _ fun d' vs h => ih (j + 1) d' vs _ _ _ _ (by omega) h
      · rw [ea] at okq fitq fin ⊢
        rw [show cutD ([a, b, c].map pairD ++ [.non, .non]) none (some 3) = [pairD a, pairD b, pairD c] from rfl]
        refine ⟨z2, Nat.le_trans (show 5 ≤ 5 by decide) z5, rfl, ?_⟩
        dsimp only [gConsD, gNameD, gNilD, dAsg, dOp]
        refine var_rd rfl ?_
        refine if_f (fun N hN => hN) (if_f (fun N hN => hN) ?_)
        refine bagPX (ps := [a, b, c]) (fun N hN => hN) okq (by simp) fitq fun bb hb => ?_
        exact fin _ bb none none none hb _ fun d' vs h => ih (j + 1) d' vs _ _ _ _ (by omega) h
end
section
variable {P : Program} {w : World} {K : PySem.W.Frag} {mg : Str → Option Value} {base : Heap}
def askedX (C : Addr) (w : World) : SpD := fun ds G Q _ => ∃ (p : Addr) (m n : Nat) (kv : KvI) (L : List Row) (d : D), ds = [.adr p, d, .dln (rowH w) (kvD kv), .lst ((psK kv).map pairD)] ∧ G p = some (.pen m) ∧ IsBag C w n L (cnt kv) d ∧ FoundK n kv ∧ kv.length ≤ 20 ∧ m + 10 ≤ 2 ^ 20 ∧
  ∀ m', m' ≤ m + 10 → Q (.bl true) (updG G p (.pen m'))
theorem cut_memA {α : Type} {xs : List α} {a b : Option Int} {x : α} (h : x ∈ cutD xs a b) : x ∈ xs := by
  unfold cutD at h
  exact List.mem_of_mem_drop (List.mem_of_mem_take h)
def fourR : List Row := [[.num 5, .num 5], [.none], [.num 3], [.num 1, .none, .num 1]]
theorem fourR_ok : ∀ r ∈ fourR, OkR r := fun r hr => by
  simp only [fourR, List.mem_cons, List.not_mem_nil, or_false] at hr
  rcases hr with rfl | rfl | rfl | rfl
  all_goals refine ⟨by decide, by decide, fun l hl => ?_⟩
  all_goals
    simp only [List.mem_cons, List.not_mem_nil, or_false] at hl
  · rcases hl with rfl | rfl <;> rfl
  · rw [hl]; rfl
  · rw [hl]; rfl
  · rcases hl with rfl | rfl | rfl <;> rfl
def atG (xs : List D) (i : Nat) : D := (xs[i]?).getD .non
theorem at_all (xs : List D) : (List.range xs.length).map (atG xs) = xs := by
  refine List.ext_getElem (by simp) fun i h1 h2 => ?_
  rw [List.getElem_map, List.getElem_range]
  unfold atG
  rw [List.getElem?_eq_getElem h2]
  rfl
theorem at_up {xs : List D} {i : Nat} (hi : i < xs.length) : atI xs (0 + (i : Int)) = some (atG xs i) := by
  rw [Int.zero_add]
  refine atI_nat ?_
  unfold atG
  rw [List.getElem?_eq_getElem hi]
  rfl
theorem at_back {xs : List D} {i : Nat} (hi : i < xs.length) : atI xs (0 + (i : Int) - (xs.length : Int)) = some (atG xs i) := by
  have e : ixN xs.length (0 + (i : Int) - (xs.length : Int)) = some i := by
    unfold ixN
    rw [if_neg (by omega), if_pos (by omega)]
    congr 1
    omega
  unfold atI atG
  rw [e, List.getElem?_eq_getElem hi]
  exact List.getElem?_eq_getElem hi
theorem dok__law_asked_right (T : Top K mg) : FnD P w K mg base 24 T.a__law_asked_right T.d__law_asked_right ["_law_pen_here", "_law_made", "_law_found", "_law_due"] (askedX T.C_Bag w) := by
  have G__law_pick := (dok__law_pick (P := P) (w := w) (base := base) T).mono (k := 21) (by decide)
  have G__law_draw := (dok__law_draw (P := P) (w := w) (base := base) T).mono (k := 21) (by decide)
  have G_Bag_often := (dok_Bag_often (P := P) (w := w) (base := base) T).mono (k := 21) (by decide)
  have G_Bag___contains__ := (dok_Bag___contains__ (P := P) (w := w) (base := base) T).mono (k := 21) (by decide)
  have V_Bag___getitem__ := (vok_Bag___getitem__ (P := P) (w := w) (base := base) T).mono (k := 21) (by decide)
  refine dfn (k := 23) T.F__law_asked_right sc_law_asked_right (fun ds G Q W h => ?_) (fun cdv A outer s H E B W hr tk => have hx := hx_of tk; ⟨_, (db_cons (ds_set (i := 4) sc_law_asked_right.nd rfl (.inl rfl) (de_call G__law_pick (hr.mono (by decide)) (by rfl) T.g__law_pick T.F__law_pick.kp T.b__law_pick hx (da_cons (dv 0) (da_cons (de_lst (da_cons de_non (da_cons de_int (da_cons de_str (da_cons (de_tup da_nil) (da_cons (de_tup (da_cons de_int (da_cons de_int (da_cons de_int (da_cons de_int da_nil))))) (da_cons (de_lst (da_cons de_int da_nil)) (da_cons (de_tup (da_cons de_str da_nil)) (da_cons (de_tup (da_cons de_bl da_nil)) (da_cons de_dict0 (da_cons (de_tup (da_cons de_int (da_cons de_bl da_nil))) (da_cons (dv 3) da_nil)))))))))))) da_nil))))
  (db_cons (ds_if (dw_pt (dw_or (dt_cmp (op_neD (Room.units hr)) neI_A (de_meth (dv 1) T.cl_Bag T.me_Bag_often G_Bag_often (hr.mono (by decide)) T.b_Bag_often hx (da_cons (dv 4) da_nil)) de_int (nomark _)) (dw_or (dt_inO T.om_Bag___contains__ G_Bag___contains__ T.b_Bag___contains__ (hr.mono (by decide)) hx (dv 4) (dv 1) (by rfl)) (dw_or1 (dt_cmp (op_neD (Room.units hr)) neI_A (de_methKw (dv 1) T.cl_Bag T.me_Bag_often G_Bag_often (hr.mono (by decide)) T.kb_Bag_often_0 hx perm_ok (dk_cons (dv 4) dk_nil)) de_int (nomark _))))))
    (db_one (ds_ret de_bl))
    db_nil)
  (db_cons (ds_for (passes_of rfl) rfl (di_list (de_add (de_callTy (call_listN (by rfl)) listN_A (by rfl) T.z_list (by decide +kernel) (da_cons (dv 2) da_nil)) (de_lst (da_cons (de_tup (da_cons de_int (da_cons de_int da_nil))) (da_cons (de_tup (da_cons de_non da_nil)) (da_cons (de_tup (da_cons de_int da_nil)) (da_cons (de_tup (da_cons de_int (da_cons de_non (da_cons de_int da_nil)))) da_nil))))))) (dg_name (i := 5) sc_law_asked_right.nd rfl (.inl rfl))
    (db_one (ds_if (dw_pt (dw_or (dt_cmp (op_neD (Room.units hr)) neI_A (de_meth (dv 1) T.cl_Bag T.me_Bag_often G_Bag_often (hr.mono (by decide)) T.b_Bag_often hx (da_cons (dv 5) da_nil)) (de_nget2W (w := w) rfl (Nat.lt_of_le_of_lt (Nat.add_le_add_left (by decide) _) (Room.units hr)) (dv 2) (dv 5) de_int ⟨rfl, rfl, rfl, rfl⟩) (nomark _)) (dw_or1 (dt_cmp (op_neD (Room.units hr)) neI_A (de_inO T.om_Bag___contains__ G_Bag___contains__ T.b_Bag___contains__ (hr.mono (by decide)) hx (dv 5) (dv 1) (by rfl)) (de_ninW (w := w) rfl (Nat.lt_of_le_of_lt (Nat.add_le_add_left (by decide) _) (Room.units hr)) (dv 5) (dv 2)) (nomark _)))))
    (db_one (ds_ret de_bl))
    db_nil)))
  (db_cons (ds_par (i := 6) (j := 7) (by rfl) sc_law_asked_right.nd rfl rfl (by decide) rfl rfl (da_cons (de_sub (de_call G__law_draw (hr.mono (by decide)) (by rfl) T.g__law_draw T.F__law_draw.kp T.b__law_draw hx (da_cons (dv 0) (da_cons (de_add (de_callB call_len2 len_A (by rfl) T.z_len (by decide +kernel) (da_cons (dv 3) da_nil)) de_int) da_nil))) de_int) (da_cons (de_sub (de_call G__law_draw (hr.mono (by decide)) (by rfl) T.g__law_draw T.F__law_draw.kp T.b__law_draw hx (da_cons (dv 0) (da_cons (de_add (de_callB call_len2 len_A (by rfl) T.z_len (by decide +kernel) (da_cons (dv 3) da_nil)) de_int) da_nil))) de_int) da_nil)) (by rfl))
  (db_cons (ds_if (dw_pt (dw_or (dt_cmp (op_neD (Room.units hr)) neI_A (de_slO (f := "_pairs") T.nq_Bag T.om_Bag___getitem__ T.fi_Bag___getitem__ V_Bag___getitem__ T.b_Bag___getitem__ (hr.mono (by decide)) (dv 1) (do_some (dv 6)) (do_some (dv 7))) (de_callTy call_tuple_of tup_A (by rfl) T.z_tuple (by decide +kernel) (da_cons (de_sl (dv 3) (do_some (dv 6)) (do_some (dv 7))) da_nil)) (nomark _)) (dw_or (dt_cmp (op_neD (Room.units hr)) neI_A (de_slO (f := "_pairs") T.nq_Bag T.om_Bag___getitem__ T.fi_Bag___getitem__ V_Bag___getitem__ T.b_Bag___getitem__ (hr.mono (by decide)) (dv 1) do_none (do_some (dv 6))) (de_callTy call_tuple_of tup_A (by rfl) T.z_tuple (by decide +kernel) (da_cons (de_sl (dv 3) do_none (do_some (dv 6))) da_nil)) (nomark _)) (dw_or1 (dt_cmp (op_neD (Room.units hr)) neI_A (de_slO (f := "_pairs") T.nq_Bag T.om_Bag___getitem__ T.fi_Bag___getitem__ V_Bag___getitem__ T.b_Bag___getitem__ (hr.mono (by decide)) (dv 1) (do_some (dv 7)) do_none) (de_callTy call_tuple_of tup_A (by rfl) T.z_tuple (by decide +kernel) (da_cons (de_sl (dv 3) (do_some (dv 7)) do_none) da_nil)) (nomark _))))))
    (db_one (ds_ret de_bl))
    db_nil)
  (db_one (ds_ret (de_and (de_cmp (op_eqD (Room.units hr)) eqI_A (de_lcF (own := [("_law_at", 8)]) (gV := gName 8) finA_l rfl sc_law_asked_right.nd (di_range1 (by rfl) T.z_range (da_cons (de_callB call_len2 len_A (by rfl) T.z_len (by decide +kernel) (da_cons (dv 3) da_nil)) da_nil)) (blkOk_by (own := [("_law_at", 8)]) (N := N_law_asked_right) (sc := defScope s_law_asked_right) (by decide +kernel)) (cg_name (i := 8) (by decide)) (fun _ _ _ _ _ => (pg_name (i := 8) sc_law_asked_right.nd rfl (.inl rfl))) (fun _ _ _ _ _ _ => dts_nil) (fun _ _ _ _ _ _ => (de_ixO (f := "_pairs") T.om_Bag___getitem__ T.fi_Bag___getitem__ V_Bag___getitem__ T.b_Bag___getitem__ (hr.mono (by decide)) (dv 1) (dv 8)))) (dv 3) (nomark _)) (de_one (de_cmp (op_eqD (Room.units hr)) eqI_A (de_lcF (own := [("_law_at", 8)]) (gV := gName 8) finA_l rfl sc_law_asked_right.nd (di_range1 (by rfl) T.z_range (da_cons (de_callB call_len2 len_A (by rfl) T.z_len (by decide +kernel) (da_cons (dv 3) da_nil)) da_nil)) (blkOk_by (own := [("_law_at", 8)]) (N := N_law_asked_right) (sc := defScope s_law_asked_right) (by decide +kernel)) (cg_name (i := 8) (by decide)) (fun _ _ _ _ _ => (pg_name (i := 8) sc_law_asked_right.nd rfl (.inl rfl))) (fun _ _ _ _ _ _ => dts_nil) (fun _ _ _ _ _ _ => (de_ixO (f := "_pairs") T.om_Bag___getitem__ T.fi_Bag___getitem__ V_Bag___getitem__ T.b_Bag___getitem__ (hr.mono (by decide)) (dv 1) (de_sub (dv 8) (de_callB call_len2 len_A (by rfl) T.z_len (by decide +kernel) (da_cons (dv 3) da_nil)))))) (dv 3) (nomark _))))))))))), fun ds G Q h => ?_⟩)
  · obtain ⟨_, _, _, _, _, _, rfl, _⟩ := h
    rfl
  · obtain ⟨p, m, n, kv, L, d, rfl, hG, hd, hk, hl, hm, q⟩ := h
    obtain ⟨kv', rfl, hk', eps, hc⟩ := hd.at_ hk (by omega)
    have z4 : 4 ≤ sizeLine := by rw [sizeLine_eq]; decide
    have z11 : 11 ≤ sizeLine := by rw [sizeLine_eq]; decide
    have z1 : 1 ≤ sizeLine := Nat.le_trans (by decide) z4
    have z2 : 2 ≤ sizeLine := Nat.le_trans (by decide) z4
    have z3 : 3 ≤ sizeLine := Nat.le_trans (by decide) z4
    refine ⟨Nat.zero_le _, z4, z1, z1, z1, z2, z11, p, _, m, rfl, hG, by simp, by show 11 ≤ 1000; decide, by omega, fun x hx => ?_⟩
    have ox : (∀ G, ToldT x G) ∧ isRow x = false := by
      simp only [List.mem_cons, List.not_mem_nil, or_false] at hx
      rcases hx with rfl | rfl | rfl | rfl | rfl | rfl | rfl | rfl | rfl | rfl | rfl
      · exact ⟨fun G => ⟨told_ki (k := .non) rfl, fun es e => by cases e⟩, rfl⟩
      · exact ⟨fun G => ⟨told_ki (k := .int) rfl, fun es e => by cases e⟩, rfl⟩
      · exact ⟨fun G => ⟨told_ki (k := .str) rfl, fun es e => by cases e⟩, rfl⟩
      · exact ⟨fun G => ⟨told_ki (k := .tup) rfl, fun es e => by cases e; exact ⟨by decide, fun y hy => by cases hy⟩⟩, rfl⟩
      · exact ⟨fun G => ⟨told_ki (k := .tup) rfl, fun es e => by
          cases e
          refine ⟨by simp, fun y hy => ?_⟩
          simp only [List.mem_cons, List.not_mem_nil, or_false] at hy
          rcases hy with rfl | rfl | rfl | rfl <;> exact told_ki (k := .int) rfl⟩, rfl⟩
      · exact ⟨fun G => ⟨told_ki (k := .lst) rfl, fun es e => by cases e⟩, rfl⟩
      · exact ⟨fun G => ⟨told_ki (k := .tup) rfl, fun es e => by
          cases e
          refine ⟨by simp, fun y hy => ?_⟩
          rw [List.mem_singleton.mp hy]
          exact told_ki (k := .str) rfl⟩, rfl⟩
      · exact ⟨fun G => ⟨told_ki (k := .tup) rfl, fun es e => by
          cases e
          refine ⟨by simp, fun y hy => ?_⟩
          rw [List.mem_singleton.mp hy]
          exact told_ki (k := .bl) rfl⟩, rfl⟩
      · exact ⟨fun G => ⟨told_ki (k := .dct) rfl, fun es e => by cases e⟩, rfl⟩
      · exact ⟨fun G => ⟨told_ki (k := .tup) rfl, fun es e => by
          cases e
          refine ⟨by simp, fun y hy => ?_⟩
          simp only [List.mem_cons, List.not_mem_nil, or_false] at hy
          rcases hy with rfl | rfl
          · exact told_ki (k := .int) rfl
          · exact told_ki (k := .bl) rfl⟩, rfl⟩
      · exact ⟨fun G => ⟨told_ki (k := .lst) rfl, fun es e => by cases e⟩, rfl⟩
    have nr : ∀ r, x = rowT r → OkR r → False := fun r e ho => by
      rw [e, isRow_T ho] at ox
      cases ox.2
    refine ⟨rfl, rfl, .mk kv' x rfl (ox.1 _) (fun r e ho => (nr r e ho).elim) fun _ => ?_⟩
    refine neI_self pl_int ?_
    refine ⟨rfl, .mk kv' x rfl (ox.1 _) (fun r e ho => (nr r e ho).elim) fun _ => ?_⟩
    refine ⟨rfl, rfl, rfl, .mk kv' x rfl (ox.1 _) (fun r e ho => (nr r e ho).elim) fun _ => ?_⟩
    refine neI_self pl_int ?_
    have lk : (keys kv).length ≤ 20 := by rw [keys_len]; exact hl
    have hz := sizeLine_eq
    refine ⟨z2, z1, z1, z3, z4, ?_, ?_⟩
    · rw [List.length_map, kvD_len, hz]
      show kv.length + 4 ≤ _
      omega
    rw [kvD_rows]
    show forD _ _ _ ((keys kv).map rowT ++ fourR.map rowT) _ _
    rw [← List.map_append]
    refine for_inv (n := (keys kv ++ fourR).length) (fun j δ G' => G' = updG G p (.pen (m + 1)) ∧ ∃ x5, δ = [some (.adr p), some (bagD T.C_Bag w kv'), some (.dln (rowH w) (kvD kv)), some (.lst ((psK kv).map pairD)), some x, x5, none, none, none]) _ 0 _ _ (by rw [List.length_map, Nat.zero_add]) (fun j δ G' e N he hj hI hN => ?_) ⟨rfl, none, rfl⟩ (fun δ G' hI => ?_)
    · obtain ⟨rfl, x5, rfl⟩ := hI
      obtain ⟨r, hr, rfl⟩ := List.mem_map.mp he
      have ho : OkR r := (List.mem_append.mp hr).elim (fun h => (hk.row r h).1) (fourR_ok r)
      refine ⟨rfl, rfl, often_row ho ?_⟩
      refine ⟨rfl, rfl, ?_⟩
      show (match dlnD (.dln (rowH w) (kvD kv)) (updG G p (.pen (m + 1))), rowD? (rowT r) with | some (hf, kvs), some k => _ | _, _ => False)
      rw [rowD_T]
      refine ⟨rfl, ?_⟩
      rw [getR_getD, hc r]
      refine neI_self pl_int ?_
      refine ⟨rfl, in_row ho ?_⟩
      show (match dlnD (.dln (rowH w) (kvD kv)) (updG G p (.pen (m + 1))), rowD? (rowT r) with | some (hf, kvs), some k => _ | _, _ => False)
      rw [rowD_T]
      refine ⟨rfl, ?_⟩
      have eb : decide (0 < cnt kv' r) = (getR (kvD kv) r).isSome := by
        rw [hc r, getR_kvD, Option.isSome_map]
        by_cases e : r ∈ keys kv
        · have := (hk.num r e).1
          rw [getI_some.mpr e]
          exact decide_eq_true (by omega)
        · have n1 : ¬ (getI kv r).isSome = true := fun z => e (getI_some.mp z)
          rw [cnt_none e, Bool.not_eq_true _ |>.mp n1]
          rfl
      rw [eb]
      refine neI_self pl_bl ?_
      exact hN _ _ ⟨rfl, _, rfl⟩
    · obtain ⟨rfl, x5, rfl⟩ := hI
      have ld : (((psK kv).map pairD).length : Int) = (kv.length : Int) := by rw [List.length_map, psK_len]
      refine ⟨p, _, m + 1, rfl, updG_same, by rw [ld]; omega, by rw [ld]; omega, by omega, fun a a0 a1 => ?_⟩
      rw [updG_updG]
      refine ⟨p, _, m + 1 + 1, rfl, updG_same, by rw [ld]; omega, by rw [ld]; omega, by omega, fun b b0 b1 => ?_⟩
      rw [updG_updG]
      have okp : ∀ e ∈ (psK kv).map pairD, Pl 2 e := pl_map fun x hx => pl_pair ((hk.row _ (psK_mem hx).1).1.2.2)
      have plc : ∀ lo hi, Pl 60 (.tup (cutD ((psK kv).map pairD) lo hi)) := fun lo hi => (pl_tup fun e he => okp e (cut_memA he)).mono (by decide)
      have pll : Pl 60 (.lst ((psK kv).map pairD)) := (pl_lst okp).mono (by decide)
      refine ⟨_, (psK kv').map pairD, rfl, rfl, ?_⟩
      rw [eps]
      refine neI_self (plc _ _) ?_
      refine ⟨_, (psK kv').map pairD, rfl, rfl, ?_⟩
      rw [eps]
      refine neI_self (plc _ _) ?_
      refine ⟨_, (psK kv').map pairD, rfl, rfl, ?_⟩
      rw [eps]
      refine neI_self (plc _ _) ?_
      have ln : (((psK kv).map pairD).length : Int).toNat = ((psK kv).map pairD).length := Int.toNat_natCast _
      have lz : ((psK kv).map pairD).length < sizeLine := by rw [List.length_map, psK_len, hz]; omega
      have rng : rangeD 0 (((psK kv).map pairD).length : Int).toNat = (List.range ((psK kv).map pairD).length).map fun (i : Nat) => D.int (0 + (i : Int)) := by rw [ln]; rfl
      refine ⟨⟨by rw [ld]; omega, by rw [ld]; omega⟩, by rw [range_len, ln]; exact lz, ?_⟩
      rw [rng]
      refine lc_f0 (fun (i : Nat) => D.int (0 + (i : Int))) (atG ((psK kv).map pairD)) _ [] (fun i hi N hN => ?_) ?_
      · refine ⟨_, (psK kv').map pairD, _, _, rfl, rfl, rfl, ?_, hN⟩
        rw [eps]
        exact at_up (List.mem_range.mp hi)
      rw [List.nil_append, at_all]
      refine eqI_self pll ?_
      refine ⟨⟨by rw [ld]; omega, by rw [ld]; omega⟩, by rw [range_len, ln]; exact lz, ?_⟩
      rw [rng]
      refine lc_f0 (fun (i : Nat) => D.int (0 + (i : Int))) (atG ((psK kv).map pairD)) _ [] (fun i hi N hN => ?_) ?_
      · refine ⟨_, (psK kv').map pairD, _, _, rfl, rfl, rfl, ?_, hN⟩
        rw [eps]
        exact at_back (List.mem_range.mp hi)
      rw [List.nil_append, at_all]
      refine eqI_self pll ?_
      exact q (m + 1 + 1 + 1) (by omega)
end
section
variable {P : Program} {w : World} {K : PySem.W.Frag} {mg : Str → Option Value} {base : Heap}
theorem pos_iff {kv : KvI} (nd : (keys kv).Nodup) (hp : ∀ r ∈ keys kv, cnt kv r ≠ 0) {r : Row} : cnt kv r ≠ 0 ↔ r ∈ keys kv := ⟨fun h => by
  false_or_by_contra
  rename_i n
  exact h (cnt_none n), hp r⟩
theorem mrg_kvD : ∀ (ps acc : KvI), mrgN (kvD acc) (kvD ps) = kvD (ps.foldl (fun a p => putI a p.1 p.2) acc)
  | [], _ => rfl
  | p :: ps, acc => by
    show mrgN (putR (kvD acc) p.1 (.int p.2)) (kvD ps) = _
    rw [putR_kvD]
    exact mrg_kvD ps _
theorem mrg_ps (kv : KvI) : mrgN [] (kvD (psK kv)) = kvD (fillR (cnt kv) [] (ordK kv)) := by
  show mrgN (kvD []) _ = _
  rw [mrg_kvD]
  unfold psK fillR
  rw [List.foldl_map]
theorem same_of {kv kv' : KvI} (nd : (keys kv).Nodup) (nd' : (keys kv').Nodup) (hm : ∀ r, r ∈ keys kv ↔ r ∈ keys kv') (e : ∀ r, cnt kv r = cnt kv' r) : sameKv kv kv' = true := by
  unfold sameKv
  rw [Bool.and_eq_true, beq_iff_eq, List.all_eq_true]
  refine ⟨?_, fun p hp => decide_eq_true ?_⟩
  · have := ((List.perm_ext_iff_of_nodup nd nd').mpr hm).length_eq
    rw [keys_len, keys_len] at this
    exact this
  · have hk : p.1 ∈ keys kv := List.mem_map.mpr ⟨p, hp, rfl⟩
    show getI kv' p.1 = some p.2
    rw [getI_in ((hm p.1).mp hk), ← e p.1, cnt_mem nd hp]
/-- dict([pair for pair in x]), x a bag -/
theorem dict_bag {C : Addr} {n : Nat} {L : List Row} {f : Row → Int} {d : D} {i j : Nat} {nm : Str} {δ : SD} {G : Gm} {Q : QD} (hi : δ[i]? = some (some d)) (hd : IsBag C w n L f d)
    (hj : ∀ x, ((wipeD δ (List.map (fun x => x.snd) [(nm, j)])).set j (some x))[j]? = some (some x)) (q : ∀ kvf, (keys kvf).Nodup → (∀ r, cnt kvf r = f r) → (∀ r ∈ keys kvf, f r ≠ 0) → Q (.dln (rowH w) (kvD kvf)) G) :
    dCloseN (dCB (dictPD w) (dCons (dLcF (iOwnD C "_pairs" (dVar i)) (gNameD j) dYes (dVar j) (List.map (fun x => x.snd) [(nm, j)]) finL) dNil)) δ G Q := by
  obtain ⟨kv', rfl, hk', hf⟩ := hd
  have lps : ((psK kv').map pairD).length < sizeLine := by
    rw [List.length_map, psK_len, sizeLine_eq]
    have := hk'.len
    omega
  dsimp only [dCloseN, dCB, dCons, dLcF, iOwnD]
  refine var_rd hi ?_
  refine ⟨rfl, _, rfl, lps, ?_⟩
  refine lc_f0 pairD pairD (psK kv') [] (fun _ _ N hN => var_rd (hj _) hN) ?_
  refine ⟨kvD (psK kv'), by rw [List.nil_append]; unfold kvD; rw [List.map_map]; rfl, fun u nu => ⟨u, rfl, ?_⟩⟩
  rw [updG_same]
  show Q (.dln (rowH w) (mrgN [] (kvD (psK kv')))) (delG _ u)
  rw [delG_updG nu, mrg_ps]
  have hc : ∀ r, cnt (fillR (cnt kv') [] (ordK kv')) r = f r := fun r => by
    rw [fill_cnt]
    by_cases e : r ∈ keys kv'
    · rw [if_pos (ordK_mem.mpr e), hf r]
    · rw [if_neg fun z => e (ordK_mem.mp z), ← hf r, cnt_none e]
      rfl
  refine q _ (fill_nodup _ [] List.nodup_nil) hc fun r hr => ?_
  rw [fill_keys, ordK_mem] at hr
  rw [← hf r]
  exact hk'.mem_iff.mp (hr.resolve_left fun z => by cases z)
theorem FoundK.nn {n : Nat} {kv : KvI} (h : FoundK n kv) (r : Row) : 0 ≤ cnt kv r ∧ cnt kv r ≤ B29 := by
  by_cases e : r ∈ keys kv
  · have := h.num r e
    omega
  · rw [cnt_none e]
    exact ⟨Int.le_refl _, by decide⟩
theorem FoundK.ne {n : Nat} {kv : KvI} (h : FoundK n kv) : ∀ r ∈ keys kv, cnt kv r ≠ 0 := fun r hr => by
  have := h.num r hr
  omega
/-- the same numbers, none 0 -/
theorem same_num {a b : KvI} (na : (keys a).Nodup) (nb : (keys b).Nodup) (ha : ∀ r ∈ keys a, cnt a r ≠ 0) (hb : ∀ r ∈ keys b, cnt b r ≠ 0) (e : ∀ r, cnt a r = cnt b r) : sameKv a b = true :=
  same_of na nb (fun r => by rw [← pos_iff na ha, ← pos_iff nb hb, e r]) e
theorem ones_inj {a b : List Row} (h : a.map rowT = b.map rowT) : a = b := by
  have : (onesK a).map pairD = (onesK b).map pairD := by rw [← ones_map, ← ones_map, h]
  have := congrArg keys (pairD_inj this)
  rw [onesK_keys, onesK_keys] at this
  exact this
theorem ofGood {C CB CT : Addr} {n : Nat} {rows : List Row} {G : Gm} {Q : QD} {W : WD} (hr : ∀ r ∈ rows, OkR r ∧ r.length = n) (hl : rows.length ≤ 900) (q0 : 60 < (addAll [] (onesK rows)).length → W CT [("most", .int 60), ("what", .str "rows")] G)
    (q1 : (addAll [] (onesK rows)).length ≤ 60 → ∀ n' kv, BagK n' rows kv → (∀ r, cnt kv r = tot (onesK rows) r) → Q (bagD C w kv) G) : ofX C CB CT w [.lst (rows.map rowT)] G Q W :=
  .seq _ (.inl rfl) (fun e he => by
    obtain ⟨r, hr', rfl⟩ := List.mem_map.mp he
    exact fun G => toldT_row (hr r hr').1) (by rw [List.length_map]; exact hl) (fun j h => by
    exfalso
    have okp : OkPs n (onesK rows) := fun p hp => by
      obtain ⟨r, hr', rfl⟩ := List.mem_map.mp hp
      exact ⟨(hr r hr').1, (hr r hr').2, (show (1 : Int) ≤ 1 by decide), (show (1 : Int) ≤ BIG by decide)⟩
    rw [ones_map, badPair_ok okp] at h
    cases h) (fun n' rows' e hr' => by
    obtain rfl := ones_inj e
    refine ⟨q0, fun z d' hd' => ?_⟩
    obtain ⟨kv, rfl, hk, hc⟩ := hd'
    exact q1 z n' kv hk hc)
theorem ofGoodT {C CB CT : Addr} {n : Nat} {rows : List Row} {G : Gm} {Q : QD} {W : WD} (hr : ∀ r ∈ rows, OkR r ∧ r.length = n) (hl : rows.length ≤ 900) (q0 : 60 < (addAll [] (onesK rows)).length → W CT [("most", .int 60), ("what", .str "rows")] G)
    (q1 : (addAll [] (onesK rows)).length ≤ 60 → ∀ n' kv, BagK n' rows kv → (∀ r, cnt kv r = tot (onesK rows) r) → Q (bagD C w kv) G) : ofX C CB CT w [.tup (rows.map rowT)] G Q W :=
  .seq _ (.inr rfl) (fun e he => by
    obtain ⟨r, hr', rfl⟩ := List.mem_map.mp he
    exact fun G => toldT_row (hr r hr').1) (by rw [List.length_map]; exact hl) (fun j h => by
    exfalso
    have okp : OkPs n (onesK rows) := fun p hp => by
      obtain ⟨r, hr', rfl⟩ := List.mem_map.mp hp
      exact ⟨(hr r hr').1, (hr r hr').2, (show (1 : Int) ≤ 1 by decide), (show (1 : Int) ≤ BIG by decide)⟩
    rw [ones_map, badPair_ok okp] at h
    cases h) (fun n' rows' e hr' => by
    obtain rfl := ones_inj e
    refine ⟨q0, fun z d' hd' => ?_⟩
    obtain ⟨kv, rfl, hk, hc⟩ := hd'
    exact q1 z n' kv hk hc)
theorem SG_del {G : Gm} {p d : Addr} {kv : KvI} {m : Nat} (h : d ≠ p) (n : G d = none) : delG (SG w G p d kv m) d = updG G p (.pen m) := by
  unfold SG
  rw [updG_comm h]
  exact delG_updG ((updG_ne h).trans n)
theorem tot_rev (r : Row) : ∀ a : KvI, tot a.reverse r = tot a r
  | [] => rfl
  | p :: a => by
    rw [List.reverse_cons, tot_app, tot_rev r a]
    show tot a r + ((if r = p.1 then p.2 else 0) + 0) = (if r = p.1 then p.2 else 0) + tot a r
    omega
theorem cnt_psK {kv : KvI} (nd : (keys kv).Nodup) (r : Row) : cnt (psK kv) r = cnt kv r := by
  have ndp : (keys (psK kv)).Nodup := by rw [keys_psK]; exact nodup_ordK nd
  by_cases e : r ∈ keys kv
  · have : (r, cnt kv r) ∈ psK kv := List.mem_map.mpr ⟨r, ordK_mem.mpr e, rfl⟩
    exact cnt_mem ndp this
  · rw [cnt_none e, cnt_none]
    rw [keys_psK]
    exact fun z => e (ordK_mem.mp z)
theorem tot_psK {kv : KvI} (nd : (keys kv).Nodup) (r : Row) : tot (psK kv) r = cnt kv r := by
  rw [tot_nodup (by rw [keys_psK]; exact nodup_ordK nd), cnt_psK nd]
theorem noL_lD : ∀ r : List PySem.Leaf, noLs (r.map lD) = true
  | [] => by simp only [List.map_nil, noLs]
  | l :: r => by
    simp only [List.map_cons, noLs, noL_lD r, Bool.and_true]
    cases l <;> simp only [lD, noL]
theorem noL_pairs : ∀ ps : KvI, noLs (ps.map pairD) = true
  | [] => by simp only [List.map_nil, noLs]
  | p :: ps => by
    simp only [List.map_cons, noLs, noL_pairs ps, pairD, rowT, noL, noL_lD, Bool.and_self]
theorem noL_kvD : ∀ kv : KvI, noLn (kvD kv) = true
  | [] => by simp only [kvD, List.map_nil, noLn]
  | p :: kv => by
    have := noL_kvD kv
    simp only [kvD] at this
    simp only [kvD, List.map_cons, noLn, noL, this, Bool.and_self]
theorem noL_bag {C : Addr} (kv : KvI) : noL (bagD C w kv) = true := by
  rw [bagD_eq]
  simp only [noL, noLf, noL_pairs, noL_kvD, Bool.and_self]
theorem width_one {C : Addr} {n : Nat} {L : List Row} {kv : KvI} {G : Gm} {Q : QD} {W : WD} (hk : BagK n L kv) (q : Q (if kv = [] then .non else .int (n : Int)) G) : widthX C w [bagD C w kv] G Q W :=
  ⟨n, L, kv, rfl, hk, fun e => by rw [if_pos e] at q; exact q, fun e => by rw [if_neg e] at q; exact q⟩
theorem if_ne0 {i j : Nat} {xs : List D} {d : D} {δ : SD} {G : Gm} {Q : QD} (hi : δ[i]? = some (some (.lst xs))) (hj : δ[j]? = some (some d)) (hp : ∀ e ∈ xs, Pl 58 e) (q : Q (if xs = [] then .non else d) G) :
    dIf (dTest (dOp NeI (dVar i) (dLst dNil))) (dVar j) (dC .non) δ G Q := by
  dsimp only [dIf, dTest, dOp, dC]
  refine var_rd hi ?_
  refine ⟨Nat.zero_le _, ?_⟩
  refine neI_l0 hp ?_
  by_cases e : xs = []
  · rw [if_pos e] at q
    rw [decide_eq_true e]
    exact q
  · rw [if_neg e] at q
    rw [decide_eq_false e]
    exact var_rd hj q
theorem psK_nil {kv : KvI} : kv = [] ↔ psK kv = [] := by
  constructor
  · intro e
    have := psK_len (kv := kv)
    rw [e] at this
    rw [e]
    exact List.length_eq_zero_iff.mp this
  · intro e
    have := psK_len (kv := kv)
    rw [e] at this
    exact List.length_eq_zero_iff.mp this.symm
/-- [row] * k, behind other rows -/
theorem tot_reps (s r : Row) : ∀ k : Nat, tot (onesK (List.replicate k r)) s = if s = r then (k : Int) else 0
  | 0 => by
    show (0 : Int) = _
    split <;> rfl
  | k + 1 => by
    have ih := tot_reps s r k
    show (if s = r then (1 : Int) else 0) + tot (onesK (List.replicate k r)) s = _
    rw [ih]
    split <;> omega
theorem ones_app (a b : List Row) : onesK (a ++ b) = onesK a ++ onesK b := List.map_append
theorem ones_rev (a : List Row) : onesK a.reverse = (onesK a).reverse := List.map_reverse
/-- what is made of some keys -/
def fewK (kv : KvI) (S : List Row) : KvI := fillR (cnt kv) [] S
theorem few_mrg (kv : KvI) (S : List Row) : mrgN [] (kvD (S.map fun r => (r, cnt kv r))) = kvD (fewK kv S) := by
  show mrgN (kvD []) _ = _
  rw [mrg_kvD]
  unfold fewK fillR
  rw [List.foldl_map]
theorem few_cnt (kv : KvI) (S : List Row) (r : Row) : cnt (fewK kv S) r = if r ∈ S then cnt kv r else 0 := by
  unfold fewK
  rw [fill_cnt]
  rfl
theorem few_nd (kv : KvI) (S : List Row) : (keys (fewK kv S)).Nodup := fill_nodup _ [] List.nodup_nil
theorem few_ne {n : Nat} {kv : KvI} (hk : FoundK n kv) {S : List Row} (hS : ∀ r ∈ S, r ∈ keys kv) : ∀ r ∈ keys (fewK kv S), cnt (fewK kv S) r ≠ 0 := fun r hr => by
  have h : r ∈ keys (fillR (cnt kv) [] S) := hr
  rw [fill_keys] at h
  rcases h with h | h
  · cases h
  · rw [few_cnt, if_pos h]
    have := (hk.num r (hS r h)).1
    omega
def rA : Row := [.num 3, .none]
def rBB : Row := [.num 1, .num 4]
def threeP : KvI := [(rA, 2), (rBB, 1), (rA, 1)]
theorem rA_ok : OkR rA := ⟨by decide, by decide, fun l hl => by
  simp only [rA, List.mem_cons, List.not_mem_nil, or_false] at hl
  rcases hl with rfl | rfl <;> rfl⟩
theorem rBB_ok : OkR rBB := ⟨by decide, by decide, fun l hl => by
  simp only [rBB, List.mem_cons, List.not_mem_nil, or_false] at hl
  rcases hl with rfl | rfl <;> rfl⟩
theorem three_ok : OkPs 2 threeP := fun x hx => by
  simp only [threeP, List.mem_cons, List.not_mem_nil, or_false] at hx
  rcases hx with rfl | rfl | rfl
  · exact ⟨rA_ok, rfl, by decide, by decide⟩
  · exact ⟨rBB_ok, rfl, by decide, by decide⟩
  · exact ⟨rA_ok, rfl, by decide, by decide⟩
def twoP : KvI := [(rA, 3), (rBB, 1)]
theorem three_tot (r : Row) : tot threeP r = tot twoP r := by
  have : ∀ (a b : Prop) [Decidable a] [Decidable b], (if a then (2 : Int) else 0) + ((if b then 1 else 0) + ((if a then 1 else 0) + 0)) = (if a then 3 else 0) + ((if b then 1 else 0) + 0) := fun a b _ _ => by
    by_cases ha : a <;> by_cases hb : b <;> simp [ha, hb]
  exact this (r = rA) (r = rBB)
theorem two_nd : (keys twoP).Nodup := by decide +kernel
theorem two_bag : BagK 2 [rA, rBB] twoP := ⟨two_nd, fun r hr => by
    simp only [keys, twoP, List.map_cons, List.map_nil, List.mem_cons, List.not_mem_nil, or_false] at hr
    rcases hr with rfl | rfl
    · exact ⟨rA_ok, rfl, by simp⟩
    · exact ⟨rBB_ok, rfl, by simp⟩, fun r hr => by
    simp only [keys, twoP, List.map_cons, List.map_nil, List.mem_cons, List.not_mem_nil, or_false] at hr
    rcases hr with rfl | rfl <;> exact ⟨by decide +kernel, by decide +kernel⟩, by decide⟩
theorem three_fit (r : Row) : tot threeP r ≤ BIG := by
  rw [three_tot, tot_nodup two_nd]
  exact (two_bag.cnt_pos r).2
theorem three_ps {L : List Row} {k0 : KvI} (hk : BagK 2 L k0) (c : ∀ r, cnt k0 r = tot threeP r) : psK k0 = [(rBB, 1), (rA, 3)] := by
  rw [(psK_same hk two_bag).mpr fun r => by rw [c r, three_tot, tot_nodup two_nd]]
  decide +kernel
end
section
variable {P : Program} {w : World} {K : PySem.W.Frag} {mg : Str → Option Value} {base : Heap}
theorem dok_law (T : Top K mg) : GnD P w K mg base 80 T.a_law T.d_law ["_law_script"] lawD := by
  have G__law_pen := (dok__law_pen (P := P) (w := w) (base := base) T).mono (k := 77) (by decide)
  have G__law_rows := (dok__law_rows (P := P) (w := w) (base := base) T).mono (k := 77) (by decide)
  have G__law_draw := (dok__law_draw (P := P) (w := w) (base := base) T).mono (k := 77) (by decide)
  have G__law_of_pairs := (dok__law_of_pairs (P := P) (w := w) (base := base) T).mono (k := 77) (by decide)
  have G_Bag___init__ := (dok_Bag___init__ (P := P) (w := w) (base := base) T).mono (k := 77) (by decide)
  have G__law_in_order := (dok__law_in_order (P := P) (w := w) (base := base) T).mono (k := 77) (by decide)
  have G__law_torn := (dok__law_torn (P := P) (w := w) (base := base) T).mono (k := 77) (by decide)
  have G__law_asked_right := (dok__law_asked_right (P := P) (w := w) (base := base) T).mono (k := 77) (by decide)
  have G_Bag_of := (dok_Bag_of (P := P) (w := w) (base := base) T).mono (k := 77) (by decide)
  have G_Bag___len__ := (dok_Bag___len__ (P := P) (w := w) (base := base) T).mono (k := 77) (by decide)
  have G_Bag_whole := (dok_Bag_whole (P := P) (w := w) (base := base) T).mono (k := 77) (by decide)
  have G_Bag_width := (dok_Bag_width (P := P) (w := w) (base := base) T).mono (k := 77) (by decide)
  have G_Bag___add__ := (dok_Bag___add__ (P := P) (w := w) (base := base) T).mono (k := 77) (by decide)
  have G_Bag___eq__ := (dok_Bag___eq__ (P := P) (w := w) (base := base) T).mono (k := 77) (by decide)
  have I_Bag___iter__ := (vis_Bag___iter__ (P := P) (w := w) (base := base) T).mono (k := 77) (by decide)
  refine dfg (k := 79) T.F_law sclaw (fun ds G Q W h => ?_) (fun cdv A outer s H E B hg hr => ⟨_, (db_cons (ds_set (i := 1) sclaw.nd rfl (.inl rfl) (de_call G__law_pen (hr.mono (by decide)) (by rfl) T.g__law_pen T.F__law_pen.kp T.b__law_pen hx0 (da_cons (dv 0) da_nil)))
  (db_cons (ds_for PassesOwn.never rfl (di_range1 (by rfl) T.z_range (da_cons de_int da_nil)) (dg_name (i := 2) sclaw.nd rfl (.inl rfl))
    (db_cons (ds_set (i := 3) sclaw.nd rfl (.inl rfl) (de_add de_int (de_call G__law_draw (hr.mono (by decide)) (by rfl) T.g__law_draw T.F__law_draw.kp T.b__law_draw hx0 (da_cons (dv 1) (da_cons de_int da_nil)))))
  (db_cons (ds_set (i := 4) sclaw.nd rfl (.inr rfl) (de_closeN (de_call G__law_rows (hr.mono (by decide)) (by rfl) T.g__law_rows T.F__law_rows.kp T.b__law_rows hx0 (da_cons (dv 1) (da_cons (dv 3) (da_cons de_int da_nil))))))
  (db_cons (ds_setLcF (i := 5) (own := [("_law_row", 8)]) (gV := gName 8) finA_l rfl sclaw.nd rfl rfl (sw_true rfl rfl rfl (by decide +kernel)) (di_list (de_call G__law_in_order (hr.mono (by decide)) (by rfl) T.g__law_in_order T.F__law_in_order.kp T.b__law_in_order hx0 (da_cons (de_callTy (call_listN (by rfl)) listN_A (by rfl) T.z_list (by decide +kernel) (da_cons (dv 4) da_nil)) da_nil))) (blkOk_by (own := [("_law_row", 8)]) (N := Nlaw) (sc := defScope slaw) (by decide +kernel)) (cg_name (i := 8) (by decide)) (fun _ _ _ _ _ => (pg_name (i := 8) sclaw.nd rfl (.inl rfl))) (fun _ _ _ _ _ _ => dts_nil) (fun _ _ _ _ _ _ => (de_tup (da_cons (dv 8) (da_cons (de_ngetW (w := w) rfl (Nat.lt_of_le_of_lt (Nat.add_le_add_left (by decide) _) (Room.units hr)) (dv 4) (dv 8) (fun _ _ => rfl)) da_nil)))))
  (db_cons (ds_asg (de_tup (da_cons (de_call G__law_of_pairs (hr.mono (by decide)) (by rfl) T.g__law_of_pairs T.F__law_of_pairs.kp T.b__law_of_pairs hx0 (da_cons (de_call G__law_torn (hr.mono (by decide)) (by rfl) T.g__law_torn T.F__law_torn.kp T.b__law_torn hx0 (da_cons (dv 1) (da_cons (dv 4) da_nil))) da_nil)) (da_cons (de_makeR0 T.mk_Bag T.gc_Bag G_Bag___init__ (hr.mono (by decide)) rfl T.g_Bag hx0) da_nil))) (dg_tup (by rfl) (dgs_cons (dg_name (i := 6) sclaw.nd rfl (.inr rfl)) (dgs_cons (dg_name (i := 7) sclaw.nd rfl (.inl rfl)) dgs_nil))))
  (db_cons (ds_for PassesOwn.never rfl (di_list (de_revL (dv 5))) (dg_tup (by rfl) (dgs_cons (dg_name (i := 8) sclaw.nd rfl (.inl rfl)) (dgs_cons (dg_name (i := 9) sclaw.nd rfl (.inl rfl)) dgs_nil)))
    (db_one (ds_set (i := 7) sclaw.nd rfl (.inl rfl) (de_own (K := K) rfl (nm := "add") rfl T.lo_Bag_add G_Bag___add__ T.b_Bag___add__ (hr.mono (by decide)) hx0 (dv 7) (de_makeR T.mk_Bag T.gc_Bag G_Bag___init__ (hr.mono (by decide)) rfl T.g_Bag hx0 (da_cons (de_tup (da_cons (dv 8) (da_cons (dv 9) da_nil))) da_nil))))))
  (db_cons (ds_setLcF (i := 10) (own := [("_law_pair", 16)]) (gV := gName 16) finA_l rfl sclaw.nd rfl rfl (sw_true rfl rfl rfl (by decide +kernel)) (di_own T.so_Bag.it T.so_Bag.itF I_Bag___iter__ (hr.mono (by decide)) (dv 6)) (blkOk_by (own := [("_law_pair", 16)]) (N := Nlaw) (sc := defScope slaw) (by decide +kernel)) (cg_name (i := 16) (by decide)) (fun _ _ _ _ _ => (pg_name (i := 16) sclaw.nd rfl (.inl rfl))) (fun _ _ _ _ _ _ => dts_nil) (fun _ _ _ _ _ _ => (de_lcF (own := [("_law_other", 17)]) (gV := gName 17) finA_l rfl sclaw.nd (di_own T.so_Bag.it T.so_Bag.itF I_Bag___iter__ (hr.mono (by decide)) (dv 6)) (blkOk_by (own := [("_law_other", 17)]) (by kernel_rfl)) (cg_name (i := 17) (by decide)) (fun _ _ _ _ _ => (pg_name (i := 17) sclaw.nd rfl (.inl rfl))) (fun _ _ _ _ _ _ => dts_nil) (fun _ _ _ _ _ _ => (dv 17)))))
  (db_cons (ds_if (dw_pt (dw_or (dt_cmp (op_neD (Room.units hr)) neI_A (de_lcF (own := [("_law_pair", 16)]) (gV := gName 16) finA_l rfl sclaw.nd (di_own T.so_Bag.it T.so_Bag.itF I_Bag___iter__ (hr.mono (by decide)) (dv 6)) (blkOk_by (own := [("_law_pair", 16)]) (N := Nlaw) (sc := defScope slaw) (by decide +kernel)) (cg_name (i := 16) (by decide)) (fun _ _ _ _ _ => (pg_name (i := 16) sclaw.nd rfl (.inl rfl))) (fun _ _ _ _ _ _ => dts_nil) (fun _ _ _ _ _ _ => (dv 16))) (dv 5) (nomark _)) (dw_or1 (dt_cmp (op_neD (Room.units hr)) neI_A (dv 10) (de_mul (de_lst (da_cons (dv 5) da_nil)) (de_callB call_len2 len_A (by rfl) T.z_len (by decide +kernel) (da_cons (dv 5) da_nil))) (nomark _)))))
    (db_one (ds_ret de_bl))
    db_nil)
  (db_cons (ds_if (dw_pt (dw_or (dt_cmp (op_neD (Room.units hr)) neI_A (de_prop (dv 6) T.cl_Bag T.pr_Bag_width G_Bag_width (hr.mono (by decide)) T.b_Bag_width) (de_if (dt_cmp (op_neD (Room.units hr)) neI_A (dv 5) (de_lst da_nil) (nomark _)) (dv 3) de_non) (nomark _)) (dw_or1 (dt_cmp (op_neD (Room.units hr)) neI_A (de_prop (dv 6) T.cl_Bag T.pr_Bag_whole G_Bag_whole (hr.mono (by decide)) T.b_Bag_whole) (de_callB (cr_sum rfl) sum_A (by rfl) T.z_sum (by decide +kernel) (da_cons (de_lcF (own := [("_law_pair", 16)]) (gV := gName 16) finA_l rfl sclaw.nd (di_list (dv 5)) (blkOk_by (own := [("_law_pair", 16)]) (N := Nlaw) (sc := defScope slaw) (by decide +kernel)) (cg_name (i := 16) (by decide)) (fun _ _ _ _ _ => (pg_name (i := 16) sclaw.nd rfl (.inl rfl))) (fun _ _ _ _ _ _ => dts_nil) (fun _ _ _ _ _ _ => (de_ix ix_seq ix_A (dv 16) de_int (fun _ _ => rfl)))) da_nil)) (nomark _)))))
    (db_one (ds_ret de_bl))
    db_nil)
  (db_cons (ds_if (dw_pt (dw_or (dt_cmp (op_neD (Room.units hr)) neI_A (de_lenO T.om_Bag___len__ G_Bag___len__ T.b_Bag___len__ (hr.mono (by decide)) hx0 (by rfl) T.z_len (by decide +kernel) (da_cons (dv 6) da_nil)) (de_callB call_len2 len_A (by rfl) T.z_len (by decide +kernel) (da_cons (dv 5) da_nil)) (nomark _)) (dw_or (dt_neOK rfl T.om_Bag___eq__ T.ne_Bag T.mr_Bag G_Bag___eq__ T.b_Bag___eq__ (hr.mono (by decide)) hx0 (dv 6) (dv 7)) (dw_or (dt_eqOK rfl T.om_Bag___eq__ G_Bag___eq__ T.b_Bag___eq__ (hr.mono (by decide)) hx0 (dv 6) (de_callTy call_tuple_of tup_A (by rfl) T.z_tuple (by decide +kernel) (da_cons (dv 5) da_nil))) (dw_or1 (dt_not (dt_val (de_call G__law_asked_right (hr.mono (by decide)) (by rfl) T.g__law_asked_right T.F__law_asked_right.kp T.b__law_asked_right hx0 (da_cons (dv 1) (da_cons (dv 6) (da_cons (dv 4) (da_cons (dv 5) da_nil))))))))))))
    (db_one (ds_ret de_bl))
    db_nil)
  (db_cons (ds_setLcF (i := 11) (own := [("_law_row", 8)]) (gV := gName 8) finA_l rfl sclaw.nd rfl rfl (sw_true rfl rfl rfl (by decide +kernel)) (di_keysN (dv 4)) (blkOk_by (own := [("_law_row", 8)]) (N := Nlaw) (sc := defScope slaw) (by decide +kernel)) (cg_name (i := 8) (by decide)) (fun _ _ _ _ _ => (pg_name (i := 8) sclaw.nd rfl (.inl rfl))) (fun _ _ _ _ _ _ => (dts_one (dt_cmp op_lt lt_A (de_ngetW (w := w) rfl (Nat.lt_of_le_of_lt (Nat.add_le_add_left (by decide) _) (Room.units hr)) (dv 4) (dv 8) (fun _ _ => rfl)) de_int (nomark _)))) (fun _ _ _ _ _ _ => (dv 8)))
  (db_cons (ds_set (i := 12) sclaw.nd rfl (.inl rfl) (de_lst da_nil))
  (db_cons (ds_for PassesOwn.never rfl (di_list (dv 11)) (dg_name (i := 8) sclaw.nd rfl (.inl rfl))
    (db_one (ds_set (i := 12) sclaw.nd rfl (.inl rfl) (de_add (dv 12) (de_mul (de_lst (da_cons (dv 8) da_nil)) (de_ngetW (w := w) rfl (Nat.lt_of_le_of_lt (Nat.add_le_add_left (by decide) _) (Room.units hr)) (dv 4) (dv 8) (fun _ _ => rfl)))))))
  (db_cons (ds_set (i := 13) sclaw.nd rfl (.inl rfl) (de_closeN (de_callTy (call_dictPN (Room.units hr) (by rfl)) dictPN_A (by rfl) T.z_dict (by decide +kernel) (da_cons (de_lcF (own := [("_law_row", 8)]) (gV := gName 8) finA_l rfl sclaw.nd (di_list (dv 11)) (blkOk_by (own := [("_law_row", 8)]) (N := Nlaw) (sc := defScope slaw) (by decide +kernel)) (cg_name (i := 8) (by decide)) (fun _ _ _ _ _ => (pg_name (i := 8) sclaw.nd rfl (.inl rfl))) (fun _ _ _ _ _ _ => dts_nil) (fun _ _ _ _ _ _ => (de_tup (da_cons (dv 8) (da_cons (de_ngetW (w := w) rfl (Nat.lt_of_le_of_lt (Nat.add_le_add_left (by decide) _) (Room.units hr)) (dv 4) (dv 8) (fun _ _ => rfl)) da_nil))))) da_nil))))
  (db_cons (ds_set (i := 14) sclaw.nd rfl (.inl rfl) (de_callTy call_list_of lstM_A (by rfl) T.z_list (by decide +kernel) (da_cons (dv 12) da_nil)))
  (db_cons (ds_set (i := 15) sclaw.nd rfl (.inl rfl) (de_lst (da_cons (de_smethL hx0 (pe_glob rfl T.g_Bag (show RelV (.ref T.C_Bag) _ from rfl)) T.sm_Bag_of G_Bag_of (hr.mono (by decide)) T.b_Bag_of (da_cons (dv 14) da_nil)) (da_cons (de_smeth hx0 (pe_glob rfl T.g_Bag (show RelV (.ref T.C_Bag) _ from rfl)) T.sm_Bag_of G_Bag_of (hr.mono (by decide)) T.b_Bag_of (da_cons (de_callTy call_tuple_of tup_A (by rfl) T.z_tuple (by decide +kernel) (da_cons (dv 12) da_nil)) da_nil)) (da_cons (de_smethK0 hx0 (pe_glob rfl T.g_Bag (show RelV (.ref T.C_Bag) _ from rfl)) T.sm_Bag_of G_Bag_of (hr.mono (by decide)) T.kb_Bag_of_0 perm_ok (dk_cons (de_revL (dv 12)) dk_nil)) da_nil)))))
  (db_cons (ds_expr (de_append (dv 14) (de_tup (da_cons de_int (da_cons de_int (da_cons de_int da_nil))))))
  (db_one (ds_if (dt_cmp (op_neDn1 (units100 hr)) neDn_A (de_lcF (own := [("_law_one", 18)]) (gV := gName 18) finA_l rfl sclaw.nd (di_list (dv 15)) (blkOk_by (own := [("_law_one", 18)]) (N := Nlaw) (sc := defScope slaw) (by decide +kernel)) (cg_name (i := 18) (by decide)) (fun _ _ _ _ _ => (pg_name (i := 18) sclaw.nd rfl (.inl rfl))) (fun _ _ _ _ _ _ => dts_nil) (fun _ _ _ _ _ _ => (de_closeN (de_callTy (call_dictPN (Room.units hr) (by rfl)) dictPN_A (by rfl) T.z_dict (by decide +kernel) (da_cons (de_lcF (own := [("_law_pair", 16)]) (gV := gName 16) finA_l rfl sclaw.nd (di_own T.so_Bag.it T.so_Bag.itF I_Bag___iter__ (hr.mono (by decide)) (dv 18)) (blkOk_by (own := [("_law_pair", 16)]) (by kernel_rfl)) (cg_name (i := 16) (by decide)) (fun _ _ _ _ _ => (pg_name (i := 16) sclaw.nd rfl (.inl rfl))) (fun _ _ _ _ _ _ => dts_nil) (fun _ _ _ _ _ _ => (dv 16))) da_nil))))) (de_mul (de_lst (da_cons (dv 13) da_nil)) de_int) (nomark _))
    (db_one (ds_ret de_bl))
    db_nil)))))))))))))))))))
  (db_one (ds_ret (de_cmp (op_eqD (Room.units hr)) eqI_A (de_lcF (own := [("_law_pair", 16)]) (gV := gName 16) finA_l rfl sclaw.nd (di_own T.so_Bag.it T.so_Bag.itF I_Bag___iter__ (hr.mono (by decide)) (de_makeR T.mk_Bag T.gc_Bag G_Bag___init__ (hr.mono (by decide)) rfl T.g_Bag hx0 (da_cons (de_tup (da_cons (de_tup (da_cons de_int (da_cons de_non da_nil))) (da_cons de_int da_nil))) (da_cons (de_tup (da_cons (de_tup (da_cons de_int (da_cons de_int da_nil))) (da_cons de_int da_nil))) (da_cons (de_tup (da_cons (de_tup (da_cons de_int (da_cons de_non da_nil))) (da_cons de_int da_nil))) da_nil))))) (blkOk_by (own := [("_law_pair", 16)]) (N := Nlaw) (sc := defScope slaw) (by decide +kernel)) (cg_name (i := 16) (by decide)) (fun _ _ _ _ _ => (pg_name (i := 16) sclaw.nd rfl (.inl rfl))) (fun _ _ _ _ _ _ => dts_nil) (fun _ _ _ _ _ _ => (dv 16))) (de_lst (da_cons (de_tup (da_cons (de_tup (da_cons de_int (da_cons de_int da_nil))) (da_cons de_int da_nil))) (da_cons (de_tup (da_cons (de_tup (da_cons de_int (da_cons de_non da_nil))) (da_cons de_int da_nil))) da_nil))) (nomark _)))))), fun ds G Q W h => ?_⟩)
  · obtain ⟨ns, rfl, _⟩ := h
    rfl
  · obtain ⟨script, rfl, hl, hG, q⟩ := h
    have z0 : 0 ≤ sizeLine := Nat.zero_le _
    have z1 : 1 ≤ sizeLine := by rw [sizeLine_eq]; decide
    have z2 : 2 ≤ sizeLine := by rw [sizeLine_eq]; decide
    have z3 : 3 ≤ sizeLine := by rw [sizeLine_eq]; decide
    have z4 : 4 ≤ sizeLine := by rw [sizeLine_eq]; decide
    have hz := sizeLine_eq
    refine ⟨script, rfl, hl, fun p hp => ?_⟩
    refine ⟨⟨by decide, by decide⟩, ?_⟩
    refine for_inv (n := 6) (fun j δ G' => ∃ m x2 x3 x4 x5 x6 x7 x8 x9 x10 x11 x12 x13 x14 x15 x16 x17 x18, G' p = some (.pen m) ∧ m ≤ 1000 * j ∧ δ = [some (.scr script), some (.adr p), x2, x3, x4, x5, x6, x7, x8, x9, x10, x11, x12, x13, x14, x15, x16, x17, x18]) _ 0 _ _ (by rw [range_len]; rfl) (fun j δ G' e N he hj hI hN => ?_) ⟨0, none, none, none, none, none, none, none, none, none, none, none, none, none, none, none, none, none, updG_same, Nat.le_refl _, rfl⟩ (fun δ G' hI => ?_)
    · obtain ⟨m, x2, x3, x4, x5, x6, x7, x8, x9, x10, x11, x12, x13, x14, x15, x16, x17, x18, hGp, hm, rfl⟩ := hI
      refine ⟨p, 3, m, rfl, hGp, by decide, by decide, by omega, fun r r0 r1 => ?_⟩
      obtain ⟨k, rfl⟩ := Int.eq_ofNat_of_zero_le r0
      obtain ⟨n, hn⟩ : ∃ n : Nat, n = 1 + k := ⟨_, rfl⟩
      have hn' : (1 : Int) + (k : Int) = (n : Int) := by omega
      have n1 : 1 ≤ n := by omega
      have n3 : n ≤ 3 := by omega
      refine ⟨p, m + 1, n, 14, by rw [← hn']; rfl, updG_same, n1, n3, by omega, by omega, fun a kv m1 na hk hkl hm1 => ?_⟩
      have ap : a ≠ p := fun e => by rw [e, updG_same] at na; cases na
      refine ⟨a, rfl, ?_⟩
      rw [SG_d ap]
      show gNameD 4 (.dln (rowH w) (kvD kv)) _ (delG (SG w (updG G' p (.pen (m + 1))) p a kv m1) a) _
      rw [SG_del ap na, updG_updG]
      have lk : (keys kv).length ≤ 14 := by rw [keys_len]; exact hkl
      refine ⟨n, keys kv, by rw [show (kvD kv).map (fun q => rowT q.1) = (keys kv).map rowT from kvD_rows kv]; rfl, fun r hr => ⟨(hk.row r hr).1.2.2, (hk.row r hr).2⟩, by omega, by omega, hk.nd, ?_⟩
      refine ⟨by rw [List.length_map, (ordR_perm 6 _).length_eq, hz]; omega, ?_⟩
      refine lc_f0 rowT (fun r => pairD (r, cnt kv r)) (ordR 6 (keys kv)) [] (fun r hr N hN => ?_) ?_
      · have hr' : r ∈ keys kv := (ordR_perm 6 _).mem_iff.mp hr
        show (match dlnD (.dln (rowH w) (kvD kv)) _, rowD? (rowT r) with | some (hf, kvs), some k => _ | _, _ => False)
        rw [rowD_T]
        refine ⟨rfl, ?_⟩
        rw [getR_in hr']
        exact ⟨z2, hN⟩
      have edue : (ordR 6 (keys kv)).map (fun r => pairD (r, cnt kv r)) = (psK kv).map pairD := (ps_map kv).symm
      rw [List.nil_append, edue]
      refine ⟨p, m1, n, kv, rfl, updG_same, hk, by omega, by omega, fun ps m2 okps lps tps hm2 => ?_⟩
      rw [updG_updG]
      have hB : BIG = 10 * B29 ∧ 0 < B29 := by decide
      refine ⟨n, ps, rfl, okps, by omega, fun r => by
        rw [tps r]
        have := hk.nn r
        omega, fun made L hmade0 => ?_⟩
      have hmade := hmade0.congr tps
      clear hmade0
      obtain ⟨kv', rfl, hk', eps, hc⟩ := hmade.at_ hk (by omega)
      refine bag0X (n := n) fun again0 h0 => ?_
      refine ⟨z2, rfl, ?_⟩
      show forD _ _ _ ((psK kv).map pairD).reverse _ _
      rw [← List.map_reverse]
      have pkx : (psK kv).length = kv.length := psK_len
      have okpsK : OkPs n (psK kv) := fun y hy => by
        obtain ⟨y1, y2⟩ := psK_mem hy
        have b := hk.big y1
        exact ⟨(hk.row _ y1).1, (hk.row _ y1).2, by rw [y2]; exact b.1, by rw [y2]; exact b.2⟩
      refine (fun (key : ∀ (l : KvI) (F : Row → Int) (ag : D) (La : List Row) (y8 y9 : Option D), OkPs n l → (∀ r, 0 ≤ F r) → (∀ r, F r + tot l r = cnt kv r) → IsBag T.C_Bag w n La F ag → forD _ _ _ (l.map pairD) [some (.scr script), some (.adr p), some e, some (.int n), some (.dln (rowH w) (kvD kv)), some (.lst ((psK kv).map pairD)), some (bagD T.C_Bag w kv'), some ag, y8, y9, x10, x11, x12, x13, x14, x15, x16, x17, x18] _) => by
        have := key (psK kv).reverse (fun _ => 0) again0 [] x8 x9 (fun y hy => okpsK y (List.mem_reverse.mp hy)) (fun _ => Int.le_refl _) (fun r => by rw [tot_rev, tot_psK hk.nd, Int.zero_add]) h0
        rw [← hn'] at this
        exact this) ?_
      intro l
      induction l with
      | cons y l ih =>
        intro F ag La y8 y9 okl F0 hF hag
        have okl' : OkPs n l := fun x hx => okl x (List.mem_cons_of_mem _ hx)
        have oky : OkPs n [y] := fun x hx => by rw [List.mem_singleton.mp hx]; exact okl y List.mem_cons_self
        have tl : ∀ r, 0 ≤ tot l r := fun r => tot_nn (fun x hx => (okl' x hx).2.2.1) r
        have ty : ∀ r, tot (y :: l) r = tot [y] r + tot l r := fun r => tot_app r [y] l
        have t0 : ∀ r, 0 ≤ tot [y] r := fun r => tot_nn (fun x hx => (oky x hx).2.2.1) r
        have up : ∀ r, F r + tot [y] r ≤ cnt kv r := fun r => by
          have h1 := hF r
          have h2 := tl r
          rw [ty r] at h1
          omega
        have upB : ∀ r, F r + tot [y] r ≤ BIG := fun r => by
          have h1 := up r
          have h2 := hk.nn r
          omega
        refine ⟨rfl, ?_⟩
        dsimp only [gConsD, gNameD, gNilD, dAsg, dOp]
        refine var_rd rfl ?_
        refine bagPX (ps := [y]) (fun N hN => ⟨z2, hN⟩) oky (by simp) (fun r => by have := upB r; have := F0 r; omega) fun bb hbb => ?_
        refine add_fit hag hbb upB (us := keys kv) (fun r hr => ?_) (by rw [keys_len]; omega) fun d' vs h => ?_
        · false_or_by_contra
          rename_i nn
          have h1 := up r
          rw [cnt_none nn] at h1
          have h2 := F0 r
          have h3 := t0 r
          omega
        · exact ih (fun r => F r + tot [y] r) d' vs _ _ okl' (fun r => by have := F0 r; have := t0 r; omega) (fun r => by rw [← hF r, ty r]; omega) h
      | nil =>
        intro F ag La y8 y9 _ _ hF hag0
        have hag := hag0.congr (g := cnt kv) fun r => by
          have := hF r
          have z : tot [] r = 0 := rfl
          omega
        clear hag0
        have lps' : ((psK kv').map pairD).length < sizeLine := by rw [eps, List.length_map, pkx, hz]; omega
        have okpD : ∀ e ∈ (psK kv).map pairD, Pl 2 e := pl_map fun x hx => pl_pair ((hk.row _ (psK_mem hx).1).1.2.2)
        have pll : Pl 3 (.lst ((psK kv).map pairD)) := pl_lst okpD
        refine ⟨rfl, (psK kv').map pairD, rfl, lps', ?_⟩
        refine lc_f0 pairD (fun _ => .lst ((psK kv').map pairD)) (psK kv') [] (fun pr hpr N hN => ?_) ?_
        · refine ⟨rfl, (psK kv').map pairD, rfl, lps', ?_⟩
          refine lc_f0 pairD pairD (psK kv') [] (fun pr2 _ N2 hN2 => hN2) ?_
          rw [List.nil_append]
          exact hN
        rw [List.nil_append]
        refine ⟨rfl, (psK kv').map pairD, rfl, lps', ?_⟩
        refine lc_f0 pairD pairD (psK kv') [] (fun pr2 _ N2 hN2 => hN2) ?_
        rw [List.nil_append, eps]
        refine neI_self (pll.mono (by decide)) ?_
        have wlk : (psK kv).map (fun _ => D.lst ((psK kv).map pairD)) = (List.replicate (((psK kv).map pairD).length : Int).toNat [D.lst ((psK kv).map pairD)]).flatten := by
          rw [rep_one, Int.toNat_natCast, List.length_map, List.map_const']
        have ldI : (((psK kv).map pairD).length : Int) = (kv.length : Int) := by rw [List.length_map, pkx]
        refine ⟨z1, ⟨by rw [ldI]; omega, by rw [ldI]; omega, by rw [ldI, Int.toNat_natCast, hz]; show 1 * kv.length ≤ _; omega⟩, ?_⟩
        rw [← wlk]
        refine neI_self ((pl_lst (k := 3) (pl_map fun _ _ => pll)).mono (by decide)) ?_
        refine ⟨rfl, width_one hk' ?_⟩
        refine if_ne0 (i := 5) (j := 3) (xs := (psK kv).map pairD) (d := .int (n : Int)) rfl (by rw [← hn']; rfl) (fun e he => (okpD e he).mono (by decide)) ?_
        have eif : (if (psK kv).map pairD = [] then D.non else .int (n : Int)) = if kv' = [] then D.non else .int (n : Int) := by
          by_cases c : kv' = []
          · rw [if_pos c, if_pos (by rw [← eps, psK_nil.mp c]; rfl)]
          · rw [if_neg c, if_neg fun z => c (psK_nil.mpr (by rw [eps]; exact List.map_eq_nil_iff.mp z))]
        rw [eif]
        refine neI_self (by split; exact pl_non; exact pl_int) ?_
        refine ⟨rfl, kv', rfl, hk'.len, ?_⟩
        rw [eps]
        refine ⟨by rw [List.length_map, pkx, hz]; omega, ?_⟩
        refine lc_f0 pairD (fun y => .int y.2) (psK kv) [] (fun y hy N hN => hN) ?_
        refine ⟨(psK kv).map (·.2), by rw [List.nil_append, List.map_map]; rfl, ?_⟩
        refine neI_self pl_int ?_
        refine ⟨rfl, _, (psK kv').map pairD, rfl, rfl, Nat.le_of_lt lps', ⟨by omega, by rw [eps, ldI]; omega⟩, ?_⟩
        rw [eps]
        refine neI_self pl_int ?_
        dsimp only [dOrT, dTest, dOp, dNotT]
        refine var_rd rfl ?_
        refine var_rd rfl ?_
        refine eq_bag (neg := true) hmade hag fun b hb => ?_
        obtain rfl : b = true := hb.mpr fun r => rfl
        dsimp only [Bool.not_true, if_true]
        refine var_rd rfl ?_
        dsimp only [dCB, dCons, dNil]
        refine var_rd rfl ?_
        dsimp only [tupD]
        refine eq_odd (K := K) (x := .tup ((psK kv).map pairD)) (neg := false) hmade ⟨.tup, rfl, T.kn_tuple_Bag, T.nf_tuple_Bag⟩ ?_
        refine ⟨p, m2, n, kv, L, _, rfl, updG_same, hmade, hk, by omega, by omega, fun m3 hm3 => ?_⟩
        rw [updG_updG]
        refine ⟨by rw [List.length_map, kvD_len, hz]; omega, ?_⟩
        rw [kvD_rows]
        refine lc_fm rowT (fun r => decide (cnt kv r < 9)) rowT (keys kv) [] (fun r hr acc N h1 h2 => ?_) ?_
        · show (match dlnD (.dln (rowH w) (kvD kv)) _, rowD? (rowT r) with | some (hf, kvs), some k => _ | _, _ => False)
          rw [rowD_T]
          refine ⟨rfl, ?_⟩
          rw [getR_in hr]
          show (match decide (cnt kv r < 9) with | true => _ | false => _)
          by_cases c : cnt kv r < 9
          · rw [decide_eq_true c]
            exact h1 (decide_eq_true c)
          · rw [decide_eq_false c]
            exact h2 (decide_eq_false c)
        rw [List.nil_append]
        generalize hS : (keys kv).filter (fun r => decide (cnt kv r < 9)) = S
        have Sk : ∀ r ∈ S, r ∈ keys kv ∧ cnt kv r < 9 := fun r hr => by
          rw [← hS] at hr
          obtain ⟨h1, h2⟩ := List.mem_filter.mp hr
          exact ⟨h1, of_decide_eq_true h2⟩
        have Sn : S.Nodup := by rw [← hS]; exact hk.nd.filter _
        have Sl : S.length ≤ 14 := Nat.le_trans (nodup_sub_len Sn fun r hr => (Sk r hr).1) lk
        clear hS
        refine ⟨z0, ?_⟩
        show forD _ _ _ (S.map rowT) _ _
        refine (fun (key : ∀ (rs acc : List Row) (y8 : Option D), rs.Nodup → (∀ r ∈ rs, r ∈ S) → (∀ r ∈ acc, r ∈ keys kv) → acc.length + 9 * rs.length ≤ 200 → (∀ r, tot (onesK acc) r + (if r ∈ rs then cnt kv r else 0) = if r ∈ S then cnt kv r else 0) → forD _ _ _ (rs.map rowT) [some (.scr script), some (.adr p), some e, some (.int n), some (.dln (rowH w) (kvD kv)), some (.lst ((psK kv).map pairD)), some (bagD T.C_Bag w kv'), some ag, y8, y9, some (.lst ((psK kv).map fun _ => D.lst ((psK kv).map pairD))), some (.lst (S.map rowT)), some (.lst (acc.map rowT)), x13, x14, x15, x16, x17, x18] _) => by
          have := key S [] y8 Sn (fun r h => h) (fun r h => by cases h) (by simp; omega) (fun r => by show 0 + _ = _; rw [Int.zero_add])
          rw [← eps] at this ⊢
          exact this) ?_
        intro rs
        induction rs with
        | cons r rs ih =>
          intro acc y8 nd hrs hacc hlen ht
          have nd' := List.nodup_cons.mp nd
          have hrS := hrs r List.mem_cons_self
          obtain ⟨rk, r9⟩ := Sk r hrS
          have rp := (hk.num r rk).1
          rw [List.length_cons] at hlen
          refine ⟨z1, ?_⟩
          show (match dlnD (.dln (rowH w) (kvD kv)) _, rowD? (rowT r) with | some (hf, kvs), some k => _ | _, _ => False)
          rw [rowD_T]
          refine ⟨rfl, ?_⟩
          rw [getR_in rk]
          refine ⟨⟨by omega, by omega, by show 1 * (cnt kv r).toNat ≤ _; omega⟩, ?_⟩
          rw [rep_one, ← List.map_replicate]
          refine ⟨by rw [List.length_map, List.length_map, List.length_replicate]; omega, ?_⟩
          rw [← List.map_append]
          refine ih (acc ++ List.replicate (cnt kv r).toNat r) _ nd'.2 (fun s hs => hrs s (List.mem_cons_of_mem _ hs)) (fun s hs => ?_) (by rw [List.length_append, List.length_replicate]; omega) (fun s => ?_)
          · rcases List.mem_append.mp hs with h | h
            · exact hacc s h
            · rw [List.eq_of_mem_replicate h]
              exact rk
          · rw [ones_app, tot_app, tot_reps, ← ht s]
            by_cases es : s = r
            · rw [es, if_pos rfl, if_neg nd'.1, if_pos List.mem_cons_self]
              omega
            · rw [if_neg es]
              by_cases er : s ∈ rs
              · rw [if_pos er, if_pos (List.mem_cons_of_mem _ er)]
                omega
              · rw [if_neg er, if_neg fun z => (List.mem_cons.mp z).elim es er]
                omega
        | nil =>
          intro acc y8 _ _ hacc hlen ht0
          have ht : ∀ r, tot (onesK acc) r = if r ∈ S then cnt kv r else 0 := fun r => by
            have := ht0 r
            rw [if_neg (fun z => by cases z)] at this
            omega
          have lacc : acc.length ≤ 200 := by
            have := hlen
            rw [List.length_nil] at this
            omega
          clear ht0 hlen
          have lS : (S.map rowT).length < sizeLine := by rw [List.length_map, hz]; omega
          refine ⟨lS, ?_⟩
          refine lc_f0 rowT (fun r => pairD (r, cnt kv r)) S [] (fun r hr N hN => ?_) ?_
          · show (match dlnD (.dln (rowH w) (kvD kv)) _, rowD? (rowT r) with | some (hf, kvs), some k => _ | _, _ => False)
            rw [rowD_T]
            refine ⟨rfl, ?_⟩
            rw [getR_in (Sk r hr).1]
            exact ⟨z2, hN⟩
          refine ⟨kvD (S.map fun r => (r, cnt kv r)), by rw [List.nil_append]; unfold kvD; rw [List.map_map, List.map_map]; rfl, fun u nu => ⟨u, rfl, ?_⟩⟩
          rw [updG_same, delG_updG nu]
          rw [show mrgN [] (kvD (S.map fun r => (r, cnt kv r))) = kvD (fewK kv S) from few_mrg kv S]
          have okrows : ∀ r ∈ acc, OkR r ∧ r.length = n := fun r hr => hk.row r (hacc r hr)
          have fits : ∀ rs : List Row, (∀ r ∈ rs, r ∈ keys kv) → (addAll [] (onesK rs)).length ≤ 14 := fun rs hrs => by
            have := nodup_sub_len (a := keys (addAll [] (onesK rs))) (b := keys kv) (nodup_addAll _ _ List.nodup_nil) fun r hr => by
              rcases (keys_addAll _ _).mp hr with h | h
              · cases h
              · rw [onesK_keys] at h
                exact hrs r h
            rw [keys_len] at this
            omega
          have f1 := fits acc hacc
          have f2 := fits acc.reverse fun r hr => hacc r (List.mem_reverse.mp hr)
          refine fun a2 na2 => ?_
          refine ⟨a2, _, rfl, updG_same, ofGood (n := n) okrows (by omega) (fun z => absurd z (by omega)) fun _ n1' k1 hb1 c1 => ⟨noL_bag _, ?_⟩⟩
          refine ofGoodT (n := n) okrows (by omega) (fun z => absurd z (by omega)) fun _ n2' k2 hb2 c2 => ?_
          show ofX _ _ _ w [.lst (acc.map rowT).reverse] _ _ _
          rw [← List.map_reverse]
          refine ofGood (n := n) (fun r hr => okrows r (List.mem_reverse.mp hr)) (by rw [List.length_reverse]; omega) (fun z => absurd z (by omega)) fun _ n3' k3 hb3 c3 => ?_
          refine ⟨z3, ?_⟩
          have ne2 : a2 ≠ p := fun e => by rw [e, updG_same] at na2; cases na2
          show (match lsM (.adr a2) (updG (updG G' p (.pen m3)) a2 (.lst (acc.map rowT))) with | some _ => _ | none => False)
          rw [lsM_at updG_same]
          refine ⟨z3, ?_⟩
          show (match lsM (.adr a2) (updG (updG G' p (.pen m3)) a2 (.lst (acc.map rowT))) with | some (a, ds) => ds.length < sizeLine ∧ _ | none => False)
          rw [lsM_at updG_same]
          refine ⟨by rw [List.length_map, hz]; omega, ?_⟩
          rw [updG_updG]
          generalize hGe : updG (updG G' p (.pen m3)) a2 (.lst (acc.map rowT ++ [D.tup [.int 1, .int 2, .int 3]])) = G1
          have hG1p : G1 p = some (.pen m3) := by rw [← hGe, updG_ne (Ne.symm ne2), updG_same]
          have b1 : IsBag T.C_Bag w n1' acc (tot (onesK acc)) (bagD T.C_Bag w k1) := ⟨k1, rfl, hb1, c1⟩
          have b2 : IsBag T.C_Bag w n2' acc (tot (onesK acc)) (bagD T.C_Bag w k2) := ⟨k2, rfl, hb2, c2⟩
          have b3 : IsBag T.C_Bag w n3' acc.reverse (tot (onesK acc)) (bagD T.C_Bag w k3) := ⟨k3, rfl, hb3, fun r => by rw [c3 r, ones_rev, tot_rev]⟩
          dsimp only [dIfS, dTest, dOp, dLcF, iListD]
          refine var_rd rfl ?_
          refine ⟨small_size (show 3 ≤ 1000 by decide), ?_⟩
          dsimp only [lcD, gNameD, dYes]
          refine dict_bag (i := 18) (j := 16) rfl b1 (fun _ => rfl) fun q1 nd1 cc1 e1 => ?_
          refine dict_bag (i := 18) (j := 16) rfl b2 (fun _ => rfl) fun q2 nd2 cc2 e2 => ?_
          refine dict_bag (i := 18) (j := 16) rfl b3 (fun _ => rfl) fun q3 nd3 cc3 e3 => ?_
          have ok : ∀ {k : KvI}, (keys k).Nodup → (∀ r, cnt k r = tot (onesK acc) r) → (∀ r ∈ keys k, tot (onesK acc) r ≠ 0) → sameDn w G1 (.dln (rowH w) (kvD k)) (.dln (rowH w) (kvD (fewK kv S))) := fun {k} nd c e =>
            ⟨k, fewK kv S, rfl, rfl, same_num nd (few_nd kv S) (fun r hr => by rw [c r]; exact e r hr) (few_ne hk fun r hr => (Sk r hr).1) (fun r => by rw [c r, ht r, few_cnt])⟩
          refine ⟨z1, ⟨by decide, by decide, small1000 (show 1 * _ ≤ 1000 by decide)⟩, ?_⟩
          refine ⟨[.dln (rowH w) (kvD q1), .dln (rowH w) (kvD q2), .dln (rowH w) (kvD q3)], [.dln (rowH w) (kvD (fewK kv S)), .dln (rowH w) (kvD (fewK kv S)), .dln (rowH w) (kvD (fewK kv S))], rfl, rfl, rfl, fun i x y hx hy => ?_, ?_⟩
          · match i, hx, hy with
            | 0, hx, hy => cases hx; cases hy; exact ok nd1 cc1 e1
            | 1, hx, hy => cases hx; cases hy; exact ok nd2 cc2 e2
            | 2, hx, hy => cases hx; cases hy; exact ok nd3 cc3 e3
            | _ + 3, hx, _ => cases hx
          exact hN _ _ ⟨m3, _, _, _, _, _, _, _, _, _, _, _, _, _, _, _, _, _, hG1p, by omega, rfl⟩
    · obtain ⟨m, x2, x3, x4, x5, x6, x7, x8, x9, x10, x11, x12, x13, x14, x15, x16, x17, x18, hGp, hm, rfl⟩ := hI
      dsimp only [dRet, dOp, dLcF, iOwnD]
      refine bagPX (n := 2) (ps := threeP) (fun N hN => ⟨z2, z2, z2, z2, z2, z2, hN⟩) three_ok (by simp [threeP]) three_fit fun bb hbb => ?_
      obtain ⟨k0, rfl, hk0, c0⟩ := hbb
      have e0 := three_ps hk0 c0
      refine ⟨rfl, (psK k0).map pairD, rfl, by rw [e0, hz]; decide, ?_⟩
      rw [e0]
      refine lc_f0 pairD pairD _ [] (fun pr2 _ N2 hN2 => hN2) ?_
      refine ⟨z2, z2, z2, z2, z2, ?_⟩
      have plE : ∀ d ∈ [(rBB, (1 : Int)), (rA, 3)].map pairD, Pl 2 d := pl_map fun x hx => by
        simp only [List.mem_cons, List.not_mem_nil, or_false] at hx
        rcases hx with rfl | rfl
        · exact pl_pair rBB_ok.2.2
        · exact pl_pair rA_ok.2.2
      refine eqI_self (d := .lst ([(rBB, (1 : Int)), (rA, 3)].map pairD)) ((pl_lst plE).mono (by decide)) ?_
      exact q _
end
end JP
namespace JP
open PySem PySem.Spec PyProof.Rows L2
theorem kit_self {K : PySem.W.Frag} {C : Addr} : PySem.W.kitOne K (.ref C) (.ref C) = some true := by
  unfold PySem.W.kitOne
  simp
theorem kit_no {K : PySem.W.Frag} {C : Addr} {t : String} {b : Bool} (h : PySem.W.subIn K (.ref C) (.type t) = some b) (hm : PySem.W.kitMeta t = true) : PySem.W.kitOne K (.ref C) (.type t) = some b := by
  unfold PySem.W.kitOne
  rw [if_neg (by simp)]
  show (if PySem.W.kitMeta t = true then PySem.W.subIn K (.ref C) (.type t) else none) = some b
  rw [if_pos hm, h]
instance cfEq : DecidableEq PySem.W.CFound
  | .val v, .val u => if h : v = u then isTrue (by rw [h]) else isFalse (fun e => by injection e with e; exact h e)
  | .get a b c d, .get a2 b2 c2 d2 => if h : a = a2 ∧ b = b2 ∧ c = c2 ∧ d = d2 then isTrue (by obtain ⟨rfl, rfl, rfl, rfl⟩ := h; rfl) else isFalse (fun e => by injection e with e1 e2 e3 e4; exact h ⟨e1, e2, e3, e4⟩)
  | .val _, .get .. => isFalse (fun e => by cases e)
  | .get .., .val _ => isFalse (fun e => by cases e)
abbrev RY : PySem.W.OpenRow := PySem.W.OpenLaw.row PySem.Challenge.rw_rowcounts_k02_bags_made_and_asked
def bsY (K : PySem.W.Frag) : List Bool := [
    decide (PySem.W.nsIn K mainGlobals "Bag" = some (some (.ref (He.ga K "Bag")))),
    decide (PySem.W.plainGet K (He.ga K "Bag") Str.empty = true),
    decide (PySem.W.hasDictIn K (He.ga K "Bag") = true),
    decide (PySem.W.plainOver K (He.ga K "Bag") = true),
    decide (PySem.W.findIn K (.ref (He.ga K "Bag")) "__setattr__" = some (some (.builtin "object.__setattr__"))),
    decide (PySem.W.keepIn K (.ref (He.ga K "Bag")) = true),
    decide (PySem.W.findIn K (.ref (He.ga K "Bag")) "_pairs" = some none),
    decide (PySem.W.findIn K (.ref (He.ga K "Bag")) "_numbers" = some none),
    decide (PySem.W.findIn K (.ref (He.ga K "Bag")) "__ne__" = some (some (.builtin "object.__ne__"))),
    decide (PySem.W.mroIn K (He.ga K "Bag") (.type "object") = some true),
    decide (PySem.W.findIn K (.ref (He.ga K "Bag")) "__class__" = some (some (.builtin "object.__class__"))),
    decide (PySem.W.findIn K (.ref (He.ga K "Bag")) "__init__" = some (some (.ref (nsA K (He.ga K "Bag") "__init__")))),
    decide (PySem.W.isFn K (.ref (nsA K (He.ga K "Bag") "__init__")) = true),
    decide (PySem.W.makesIn K (He.ga K "Bag") = true),
    decide (PySem.W.readsIn K (He.ga K "Bag") ((PySem.W.typeIn K (.ref (He.ga K "Bag"))).getD .none) = true),
    decide (PySem.W.specialIn K (.ref (He.ga K "Bag")) "__getattribute__" = some (some (.builtin "type.__getattribute__"))),
    decide (PySem.W.typeIn K (.ref (He.ga K "Bag")) = some ((PySem.W.typeIn K (.ref (He.ga K "Bag"))).getD .none)),
    decide (PySem.W.findCls K (.ref (He.ga K "Bag")) ((PySem.W.typeIn K (.ref (He.ga K "Bag"))).getD .none) "of" = some (.get (.builtin "staticmethod.__get__") (.ref (nsA K (He.ga K "Bag") "of")) .none (.ref (He.ga K "Bag")))),
    decide (PySem.W.recIn K (nsA K (He.ga K "Bag") "of") "staticmethod" = some (.ref (fstA K "staticmethod" (nsA K (He.ga K "Bag") "of")) :: (rstA K "staticmethod" (nsA K (He.ga K "Bag") "of")))),
    decide (PySem.W.findIn K (.ref (He.ga K "Bag")) "often" = some (some (.ref (nsA K (He.ga K "Bag") "often")))),
    decide (PySem.W.isFn K (.ref (nsA K (He.ga K "Bag") "often")) = true),
    decide (PySem.W.findIn K (.ref (He.ga K "Bag")) "__contains__" = some (some (.ref (nsA K (He.ga K "Bag") "__contains__")))),
    decide (PySem.W.isFn K (.ref (nsA K (He.ga K "Bag") "__contains__")) = true),
    decide (PySem.W.findIn K (.ref (He.ga K "Bag")) "__len__" = some (some (.ref (nsA K (He.ga K "Bag") "__len__")))),
    decide (PySem.W.isFn K (.ref (nsA K (He.ga K "Bag") "__len__")) = true),
    decide (PySem.W.findIn K (.ref (He.ga K "Bag")) "__iter__" = some (some (.ref (nsA K (He.ga K "Bag") "__iter__")))),
    decide (PySem.W.isFn K (.ref (nsA K (He.ga K "Bag") "__iter__")) = true),
    decide (PySem.W.findIn K (.ref (He.ga K "Bag")) "__getitem__" = some (some (.ref (nsA K (He.ga K "Bag") "__getitem__")))),
    decide (PySem.W.isFn K (.ref (nsA K (He.ga K "Bag") "__getitem__")) = true),
    decide (PySem.W.findIn K (.ref (He.ga K "Bag")) "__add__" = some (some (.ref (nsA K (He.ga K "Bag") "__add__")))),
    decide (PySem.W.isFn K (.ref (nsA K (He.ga K "Bag") "__add__")) = true),
    decide (PySem.W.findIn K (.ref (He.ga K "Bag")) "__eq__" = some (some (.ref (nsA K (He.ga K "Bag") "__eq__")))),
    decide (PySem.W.isFn K (.ref (nsA K (He.ga K "Bag") "__eq__")) = true),
    decide (PySem.W.subIn K (.ref (He.ga K "Bag")) (.type "str") = some false),
    decide (PySem.W.specialIn K (.builtin "object.__class__") "__get__" = some (some (.builtin "getset_descriptor.__get__"))),
    decide (PySem.W.takesIn K (.builtin "object.__class__") = some true),
    decide (PySem.W.nsIn K mainGlobals "BadBag" = some (some (.ref (He.ga K "BadBag")))),
    decide (oexB K (He.ga K "BadBag") = true),
    decide (PySem.W.findIn K (.ref (He.ga K "BadBag")) "__setattr__" = some (some (.builtin "object.__setattr__"))),
    decide (PySem.W.subIn K (.ref (He.ga K "BadBag")) (.type "BaseException") = some true),
    decide (PySem.W.typeIn K (.ref (He.ga K "BadBag")) = some (.type "type")),
    decide (PySem.W.keepIn K (.ref (He.ga K "BadBag")) = true),
    decide (PySem.W.findIn K (.ref (He.ga K "BadBag")) "__init__" = some (some (.ref (nsA K (He.ga K "BadBag") "__init__")))),
    decide (PySem.W.typeIn K (.ref (nsA K (He.ga K "BadBag") "__init__")) = some (.type "function")),
    decide (PySem.W.findIn K (.ref (He.ga K "BadBag")) "part" = some none),
    decide (PySem.W.findIn K (.ref (He.ga K "BadBag")) "__getattribute__" = some (some (.builtin "BaseException.__getattribute__"))),
    decide (PySem.W.findIn K (.ref (He.ga K "BadBag")) "__getattr__" = some none),
    decide (PySem.W.hasDictIn K (He.ga K "BadBag") = true),
    decide (PySem.W.findIn K (.ref (He.ga K "BadBag")) "__class__" = some (some (.builtin "object.__class__"))),
    decide (PySem.W.mroIn K (He.ga K "BadBag") (.type "object") = some true),
    decide (PySem.W.nsIn K mainGlobals "TooMany" = some (some (.ref (He.ga K "TooMany")))),
    decide (oexB K (He.ga K "TooMany") = true),
    decide (PySem.W.findIn K (.ref (He.ga K "TooMany")) "__setattr__" = some (some (.builtin "object.__setattr__"))),
    decide (PySem.W.subIn K (.ref (He.ga K "TooMany")) (.type "BaseException") = some true),
    decide (PySem.W.typeIn K (.ref (He.ga K "TooMany")) = some (.type "type")),
    decide (PySem.W.keepIn K (.ref (He.ga K "TooMany")) = true),
    decide (PySem.W.findIn K (.ref (He.ga K "TooMany")) "__init__" = some (some (.ref (nsA K (He.ga K "TooMany") "__init__")))),
    decide (PySem.W.typeIn K (.ref (nsA K (He.ga K "TooMany") "__init__")) = some (.type "function")),
    decide (PySem.W.findIn K (.ref (He.ga K "TooMany")) "what" = some none),
    decide (PySem.W.findIn K (.ref (He.ga K "TooMany")) "most" = some none),
    decide (PySem.W.findIn K (.ref (He.ga K "TooMany")) "__getattribute__" = some (some (.builtin "BaseException.__getattribute__"))),
    decide (PySem.W.findIn K (.ref (He.ga K "TooMany")) "__getattr__" = some none),
    decide (PySem.W.hasDictIn K (He.ga K "TooMany") = true),
    decide (PySem.W.findIn K (.ref (He.ga K "TooMany")) "__class__" = some (some (.builtin "object.__class__"))),
    decide (PySem.W.mroIn K (He.ga K "TooMany") (.type "object") = some true),
    decide (PySem.W.subIn K (.ref (He.ga K "Bag")) (.type "int") = some false),
    decide (PySem.W.subIn K (.ref (He.ga K "Bag")) (.type "bool") = some false),
    decide (PySem.W.subIn K (.ref (He.ga K "Bag")) (.type "list") = some false),
    decide (PySem.W.subIn K (.ref (He.ga K "Bag")) (.type "tuple") = some false),
    decide (PySem.W.subIn K (.ref (He.ga K "Bag")) (.type "dict") = some false),
    decide (PySem.W.subIn K (.ref (He.ga K "Bag")) (.type "set") = some false),
    decide (PySem.W.subIn K (.ref (He.ga K "Bag")) (.type "bytes") = some false),
    decide (PySem.W.subIn K (.ref (He.ga K "Bag")) (.type "float") = some false),
    decide (PySem.W.findIn K (.ref (He.ga K "Bag")) "width" = some (some (.ref (nsA K (He.ga K "Bag") "width")))),
    decide (PySem.W.specialIn K (.ref (nsA K (He.ga K "Bag") "width")) "__get__" = some (some (.builtin "property.__get__"))),
    decide (PySem.W.takesIn K (.ref (nsA K (He.ga K "Bag") "width")) = some true),
    decide (PySem.W.recIn K (nsA K (He.ga K "Bag") "width") "property" = some (.ref (fstA K "property" (nsA K (He.ga K "Bag") "width")) :: (rstA K "property" (nsA K (He.ga K "Bag") "width")))),
    decide (PySem.W.findIn K (.ref (He.ga K "Bag")) "whole" = some (some (.ref (nsA K (He.ga K "Bag") "whole")))),
    decide (PySem.W.specialIn K (.ref (nsA K (He.ga K "Bag") "whole")) "__get__" = some (some (.builtin "property.__get__"))),
    decide (PySem.W.takesIn K (.ref (nsA K (He.ga K "Bag") "whole")) = some true),
    decide (PySem.W.recIn K (nsA K (He.ga K "Bag") "whole") "property" = some (.ref (fstA K "property" (nsA K (He.ga K "Bag") "whole")) :: (rstA K "property" (nsA K (He.ga K "Bag") "whole")))),
    decide (PySem.W.notFirst K (He.ga K "Bag") (.type "tuple") = true),
    decide (PySem.W.kitOne K (.type "tuple") (.ref (He.ga K "Bag")) = some false),
    decide (PySem.W.selfFirst K (He.ga K "Bag") = true),
    decide (PySem.W.findIn K (.ref (He.ga K "Bag")) (dunderR "add") = some none),
    decide (PySem.W.noSeq K (He.ga K "Bag") = true),
    decide (PySem.W.fnIn K (nsA K (He.ga K "Bag") "__getitem__") = true),
    decide (PySem.W.nsIn K mainGlobals "is_integer" = some (some (.ref (He.ga K "is_integer")))),
    decide (PySem.W.nsIn K mainGlobals "is_value" = some (some (.ref (He.ga K "is_value")))),
    decide (PySem.W.nsIn K mainGlobals "is_row" = some (some (.ref (He.ga K "is_row")))),
    decide (PySem.W.nsIn K mainGlobals "value_before" = some (some (.ref (He.ga K "value_before")))),
    decide (PySem.W.nsIn K mainGlobals "row_before" = some (some (.ref (He.ga K "row_before")))),
    decide (PySem.W.nsIn K mainGlobals "merged_rows" = some (some (.ref (He.ga K "merged_rows")))),
    decide (PySem.W.nsIn K mainGlobals "ordered_rows" = some (some (.ref (He.ga K "ordered_rows")))),
    decide (PySem.W.nsIn K mainGlobals "own_copy" = some (some (.ref (He.ga K "own_copy")))),
    decide (PySem.W.nsIn K mainGlobals "is_times" = some (some (.ref (He.ga K "is_times")))),
    decide (PySem.W.nsIn K mainGlobals "is_pair" = some (some (.ref (He.ga K "is_pair")))),
    decide (PySem.W.nsIn K mainGlobals "check_pairs" = some (some (.ref (He.ga K "check_pairs")))),
    decide (PySem.W.nsIn K mainGlobals "added_up" = some (some (.ref (He.ga K "added_up")))),
    decide (PySem.W.nsIn K mainGlobals "check_numbers" = some (some (.ref (He.ga K "check_numbers")))),
    decide (PySem.W.nsIn K mainGlobals "check_other" = some (some (.ref (He.ga K "check_other")))),
    decide (PySem.W.nsIn K mainGlobals "rows_of" = some (some (.ref (He.ga K "rows_of")))),
    decide (PySem.W.nsIn K mainGlobals "bag_of" = some (some (.ref (He.ga K "bag_of")))),
    decide (PySem.W.nsIn K mainGlobals "_law_pen" = some (some (.ref (He.ga K "_law_pen")))),
    decide (PySem.W.nsIn K mainGlobals "_law_draw" = some (some (.ref (He.ga K "_law_draw")))),
    decide (PySem.W.nsIn K mainGlobals "_law_pick" = some (some (.ref (He.ga K "_law_pick")))),
    decide (PySem.W.nsIn K mainGlobals "_law_rows" = some (some (.ref (He.ga K "_law_rows")))),
    decide (PySem.W.nsIn K mainGlobals "_law_key" = some (some (.ref (He.ga K "_law_key")))),
    decide (PySem.W.nsIn K mainGlobals "_law_in_order" = some (some (.ref (He.ga K "_law_in_order")))),
    decide (PySem.W.nsIn K mainGlobals "_law_torn" = some (some (.ref (He.ga K "_law_torn")))),
    decide (PySem.W.nsIn K mainGlobals "_law_of_pairs" = some (some (.ref (He.ga K "_law_of_pairs")))),
    decide (PySem.W.nsIn K mainGlobals "_law_asked_right" = some (some (.ref (He.ga K "_law_asked_right")))),
    decide (PySem.W.nsIn K mainGlobals "law" = some (some (.ref (He.ga K "law")))),
    decide (PySem.W.nsIn K mainGlobals "abs" = some none),
    decide (PySem.W.nsIn K mainGlobals "all" = some none),
    decide (PySem.W.nsIn K mainGlobals "any" = some none),
    decide (PySem.W.nsIn K mainGlobals "bool" = some none),
    decide (PySem.W.nsIn K mainGlobals "dict" = some none),
    decide (PySem.W.nsIn K mainGlobals "enumerate" = some none),
    decide (PySem.W.nsIn K mainGlobals "int" = some none),
    decide (PySem.W.nsIn K mainGlobals "isinstance" = some none),
    decide (PySem.W.nsIn K mainGlobals "len" = some none),
    decide (PySem.W.nsIn K mainGlobals "list" = some none),
    decide (PySem.W.nsIn K mainGlobals "min" = some none),
    decide (PySem.W.nsIn K mainGlobals "range" = some none),
    decide (PySem.W.nsIn K mainGlobals "sum" = some none),
    decide (PySem.W.nsIn K mainGlobals "tuple" = some none),
    decide (PySem.W.nsIn K mainGlobals "zip" = some none),
    decide (PySem.W.nsIn K mainGlobals "iter" = some none),
    decide ((He.Fa.int "MOST_VALUES" 3).ok K = true),
    decide ((He.Fa.int "MOST_TIMES" 1000000000000000000000000000000).ok K = true),
    decide ((He.Fa.int "MOST_ROWS" 60).ok K = true)]
def fnsY : List DefY := [
    ⟨fun K => (He.ga K "is_integer"), "is_integer", "is_integer", sis_integer, []⟩,
    ⟨fun K => (He.ga K "is_value"), "is_value", "is_value", sis_value, []⟩,
    ⟨fun K => (He.ga K "is_row"), "is_row", "is_row", sis_row, []⟩,
    ⟨fun K => (He.ga K "value_before"), "value_before", "value_before", svalue_before, []⟩,
    ⟨fun K => (He.ga K "row_before"), "row_before", "row_before", srow_before, []⟩,
    ⟨fun K => (He.ga K "merged_rows"), "merged_rows", "merged_rows", smerged_rows, []⟩,
    ⟨fun K => (He.ga K "ordered_rows"), "ordered_rows", "ordered_rows", sordered_rows, []⟩,
    ⟨fun K => (He.ga K "own_copy"), "own_copy", "own_copy", sown_copy, []⟩,
    ⟨fun K => (He.ga K "is_times"), "is_times", "is_times", sis_times, []⟩,
    ⟨fun K => (He.ga K "is_pair"), "is_pair", "is_pair", sis_pair, []⟩,
    ⟨fun K => (He.ga K "check_pairs"), "check_pairs", "check_pairs", scheck_pairs, []⟩,
    ⟨fun K => (He.ga K "added_up"), "added_up", "added_up", sadded_up, []⟩,
    ⟨fun K => (He.ga K "check_numbers"), "check_numbers", "check_numbers", scheck_numbers, []⟩,
    ⟨fun K => (He.ga K "check_other"), "check_other", "check_other", scheck_other, []⟩,
    ⟨fun K => (He.ga K "rows_of"), "rows_of", "rows_of", srows_of, []⟩,
    ⟨fun K => (He.ga K "bag_of"), "bag_of", "bag_of", sbag_of, []⟩,
    ⟨fun K => (He.ga K "_law_pen"), "_law_pen", "_law_pen", s_law_pen, []⟩,
    ⟨fun K => (He.ga K "_law_draw"), "_law_draw", "_law_draw", s_law_draw, []⟩,
    ⟨fun K => (He.ga K "_law_pick"), "_law_pick", "_law_pick", s_law_pick, []⟩,
    ⟨fun K => (He.ga K "_law_rows"), "_law_rows", "_law_rows", s_law_rows, []⟩,
    ⟨fun K => (He.ga K "_law_key"), "_law_key", "_law_key", s_law_key, []⟩,
    ⟨fun K => (He.ga K "_law_in_order"), "_law_in_order", "_law_in_order", s_law_in_order, []⟩,
    ⟨fun K => (He.ga K "_law_torn"), "_law_torn", "_law_torn", s_law_torn, []⟩,
    ⟨fun K => (He.ga K "_law_of_pairs"), "_law_of_pairs", "_law_of_pairs", s_law_of_pairs, []⟩,
    ⟨fun K => (He.ga K "_law_asked_right"), "_law_asked_right", "_law_asked_right", s_law_asked_right, []⟩,
    ⟨fun K => (He.ga K "law"), "law", "law", slaw, []⟩,
    ⟨fun K => (nsA K (He.ga K "Bag") "__init__"), "__init__", "Bag.__init__", sBag___init__, []⟩,
    ⟨fun K => (fstA K "staticmethod" (nsA K (He.ga K "Bag") "of")), "of", "Bag.of", sBag_of, []⟩,
    ⟨fun K => (fstA K "property" (nsA K (He.ga K "Bag") "width")), "width", "Bag.width", sBag_width, []⟩,
    ⟨fun K => (fstA K "property" (nsA K (He.ga K "Bag") "whole")), "whole", "Bag.whole", sBag_whole, []⟩,
    ⟨fun K => (nsA K (He.ga K "Bag") "often"), "often", "Bag.often", sBag_often, []⟩,
    ⟨fun K => (nsA K (He.ga K "Bag") "__contains__"), "__contains__", "Bag.__contains__", sBag___contains__, []⟩,
    ⟨fun K => (nsA K (He.ga K "Bag") "__len__"), "__len__", "Bag.__len__", sBag___len__, []⟩,
    ⟨fun K => (nsA K (He.ga K "Bag") "__iter__"), "__iter__", "Bag.__iter__", sBag___iter__, []⟩,
    ⟨fun K => (nsA K (He.ga K "Bag") "__getitem__"), "__getitem__", "Bag.__getitem__", sBag___getitem__, []⟩,
    ⟨fun K => (nsA K (He.ga K "Bag") "__add__"), "__add__", "Bag.__add__", sBag___add__, []⟩,
    ⟨fun K => (nsA K (He.ga K "Bag") "__eq__"), "__eq__", "Bag.__eq__", sBag___eq__, []⟩,
    ⟨fun K => (nsA K (He.ga K "BadBag") "__init__"), "__init__", "BadBag.__init__", sBadBag___init__, []⟩,
    ⟨fun K => (nsA K (He.ga K "TooMany") "__init__"), "__init__", "TooMany.__init__", sTooMany___init__, []⟩]
def tfY : List (PySem.W.Frag → Addr) := []
def looseY : List Str := (["MOST_VALUES", "is_integer", "is_value", "is_row", "value_before", "row_before", "ordered_rows", "merged_rows", "own_copy", "CountError", "BadInput", "Refused"] : List Str) ++ (["BadBag", "BadNumber", "BadText", "TooMany", "MOST_DIGITS", "words_of", "word_at", "expect", "expect_end", "is_integer_word", "MOST_TIMES", "MOST_ROWS"] : List Str) ++ (["Bag", "bag_of", "row_text", "check_pairs", "is_pair", "is_times", "added_up", "check_numbers", "check_other", "rows_of", "pairs_at", "pair_at"] : List Str) ++ (["times_at", "row_at", "value_at", "can_stand", "_law_pen", "_law_draw", "_law_pick", "_law_rows", "_law_key", "_law_in_order", "_law_torn", "_law_of_pairs"] : List Str) ++ (["_law_asked_right"] : List Str)
def tsY : List TabY := []
abbrev hkY : PySem.W.Hook := hookY 5 bsY fnsY tfY tsY
def obY (s : PySem.W.SharedT) : ObY := lookY 5 bsY fnsY tfY tsY (HandSHeadRun.getT s)
theorem obY_eq (s : PySem.W.SharedT) : obY s = hkY.obs s.abs := lookY_eq (HandSHeadRun.getT_eq s)
set_option maxHeartbeats 0 in
theorem runY (w : World) : HandSHeadRun.RunEq RY (PySem.W.view RY.prog [55]) hkY obY 12000 looseY w := by
  intro os
  kernel_rfl
theorem all_y {P : Program} {w : World} {K : PySem.W.Frag} {h : Heap} {mg : Str → Option Value} {fa : Addr} (G : h.Ns mainGlobals mg) (hfa : mg "law" = some (.ref fa)) (c : SaysY bsY fnsY tfY tsY w h K) :
    ∃ (fd : FuncData) (cs : List (Addr × Addr)) (sp : Sp), (∀ p ∈ cs, h.get? p.2 = some { cls := .none, data := .fields #[] }) ∧ (∀ p ∈ cs, K.lookup p.2 = none) ∧ (∀ p ∈ cs, PySem.W.CodeHd h p.1 p.2) ∧ (∀ (s : Shared) (u : Value), BindsTo s fd ⟨[u], []⟩ [("_law_script", u)]) ∧ (∀ (H : Hp) (a : Addr) (ns : List Int), ns.length ≤ 63 → OnlyT (cs.map Prod.snd) H → SqL K H a (ns.map V.int) → sp [.ref a] H (fun v _ => v = .bl true) fun _ _ _ => False) ∧
      ∀ base : Heap, K.In base → base.Ns mainGlobals mg → (∀ p ∈ cs, LamX.TabB base mg p.1 p.2) → GOk P w K mg base 80 fa fd ["_law_script"] sp := by
  have X := c.inK
  have gBag : PySem.W.nsIn K mainGlobals "Bag" = some (some (.ref (He.ga K "Bag"))) := c.fact 0
  have pgBag : PySem.W.plainGet K (He.ga K "Bag") Str.empty = true := c.fact 1
  have hdBag : PySem.W.hasDictIn K (He.ga K "Bag") = true := c.fact 2
  have poBag : PySem.W.plainOver K (He.ga K "Bag") = true := c.fact 3
  have saBag : PySem.W.findIn K (.ref (He.ga K "Bag")) "__setattr__" = some (some (.builtin "object.__setattr__")) := c.fact 4
  have kcBag : PySem.W.keepIn K (.ref (He.ga K "Bag")) = true := c.fact 5
  have naBag__pairs : PySem.W.findIn K (.ref (He.ga K "Bag")) "_pairs" = some none := c.fact 6
  have naBag__numbers : PySem.W.findIn K (.ref (He.ga K "Bag")) "_numbers" = some none := c.fact 7
  have neBag : PySem.W.findIn K (.ref (He.ga K "Bag")) "__ne__" = some (some (.builtin "object.__ne__")) := c.fact 8
  have mrBag : PySem.W.mroIn K (He.ga K "Bag") (.type "object") = some true := c.fact 9
  have caBag : PySem.W.findIn K (.ref (He.ga K "Bag")) "__class__" = some (some (.builtin "object.__class__")) := c.fact 10
  have atBag___init__ : PySem.W.findIn K (.ref (He.ga K "Bag")) "__init__" = some (some (.ref (nsA K (He.ga K "Bag") "__init__"))) := c.fact 11
  have fnBag___init__ : PySem.W.isFn K (.ref (nsA K (He.ga K "Bag") "__init__")) = true := c.fact 12
  have mkBag : PySem.W.makesIn K (He.ga K "Bag") = true := c.fact 13
  have rdBag_of : PySem.W.readsIn K (He.ga K "Bag") ((PySem.W.typeIn K (.ref (He.ga K "Bag"))).getD .none) = true := c.fact 14
  have gaBag_of : PySem.W.specialIn K (.ref (He.ga K "Bag")) "__getattribute__" = some (some (.builtin "type.__getattribute__")) := c.fact 15
  have tyBag_of : PySem.W.typeIn K (.ref (He.ga K "Bag")) = some ((PySem.W.typeIn K (.ref (He.ga K "Bag"))).getD .none) := c.fact 16
  have atBag_of : PySem.W.findCls K (.ref (He.ga K "Bag")) ((PySem.W.typeIn K (.ref (He.ga K "Bag"))).getD .none) "of" = some (.get (.builtin "staticmethod.__get__") (.ref (nsA K (He.ga K "Bag") "of")) .none (.ref (He.ga K "Bag"))) := c.fact 17
  have rcBag_of : PySem.W.recIn K (nsA K (He.ga K "Bag") "of") "staticmethod" = some (.ref (fstA K "staticmethod" (nsA K (He.ga K "Bag") "of")) :: (rstA K "staticmethod" (nsA K (He.ga K "Bag") "of"))) := c.fact 18
  have atBag_often : PySem.W.findIn K (.ref (He.ga K "Bag")) "often" = some (some (.ref (nsA K (He.ga K "Bag") "often"))) := c.fact 19
  have fnBag_often : PySem.W.isFn K (.ref (nsA K (He.ga K "Bag") "often")) = true := c.fact 20
  have atBag___contains__ : PySem.W.findIn K (.ref (He.ga K "Bag")) "__contains__" = some (some (.ref (nsA K (He.ga K "Bag") "__contains__"))) := c.fact 21
  have fnBag___contains__ : PySem.W.isFn K (.ref (nsA K (He.ga K "Bag") "__contains__")) = true := c.fact 22
  have atBag___len__ : PySem.W.findIn K (.ref (He.ga K "Bag")) "__len__" = some (some (.ref (nsA K (He.ga K "Bag") "__len__"))) := c.fact 23
  have fnBag___len__ : PySem.W.isFn K (.ref (nsA K (He.ga K "Bag") "__len__")) = true := c.fact 24
  have atBag___iter__ : PySem.W.findIn K (.ref (He.ga K "Bag")) "__iter__" = some (some (.ref (nsA K (He.ga K "Bag") "__iter__"))) := c.fact 25
  have fnBag___iter__ : PySem.W.isFn K (.ref (nsA K (He.ga K "Bag") "__iter__")) = true := c.fact 26
  have atBag___getitem__ : PySem.W.findIn K (.ref (He.ga K "Bag")) "__getitem__" = some (some (.ref (nsA K (He.ga K "Bag") "__getitem__"))) := c.fact 27
  have fnBag___getitem__ : PySem.W.isFn K (.ref (nsA K (He.ga K "Bag") "__getitem__")) = true := c.fact 28
  have atBag___add__ : PySem.W.findIn K (.ref (He.ga K "Bag")) "__add__" = some (some (.ref (nsA K (He.ga K "Bag") "__add__"))) := c.fact 29
  have fnBag___add__ : PySem.W.isFn K (.ref (nsA K (He.ga K "Bag") "__add__")) = true := c.fact 30
  have atBag___eq__ : PySem.W.findIn K (.ref (He.ga K "Bag")) "__eq__" = some (some (.ref (nsA K (He.ga K "Bag") "__eq__"))) := c.fact 31
  have fnBag___eq__ : PySem.W.isFn K (.ref (nsA K (He.ga K "Bag") "__eq__")) = true := c.fact 32
  have ksBag : PySem.W.subIn K (.ref (He.ga K "Bag")) (.type "str") = some false := c.fact 33
  have sg : PySem.W.specialIn K (.builtin "object.__class__") "__get__" = some (some (.builtin "getset_descriptor.__get__")) := c.fact 34
  have tk : PySem.W.takesIn K (.builtin "object.__class__") = some true := c.fact 35
  have gBadBag : PySem.W.nsIn K mainGlobals "BadBag" = some (some (.ref (He.ga K "BadBag"))) := c.fact 36
  have xoBadBag : oexB K (He.ga K "BadBag") = true := c.fact 37
  have saBadBag : PySem.W.findIn K (.ref (He.ga K "BadBag")) "__setattr__" = some (some (.builtin "object.__setattr__")) := c.fact 38
  have eCBadBag : PySem.W.subIn K (.ref (He.ga K "BadBag")) (.type "BaseException") = some true := c.fact 39
  have tCBadBag : PySem.W.typeIn K (.ref (He.ga K "BadBag")) = some (.type "type") := c.fact 40
  have kCBadBag : PySem.W.keepIn K (.ref (He.ga K "BadBag")) = true := c.fact 41
  have atBadBag___init__ : PySem.W.findIn K (.ref (He.ga K "BadBag")) "__init__" = some (some (.ref (nsA K (He.ga K "BadBag") "__init__"))) := c.fact 42
  have tiBadBag : PySem.W.typeIn K (.ref (nsA K (He.ga K "BadBag") "__init__")) = some (.type "function") := c.fact 43
  have noBadBag_part : PySem.W.findIn K (.ref (He.ga K "BadBag")) "part" = some none := c.fact 44
  have gaBadBag : PySem.W.findIn K (.ref (He.ga K "BadBag")) "__getattribute__" = some (some (.builtin "BaseException.__getattribute__")) := c.fact 45
  have ggBadBag : PySem.W.findIn K (.ref (He.ga K "BadBag")) "__getattr__" = some none := c.fact 46
  have hdBadBag : PySem.W.hasDictIn K (He.ga K "BadBag") = true := c.fact 47
  have caBadBag : PySem.W.findIn K (.ref (He.ga K "BadBag")) "__class__" = some (some (.builtin "object.__class__")) := c.fact 48
  have mrBadBag : PySem.W.mroIn K (He.ga K "BadBag") (.type "object") = some true := c.fact 49
  have gTooMany : PySem.W.nsIn K mainGlobals "TooMany" = some (some (.ref (He.ga K "TooMany"))) := c.fact 50
  have xoTooMany : oexB K (He.ga K "TooMany") = true := c.fact 51
  have saTooMany : PySem.W.findIn K (.ref (He.ga K "TooMany")) "__setattr__" = some (some (.builtin "object.__setattr__")) := c.fact 52
  have eCTooMany : PySem.W.subIn K (.ref (He.ga K "TooMany")) (.type "BaseException") = some true := c.fact 53
  have tCTooMany : PySem.W.typeIn K (.ref (He.ga K "TooMany")) = some (.type "type") := c.fact 54
  have kCTooMany : PySem.W.keepIn K (.ref (He.ga K "TooMany")) = true := c.fact 55
  have atTooMany___init__ : PySem.W.findIn K (.ref (He.ga K "TooMany")) "__init__" = some (some (.ref (nsA K (He.ga K "TooMany") "__init__"))) := c.fact 56
  have tiTooMany : PySem.W.typeIn K (.ref (nsA K (He.ga K "TooMany") "__init__")) = some (.type "function") := c.fact 57
  have noTooMany_what : PySem.W.findIn K (.ref (He.ga K "TooMany")) "what" = some none := c.fact 58
  have noTooMany_most : PySem.W.findIn K (.ref (He.ga K "TooMany")) "most" = some none := c.fact 59
  have gaTooMany : PySem.W.findIn K (.ref (He.ga K "TooMany")) "__getattribute__" = some (some (.builtin "BaseException.__getattribute__")) := c.fact 60
  have ggTooMany : PySem.W.findIn K (.ref (He.ga K "TooMany")) "__getattr__" = some none := c.fact 61
  have hdTooMany : PySem.W.hasDictIn K (He.ga K "TooMany") = true := c.fact 62
  have caTooMany : PySem.W.findIn K (.ref (He.ga K "TooMany")) "__class__" = some (some (.builtin "object.__class__")) := c.fact 63
  have mrTooMany : PySem.W.mroIn K (He.ga K "TooMany") (.type "object") = some true := c.fact 64
  have ktint_Bag : PySem.W.subIn K (.ref (He.ga K "Bag")) (.type "int") = some false := c.fact 65
  have ktbool_Bag : PySem.W.subIn K (.ref (He.ga K "Bag")) (.type "bool") = some false := c.fact 66
  have ktlist_Bag : PySem.W.subIn K (.ref (He.ga K "Bag")) (.type "list") = some false := c.fact 67
  have kttuple_Bag : PySem.W.subIn K (.ref (He.ga K "Bag")) (.type "tuple") = some false := c.fact 68
  have ktdict_Bag : PySem.W.subIn K (.ref (He.ga K "Bag")) (.type "dict") = some false := c.fact 69
  have ktset_Bag : PySem.W.subIn K (.ref (He.ga K "Bag")) (.type "set") = some false := c.fact 70
  have ktbytes_Bag : PySem.W.subIn K (.ref (He.ga K "Bag")) (.type "bytes") = some false := c.fact 71
  have ktfloat_Bag : PySem.W.subIn K (.ref (He.ga K "Bag")) (.type "float") = some false := c.fact 72
  have patBag_width : PySem.W.findIn K (.ref (He.ga K "Bag")) "width" = some (some (.ref (nsA K (He.ga K "Bag") "width"))) := c.fact 73
  have pgeBag_width : PySem.W.specialIn K (.ref (nsA K (He.ga K "Bag") "width")) "__get__" = some (some (.builtin "property.__get__")) := c.fact 74
  have ptkBag_width : PySem.W.takesIn K (.ref (nsA K (He.ga K "Bag") "width")) = some true := c.fact 75
  have prcBag_width : PySem.W.recIn K (nsA K (He.ga K "Bag") "width") "property" = some (.ref (fstA K "property" (nsA K (He.ga K "Bag") "width")) :: (rstA K "property" (nsA K (He.ga K "Bag") "width"))) := c.fact 76
  have patBag_whole : PySem.W.findIn K (.ref (He.ga K "Bag")) "whole" = some (some (.ref (nsA K (He.ga K "Bag") "whole"))) := c.fact 77
  have pgeBag_whole : PySem.W.specialIn K (.ref (nsA K (He.ga K "Bag") "whole")) "__get__" = some (some (.builtin "property.__get__")) := c.fact 78
  have ptkBag_whole : PySem.W.takesIn K (.ref (nsA K (He.ga K "Bag") "whole")) = some true := c.fact 79
  have prcBag_whole : PySem.W.recIn K (nsA K (He.ga K "Bag") "whole") "property" = some (.ref (fstA K "property" (nsA K (He.ga K "Bag") "whole")) :: (rstA K "property" (nsA K (He.ga K "Bag") "whole"))) := c.fact 80
  have nftuple_Bag : PySem.W.notFirst K (He.ga K "Bag") (.type "tuple") = true := c.fact 81
  have kntuple_Bag : PySem.W.kitOne K (.type "tuple") (.ref (He.ga K "Bag")) = some false := c.fact 82
  have sfBag : PySem.W.selfFirst K (He.ga K "Bag") = true := c.fact 83
  have raBag_add : PySem.W.findIn K (.ref (He.ga K "Bag")) (dunderR "add") = some none := c.fact 84
  have fx_nq_Bag : PySem.W.noSeq K (He.ga K "Bag") = true := c.fact 85
  have fx_fi_Bag___getitem__ : PySem.W.fnIn K (nsA K (He.ga K "Bag") "__getitem__") = true := c.fact 86
  have ais_integer : PySem.W.nsIn K mainGlobals "is_integer" = some (some (.ref (He.ga K "is_integer"))) := c.fact 87
  have ais_value : PySem.W.nsIn K mainGlobals "is_value" = some (some (.ref (He.ga K "is_value"))) := c.fact 88
  have ais_row : PySem.W.nsIn K mainGlobals "is_row" = some (some (.ref (He.ga K "is_row"))) := c.fact 89
  have avalue_before : PySem.W.nsIn K mainGlobals "value_before" = some (some (.ref (He.ga K "value_before"))) := c.fact 90
  have arow_before : PySem.W.nsIn K mainGlobals "row_before" = some (some (.ref (He.ga K "row_before"))) := c.fact 91
  have amerged_rows : PySem.W.nsIn K mainGlobals "merged_rows" = some (some (.ref (He.ga K "merged_rows"))) := c.fact 92
  have aordered_rows : PySem.W.nsIn K mainGlobals "ordered_rows" = some (some (.ref (He.ga K "ordered_rows"))) := c.fact 93
  have aown_copy : PySem.W.nsIn K mainGlobals "own_copy" = some (some (.ref (He.ga K "own_copy"))) := c.fact 94
  have ais_times : PySem.W.nsIn K mainGlobals "is_times" = some (some (.ref (He.ga K "is_times"))) := c.fact 95
  have ais_pair : PySem.W.nsIn K mainGlobals "is_pair" = some (some (.ref (He.ga K "is_pair"))) := c.fact 96
  have acheck_pairs : PySem.W.nsIn K mainGlobals "check_pairs" = some (some (.ref (He.ga K "check_pairs"))) := c.fact 97
  have aadded_up : PySem.W.nsIn K mainGlobals "added_up" = some (some (.ref (He.ga K "added_up"))) := c.fact 98
  have acheck_numbers : PySem.W.nsIn K mainGlobals "check_numbers" = some (some (.ref (He.ga K "check_numbers"))) := c.fact 99
  have acheck_other : PySem.W.nsIn K mainGlobals "check_other" = some (some (.ref (He.ga K "check_other"))) := c.fact 100
  have arows_of : PySem.W.nsIn K mainGlobals "rows_of" = some (some (.ref (He.ga K "rows_of"))) := c.fact 101
  have abag_of : PySem.W.nsIn K mainGlobals "bag_of" = some (some (.ref (He.ga K "bag_of"))) := c.fact 102
  have a_law_pen : PySem.W.nsIn K mainGlobals "_law_pen" = some (some (.ref (He.ga K "_law_pen"))) := c.fact 103
  have a_law_draw : PySem.W.nsIn K mainGlobals "_law_draw" = some (some (.ref (He.ga K "_law_draw"))) := c.fact 104
  have a_law_pick : PySem.W.nsIn K mainGlobals "_law_pick" = some (some (.ref (He.ga K "_law_pick"))) := c.fact 105
  have a_law_rows : PySem.W.nsIn K mainGlobals "_law_rows" = some (some (.ref (He.ga K "_law_rows"))) := c.fact 106
  have a_law_key : PySem.W.nsIn K mainGlobals "_law_key" = some (some (.ref (He.ga K "_law_key"))) := c.fact 107
  have a_law_in_order : PySem.W.nsIn K mainGlobals "_law_in_order" = some (some (.ref (He.ga K "_law_in_order"))) := c.fact 108
  have a_law_torn : PySem.W.nsIn K mainGlobals "_law_torn" = some (some (.ref (He.ga K "_law_torn"))) := c.fact 109
  have a_law_of_pairs : PySem.W.nsIn K mainGlobals "_law_of_pairs" = some (some (.ref (He.ga K "_law_of_pairs"))) := c.fact 110
  have a_law_asked_right : PySem.W.nsIn K mainGlobals "_law_asked_right" = some (some (.ref (He.ga K "_law_asked_right"))) := c.fact 111
  have alaw : PySem.W.nsIn K mainGlobals "law" = some (some (.ref (He.ga K "law"))) := c.fact 112
  have z_abs : PySem.W.nsIn K mainGlobals "abs" = some none := c.fact 113
  have z_all : PySem.W.nsIn K mainGlobals "all" = some none := c.fact 114
  have z_any : PySem.W.nsIn K mainGlobals "any" = some none := c.fact 115
  have z_bool : PySem.W.nsIn K mainGlobals "bool" = some none := c.fact 116
  have z_dict : PySem.W.nsIn K mainGlobals "dict" = some none := c.fact 117
  have z_enumerate : PySem.W.nsIn K mainGlobals "enumerate" = some none := c.fact 118
  have z_int : PySem.W.nsIn K mainGlobals "int" = some none := c.fact 119
  have z_isinstance : PySem.W.nsIn K mainGlobals "isinstance" = some none := c.fact 120
  have z_len : PySem.W.nsIn K mainGlobals "len" = some none := c.fact 121
  have z_list : PySem.W.nsIn K mainGlobals "list" = some none := c.fact 122
  have z_min : PySem.W.nsIn K mainGlobals "min" = some none := c.fact 123
  have z_range : PySem.W.nsIn K mainGlobals "range" = some none := c.fact 124
  have z_sum : PySem.W.nsIn K mainGlobals "sum" = some none := c.fact 125
  have z_tuple : PySem.W.nsIn K mainGlobals "tuple" = some none := c.fact 126
  have z_zip : PySem.W.nsIn K mainGlobals "zip" = some none := c.fact 127
  have z_iter : PySem.W.nsIn K mainGlobals "iter" = some none := c.fact 128
  have i_MOST_VALUES : (He.Fa.int "MOST_VALUES" 3).ok K = true := c.fact 129
  obtain ⟨tc_MOST_VALUES, ci_MOST_VALUES⟩ := He.int_ok X G i_MOST_VALUES
  have i_MOST_TIMES : (He.Fa.int "MOST_TIMES" 1000000000000000000000000000000).ok K = true := c.fact 130
  obtain ⟨tc_MOST_TIMES, ci_MOST_TIMES⟩ := He.int_ok X G i_MOST_TIMES
  have i_MOST_ROWS : (He.Fa.int "MOST_ROWS" 60).ok K = true := c.fact 131
  obtain ⟨tc_MOST_ROWS, ci_MOST_ROWS⟩ := He.int_ok X G i_MOST_ROWS
  obtain ⟨oc0, od0, sl0, dV0, kV0, dc0, pm0, an0, cd0, ct0, l0, c0, k0, v0⟩ := c.fn_at 0 rfl
  obtain rfl := dfl_none v0
  have kis_integer : PySem.W.keepIn K (.ref (He.ga K "is_integer")) = true := k0
  obtain ⟨oc1, od1, sl1, dV1, kV1, dc1, pm1, an1, cd1, ct1, l1, c1, k1, v1⟩ := c.fn_at 1 rfl
  obtain rfl := dfl_none v1
  have kis_value : PySem.W.keepIn K (.ref (He.ga K "is_value")) = true := k1
  obtain ⟨oc2, od2, sl2, dV2, kV2, dc2, pm2, an2, cd2, ct2, l2, c2, k2, v2⟩ := c.fn_at 2 rfl
  obtain rfl := dfl_none v2
  have kis_row : PySem.W.keepIn K (.ref (He.ga K "is_row")) = true := k2
  obtain ⟨oc3, od3, sl3, dV3, kV3, dc3, pm3, an3, cd3, ct3, l3, c3, k3, v3⟩ := c.fn_at 3 rfl
  obtain rfl := dfl_none v3
  have kvalue_before : PySem.W.keepIn K (.ref (He.ga K "value_before")) = true := k3
  obtain ⟨oc4, od4, sl4, dV4, kV4, dc4, pm4, an4, cd4, ct4, l4, c4, k4, v4⟩ := c.fn_at 4 rfl
  obtain rfl := dfl_none v4
  have krow_before : PySem.W.keepIn K (.ref (He.ga K "row_before")) = true := k4
  obtain ⟨oc5, od5, sl5, dV5, kV5, dc5, pm5, an5, cd5, ct5, l5, c5, k5, v5⟩ := c.fn_at 5 rfl
  obtain rfl := dfl_none v5
  have kmerged_rows : PySem.W.keepIn K (.ref (He.ga K "merged_rows")) = true := k5
  obtain ⟨oc6, od6, sl6, dV6, kV6, dc6, pm6, an6, cd6, ct6, l6, c6, k6, v6⟩ := c.fn_at 6 rfl
  obtain rfl := dfl_none v6
  have kordered_rows : PySem.W.keepIn K (.ref (He.ga K "ordered_rows")) = true := k6
  obtain ⟨oc7, od7, sl7, dV7, kV7, dc7, pm7, an7, cd7, ct7, l7, c7, k7, v7⟩ := c.fn_at 7 rfl
  obtain rfl := dfl_none v7
  have kown_copy : PySem.W.keepIn K (.ref (He.ga K "own_copy")) = true := k7
  obtain ⟨oc8, od8, sl8, dV8, kV8, dc8, pm8, an8, cd8, ct8, l8, c8, k8, v8⟩ := c.fn_at 8 rfl
  obtain rfl := dfl_none v8
  have kis_times : PySem.W.keepIn K (.ref (He.ga K "is_times")) = true := k8
  obtain ⟨oc9, od9, sl9, dV9, kV9, dc9, pm9, an9, cd9, ct9, l9, c9, k9, v9⟩ := c.fn_at 9 rfl
  obtain rfl := dfl_none v9
  have kis_pair : PySem.W.keepIn K (.ref (He.ga K "is_pair")) = true := k9
  obtain ⟨oc10, od10, sl10, dV10, kV10, dc10, pm10, an10, cd10, ct10, l10, c10, k10, v10⟩ := c.fn_at 10 rfl
  obtain rfl := dfl_none v10
  have kcheck_pairs : PySem.W.keepIn K (.ref (He.ga K "check_pairs")) = true := k10
  obtain ⟨oc11, od11, sl11, dV11, kV11, dc11, pm11, an11, cd11, ct11, l11, c11, k11, v11⟩ := c.fn_at 11 rfl
  obtain rfl := dfl_none v11
  have kadded_up : PySem.W.keepIn K (.ref (He.ga K "added_up")) = true := k11
  obtain ⟨oc12, od12, sl12, dV12, kV12, dc12, pm12, an12, cd12, ct12, l12, c12, k12, v12⟩ := c.fn_at 12 rfl
  obtain rfl := dfl_none v12
  have kcheck_numbers : PySem.W.keepIn K (.ref (He.ga K "check_numbers")) = true := k12
  obtain ⟨oc13, od13, sl13, dV13, kV13, dc13, pm13, an13, cd13, ct13, l13, c13, k13, v13⟩ := c.fn_at 13 rfl
  obtain rfl := dfl_none v13
  have kcheck_other : PySem.W.keepIn K (.ref (He.ga K "check_other")) = true := k13
  obtain ⟨oc14, od14, sl14, dV14, kV14, dc14, pm14, an14, cd14, ct14, l14, c14, k14, v14⟩ := c.fn_at 14 rfl
  obtain rfl := dfl_none v14
  have krows_of : PySem.W.keepIn K (.ref (He.ga K "rows_of")) = true := k14
  obtain ⟨oc15, od15, sl15, dV15, kV15, dc15, pm15, an15, cd15, ct15, l15, c15, k15, v15⟩ := c.fn_at 15 rfl
  obtain rfl := dfl_none v15
  have kbag_of : PySem.W.keepIn K (.ref (He.ga K "bag_of")) = true := k15
  obtain ⟨oc16, od16, sl16, dV16, kV16, dc16, pm16, an16, cd16, ct16, l16, c16, k16, v16⟩ := c.fn_at 16 rfl
  obtain rfl := dfl_none v16
  have k_law_pen : PySem.W.keepIn K (.ref (He.ga K "_law_pen")) = true := k16
  obtain ⟨oc17, od17, sl17, dV17, kV17, dc17, pm17, an17, cd17, ct17, l17, c17, k17, v17⟩ := c.fn_at 17 rfl
  obtain rfl := dfl_none v17
  have k_law_draw : PySem.W.keepIn K (.ref (He.ga K "_law_draw")) = true := k17
  obtain ⟨oc18, od18, sl18, dV18, kV18, dc18, pm18, an18, cd18, ct18, l18, c18, k18, v18⟩ := c.fn_at 18 rfl
  obtain rfl := dfl_none v18
  have k_law_pick : PySem.W.keepIn K (.ref (He.ga K "_law_pick")) = true := k18
  obtain ⟨oc19, od19, sl19, dV19, kV19, dc19, pm19, an19, cd19, ct19, l19, c19, k19, v19⟩ := c.fn_at 19 rfl
  obtain rfl := dfl_none v19
  have k_law_rows : PySem.W.keepIn K (.ref (He.ga K "_law_rows")) = true := k19
  obtain ⟨oc20, od20, sl20, dV20, kV20, dc20, pm20, an20, cd20, ct20, l20, c20, k20, v20⟩ := c.fn_at 20 rfl
  obtain rfl := dfl_none v20
  have k_law_key : PySem.W.keepIn K (.ref (He.ga K "_law_key")) = true := k20
  obtain ⟨oc21, od21, sl21, dV21, kV21, dc21, pm21, an21, cd21, ct21, l21, c21, k21, v21⟩ := c.fn_at 21 rfl
  obtain rfl := dfl_none v21
  have k_law_in_order : PySem.W.keepIn K (.ref (He.ga K "_law_in_order")) = true := k21
  obtain ⟨oc22, od22, sl22, dV22, kV22, dc22, pm22, an22, cd22, ct22, l22, c22, k22, v22⟩ := c.fn_at 22 rfl
  obtain rfl := dfl_none v22
  have k_law_torn : PySem.W.keepIn K (.ref (He.ga K "_law_torn")) = true := k22
  obtain ⟨oc23, od23, sl23, dV23, kV23, dc23, pm23, an23, cd23, ct23, l23, c23, k23, v23⟩ := c.fn_at 23 rfl
  obtain rfl := dfl_none v23
  have k_law_of_pairs : PySem.W.keepIn K (.ref (He.ga K "_law_of_pairs")) = true := k23
  obtain ⟨oc24, od24, sl24, dV24, kV24, dc24, pm24, an24, cd24, ct24, l24, c24, k24, v24⟩ := c.fn_at 24 rfl
  obtain rfl := dfl_none v24
  have k_law_asked_right : PySem.W.keepIn K (.ref (He.ga K "_law_asked_right")) = true := k24
  obtain ⟨oc25, od25, sl25, dV25, kV25, dc25, pm25, an25, cd25, ct25, l25, c25, k25, v25⟩ := c.fn_at 25 rfl
  obtain rfl := dfl_none v25
  have klaw : PySem.W.keepIn K (.ref (He.ga K "law")) = true := k25
  obtain ⟨oc26, od26, sl26, dV26, kV26, dc26, pm26, an26, cd26, ct26, l26, c26, k26, v26⟩ := c.fn_at 26 rfl
  obtain rfl := dfl_none v26
  have kBag___init__ : PySem.W.keepIn K (.ref (nsA K (He.ga K "Bag") "__init__")) = true := k26
  obtain ⟨oc27, od27, sl27, dV27, kV27, dc27, pm27, an27, cd27, ct27, l27, c27, k27, v27⟩ := c.fn_at 27 rfl
  obtain rfl := dfl_none v27
  have kBag_of : PySem.W.keepIn K (.ref (fstA K "staticmethod" (nsA K (He.ga K "Bag") "of"))) = true := k27
  obtain ⟨oc28, od28, sl28, dV28, kV28, dc28, pm28, an28, cd28, ct28, l28, c28, k28, v28⟩ := c.fn_at 28 rfl
  obtain rfl := dfl_none v28
  have kBag_width : PySem.W.keepIn K (.ref (fstA K "property" (nsA K (He.ga K "Bag") "width"))) = true := k28
  obtain ⟨oc29, od29, sl29, dV29, kV29, dc29, pm29, an29, cd29, ct29, l29, c29, k29, v29⟩ := c.fn_at 29 rfl
  obtain rfl := dfl_none v29
  have kBag_whole : PySem.W.keepIn K (.ref (fstA K "property" (nsA K (He.ga K "Bag") "whole"))) = true := k29
  obtain ⟨oc30, od30, sl30, dV30, kV30, dc30, pm30, an30, cd30, ct30, l30, c30, k30, v30⟩ := c.fn_at 30 rfl
  obtain rfl := dfl_none v30
  have kBag_often : PySem.W.keepIn K (.ref (nsA K (He.ga K "Bag") "often")) = true := k30
  obtain ⟨oc31, od31, sl31, dV31, kV31, dc31, pm31, an31, cd31, ct31, l31, c31, k31, v31⟩ := c.fn_at 31 rfl
  obtain rfl := dfl_none v31
  have kBag___contains__ : PySem.W.keepIn K (.ref (nsA K (He.ga K "Bag") "__contains__")) = true := k31
  obtain ⟨oc32, od32, sl32, dV32, kV32, dc32, pm32, an32, cd32, ct32, l32, c32, k32, v32⟩ := c.fn_at 32 rfl
  obtain rfl := dfl_none v32
  have kBag___len__ : PySem.W.keepIn K (.ref (nsA K (He.ga K "Bag") "__len__")) = true := k32
  obtain ⟨oc33, od33, sl33, dV33, kV33, dc33, pm33, an33, cd33, ct33, l33, c33, k33, v33⟩ := c.fn_at 33 rfl
  obtain rfl := dfl_none v33
  have kBag___iter__ : PySem.W.keepIn K (.ref (nsA K (He.ga K "Bag") "__iter__")) = true := k33
  obtain ⟨oc34, od34, sl34, dV34, kV34, dc34, pm34, an34, cd34, ct34, l34, c34, k34, v34⟩ := c.fn_at 34 rfl
  obtain rfl := dfl_none v34
  have kBag___getitem__ : PySem.W.keepIn K (.ref (nsA K (He.ga K "Bag") "__getitem__")) = true := k34
  obtain ⟨oc35, od35, sl35, dV35, kV35, dc35, pm35, an35, cd35, ct35, l35, c35, k35, v35⟩ := c.fn_at 35 rfl
  obtain rfl := dfl_none v35
  have kBag___add__ : PySem.W.keepIn K (.ref (nsA K (He.ga K "Bag") "__add__")) = true := k35
  obtain ⟨oc36, od36, sl36, dV36, kV36, dc36, pm36, an36, cd36, ct36, l36, c36, k36, v36⟩ := c.fn_at 36 rfl
  obtain rfl := dfl_none v36
  have kBag___eq__ : PySem.W.keepIn K (.ref (nsA K (He.ga K "Bag") "__eq__")) = true := k36
  obtain ⟨oc37, od37, sl37, dV37, kV37, dc37, pm37, an37, cd37, ct37, l37, c37, k37, v37⟩ := c.fn_at 37 rfl
  obtain rfl := dfl_none v37
  have kBadBag___init__ : PySem.W.keepIn K (.ref (nsA K (He.ga K "BadBag") "__init__")) = true := k37
  obtain ⟨oc38, od38, sl38, dV38, kV38, dc38, pm38, an38, cd38, ct38, l38, c38, k38, v38⟩ := c.fn_at 38 rfl
  obtain rfl := dfl_none v38
  have kTooMany___init__ : PySem.W.keepIn K (.ref (nsA K (He.ga K "TooMany") "__init__")) = true := k38
  let T : Top K mg := {
    C_Bag := (He.ga K "Bag"),
    g_Bag := PySem.W.mg_of X G gBag,
    cl_Bag := ⟨pgBag, hdBag, poBag, saBag⟩,
    kc_Bag := kcBag,
    na_Bag__pairs := naBag__pairs,
    na_Bag__numbers := naBag__numbers,
    ne_Bag := neBag,
    mr_Bag := mrBag,
    ca_Bag := caBag,
    om_Bag___init__ := ⟨atBag___init__, fnBag___init__⟩,
    mk_Bag := ⟨mkBag, atBag___init__, fnBag___init__, kcBag⟩,
    p_Bag_of := (nsA K (He.ga K "Bag") "of"),
    mc_Bag_of := ((PySem.W.typeIn K (.ref (He.ga K "Bag"))).getD .none),
    sm_Bag_of := ⟨rdBag_of, gaBag_of, atBag_of, ⟨_, rcBag_of⟩, kBag_of⟩,
    om_Bag_often := ⟨atBag_often, fnBag_often⟩,
    om_Bag___contains__ := ⟨atBag___contains__, fnBag___contains__⟩,
    om_Bag___len__ := ⟨atBag___len__, fnBag___len__⟩,
    om_Bag___iter__ := ⟨atBag___iter__, fnBag___iter__⟩,
    om_Bag___getitem__ := ⟨atBag___getitem__, fnBag___getitem__⟩,
    om_Bag___add__ := ⟨atBag___add__, fnBag___add__⟩,
    om_Bag___eq__ := ⟨atBag___eq__, fnBag___eq__⟩,
    ki_Bag := kit_self,
    ks_Bag := kit_no ksBag (by decide +kernel),
    sg := sg,
    tk := tk,
    C_BadBag := (He.ga K "BadBag"),
    g_BadBag := PySem.W.mg_of X G gBadBag,
    ox_BadBag := ⟨oexB_cls xoBadBag, saBadBag, eCBadBag, tCBadBag, kCBadBag⟩,
    ic_BadBag := atBadBag___init__,
    ti_BadBag := tiBadBag,
    no_BadBag_part := noBadBag_part,
    xf_BadBag := ⟨gaBadBag, ggBadBag, eCBadBag, hdBadBag⟩,
    ki_BadBag := kit_self,
    ex_BadBag := ⟨gaBadBag, ggBadBag, eCBadBag, hdBadBag, caBadBag, sg, tk, mrBadBag⟩,
    C_TooMany := (He.ga K "TooMany"),
    g_TooMany := PySem.W.mg_of X G gTooMany,
    ox_TooMany := ⟨oexB_cls xoTooMany, saTooMany, eCTooMany, tCTooMany, kCTooMany⟩,
    ic_TooMany := atTooMany___init__,
    ti_TooMany := tiTooMany,
    no_TooMany_what := noTooMany_what,
    no_TooMany_most := noTooMany_most,
    xf_TooMany := ⟨gaTooMany, ggTooMany, eCTooMany, hdTooMany⟩,
    ki_TooMany := kit_self,
    ex_TooMany := ⟨gaTooMany, ggTooMany, eCTooMany, hdTooMany, caTooMany, sg, tk, mrTooMany⟩,
    gc_Bag := ⟨⟨pgBag, hdBag, poBag, saBag⟩, caBag, sg, tk, mrBag, gc_kt (kit_no ktint_Bag (by decide +kernel)) (kit_no ksBag (by decide +kernel)) (kit_no ktbool_Bag (by decide +kernel)) (kit_no ktlist_Bag (by decide +kernel)) (kit_no kttuple_Bag (by decide +kernel)) (kit_no ktdict_Bag (by decide +kernel)) (kit_no ktset_Bag (by decide +kernel)) (kit_no ktbytes_Bag (by decide +kernel)) (kit_no ktfloat_Bag (by decide +kernel))⟩,
    me_Bag___init__ := ⟨atBag___init__, fnBag___init__, kBag___init__⟩,
    pa_Bag_width := (nsA K (He.ga K "Bag") "width"),
    pr_Bag_width := ⟨patBag_width, pgeBag_width, ptkBag_width, ⟨_, prcBag_width⟩⟩,
    pa_Bag_whole := (nsA K (He.ga K "Bag") "whole"),
    pr_Bag_whole := ⟨patBag_whole, pgeBag_whole, ptkBag_whole, ⟨_, prcBag_whole⟩⟩,
    me_Bag_often := ⟨atBag_often, fnBag_often, kBag_often⟩,
    me_Bag___contains__ := ⟨atBag___contains__, fnBag___contains__, kBag___contains__⟩,
    me_Bag___len__ := ⟨atBag___len__, fnBag___len__, kBag___len__⟩,
    me_Bag___iter__ := ⟨atBag___iter__, fnBag___iter__, kBag___iter__⟩,
    me_Bag___getitem__ := ⟨atBag___getitem__, fnBag___getitem__, kBag___getitem__⟩,
    me_Bag___add__ := ⟨atBag___add__, fnBag___add__, kBag___add__⟩,
    me_Bag___eq__ := ⟨atBag___eq__, fnBag___eq__, kBag___eq__⟩,
    nf_tuple_Bag := nftuple_Bag,
    kn_tuple_Bag := kntuple_Bag,
    lo_Bag_add := ⟨sfBag, atBag___add__, fnBag___add__, .inl raBag_add⟩,
    so_Bag := ⟨atBag___iter__, fnBag___iter__, ⟨atBag___len__, fnBag___len__⟩⟩,
    nq_Bag := fx_nq_Bag,
    fi_Bag___getitem__ := fx_fi_Bag___getitem__,
    z_abs := PySem.W.mg_none_of X G z_abs,
    z_all := PySem.W.mg_none_of X G z_all,
    z_any := PySem.W.mg_none_of X G z_any,
    z_bool := PySem.W.mg_none_of X G z_bool,
    z_dict := PySem.W.mg_none_of X G z_dict,
    z_enumerate := PySem.W.mg_none_of X G z_enumerate,
    z_int := PySem.W.mg_none_of X G z_int,
    z_isinstance := PySem.W.mg_none_of X G z_isinstance,
    z_len := PySem.W.mg_none_of X G z_len,
    z_list := PySem.W.mg_none_of X G z_list,
    z_min := PySem.W.mg_none_of X G z_min,
    z_range := PySem.W.mg_none_of X G z_range,
    z_sum := PySem.W.mg_none_of X G z_sum,
    z_tuple := PySem.W.mg_none_of X G z_tuple,
    z_zip := PySem.W.mg_none_of X G z_zip,
    z_iter := PySem.W.mg_none_of X G z_iter,
    t_MOST_VALUES := tc_MOST_VALUES,
    c_MOST_VALUES := ci_MOST_VALUES,
    t_MOST_TIMES := tc_MOST_TIMES,
    c_MOST_TIMES := ci_MOST_TIMES,
    t_MOST_ROWS := tc_MOST_ROWS,
    c_MOST_ROWS := ci_MOST_ROWS,
    a_is_integer := (He.ga K "is_integer"),
    d_is_integer := (PySem.W.fnOf "is_integer" "is_integer" (defArgs sis_integer) (defBody sis_integer) (defScope sis_integer) .none kV0 dc0 pm0 an0 cd0 ct0),
    F_is_integer := fun_mk (st := sis_integer) l0 c0 k0,
    b_is_integer := (fun_mk (st := sis_integer) l0 c0 k0).binds (ps := ["value"]) fun _ _ _ _ _ _ us hl => match us, hl with | [_], _ => rfl,
    g_is_integer := PySem.W.mg_of X G ais_integer,
    a_is_value := (He.ga K "is_value"),
    d_is_value := (PySem.W.fnOf "is_value" "is_value" (defArgs sis_value) (defBody sis_value) (defScope sis_value) .none kV1 dc1 pm1 an1 cd1 ct1),
    F_is_value := fun_mk (st := sis_value) l1 c1 k1,
    b_is_value := (fun_mk (st := sis_value) l1 c1 k1).binds (ps := ["value"]) fun _ _ _ _ _ _ us hl => match us, hl with | [_], _ => rfl,
    g_is_value := PySem.W.mg_of X G ais_value,
    a_is_row := (He.ga K "is_row"),
    d_is_row := (PySem.W.fnOf "is_row" "is_row" (defArgs sis_row) (defBody sis_row) (defScope sis_row) .none kV2 dc2 pm2 an2 cd2 ct2),
    F_is_row := fun_mk (st := sis_row) l2 c2 k2,
    b_is_row := (fun_mk (st := sis_row) l2 c2 k2).binds (ps := ["value"]) fun _ _ _ _ _ _ us hl => match us, hl with | [_], _ => rfl,
    g_is_row := PySem.W.mg_of X G ais_row,
    a_value_before := (He.ga K "value_before"),
    d_value_before := (PySem.W.fnOf "value_before" "value_before" (defArgs svalue_before) (defBody svalue_before) (defScope svalue_before) .none kV3 dc3 pm3 an3 cd3 ct3),
    F_value_before := fun_mk (st := svalue_before) l3 c3 k3,
    b_value_before := (fun_mk (st := svalue_before) l3 c3 k3).binds (ps := ["one", "other"]) fun _ _ _ _ _ _ us hl => match us, hl with | [_, _], _ => rfl,
    g_value_before := PySem.W.mg_of X G avalue_before,
    a_row_before := (He.ga K "row_before"),
    d_row_before := (PySem.W.fnOf "row_before" "row_before" (defArgs srow_before) (defBody srow_before) (defScope srow_before) .none kV4 dc4 pm4 an4 cd4 ct4),
    F_row_before := fun_mk (st := srow_before) l4 c4 k4,
    b_row_before := (fun_mk (st := srow_before) l4 c4 k4).binds (ps := ["one", "other"]) fun _ _ _ _ _ _ us hl => match us, hl with | [_, _], _ => rfl,
    g_row_before := PySem.W.mg_of X G arow_before,
    a_merged_rows := (He.ga K "merged_rows"),
    d_merged_rows := (PySem.W.fnOf "merged_rows" "merged_rows" (defArgs smerged_rows) (defBody smerged_rows) (defScope smerged_rows) .none kV5 dc5 pm5 an5 cd5 ct5),
    F_merged_rows := fun_mk (st := smerged_rows) l5 c5 k5,
    b_merged_rows := (fun_mk (st := smerged_rows) l5 c5 k5).binds (ps := ["one", "other"]) fun _ _ _ _ _ _ us hl => match us, hl with | [_, _], _ => rfl,
    g_merged_rows := PySem.W.mg_of X G amerged_rows,
    a_ordered_rows := (He.ga K "ordered_rows"),
    d_ordered_rows := (PySem.W.fnOf "ordered_rows" "ordered_rows" (defArgs sordered_rows) (defBody sordered_rows) (defScope sordered_rows) .none kV6 dc6 pm6 an6 cd6 ct6),
    F_ordered_rows := fun_mk (st := sordered_rows) l6 c6 k6,
    b_ordered_rows := (fun_mk (st := sordered_rows) l6 c6 k6).binds (ps := ["rows"]) fun _ _ _ _ _ _ us hl => match us, hl with | [_], _ => rfl,
    g_ordered_rows := PySem.W.mg_of X G aordered_rows,
    a_own_copy := (He.ga K "own_copy"),
    d_own_copy := (PySem.W.fnOf "own_copy" "own_copy" (defArgs sown_copy) (defBody sown_copy) (defScope sown_copy) .none kV7 dc7 pm7 an7 cd7 ct7),
    F_own_copy := fun_mk (st := sown_copy) l7 c7 k7,
    b_own_copy := (fun_mk (st := sown_copy) l7 c7 k7).binds (ps := ["value"]) fun _ _ _ _ _ _ us hl => match us, hl with | [_], _ => rfl,
    g_own_copy := PySem.W.mg_of X G aown_copy,
    a_is_times := (He.ga K "is_times"),
    d_is_times := (PySem.W.fnOf "is_times" "is_times" (defArgs sis_times) (defBody sis_times) (defScope sis_times) .none kV8 dc8 pm8 an8 cd8 ct8),
    F_is_times := fun_mk (st := sis_times) l8 c8 k8,
    b_is_times := (fun_mk (st := sis_times) l8 c8 k8).binds (ps := ["value"]) fun _ _ _ _ _ _ us hl => match us, hl with | [_], _ => rfl,
    g_is_times := PySem.W.mg_of X G ais_times,
    a_is_pair := (He.ga K "is_pair"),
    d_is_pair := (PySem.W.fnOf "is_pair" "is_pair" (defArgs sis_pair) (defBody sis_pair) (defScope sis_pair) .none kV9 dc9 pm9 an9 cd9 ct9),
    F_is_pair := fun_mk (st := sis_pair) l9 c9 k9,
    b_is_pair := (fun_mk (st := sis_pair) l9 c9 k9).binds (ps := ["value"]) fun _ _ _ _ _ _ us hl => match us, hl with | [_], _ => rfl,
    g_is_pair := PySem.W.mg_of X G ais_pair,
    a_check_pairs := (He.ga K "check_pairs"),
    d_check_pairs := (PySem.W.fnOf "check_pairs" "check_pairs" (defArgs scheck_pairs) (defBody scheck_pairs) (defScope scheck_pairs) .none kV10 dc10 pm10 an10 cd10 ct10),
    F_check_pairs := fun_mk (st := scheck_pairs) l10 c10 k10,
    b_check_pairs := (fun_mk (st := scheck_pairs) l10 c10 k10).binds (ps := ["pairs"]) fun _ _ _ _ _ _ us hl => match us, hl with | [_], _ => rfl,
    g_check_pairs := PySem.W.mg_of X G acheck_pairs,
    a_added_up := (He.ga K "added_up"),
    d_added_up := (PySem.W.fnOf "added_up" "added_up" (defArgs sadded_up) (defBody sadded_up) (defScope sadded_up) .none kV11 dc11 pm11 an11 cd11 ct11),
    F_added_up := fun_mk (st := sadded_up) l11 c11 k11,
    b_added_up := (fun_mk (st := sadded_up) l11 c11 k11).binds (ps := ["pairs"]) fun _ _ _ _ _ _ us hl => match us, hl with | [_], _ => rfl,
    g_added_up := PySem.W.mg_of X G aadded_up,
    a_check_numbers := (He.ga K "check_numbers"),
    d_check_numbers := (PySem.W.fnOf "check_numbers" "check_numbers" (defArgs scheck_numbers) (defBody scheck_numbers) (defScope scheck_numbers) .none kV12 dc12 pm12 an12 cd12 ct12),
    F_check_numbers := fun_mk (st := scheck_numbers) l12 c12 k12,
    b_check_numbers := (fun_mk (st := scheck_numbers) l12 c12 k12).binds (ps := ["numbers"]) fun _ _ _ _ _ _ us hl => match us, hl with | [_], _ => rfl,
    g_check_numbers := PySem.W.mg_of X G acheck_numbers,
    a_check_other := (He.ga K "check_other"),
    d_check_other := (PySem.W.fnOf "check_other" "check_other" (defArgs scheck_other) (defBody scheck_other) (defScope scheck_other) .none kV13 dc13 pm13 an13 cd13 ct13),
    F_check_other := fun_mk (st := scheck_other) l13 c13 k13,
    b_check_other := (fun_mk (st := scheck_other) l13 c13 k13).binds (ps := ["bag", "other"]) fun _ _ _ _ _ _ us hl => match us, hl with | [_, _], _ => rfl,
    g_check_other := PySem.W.mg_of X G acheck_other,
    a_rows_of := (He.ga K "rows_of"),
    d_rows_of := (PySem.W.fnOf "rows_of" "rows_of" (defArgs srows_of) (defBody srows_of) (defScope srows_of) .none kV14 dc14 pm14 an14 cd14 ct14),
    F_rows_of := fun_mk (st := srows_of) l14 c14 k14,
    b_rows_of := (fun_mk (st := srows_of) l14 c14 k14).binds (ps := ["one", "other"]) fun _ _ _ _ _ _ us hl => match us, hl with | [_, _], _ => rfl,
    g_rows_of := PySem.W.mg_of X G arows_of,
    a_bag_of := (He.ga K "bag_of"),
    d_bag_of := (PySem.W.fnOf "bag_of" "bag_of" (defArgs sbag_of) (defBody sbag_of) (defScope sbag_of) .none kV15 dc15 pm15 an15 cd15 ct15),
    F_bag_of := fun_mk (st := sbag_of) l15 c15 k15,
    b_bag_of := (fun_mk (st := sbag_of) l15 c15 k15).binds (ps := ["numbers"]) fun _ _ _ _ _ _ us hl => match us, hl with | [_], _ => rfl,
    g_bag_of := PySem.W.mg_of X G abag_of,
    a__law_pen := (He.ga K "_law_pen"),
    d__law_pen := (PySem.W.fnOf "_law_pen" "_law_pen" (defArgs s_law_pen) (defBody s_law_pen) (defScope s_law_pen) .none kV16 dc16 pm16 an16 cd16 ct16),
    F__law_pen := fun_mk (st := s_law_pen) l16 c16 k16,
    b__law_pen := (fun_mk (st := s_law_pen) l16 c16 k16).binds (ps := ["_law_script"]) fun _ _ _ _ _ _ us hl => match us, hl with | [_], _ => rfl,
    g__law_pen := PySem.W.mg_of X G a_law_pen,
    a__law_draw := (He.ga K "_law_draw"),
    d__law_draw := (PySem.W.fnOf "_law_draw" "_law_draw" (defArgs s_law_draw) (defBody s_law_draw) (defScope s_law_draw) .none kV17 dc17 pm17 an17 cd17 ct17),
    F__law_draw := fun_mk (st := s_law_draw) l17 c17 k17,
    b__law_draw := (fun_mk (st := s_law_draw) l17 c17 k17).binds (ps := ["_law_pen_here", "_law_many"]) fun _ _ _ _ _ _ us hl => match us, hl with | [_, _], _ => rfl,
    g__law_draw := PySem.W.mg_of X G a_law_draw,
    a__law_pick := (He.ga K "_law_pick"),
    d__law_pick := (PySem.W.fnOf "_law_pick" "_law_pick" (defArgs s_law_pick) (defBody s_law_pick) (defScope s_law_pick) .none kV18 dc18 pm18 an18 cd18 ct18),
    F__law_pick := fun_mk (st := s_law_pick) l18 c18 k18,
    b__law_pick := (fun_mk (st := s_law_pick) l18 c18 k18).binds (ps := ["_law_pen_here", "_law_some"]) fun _ _ _ _ _ _ us hl => match us, hl with | [_, _], _ => rfl,
    g__law_pick := PySem.W.mg_of X G a_law_pick,
    a__law_rows := (He.ga K "_law_rows"),
    d__law_rows := (PySem.W.fnOf "_law_rows" "_law_rows" (defArgs s_law_rows) (defBody s_law_rows) (defScope s_law_rows) .none kV19 dc19 pm19 an19 cd19 ct19),
    F__law_rows := fun_mk (st := s_law_rows) l19 c19 k19,
    b__law_rows := (fun_mk (st := s_law_rows) l19 c19 k19).binds (ps := ["_law_pen_here", "_law_width", "_law_many"]) fun _ _ _ _ _ _ us hl => match us, hl with | [_, _, _], _ => rfl,
    g__law_rows := PySem.W.mg_of X G a_law_rows,
    a__law_key := (He.ga K "_law_key"),
    d__law_key := (PySem.W.fnOf "_law_key" "_law_key" (defArgs s_law_key) (defBody s_law_key) (defScope s_law_key) .none kV20 dc20 pm20 an20 cd20 ct20),
    F__law_key := fun_mk (st := s_law_key) l20 c20 k20,
    b__law_key := (fun_mk (st := s_law_key) l20 c20 k20).binds (ps := ["_law_row"]) fun _ _ _ _ _ _ us hl => match us, hl with | [_], _ => rfl,
    g__law_key := PySem.W.mg_of X G a_law_key,
    a__law_in_order := (He.ga K "_law_in_order"),
    d__law_in_order := (PySem.W.fnOf "_law_in_order" "_law_in_order" (defArgs s_law_in_order) (defBody s_law_in_order) (defScope s_law_in_order) .none kV21 dc21 pm21 an21 cd21 ct21),
    F__law_in_order := fun_mk (st := s_law_in_order) l21 c21 k21,
    b__law_in_order := (fun_mk (st := s_law_in_order) l21 c21 k21).binds (ps := ["_law_rows_here"]) fun _ _ _ _ _ _ us hl => match us, hl with | [_], _ => rfl,
    g__law_in_order := PySem.W.mg_of X G a_law_in_order,
    a__law_torn := (He.ga K "_law_torn"),
    d__law_torn := (PySem.W.fnOf "_law_torn" "_law_torn" (defArgs s_law_torn) (defBody s_law_torn) (defScope s_law_torn) .none kV22 dc22 pm22 an22 cd22 ct22),
    F__law_torn := fun_mk (st := s_law_torn) l22 c22 k22,
    b__law_torn := (fun_mk (st := s_law_torn) l22 c22 k22).binds (ps := ["_law_pen_here", "_law_found"]) fun _ _ _ _ _ _ us hl => match us, hl with | [_, _], _ => rfl,
    g__law_torn := PySem.W.mg_of X G a_law_torn,
    a__law_of_pairs := (He.ga K "_law_of_pairs"),
    d__law_of_pairs := (PySem.W.fnOf "_law_of_pairs" "_law_of_pairs" (defArgs s_law_of_pairs) (defBody s_law_of_pairs) (defScope s_law_of_pairs) .none kV23 dc23 pm23 an23 cd23 ct23),
    F__law_of_pairs := fun_mk (st := s_law_of_pairs) l23 c23 k23,
    b__law_of_pairs := (fun_mk (st := s_law_of_pairs) l23 c23 k23).binds (ps := ["_law_pairs"]) fun _ _ _ _ _ _ us hl => match us, hl with | [_], _ => rfl,
    g__law_of_pairs := PySem.W.mg_of X G a_law_of_pairs,
    a__law_asked_right := (He.ga K "_law_asked_right"),
    d__law_asked_right := (PySem.W.fnOf "_law_asked_right" "_law_asked_right" (defArgs s_law_asked_right) (defBody s_law_asked_right) (defScope s_law_asked_right) .none kV24 dc24 pm24 an24 cd24 ct24),
    F__law_asked_right := fun_mk (st := s_law_asked_right) l24 c24 k24,
    b__law_asked_right := (fun_mk (st := s_law_asked_right) l24 c24 k24).binds (ps := ["_law_pen_here", "_law_made", "_law_found", "_law_due"]) fun _ _ _ _ _ _ us hl => match us, hl with | [_, _, _, _], _ => rfl,
    g__law_asked_right := PySem.W.mg_of X G a_law_asked_right,
    a_law := (He.ga K "law"),
    d_law := (PySem.W.fnOf "law" "law" (defArgs slaw) (defBody slaw) (defScope slaw) .none kV25 dc25 pm25 an25 cd25 ct25),
    F_law := fun_mk (st := slaw) l25 c25 k25,
    b_law := (fun_mk (st := slaw) l25 c25 k25).binds (ps := ["_law_script"]) fun _ _ _ _ _ _ us hl => match us, hl with | [_], _ => rfl,
    g_law := PySem.W.mg_of X G alaw,
    a_Bag___init__ := (nsA K (He.ga K "Bag") "__init__"),
    d_Bag___init__ := (PySem.W.fnOf "__init__" "Bag.__init__" (defArgs sBag___init__) (defBody sBag___init__) (defScope sBag___init__) .none kV26 dc26 pm26 an26 cd26 ct26),
    F_Bag___init__ := fun_mk (st := sBag___init__) l26 c26 k26,
    a_Bag_of := (fstA K "staticmethod" (nsA K (He.ga K "Bag") "of")),
    d_Bag_of := (PySem.W.fnOf "of" "Bag.of" (defArgs sBag_of) (defBody sBag_of) (defScope sBag_of) .none kV27 dc27 pm27 an27 cd27 ct27),
    F_Bag_of := fun_mk (st := sBag_of) l27 c27 k27,
    b_Bag_of := (fun_mk (st := sBag_of) l27 c27 k27).binds (ps := ["rows"]) fun _ _ _ _ _ _ us hl => match us, hl with | [_], _ => rfl,
    a_Bag_width := (fstA K "property" (nsA K (He.ga K "Bag") "width")),
    d_Bag_width := (PySem.W.fnOf "width" "Bag.width" (defArgs sBag_width) (defBody sBag_width) (defScope sBag_width) .none kV28 dc28 pm28 an28 cd28 ct28),
    F_Bag_width := fun_mk (st := sBag_width) l28 c28 k28,
    b_Bag_width := (fun_mk (st := sBag_width) l28 c28 k28).binds (ps := ["self"]) fun _ _ _ _ _ _ us hl => match us, hl with | [_], _ => rfl,
    a_Bag_whole := (fstA K "property" (nsA K (He.ga K "Bag") "whole")),
    d_Bag_whole := (PySem.W.fnOf "whole" "Bag.whole" (defArgs sBag_whole) (defBody sBag_whole) (defScope sBag_whole) .none kV29 dc29 pm29 an29 cd29 ct29),
    F_Bag_whole := fun_mk (st := sBag_whole) l29 c29 k29,
    b_Bag_whole := (fun_mk (st := sBag_whole) l29 c29 k29).binds (ps := ["self"]) fun _ _ _ _ _ _ us hl => match us, hl with | [_], _ => rfl,
    a_Bag_often := (nsA K (He.ga K "Bag") "often"),
    d_Bag_often := (PySem.W.fnOf "often" "Bag.often" (defArgs sBag_often) (defBody sBag_often) (defScope sBag_often) .none kV30 dc30 pm30 an30 cd30 ct30),
    F_Bag_often := fun_mk (st := sBag_often) l30 c30 k30,
    b_Bag_often := (fun_mk (st := sBag_often) l30 c30 k30).binds (ps := ["self", "row"]) fun _ _ _ _ _ _ us hl => match us, hl with | [_, _], _ => rfl,
    a_Bag___contains__ := (nsA K (He.ga K "Bag") "__contains__"),
    d_Bag___contains__ := (PySem.W.fnOf "__contains__" "Bag.__contains__" (defArgs sBag___contains__) (defBody sBag___contains__) (defScope sBag___contains__) .none kV31 dc31 pm31 an31 cd31 ct31),
    F_Bag___contains__ := fun_mk (st := sBag___contains__) l31 c31 k31,
    b_Bag___contains__ := (fun_mk (st := sBag___contains__) l31 c31 k31).binds (ps := ["self", "x"]) fun _ _ _ _ _ _ us hl => match us, hl with | [_, _], _ => rfl,
    a_Bag___len__ := (nsA K (He.ga K "Bag") "__len__"),
    d_Bag___len__ := (PySem.W.fnOf "__len__" "Bag.__len__" (defArgs sBag___len__) (defBody sBag___len__) (defScope sBag___len__) .none kV32 dc32 pm32 an32 cd32 ct32),
    F_Bag___len__ := fun_mk (st := sBag___len__) l32 c32 k32,
    b_Bag___len__ := (fun_mk (st := sBag___len__) l32 c32 k32).binds (ps := ["self"]) fun _ _ _ _ _ _ us hl => match us, hl with | [_], _ => rfl,
    a_Bag___iter__ := (nsA K (He.ga K "Bag") "__iter__"),
    d_Bag___iter__ := (PySem.W.fnOf "__iter__" "Bag.__iter__" (defArgs sBag___iter__) (defBody sBag___iter__) (defScope sBag___iter__) .none kV33 dc33 pm33 an33 cd33 ct33),
    F_Bag___iter__ := fun_mk (st := sBag___iter__) l33 c33 k33,
    b_Bag___iter__ := (fun_mk (st := sBag___iter__) l33 c33 k33).binds (ps := ["self"]) fun _ _ _ _ _ _ us hl => match us, hl with | [_], _ => rfl,
    a_Bag___getitem__ := (nsA K (He.ga K "Bag") "__getitem__"),
    d_Bag___getitem__ := (PySem.W.fnOf "__getitem__" "Bag.__getitem__" (defArgs sBag___getitem__) (defBody sBag___getitem__) (defScope sBag___getitem__) .none kV34 dc34 pm34 an34 cd34 ct34),
    F_Bag___getitem__ := fun_mk (st := sBag___getitem__) l34 c34 k34,
    b_Bag___getitem__ := (fun_mk (st := sBag___getitem__) l34 c34 k34).binds (ps := ["self", "at"]) fun _ _ _ _ _ _ us hl => match us, hl with | [_, _], _ => rfl,
    a_Bag___add__ := (nsA K (He.ga K "Bag") "__add__"),
    d_Bag___add__ := (PySem.W.fnOf "__add__" "Bag.__add__" (defArgs sBag___add__) (defBody sBag___add__) (defScope sBag___add__) .none kV35 dc35 pm35 an35 cd35 ct35),
    F_Bag___add__ := fun_mk (st := sBag___add__) l35 c35 k35,
    b_Bag___add__ := (fun_mk (st := sBag___add__) l35 c35 k35).binds (ps := ["self", "other"]) fun _ _ _ _ _ _ us hl => match us, hl with | [_, _], _ => rfl,
    a_Bag___eq__ := (nsA K (He.ga K "Bag") "__eq__"),
    d_Bag___eq__ := (PySem.W.fnOf "__eq__" "Bag.__eq__" (defArgs sBag___eq__) (defBody sBag___eq__) (defScope sBag___eq__) .none kV36 dc36 pm36 an36 cd36 ct36),
    F_Bag___eq__ := fun_mk (st := sBag___eq__) l36 c36 k36,
    b_Bag___eq__ := (fun_mk (st := sBag___eq__) l36 c36 k36).binds (ps := ["self", "other"]) fun _ _ _ _ _ _ us hl => match us, hl with | [_, _], _ => rfl,
    a_BadBag___init__ := (nsA K (He.ga K "BadBag") "__init__"),
    d_BadBag___init__ := (PySem.W.fnOf "__init__" "BadBag.__init__" (defArgs sBadBag___init__) (defBody sBadBag___init__) (defScope sBadBag___init__) .none kV37 dc37 pm37 an37 cd37 ct37),
    F_BadBag___init__ := fun_mk (st := sBadBag___init__) l37 c37 k37,
    b_BadBag___init__ := (fun_mk (st := sBadBag___init__) l37 c37 k37).binds (ps := ["self", "part"]) fun _ _ _ _ _ _ us hl => match us, hl with | [_, _], _ => rfl,
    a_TooMany___init__ := (nsA K (He.ga K "TooMany") "__init__"),
    d_TooMany___init__ := (PySem.W.fnOf "__init__" "TooMany.__init__" (defArgs sTooMany___init__) (defBody sTooMany___init__) (defScope sTooMany___init__) .none kV38 dc38 pm38 an38 cd38 ct38),
    F_TooMany___init__ := fun_mk (st := sTooMany___init__) l38 c38 k38,
    b_TooMany___init__ := (fun_mk (st := sTooMany___init__) l38 c38 k38).binds (ps := ["self", "what", "most"]) fun _ _ _ _ _ _ us hl => match us, hl with | [_, _, _], _ => rfl,
    kb_Bag_of_0 := { to := fun s us ws _ hl => by { obtain ⟨h1, h2⟩ := gPerm_len hl (by decide); match us, ws, h1, h2 with | [], [_], _, _ => exact .of_eq rfl }, rel := fun r q => gPerm_rel r q },
    kb_Bag_often_0 := { to := fun s us ws _ h1 h2 => by { match us, ws, h1, h2 with | [_], [_], _, _ => exact .of_eq rfl }, rel := fun r q => gPerm_rel r q },
    e_law := fun s v => .of_eq rfl }
  have e : Value.ref fa = .ref T.a_law := Option.some.inj (hfa.symm.trans T.g_law)
  injection e with e
  subst e
  exact ⟨T.d_law, [], lowSp K lawD, fun p hp => (by cases hp), fun p hp => (by cases hp), fun p hp => (by cases hp), T.e_law, fun H a ns hl o hS => law_sat hl (fun b => (o b).2 (by simp)) hS, fun base _ _ _ => dok_law (P := P) (w := w) T⟩
end JP
open PySem PySem.W PySem.Calls PyProof.Rows
set_option maxRecDepth 100000 in
set_option maxHeartbeats 0 in
theorem PySem.Challenge.cw_rowcounts_k02_bags_made_and_asked_holds : PySem.Challenge.rw_rowcounts_k02_bags_made_and_asked.Holds := by
  w_on; o_law
  refine HandSHeadRun.head_any (r := (OpenLaw.row PySem.Challenge.rw_rowcounts_k02_bags_made_and_asked)) (q := view (OpenLaw.row PySem.Challenge.rw_rowcounts_k02_bags_made_and_asked).prog [55]) (H := JP.hkY) (ob := JP.obY) (M := 12000) (loose := JP.looseY) (d := HandSHeadRun.topDef (OpenLaw.row PySem.Challenge.rw_rowcounts_k02_bags_made_and_asked).prog 55) (kwd := []) JP.obY_eq
    (by kernel_rfl) (fun s => by kernel_rfl) JP.runY (by kernel_rfl) (by kernel_rfl) (by kernel_rfl) (by rfl) (by first | assumption | decide +kernel) (by decide +kernel) ⟨rfl, rfl, rfl, rfl, rfl, by decide +kernel⟩ ?hw ?hc
  case hw => w_witness2
  case hc =>
    refine JP.walk_gt (l := PySem.Challenge.rw_rowcounts_k02_bags_made_and_asked) (n := 63) (k := 80) (x := "_law_script") rfl (by decide) (by kernel_rfl) ⟨rfl, by decide, by decide⟩ ?F
    intro w mg fa h Y G hmg0
    obtain ⟨K, c⟩ := Y
    have hmg : mg ("law" : PySem.Str) = some (.ref fa) := by
      have e : (HandSHeadRun.topDef (OpenLaw.row PySem.Challenge.rw_rowcounts_k02_bags_made_and_asked).prog 55).name = ("law" : PySem.Str) := by kernel_rfl
      rw [← e]
      exact hmg0
    obtain ⟨fd, cs, sp, h1, h2, h3, h4, h5, h6⟩ := JP.all_y (P := (PySem.Challenge.rw_rowcounts_k02_bags_made_and_asked).prog) (w := w) G hmg c
    exact ⟨K, fd, cs, sp, c.inK, h1, h2, h3, h4, h5, h6⟩
