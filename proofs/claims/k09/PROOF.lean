import PyProof.Rows.All
import Wide.All
import OpenK.AllK
import Wide.FinOn
import HandS.ForMost
import HandS.Codes
import HandS.TupAny
import HandS.TupMul
import HandS.Zip
import HandS.Walk
import HandS.Conv
import HandS.IsInst
import HandS.Wide
import HandS.WideBits
import HandS.Rev
import HandS.RevTup
import HandS.Style
import HandS.Defaults
import HandS.SortKw
import HandS.NamedTupSort
import HandS.Evl
import KE.GoesNew
import KE.GoesMore
import PySem.Challenge.RW_timesthrough_k09_counting_by_terms_and_c
set_option Elab.async false
set_option linter.all false
set_option maxRecDepth 100000
set_option maxHeartbeats 4000000
/-! ## Prelude: rules and heap words that the proofs share -/
namespace L2
open PySem PySem.Spec PyProof.Rows
section
variable {X : Cx}
def CPowW (i j : Int) : Prop := 0 ≤ j ∧ (Builtin.Int.intBits i : Int) * j ≤ 2 ^ 27
def CMulE (i j : Int) : Prop := CMul i j ∨ CMulW i j
theorem op_mulE : OpR X (binaryOp .Mult) (rI CMulE fun i j => .int (i * j)) := opI fun _ _ _ _ _ _ _ hc q => by
  rcases hc with h | h
  · exact mul_int q h.ok
  · exact mul_int q h.ok
theorem wmul {i j : Int} {a b : Nat} (ha : i.natAbs < 2 ^ a) (hb : j.natAbs < 2 ^ b) (h0 : 0 < a) (h1 : 0 < b) (h : a + b ≤ 1000000) : CMulE i j := .inr (wide_mul ha hb h0 h1 h)
theorem mulX_left {i j : Int} (h : -(2 ^ 64) < i ∧ i < 2 ^ 64) : CMulE i j := .inl (.inl h)
theorem mulX_right {i j : Int} (h : -(2 ^ 64) < j ∧ j < 2 ^ 64) : CMulE i j := .inl (.inr h)
theorem op_powW : OpR X (binaryOp .Pow) (rI CPowW fun i j => .int (i ^ j.toNat)) := opI fun _ _ _ _ _ _ _ hc q => pow_int hc.1 hc.2 q
end
end L2
namespace C8b
open PySem L2
theorem blk {N : List Str} {sc scope : Scope} {own : List (Str × Nat)} (h : blkC N sc scope own = true) : BlkOk N sc scope own := blkOk_by h
end C8b
namespace PySem
section
variable {prog : Program} {w : World} {A : Around} {E : Value → Shared → Prop} {s : Shared} {l : Addr} {xs : Array (Int × Tok)}
abbrev iterOf (l : Addr) : Obj := { cls := .type "tuple_iterator", data := .fields #[.ref l, .int 0 0] }
theorem vf_iterT {Q : Value → Shared → Prop} (hl : s.heap.IsTuple l (intItems xs))
    (h : ∀ s₂ : Shared, s₂ = { s with heap := s.heap.push (iterOf l) } →
      (s₂.heap.IsTupleIter s.heap.objs.size l 0 ∧ s₂.heap.IsTuple l (intItems xs)) → (∀ b ∈ [s.heap.objs.size, l], b < s₂.heap.objs.size) → l ≠ s.heap.objs.size → Q (.ref s.heap.objs.size) s₂) :
    wpAny (model prog w) A (pyIter (.ref l)) Q E s := by
  have below : l < s.heap.objs.size := hl.elim fun _ got => Heap.lt_size got.1
  have both : ∀ b ∈ [s.heap.objs.size, l], b < (s.heap.push (iterOf l)).objs.size := by
    rw [Heap.size_push]
    exact List.forall_mem_cons.mpr ⟨Nat.lt_succ_self _, List.forall_mem_singleton.mpr (Nat.lt_succ_of_lt below)⟩
  exact wpAny_pyIter_tuple hl (h _ rfl ⟨⟨_, Heap.get?_push_size _ rfl, rfl, rfl⟩, PyProof.Rows.IsTup.push hl _⟩ both (Nat.ne_of_lt below))
theorem vf_old {h' : Heap} (hk : ∀ b o, b ∉ [s.heap.objs.size] → (s.heap.push (iterOf l)).get? b = some o → h'.get? b = some o) : ∀ b o, s.heap.get? b = some o → h'.get? b = some o := fun b o e =>
  hk b o (fun m => Nat.lt_irrefl _ (List.mem_singleton.mp m ▸ Heap.lt_size e)) (Heap.get?_push_of_some _ e)
end
theorem numbers_at {xs : Array (Int × Tok)} {i : Nat} (h : i < xs.size) : numAt xs i ∈ xs.toList.map Prod.fst := by
  rw [numAt_eq]
  exact PySem.getD_mem (by simpa using h)
theorem numbers_all {xs : Array (Int × Tok)} {p : Int → Prop} (h : ∀ i, i < xs.size → p (numAt xs i)) : ∀ y ∈ xs.toList.map Prod.fst, p y := fun y m => by
  obtain ⟨i, hi, rfl⟩ := mem_getD m
  have := h i (by simpa using hi)
  rwa [numAt_eq] at this
end PySem
namespace L2
open PySem PySem.Spec PyProof.Rows
section
variable {X : Cx}
def rSumT (K : PySem.W.Frag) : List V → Hp → VK → Prop := fun vs H Q => ∃ (a : Addr) (ns : List Int), vs = [V.ref a] ∧ SqT K H a (ns.map V.int) ∧ Q (.int ns.sum) H
def rMinT (K : PySem.W.Frag) : List V → Hp → VK → Prop := fun vs H Q => ∃ (a : Addr) (ns : List Int), vs = [V.ref a] ∧ SqT K H a (ns.map V.int) ∧ 0 < ns.length ∧ ∀ m, m ∈ ns → (∀ y, y ∈ ns → m ≤ y) → Q (.int m) H
def rMaxT (K : PySem.W.Frag) : List V → Hp → VK → Prop := fun vs H Q => ∃ (a : Addr) (ns : List Int), vs = [V.ref a] ∧ SqT K H a (ns.map V.int) ∧ 0 < ns.length ∧ ∀ m, m ∈ ns → (∀ y, y ∈ ns → y ≤ m) → Q (.int m) H
theorem numbersOf {pins : List (Addr × Obj)} {σ : L2.St} {H : Hp} {s : Shared} {a : Addr} {ns : List Int} (I : Inv X pins σ H s) (isT : SqT X.K H a (ns.map V.int)) : ∃ xs : Array (Int × Tok), s.heap.IsTuple a (intItems xs) ∧ xs.toList.map Prod.fst = ns := by
  have ⟨vs, rel, here, _⟩ := I.tuple isT
  have ⟨xs, same⟩ := rel.ints.allInts.items
  rw [same] at here
  exact ⟨xs, here, by rw [← nums_intItems, ← same]; exact rel.ints.numsOf⟩
theorem cr_sumT (hc : X.calm = true) : CallR X (.builtin "sum") (rSumT X.K) := fun pins s σ H _ _ Q I rel ⟨a, ns, e, isT, q⟩ => by
  subst e
  rw [Vals.ref1 rel]
  obtain ⟨xs, here, rfl⟩ := numbersOf I isT
  refine call_sum_walkG (vf_iterT here fun s2 e st fp more => ?_)
  subst e
  refine ⟨_, _, _, _, _, _, numAt xs, rfl, Walks.tuple (A := X.A.in1) (I.ok.hd hc) _ a more (intItems xs), st, fp, (fun _ _ => intItems_at), fun h' tk t' old => ?_⟩
  refine ⟨.int _, H, I.kept (vf_old old), ⟨_, rfl⟩, ?_⟩
  rw [show (intItems xs).size = xs.size by simp [intItems], preSum_eq, List.take_of_length_le (by simp)]
  exact q
theorem cr_minT (hc : X.calm = true) : CallR X (.builtin "min") (rMinT X.K) := fun pins s σ H _ _ Q I rel ⟨a, ns, e, isT, some_, best⟩ => by
  subst e
  rw [Vals.ref1 rel]
  obtain ⟨xs, here, rfl⟩ := numbersOf I isT
  have size : 0 < xs.size := by simpa using some_
  refine call_min_walk (vf_iterT here fun s2 e st fp more => ?_)
  subst e
  refine ⟨_, _, _, _, _, _, _, rfl, Walks.tuple (A := X.A.in1) (I.ok.hd hc) _ a more (intItems xs), st, fp, by simpa [intItems] using size, CmpOf.ints_lt (numAt xs) (fun _ _ => intItems_at), fun v h' tk it old => ?_⟩
  obtain ⟨t, rfl⟩ := intItems_at it
  rw [show (intItems xs).size = xs.size by simp [intItems]]
  have ⟨low, all⟩ := argBest_lt (numAt xs) (xs.size - 1)
  exact ⟨.int _, H, I.kept (vf_old old), ⟨_, rfl⟩, best _ (numbers_at (by omega)) (numbers_all fun j _ => all j (by omega))⟩
theorem cr_maxT (hc : X.calm = true) : CallR X (.builtin "max") (rMaxT X.K) := fun pins s σ H _ _ Q I rel ⟨a, ns, e, isT, some_, best⟩ => by
  subst e
  rw [Vals.ref1 rel]
  obtain ⟨xs, here, rfl⟩ := numbersOf I isT
  have size : 0 < xs.size := by simpa using some_
  refine call_max_walk (vf_iterT here fun s2 e st fp more => ?_)
  subst e
  refine ⟨_, _, _, _, _, _, _, rfl, Walks.tuple (A := X.A.in1) (I.ok.hd hc) _ a more (intItems xs), st, fp, by simpa [intItems] using size, CmpOf.ints_gt (numAt xs) (fun _ _ => intItems_at), fun v h' tk it old => ?_⟩
  obtain ⟨t, rfl⟩ := intItems_at it
  rw [show (intItems xs).size = xs.size by simp [intItems]]
  have ⟨low, all⟩ := argBest_gt (numAt xs) (xs.size - 1)
  exact ⟨.int _, H, I.kept (vf_old old), ⟨_, rfl⟩, best _ (numbers_at (by omega)) (numbers_all fun j _ => all j (by omega))⟩
end
end L2
/-! ### heaps -/
namespace Vf
open PySem PySem.Spec PyProof.Rows L2
/-- all but the objects at S stand as they stood; tuples and locked things always do -/
structure Kp (S : Addr → Prop) (H H' : Hp) : Prop where
  keep : ∀ p o, ¬ S p → H p = some o → H' p = some o
  tup : ∀ p xs, H p = some (.tup xs) → H' p = some (.tup xs)
  frz : ∀ p o u, H p = some (.frz o u) → H' p = some (.frz o u)
  live : ∀ p, H' p = none → H p = none
abbrev N0 : Addr → Prop := fun _ => False
abbrev At (a : Addr) : Addr → Prop := fun p => p = a
section
variable {S S' : Addr → Prop} {H H1 H2 H' : Hp} {p l : Addr} {o : HO} {K : PySem.W.Frag} {xs ys : List V}
theorem Kp.refl (S : Addr → Prop) (H : Hp) : Kp S H H := ⟨fun _ _ _ h => h, fun _ _ h => h, fun _ _ _ h => h, fun _ h => h⟩
theorem Kp.trans (a : Kp S H H1) (b : Kp S H1 H2) : Kp S H H2 := ⟨fun p o n h => b.keep p o n (a.keep p o n h), fun p xs h => b.tup p xs (a.tup p xs h), fun p o u h => b.frz p o u (a.frz p o u h), fun p h => a.live p (b.live p h)⟩
theorem Kp.mono (a : Kp S H H1) (h : ∀ p, S p → S' p) : Kp S' H H1 := ⟨fun p o n => a.keep p o fun z => n (h p z), a.tup, a.frz, a.live⟩
theorem Kp.up (a : Kp N0 H H1) : Kp S H H1 := a.mono fun _ z => z.elim
theorem Kp.same (a : Kp N0 H H1) : Same H H1 := fun p o h => a.keep p o (fun z => z) h
theorem Kp.of_same (a : Same H H1) : Kp S H H1 := ⟨fun p o _ h => a p o h, fun p _ h => a p _ h, fun p _ _ h => a p _ h, fun _ h => a.free h⟩
theorem same_new (h : H p = none) : Same H (upd H p o) := fun b x e => by
  rw [upd_ne (ne_of_none e h)]
  exact e
theorem Kp.new (h : H p = none) : Kp S H (upd H p o) := .of_same (same_new h)
theorem Kp.sqT (a : Kp S H H1) (h : SqT K H p xs) : SqT K H1 p xs := by
  rcases h with (h | ⟨o, h⟩) | h
  · exact .inl (.inl (a.tup _ _ h))
  · exact .inl (.inr ⟨o, a.frz _ _ _ h⟩)
  · exact .inr h
/-- a list that stood before and may change -/
theorem Kp.mut (hs : S l) (h : H l = some (.lst xs)) : Kp S H (upd H l (.lst ys)) := by
  have hl : ∀ b u, H b = some u → (∀ zs, u ≠ .lst zs) → b ≠ l := fun b u e n z => by
    rw [z, h] at e
    exact n xs (Option.some.inj e).symm
  refine ⟨fun b u n e => ?_, fun b zs e => ?_, fun b u z e => ?_, fun b e => ?_⟩
  · rw [upd_ne (fun z => n (by rw [z]; exact hs))]
    exact e
  · rw [upd_ne (hl b _ e fun _ z => by cases z)]
    exact e
  · rw [upd_ne (hl b _ e fun _ z => by cases z)]
    exact e
  · by_cases z : b = l
    · rw [z, upd_same] at e
      cases e
    · rw [upd_ne z] at e
      exact e
/-- an object that H did not know may change -/
theorem Kp.mut0 (h0 : H l = none) (k : Kp S H H1) : Kp S H (upd H1 l o) := by
  have hl : ∀ b u, H b = some u → b ≠ l := fun b u e => ne_of_none e h0
  refine ⟨fun b u n e => ?_, fun b zs e => ?_, fun b u z e => ?_, fun b e => ?_⟩
  · rw [upd_ne (hl b _ e)]
    exact k.keep _ _ n e
  · rw [upd_ne (hl b _ e)]
    exact k.tup _ _ e
  · rw [upd_ne (hl b _ e)]
    exact k.frz _ _ _ e
  · by_cases z : b = l
    · rw [z, upd_same] at e
      cases e
    · rw [upd_ne z] at e
      exact k.live _ e
/-- the dice at a: a list of three ints -/
def Dc (a : Addr) (H : Hp) : Prop := ∃ l m c : Int, H a = some (.lst [.int l, .int m, .int c])
theorem Dc.kp (d : Dc a H) (k : Kp N0 H H') : Dc a H' := by
  obtain ⟨l, m, c, h⟩ := d
  exact ⟨l, m, c, k.keep _ _ (fun z => z) h⟩
theorem Dc.upd_ne (d : Dc a H) (h : a ≠ p) : Dc a (upd H p o) := by
  obtain ⟨l, m, c, e⟩ := d
  exact ⟨l, m, c, by rw [L2.upd_ne h]; exact e⟩
theorem Dc.ne (d : Dc a H) (h : H p = none) : a ≠ p := by
  obtain ⟨l, m, c, e⟩ := d
  exact ne_of_none e h
/-- .. changes alone -/
structure DR (a : Addr) (H H' : Hp) : Prop where
  kp : Kp (At a) H H'
  dc : Dc a H'
theorem DR.refl (d : Dc a H) : DR a H H := ⟨.refl _ _, d⟩
theorem DR.trans (x : DR a H H1) (y : DR a H1 H2) : DR a H H2 := ⟨x.kp.trans y.kp, y.dc⟩
theorem DR.of (d : Dc a H) (k : Kp N0 H H1) : DR a H H1 := ⟨k.up, d.kp k⟩
theorem DR.sqT (x : DR a H H1) (h : SqT K H p xs) : SqT K H1 p xs := x.kp.sqT h
theorem DR.lst (x : DR a H H1) (n : p ≠ a) (h : H p = some (.lst xs)) : H1 p = some (.lst xs) := x.kp.keep _ _ n h
theorem rd_new {Q : VK} (h : ∀ p H1, H p = none → Kp N0 H H1 → H1 p = some o → Q (.ref p) H1) : ∀ p, H p = none → Q (.ref p) (upd H p o) := fun p hp => h p _ hp (.new hp) upd_same
end

/-! ### comprehensions -/
section
variable {J : It} {n : Nat} {Gw : Hp → Prop} {Y : Nat → Hp → V → Hp → Prop} {S : Addr → Prop} {g : TG} {tt : TT} {te : TE} {vs : List Nat} {σ : L2.St} {H1 : Hp} {Qd : Addr → Hp → Prop}
/-- G: what stands all the while (beside what Kp says); P: what is said of the i-th item -/
theorem lc_gen (w : Walk J n Gw Y) (G : Hp → Prop) (P : Nat → V → Hp → Prop) (hn : n < sizeLine)
    (hG : G H1) (hGn : ∀ H D o, H1 D = none → G H → G (upd H D o)) (hw : ∀ H, Kp S H1 H → G H → Gw H)
    (hP : ∀ i y H H', P i y H → Kp S H H' → P i y H') (hPn : ∀ i y H D zs zs', H1 D = none → H D = some (.lst zs) → P i y H → P i y (upd H D (.lst zs')))
    (hD : ∀ D, H1 D = none → ¬ S D)
    (turn : ∀ i x H H', i < n → Kp S H1 H → G H → Y i H x H' → ∀ R : VK, (∀ y H4, Kp S H H4 → G H4 → P i y H4 → R y H4) → g x (wipe σ vs) H' fun σ2 H2 => wipe σ2 vs = wipe σ vs ∧ te σ2 H2 R)
    (fin : ∀ D H' ys, H1 D = none → Kp S H1 H' → G H' → H' D = some (.lst ys) → ys.length = n → (∀ i y, ys[i]? = some y → P i y H') → Qd D H') :
    ∀ D, H1 D = none → ∃ W : Nat → Nat → Hp → Prop, (∃ m, W 0 m (upd H1 D (.lst []))) ∧ ∀ i m H, W i m H →
      (J.stop i H ∧ Qd D H) ∨ (J.go i H ∧ ∃ Nx : Hp → Prop, (∀ H', Nx H' → ∃ m', m' < m ∧ W (i + 1) m' H') ∧ ∀ x H', J.yld i H x H' → g x (wipe σ vs) H' fun σ2 H2 => wipe σ2 vs = wipe σ vs ∧ tYes σ2 H2 fun b H3 =>
        if b = true then te σ2 H3 fun y H4 => ∃ acc, H4 D = some (.lst acc) ∧ acc.length < sizeLine ∧ Nx (upd H4 D (.lst (acc ++ [y]))) else Nx H3) := by
  intro D hDn
  refine ⟨fun i m H => m = n - i ∧ i ≤ n ∧ Kp S H1 H ∧ G H ∧ ∃ ys, H D = some (.lst ys) ∧ ys.length = i ∧ ∀ j y, ys[j]? = some y → P j y H, ⟨n, by simp, Nat.zero_le _, .new hDn, hGn _ _ _ hDn hG, [], upd_same, rfl, fun j y h => by simp at h⟩, ?_⟩
  rintro i m H ⟨rfl, hi, k, g0, ys, hy, hl, hp⟩
  have q := hw H k g0
  by_cases hlt : i < n
  · refine .inr ⟨w.goes i H hlt q, fun H' => Kp S H1 H' ∧ G H' ∧ ∃ ys, H' D = some (.lst ys) ∧ ys.length = i + 1 ∧ ∀ j y, ys[j]? = some y → P j y H', fun H' p' => ⟨n - (i + 1), by omega, rfl, hlt, p'⟩, fun x H' y => ?_⟩
    exact turn i x H H' hlt k g0 (w.yields i H x H' hlt q y) _ fun z H4 k4 g4 p4 => by
      have hd4 : H4 D = some (.lst ys) := k4.keep _ _ (hD D hDn) hy
      refine ⟨ys, hd4, by omega, .mut0 hDn (k.trans k4), hGn _ _ _ hDn g4, ys ++ [z], upd_same, by simp [hl], fun j u hu => ?_⟩
      by_cases hj : j < ys.length
      · rw [List.getElem?_append_left hj] at hu
        exact hPn _ _ _ _ _ _ hDn hd4 (hP _ _ _ _ (hp j u hu) k4)
      · rw [List.getElem?_append_right (by omega)] at hu
        have e : j = i := by
          have : j - ys.length < [z].length := (List.getElem?_eq_some_iff.mp hu).1
          simp at this
          omega
        subst e
        rw [hl, Nat.sub_self] at hu
        have e2 : z = u := Option.some.inj hu
        subst e2
        exact hPn _ _ _ _ _ _ hDn hd4 p4
  · have e : i = n := by omega
    subst e
    exact .inl ⟨w.stops H q, fin D H ys hDn k g0 hy hl hp⟩
end
end Vf
/-! ### single readings -/
namespace Vf
open PySem PySem.Spec PyProof.Rows L2
section
variable {S : Addr → Prop} {H H1 : Hp} {a b p l : Addr} {K : PySem.W.Frag} {xs ys : List V} {Q : VK} {lo hi : Option Int} {v : V} {i : Int}
theorem sl_do (h : H a = some (.tup xs)) (q : ∀ p H1, Kp N0 H H1 → H1 p = some (.tup (cutV xs lo hi)) → Q (.ref p) H1) : rSlA K (.ref a) lo hi H Q := by
  refine ⟨a, xs, rfl, SqT.of h, fun w => q a H (.refl _ _) ?_, fun _ => rd_new fun p H1 _ e h1 => q p H1 e h1⟩
  rw [h]
  unfold cutV
  rw [w.1, w.2]
  simp
theorem sl_from {σ : L2.St} (h : H a = some (.tup xs)) (q : ∀ p H1, Kp N0 H H1 → H1 p = some (.tup (cutV xs lo none)) → Q (.ref p) H1) : tNoPart σ H fun u H2 => rSlA K (.ref a) lo u H2 Q := sl_do h q
theorem cat_do (h : H a = some (.tup xs)) (h2 : H b = some (.tup ys)) (hz : xs.length + ys.length ≤ sizeLine) (q : ∀ p H1, Kp N0 H H1 → H1 p = some (.tup (xs ++ ys)) → Q (.ref p) H1) : rCatA K (.ref a) (.ref b) H Q := by
  refine ⟨a, b, xs, ys, rfl, rfl, SqT.of h, SqT.of h2, hz, fun w => q b H (.refl _ _) ?_, fun _ w => q a H (.refl _ _) ?_, fun _ _ => rd_new fun p H1 _ e h1 => q p H1 e h1⟩
  · rw [h2, w]; rfl
  · rw [h, w]; simp
theorem ixT_do (h : H a = some (.tup xs)) (hv : atI xs i = some v) (q : Q v H) : rIxT K (.ref a) (.int i) H Q := ⟨a, xs, i, v, rfl, rfl, SqT.of h, hv, q⟩
theorem ixL_do (h : SqL K H a xs) (hv : atI xs i = some v) (q : Q v H) : rIxL K (.ref a) (.int i) H Q := ⟨a, xs, i, v, rfl, rfl, h, hv, q⟩
theorem at_row {ns : List Int} {j : Nat} (h : j < ns.length) : atI (ns.map V.int) (j : Int) = some (.int (ns.getD j 0)) := by
  refine atI_nat ?_
  rw [List.getElem?_map, List.getElem?_eq_getElem h, List.getD_eq_getElem?_getD, List.getElem?_eq_getElem h]
  rfl
theorem at_row0 {ns : List Int} (h : 0 < ns.length) : atI (ns.map V.int) 0 = some (.int (ns.getD 0 0)) := at_row (j := 0) h
theorem cut_from {xs : List V} {k : Nat} : cutV xs (some (k : Int)) none = xs.drop k := by
  unfold cutV
  rw [HT.sIx_nat, HT.sIx_none]
  by_cases h : k ≤ xs.length
  · rw [Nat.min_eq_left h, ← List.length_drop, List.take_length]
  · rw [Nat.min_eq_right (by omega), List.drop_eq_nil_of_le (by omega : xs.length ≤ xs.length), List.drop_eq_nil_of_le (by omega)]
    simp
theorem cut_to {xs : List V} {k : Nat} : cutV xs none (some (k : Int)) = xs.take k := by
  unfold cutV
  rw [HT.sIx_nat, HT.sIx_none]
  show List.take (min k xs.length - 0) (xs.drop 0) = xs.take k
  rw [Nat.sub_zero, List.drop_zero]
  by_cases h : k ≤ xs.length
  · rw [Nat.min_eq_left h]
  · rw [Nat.min_eq_right (by omega), List.take_length, List.take_of_length_le (by omega)]
theorem cut_1 {ns : List Int} : cutV (ns.map V.int) (some 1) none = (ns.drop 1).map V.int := by
  rw [show (some (1 : Int)) = some ((1 : Nat) : Int) from rfl, cut_from, List.map_drop]
theorem tyT (h : H a = some (.tup xs)) : TyX K H (.ref a) (.type "tuple") := .base (.tup h)
end

/-! ### comprehensions of ints -/
section
variable {J : It} {n : Nat} {Gw : Hp → Prop} {Y : Nat → Hp → V → Hp → Prop} {S : Addr → Prop} {g : TG} {tt : TT} {te : TE} {vs : List Nat} {σ : L2.St} {H1 : Hp} {Qd : Addr → Hp → Prop}
theorem ints_of {ys : List V} {p : Int → Prop} : (∀ (i : Nat) (y : V), ys[i]? = some y → ∃ z, y = .int z ∧ p z) → ∃ zs : List Int, ys = zs.map V.int ∧ ∀ z ∈ zs, p z := by
  induction ys with
  | nil => exact fun _ => ⟨[], rfl, fun _ h => by simp at h⟩
  | cons y r ih =>
    intro h
    obtain ⟨zs, e, hz⟩ := ih fun i u hu => h (i + 1) u (by simpa using hu)
    obtain ⟨z, ez, pz⟩ := h 0 y (by simp)
    refine ⟨z :: zs, by rw [e, ez]; rfl, fun u hu => ?_⟩
    rcases List.mem_cons.mp hu with rfl | hu
    · exact pz
    · exact hz u hu
theorem ext_of {ys : List V} {n : Nat} {f : Nat → V} (hl : ys.length = n) (h : ∀ (i : Nat) (y : V), ys[i]? = some y → y = f i) : ys = (List.range n).map f := by
  refine List.ext_getElem (by simp [hl]) fun i h1 h2 => ?_
  rw [h i ys[i] (by simp [h1])]
  simp
/-- pure: the items are ints that are told by their place -/
theorem lc_ints (w : Walk J n Gw Y) (f : Nat → Int) (hn : n ≤ 100000) (hw : ∀ H, Kp N0 H1 H → Gw H)
    (turn : ∀ i x H H', i < n → Kp N0 H1 H → Y i H x H' → ∀ R : VK, (∀ H4, Kp N0 H H4 → R (.int (f i)) H4) → g x (wipe σ vs) H' fun σ2 H2 => wipe σ2 vs = wipe σ vs ∧ te σ2 H2 R)
    (fin : ∀ D H', Kp N0 H1 H' → H' D = some (.lst (((List.range n).map f).map V.int)) → Qd D H') :
    ∀ D, H1 D = none → ∃ W : Nat → Nat → Hp → Prop, (∃ m, W 0 m (upd H1 D (.lst []))) ∧ ∀ i m H, W i m H →
      (J.stop i H ∧ Qd D H) ∨ (J.go i H ∧ ∃ Nx : Hp → Prop, (∀ H', Nx H' → ∃ m', m' < m ∧ W (i + 1) m' H') ∧ ∀ x H', J.yld i H x H' → g x (wipe σ vs) H' fun σ2 H2 => wipe σ2 vs = wipe σ vs ∧ tYes σ2 H2 fun b H3 =>
        if b = true then te σ2 H3 fun y H4 => ∃ acc, H4 D = some (.lst acc) ∧ acc.length < sizeLine ∧ Nx (upd H4 D (.lst (acc ++ [y]))) else Nx H3) :=
  lc_gen (S := N0) w (fun _ => True) (fun i y _ => y = .int (f i)) (Nat.lt_of_le_of_lt hn (by decide)) trivial (fun _ _ _ _ _ => trivial) (fun H k _ => hw H k) (fun _ _ _ _ h _ => h) (fun _ _ _ _ _ _ _ _ h => h) (fun _ _ z => z)
    (fun i x H H' hi k _ y R hR => turn i x H H' hi k y R fun H4 k4 => hR _ _ k4 trivial rfl)
    (fun D H' ys _ k _ hy hl hp => fin D H' k (by rw [hy, ext_of hl hp, List.map_map]; rfl))
/-- pure: the items are bools -/
theorem lc_bools (w : Walk J n Gw Y) (f : Nat → Bool) (hn : n ≤ 100000) (hw : ∀ H, Kp N0 H1 H → Gw H)
    (turn : ∀ i x H H', i < n → Kp N0 H1 H → Y i H x H' → ∀ R : VK, (∀ H4, Kp N0 H H4 → R (.bl (f i)) H4) → g x (wipe σ vs) H' fun σ2 H2 => wipe σ2 vs = wipe σ vs ∧ te σ2 H2 R)
    (fin : ∀ D H', Kp N0 H1 H' → H' D = some (.lst (((List.range n).map f).map V.bl)) → Qd D H') :
    ∀ D, H1 D = none → ∃ W : Nat → Nat → Hp → Prop, (∃ m, W 0 m (upd H1 D (.lst []))) ∧ ∀ i m H, W i m H →
      (J.stop i H ∧ Qd D H) ∨ (J.go i H ∧ ∃ Nx : Hp → Prop, (∀ H', Nx H' → ∃ m', m' < m ∧ W (i + 1) m' H') ∧ ∀ x H', J.yld i H x H' → g x (wipe σ vs) H' fun σ2 H2 => wipe σ2 vs = wipe σ vs ∧ tYes σ2 H2 fun b H3 =>
        if b = true then te σ2 H3 fun y H4 => ∃ acc, H4 D = some (.lst acc) ∧ acc.length < sizeLine ∧ Nx (upd H4 D (.lst (acc ++ [y]))) else Nx H3) :=
  lc_gen (S := N0) w (fun _ => True) (fun i y _ => y = .bl (f i)) (Nat.lt_of_le_of_lt hn (by decide)) trivial (fun _ _ _ _ _ => trivial) (fun H k _ => hw H k) (fun _ _ _ _ h _ => h) (fun _ _ _ _ _ _ _ _ h => h) (fun _ _ z => z)
    (fun i x H H' hi k _ y R hR => turn i x H H' hi k y R fun H4 k4 => hR _ _ k4 trivial rfl)
    (fun D H' ys _ k _ hy hl hp => fin D H' k (by rw [hy, ext_of hl hp, List.map_map]; rfl))
/-- with the dice at a: the items are ints of which p holds -/
theorem lc_draws {a : Addr} (w : Walk J n Gw Y) (p : Int → Prop) (hn : n ≤ 100000) (hd : Dc a H1) (hw : ∀ H, DR a H1 H → Gw H)
    (turn : ∀ i x H H', i < n → DR a H1 H → Y i H x H' → ∀ R : VK, (∀ z H4, DR a H H4 → p z → R (.int z) H4) → g x (wipe σ vs) H' fun σ2 H2 => wipe σ2 vs = wipe σ vs ∧ te σ2 H2 R)
    (fin : ∀ D H' (zs : List Int), H1 D = none → DR a H1 H' → H' D = some (.lst (zs.map V.int)) → zs.length = n → (∀ z ∈ zs, p z) → Qd D H') :
    ∀ D, H1 D = none → ∃ W : Nat → Nat → Hp → Prop, (∃ m, W 0 m (upd H1 D (.lst []))) ∧ ∀ i m H, W i m H →
      (J.stop i H ∧ Qd D H) ∨ (J.go i H ∧ ∃ Nx : Hp → Prop, (∀ H', Nx H' → ∃ m', m' < m ∧ W (i + 1) m' H') ∧ ∀ x H', J.yld i H x H' → g x (wipe σ vs) H' fun σ2 H2 => wipe σ2 vs = wipe σ vs ∧ tYes σ2 H2 fun b H3 =>
        if b = true then te σ2 H3 fun y H4 => ∃ acc, H4 D = some (.lst acc) ∧ acc.length < sizeLine ∧ Nx (upd H4 D (.lst (acc ++ [y]))) else Nx H3) :=
  lc_gen (S := At a) w (Dc a) (fun _ y _ => ∃ z, y = .int z ∧ p z) (Nat.lt_of_le_of_lt hn (by decide)) hd (fun H D o h d => d.upd_ne (hd.ne h)) (fun H k d => hw H ⟨k, d⟩) (fun _ _ _ _ h _ => h) (fun _ _ _ _ _ _ _ _ h => h) (fun D h z => hd.ne h z.symm)
    (fun i x H H' hi k d y R hR => turn i x H H' hi ⟨k, d⟩ y R fun z H4 k4 pz => hR _ _ k4.kp k4.dc ⟨z, rfl, pz⟩)
    (fun D H' ys hDn k d hy hl hp => by
      obtain ⟨zs, e, hz⟩ := ints_of hp
      exact fin D H' zs hDn ⟨k, d⟩ (by rw [hy, e]) (by rw [← hl, e]; simp) hz)
/-- pure, with a test: the ints of the turns that the test lets -/
theorem lc_filt (w : Walk J n Gw Y) (t : Nat → Bool) (f : Nat → Int) (hn : n ≤ 100000) (hw : ∀ H, Kp N0 H1 H → Gw H)
    (turn : ∀ i x H H', i < n → Kp N0 H1 H → Y i H x H' →
      g x (wipe σ vs) H' fun σ2 H2 => wipe σ2 vs = wipe σ vs ∧ (∀ R : Bool → Hp → Prop, (∀ H3, Kp N0 H H3 → R (t i) H3) → tt σ2 H2 R) ∧ (t i = true → ∀ H3, Kp N0 H H3 → ∀ R : VK, (∀ H4, Kp N0 H H4 → R (.int (f i)) H4) → te σ2 H3 R))
    (gm : ∀ x σ H (A B : L2.St → Hp → Prop), (∀ σ H, A σ H → B σ H) → g x σ H A → g x σ H B)
    (fin : ∀ D H', Kp N0 H1 H' → H' D = some (.lst ((((List.range n).filter t).map f).map V.int)) → Qd D H') :
    ∀ D, H1 D = none → ∃ W : Nat → Nat → Hp → Prop, (∃ m, W 0 m (upd H1 D (.lst []))) ∧ ∀ i m H, W i m H →
      (J.stop i H ∧ Qd D H) ∨ (J.go i H ∧ ∃ Nx : Hp → Prop, (∀ H', Nx H' → ∃ m', m' < m ∧ W (i + 1) m' H') ∧ ∀ x H', J.yld i H x H' → g x (wipe σ vs) H' fun σ2 H2 => wipe σ2 vs = wipe σ vs ∧ tt σ2 H2 fun b H3 =>
        if b = true then te σ2 H3 fun y H4 => ∃ acc, H4 D = some (.lst acc) ∧ acc.length < sizeLine ∧ Nx (upd H4 D (.lst (acc ++ [y]))) else Nx H3) := by
  intro D hDn
  refine ⟨fun i m H => m = n - i ∧ i ≤ n ∧ Kp N0 H1 H ∧ H D = some (.lst ((((List.range i).filter t).map f).map V.int)), ⟨n, by simp, Nat.zero_le _, .new hDn, upd_same⟩, ?_⟩
  rintro i m H ⟨rfl, hi, k, hy⟩
  have q := hw H k
  by_cases hlt : i < n
  · refine .inr ⟨w.goes i H hlt q, fun H' => Kp N0 H1 H' ∧ H' D = some (.lst ((((List.range (i + 1)).filter t).map f).map V.int)), fun H' p' => ⟨n - (i + 1), by omega, rfl, hlt, p'⟩, fun x H' y => ?_⟩
    refine gm _ _ _ _ _ (fun σ2 H2 h => ⟨h.1, h.2.1 _ fun H3 k3 => ?_⟩) (turn i x H H' hlt k (w.yields i H x H' hlt q y))
    by_cases ht : t i = true
    · rw [ht, if_pos rfl]
      refine h.2.2 ht H3 k3 _ fun H4 k4 => ?_
      have h4 := k4.keep _ _ (fun z => z) hy
      refine ⟨_, h4, ?_, .mut0 hDn (k.trans k4), ?_⟩
      · rw [List.length_map, List.length_map]
        have := List.length_filter_le t (List.range i)
        rw [List.length_range] at this
        exact Nat.lt_of_le_of_lt (Nat.le_trans this (by omega : i ≤ 100000)) (by decide)
      · rw [upd_same, List.range_succ, List.filter_append, List.filter_cons, if_pos ht]
        simp
    · have e : t i = false := by cases h : t i with | true => exact absurd h ht | false => rfl
      rw [e, if_neg (by decide)]
      refine ⟨k.trans k3, ?_⟩
      rw [k3.keep _ _ (fun z => z) hy, List.range_succ, List.filter_append, List.filter_cons, if_neg ht]
      simp
  · have e : i = n := by omega
    subst e
    exact .inl ⟨w.stops H q, fin D H k hy⟩
theorem gm_name {i : Nat} : ∀ x σ H (A B : L2.St → Hp → Prop), (∀ σ H, A σ H → B σ H) → gName i x σ H A → gName i x σ H B := fun _ _ _ _ _ h q => h _ _ q
end
theorem range_getD {α : Type} (f : Int → α) (ns : List Int) : (List.range ns.length).map (fun i => f (ns.getD i 0)) = ns.map f := by
  refine List.ext_getElem (by simp) fun i h1 h2 => ?_
  simp at h2
  simp [List.getD_eq_getElem?_getD, h2]
theorem range_zip {α : Type} (f : Int → Int → α) (ns ms : List Int) (n : Nat) (h : n = min ns.length ms.length) : (List.range n).map (fun i => f (ns.getD i 0) (ms.getD i 0)) = List.zipWith f ns ms := by
  refine List.ext_getElem (by simp [h]) fun i h1 h2 => ?_
  have hn : i < n := by simpa using h1
  have h3 : i < ns.length := by omega
  have h4 : i < ms.length := by omega
  simp [List.getD_eq_getElem?_getD, h3, h4]
theorem filt_getD (t : Int → Bool) (f : Int → Int) (ns : List Int) : ((List.range ns.length).filter fun i => t (ns.getD i 0)).map (fun i => f (ns.getD i 0)) = (ns.filter t).map f := by
  have h := range_getD (fun x => x) ns
  rw [List.map_id'] at h
  conv => rhs; rw [← h]
  rw [List.filter_map, List.map_map]
  rfl
end Vf
/-! ### defs and the end -/
namespace Vf
open PySem PySem.Spec PyProof.Rows L2
/-- a def of the module, as it stands behind the top -/
def Df (K : PySem.W.Frag) (mg : Str → Option Value) (x : Str) (st : Stmt) (ps : List Str) : Prop :=
  ∃ f fd, C8.Def K mg x st f fd ∧ ∀ us : List Value, us.length = ps.length → bindArgs fd ⟨us, []⟩ = pure (ps.zip us)
theorem df_mk {K : PySem.W.Frag} {h : Heap} {mg : Str → Option Value} (X : K.In h) (G : h.Ns mainGlobals mg) {x : Str} {st : Stmt} {ps : List Str} {f : Addr} {od an : Option Addr} {sl : Array (Option Value)} {oc kV dc pm cd ct : Value}
    (a : PySem.W.nsIn K mainGlobals x = some (some (.ref f)))
    (l : K.lookup f = some ⟨oc, od, .func (PySem.W.fnOf x x (C8.fnArgs st) (C8.fnBody st) (C8.fnScope st) .none kV dc pm an cd ct), sl⟩) (c : PySem.W.codeIn K cd x = true) (k : PySem.W.keepIn K (.ref f) = true)
    (hb : ∀ (kV doc pm : Value) (an : Option Addr) (cdv ct : Value) (us : List Value), us.length = ps.length → bindArgs (PySem.W.fnOf x x (C8.fnArgs st) (C8.fnBody st) (C8.fnScope st) .none kV doc pm an cdv ct) ⟨us, []⟩ = pure (ps.zip us)) :
    Df K mg x st ps :=
  ⟨f, _, ⟨⟨oc, od, .none, kV, dc, pm, an, cd, ct, sl, rfl, l, c⟩, PySem.W.mg_of X G a, k⟩, hb _ _ _ _ _ _⟩
theorem const_mk {K : PySem.W.Frag} {h : Heap} {mg : Str → Option Value} (X : K.In h) (G : h.Ns mainGlobals mg) {x : Str} {i : Int} {t : Tok} (a : PySem.W.nsIn K mainGlobals x = some (some (.int i t))) : ∃ u, mg x = some u ∧ RelV (.int i) u :=
  ⟨_, PySem.W.mg_of X G a, t, rfl⟩
theorem law_ok {P : Program} {w : World} {K : PySem.W.Frag} {mg : Str → Option Value} {fa : Addr} {k : Nat} {x : Str} {st : Stmt} {sp : Sp} (hmg : mg "law" = some (.ref fa)) (d : Df K mg "law" st [x])
    (h : ∀ (base : Heap) (f : Addr) (fd : FuncData), C8.Def K mg "law" st f fd → FnOk P w K mg base CX0 k f fd [x] sp) :
    ∃ fd : FuncData, (∀ (s : Shared) (u : Value), BindsTo s fd ⟨[u], []⟩ [(x, u)]) ∧ ∀ base : Heap, K.In base → base.Ns mainGlobals mg → FnOk P w K mg base CX0 k fa fd [x] sp := by
  obtain ⟨f, fd, D, hb⟩ := d
  have e := hmg.symm.trans D.mgf
  cases e
  exact ⟨fd, fun s u => .of_eq (hb [u] rfl), fun base _ _ => h base _ _ D⟩
theorem walk_law {l : PySem.W.OpenLaw} {k : Nat} {q : Program} {loose : List Str} {XP : (Str → Option Value) → Heap → Prop} {YP : World → Heap → Prop} {d : DefRec} {K : Params → PySem.W.Frag} {sp : PySem.W.Frag → Sp} {x : Str}
    (hn : l.most = some 63) (hdf : d.params.defaults = []) (hY : ∀ (w : World) (h : Heap), YP w h → (K w.params).In h)
    (F : ∀ (w : World) (mg : Str → Option Value) (fa : Addr) (h : Heap), (K w.params).In h → h.Ns mainGlobals mg → mg d.name = some (.ref fa) →
      ∃ fd : FuncData, (∀ (s : Shared) (u : Value), BindsTo s fd ⟨[u], []⟩ [(x, u)]) ∧ ∀ base : Heap, (K w.params).In base → base.Ns mainGlobals mg → FnOk l.prog w (K w.params) mg base CX0 k fa fd [x] (sp (K w.params)))
    (hsp : ∀ (K : PySem.W.Frag) (H : Hp) (a : Addr) (ns : List Int), ns.length ≤ 63 → SqL K H a (ns.map V.int) → sp K [.ref a] H (fun v _ => v = .bl true) fun _ _ _ => False)
    (hr : Room k callerA := by exact ⟨rfl, by decide, by decide⟩) :
    PySem.W.WalkO q loose XP YP l.row.toRowW d [] (fun f vs => PySem.call f vs) :=
  L2.walk_ofK (n := 63) (k := k) (x := x) (CX := CX0) (sp := sp) hn (by decide) hdf hr hY F (fun K H a ns h1 _ h3 => hsp K H a ns h1 h3) fun _ _ _ _ z => z
end Vf
namespace Vf
open PySem PySem.Spec PyProof.Rows L2
theorem int_at {ns : List Int} {i : Nat} (hi : i < ns.length) : (ns.map V.int)[i]? = some (.int (ns.getD i 0)) := by
  rw [List.getElem?_map, List.getElem?_eq_getElem hi, List.getD_eq_getElem?_getD, List.getElem?_eq_getElem hi]
  rfl
theorem two_at {xs ys : List V} {i : Nat} (hi : i < min xs.length ys.length) : ∃ x y, xs[i]? = some x ∧ ys[i]? = some y :=
  ⟨_, _, List.getElem?_eq_getElem (Nat.lt_of_lt_of_le hi (Nat.min_le_left _ _)), List.getElem?_eq_getElem (Nat.lt_of_lt_of_le hi (Nat.min_le_right _ _))⟩
theorem walk_zipT {K : PySem.W.Frag} {a b : Addr} {xs ys : List V} {n : Nat} (hn : n = min xs.length ys.length) : Walk (RZ.ItzT K a b) n (fun H => SqT K H a xs ∧ SqT K H b ys) (YPair (fun i => xs[i]?) (fun i => ys[i]?)) :=
  ⟨fun i _ hi q => have ⟨x, y, hx, hy⟩ := two_at (hn ▸ hi); ⟨xs, ys, x, y, q.1, q.2, hx, hy⟩, fun _ q => ⟨xs, ys, q.1, q.2, by omega⟩,
    fun _ _ _ _ _ q ⟨T, x, z, h1, h2, h3, at1, at2⟩ => ⟨T, x, z, h1, h2, h3, at1 xs q.1, at2 ys q.2⟩⟩
end Vf
namespace Vf
open PySem L2
theorem mod_lt64 {x y : Int} (h : 0 < y ∧ y < 2 ^ 64) : (x % y).natAbs < 2 ^ 64 := by
  have h1 := Int.emod_nonneg x (show y ≠ 0 by omega)
  have h2 := Int.emod_lt_of_pos x h.1
  omega
theorem lp {j : Int} (h : (0 : Int) < j) : 0 < j := h
theorem b2i_lt {b : Bool} : (if b = true then (1 : Int) else 0).natAbs < 2 ^ 64 := by cases b <;> decide
theorem pow_pos_ : (0 : Int) < ((10 : Int) ^ (60 : Int).toNat) ^ (10 : Int).toNat := by decide +kernel
end Vf
namespace Vf
open PySem L2
theorem sz_ {n : Nat} (h : n ≤ 100000) : n ≤ sizeLine := Nat.le_trans h (by decide)
end Vf
/-! ### rules whose new object is told by a name, and rules over the written part K by name -/
namespace Vf
open PySem PySem.Spec PyProof.Rows L2
@[irreducible] def rNewT (xs : List V) (H : Hp) (Q : VK) : Prop := xs.length ≤ sizeLine ∧ ∀ p, H p = none → Q (.ref p) (upd H p (.tup xs))
@[irreducible] def rNewL (xs : List V) (H : Hp) (Q : VK) : Prop := xs.length ≤ sizeLine ∧ ∀ p, H p = none → Q (.ref p) (upd H p (.lst xs))
def tTupN (t : TA) : TE := fun σ H Q => t σ H fun xs H1 => rNewT xs H1 Q
def tLstN (t : TA) : TE := fun σ H Q => t σ H fun xs H1 => rNewL xs H1 Q
@[irreducible] def rRgL (a b : Int) (H : Hp) (Q : VK) : Prop := RgOk a b ∧ ∀ q, H q = none → Q (.ref q) (upd H q (.lst (rgV a b)))
def tLstRgN (te : L2.St → Hp → (Int → Int → Hp → Prop) → Prop) : TE := fun σ H Q => te σ H fun a b H1 => rRgL a b H1 Q
@[irreducible] def rTupOf (K : PySem.W.Frag) (xs : List V) (H : Hp) (Q : VK) : Prop := ∃ p ys, xs = [.ref p] ∧ ((SqL K H p ys ∧ ∀ l, H l = none → Q (.ref l) (upd H l (.tup ys))) ∨ (SqT K H p ys ∧ Q (.ref p) H))
@[irreducible] def rListOf (K : PySem.W.Frag) (xs : List V) (H : Hp) (Q : VK) : Prop := ∃ p ys, xs = [.ref p] ∧ (SqL K H p ys ∨ SqT K H p ys) ∧ ∀ l, H l = none → Q (.ref l) (upd H l (.lst ys))
@[irreducible] def rLen (K : PySem.W.Frag) (xs : List V) (H : Hp) (Q : VK) : Prop := ∃ p ys, xs = [.ref p] ∧ (SqL K H p ys ∨ SqT K H p ys) ∧ Q (.int ys.length) H
@[irreducible] def rSortI (K : PySem.W.Frag) : List V → Hp → VK → Prop := rSorted K
@[irreducible] def rSlI (K : PySem.W.Frag) : V → Option Int → Option Int → Hp → VK → Prop := rSlA K
@[irreducible] def rSlLI (K : PySem.W.Frag) : V → Option Int → Option Int → Hp → VK → Prop := rSlL K
@[irreducible] def rCatI (K : PySem.W.Frag) : R2 := rCatA K
@[irreducible] def rCatLI : R2 := rCat
@[irreducible] def rRepLI : R2 := rRep
@[irreducible] def rEqI (K : PySem.W.Frag) : R2 := rEqD K
@[irreducible] def rNeI (K : PySem.W.Frag) : R2 := rNeD K
section
variable {X : Cx} {K : PySem.W.Frag} {f : Value} {g : Value → Value → Sem Value}
theorem opK (r : PySem.W.Frag → R2) (h : OpR X g (r X.K)) (e : X.K = K := by rfl) : OpR X g (r K) := by rw [← e]; exact h
theorem callK (r : PySem.W.Frag → List V → Hp → VK → Prop) (h : CallR X f (r X.K)) (e : X.K = K := by rfl) : CallR X f (r K) := by rw [← e]; exact h
theorem ixK (r : PySem.W.Frag → R2) (h : IxR X (r X.K)) (e : X.K = K := by rfl) : IxR X (r K) := by rw [← e]; exact h
theorem slK (r : PySem.W.Frag → V → Option Int → Option Int → Hp → VK → Prop) (h : L2.SlR X (r X.K)) (e : X.K = K := by rfl) : L2.SlR X (r K) := by rw [← e]; exact h
theorem op_catI : OpR X (binaryOp .Add) (rCatI X.K) := by unfold rCatI; exact op_catA
theorem op_catLI : OpR X (binaryOp .Add) rCatLI := by unfold rCatLI; exact op_cat
theorem op_repLI : OpR X (binaryOp .Mult) rRepLI := by unfold rRepLI; exact op_rep
theorem op_eqI (hu : X.A.units + 64 < cLine) : OpR X (compareOp .Eq) (rEqI X.K) := by unfold rEqI; exact op_eqD hu
theorem op_neI (hu : X.A.units + 64 < cLine) : OpR X (compareOp .NotEq) (rNeI X.K) := by unfold rNeI; exact op_neD hu
theorem sl_tupI : L2.SlR X (rSlI X.K) := by unfold rSlI; exact sl_tupA
theorem sl_lstI : L2.SlR X (rSlLI X.K) := by unfold rSlLI; exact sl_list
theorem call_lenI : CallR X (.builtin "len") (rLen X.K) := by unfold rLen; exact call_len_seq
theorem call_tupI : CallR X (.type "tuple") (rTupOf X.K) := by unfold rTupOf; exact call_tuple_of
theorem call_lstI : CallR X (.type "list") (rListOf X.K) := by unfold rListOf; exact call_list_of
theorem call_srtI : CallR X (.builtin "sorted") (rSortI X.K) := by unfold rSortI; exact cr_sorted
variable {es : List Expr} {x1 : Nat} {pos p : Pos} {t : TA} {e : Expr} {te : L2.St → Hp → (Int → Int → Hp → Prop) → Prop}
theorem pe_tupN (h : PA X es t) : PE X (.Tuple es x1 pos) (tTupN t) := by
  unfold tTupN rNewT
  exact pe_tup h
theorem pe_lstN (h : PA X es t) : PE X (.List es pos) (tLstN t) := by
  unfold tLstN rNewL
  exact pe_lst h
theorem pe_listRgN (hc : X.calm = true) (hg : Gl X "list") (hm : X.mg "list" = none) (he : PRg X e te) (na : starEach [e] X.env = (false, eval e X.env) :: starEach [] X.env := by rfl) : PE X (.Call (.Name "list" p) [e] [] pos) (tLstRgN te) := by
  unfold tLstRgN rRgL
  exact pe_listRg hc hg hm he na
end
section
variable {H : Hp} {K : PySem.W.Frag} {us : List V} {Q : VK} {p : Addr} {ys : List V} {ns : List Int} {a b : Int} {lo hi : Option Int}
theorem newT (hl : us.length ≤ sizeLine) (q : ∀ p H1, H p = none → Kp N0 H H1 → H1 p = some (.tup us) → Q (.ref p) H1) : rNewT us H Q := by
  unfold rNewT
  exact ⟨hl, fun p hp => q p _ hp (.new hp) upd_same⟩
theorem newL (hl : us.length ≤ sizeLine) (q : ∀ p H1, H p = none → Kp N0 H H1 → H1 p = some (.lst us) → Q (.ref p) H1) : rNewL us H Q := by
  unfold rNewL
  exact ⟨hl, fun p hp => q p _ hp (.new hp) upd_same⟩
theorem rgL (hr : RgOk a b) (q : ∀ p H1, H p = none → Kp N0 H H1 → H1 p = some (.lst (rgV a b)) → Q (.ref p) H1) : rRgL a b H Q := by
  unfold rRgL
  exact ⟨hr, fun p hp => q p _ hp (.new hp) upd_same⟩
/-- tuple(xs) of a list; of a tuple -/
theorem tupL (e : us = [.ref p]) (h : SqL K H p ys) (q : ∀ p H1, H p = none → Kp N0 H H1 → H1 p = some (.tup ys) → Q (.ref p) H1) : rTupOf K us H Q := by
  unfold rTupOf
  exact ⟨p, ys, e, .inl ⟨h, fun l hl => q l _ hl (.new hl) upd_same⟩⟩
theorem tupT (e : us = [.ref p]) (h : H p = some (.tup ys)) (q : Q (.ref p) H) : rTupOf K us H Q := by
  unfold rTupOf
  exact ⟨p, ys, e, .inr ⟨SqT.of h, q⟩⟩
theorem listL (e : us = [.ref p]) (h : SqL K H p ys ∨ SqT K H p ys) (q : ∀ l H1, H l = none → Kp N0 H H1 → H1 l = some (.lst ys) → Q (.ref l) H1) : rListOf K us H Q := by
  unfold rListOf
  exact ⟨p, ys, e, h, fun l hl => q l _ hl (.new hl) upd_same⟩
theorem sortL (e : us = [.ref p]) (h : SqL K H p (ns.map V.int)) (hl : ns.length < 64) (q : ∀ (ns' : List Int) l H1, ns'.Perm ns → ns'.Pairwise (· ≤ ·) → H l = none → Kp N0 H H1 → H1 l = some (.lst (ns'.map V.int)) → Q (.ref l) H1) : rSortI K us H Q := by
  unfold rSortI
  exact ⟨p, ns, e, h, hl, fun ns' l h1 h2 h3 => q ns' l _ h1 h2 h3 (.new h3) upd_same⟩
theorem lenT (e : us = [.ref p]) (h : H p = some (.tup ys)) (q : Q (.int ys.length) H) : rLen K us H Q := by
  unfold rLen
  exact ⟨p, ys, e, .inr (SqT.of h), q⟩
theorem lenL (e : us = [.ref p]) (h : SqL K H p ys) (q : Q (.int ys.length) H) : rLen K us H Q := by
  unfold rLen
  exact ⟨p, ys, e, .inl h, q⟩
variable {xs zs : List V} {x y : Addr} {k : Int}
theorem catL (h : H x = some (.lst xs)) (h2 : H y = some (.lst zs)) (hz : xs.length + zs.length ≤ sizeLine) (q : ∀ p H1, H p = none → Kp N0 H H1 → H1 p = some (.lst (xs ++ zs)) → Q (.ref p) H1) : rCatLI (.ref x) (.ref y) H Q := by
  unfold rCatLI
  exact ⟨x, y, xs, zs, rfl, rfl, h, h2, hz, fun p hp => q p _ hp (.new hp) upd_same⟩
theorem catT (h : H x = some (.tup xs)) (h2 : H y = some (.tup zs)) (hz : xs.length + zs.length ≤ sizeLine) (q : ∀ p H1, Kp N0 H H1 → H1 p = some (.tup (xs ++ zs)) → Q (.ref p) H1) : rCatI K (.ref x) (.ref y) H Q := by
  unfold rCatI
  exact cat_do h h2 hz q
theorem slT (h : H x = some (.tup xs)) (q : ∀ p H1, Kp N0 H H1 → H1 p = some (.tup (cutV xs lo hi)) → Q (.ref p) H1) : rSlI K (.ref x) lo hi H Q := by
  unfold rSlI
  exact sl_do h q
theorem slL (h : SqL K H x xs) (q : ∀ p H1, H p = none → Kp N0 H H1 → H1 p = some (.lst (cutV xs lo hi)) → Q (.ref p) H1) : rSlLI K (.ref x) lo hi H Q := by
  unfold rSlLI
  exact ⟨x, xs, rfl, h, fun p hp => q p _ hp (.new hp) upd_same⟩
end
theorem at_rowI {ns : List Int} {j : Int} (h0 : 0 ≤ j) (h : j.toNat < ns.length) : atI (ns.map V.int) j = some (.int (ns.getD j.toNat 0)) := by
  have := at_row h
  rw [Int.toNat_of_nonneg h0] at this
  exact this
end Vf

namespace Vf
open PySem PySem.Spec PyProof.Rows L2
theorem kp_sqL {H H1 : Hp} {K : PySem.W.Frag} {a : Addr} {xs : List V} (k : Kp N0 H H1) (h : SqL K H a xs) : SqL K H1 a xs := k.same.seq h
/-- what a fresh dice did is not seen -/
theorem kp_fresh {H H1 H2 : Hp} {p : Addr} (hp : H p = none) (k : Kp N0 H H1) (d : DR p H1 H2) : Kp N0 H H2 :=
  ⟨fun b o _ h => d.kp.keep _ _ (ne_of_none h hp) (k.keep _ _ (fun z => z) h), fun b xs h => d.kp.tup _ _ (k.tup _ _ h), fun b o u h => d.kp.frz _ _ _ (k.frz _ _ _ h), fun b h => k.live _ (d.kp.live _ h)⟩
theorem law_end {sp : PySem.W.Frag → Sp} (h : ∀ (K : PySem.W.Frag) (a : Addr) (ns : List Int) (H : Hp) (Q : VK) (E : XK), SqL K H a (ns.map V.int) → (∀ H', Q (.bl true) H') → sp K [.ref a] H Q E) (K : PySem.W.Frag) (H : Hp) (a : Addr) (ns : List Int) (_ : ns.length ≤ 63) (h2 : SqL K H a (ns.map V.int)) : sp K [.ref a] H (fun v _ => v = .bl true) fun _ _ _ => False :=
  h K a ns H _ _ h2 fun _ => rfl
end Vf

namespace Vf
open PySem L2
theorem iteNe {x y : V} {A B : Prop} (h : x = y) (b : B) : if (!decide (x = y)) = true then A else B := by
  rw [decide_eq_true h]
  exact iteF b
theorem iteEq {x y : V} {A B : Prop} (h : x = y) (a : A) : if decide (x = y) = true then A else B := by
  rw [decide_eq_true h]
  exact iteT a
theorem finEq {x y : V} {Q : VK} {H : Hp} (h : x = y) (q : Q (.bl true) H) : Q (.bl (decide (x = y))) H := by
  rw [decide_eq_true h]
  exact q
end Vf

theorem Vf.let_ {α β : Prop} (a : α) (h : α → β) : β := h a
/-! ### zip of a list and a tuple -/
namespace Vf
open PySem PySem.Spec PyProof.Rows L2
def ItzLT (K : PySem.W.Frag) (a b : Addr) : It :=
  ⟨fun i H => ∃ (xs ys : List V) (x y : V), SqL K H a xs ∧ SqT K H b ys ∧ xs[i]? = some x ∧ ys[i]? = some y,
    fun i H v H' => ∃ T x y, v = .ref T ∧ H T = none ∧ H' = upd H T (.tup [x, y]) ∧ (∀ xs, SqL K H a xs → xs[i]? = some x) ∧ ∀ ys, SqT K H b ys → ys[i]? = some y,
    fun i H => ∃ xs ys : List V, SqL K H a xs ∧ SqT K H b ys ∧ i = min xs.length ys.length⟩
def lt_tn (z TI TO i1 i2 a b : Addr) (i : Nat) (h : Heap) : Prop := IsZip h z TI TO .none ∧ IsTupOf2 h TI (.ref i1) (.ref i2) ∧ (∃ a1 a2, IsTupOf2 h TO a1 a2) ∧ h.IsListIter i1 a i ∧ h.IsTupleIter i2 b i
theorem lt_goes {prog : Program} {w : World} {A : Around} {elts : List Expr} {kk : Nat} {tpos : Pos} (hh : A.handled = none) {N a b : Addr} {xs ys : Array Value} (ha : a < N) (hb : b < N) :
    GoesN prog w A (.Tuple elts kk tpos) (N + 4) ((N + 4) :: (N + 2) :: (N + 3) :: ([N, a] ++ [N + 1, b])) [N + 4, N + 3, N, N + 1] (min xs.size ys.size)
      (fun i h₀ v h => ∃ T x y, v = .ref T ∧ h₀.objs.size ≤ T ∧ xs[i]? = some x ∧ ys[i]? = some y ∧ h.IsTuple T #[x, y])
      (fun i h => IsZip h (N + 4) (N + 2) (N + 3) .none ∧ IsTupOf2 h (N + 2) (.ref N) (.ref (N + 1)) ∧ (∃ a1 a2, IsTupOf2 h (N + 3) a1 a2) ∧ (h.IsListIter N a i ∧ h.IsList a xs) ∧ (h.IsTupleIter (N + 1) b i ∧ h.IsTuple b ys)) :=
  GoesN.zip2 (zip_sep2 (fp1 := [a]) (fp2 := [b]) (by simpa using ha) (by simpa using hb)) (Draws.list (A := A.in1) hh N a (Nat.ne_of_lt ha) xs) (Draws.tuple (A := A.in1) hh (N + 1) b (Nat.ne_of_lt (Nat.lt_succ_of_lt hb)) ys)
theorem five_of {c N : Addr} (m : c ∈ [N + 4, N + 2, N + 3, N, N + 1]) : c = N + 4 ∨ c = N + 2 ∨ c = N + 3 ∨ c = N ∨ c = N + 1 := by simpa using m
theorem five_of_four {c N : Addr} (m : c ∈ [N + 4, N + 3, N, N + 1]) : c ∈ [N + 4, N + 2, N + 3, N, N + 1] := by
  have e : c = N + 4 ∨ c = N + 3 ∨ c = N ∨ c = N + 1 := by simpa using m
  rcases e with e | e | e | e <;> simp [e]
theorem both_cells {X : Cx} {pins : List (Addr × Obj)} {σ : L2.St} {H : Hp} {s : Shared} {a b : Addr} {xs ys : List V} (I : Inv X pins σ H s) (hl : SqL X.K H a xs) (ht : SqT X.K H b ys) :
    ∃ us vs : List Value, Vals xs us ∧ Vals ys vs ∧ s.heap.IsList a us.toArray ∧ s.heap.IsTuple b vs.toArray ∧ a < s.heap.objs.size ∧ b < s.heap.objs.size :=
  have ⟨us, ru, pu, _⟩ := I.list hl
  have ⟨vs, rv, pv, _⟩ := I.tuple ht
  ⟨us, vs, ru, rv, pu.isList, pv, pu.lt, PyProof.Rows.IsTup.lt pv⟩
theorem turn_zipLT {P : Program} {w : World} {K : PySem.W.Frag} {elts : List Expr} {kk : Nat} {tpos : Pos} {a b N : Addr} (ha : a < N) (hb : b < N) :
    Turn P w K (.Tuple elts kk tpos) (ItzLT K a b) [N + 4, N + 2, N + 3, N, N + 1] (N + 4) (lt_tn (N + 4) (N + 2) (N + 3) N (N + 1) a b) where
  mem := List.mem_cons_self
  obj := fun _ _ ⟨cz, cI, ⟨_, _, cO⟩, ⟨l, cl, _, dl⟩, t, ct, _, dt⟩ c m => by
    rcases five_of m with rfl | rfl | rfl | rfl | rfl
    · exact ⟨_, cz, nofun⟩
    · exact ⟨_, cI, nofun⟩
    · exact ⟨_, cO, nofun⟩
    · exact ⟨l, cl, fun v q => nomatch dl.symm.trans q⟩
    · exact ⟨t, ct, fun v q => nomatch dt.symm.trans q⟩
  keep := fun _ _ _ ⟨cz, cI, ⟨_, _, cO⟩, cl, ct⟩ k =>
    ⟨k _ (by simp) _ cz, k _ (by simp) _ cI, ⟨_, _, k _ (by simp) _ cO⟩, cl.at (k _ (by simp)), ct.at (k _ (by simp))⟩
  item := fun X eP ew eK calm i pins s σ H E I free ⟨cz, cI, cO, cl, ct⟩ ⟨xs, ys, x, y, hl, ht, hx, hy⟩ => by
    subst eP ew eK
    obtain ⟨us, vs, ru, rv, atL, atT, _⟩ := both_cells I hl ht
    obtain ⟨u, hu, rx⟩ := ru.get hx
    obtain ⟨v, hv, ry⟩ := rv.get hy
    have inside : i < min us.toArray.size vs.toArray.size := Nat.lt_min.mpr ⟨by simpa using (List.getElem?_eq_some_iff.mp hu).1, by simpa using (List.getElem?_eq_some_iff.mp hv).1⟩
    refine (lt_goes (prog := X.prog) (w := X.w) (elts := elts) (kk := kk) (tpos := tpos) (I.ok.hd calm) ha hb).goes i s _ E inside ⟨cz, cI, cO, ⟨cl, atL⟩, ct, atT⟩ ?_
    rintro _ h' tk ⟨T, u', v', rfl, above, p, q, pair⟩ after same _
    have eu : u' = u := Option.some.inj (p.symm.trans (by simpa using hu))
    have ev : v' = v := Option.some.inj (q.symm.trans (by simpa using hv))
    subst eu ev
    have ok : ObjOk X.prog X.w (upd H T (.tup [x, y])) h' T (.tup [x, y]) := ⟨(by decide : 2 ≤ sizeLine), [u', v'], .cons rx (.cons ry .nil), pair⟩
    refine ⟨.ref T, _, I.turnedNew (t' := tk) same (fun c m => free c (five_of_four m)) above ok, rfl, ⟨T, x, y, rfl, I.hok.fresh above, rfl, ?_, ?_⟩, ⟨after.1, after.2.1, after.2.2.1, after.2.2.2.1.1, after.2.2.2.2.1⟩, fun c m => ?_⟩
    · intro zs h
      rwa [I.list_inj h hl]
    · intro zs h
      rwa [I.tuple_inj h ht]
    · have old : c < s.heap.objs.size := by
        rcases five_of m with rfl | rfl | rfl | rfl | rfl
        · exact Heap.lt_size cz
        · exact Heap.lt_size cI
        · exact Heap.lt_size cO.choose_spec.choose_spec
        · exact Heap.lt_size cl.choose_spec.1
        · exact Heap.lt_size ct.choose_spec.1
      rw [upd_ne (Nat.ne_of_lt (Nat.lt_of_lt_of_le old above))]
      exact (free c m).1
  done := fun X eP ew eK calm i pins s σ H E I free ⟨cz, cI, cO, cl, ct⟩ ⟨xs, ys, hl, ht, last⟩ => by
    subst eP ew eK
    obtain ⟨us, vs, ru, rv, atL, atT, _⟩ := both_cells I hl ht
    have last : i = min us.toArray.size vs.toArray.size := by rw [last, ru.length, rv.length, List.size_toArray, List.size_toArray]
    subst last
    exact (lt_goes (prog := X.prog) (w := X.w) (elts := elts) (kk := kk) (tpos := tpos) (I.ok.hd calm) ha hb).stops s _ E ⟨cz, cI, cO, ⟨cl, atL⟩, ct, atT⟩ fun h' tk same _ =>
      I.turnedL (t' := tk) same fun c m => free c (five_of_four m)
  self := fun _ _ _ _ _ st h => wpAny_pyIter_zip st.1 h
def iZipLT (K : PySem.W.Frag) (ta : TA) : TI := fun σ H R => ta σ H fun vs H1 => ∃ a b xs ys, vs = [.ref a, .ref b] ∧ SqL K H1 a xs ∧ SqT K H1 b ys ∧ R (ItzLT K a b) H1
theorem pi_zipLT {X : Cx} {e e2 : Expr} {ta : TA} {p pos tpos : Pos} {elts : List Expr} {kk : Nat} (hg : Gl X "zip") (hm : X.mg "zip" = none) (ha : PA X [e, e2] ta)
    (plain : starEach [e, e2] X.env = (false, eval e X.env) :: starEach [e2] X.env ∧ (backTo pos (starEach [e2] X.env)).any (·.1) = false := by exact ⟨rfl, rfl⟩) :
    PI X (.Tuple elts kk tpos) (.Call (.Name "zip" p) [e, e2] [] pos) (iZipLT X.K ta) := by
  refine .mk fun pins s σ H R I h => ?_
  have given := ha.run pos pins s σ H _ I h
  refine Call_ (ld_blt I hg hm PyProof.Rows.boot_zip (PyProof.Rows.callWith_type1 (thn given ?_) plain.1 plain.2))
  rintro _ s1 ⟨_, H1, I1, rel, a, b, xs, ys, rfl, hl, ht, q⟩
  obtain ⟨u, v, rfl, eu, ev⟩ := vals2 rel
  obtain rfl : u = Value.ref a := eu
  obtain rfl : v = Value.ref b := ev
  obtain ⟨us, vs, _, _, atL, atT, lowL, lowT⟩ := both_cells I1 hl ht
  refine zip_begins2 (begins_list a us.toArray) (begins_tuple b vs.toArray) atL atT fun h' cz cI cO cl ct _ same => wpAny_pyIter_zip cz ?_
  refine ⟨_, _, _, _, H1, rfl, I1.kept (t' := s1.toks) same, turn_zipLT lowL lowT, ⟨cz, cI, ⟨_, _, cO⟩, ⟨_, cl, rfl, rfl⟩, _, ct, rfl, rfl⟩, fun c m => ?_, q⟩
  have above : s1.heap.objs.size ≤ c := by rcases five_of m with rfl | rfl | rfl | rfl | rfl <;> first | exact Nat.le_refl _ | exact Nat.le_add_right _ _
  exact I1.fpOk above (I1.hok.fresh above)
theorem walk_zipLT {K : PySem.W.Frag} {a b : Addr} {xs ys : List V} {n : Nat} (hn : n = min xs.length ys.length) : Walk (ItzLT K a b) n (fun H => SqL K H a xs ∧ SqT K H b ys) (YPair (fun i => xs[i]?) (fun i => ys[i]?)) :=
  ⟨fun i _ hi q => have ⟨x, y, hx, hy⟩ := two_at (hn ▸ hi); ⟨xs, ys, x, y, q.1, q.2, hx, hy⟩, fun _ q => ⟨xs, ys, q.1, q.2, hn⟩,
    fun _ _ _ _ _ q ⟨T, x, z, h1, h2, h3, at1, at2⟩ => ⟨T, x, z, h1, h2, h3, at1 xs q.1, at2 ys q.2⟩⟩
end Vf
/-! ### tuple * int, from 0 on -/
namespace Vf
open PySem PySem.Spec PyProof.Rows L2
open PySem.AutoSeq1 (wpAny_loadPart')
theorem tmul_one (l : Addr) (items : Array Value) (n : Nat) (dd : Option Addr) (sl : Array (Option Value)) (u : Tok) :
    Meets (Builtin.«tuple.__mul__» ⟨[.ref l, .int 1 u], []⟩) (fun _ R s => s.heap.get? l = some { cls := .type "tuple", dict := dd, data := .seq items n, slots := sl } ∧ R (.ok (.ret (Value.ref l))) s) :=
  .of_wp fun prog w A R s h => by
    obtain ⟨hp, g, d, tk, os⟩ := s
    obtain ⟨hl, h⟩ := h
    have f1 := AutoSeq1.idx_int
    wp_walk using wpAny_loadPart' hl
    exact ⟨_, rfl, h⟩
theorem tmul_zero (l : Addr) (items : Array Value) (n : Nat) (dd : Option Addr) (sl : Array (Option Value)) (u : Tok) (hi : items.isEmpty = false) :
    Meets (Builtin.«tuple.__mul__» ⟨[.ref l, .int 0 u], []⟩) (fun _ R s => s.heap.get? l = some { cls := .type "tuple", dict := dd, data := .seq items n, slots := sl } ∧
      R (.ok (.ret (Value.ref s.heap.objs.size))) { s with heap := s.heap.push { cls := Value.type "tuple", data := Data.seq #[] }, toks := s.toks }) :=
  .of_wp fun prog w A R s h => by
    obtain ⟨hp, g, d, tk, os⟩ := s
    obtain ⟨hl, h⟩ := h
    have f1 := AutoSeq1.idx_int
    wp_walk using wpAny_loadPart' hl
    exact ⟨_, rfl, h⟩
def rRepA0 (K : PySem.W.Frag) : R2 := fun x y H Q => ∃ l k xs, x = .ref l ∧ y = .int k ∧ SqT K H l xs ∧ xs ≠ [] ∧ 0 ≤ k ∧ k ≤ 1000 ∧ xs.length ≤ 1000 ∧ (k = 1 → Q (.ref l) H) ∧ (k ≠ 1 → ∀ p, H p = none → Q (.ref p) (upd H p (.tup (List.replicate k.toNat xs).flatten)))
theorem op_repA0 {X : Cx} : OpR X (binaryOp .Mult) (rRepA0 X.K) := by
  intro pins s σ H x y v u Q I rx ry h
  obtain ⟨l, k, xs, rfl, rfl, hT, hne, h1, h2, hz, q1, q2⟩ := h
  by_cases hk : 2 ≤ k
  · exact op_repT pins s σ H _ _ v u Q I rx ry ⟨l, k, xs, rfl, rfl, hT, hne, hk, h2, hz, q2 (by omega)⟩
  · cases rx
    obtain ⟨t, rfl⟩ := ry
    obtain ⟨its, r, ⟨⟨cls, dd, data, sl⟩, ho, hc, n, hd⟩, hs⟩ := I.tuple hT
    simp only at hc hd
    subst hc hd
    rcases (show k = 0 ∨ k = 1 by omega) with rfl | rfl
    · have hi : its.toArray.isEmpty = false := by
        cases its with
        | nil =>
          cases r
          exact absurd rfl hne
        | cons _ _ => rfl
      refine wpAny_binaryOp_repeat_ref (T := "tuple") (U := "int") (by decide) ⟨_, ho, rfl⟩ (fun s' => typeIs_int s' 0 t) noFill_tuple_mul F.fills_int_mul F.slot_int_rmul repeat_tuple F.slot_int_index.lookup
        (call_meets F.slot_int_rmul (typeIs_int s 0 t) F.entry_int_rmul (F.args_int_rmul_2 _ _) (int_rmul_tuple 0 t l its.toArray n dd sl)
          ⟨ho, rfl, ⟨_, ho, rfl⟩, call_meets F.slot_tuple_mul ⟨_, ho, rfl⟩ F.entry_tuple_mul (F.args_tuple_mul_2 _ _) (tmul_zero l its.toArray n dd sl t hi) ⟨ho, ?_⟩⟩)
      exact ⟨.ref s.heap.objs.size, _, I.laid (t' := s.toks) (o := .tup []) (fun b ob q => Heap.get?_push_of_some _ q) (Nat.le_refl _) ⟨Nat.zero_le _, [], .nil, IsTup.new _ _⟩, rfl, q2 (by decide) _ (I.hok.fresh (Nat.le_refl _))⟩
    · refine wpAny_binaryOp_repeat_ref (T := "tuple") (U := "int") (by decide) ⟨_, ho, rfl⟩ (fun s' => typeIs_int s' 1 t) noFill_tuple_mul F.fills_int_mul F.slot_int_rmul repeat_tuple F.slot_int_index.lookup
        (call_meets F.slot_int_rmul (typeIs_int s 1 t) F.entry_int_rmul (F.args_int_rmul_2 _ _) (int_rmul_tuple 1 t l its.toArray n dd sl)
          ⟨ho, rfl, ⟨_, ho, rfl⟩, call_meets F.slot_tuple_mul ⟨_, ho, rfl⟩ F.entry_tuple_mul (F.args_tuple_mul_2 _ _) (tmul_one l its.toArray n dd sl t) ⟨ho, ?_⟩⟩)
      exact ⟨.ref l, _, I, rfl, q1 rfl⟩
@[irreducible] def rRepA (K : PySem.W.Frag) : R2 := rRepA0 K
theorem op_repA {X : Cx} : OpR X (binaryOp .Mult) (rRepA X.K) := by unfold rRepA; exact op_repA0
theorem rep_do {K : PySem.W.Frag} {H : Hp} {l : Addr} {k : Int} {xs : List V} {Q : VK} (h : H l = some (.tup xs)) (hne : xs ≠ []) (h1 : 0 ≤ k) (h2 : k ≤ 1000) (hz : xs.length ≤ 1000)
    (q : ∀ p H1, Kp N0 H H1 → H1 p = some (.tup (List.replicate k.toNat xs).flatten) → Q (.ref p) H1) : rRepA K (.ref l) (.int k) H Q := by
  unfold rRepA
  refine ⟨l, k, xs, rfl, rfl, SqT.of h, hne, h1, h2, hz, fun e => q l H (.refl _ _) ?_, fun _ p hp => q p _ (.new hp) upd_same⟩
  subst e
  rw [h]
  simp
theorem rep_one {i : Int} (k : Nat) : (List.replicate k [V.int i]).flatten = (List.replicate k i).map V.int := by
  induction k with
  | zero => rfl
  | succ k ih => rw [List.replicate_succ, List.flatten_cons, ih, List.replicate_succ]; rfl
end Vf
/-! ### t[::-1] of a tuple -/
namespace HT
open PySem PySem.Spec PyProof.Rows
section
variable {prog : Program} {w : World} {A : Around} {E : Value → Shared → Prop} {s : Shared}
theorem places_rev : ∀ n : Nat, Builtin.Slice.slicePlaces ((n : Int) - 1) (-1) (-1) = n
  | 0 => by decide
  | n + 1 => by
    unfold Builtin.Slice.slicePlaces
    rw [if_neg (show ¬ (-1 : Int) > 0 by decide), if_pos (show ((n + 1 : Nat) : Int) - 1 > -1 by omega)]
    simp
theorem sliceApplied_rev {sl : Addr} {vl vu vs : Value} {n : Nat} {Q : Int × Int × Nat → Shared → Prop} (hs : s.heap.IsSliceOf sl vl vu vs) (pl : IsPart vl none) (pu : IsPart vu none) (ps : IsPart vs (some (-1)))
    (h : Q ((n : Int) - 1, -1, n) s) : wpAny (model prog w) A (Builtin.Slice.sliceApplied (.ref sl) (pure (n : Int))) Q E s := by
  have ⟨ob, got, _, dat⟩ := hs
  have answer : wpAny (model prog w) A (do
      let (lo, hi) := Builtin.Slice.sliceAdjust none none (-1) (n : Int)
      pure (lo, (-1 : Int), Builtin.Slice.slicePlaces lo hi (-1))) Q E s := by
    rw [show Builtin.Slice.sliceAdjust none none (-1) (n : Int) = ((n : Int) - 1, -1) by first | rfl | simp [Builtin.Slice.sliceAdjust]]
    exact wpAny_pure (by rw [places_rev]; exact h)
  have fields : wpAny (model prog w) A (Builtin.Slice.sliceFields (.ref sl)) (fun r s' => r = (vl, vu, vs) ∧ s' = s) E s := by
    unfold Builtin.Slice.sliceFields
    exact wpAny_bind (wpAny_field got dat (x := vl) rfl (wpAny_bind (wpAny_field got dat (x := vu) rfl (wpAny_bind (wpAny_field got dat (x := vs) rfl (wpAny_pure ⟨rfl, rfl⟩))))))
  unfold Builtin.Slice.sliceApplied
  refine wpAny_bind (wpAny_mono fields (fun r s' e => ?_) fun _ _ x => x)
  obtain ⟨rfl, rfl⟩ := e
  exact wpAny_bind (slicePart_ ps (by
    rw [if_neg (by decide)]
    exact wpAny_bind (slicePart_ pl (wpAny_bind (slicePart_ pu (wpAny_bind (wpAny_pure answer)))))))
theorem pick_rev (xs : Array Value) : ((List.range xs.size).filterMap fun (m : Nat) => xs[((xs.size : Int) - 1 + (m : Int) * (-1)).toNat]?).toArray = xs.toList.reverse.toArray := by
  have e : (fun (m : Nat) => xs[((xs.size : Int) - 1 + (m : Int) * (-1)).toNat]?) = fun m => xs[xs.size - 1 - m]? := by
    funext m
    have : ((xs.size : Int) - 1 + (m : Int) * (-1)).toNat = xs.size - 1 - m := by omega
    rw [this]
  rw [e]
  have h := PySem.W.krv_all xs
  rw [← h, ← List.filterMap_reverse, ← PySem.W.krv_range, List.filterMap_map]
  rfl
theorem getItem_tuple_rev {t sl : Addr} {items : Array Value} {vl vu vs : Value} {Q : Value → Shared → Prop} (ht : IsTup s.heap t items) (hs : s.heap.IsSliceOf sl vl vu vs) (pl : IsPart vl none) (pu : IsPart vu none) (ps : IsPart vs (some (-1)))
    (h : Q (.ref s.heap.objs.size) { s with heap := s.heap.push { cls := .type "tuple", data := .seq items.toList.reverse.toArray } })
    (hsz : items.size ≤ sizeLine) : wpAny (model prog w) A (getItem (.ref t) (.ref sl)) Q E s := by
  have ⟨ob, got, cls, _⟩ := id hs
  have fits : sizeOk (.seq items.toList.reverse.toArray) := by simpa [sizeOk] using hsz
  have notAll : ¬ ((((items.size : Int) - 1) == 0 && (-1 : Int) == 1 && items.size == items.size) = true) := by simp
  have body : wpAny (model prog w) A.in1 (Builtin.«tuple.__getitem__» ⟨[.ref t, .ref sl], []⟩) (fun fin r => ∃ v, fin = .done (.ret v) ∧ Q v r) E s := by
    have isS : s.TypeIs (.ref sl) "slice" := ⟨ob, got, cls⟩
    refine wpAny_bind (wpAny_of_eq (a := ((Value.ref t, [Value.ref sl]) : Value × List Value)) rfl ?_)
    show wpAny (model prog w) A.in1 (Builtin.Tuple.tupleItemsOf (.ref t) >>= _) _ _ s
    refine wpAny_bind (tupleItemsOf_ ht (wpAny_bind (wpAny_typeOf isS ?_)))
    rw [if_pos (by decide)]
    refine wpAny_bind (sliceApplied_rev hs pl pu ps ?_)
    dsimp only
    rw [if_neg notAll, pick_rev]
    exact wpAny_bind (m := newObj _ _) (wpAny_newObj_type (wpAny_pure ⟨_, rfl, h⟩) fits)
  have asked := wpAny_call_entry (A := A) PyProof.Rows.slot_tuple_getitem ht.typeIs entry_tuple_getitem body (args_tuple_getitem _ _)
  unfold getItem
  exact wpAny_holding (wpAny_bind (wpAny_sequenceKey ht.typeIs (by decide) (wpAny_bind (wpAny_callSpecial?_slot (name := Str.ofString "__getitem__") ht.typeIs PyProof.Rows.slot_tuple_getitem (wpAny_mono asked (fun _ _ q => wpAny_pure q) fun _ _ e => e)))))
end
end HT
namespace Vf
open PySem PySem.Spec PyProof.Rows L2
@[irreducible] def rRevT (K : PySem.W.Frag) (x : V) (H : Hp) (Q : VK) : Prop := ∃ a xs, x = .ref a ∧ SqT K H a xs ∧ ∀ p, H p = none → Q (.ref p) (upd H p (.tup xs.reverse))
def tRevT (K : PySem.W.Frag) (te : TE) : TE := fun σ H Q => te σ H fun x H1 => rRevT K x H1 Q
theorem pe_revT {X : Cx} {e : Expr} {te : TE} {k : Nat} {p1 p2 p3 pos : Pos} (he : PE X e te) : PE X (.Subscript e (.Slice none none (some (.UnaryOp .USub (.Constant (.int 1) k p1) p2)) p3) pos) (tRevT X.K te) := by
  have back : PO X (some (.UnaryOp .USub (.Constant (.int 1) k p1) p2)) (tPart (tUn (rU fun i => .int (-i)) (tC (.int 1)))) := po_some (pe_un un_neg pe_int)
  have only {σ : L2.St} {H : Hp} : tPart (tUn (rU fun i => .int (-i)) (tC (.int 1))) σ H (fun o G => o = some (-1) ∧ G = H) := ⟨1, rfl, -1, rfl, rfl, rfl⟩
  unfold tRevT rRevT
  refine .mk fun pins s σ H Q I h => Subscript_ (thn (he.run pins s σ H _ I h) ?_)
  rintro _ s1 ⟨_, H1, I1, rel, a, xs, rfl, isT, q⟩
  cases rel
  refine wpAny_Slice (thn (po_none.run pins s1 σ H1 (fun o G => o = none ∧ G = H1) I1 ⟨rfl, rfl⟩) ?_)
  rintro lo s2 ⟨_, _, I2, noLo, rfl, rfl⟩
  refine thn (po_none.run pins s2 σ _ (fun o G => o = none ∧ G = _) I2 ⟨rfl, rfl⟩) ?_
  rintro hi s3 ⟨_, _, I3, noHi, rfl, rfl⟩
  refine thn (back.run pins s3 σ _ _ I3 only) ?_
  rintro by_ s4 ⟨_, _, I4, one, rfl, rfl⟩
  have I5 := I4.kept (h' := s4.heap.push { cls := .type "slice", data := .fields #[lo, hi, by_] }) (t' := s4.toks) fun b ob q => Heap.get?_push_of_some _ q
  have ⟨vs, rv, inT, few⟩ := I5.tuple isT
  have size : vs.toArray.size ≤ sizeLine := by rw [List.size_toArray, ← rv.length]; exact few
  refine tail_any (ops := [.ref a, .ref s4.heap.objs.size]) inT.typeIs (PyProof.Rows.slot_tuple_getitem.lookup) (HT.getItem_tuple_rev inT (Heap.IsSliceOf.new _ lo hi by_) noLo noHi one ?_ size) (by with_unfolding_all rfl)
  have laid : xs.reverse.length ≤ sizeLine := by simpa using few
  exact ⟨.ref _, _, I5.laid (t' := s4.toks) (o := .tup xs.reverse) (fun b ob q => Heap.get?_push_of_some _ q) (Nat.le_refl _) ⟨laid, _, rv.reverse, IsTup.new _ _⟩, rfl, q _ (I5.hok.fresh (Nat.le_refl _))⟩
theorem revT {K : PySem.W.Frag} {H : Hp} {a : Addr} {xs : List V} {Q : VK} (h : H a = some (.tup xs)) (q : ∀ p H1, H p = none → Kp N0 H H1 → H1 p = some (.tup xs.reverse) → Q (.ref p) H1) : rRevT K (.ref a) H Q := by
  unfold rRevT
  exact ⟨a, xs, rfl, SqT.of h, fun p hp => q p _ hp (.new hp) upd_same⟩
end Vf
/-! ### a walk over a list or a tuple; enumerate of a tuple -/
namespace Vf
open PySem PySem.Spec PyProof.Rows L2
def iSeq (K : PySem.W.Frag) (tl : TE) : TI := fun σ H R => tl σ H fun x H1 => ∃ a, x = .ref a ∧ (((∃ xs, SqL K H1 a xs) ∧ R (Itl K a) H1) ∨ ((∃ xs, SqT K H1 a xs) ∧ R (Itt K a) H1))
theorem pi_seq {X : Cx} {tg l : Expr} {tl : TE} (hl : PE X l tl) : PI X tg l (iSeq X.K tl) := by
  refine ⟨fun pins s σ H R I h => thn (hl.run pins s σ H _ I h) fun v s1 q0 => ?_⟩
  obtain ⟨x, H1, I1, r1, a, e, q⟩ := q0
  subst e
  cases r1
  have fr : ∀ b, b ∈ [s1.heap.objs.size] → s1.heap.objs.size ≤ b := fun b hb => by simp at hb; omega
  rcases q with ⟨⟨xs, hq⟩, q⟩ | ⟨⟨xs, hq⟩, q⟩
  · obtain ⟨its, rv, p, hz⟩ := I1.list hq
    refine wpAny_pyIter_list p.isList ⟨_, [s1.heap.objs.size], _, _, H1, rfl, I1.kept (t' := s1.toks) fun b o e => Heap.get?_push_of_some _ e, turn_list a _, ⟨_, Heap.get?_push_size _ rfl, rfl, rfl⟩, fun b hb => ?_, q⟩
    have le := fr b hb
    exact I1.fpOk le (I1.hok.fresh le)
  · obtain ⟨its, rv, p, hz⟩ := I1.tuple hq
    refine wpAny_pyIter_tuple (show s1.heap.IsTuple a its.toArray from p) ⟨_, [s1.heap.objs.size], _, _, H1, rfl, I1.kept (t' := s1.toks) fun b o e => Heap.get?_push_of_some _ e, turn_tuple a _, ⟨_, Heap.get?_push_size _ rfl, rfl, rfl⟩, fun b hb => ?_, q⟩
    have le := fr b hb
    exact I1.fpOk le (I1.hok.fresh le)
/-- the cells that enumerate(v) makes -/
def enN (n : Addr) : Obj := { cls := .type "enumerate", data := .fields #[.none, .bool false, .ref n, rawInt 0, .none, .none] }
theorem en_new {v : Value} {o : Obj} {Z : Heap → Prop} (B : Begins v o Z) :
    Meets (Builtin.«enumerate.__new__» ⟨[.type "enumerate", v], []⟩) (fun _ R s => Z s.heap ∧ R (.ok (.ret (.ref (s.heap.push o).objs.size))) { s with heap := (s.heap.push o).push (enN s.heap.objs.size) }) :=
  .of_wp fun prog w A R s h => by
    obtain ⟨hp, g, d, tk, os⟩ := s
    obtain ⟨z1, z2⟩ := h
    have z3 := sub_enumerate
    have z4 : ∀ {A' : Around} {E : Value → Shared → Prop} {Q : Value → Shared → Prop}, Q (.ref hp.objs.size) ⟨hp.push o, g, d, tk, os⟩ → wpAny (model prog w) A' (pyIter v) Q E ⟨hp, g, d, tk, os⟩ :=
      fun q => B.iter prog w _ _ ⟨hp, g, d, tk, os⟩ _ z1 q
    wp_walk using z4
    refine wpAny_stack_any fun st => wpAny_pure ?_
    split
    · rename_i c _ _ _ _ _
      cases (c == Value.type "enumerate")
      all_goals
        wp_walk using z4
        exact ⟨_, rfl, z2⟩
    · wp_walk using z4
      exact ⟨_, rfl, z2⟩
theorem en_begins {prog : Program} {w : World} {A : Around} {E : Value → Shared → Prop} {s : Shared} {v : Value} {o : Obj} {Z : Heap → Prop} {Q : Value → Shared → Prop} (B : Begins v o Z) (h1 : Z s.heap)
    (h : ∀ h', h'.get? (s.heap.objs.size + 1) = some (enN s.heap.objs.size) → h'.get? s.heap.objs.size = some o → (∀ b u, s.heap.get? b = some u → h'.get? b = some u) → Q (.ref (s.heap.objs.size + 1)) { s with heap := h' }) :
    wpAny (model prog w) A (call (.type "enumerate") [v]) Q E s := by
  refine callType_new F.called_enumerate (by decide) (F.typeCall_enumerate_1 _) (F.newCall_enumerate_1 _) (fun obj => F.args_object_init_2 obj _) F.entry_enumerate_new (en_new B) ⟨h1, ?_⟩
  have hz : (s.heap.push o).objs.size = s.heap.objs.size + 1 := Heap.size_push ..
  have he := Heap.get?_push_size (s.heap.push o) (o := enN s.heap.objs.size) rfl
  show _ ∧ _
  rw [hz] at he ⊢
  exact ⟨⟨_, he, rfl⟩, h _ he (Heap.get?_push_of_some _ (Heap.get?_push_size _ B.free)) fun b u x => Heap.get?_push_of_some _ (Heap.get?_push_of_some _ x)⟩
def IteT (K : PySem.W.Frag) (a : Addr) : It :=
  ⟨fun i H => ∃ (xs : List V) (x : V), SqT K H a xs ∧ xs[i]? = some x, fun i H v H' => ∃ T x, v = .ref T ∧ H T = none ∧ H' = upd H T (.tup [.int (i : Nat), x]) ∧ ∀ xs, SqT K H a xs → xs[i]? = some x,
    fun i H => ∃ xs : List V, SqT K H a xs ∧ i = xs.length⟩
theorem two_of {c e it : Addr} (m : c ∈ [e, it]) : c = e ∨ c = it := by simpa using m
/-- where the two cells of a walk with numbers stand, at the i-th turn -/
def EnSt (a e it : Addr) (i : Nat) (h : Heap) : Prop := (∃ old, IsEnum h e it ((i : Nat) : Int) old) ∧ h.IsTupleIter it a i ∧ e ≠ it ∧ a ≠ it ∧ e ≠ a
theorem EnSt.lt {a e it c : Addr} {i : Nat} {h : Heap} (st : EnSt a e it i h) (m : c ∈ [e, it]) : c < h.objs.size := by
  obtain ⟨⟨_, ce⟩, ⟨_, ci, _⟩, _⟩ := st
  rcases two_of m with rfl | rfl
  · exact Heap.lt_size ce
  · exact Heap.lt_size ci
theorem turn_enT {P : Program} {w : World} {K : PySem.W.Frag} {elts : List Expr} {kk : Nat} {tpos : Pos} (a e it : Addr) : Turn P w K (.Tuple elts kk tpos) (IteT K a) [e, it] e (EnSt a e it) where
  mem := List.mem_cons_self
  obj := fun _ _ ⟨⟨_, ce⟩, ⟨o, ci, _, d⟩, _⟩ c m => by
    rcases two_of m with rfl | rfl
    · exact ⟨_, ce, nofun⟩
    · exact ⟨o, ci, fun v q => nomatch d.symm.trans q⟩
  keep := fun _ _ _ ⟨⟨old, ce⟩, ci, apart⟩ k => ⟨⟨old, k e List.mem_cons_self _ ce⟩, ci.at (k it (by simp)), apart⟩
  item := fun X eP ew eK calm i pins s σ H E I free st ⟨xs, x, isT, hx⟩ => by
    subst eP ew eK
    have low := fun c (m : c ∈ [e, it]) => st.lt m
    obtain ⟨⟨old, ce⟩, ci, ne1, ne2, ne3⟩ := st
    obtain ⟨vs, rel, at_, _⟩ := I.tuple isT
    obtain ⟨v, hv, rv⟩ := rel.get hx
    have inside : i < vs.toArray.size := by simpa using (List.getElem?_eq_some_iff.mp hv).1
    refine wpAny_pyNext_enum_itemD (Draws.tuple (A := X.A.in1) (I.ok.hd calm) it a ne2 vs.toArray) ce ⟨ci, at_⟩ inside ne1 (by simp [ne1, ne3]) fun v' h' tk p own ci' pair _ same => ?_
    obtain rfl : v' = v := Option.some.inj (p.symm.trans (by simpa using hv))
    refine ⟨_, rfl, wpAny_letOwnedTupleGo_enum (s := { s with heap := h', toks := tk + 1 }) own fun h2 ce' sb => ?_⟩
    have kept (c : Addr) (o : Obj) (nm : c ∉ [e, it]) (q : s.heap.get? c = some o) : h2.get? c = some o := (sb.2 c fun z => nm (by simp [z])).trans (same c o (fun z => nm (by simp [z])) (fun z => nm (by simp [z])) q)
    have new : h2.get? s.heap.objs.size = _ := (sb.2 _ (Nat.ne_of_gt (low e List.mem_cons_self))).trans pair
    have ok : ObjOk X.prog X.w (upd H s.heap.objs.size (.tup [.int (i : Nat), x])) h2 s.heap.objs.size (.tup [.int (i : Nat), x]) :=
      ⟨(by decide : 2 ≤ sizeLine), [.int i tk, v'], .cons ⟨_, rfl⟩ (.cons rv .nil), _, new, rfl, _, rfl⟩
    refine ⟨.ref s.heap.objs.size, _, I.turnedNew kept free (Nat.le_refl _) ok, rfl, ⟨_, x, rfl, I.hok.fresh (Nat.le_refl _), rfl, fun ys hy => ?_⟩, ⟨⟨v', ?_⟩, ci'.1.at fun o q => (sb.2 it ne1.symm).trans q, ne1, ne2, ne3⟩, fun c m => ?_⟩
    · rwa [I.tuple_inj hy isT]
    · rwa [Int.natCast_succ]
    · rw [upd_ne (Nat.ne_of_lt (low c m))]
      exact (free c m).1
  done := fun X eP ew eK calm i pins s σ H E I free ⟨⟨old, ce⟩, ci, ne1, ne2, ne3⟩ ⟨xs, isT, last⟩ => by
    subst eP ew eK
    obtain ⟨vs, rel, at_, _⟩ := I.tuple isT
    obtain ⟨f0, f1, _, f3, f4, f5⟩ := free it (by simp)
    obtain rfl : i = vs.toArray.size := by rw [last, rel.length, List.size_toArray]
    exact wpAny_pyNext_enum_endD (Draws.tuple (A := X.A.in1) (I.ok.hd calm) it a ne2 vs.toArray) ce ⟨ci, at_⟩ fun _ eb => ⟨rfl, I.turned (t' := s.toks) eb f0 f1 f3 f4 f5⟩
  self := fun _ _ _ _ _ ⟨⟨_, ce⟩, _⟩ h => wpAny_pyIter_enum ce h
def iEnT (K : PySem.W.Frag) (ta : TA) : TI := fun σ H R => ta σ H fun vs H1 => ∃ a xs, vs = [.ref a] ∧ SqT K H1 a xs ∧ R (IteT K a) H1
theorem pi_enT {X : Cx} {e : Expr} {ta : TA} {p pos tpos : Pos} {elts : List Expr} {kk : Nat} (hg : Gl X "enumerate") (hm : X.mg "enumerate" = none) (ha : PA X [e] ta) (plain : starEach [e] X.env = [(false, eval e X.env)] := by rfl) :
    PI X (.Tuple elts kk tpos) (.Call (.Name "enumerate" p) [e] [] pos) (iEnT X.K ta) := by
  refine .mk fun pins s σ H R I h => ?_
  have given := ha.run pos pins s σ H _ I h
  refine Call_ (ld_blt I hg hm boot_enumerate (PyProof.Rows.callWith_type1 (thn given ?_) plain rfl))
  rintro _ s1 ⟨_, H1, I1, rel, a, xs, rfl, isT, q⟩
  obtain ⟨u, rfl, eu⟩ := vals1 rel
  obtain rfl : u = Value.ref a := eu
  obtain ⟨vs, _, at_, _⟩ := I1.tuple isT
  have low : a < s1.heap.objs.size := PyProof.Rows.IsTup.lt at_
  refine en_begins (begins_tuple a vs.toArray) at_ fun h' ce ci same => wpAny_pyIter_enum ce ?_
  have apart : s1.heap.objs.size + 1 ≠ s1.heap.objs.size ∧ a ≠ s1.heap.objs.size ∧ s1.heap.objs.size + 1 ≠ a := ⟨Nat.succ_ne_self _, Nat.ne_of_lt low, (Nat.ne_of_lt (Nat.lt_succ_of_lt low)).symm⟩
  refine ⟨_, _, _, _, H1, rfl, I1.kept (t' := s1.toks) same, turn_enT a (s1.heap.objs.size + 1) s1.heap.objs.size, ⟨⟨.none, ce⟩, ⟨_, ci, rfl, rfl⟩, apart⟩, fun c m => ?_, q⟩
  have above : s1.heap.objs.size ≤ c := by rcases two_of m with rfl | rfl <;> first | exact Nat.le_refl _ | exact Nat.le_add_right _ _
  exact I1.fpOk above (I1.hok.fresh above)
theorem walk_enT {K : PySem.W.Frag} {a : Addr} {xs : List V} : Walk (IteT K a) xs.length (fun H => SqT K H a xs) (YPair (fun i => some (.int (i : Nat))) (fun i => xs[i]?)) :=
  ⟨fun i _ hi q => ⟨xs, xs[i], q, List.getElem?_eq_getElem hi⟩, fun _ q => ⟨xs, q, rfl⟩, fun i _ _ _ _ q ⟨T, x, hv, hp, hH, at_⟩ => ⟨T, .int (i : Nat), x, hv, hp, hH, rfl, at_ xs q⟩⟩
end Vf
/-! ### a comprehension within a comprehension -/
namespace C8b
open PySem L2
def rl (env : Env) : Str × NameKind → Str × NameKind := fun (n, k) => if (k == NameKind.free && env.scope.kind == .function && env.kindOf n == some .cell) then (n, NameKind.cell) else (n, k)
theorem rl_two (env : Env) (n : Str) (k : NameKind) : rl env (n, k) = (n, .cell) ∨ rl env (n, k) = (n, k) := by
  unfold rl
  by_cases hc : (k == NameKind.free && env.scope.kind == .function && env.kindOf n == some .cell) = true
  · exact .inl (if_pos hc)
  · exact .inr (if_neg hc)
theorem rl_look {env : Env} : ∀ {names : List (Str × NameKind)} {x : Str}, (names.lookup x = some .cell ∨ names.lookup x = some .free) → ((names.map (rl env)).lookup x = some .cell ∨ (names.map (rl env)).lookup x = some .free)
  | [], _, h => by simp at h
  | (n, k) :: r, x, h => by
    have ih := @rl_look env r x
    rw [List.map_cons]
    rcases rl_two env n k with e | e <;> rw [e] <;> cases hx : x == n <;> simp only [List.lookup_cons, hx] at h ⊢
    · exact ih h
    · simp
    · exact ih h
    · exact h
theorem blk2 {N : List Str} {sc scope : Scope} {own : List (Str × Nat)} {env : Env} (h : BlkOk N sc scope own) : BlkOk N (relabel sc env) scope own :=
  ⟨h.kind, h.uniq, h.ix, fun y hy e => rl_look (h.free y hy e), h.own⟩
end C8b
/-! ### walks within a comprehension, the written part told by name -/
namespace Vf
open PySem PySem.Spec PyProof.Rows L2
section
variable {X : Cx} {K : PySem.W.Frag} {tg l e e2 : Expr} {tl : TE} {ta : TA} {p pos tpos : Pos} {elts : List Expr} {kk : Nat}
theorem pi_listK (hl : PE X l tl) (h : X.K = K := by rfl) : PI X tg l (iList K tl) := by rw [← h]; exact pi_list hl
theorem pi_tupK (hl : PE X l tl) (h : X.K = K := by rfl) : PI X tg l (iTup K tl) := by rw [← h]; exact pi_tup hl
theorem pi_seqK (hl : PE X l tl) (h : X.K = K := by rfl) : PI X tg l (iSeq K tl) := by rw [← h]; exact pi_seq hl
theorem pi_zipLTK (hg : Gl X "zip") (hm : X.mg "zip" = none) (ha : PA X [e, e2] ta) (hs : starEach [e, e2] X.env = (false, eval e X.env) :: starEach [e2] X.env := by rfl) (hpl : (backTo pos (starEach [e2] X.env)).any (·.1) = false := by rfl) (h : X.K = K := by rfl) :
    PI X (.Tuple elts kk tpos) (.Call (.Name "zip" p) [e, e2] [] pos) (iZipLT K ta) := by rw [← h]; exact pi_zipLT hg hm ha ⟨hs, hpl⟩
theorem pi_zipAK (hg : Gl X "zip") (hm : X.mg "zip" = none) (ha : PA X [e, e2] ta) (hs : starEach [e, e2] X.env = (false, eval e X.env) :: starEach [e2] X.env := by rfl) (hpl : (backTo pos (starEach [e2] X.env)).any (·.1) = false := by rfl) (h : X.K = K := by rfl) :
    PI X (.Tuple elts kk tpos) (.Call (.Name "zip" p) [e, e2] [] pos) (RZ.iZipA K ta) := by rw [← h]; exact RZ.pi_zipA hg hm ha hs hpl
theorem pi_zipK (hg : Gl X "zip") (hm : X.mg "zip" = none) (ha : PA X [e, e2] ta) (hs : starEach [e, e2] X.env = (false, eval e X.env) :: starEach [e2] X.env := by rfl) (hpl : (backTo pos (starEach [e2] X.env)).any (·.1) = false := by rfl) (h : X.K = K := by rfl) :
    PI X (.Tuple elts kk tpos) (.Call (.Name "zip" p) [e, e2] [] pos) (iZip K ta) := by rw [← h]; exact pi_zip hg hm ha hs hpl
end
end Vf
/-! ### rows as data: == and != -/
namespace Vf
open PySem PySem.Spec PyProof.Rows L2
def di (ns : List Int) : List PyData := ns.map PyData.int
theorem dpAll_ints {K : PySem.W.Frag} {H : Hp} : ∀ ns : List Int, DpAll K H (ns.map V.int) (di ns)
  | [] => .nil
  | n :: r => .cons (.int n) (dpAll_ints r)
theorem canLay_di : ∀ ns : List Int, PyData.canLayAll0 (di ns) = true
  | [] => by simp [di, PyData.canLayAll0]
  | n :: r => by
    have := canLay_di r
    simp only [di, List.map_cons, PyData.canLayAll0, PyData.canLay0, Bool.true_and] at this ⊢
    exact this
theorem depth_di : ∀ ns : List Int, PyData.depthAll (di ns) ≤ 2
  | [] => by simp [di, PyData.depthAll]
  | n :: r => by
    have := depth_di r
    simp only [di, List.map_cons, PyData.depthAll, PyData.depth] at this ⊢
    omega
theorem shaped_row (ns : List Int) : SeqAt.shaped (.tuple (di ns)) = true := by
  have h1 := canLay_di ns
  have h2 := depth_di ns
  unfold SeqAt.shaped
  rw [Bool.and_eq_true]
  exact ⟨by simpa [PyData.canLay0] using h1, decide_eq_true (by simp only [PyData.depth]; omega)⟩
theorem shaped_list (ns : List Int) : SeqAt.shaped (.list (di ns)) = true := by
  have h1 := canLay_di ns
  have h2 := depth_di ns
  unfold SeqAt.shaped
  rw [Bool.and_eq_true]
  exact ⟨by simpa [PyData.canLay0] using h1, decide_eq_true (by simp only [PyData.depth]; omega)⟩
def drs (rs : List (List Int)) : List PyData := rs.map fun ns => .tuple (di ns)
theorem canLay_drs : ∀ rs : List (List Int), PyData.canLayAll0 (drs rs) = true
  | [] => by simp [drs, PyData.canLayAll0]
  | n :: r => by
    have h1 := canLay_drs r
    have h2 := canLay_di n
    simp only [drs, List.map_cons, PyData.canLayAll0, PyData.canLay0, h2, Bool.true_and] at h1 ⊢
    exact h1
theorem depth_drs : ∀ rs : List (List Int), PyData.depthAll (drs rs) ≤ 5
  | [] => by simp [drs, PyData.depthAll]
  | n :: r => by
    have h1 := depth_drs r
    have h2 := depth_di n
    simp only [drs, List.map_cons, PyData.depthAll, PyData.depth] at h1 ⊢
    omega
theorem shaped_rows (rs : List (List Int)) : SeqAt.shaped (.list (drs rs)) = true := by
  have h1 := canLay_drs rs
  have h2 := depth_drs rs
  unfold SeqAt.shaped
  rw [Bool.and_eq_true]
  exact ⟨by simpa [PyData.canLay0] using h1, decide_eq_true (by simp only [PyData.depth]; omega)⟩
theorem shaped_rowsT (rs : List (List Int)) : SeqAt.shaped (.tuple (drs rs)) = true := by
  have h1 := canLay_drs rs
  have h2 := depth_drs rs
  unfold SeqAt.shaped
  rw [Bool.and_eq_true]
  exact ⟨by simpa [PyData.canLay0] using h1, decide_eq_true (by simp only [PyData.depth]; omega)⟩
section
variable {K : PySem.W.Frag} {H : Hp} {a b : Addr} {ns ms : List Int} {Q : VK}
theorem neRow (h1 : H a = some (.tup (ns.map V.int))) (h2 : H b = some (.tup (ns.map V.int))) (q : Q (.bl false) H) : rNeI K (.ref a) (.ref b) H Q := by
  unfold rNeI
  refine ⟨_, _, .tup (SqT.of h1) (dpAll_ints ns), .tup (SqT.of h2) (dpAll_ints ns), shaped_row ns, shaped_row ns, ?_⟩
  rw [SeqAt.eqv_refl _ (SeqAt.canLay_of_shaped (shaped_row ns))]
  exact q
theorem eqRow (h1 : H a = some (.tup (ns.map V.int))) (h2 : H b = some (.tup (ns.map V.int))) (q : Q (.bl true) H) : rEqI K (.ref a) (.ref b) H Q := by
  unfold rEqI
  refine ⟨_, _, .tup (SqT.of h1) (dpAll_ints ns), .tup (SqT.of h2) (dpAll_ints ns), shaped_row ns, shaped_row ns, ?_⟩
  rw [SeqAt.eqv_refl _ (SeqAt.canLay_of_shaped (shaped_row ns))]
  exact q
theorem eqIntsL (h1 : SqL K H a (ns.map V.int)) (h2 : SqL K H b (ns.map V.int)) (q : Q (.bl true) H) : rEqI K (.ref a) (.ref b) H Q := by
  unfold rEqI
  refine ⟨_, _, .lst h1 (dpAll_ints ns), .lst h2 (dpAll_ints ns), shaped_list ns, shaped_list ns, ?_⟩
  rw [SeqAt.eqv_refl _ (SeqAt.canLay_of_shaped (shaped_list ns))]
  exact q
/-- the places of rows -/
def Rws (H : Hp) : List V → List (List Int) → Prop
  | [], [] => True
  | v :: vs, r :: rs => (∃ p, v = .ref p ∧ H p = some (.tup (r.map V.int))) ∧ Rws H vs rs
  | _, _ => False
theorem Rws.kp {S : Addr → Prop} {H H1 : Hp} (k : Kp S H H1) : ∀ {vs : List V} {rs : List (List Int)}, Rws H vs rs → Rws H1 vs rs
  | [], [], _ => trivial
  | _ :: _, _ :: _, ⟨⟨p, e, h⟩, t⟩ => ⟨⟨p, e, k.tup _ _ h⟩, Rws.kp k t⟩
theorem Rws.len {H : Hp} : ∀ {vs : List V} {rs : List (List Int)}, Rws H vs rs → vs.length = rs.length
  | [], [], _ => rfl
  | _ :: _, _ :: _, ⟨_, t⟩ => by rw [List.length_cons, List.length_cons, Rws.len t]
theorem Rws.get {H : Hp} : ∀ {vs : List V} {rs : List (List Int)} {i : Nat} {v : V}, Rws H vs rs → vs[i]? = some v → ∃ p r, v = .ref p ∧ rs[i]? = some r ∧ H p = some (.tup (r.map V.int))
  | [], [], i, v, _, h => by simp at h
  | u :: vs, r :: rs, 0, v, ⟨⟨p, e, h⟩, t⟩, hv => by
    cases hv
    exact ⟨p, r, e, rfl, h⟩
  | u :: vs, r :: rs, i + 1, v, ⟨_, t⟩, hv => Rws.get (i := i) t (by simpa using hv)
theorem Rws.of {H : Hp} : ∀ {vs : List V} {rs : List (List Int)}, vs.length = rs.length → (∀ (i : Nat) (v : V) (r : List Int), vs[i]? = some v → rs[i]? = some r → ∃ p, v = .ref p ∧ H p = some (.tup (r.map V.int))) → Rws H vs rs
  | [], [], _, _ => trivial
  | [], _ :: _, h, _ => by simp at h
  | _ :: _, [], h, _ => by simp at h
  | v :: vs, r :: rs, h, f => ⟨f 0 v r rfl rfl, Rws.of (by simpa using h) fun i v r hv hr => f (i + 1) v r (by simpa using hv) (by simpa using hr)⟩
theorem Rws.dp {H : Hp} : ∀ {vs : List V} {rs : List (List Int)}, Rws H vs rs → DpAll K H vs (drs rs)
  | [], [], _ => .nil
  | _ :: _, r :: _, ⟨⟨p, e, h⟩, t⟩ => by
    subst e
    exact .cons (.tup (SqT.of h) (dpAll_ints r)) (Rws.dp t)
theorem Rws.app {H : Hp} : ∀ {vs ws : List V} {rs ss : List (List Int)}, Rws H vs rs → Rws H ws ss → Rws H (vs ++ ws) (rs ++ ss)
  | [], _, [], _, _, t => t
  | _ :: _, _, _ :: _, _, ⟨x, t⟩, u => ⟨x, Rws.app t u⟩
theorem eqRowsL {vs ws : List V} {rs : List (List Int)} (h1 : SqL K H a vs) (h2 : SqL K H b ws) (r1 : Rws H vs rs) (r2 : Rws H ws rs) (q : Q (.bl true) H) : rEqI K (.ref a) (.ref b) H Q := by
  unfold rEqI
  refine ⟨_, _, .lst h1 r1.dp, .lst h2 r2.dp, shaped_rows rs, shaped_rows rs, ?_⟩
  rw [SeqAt.eqv_refl _ (SeqAt.canLay_of_shaped (shaped_rows rs))]
  exact q
/-- xs != [], a list of ints -/
theorem neNil (h1 : SqL K H a (ns.map V.int)) (h2 : SqL K H b []) (q : Q (.bl (!ns.isEmpty)) H) : rNeI K (.ref a) (.ref b) H Q := by
  unfold rNeI
  refine ⟨_, _, .lst h1 (dpAll_ints ns), .lst (ds := []) h2 .nil, shaped_list ns, shaped_list [], ?_⟩
  have e : PyData.eqv (.list (di ns)) (.list []) = ns.isEmpty := by
    cases ns with
    | nil => simp [di, PyData.eqv, PyData.eqvAll]
    | cons n r => simp [di, PyData.eqv, PyData.eqvAll]
  rw [e]
  exact q
theorem repL {i : Int} {k : Int} (h : H a = some (.lst [.int i])) (h0 : 0 ≤ k) (h1 : k ≤ 1000) (q : ∀ p H1, H p = none → Kp N0 H H1 → H1 p = some (.lst ((List.replicate k.toNat i).map V.int)) → Q (.ref p) H1) : rRepLI (.ref a) (.int k) H Q := by
  unfold rRepLI
  refine ⟨a, k, [.int i], rfl, rfl, h, by omega, by omega, Nat.le_trans (by simp; omega : [V.int i].length * k.toNat ≤ 1000) (by decide), fun p hp => q p _ hp (.new hp) ?_⟩
  rw [upd_same, ← rep_one]
end
end Vf
namespace Vf
open PySem PySem.Spec PyProof.Rows L2
section
variable {J : It} {n : Nat} {Gw : Hp → Prop} {Y : Nat → Hp → V → Hp → Prop} {g : TG} {te : TE} {vs : List Nat} {σ : L2.St} {H1 : Hp} {Qd : Addr → Hp → Prop}
theorem rw_up {H : Hp} {p D : Addr} {r : List Int} {zs zs' : List V} (h : H p = some (.tup (r.map V.int))) (hd : H D = some (.lst zs)) : upd H D (.lst zs') p = some (.tup (r.map V.int)) := by
  rw [upd_ne (ne_of h hd (by intro z; cases z))]
  exact h
/-- pure: the items are rows, told by their place -/
theorem lc_rows (w : Walk J n Gw Y) (f : Nat → List Int) (hn : n ≤ 100000) (hw : ∀ H, Kp N0 H1 H → Gw H)
    (turn : ∀ i x H H', i < n → Kp N0 H1 H → Y i H x H' → ∀ R : VK, (∀ p H4, Kp N0 H H4 → H4 p = some (.tup ((f i).map V.int)) → R (.ref p) H4) → g x (wipe σ vs) H' fun σ2 H2 => wipe σ2 vs = wipe σ vs ∧ te σ2 H2 R)
    (fin : ∀ D H' ys, H1 D = none → Kp N0 H1 H' → H' D = some (.lst ys) → Rws H' ys ((List.range n).map f) → Qd D H') :
    ∀ D, H1 D = none → ∃ W : Nat → Nat → Hp → Prop, (∃ m, W 0 m (upd H1 D (.lst []))) ∧ ∀ i m H, W i m H →
      (J.stop i H ∧ Qd D H) ∨ (J.go i H ∧ ∃ Nx : Hp → Prop, (∀ H', Nx H' → ∃ m', m' < m ∧ W (i + 1) m' H') ∧ ∀ x H', J.yld i H x H' → g x (wipe σ vs) H' fun σ2 H2 => wipe σ2 vs = wipe σ vs ∧ tYes σ2 H2 fun b H3 =>
        if b = true then te σ2 H3 fun y H4 => ∃ acc, H4 D = some (.lst acc) ∧ acc.length < sizeLine ∧ Nx (upd H4 D (.lst (acc ++ [y]))) else Nx H3) :=
  lc_gen (S := N0) w (fun _ => True) (fun i y H => ∃ p, y = .ref p ∧ H p = some (.tup ((f i).map V.int))) (Nat.lt_of_le_of_lt hn (by decide)) trivial (fun _ _ _ _ _ => trivial) (fun H k _ => hw H k)
    (fun _ _ _ _ ⟨p, e, h⟩ k => ⟨p, e, k.tup _ _ h⟩) (fun _ _ _ _ _ _ _ hd ⟨p, e, h⟩ => ⟨p, e, rw_up h hd⟩) (fun _ _ z => z)
    (fun i x H H' hi k _ y R hR => turn i x H H' hi k y R fun p H4 k4 h4 => hR _ _ k4 trivial ⟨p, rfl, h4⟩)
    (fun D H' ys nD k _ hy hl hp => fin D H' ys nD k hy (Rws.of (by simp [hl]) fun i v r hv hr => by
      obtain ⟨p, e, h⟩ := hp i v hv
      rw [List.getElem?_map] at hr
      have hi : i < n := by rw [← hl]; exact (List.getElem?_eq_some_iff.mp hv).1
      rw [List.getElem?_range hi] at hr
      cases hr
      exact ⟨p, e, h⟩))
theorem rws_ex {H : Hp} {p : List Int → Prop} : ∀ {ys : List V}, (∀ (i : Nat) (y : V), ys[i]? = some y → ∃ q r, y = .ref q ∧ H q = some (.tup (r.map V.int)) ∧ p r) → ∃ rs : List (List Int), Rws H ys rs ∧ ∀ r ∈ rs, p r
  | [], _ => ⟨[], trivial, fun _ h => by simp at h⟩
  | y :: ys, h => by
    obtain ⟨rs, t, hp⟩ := rws_ex (ys := ys) fun i u hu => h (i + 1) u (by simpa using hu)
    obtain ⟨q, r, e, hq, pr⟩ := h 0 y (by simp)
    exact ⟨r :: rs, ⟨⟨q, e, hq⟩, t⟩, fun u hu => by
      rcases List.mem_cons.mp hu with rfl | hu
      · exact pr
      · exact hp u hu⟩
/-- with the dice: the items are rows of which p holds -/
theorem lc_rowsD {a : Addr} (w : Walk J n Gw Y) (p : List Int → Prop) (hn : n ≤ 100000) (hd : Dc a H1) (hw : ∀ H, DR a H1 H → Gw H)
    (turn : ∀ i x H H', i < n → DR a H1 H → Y i H x H' → ∀ R : VK, (∀ q r H4, DR a H H4 → H4 q = some (.tup (r.map V.int)) → p r → R (.ref q) H4) → g x (wipe σ vs) H' fun σ2 H2 => wipe σ2 vs = wipe σ vs ∧ te σ2 H2 R)
    (fin : ∀ D H' ys rs, H1 D = none → DR a H1 H' → H' D = some (.lst ys) → Rws H' ys rs → rs.length = n → (∀ r ∈ rs, p r) → Qd D H') :
    ∀ D, H1 D = none → ∃ W : Nat → Nat → Hp → Prop, (∃ m, W 0 m (upd H1 D (.lst []))) ∧ ∀ i m H, W i m H →
      (J.stop i H ∧ Qd D H) ∨ (J.go i H ∧ ∃ Nx : Hp → Prop, (∀ H', Nx H' → ∃ m', m' < m ∧ W (i + 1) m' H') ∧ ∀ x H', J.yld i H x H' → g x (wipe σ vs) H' fun σ2 H2 => wipe σ2 vs = wipe σ vs ∧ tYes σ2 H2 fun b H3 =>
        if b = true then te σ2 H3 fun y H4 => ∃ acc, H4 D = some (.lst acc) ∧ acc.length < sizeLine ∧ Nx (upd H4 D (.lst (acc ++ [y]))) else Nx H3) :=
  lc_gen (S := At a) w (Dc a) (fun _ y H => ∃ q r, y = .ref q ∧ H q = some (.tup (r.map V.int)) ∧ p r) (Nat.lt_of_le_of_lt hn (by decide)) hd (fun H D o h d => d.upd_ne (hd.ne h)) (fun H k d => hw H ⟨k, d⟩)
    (by rintro i y H H' ⟨q, r, e, h, pr⟩ k; exact ⟨q, r, e, k.tup _ _ h, pr⟩) (by rintro i y H D zs zs' _ hd ⟨q, r, e, h, pr⟩; exact ⟨q, r, e, rw_up h hd, pr⟩) (fun D h z => hd.ne h z.symm)
    (fun i x H H' hi k d y R hR => turn i x H H' hi ⟨k, d⟩ y R fun q r H4 k4 h4 pr => hR _ _ k4.kp k4.dc ⟨q, r, rfl, h4, pr⟩)
    (fun D H' ys hDn k d hy hl hp => by
      obtain ⟨rs, t, hz⟩ := rws_ex hp
      exact fin D H' ys rs hDn ⟨k, d⟩ hy t (by rw [← t.len, hl]) hz)
end
end Vf
namespace Vf
open PySem PySem.Spec PyProof.Rows L2
theorem walk_tupN {K : PySem.W.Frag} {a : Addr} {xs : List V} {n : Nat} (h : xs.length = n) : Walk (Itt K a) n (fun H => SqT K H a xs) (YAt xs) := by subst h; exact walk_tup
theorem walk_listN {K : PySem.W.Frag} {a : Addr} {xs : List V} {n : Nat} (h : xs.length = n) : Walk (Itl K a) n (fun H => SqL K H a xs) (YAt xs) := by subst h; exact walk_list
theorem walk_rangeN {lo : Int} {m n : Nat} (h : m = n) : Walk (Itr lo m) n (fun _ => True) (YFn fun i => .int (lo + (i : Int))) := by subst h; exact walk_range
end Vf
/-! ### tuples that may be the module's own: rows of its tables -/
namespace Vf
open PySem PySem.Spec PyProof.Rows L2
section
variable {H : Hp} {K : PySem.W.Frag} {us : List V} {Q : VK} {p x : Addr} {xs ys : List V} {lo hi : Option Int}
theorem tyS {a : Addr} (h : SqT K H a xs) : TyX K H (.ref a) (.type "tuple") := by
  rcases h with (h | ⟨o, h⟩) | ⟨o, _, _, h, c, _⟩
  · exact .base (.tup h)
  · exact .fTuple h
  · exact .kTuple h c
theorem lenS (e : us = [.ref p]) (h : SqT K H p ys) (q : Q (.int ys.length) H) : rLen K us H Q := by
  unfold rLen
  exact ⟨p, ys, e, .inr h, q⟩
theorem tupS (e : us = [.ref p]) (h : SqT K H p ys) (q : Q (.ref p) H) : rTupOf K us H Q := by
  unfold rTupOf
  exact ⟨p, ys, e, .inr ⟨h, q⟩⟩
theorem slS (h : SqT K H x xs) (nw : ¬ (HT.sIx xs.length 0 lo = 0 ∧ HT.sIx xs.length xs.length hi = xs.length)) (q : ∀ p H1, Kp N0 H H1 → H1 p = some (.tup (cutV xs lo hi)) → Q (.ref p) H1) : rSlI K (.ref x) lo hi H Q := by
  unfold rSlI
  exact ⟨x, xs, rfl, h, fun w => absurd w nw, fun _ => rd_new fun p H1 _ e h1 => q p H1 e h1⟩
theorem nw1 (h : 0 < xs.length) : ¬ (HT.sIx xs.length 0 (some 1) = 0 ∧ HT.sIx xs.length xs.length hi = xs.length) := by
  rintro ⟨w, _⟩
  rw [show (some (1 : Int)) = some ((1 : Nat) : Int) from rfl, HT.sIx_nat] at w
  omega
end
def RwK (K : PySem.W.Frag) (H : Hp) : List V → List (List Int) → Prop
  | [], [] => True
  | v :: vs, r :: rs => (∃ p, v = .ref p ∧ SqT K H p (r.map V.int)) ∧ RwK K H vs rs
  | _, _ => False
section
variable {K : PySem.W.Frag}
theorem RwK.of {H : Hp} : ∀ {vs : List V} {rs : List (List Int)}, Rws H vs rs → RwK K H vs rs
  | [], [], _ => trivial
  | _ :: _, _ :: _, ⟨⟨p, e, h⟩, t⟩ => ⟨⟨p, e, SqT.of h⟩, RwK.of t⟩
theorem RwK.kp {S : Addr → Prop} {H H1 : Hp} (k : Kp S H H1) : ∀ {vs : List V} {rs : List (List Int)}, RwK K H vs rs → RwK K H1 vs rs
  | [], [], _ => trivial
  | _ :: _, _ :: _, ⟨⟨p, e, h⟩, t⟩ => ⟨⟨p, e, k.sqT h⟩, RwK.kp k t⟩
theorem RwK.len {H : Hp} : ∀ {vs : List V} {rs : List (List Int)}, RwK K H vs rs → vs.length = rs.length
  | [], [], _ => rfl
  | _ :: _, _ :: _, ⟨_, t⟩ => by rw [List.length_cons, List.length_cons, RwK.len t]
theorem RwK.get {H : Hp} : ∀ {vs : List V} {rs : List (List Int)} {i : Nat} {v : V}, RwK K H vs rs → vs[i]? = some v → ∃ p r, v = .ref p ∧ rs[i]? = some r ∧ SqT K H p (r.map V.int)
  | [], [], _, _, _, h => by simp at h
  | _ :: _, r :: _, 0, _, ⟨⟨p, e, h⟩, _⟩, hv => by
    cases hv
    exact ⟨p, r, e, rfl, h⟩
  | _ :: _, _ :: _, i + 1, _, ⟨_, t⟩, hv => RwK.get (i := i) t (by simpa using hv)
theorem RwK.dp {H : Hp} : ∀ {vs : List V} {rs : List (List Int)}, RwK K H vs rs → DpAll K H vs (drs rs)
  | [], [], _ => .nil
  | _ :: _, r :: _, ⟨⟨p, e, h⟩, t⟩ => by
    subst e
    exact .cons (.tup h (dpAll_ints r)) (RwK.dp t)
theorem rwk_ex {H : Hp} : ∀ {ys : List V}, (∀ v ∈ ys, ∃ q r, v = .ref q ∧ SqT K H q (List.map V.int r)) → ∃ rs : List (List Int), RwK K H ys rs
  | [], _ => ⟨[], trivial⟩
  | y :: ys, h => by
    obtain ⟨rs, t⟩ := rwk_ex (ys := ys) fun v hv => h v (List.mem_cons_of_mem _ hv)
    obtain ⟨q, r, e, hq⟩ := h y List.mem_cons_self
    exact ⟨r :: rs, ⟨q, e, hq⟩, t⟩
end
end Vf
namespace K09
open PySem PySem.Spec PyProof.Rows L2 Vf
def TL : Int := 100000000000000000000000000000000000000000000000000000000000000000000000000000000000000000000000000000000000000000000000000000000000000000000000000000000000000000000000000000000000000000000000000000000
def topS (i : Nat) : Stmt := PySem.Challenge.pw_timesthrough_k09_counting_by_terms_and_c.main.body.getD i (.Pass ⟨0, 0, 0, 0⟩)
abbrev s_is_short : Stmt := topS 2
theorem sc_is_short : FnScope ["number"] ["number"] (C8.fnScope s_is_short) := C8.fnScope_by (by decide +kernel)
abbrev s_is_integer : Stmt := topS 3
theorem sc_is_integer : FnScope ["value"] ["value"] (C8.fnScope s_is_integer) := C8.fnScope_by (by decide +kernel)
abbrev s_is_row : Stmt := topS 10
theorem sc_is_row : FnScope ["value", "entry"] ["value"] (C8.fnScope s_is_row) := C8.fnScope_by (by decide +kernel)
abbrev s_counting : Stmt := topS 11
theorem sc_counting : FnScope ["row"] ["row"] (C8.fnScope s_counting) := C8.fnScope_by (by decide +kernel)
abbrev s_genus : Stmt := topS 12
theorem sc_genus : FnScope ["row"] ["row"] (C8.fnScope s_genus) := C8.fnScope_by (by decide +kernel)
abbrev s_terms_of : Stmt := topS 13
theorem sc_terms_of : FnScope ["row", "degree"] ["row"] (C8.fnScope s_terms_of) := C8.fnScope_by (by decide +kernel)
abbrev s_conditions_of : Stmt := topS 14
theorem sc_conditions_of : FnScope ["row", "number"] ["row"] (C8.fnScope s_conditions_of) := C8.fnScope_by (by decide +kernel)
abbrev s_check_row : Stmt := topS 15
theorem sc_check_row : FnScope ["row"] ["row"] (C8.fnScope s_check_row) := C8.fnScope_by (by decide +kernel)
abbrev s_product_of : Stmt := topS 16
theorem sc_product_of : FnScope ["one", "other", "left", "right"] ["one", "other"] (C8.fnScope s_product_of) := C8.fnScope_by (by decide +kernel)
abbrev s_product_with_cubic : Stmt := topS 17
theorem sc_product_with_cubic : FnScope ["row"] ["row"] (C8.fnScope s_product_with_cubic) := C8.fnScope_by (by decide +kernel)
abbrev s_counting_of : Stmt := topS 18
theorem sc_counting_of : FnScope ["row"] ["row"] (C8.fnScope s_counting_of) := C8.fnScope_by (by decide +kernel)
abbrev s_l_dice : Stmt := topS 20
theorem sc_l_dice : FnScope ["_law_script", "_law_at", "_law_cell", "_law_great_here", "_law_left", "_law_mixed_here"] ["_law_script", "_law_at"] (C8.fnScope s_l_dice) := C8.fnScope_by (by decide +kernel)
abbrev s_l_roll : Stmt := topS 21
theorem sc_l_roll : FnScope ["_law_dice_here", "_law_total", "_law_size", "_law_drawn", "_law_one", "_law_two"] ["_law_dice_here", "_law_total"] (C8.fnScope s_l_roll) := C8.fnScope_by (by decide +kernel)
abbrev s_l_small : Stmt := topS 24
theorem sc_l_small : FnScope ["_law_dice_here", "_law_n", "_law_at"] ["_law_dice_here", "_law_n"] (C8.fnScope s_l_small) := C8.fnScope_by (by decide +kernel)
abbrev s_l_great : Stmt := topS 25
theorem sc_l_great : FnScope ["_law_dice_here", "_law_n", "_law_size", "_law_at"] ["_law_dice_here", "_law_n"] (C8.fnScope s_l_great) := C8.fnScope_by (by decide +kernel)
abbrev s_l_terms_of : Stmt := topS 26
theorem sc_l_terms_of : FnScope ["_law_degree", "_law_first"] ["_law_degree"] (C8.fnScope s_l_terms_of) := C8.fnScope_by (by decide +kernel)
abbrev s_l_conditions_of : Stmt := topS 27
theorem sc_l_conditions_of : FnScope ["_law_numbers", "_law_number"] ["_law_numbers"] (C8.fnScope s_l_conditions_of) := C8.fnScope_by (by decide +kernel)
abbrev s_l_with : Stmt := topS 28
theorem sc_l_with : FnScope ["_law_row", "_law_at", "_law_entry"] ["_law_row", "_law_at", "_law_entry"] (C8.fnScope s_l_with) := C8.fnScope_by (by decide +kernel)
abbrev s_l_small_right : Stmt := topS 29
theorem sc_l_small_right : FnScope ["_law_row"] ["_law_row"] (C8.fnScope s_l_small_right) := C8.fnScope_by (by decide +kernel)
abbrev s_l_turned_right : Stmt := topS 30
theorem sc_l_turned_right : FnScope ["_law_row", "_law_at", "_law_more", "_law_other"] ["_law_row", "_law_at"] (C8.fnScope s_l_turned_right) := C8.fnScope_by (by decide +kernel)
abbrev s_l_raised_right : Stmt := topS 31
theorem sc_l_raised_right : FnScope ["_law_row", "_law_at", "_law_more", "_law_entry"] ["_law_row", "_law_at"] (C8.fnScope s_l_raised_right) := C8.fnScope_by (by decide +kernel)
abbrev s_l_right : Stmt := topS 32
theorem sc_l_right : FnScope ["_law_dice_here", "_law_n", "_law_turn", "_law_row", "_law_at", "_law_tame", "_law_one", "_law_number"] ["_law_dice_here"] (C8.fnScope s_l_right) := C8.fnScope_by (by decide +kernel)
abbrev s_law : Stmt := topS 33
theorem sc_law : FnScope ["_law_script", "_law_at"] ["_law_script"] (C8.fnScope s_law) := C8.fnScope_by (by decide +kernel)
structure Txt (K : PySem.W.Frag) (mg : Str → Option Value) : Prop where
  b_abs : mg "abs" = none
  b_all : mg "all" = none
  b_bool : mg "bool" = none
  b_int : mg "int" = none
  b_isinstance : mg "isinstance" = none
  b_len : mg "len" = none
  b_list : mg "list" = none
  b_max : mg "max" = none
  b_min : mg "min" = none
  b_range : mg "range" = none
  b_sum : mg "sum" = none
  b_tuple : mg "tuple" = none
  b_zip : mg "zip" = none
  c_LEAST_POINTS : ∃ u, mg "LEAST_POINTS" = some u ∧ RelV (.int 3) u
  c_MOST_POINTS : ∃ u, mg "MOST_POINTS" = some u ∧ RelV (.int 16) u
  c_TOO_LONG : ∃ u, mg "_TOO_LONG" = some u ∧ RelV (.int TL) u
end K09
namespace K09
open PySem PySem.Spec PyProof.Rows L2 Vf
section
variable {P : Program} {w : World} {K : PySem.W.Frag} {mg : Str → Option Value} {base : Heap}
/-! ### rows of ints, their products -/
def Sh (x : Int) : Prop := -TL < x ∧ x < TL
def Row (ns : List Int) : Prop := 4 ≤ ns.length ∧ ns.length ≤ 17 ∧ ∀ x ∈ ns, Sh x
theorem TL_lt : TL.natAbs < 2 ^ 700 := by decide +kernel
theorem Sh.lt {x : Int} (h : Sh x) : x.natAbs < 2 ^ 700 := by
  have := TL_lt
  obtain ⟨a, b⟩ := h
  omega
theorem Sh.le {x : Int} (h : Sh x) : x.natAbs ≤ TL.natAbs := by
  obtain ⟨a, b⟩ := h
  omega
theorem TL2_lt : 2 * TL.natAbs < 2 ^ 700 := by decide +kernel
theorem Row.sh {ns : List Int} (h : Row ns) (i : Nat) (hi : i < ns.length) : Sh (ns.getD i 0) := by
  rw [List.getD_eq_getElem?_getD, List.getElem?_eq_getElem hi]
  exact h.2.2 _ (List.getElem_mem hi)
theorem wide_sh {x y : Int} (hx : x.natAbs < 2 ^ 700) (hy : y.natAbs < 2 ^ 700) : CMulE x y := wmul hx hy (by decide) (by decide) (by decide)
theorem wide_2 {x : Int} : CDivW x 2 := wide_div (b := 2) (by decide) (by decide) (by decide) (by decide)
def dot (ns ms : List Int) : Int := ns.getD 0 0 * ms.getD 0 0 - (List.zipWith (· * ·) (ns.drop 1) (ms.drop 1)).sum
def cub (ns : List Int) : Int := 3 * ns.getD 0 0 - (ns.drop 1).sum
def cntg (ns : List Int) : Int := (dot ns ns + cub ns) / 2 + 1
def gen (ns : List Int) : Int := (dot ns ns - cub ns) / 2 + 1
def terms (ns : List Int) : Int := if ns.getD 0 0 < 0 then 0 else (ns.getD 0 0 + 1) * (ns.getD 0 0 + 2) / 2
def conds (ns : List Int) : Int := (((ns.drop 1).filter fun m => decide (0 < m)).map fun m => m * (m + 1) / 2).sum
def sp_is_short : Sp := fun vs H Q _ => ∃ i : Int, vs = [.int i] ∧ Sh i ∧ Q (.bl true) H
theorem ok_is_short (T : Txt K mg) (D : Df K mg "is_short" s_is_short ["number"]) : C8.Cal P w K mg base 1 "is_short" (sp_is_short) [] := by
  obtain ⟨f, fd, D, hb⟩ := D
  refine C8.cal0 D (.all hb) .nil sc_is_short (fun vs H Q E h => ?_) (fun cdv A outer s H vs Q E hr h => ?_)
  · obtain ⟨i, rfl, _⟩ := h; rfl
  · obtain ⟨i, rfl, hi, q⟩ := h
    refine ⟨_, (pss_one (ps_ret (pe_chain op_lt op_lt (pe_un un_neg (C8.pe_gc (by rfl) T.c_TOO_LONG)) (pv 0) (C8.pe_gc (by rfl) T.c_TOO_LONG)))), ?_⟩
    refine ⟨_, rfl, _, rfl, _, _, rfl, rfl, _, rfl, ?_⟩
    rw [decide_eq_true hi.1]
    refine iteT ⟨_, _, rfl, rfl, ?_⟩
    show Q (V.bl (decide (i < TL))) H
    rw [decide_eq_true hi.2]
    exact q
def sp_is_integer : Sp := fun vs H Q _ => ∃ i : Int, vs = [.int i] ∧ Sh i ∧ Q (.bl true) H
theorem ok_is_integer (T : Txt K mg) (D : Df K mg "is_integer" s_is_integer ["value"]) (c_is_short : C8.Cal P w K mg base 1 "is_short" (sp_is_short) []) : C8.Cal P w K mg base 2 "is_integer" (sp_is_integer) [] := by
  obtain ⟨f, fd, D, hb⟩ := D
  refine C8.cal0 D (.all hb) .nil sc_is_integer (fun vs H Q E h => ?_) (fun cdv A outer s H vs Q E hr h => ?_)
  · obtain ⟨i, rfl, _⟩ := h; rfl
  · obtain ⟨i, rfl, hi, q⟩ := h
    refine ⟨_, (pss_one (ps_ret (pe_and (pe_callB (callK (K := K) rIsi call_isi) (by rfl) T.b_isinstance (by decide +kernel) (pa_cons (pv 0) (pa_cons (pe_bltn (v := .ty "int") (by rfl) T.b_int (by decide +kernel) rfl) pa_nil))) (pe_and (pe_not (pe_callB (callK (K := K) rIsi call_isi) (by rfl) T.b_isinstance (by decide +kernel) (pa_cons (pv 0) (pa_cons (pe_bltn (v := .ty "bool") (by rfl) T.b_bool (by decide +kernel) rfl) pa_nil)))) (pe_one (C8.pe_c c_is_short hr (by decide) (by rfl) (pa_cons (pv 0) pa_nil))))))), ?_⟩
    refine ⟨_, rfl, _, _, _, _, true, rfl, .ty _, .base (.int i), kit_ty (by decide +kernel), true, rfl, iteT ?_⟩
    refine ⟨_, rfl, _, _, _, _, false, rfl, .ty _, .base (.int i), kit_ty (by decide +kernel), false, rfl, true, rfl, iteT ?_⟩
    exact ⟨_, rfl, i, rfl, hi, q⟩
def sp_is_row (K : PySem.W.Frag) : Sp := fun vs H Q _ => ∃ a ns, vs = [.ref a] ∧ SqT K H a (ns.map V.int) ∧ Row ns ∧ ∀ H', Kp N0 H H' → Q (.bl true) H'
theorem ok_is_row (T : Txt K mg) (D : Df K mg "is_row" s_is_row ["value"]) (c_is_integer : C8.Cal P w K mg base 2 "is_integer" (sp_is_integer) []) : C8.Cal P w K mg base 3 "is_row" (sp_is_row K) [] := by
  obtain ⟨f, fd, D, hb⟩ := D
  refine C8.cal0 D (.all hb) .nil sc_is_row (fun vs H Q E h => ?_) (fun cdv A outer s H vs Q E hr h => ?_)
  · obtain ⟨i, ns, rfl, _⟩ := h; rfl
  · obtain ⟨a, ns, rfl, ht, hr1, q⟩ := h
    refine ⟨_, (pss_cons (ps_if (PW.pt (pw_or (pt_not (pt_val (pe_callB (callK (K := K) rIsi call_isi) (by rfl) T.b_isinstance (by decide +kernel) (pa_cons (pv 0) (pa_cons (pe_bltn (v := .ty "tuple") (by rfl) T.b_tuple (by decide +kernel) rfl) pa_nil))))) (pw_or1 (pt_not (pt_chain op_lt op_le (C8.pe_gc (by rfl) T.c_LEAST_POINTS) (pe_callB (callK (K := K) Vf.rLen call_lenI) (by rfl) T.b_len (by decide +kernel) (pa_cons (pv 0) pa_nil)) (pe_op op_add (C8.pe_gc (by rfl) T.c_MOST_POINTS) pe_int)))))) (pss_one (ps_ret pe_bl)) pss_nil)
      (pss_one (ps_ret (pe_callB (callK (K := K) rAll (cr_all rfl)) (by rfl) T.b_all (by decide +kernel) (pa_cons (pe_lc (own := [("entry", 1)]) (g := gName 1) rfl sc_is_row.nd (pi_tup (pv 0)) (C8b.blk (N := ["value", "entry"]) (sc := C8.fnScope s_is_row) (by decide +kernel)) (fun _ _ _ _ _ => (pg_name (i := 1) sc_is_row.nd rfl (Or.inl rfl))) (fun _ _ _ _ _ => pts_nil) (fun _ _ _ _ _ => (C8.pe_c c_is_integer hr (by decide) (by rfl) (pa_cons (pv 1) pa_nil)))) pa_nil))))), ?_⟩
    refine ⟨_, rfl, _, _, _, _, true, rfl, .ty _, tyS ht, kit_ty (by decide +kernel), true, rfl, iteF ?_⟩
    refine ⟨_, rfl, lenS rfl ht ⟨_, _, rfl, rfl, _, rfl, ?_⟩⟩
    rw [decide_eq_true (by rw [List.length_map]; have := hr1.1; omega)]
    refine iteT ⟨_, _, rfl, rfl, _, _, rfl, rfl, _, rfl, ?_⟩
    rw [decide_eq_true (by rw [List.length_map]; have := hr1.2.1; omega)]
    refine iteF ?_
    refine ⟨_, rfl, _, rfl, ⟨_, ht⟩, ?_⟩
    refine lc_bools walk_tup (fun _ => true) (by rw [List.length_map]; have := hr1.2.1; omega) (fun H' k => k.sqT ht) ?_ ?_
    · rintro i x H1 H2 hi k ⟨rfl, hx⟩ R hR
      rw [List.length_map] at hi
      have e : x = .int (ns.getD i 0) := by
        rw [List.getElem?_map, List.getElem?_eq_getElem hi] at hx
        rw [← Option.some.inj hx, List.getD_eq_getElem?_getD, List.getElem?_eq_getElem hi]
        rfl
      subst e
      exact ⟨rfl, _, rfl, _, rfl, hr1.sh i hi, hR _ (.refl _ _)⟩
    · intro D H1 k h1
      refine ⟨D, _, rfl, SqL.of h1, ?_⟩
      rw [show (List.map (fun _ => true) (List.range (ns.map V.int).length)).all id = true by simp]
      exact q _ k
def sp_check_row (K : PySem.W.Frag) : Sp := fun vs H Q _ => ∃ a ns, vs = [.ref a] ∧ SqT K H a (ns.map V.int) ∧ Row ns ∧ ∀ H', Kp N0 H H' → Q .non H'
theorem ok_check_row (T : Txt K mg) (D : Df K mg "check_row" s_check_row ["row"]) (c_is_row : C8.Cal P w K mg base 3 "is_row" (sp_is_row K) []) : C8.Cal P w K mg base 4 "check_row" (sp_check_row K) [] := by
  obtain ⟨f, fd, D, hb⟩ := D
  refine C8.cal0 D (.all hb) .nil sc_check_row (fun vs H Q E h => ?_) (fun cdv A outer s H vs Q E hr h => ?_)
  · obtain ⟨i, ns, rfl, _⟩ := h; rfl
  · obtain ⟨a, ns, rfl, ht, hr1, q⟩ := h
    refine ⟨_, (pss_one (ps_if (pt_not (pt_val (C8.pe_c c_is_row hr (by decide) (by rfl) (pa_cons (pv 0) pa_nil)))) (pss_one ps_never) pss_nil)), ?_⟩
    exact ⟨_, rfl, _, _, rfl, ht, hr1, fun H1 k => ⟨true, rfl, iteF (q _ k)⟩⟩
theorem dot_all {ns ms : List Int} (h1 : 0 < ns.length) (h2 : 0 < ms.length) : 2 * ns.getD 0 0 * ms.getD 0 0 - (List.zipWith (· * ·) ns ms).sum = dot ns ms := by
  match ns, ms, h1, h2 with
  | x :: ns, y :: ms, _, _ =>
    show 2 * x * y - (x * y + (List.zipWith (· * ·) ns ms).sum) = x * y - (List.zipWith (· * ·) ns ms).sum
    generalize (List.zipWith (· * ·) ns ms).sum = z
    grind
def sp_product_of (K : PySem.W.Frag) : Sp := fun vs H Q _ => ∃ a b ns ms, vs = [.ref a, .ref b] ∧ SqT K H a (ns.map V.int) ∧ SqT K H b (ms.map V.int) ∧ Row ns ∧ Row ms ∧ ms.length = ns.length ∧ ∀ H', Kp N0 H H' → Q (.int (dot ns ms)) H'
theorem ok_product_of (T : Txt K mg) (D : Df K mg "product_of" s_product_of ["one", "other"]) : C8.Cal P w K mg base 1 "product_of" (sp_product_of K) [] := by
  obtain ⟨f, fd, D, hb⟩ := D
  refine C8.cal0 D (.all hb) .nil sc_product_of (fun vs H Q E h => ?_) (fun cdv A outer s H vs Q E hr h => ?_)
  · obtain ⟨_, _, _, _, rfl, _⟩ := h; rfl
  · obtain ⟨a, b, ns, ms, rfl, ha, hb, ra, rb, hl, q⟩ := h
    refine ⟨_, (pss_one (ps_ret (pe_op op_sub (pe_op op_mulE (pe_op op_mulE pe_int (pe_ix (ixK (K := K) rIxT ix_tup) (pv 0) pe_int (fun _ _ => rfl))) (pe_ix (ixK (K := K) rIxT ix_tup) (pv 1) pe_int (fun _ _ => rfl))) (pe_callB (callK (K := K) rSum (cr_sum rfl)) (by rfl) T.b_sum (by decide +kernel) (pa_cons (pe_lc (own := [("left", 2), ("right", 3)]) (g := gTup K 2 (gCons (gName 2) (gCons (gName 3) gNil))) rfl sc_product_of.nd (RZ.pi_zipA (by rfl) T.b_zip (pa_cons (pv 0) (pa_cons (pv 1) pa_nil))) (C8b.blk (N := ["one", "other", "left", "right"]) (sc := C8.fnScope s_product_of) (by decide +kernel)) (fun _ _ _ _ _ => (pg_tup rfl (pgs_cons (pg_name (i := 2) sc_product_of.nd rfl (Or.inl rfl)) (pgs_cons (pg_name (i := 3) sc_product_of.nd rfl (Or.inl rfl)) pgs_nil)))) (fun _ _ _ _ _ => pts_nil) (fun _ _ _ _ _ => (pe_op op_mulE (pv 2) (pv 3)))) pa_nil))))), ?_⟩
    have l1 := ra.1
    have l2 := ra.2.1
    have a0 := (ra.sh 0 (by omega)).le
    refine ⟨_, rfl, _, _, _, _, rfl, rfl, ha, at_row0 (by omega), _, _, rfl, rfl, wide_sh (by decide) (ra.sh 0 (by omega)).lt, ?_⟩
    refine ⟨_, rfl, _, _, _, _, rfl, rfl, hb, at_row0 (by omega), _, _, rfl, rfl, wide_sh (x := 2 * ns.getD 0 0) (Nat.lt_of_le_of_lt (by omega : (2 * ns.getD 0 0).natAbs ≤ 2 * TL.natAbs) TL2_lt) (rb.sh 0 (by omega)).lt, ?_⟩
    refine ⟨_, rfl, _, rfl, _, _, _, _, rfl, .inr ⟨ha, hb, ?_⟩⟩
    refine lc_ints (walk_zipT rfl) (fun i => ns.getD i 0 * ms.getD i 0) (by simp; omega) (fun H' k => ⟨k.sqT ha, k.sqT hb⟩) ?_ ?_
    · rintro i x H3 H4 hi k3 ⟨T, x1, x2, rfl, hT, rfl, e1, e2⟩ R hR
      have hi1 : i < ns.length := by simp at hi ⊢; omega
      have hi2 : i < ms.length := by omega
      obtain rfl : x1 = _ := (Option.some.inj ((int_at hi1).symm.trans e1)).symm
      obtain rfl : x2 = _ := (Option.some.inj ((int_at hi2).symm.trans e2)).symm
      exact ⟨T, _, rfl, SqT.of upd_same, rfl, _, _, rfl, _, _, rfl, rfl, rfl, _, rfl, _, rfl, _, _, rfl, rfl, wide_sh (ra.sh _ hi1).lt (rb.sh _ hi2).lt, hR _ (.new hT)⟩
    · intro D H3 k3 h3
      rw [range_zip (· * ·) ns ms _ (by simp)] at h3
      refine ⟨D, _, rfl, SqL.of h3, _, _, rfl, rfl, ?_⟩
      dsimp only
      rw [dot_all (by omega) (by omega)]
      exact q _ k3
def sp_product_with_cubic (K : PySem.W.Frag) : Sp := fun vs H Q _ => ∃ a ns, vs = [.ref a] ∧ SqT K H a (ns.map V.int) ∧ Row ns ∧ ∀ H', Kp N0 H H' → Q (.int (cub ns)) H'
theorem ok_product_with_cubic (T : Txt K mg) (D : Df K mg "product_with_cubic" s_product_with_cubic ["row"]) : C8.Cal P w K mg base 1 "product_with_cubic" (sp_product_with_cubic K) [] := by
  obtain ⟨f, fd, D, hb⟩ := D
  refine C8.cal0 D (.all hb) .nil sc_product_with_cubic (fun vs H Q E h => ?_) (fun cdv A outer s H vs Q E hr h => ?_)
  · obtain ⟨_, _, rfl, _⟩ := h; rfl
  · obtain ⟨a, ns, rfl, ha, ra, q⟩ := h
    refine ⟨_, (pss_one (ps_ret (pe_op op_sub (pe_op op_mulE pe_int (pe_ix (ixK (K := K) rIxT ix_tup) (pv 0) pe_int (fun _ _ => rfl))) (pe_callB (callK (K := K) rSumT (cr_sumT rfl)) (by rfl) T.b_sum (by decide +kernel) (pa_cons (pe_slice (slK (K := K) rSlI sl_tupI) (pv 0) (po_some pe_int) po_none) pa_nil))))), ?_⟩
    have l1 := ra.1
    refine ⟨_, rfl, _, _, _, _, rfl, rfl, ha, at_row0 (by omega), _, _, rfl, rfl, wide_sh (by decide) (ra.sh 0 (by omega)).lt, ?_⟩
    refine ⟨_, rfl, _, rfl, slS ha (nw1 (by rw [List.length_map]; omega)) fun p H1 k1 hp => ?_⟩
    rw [cut_1] at hp
    exact ⟨p, _, rfl, SqT.of hp, _, _, rfl, rfl, q _ k1⟩
def sp_counting_of (K : PySem.W.Frag) : Sp := fun vs H Q _ => ∃ a ns, vs = [.ref a] ∧ H a = some (.tup (ns.map V.int)) ∧ Row ns ∧ ∀ H', Kp N0 H H' → Q (.int (cntg ns)) H'
theorem ok_counting_of (T : Txt K mg) (D : Df K mg "counting_of" s_counting_of ["row"]) (c_product_of : C8.Cal P w K mg base 1 "product_of" (sp_product_of K) []) (c_product_with_cubic : C8.Cal P w K mg base 1 "product_with_cubic" (sp_product_with_cubic K) []) : C8.Cal P w K mg base 2 "counting_of" (sp_counting_of K) [] := by
  obtain ⟨f, fd, D, hb⟩ := D
  refine C8.cal0 D (.all hb) .nil sc_counting_of (fun vs H Q E h => ?_) (fun cdv A outer s H vs Q E hr h => ?_)
  · obtain ⟨_, _, rfl, _⟩ := h; rfl
  · obtain ⟨a, ns, rfl, ha, ra, q⟩ := h
    refine ⟨_, (pss_one (ps_ret (pe_op op_add (pe_op op_fdivW (pe_op op_add (C8.pe_c c_product_of hr (by decide) (by rfl) (pa_cons (pv 0) (pa_cons (pv 0) pa_nil))) (C8.pe_c c_product_with_cubic hr (by decide) (by rfl) (pa_cons (pv 0) pa_nil))) pe_int) pe_int))), ?_⟩
    refine ⟨_, rfl, _, rfl, _, _, _, _, rfl, (SqT.of ha), (SqT.of ha), ra, ra, rfl, fun H1 k1 => ?_⟩
    refine ⟨_, rfl, _, _, rfl, (SqT.of (k1.tup _ _ ha)), ra, fun H2 k2 => ?_⟩
    exact ⟨_, _, rfl, rfl, _, _, rfl, rfl, wide_2, _, _, rfl, rfl, q _ (k1.trans k2)⟩
def sp_counting (K : PySem.W.Frag) : Sp := fun vs H Q _ => ∃ a ns, vs = [.ref a] ∧ H a = some (.tup (ns.map V.int)) ∧ Row ns ∧ ∀ H', Kp N0 H H' → Q (.int (cntg ns)) H'
theorem ok_counting (T : Txt K mg) (D : Df K mg "counting" s_counting ["row"]) (c_check_row : C8.Cal P w K mg base 4 "check_row" (sp_check_row K) []) (c_counting_of : C8.Cal P w K mg base 2 "counting_of" (sp_counting_of K) []) : C8.Cal P w K mg base 5 "counting" (sp_counting K) [] := by
  obtain ⟨f, fd, D, hb⟩ := D
  refine C8.cal0 D (.all hb) .nil sc_counting (fun vs H Q E h => ?_) (fun cdv A outer s H vs Q E hr h => ?_)
  · obtain ⟨_, _, rfl, _⟩ := h; rfl
  · obtain ⟨a, ns, rfl, ha, ra, q⟩ := h
    refine ⟨_, (pss_cons (ps_expr (C8.pe_c c_check_row hr (by decide) (by rfl) (pa_cons (pv 0) pa_nil)))
      (pss_one (ps_ret (C8.pe_c c_counting_of hr (by decide) (by rfl) (pa_cons (pv 0) pa_nil))))), ?_⟩
    refine ⟨_, rfl, _, _, rfl, (SqT.of ha), ra, fun H1 k1 => ?_⟩
    exact ⟨_, rfl, _, _, rfl, (k1.tup _ _ ha), ra, fun H2 k2 => q _ (k1.trans k2)⟩
def sp_genus (K : PySem.W.Frag) : Sp := fun vs H Q _ => ∃ a ns, vs = [.ref a] ∧ H a = some (.tup (ns.map V.int)) ∧ Row ns ∧ ∀ H', Kp N0 H H' → Q (.int (gen ns)) H'
theorem ok_genus (T : Txt K mg) (D : Df K mg "genus" s_genus ["row"]) (c_check_row : C8.Cal P w K mg base 4 "check_row" (sp_check_row K) []) (c_product_of : C8.Cal P w K mg base 1 "product_of" (sp_product_of K) []) (c_product_with_cubic : C8.Cal P w K mg base 1 "product_with_cubic" (sp_product_with_cubic K) []) : C8.Cal P w K mg base 5 "genus" (sp_genus K) [] := by
  obtain ⟨f, fd, D, hb⟩ := D
  refine C8.cal0 D (.all hb) .nil sc_genus (fun vs H Q E h => ?_) (fun cdv A outer s H vs Q E hr h => ?_)
  · obtain ⟨_, _, rfl, _⟩ := h; rfl
  · obtain ⟨a, ns, rfl, ha, ra, q⟩ := h
    refine ⟨_, (pss_cons (ps_expr (C8.pe_c c_check_row hr (by decide) (by rfl) (pa_cons (pv 0) pa_nil)))
      (pss_one (ps_ret (pe_op op_add (pe_op op_fdivW (pe_op op_sub (C8.pe_c c_product_of hr (by decide) (by rfl) (pa_cons (pv 0) (pa_cons (pv 0) pa_nil))) (C8.pe_c c_product_with_cubic hr (by decide) (by rfl) (pa_cons (pv 0) pa_nil))) pe_int) pe_int)))), ?_⟩
    refine ⟨_, rfl, _, _, rfl, (SqT.of ha), ra, fun H1 k1 => ?_⟩
    have h1 := k1.tup _ _ ha
    refine ⟨_, rfl, _, rfl, _, _, _, _, rfl, (SqT.of h1), (SqT.of h1), ra, ra, rfl, fun H2 k2 => ?_⟩
    refine ⟨_, rfl, _, _, rfl, (SqT.of (k2.tup _ _ h1)), ra, fun H3 k3 => ?_⟩
    exact ⟨_, _, rfl, rfl, _, _, rfl, rfl, wide_2, _, _, rfl, rfl, q _ ((k1.trans k2).trans k3)⟩

/-! ### the dice -/
def sp_l_dice (K : PySem.W.Frag) : Sp := fun vs H Q _ => ∃ (a : Addr) (ns : List Int) (i : Nat), vs = [.ref a, .int i] ∧ SqL K H a (ns.map V.int) ∧ i ≤ 100 ∧ ∀ p H', H p = none → Kp N0 H H' → Dc p H' → Q (.ref p) H'
theorem ok_l_dice (T : Txt K mg) (D : Df K mg "_law_dice" s_l_dice ["_law_script", "_law_at"]) : C8.Cal P w K mg base 1 "_law_dice" (sp_l_dice K) [] := by
  obtain ⟨f, fd, D, hb⟩ := D
  refine C8.cal0 D (.all hb) .nil sc_l_dice (fun vs H Q E h => ?_) (fun cdv A outer s H vs Q E hr h => ?_)
  · obtain ⟨_, _, _, rfl, _⟩ := h; rfl
  · obtain ⟨a, ns, i, rfl, ha, hi, q⟩ := h
    refine ⟨_, (pss_cons (ps_set (i := 2) sc_l_dice.nd rfl (Or.inl rfl) (pe_op op_add (pe_op op_mulE pe_int (pv 1)) pe_int))
      (pss_cons (ps_if (pt_cmpR op_lt (pv 1) (pe_callB (callK (K := K) Vf.rLen call_lenI) (by rfl) T.b_len (by decide +kernel) (pa_cons (pv 0) pa_nil)) (nomark _)) (pss_one (ps_set (i := 2) sc_l_dice.nd rfl (Or.inl rfl) (pe_ix (ixK (K := K) rIxL ix_list) (pv 0) (pv 1) (fun _ _ => rfl)))) pss_nil)
      (pss_cons (ps_set (i := 3) sc_l_dice.nd rfl (Or.inl rfl) (pe_op op_mod (pe_callTy call_int1 (by rfl) T.b_int (by decide +kernel) (pa_cons (pe_callB call_abs (by rfl) T.b_abs (by decide +kernel) (pa_cons (pv 2) pa_nil)) pa_nil)) (pe_op op_powW (pe_op op_powW pe_int pe_int) pe_int)))
      (pss_cons (ps_set (i := 4) sc_l_dice.nd rfl (Or.inl rfl) (pe_op op_fdivW (pv 3) (pe_op op_powW pe_int pe_int)))
      (pss_cons (ps_set (i := 5) sc_l_dice.nd rfl (Or.inl rfl) (pe_op op_add (pe_op op_add (pe_op op_add (pe_op op_mulE (pe_op op_mod (pv 3) pe_int) pe_int) (pe_op op_mulE pe_int (pv 1))) (pe_op op_mulE pe_int (pe_callTy call_int1 (by rfl) T.b_int (by decide +kernel) (pa_cons (pe_cmpR op_lt (pv 2) pe_int (nomark _)) pa_nil)))) pe_int))
      (pss_one (ps_ret (pe_lstN (pa_cons (pv 4) (pa_cons (pe_op op_mod (pv 5) pe_int) (pa_cons pe_int pa_nil))))))))))), ?_⟩
    have hw : ∀ {n : Int}, n.natAbs ≤ 100 → n.natAbs < 2 ^ 64 := fun h => Nat.lt_of_le_of_lt h (by decide)
    refine ⟨_, rfl, _, _, rfl, rfl, wmul (a := 64) (b := 64) (by decide) (hw (by omega)) (by decide) (by decide) (by decide), _, _, rfl, rfl, ?_⟩
    refine ⟨_, rfl, _, rfl, lenL rfl ha ⟨_, _, rfl, rfl, _, rfl, ?_⟩⟩
    refine ite2 (fun c => ?_) (fun c => ?_)
    · have hc : i < ns.length := by
        have := of_decide_eq_true c
        rw [List.length_map] at this
        omega
      refine ⟨_, rfl, _, rfl, a, _, _, _, rfl, rfl, ha, at_row hc, ?_⟩
      refine ⟨_, rfl, _, rfl, .inl ⟨_, rfl, ?_⟩⟩
      refine ⟨_, _, rfl, rfl, ⟨by decide, by decide⟩, _, _, rfl, rfl, ⟨by decide, by decide +kernel⟩, _, _, rfl, rfl, pow_pos_, ?_⟩
      refine ⟨_, rfl, _, _, rfl, rfl, ⟨by decide, by decide⟩, _, _, rfl, rfl, wide_div (b := 64) (by decide) (by decide) (by decide) (by decide), ?_⟩
      refine ⟨_, rfl, _, _, rfl, rfl, lp (by decide), _, _, rfl, rfl, wmul (a := 64) (b := 64) (mod_lt64 (by decide)) (by decide) (by decide) (by decide) (by decide), ?_⟩
      refine ⟨_, rfl, _, _, rfl, rfl, wmul (a := 64) (b := 64) (by decide) (hw (by omega)) (by decide) (by decide) (by decide), _, _, rfl, rfl, ?_⟩
      refine ⟨_, rfl, _, _, rfl, rfl, .inr ⟨_, rfl, _, _, rfl, rfl, wmul (a := 64) (b := 64) (by decide) b2i_lt (by decide) (by decide) (by decide), _, _, rfl, rfl, _, _, rfl, rfl, ?_⟩⟩
      refine ⟨_, rfl, _, rfl, _, _, rfl, rfl, lp (by decide), newL (sz_ (by simp)) fun p H1 n1 k1 h1 => q p H1 n1 k1 ⟨_, _, _, h1⟩⟩
    · refine ⟨_, rfl, _, rfl, .inl ⟨_, rfl, ?_⟩⟩
      refine ⟨_, _, rfl, rfl, ⟨by decide, by decide⟩, _, _, rfl, rfl, ⟨by decide, by decide +kernel⟩, _, _, rfl, rfl, pow_pos_, ?_⟩
      refine ⟨_, rfl, _, _, rfl, rfl, ⟨by decide, by decide⟩, _, _, rfl, rfl, wide_div (b := 64) (by decide) (by decide) (by decide) (by decide), ?_⟩
      refine ⟨_, rfl, _, _, rfl, rfl, lp (by decide), _, _, rfl, rfl, wmul (a := 64) (b := 64) (mod_lt64 (by decide)) (by decide) (by decide) (by decide) (by decide), ?_⟩
      refine ⟨_, rfl, _, _, rfl, rfl, wmul (a := 64) (b := 64) (by decide) (hw (by omega)) (by decide) (by decide) (by decide), _, _, rfl, rfl, ?_⟩
      refine ⟨_, rfl, _, _, rfl, rfl, .inr ⟨_, rfl, _, _, rfl, rfl, wmul (a := 64) (b := 64) (by decide) b2i_lt (by decide) (by decide) (by decide), _, _, rfl, rfl, _, _, rfl, rfl, ?_⟩⟩
      refine ⟨_, rfl, _, rfl, _, _, rfl, rfl, lp (by decide), newL (sz_ (by simp)) fun p H1 n1 k1 h1 => q p H1 n1 k1 ⟨_, _, _, h1⟩⟩
def sp_l_roll : Sp := fun vs H Q _ => ∃ (a : Addr) (n : Int), vs = [.ref a, .int n] ∧ Dc a H ∧ 0 < n ∧ n.natAbs < 2 ^ 700 ∧ ∀ r H', 0 ≤ r → r < n → DR a H H' → Q (.int r) H'
theorem ok_l_roll (T : Txt K mg) (D : Df K mg "_law_roll" s_l_roll ["_law_dice_here", "_law_total"]) : C8.Cal P w K mg base 1 "_law_roll" (sp_l_roll) [] := by
  obtain ⟨f, fd, D, hb⟩ := D
  refine C8.cal0 D (.all hb) .nil sc_l_roll (fun vs H Q E h => ?_) (fun cdv A outer s H vs Q E hr h => ?_)
  · obtain ⟨_, _, rfl, _⟩ := h; rfl
  · obtain ⟨a, n, rfl, ⟨l, m, c, hd⟩, h0, hn, q⟩ := h
    refine ⟨_, (pss_cons (ps_set (i := 2) sc_l_roll.nd rfl (Or.inl rfl) (pe_callTy call_int1 (by rfl) T.b_int (by decide +kernel) (pa_cons (pv 1) pa_nil)))
      (pss_cons (ps_if (pt_cmpR op_gt (pe_ix (ixK (K := K) rIxL ix_list) (pv 0) pe_int (fun _ _ => rfl)) pe_int (nomark _)) (pss_cons (ps_set (i := 3) sc_l_roll.nd rfl (Or.inl rfl) (pe_op op_mod (pe_ix (ixK (K := K) rIxL ix_list) (pv 0) pe_int (fun _ _ => rfl)) (pv 2)))
      (pss_cons (ps_asg (pe_op op_fdivW (pe_ix (ixK (K := K) rIxL ix_list) (pv 0) pe_int (fun _ _ => rfl)) (pv 2)) (pg_sub (pv 0) pe_int set_list))
      (pss_one (ps_ret (pe_callTy call_int1 (by rfl) T.b_int (by decide +kernel) (pa_cons (pv 3) pa_nil)))))) pss_nil)
      (pss_cons (ps_asg (pe_op op_add (pe_ix (ixK (K := K) rIxL ix_list) (pv 0) pe_int (fun _ _ => rfl)) pe_int) (pg_sub (pv 0) pe_int set_list))
      (pss_cons (ps_set (i := 4) sc_l_roll.nd rfl (Or.inl rfl) (pe_op op_mod (pe_op op_add (pe_ix (ixK (K := K) rIxL ix_list) (pv 0) pe_int (fun _ _ => rfl)) (pe_op op_mulE pe_int (pe_ix (ixK (K := K) rIxL ix_list) (pv 0) pe_int (fun _ _ => rfl)))) pe_int))
      (pss_cons (ps_set (i := 5) sc_l_roll.nd rfl (Or.inl rfl) (pe_op op_add (pe_op op_mulE (pe_op op_mod (pe_op op_mulE (pv 4) (pv 4)) pe_int) (pv 4)) (pe_op op_mulE pe_int (pe_ix (ixK (K := K) rIxL ix_list) (pv 0) pe_int (fun _ _ => rfl)))))
      (pss_cons (ps_set (i := 5) sc_l_roll.nd rfl (Or.inl rfl) (pe_op op_mod (pv 5) pe_int))
      (pss_one (ps_ret (pe_callTy call_int1 (by rfl) T.b_int (by decide +kernel) (pa_cons (pe_op op_mod (pe_op op_fdivW (pv 5) pe_int) (pv 2)) pa_nil)))))))))), ?_⟩
    refine ⟨_, rfl, .inl ⟨_, rfl, ?_⟩⟩
    refine ⟨_, rfl, a, _, _, _, rfl, rfl, SqL.of hd, rfl, _, _, rfl, rfl, _, rfl, ?_⟩
    refine ite2 (fun _ => ?_) (fun _ => ?_)
    · refine ⟨_, rfl, a, _, _, _, rfl, rfl, SqL.of hd, rfl, _, rfl, _, _, rfl, rfl, h0, ?_⟩
      refine ⟨_, rfl, a, _, _, _, rfl, rfl, SqL.of hd, rfl, _, rfl, _, _, rfl, rfl, wide_div h0 hn (by decide) (by decide), ?_⟩
      refine ⟨_, rfl, a, _, _, 0, rfl, rfl, hd, rfl, ?_⟩
      exact ⟨_, rfl, .inl ⟨_, rfl, q _ _ (Int.emod_nonneg _ (by omega)) (Int.emod_lt_of_pos _ h0) ⟨.mut rfl hd, _, _, _, upd_same⟩⟩⟩
    · refine ⟨_, rfl, a, _, _, _, rfl, rfl, SqL.of hd, rfl, _, _, rfl, rfl, ?_⟩
      refine ⟨_, rfl, a, _, _, 2, rfl, rfl, hd, rfl, ?_⟩
      have hd1 : upd H a (.lst [.int l, .int m, .int (c + 1)]) a = some (.lst [.int l, .int m, .int (c + 1)]) := upd_same
      have k1 : DR a H (upd H a (.lst [.int l, .int m, .int (c + 1)])) := ⟨.mut rfl hd, _, _, _, upd_same⟩
      refine ⟨_, rfl, a, _, _, _, rfl, rfl, SqL.of hd1, rfl, _, rfl, a, _, _, _, rfl, rfl, SqL.of hd1, rfl, _, _, rfl, rfl, mulX_left (by decide), _, _, rfl, rfl, _, _, rfl, rfl, lp (by decide), ?_⟩
      refine ⟨_, rfl, _, rfl, _, _, rfl, rfl, wmul (a := 64) (b := 64) (mod_lt64 (by decide)) (mod_lt64 (by decide)) (by decide) (by decide) (by decide), _, _, rfl, rfl, lp (by decide), _, rfl, _, _, rfl, rfl, wmul (a := 64) (b := 64) (mod_lt64 (by decide)) (mod_lt64 (by decide)) (by decide) (by decide) (by decide), _, rfl, a, _, _, _, rfl, rfl, SqL.of hd1, rfl, _, _, rfl, rfl, mulX_left (by decide), _, _, rfl, rfl, ?_⟩
      refine ⟨_, rfl, _, _, rfl, rfl, lp (by decide), ?_⟩
      exact ⟨_, rfl, _, _, rfl, rfl, wide_div (b := 64) (by decide) (by decide) (by decide) (by decide), _, rfl, _, _, rfl, rfl, h0, .inl ⟨_, rfl, q _ _ (Int.emod_nonneg _ (by omega)) (Int.emod_lt_of_pos _ h0) k1⟩⟩

def sp_terms_of (K : PySem.W.Frag) : Sp := fun vs H Q _ => ∃ a ns, vs = [.ref a] ∧ H a = some (.tup (ns.map V.int)) ∧ Row ns ∧ ∀ H', Kp N0 H H' → Q (.int (terms ns)) H'
theorem ok_terms_of (T : Txt K mg) (D : Df K mg "terms_of" s_terms_of ["row"]) (c_check_row : C8.Cal P w K mg base 4 "check_row" (sp_check_row K) []) : C8.Cal P w K mg base 5 "terms_of" (sp_terms_of K) [] := by
  obtain ⟨f, fd, D, hb⟩ := D
  refine C8.cal0 D (.all hb) .nil sc_terms_of (fun vs H Q E h => ?_) (fun cdv A outer s H vs Q E hr h => ?_)
  · obtain ⟨_, _, rfl, _⟩ := h; rfl
  · obtain ⟨a, ns, rfl, ha, ra, q⟩ := h
    refine ⟨_, (pss_cons (ps_expr (C8.pe_c c_check_row hr (by decide) (by rfl) (pa_cons (pv 0) pa_nil)))
      (pss_cons (ps_set (i := 1) sc_terms_of.nd rfl (Or.inl rfl) (pe_ix (ixK (K := K) rIxT ix_tup) (pv 0) pe_int (fun _ _ => rfl)))
      (pss_one (ps_ret (pe_ifExp (pt_cmpR op_lt (pv 1) pe_int (nomark _)) pe_int (pe_op op_fdivW (pe_op op_mulE (pe_op op_add (pv 1) pe_int) (pe_op op_add (pv 1) pe_int)) pe_int)))))), ?_⟩
    have l1 := ra.1
    refine ⟨_, rfl, _, _, rfl, (SqT.of ha), ra, fun H1 k1 => ?_⟩
    refine ⟨_, rfl, _, _, _, _, rfl, rfl, SqT.of (k1.tup _ _ ha), at_row0 (by omega), ?_⟩
    have s0 := (ra.sh 0 (by omega))
    have q := q _ k1
    unfold terms at q
    refine ⟨_, rfl, _, _, rfl, rfl, _, rfl, ite2 (fun c => ?_) (fun c => ?_)⟩
    · rw [if_pos (of_decide_eq_true c)] at q
      exact q
    · rw [if_neg (fun z => c (decide_eq_true z))] at q
      refine ⟨_, rfl, _, _, rfl, rfl, _, rfl, _, _, rfl, rfl, _, _, rfl, rfl, wmul (a := 701) (b := 701) ?_ ?_ (by decide) (by decide) (by decide), _, _, rfl, rfl, wide_2, q⟩
      · have := s0.lt; omega
      · have := s0.lt; omega
def sp_conditions_of (K : PySem.W.Frag) : Sp := fun vs H Q _ => ∃ a ns, vs = [.ref a] ∧ H a = some (.tup (ns.map V.int)) ∧ Row ns ∧ ∀ H', Kp N0 H H' → Q (.int (conds ns)) H'
theorem ok_conditions_of (T : Txt K mg) (D : Df K mg "conditions_of" s_conditions_of ["row"]) (c_check_row : C8.Cal P w K mg base 4 "check_row" (sp_check_row K) []) : C8.Cal P w K mg base 5 "conditions_of" (sp_conditions_of K) [] := by
  obtain ⟨f, fd, D, hb⟩ := D
  refine C8.cal0 D (.all hb) .nil sc_conditions_of (fun vs H Q E h => ?_) (fun cdv A outer s H vs Q E hr h => ?_)
  · obtain ⟨_, _, rfl, _⟩ := h; rfl
  · obtain ⟨a, ns, rfl, ha, ra, q⟩ := h
    refine ⟨_, (pss_cons (ps_expr (C8.pe_c c_check_row hr (by decide) (by rfl) (pa_cons (pv 0) pa_nil)))
      (pss_one (ps_ret (pe_callB (callK (K := K) rSum (cr_sum rfl)) (by rfl) T.b_sum (by decide +kernel) (pa_cons (pe_lc (own := [("number", 1)]) (g := gName 1) rfl sc_conditions_of.nd (pi_tup (pe_slice (slK (K := K) rSlI sl_tupI) (pv 0) (po_some pe_int) po_none)) (C8b.blk (N := ["row", "number"]) (sc := C8.fnScope s_conditions_of) (by decide +kernel)) (fun _ _ _ _ _ => (pg_name (i := 1) sc_conditions_of.nd rfl (Or.inl rfl))) (fun _ _ _ _ _ => (pts_one (pt_cmpR op_gt (pv 1) pe_int (nomark _)))) (fun _ _ _ _ _ => (pe_op op_fdivW (pe_op op_mulE (pv 1) (pe_op op_add (pv 1) pe_int)) pe_int))) pa_nil))))), ?_⟩
    have l1 := ra.1
    have l2 := ra.2.1
    refine ⟨_, rfl, _, _, rfl, (SqT.of ha), ra, fun H1 k1 => ?_⟩
    refine ⟨_, rfl, _, rfl, slT (k1.tup _ _ ha) fun p H2 k2 hp => ?_⟩
    rw [cut_1] at hp
    refine ⟨_, rfl, ⟨_, SqT.of hp⟩, ?_⟩
    refine lc_filt walk_tup (fun i => decide (0 < (ns.drop 1).getD i 0)) (fun i => (ns.drop 1).getD i 0 * ((ns.drop 1).getD i 0 + 1) / 2) (by simp; omega) (fun H' k => SqT.of (k.tup _ _ hp)) ?_ gm_name ?_
    · rintro i x H3 H4 hi k ⟨rfl, hx⟩
      rw [List.length_map] at hi
      rw [int_at hi] at hx
      cases hx
      have s0 : Sh ((ns.drop 1).getD i 0) := by
        rw [List.getD_eq_getElem?_getD, List.getElem?_drop, ← List.getD_eq_getElem?_getD]
        exact ra.sh _ (by simp at hi; omega)
      refine ⟨rfl, fun R hR => ⟨_, rfl, _, _, rfl, rfl, _, rfl, hR _ (.refl _ _)⟩, fun _ H5 k5 R hR => ?_⟩
      refine ⟨_, rfl, _, rfl, _, _, rfl, rfl, _, _, rfl, rfl, wmul (a := 701) (b := 701) ?_ ?_ (by decide) (by decide) (by decide), _, _, rfl, rfl, wide_2, hR _ k5⟩
      · have := s0.lt; omega
      · have := s0.lt; omega
    · intro D H3 k3 h3
      rw [show (ns.drop 1 |>.map V.int).length = (ns.drop 1).length by simp, filt_getD (fun m => decide (0 < m)) (fun m => m * (m + 1) / 2)] at h3
      exact ⟨D, _, rfl, SqL.of h3, q _ ((k1.trans k2).trans k3)⟩

/-! ### the mathematics -/
def lterms (d : Int) : Int := ((List.range (d + 1).toNat).map fun i : Nat => d - (0 + (i : Int)) + 1).sum
def rng1 (m : Int) : List Int := (List.range (m + 1 - 1).toNat).map fun i : Nat => 1 + (i : Int)
def lconds (ms : List Int) : Int := ((ms.filter fun m => decide (0 < m)).map fun m => (rng1 m).sum).sum
def sq (ms : List Int) : Int := (ms.map fun m => m * m).sum
theorem sum_app (a b : List Int) : (a ++ b).sum = a.sum + b.sum := by
  induction a with
  | nil => simp
  | cons x r ih => rw [List.cons_append, List.sum_cons, ih, List.sum_cons, Int.add_assoc]
theorem tri (n : Nat) (d : Int) (k : Int) : 2 * ((List.range n).map fun i : Nat => d - (0 + (i : Int)) + k).sum = 2 * (n : Int) * (d + k) - (n : Int) * ((n : Int) - 1) := by
  induction n with
  | zero => simp
  | succ n ih =>
    rw [List.range_succ, List.map_append, sum_app, Int.mul_add, ih]
    simp only [List.map_cons, List.map_nil, List.sum_cons, List.sum_nil]
    push_cast
    simp only [Int.mul_add, Int.add_mul, Int.mul_sub, Int.sub_mul, Int.mul_one, Int.one_mul]
    omega
theorem tri1 (n : Nat) : 2 * ((List.range n).map fun i : Nat => 1 + (i : Int)).sum = (n : Int) * ((n : Int) + 1) := by
  induction n with
  | zero => simp
  | succ n ih =>
    rw [List.range_succ, List.map_append, sum_app, Int.mul_add, ih]
    simp only [List.map_cons, List.map_nil, List.sum_cons, List.sum_nil]
    push_cast
    simp only [Int.mul_add, Int.add_mul, Int.mul_one, Int.one_mul]
    omega
theorem lterms_eq (ns : List Int) : terms ns = lterms (ns.getD 0 0) := by
  unfold terms lterms
  generalize ns.getD 0 0 = d
  by_cases h : d < 0
  · rw [if_pos h, show (d + 1).toNat = 0 by omega]
    rfl
  · rw [if_neg h]
    have t := tri (d + 1).toNat d 1
    rw [show (((d + 1).toNat : Nat) : Int) = d + 1 by omega] at t
    have e : (d + 1) * (d + 2) = 2 * (d + 1) * (d + 1) - (d + 1) * (d + 1 - 1) := by
      simp only [Int.mul_add, Int.add_mul, Int.mul_sub, Int.sub_mul, Int.mul_one, Int.one_mul, Int.mul_assoc, Int.two_mul]
      omega
    omega
theorem rng1_sum (m : Int) (h : 0 < m) : (rng1 m).sum = m * (m + 1) / 2 := by
  have t := tri1 (m + 1 - 1).toNat
  rw [show (((m + 1 - 1).toNat : Nat) : Int) = m by omega] at t
  unfold rng1
  omega
theorem conds_eq (ns : List Int) : conds ns = lconds (ns.drop 1) := by
  unfold conds lconds
  congr 1
  refine List.map_congr_left fun m hm => ?_
  have := (List.mem_filter.mp hm).2
  exact (rng1_sum m (of_decide_eq_true this)).symm
theorem zw_sq (ms : List Int) : (List.zipWith (· * ·) ms ms).sum = sq ms := by
  induction ms with
  | nil => rfl
  | cons x r ih =>
    show x * x + (List.zipWith (· * ·) r r).sum = x * x + sq r
    rw [ih]
theorem sum_set (ms : List Int) (i : Nat) (v : Int) (h : i < ms.length) : (ms.set i v).sum = ms.sum - ms.getD i 0 + v := by
  induction ms generalizing i with
  | nil => simp at h
  | cons x r ih =>
    cases i with
    | zero =>
      show v + r.sum = x + r.sum - x + v
      omega
    | succ i =>
      have := ih i (by simpa using h)
      show x + (r.set i v).sum = x + r.sum - r.getD i 0 + v
      omega
theorem sq_set (ms : List Int) (i : Nat) (v : Int) (h : i < ms.length) : sq (ms.set i v) = sq ms - ms.getD i 0 * ms.getD i 0 + v * v := by
  induction ms generalizing i with
  | nil => simp at h
  | cons x r ih =>
    cases i with
    | zero =>
      show v * v + sq r = x * x + sq r - x * x + v * v
      omega
    | succ i =>
      have := ih i (by simpa using h)
      show x * x + sq (r.set i v) = x * x + sq r - r.getD i 0 * r.getD i 0 + v * v
      omega
def c1 (m : Int) : Int := if 0 < m then m * (m + 1) / 2 else 0
def cs (ms : List Int) : Int := (ms.map c1).sum
theorem conds_cs (ns : List Int) : conds ns = cs (ns.drop 1) := by
  unfold conds cs
  generalize ns.drop 1 = ms
  induction ms with
  | nil => rfl
  | cons x r ih =>
    rw [List.map_cons, List.sum_cons, List.filter_cons]
    by_cases h : 0 < x
    · rw [if_pos (decide_eq_true h), List.map_cons, List.sum_cons, ih, c1, if_pos h]
    · rw [if_neg (by simpa using h), ih, c1, if_neg h, Int.zero_add]
theorem cs_set (ms : List Int) (i : Nat) (v : Int) (h : i < ms.length) : cs (ms.set i v) = cs ms - c1 (ms.getD i 0) + c1 v := by
  induction ms generalizing i with
  | nil => simp at h
  | cons x r ih =>
    cases i with
    | zero =>
      show c1 v + cs r = c1 x + cs r - c1 x + c1 v
      omega
    | succ i =>
      have := ih i (by simpa using h)
      show c1 x + cs (r.set i v) = c1 x + cs r - c1 (r.getD i 0) + c1 v
      omega
theorem cntg_eq (d : Int) (ms : List Int) : cntg (d :: ms) = (d * d - sq ms + (3 * d - ms.sum)) / 2 + 1 := by
  show (d * d - (List.zipWith (· * ·) ms ms).sum + (3 * d - ms.sum)) / 2 + 1 = _
  rw [zw_sq]
theorem gen_eq (d : Int) (ms : List Int) : gen (d :: ms) = (d * d - sq ms - (3 * d - ms.sum)) / 2 + 1 := by
  show (d * d - (List.zipWith (· * ·) ms ms).sum - (3 * d - ms.sum)) / 2 + 1 = _
  rw [zw_sq]
/-- twice the conditions, where no number is below -1 -/
theorem cs_two (ms : List Int) (h : ∀ m ∈ ms, -1 ≤ m) : 2 * cs ms = sq ms + ms.sum := by
  induction ms with
  | nil => rfl
  | cons x r ih =>
    have ih := ih fun m hm => h m (List.mem_cons_of_mem _ hm)
    have hx := h x List.mem_cons_self
    have e : 2 * c1 x = x * x + x := by
      unfold c1
      by_cases p : 0 < x
      · rw [if_pos p]
        have e1 : x * (x + 1) = x * x + x := by rw [Int.mul_add, Int.mul_one]
        rw [e1]
        have : (x * x + x) % 2 = 0 := by
          rcases (show x % 2 = 0 ∨ x % 2 = 1 by omega) with q | q
          · rw [Int.add_emod, Int.mul_emod, q]; rfl
          · rw [Int.add_emod, Int.mul_emod, q]; rfl
        omega
      · rw [if_neg p]
        rcases (show x = 0 ∨ x = -1 by omega) with q | q <;> rw [q] <;> rfl
    show 2 * (c1 x + cs r) = x * x + sq r + (x + r.sum)
    omega
theorem cntg_small {d : Int} {ms : List Int} (hd : -2 ≤ d) (hm : ∀ m ∈ ms, -1 ≤ m) : cntg (d :: ms) = terms (d :: ms) - conds (d :: ms) := by
  rw [cntg_eq, conds_cs]
  have h2 := cs_two ms hm
  show _ = (if d < 0 then 0 else (d + 1) * (d + 2) / 2) - cs ms
  have e : (d + 1) * (d + 2) = d * d + 3 * d + 2 := by
    simp only [Int.mul_add, Int.add_mul, Int.one_mul]
    omega
  by_cases p : d < 0
  · rw [if_pos p]
    rcases (show d = -1 ∨ d = -2 by omega) with q | q <;> subst q <;> omega
  · rw [if_neg p, e]
    have : (d * d + 3 * d + 2) % 2 = 0 := by
      have : (d * d + d) % 2 = 0 := by
        rcases (show d % 2 = 0 ∨ d % 2 = 1 by omega) with q | q
        · rw [Int.add_emod, Int.mul_emod, q]; rfl
        · rw [Int.add_emod, Int.mul_emod, q]; rfl
      omega
    omega
theorem turn_c0 (d : Int) (ms : List Int) : cntg ((0 - 3 - d) :: ms) = cntg (d :: ms) := by
  rw [cntg_eq, cntg_eq]
  have e : (0 - 3 - d) * (0 - 3 - d) = d * d + 6 * d + 9 := by
    simp only [Int.mul_sub, Int.sub_mul]
    omega
  rw [e]
  omega
theorem turn_g0 (d : Int) (ms : List Int) : gen ((3 - d) :: ms) = gen (d :: ms) := by
  rw [gen_eq, gen_eq]
  have e : (3 - d) * (3 - d) = d * d - 6 * d + 9 := by
    simp only [Int.mul_sub, Int.sub_mul]
    omega
  rw [e]
  omega
theorem turn_c (d : Int) (ms : List Int) (i : Nat) (h : i < ms.length) : cntg (d :: ms.set i (0 - 1 - ms.getD i 0)) = cntg (d :: ms) := by
  rw [cntg_eq, cntg_eq, sq_set _ _ _ h, sum_set _ _ _ h]
  generalize ms.getD i 0 = m
  have e : (0 - 1 - m) * (0 - 1 - m) = m * m + 2 * m + 1 := by
    simp only [Int.mul_sub, Int.sub_mul]
    omega
  rw [e]
  omega
theorem turn_g (d : Int) (ms : List Int) (i : Nat) (h : i < ms.length) : gen (d :: ms.set i (1 - ms.getD i 0)) = gen (d :: ms) := by
  rw [gen_eq, gen_eq, sq_set _ _ _ h, sum_set _ _ _ h]
  generalize ms.getD i 0 = m
  have e : (1 - m) * (1 - m) = m * m - 2 * m + 1 := by
    simp only [Int.mul_sub, Int.sub_mul]
    omega
  rw [e]
  omega
theorem raise_c0 (d : Int) (ms : List Int) : cntg ((d + 1) :: ms) = cntg (d :: ms) + d + 2 := by
  rw [cntg_eq, cntg_eq]
  have e : (d + 1) * (d + 1) = d * d + 2 * d + 1 := by
    simp only [Int.mul_add, Int.add_mul]
    omega
  rw [e]
  omega
theorem raise_g0 (d : Int) (ms : List Int) : gen ((d + 1) :: ms) = gen (d :: ms) + d - 1 := by
  rw [gen_eq, gen_eq]
  have e : (d + 1) * (d + 1) = d * d + 2 * d + 1 := by
    simp only [Int.mul_add, Int.add_mul]
    omega
  rw [e]
  omega
theorem raise_c (d : Int) (ms : List Int) (i : Nat) (h : i < ms.length) : cntg (d :: ms.set i (ms.getD i 0 + 1)) = cntg (d :: ms) - ms.getD i 0 - 1 := by
  rw [cntg_eq, cntg_eq, sq_set _ _ _ h, sum_set _ _ _ h]
  generalize ms.getD i 0 = m
  have e : (m + 1) * (m + 1) = m * m + 2 * m + 1 := by
    simp only [Int.mul_add, Int.add_mul]
    omega
  rw [e]
  omega
theorem raise_g (d : Int) (ms : List Int) (i : Nat) (h : i < ms.length) : gen (d :: ms.set i (ms.getD i 0 + 1)) = gen (d :: ms) - ms.getD i 0 := by
  rw [gen_eq, gen_eq, sq_set _ _ _ h, sum_set _ _ _ h]
  generalize ms.getD i 0 = m
  have e : (m + 1) * (m + 1) = m * m + 2 * m + 1 := by
    simp only [Int.mul_add, Int.add_mul]
    omega
  rw [e]
  omega
theorem raise_t0 (d : Int) (ms : List Int) : terms ((d + 1) :: ms) = terms (d :: ms) + (if d + 2 > 0 then d + 2 else 0) := by
  show (if d + 1 < 0 then 0 else (d + 1 + 1) * (d + 1 + 2) / 2) = (if d < 0 then 0 else (d + 1) * (d + 2) / 2) + _
  have e1 : (d + 1 + 1) * (d + 1 + 2) = d * d + 5 * d + 6 := by
    simp only [Int.mul_add, Int.add_mul, Int.one_mul]
    omega
  have e2 : (d + 1) * (d + 2) = d * d + 3 * d + 2 := by
    simp only [Int.mul_add, Int.add_mul, Int.one_mul]
    omega
  rw [e1, e2]
  by_cases p : d < 0
  · rw [if_pos p]
    by_cases q : d + 1 < 0
    · rw [if_pos q, if_neg (by omega)]
      rfl
    · have : d = -1 := by omega
      subst this
      rfl
  · rw [if_neg p, if_neg (by omega), if_pos (by omega)]
    omega
theorem raise_k (d : Int) (ms : List Int) (i : Nat) (h : i < ms.length) : conds (d :: ms.set i (ms.getD i 0 + 1)) = conds (d :: ms) + (if ms.getD i 0 + 1 > 0 then ms.getD i 0 + 1 else 0) := by
  rw [conds_cs, conds_cs]
  show cs (ms.set i (ms.getD i 0 + 1)) = cs ms + _
  rw [cs_set _ _ _ h]
  generalize ms.getD i 0 = m
  have e1 : (m + 1) * (m + 1 + 1) = m * m + 3 * m + 2 := by
    simp only [Int.mul_add, Int.add_mul, Int.one_mul]
    omega
  have e2 : m * (m + 1) = m * m + m := by rw [Int.mul_add, Int.mul_one]
  unfold c1
  rw [e1, e2]
  by_cases p : 0 < m
  · rw [if_pos p, if_pos (by omega), if_pos (by omega)]
    omega
  · rw [if_neg p]
    by_cases q : 0 < m + 1
    · have : m = 0 := by omega
      subst this
      rw [if_pos (by decide), if_pos (by decide)]
      omega
    · rw [if_neg q, if_neg q]
      omega

/-! ### the law's own defs -/
theorem set_map {ns : List Int} {i : Nat} {e : Int} (h : i < ns.length) : (ns.map V.int).take i ++ [V.int e] ++ (ns.map V.int).drop (i + 1) = (ns.set i e).map V.int := by
  rw [List.set_eq_take_append_cons_drop, if_pos h]
  simp
def sp_l_with (K : PySem.W.Frag) : Sp := fun vs H Q _ => ∃ (a : Addr) (ns : List Int) (i : Nat) (e : Int), vs = [.ref a, .int i, .int e] ∧ H a = some (.tup (ns.map V.int)) ∧ i < ns.length ∧ ns.length ≤ 100 ∧
  ∀ p H', Kp N0 H H' → H' p = some (.tup ((ns.set i e).map V.int)) → Q (.ref p) H'
theorem ok_l_with (T : Txt K mg) (D : Df K mg "_law_with" s_l_with ["_law_row", "_law_at", "_law_entry"]) : C8.Cal P w K mg base 1 "_law_with" (sp_l_with K) [] := by
  obtain ⟨f, fd, D, hb⟩ := D
  refine C8.cal0 D (.all hb) .nil sc_l_with (fun vs H Q E h => ?_) (fun cdv A outer s H vs Q E hr h => ?_)
  · obtain ⟨_, _, _, _, rfl, _⟩ := h; rfl
  · obtain ⟨a, ns, i, e, rfl, ha, hi, hl, q⟩ := h
    refine ⟨_, (pss_one (ps_ret (pe_op (opK (K := K) rCatI op_catI) (pe_op (opK (K := K) rCatI op_catI) (pe_slice (slK (K := K) rSlI sl_tupI) (pv 0) po_none (po_some (pv 1))) (pe_tupN (pa_cons (pv 2) pa_nil))) (pe_slice (slK (K := K) rSlI sl_tupI) (pv 0) (po_some (pe_op op_add (pv 1) pe_int)) po_none)))), ?_⟩
    refine ⟨_, rfl, _, rfl, _, rfl, slT ha fun p1 H1 k1 h1 => ?_⟩
    refine ⟨_, rfl, newT (sz_ (by simp)) fun p2 H2 _ k2 h2 => ?_⟩
    rw [cut_to] at h1
    refine catT (k2.tup _ _ h1) h2 (sz_ (by simp; omega)) fun p3 H3 k3 h3 => ?_
    refine ⟨_, rfl, _, rfl, _, _, rfl, rfl, _, rfl, slT (k3.tup _ _ (k2.tup _ _ (k1.tup _ _ ha))) fun p4 H4 k4 h4 => ?_⟩
    rw [show ((i : Int) + 1) = ((i + 1 : Nat) : Int) from rfl, cut_from] at h4
    refine catT (k4.tup _ _ h3) h4 (sz_ (by simp; omega)) fun p5 H5 k5 h5 => ?_
    rw [set_map hi] at h5
    exact q _ _ ((((k1.trans k2).trans k3).trans k4).trans k5) h5
def sp_l_small (K : PySem.W.Frag) : Sp := fun vs H Q _ => ∃ (a : Addr) (n : Nat), vs = [.ref a, .int n] ∧ Dc a H ∧ n ≤ 16 ∧
  ∀ p H' (ns : List Int), DR a H H' → H' p = some (.tup (ns.map V.int)) → ns.length = n + 1 → (∀ x ∈ ns, -100 ≤ x ∧ x ≤ 100) → Q (.ref p) H'
theorem ok_l_small (T : Txt K mg) (D : Df K mg "_law_small" s_l_small ["_law_dice_here", "_law_n"]) (c_l_roll : C8.Cal P w K mg base 1 "_law_roll" (sp_l_roll) []) : C8.Cal P w K mg base 2 "_law_small" (sp_l_small K) [] := by
  obtain ⟨f, fd, D, hb⟩ := D
  refine C8.cal0 D (.all hb) .nil sc_l_small (fun vs H Q E h => ?_) (fun cdv A outer s H vs Q E hr h => ?_)
  · obtain ⟨_, _, rfl, _⟩ := h; rfl
  · obtain ⟨a, n, rfl, hd, hn, q⟩ := h
    refine ⟨_, (pss_one (ps_ret (pe_op (opK (K := K) rCatI op_catI) (pe_tupN (pa_cons (pe_op op_sub (C8.pe_c c_l_roll hr (by decide) (by rfl) (pa_cons (pv 0) (pa_cons pe_int pa_nil))) pe_int) pa_nil)) (pe_callTy (callK (K := K) rTupOf call_tupI) (by rfl) T.b_tuple (by decide +kernel) (pa_cons (pe_lc (own := [("_law_at", 2)]) (g := gName 2) rfl sc_l_small.nd (pi_range1 (by rfl) T.b_range (pa_cons (pv 1) pa_nil)) (C8b.blk (N := ["_law_dice_here", "_law_n", "_law_at"]) (sc := C8.fnScope s_l_small) (by decide +kernel)) (fun _ _ _ _ _ => (pg_name (i := 2) sc_l_small.nd rfl (Or.inl rfl))) (fun _ _ _ _ _ => pts_nil) (fun _ _ _ _ _ => (pe_op op_sub (C8.pe_c c_l_roll hr (by decide) (by rfl) (pa_cons (pv 0) (pa_cons pe_int pa_nil))) pe_int))) pa_nil))))), ?_⟩
    refine ⟨_, rfl, _, _, rfl, hd, by decide, by decide, fun r H1 r0 r1 d1 => ?_⟩
    refine ⟨_, _, rfl, rfl, newT (sz_ (by simp)) fun p1 H2 _ k2 h2 => ?_⟩
    refine ⟨_, rfl, _, rfl, by omega, by omega, ?_⟩
    refine lc_draws (a := a) walk_range (fun z => -100 ≤ z ∧ z ≤ 100) (by omega) (d1.dc.kp k2) (fun _ _ => trivial) ?_ ?_
    · rintro i x H3 H4 hi d3 ⟨rfl, rfl⟩ R hR
      exact ⟨rfl, _, rfl, _, _, rfl, d3.dc, by decide, by decide, fun r' H5 r2 r3 d5 => ⟨_, _, rfl, rfl, hR _ _ d5 ⟨by omega, by omega⟩⟩⟩
    · intro D H3 zs _ d3 h3 hl hz
      refine tupL rfl (SqL.of h3) fun p4 H4 _ k4 h4 => ?_
      refine catT (xs := [V.int (r - 8)]) (k4.tup _ _ (d3.kp.tup _ _ h2)) h4 (sz_ (by simp; omega)) fun p5 H5 k5 h5 => ?_
      refine q p5 H5 ((r - 8) :: zs) ?_ h5 (by simp; omega) ?_
      · exact ((d1.trans (.of d1.dc k2)).trans d3).trans (.of d3.dc (k4.trans k5))
      · intro x hx
        rcases List.mem_cons.mp hx with rfl | hx
        · omega
        · exact hz x hx
def sp_l_great (K : PySem.W.Frag) : Sp := fun vs H Q _ => ∃ (a : Addr) (n : Nat), vs = [.ref a, .int n] ∧ Dc a H ∧ n ≤ 16 ∧
  ∀ p H' (ns : List Int), DR a H H' → H' p = some (.tup (ns.map V.int)) → ns.length = n + 1 → (∀ x ∈ ns, -(10 ^ 60) ≤ x ∧ x ≤ 10 ^ 60) → Q (.ref p) H'
theorem ok_l_great (T : Txt K mg) (D : Df K mg "_law_great" s_l_great ["_law_dice_here", "_law_n"]) (c_l_roll : C8.Cal P w K mg base 1 "_law_roll" (sp_l_roll) []) : C8.Cal P w K mg base 2 "_law_great" (sp_l_great K) [] := by
  obtain ⟨f, fd, D, hb⟩ := D
  refine C8.cal0 D (.all hb) .nil sc_l_great (fun vs H Q E h => ?_) (fun cdv A outer s H vs Q E hr h => ?_)
  · obtain ⟨_, _, rfl, _⟩ := h; rfl
  · obtain ⟨a, n, rfl, hd, hn, q⟩ := h
    refine ⟨_, (pss_cons (ps_set (i := 2) sc_l_great.nd rfl (Or.inr rfl) (pe_op op_powW pe_int pe_int))
      (pss_one (ps_ret (pe_callTy (callK (K := K) rTupOf call_tupI) (by rfl) T.b_tuple (by decide +kernel) (pa_cons (pe_lc (own := [("_law_at", 3)]) (g := gName 3) rfl sc_l_great.nd (pi_range1 (by rfl) T.b_range (pa_cons (pe_op op_add (pv 1) pe_int) pa_nil)) (C8b.blk (N := ["_law_dice_here", "_law_n", "_law_size", "_law_at"]) (sc := C8.fnScope s_l_great) (by decide +kernel)) (fun _ _ _ _ _ => (pg_name (i := 3) sc_l_great.nd rfl (Or.inl rfl))) (fun _ _ _ _ _ => pts_nil) (fun _ _ _ _ _ => (pe_op op_sub (pe_op op_add (pe_op op_mulE (C8.pe_c c_l_roll hr (by decide) (by rfl) (pa_cons (pv 0) (pa_cons (pe_op op_powW pe_int pe_int) pa_nil))) (pv 2)) (C8.pe_c c_l_roll hr (by decide) (by rfl) (pa_cons (pv 0) (pa_cons (pe_op op_powW pe_int pe_int) pa_nil)))) (pe_op op_mulE (C8.pe_c c_l_roll hr (by decide) (by rfl) (pa_cons (pv 0) (pa_cons pe_int pa_nil))) (pv 2))))) pa_nil))))), ?_⟩
    refine ⟨_, _, rfl, rfl, ⟨by decide, by decide⟩, ?_⟩
    refine ⟨_, rfl, _, _, rfl, rfl, _, rfl, by omega, by omega, ?_⟩
    refine lc_draws (a := a) walk_range (fun z => -(10 ^ 60) ≤ z ∧ z ≤ 10 ^ 60) (by omega) hd (fun _ _ => trivial) ?_ ?_
    · rintro i x H3 H4 hi d3 ⟨rfl, rfl⟩ R hR
      refine ⟨rfl, _, rfl, _, _, rfl, rfl, ⟨by decide, by decide⟩, _, _, rfl, d3.dc, by decide, by decide, fun r H5 r0 r1 d5 => ?_⟩
      refine ⟨_, rfl, _, _, rfl, rfl, mulX_left ?_, ?_⟩
      · rw [show ((10 : Int) ^ (9 : Int).toNat) = 1000000000 by decide] at r1
        omega
      refine ⟨_, rfl, _, _, rfl, rfl, ⟨by decide, by decide⟩, _, _, rfl, d5.dc, by decide, by decide, fun r' H6 r2 r3 d6 => ?_⟩
      refine ⟨_, _, rfl, rfl, _, rfl, _, _, rfl, d6.dc, by decide, by decide, fun r'' H7 r4 r5 d7 => ?_⟩
      refine ⟨_, rfl, _, _, rfl, rfl, mulX_left (by omega), _, _, rfl, rfl, hR _ _ ((d5.trans d6).trans d7) ?_⟩
      rw [show ((10 : Int) ^ (9 : Int).toNat) = 1000000000 by decide] at r1 r3
      rw [show ((10 : Int) ^ (41 : Int).toNat) = 100000000000000000000000000000000000000000 by decide, show ((10 : Int) ^ 60) = 1000000000000000000000000000000000000000000000000000000000000 by decide]
      omega
    · intro D H3 zs _ d3 h3 hl hz
      refine tupL rfl (SqL.of h3) fun p4 H4 _ k4 h4 => ?_
      exact q p4 H4 zs (d3.trans (.of d3.dc k4)) h4 (by omega) hz
def sp_l_terms_of (K : PySem.W.Frag) : Sp := fun vs H Q _ => ∃ (d : Int), vs = [.int d] ∧ -1000 ≤ d ∧ d ≤ 1000 ∧ ∀ H', Kp N0 H H' → Q (.int (lterms d)) H'
theorem ok_l_terms_of (T : Txt K mg) (D : Df K mg "_law_terms_of" s_l_terms_of ["_law_degree"]) : C8.Cal P w K mg base 1 "_law_terms_of" (sp_l_terms_of K) [] := by
  obtain ⟨f, fd, D, hb⟩ := D
  refine C8.cal0 D (.all hb) .nil sc_l_terms_of (fun vs H Q E h => ?_) (fun cdv A outer s H vs Q E hr h => ?_)
  · obtain ⟨_, rfl, _⟩ := h; rfl
  · obtain ⟨d, rfl, h1, h2, q⟩ := h
    refine ⟨_, (pss_one (ps_ret (pe_callB (callK (K := K) rSum (cr_sum rfl)) (by rfl) T.b_sum (by decide +kernel) (pa_cons (pe_lc (own := [("_law_first", 1)]) (g := gName 1) rfl sc_l_terms_of.nd (pi_range1 (by rfl) T.b_range (pa_cons (pe_op op_add (pv 0) pe_int) pa_nil)) (C8b.blk (N := ["_law_degree", "_law_first"]) (sc := C8.fnScope s_l_terms_of) (by decide +kernel)) (fun _ _ _ _ _ => (pg_name (i := 1) sc_l_terms_of.nd rfl (Or.inl rfl))) (fun _ _ _ _ _ => pts_nil) (fun _ _ _ _ _ => (pe_op op_add (pe_op op_sub (pv 0) (pv 1)) pe_int))) pa_nil)))), ?_⟩
    refine ⟨_, rfl, _, _, rfl, rfl, _, rfl, by omega, by omega, ?_⟩
    refine lc_ints walk_range (fun i => d - (0 + (i : Int)) + 1) (by omega) (fun _ _ => trivial) ?_ ?_
    · rintro i x H3 H4 hi k ⟨rfl, rfl⟩ R hR
      exact ⟨rfl, _, rfl, _, rfl, _, _, rfl, rfl, _, _, rfl, rfl, hR _ (.refl _ _)⟩
    · intro D H3 k3 h3
      exact ⟨D, _, rfl, SqL.of h3, q _ k3⟩
theorem rgV_eq (m : Int) : rgV 1 (m + 1) = (rng1 m).map V.int := by
  unfold rgV rng1
  rw [List.map_map]
  rfl
def sp_l_conditions_of (K : PySem.W.Frag) : Sp := fun vs H Q _ => ∃ (a : Addr) (ns : List Int), vs = [.ref a] ∧ H a = some (.tup (ns.map V.int)) ∧ ns.length ≤ 100 ∧ (∀ x ∈ ns, -1000 ≤ x ∧ x ≤ 1000) ∧ ∀ H', Kp N0 H H' → Q (.int (lconds ns)) H'
theorem ok_l_conditions_of (T : Txt K mg) (D : Df K mg "_law_conditions_of" s_l_conditions_of ["_law_numbers"]) : C8.Cal P w K mg base 1 "_law_conditions_of" (sp_l_conditions_of K) [] := by
  obtain ⟨f, fd, D, hb⟩ := D
  refine C8.cal0 D (.all hb) .nil sc_l_conditions_of (fun vs H Q E h => ?_) (fun cdv A outer s H vs Q E hr h => ?_)
  · obtain ⟨_, _, rfl, _⟩ := h; rfl
  · obtain ⟨a, ns, rfl, ha, hl, hb, q⟩ := h
    refine ⟨_, (pss_one (ps_ret (pe_callB (callK (K := K) rSum (cr_sum rfl)) (by rfl) T.b_sum (by decide +kernel) (pa_cons (pe_lc (own := [("_law_number", 1)]) (g := gName 1) rfl sc_l_conditions_of.nd (pi_tup (pv 0)) (C8b.blk (N := ["_law_numbers", "_law_number"]) (sc := C8.fnScope s_l_conditions_of) (by decide +kernel)) (fun _ _ _ _ _ => (pg_name (i := 1) sc_l_conditions_of.nd rfl (Or.inl rfl))) (fun _ _ _ _ _ => (pts_one (pt_cmpR op_gt (pv 1) pe_int (nomark _)))) (fun _ _ _ _ _ => (pe_callB (callK (K := K) rSum (cr_sum rfl)) (by rfl) T.b_sum (by decide +kernel) (pa_cons (pe_listRgN rfl (by rfl) T.b_list (prg_2 (by rfl) T.b_range pe_int (pe_op op_add (pv 1) pe_int))) pa_nil)))) pa_nil)))), ?_⟩
    refine ⟨_, rfl, _, rfl, ⟨_, SqT.of ha⟩, ?_⟩
    refine lc_filt walk_tup (fun i => decide (0 < ns.getD i 0)) (fun i => (rng1 (ns.getD i 0)).sum) (by simp; omega) (fun H' k => SqT.of (k.tup _ _ ha)) ?_ gm_name ?_
    · rintro i x H3 H4 hi k ⟨rfl, hx⟩
      rw [List.length_map] at hi
      rw [int_at hi] at hx
      cases hx
      have b : -1000 ≤ ns.getD i 0 ∧ ns.getD i 0 ≤ 1000 := by
        rw [List.getD_eq_getElem?_getD, List.getElem?_eq_getElem hi]
        exact hb _ (List.getElem_mem hi)
      refine ⟨rfl, fun R hR => ⟨_, rfl, _, _, rfl, rfl, _, rfl, hR _ (.refl _ _)⟩, fun ht H5 k5 R hR => ?_⟩
      have ht := of_decide_eq_true ht
      refine ⟨_, rfl, _, _, rfl, rfl, _, _, rfl, rfl, rgL (RgOk.of_le (by omega) (by omega) (by omega) (by omega)) fun p H6 _ k6 h6 => ?_⟩
      rw [rgV_eq] at h6
      exact ⟨p, _, rfl, SqL.of h6, hR _ (k5.trans k6)⟩
    · intro D H3 k3 h3
      rw [show (ns.map V.int).length = ns.length by simp, filt_getD (fun m => decide (0 < m)) (fun m => (rng1 m).sum)] at h3
      exact ⟨D, _, rfl, SqL.of h3, q _ k3⟩
def Lim (b : Int) (ns : List Int) : Prop := 4 ≤ ns.length ∧ ns.length ≤ 17 ∧ ∀ x ∈ ns, -b ≤ x ∧ x ≤ b
theorem Lim.row {b : Int} {ns : List Int} (h : Lim b ns) (hb : b < TL) : Row ns := ⟨h.1, h.2.1, fun x hx => by
  have := h.2.2 x hx
  exact ⟨by omega, by omega⟩⟩
theorem Lim.at {b : Int} {ns : List Int} (h : Lim b ns) {i : Nat} (hi : i < ns.length) : -b ≤ ns.getD i 0 ∧ ns.getD i 0 ≤ b := by
  rw [List.getD_eq_getElem?_getD, List.getElem?_eq_getElem hi]
  exact h.2.2 _ (List.getElem_mem hi)
theorem Lim.set {b c : Int} {ns : List Int} (h : Lim b ns) {i : Nat} {v : Int} (hv : -c ≤ v ∧ v ≤ c) (hc : b ≤ c) : Lim c (ns.set i v) := ⟨by rw [List.length_set]; exact h.1, by rw [List.length_set]; exact h.2.1, fun x hx => by
  rcases List.mem_or_eq_of_mem_set hx with hx | rfl
  · have := h.2.2 x hx
    exact ⟨by omega, by omega⟩
  · exact hv⟩
theorem Lim.mono {b c : Int} {ns : List Int} (h : Lim b ns) (hc : b ≤ c) : Lim c ns := ⟨h.1, h.2.1, fun x hx => by
  have := h.2.2 x hx
  exact ⟨by omega, by omega⟩⟩
theorem not_ne {x y : V} (h : x = y) : (!decide (x = y)) = false := by rw [decide_eq_true h]; rfl
def sp_l_small_right (K : PySem.W.Frag) : Sp := fun vs H Q _ => ∃ (a : Addr) (ns : List Int), vs = [.ref a] ∧ H a = some (.tup (ns.map V.int)) ∧ Lim 1000 ns ∧ ∀ H', Kp N0 H H' → Q (.bl true) H'
theorem ok_l_small_right (T : Txt K mg) (D : Df K mg "_law_small_right" s_l_small_right ["_law_row"]) (c_terms_of : C8.Cal P w K mg base 5 "terms_of" (sp_terms_of K) []) (c_l_terms_of : C8.Cal P w K mg base 1 "_law_terms_of" (sp_l_terms_of K) []) (c_conditions_of : C8.Cal P w K mg base 5 "conditions_of" (sp_conditions_of K) []) (c_l_conditions_of : C8.Cal P w K mg base 1 "_law_conditions_of" (sp_l_conditions_of K) []) (c_counting : C8.Cal P w K mg base 5 "counting" (sp_counting K) []) : C8.Cal P w K mg base 6 "_law_small_right" (sp_l_small_right K) [] := by
  obtain ⟨f, fd, D, hb⟩ := D
  refine C8.cal0 D (.all hb) .nil sc_l_small_right (fun vs H Q E h => ?_) (fun cdv A outer s H vs Q E hr h => ?_)
  · obtain ⟨_, _, rfl, _⟩ := h; rfl
  · obtain ⟨a, ns, rfl, ha, hl, q⟩ := h
    refine ⟨_, (pss_cons (ps_if (PW.pt (pw_or (pt_cmpR op_ne (C8.pe_c c_terms_of hr (by decide) (by rfl) (pa_cons (pv 0) pa_nil)) (C8.pe_c c_l_terms_of hr (by decide) (by rfl) (pa_cons (pe_ix (ixK (K := K) rIxT ix_tup) (pv 0) pe_int (fun _ _ => rfl)) pa_nil)) (nomark _)) (pw_or1 (pt_cmpR op_ne (C8.pe_c c_conditions_of hr (by decide) (by rfl) (pa_cons (pv 0) pa_nil)) (C8.pe_c c_l_conditions_of hr (by decide) (by rfl) (pa_cons (pe_slice (slK (K := K) rSlI sl_tupI) (pv 0) (po_some pe_int) po_none) pa_nil)) (nomark _))))) (pss_one (ps_ret pe_bl)) pss_nil)
      (pss_cons (ps_if (PW.pt (pw_and (pt_cmpR op_ge (pe_ix (ixK (K := K) rIxT ix_tup) (pv 0) pe_int (fun _ _ => rfl)) (pe_un un_neg pe_int) (nomark _)) (pw_and1 (pt_cmpR op_ge (pe_callB (callK (K := K) rMinT (cr_minT rfl)) (by rfl) T.b_min (by decide +kernel) (pa_cons (pe_slice (slK (K := K) rSlI sl_tupI) (pv 0) (po_some pe_int) po_none) pa_nil)) (pe_un un_neg pe_int) (nomark _))))) (pss_one (ps_ret (pe_cmpR op_eq (C8.pe_c c_counting hr (by decide) (by rfl) (pa_cons (pv 0) pa_nil)) (pe_op op_sub (C8.pe_c c_terms_of hr (by decide) (by rfl) (pa_cons (pv 0) pa_nil)) (C8.pe_c c_conditions_of hr (by decide) (by rfl) (pa_cons (pv 0) pa_nil))) (nomark _)))) pss_nil)
      (pss_one (ps_ret pe_bl)))), ?_⟩
    have hr0 : Row ns := hl.row (by decide)
    have l1 := hl.1
    have l2 := hl.2.1
    refine ⟨_, rfl, _, _, rfl, ha, hr0, fun H1 k1 => ?_⟩
    have h1 := k1.tup _ _ ha
    refine ⟨_, rfl, _, _, _, _, rfl, rfl, SqT.of h1, at_row0 (by omega), _, rfl, (hl.at (by omega)).1, (hl.at (by omega)).2, fun H2 k2 => ?_⟩
    have h2 := k2.tup _ _ h1
    refine ⟨rfl, _, rfl, ?_⟩
    rw [not_ne (congrArg V.int (lterms_eq ns))]
    refine iteF ?_
    refine ⟨_, rfl, _, _, rfl, h2, hr0, fun H3 k3 => ?_⟩
    have h3 := k3.tup _ _ h2
    refine ⟨_, rfl, _, rfl, slT h3 fun p H4 k4 hp => ?_⟩
    rw [cut_1] at hp
    have h4 := k4.tup _ _ h3
    refine ⟨_, _, rfl, hp, by simp; omega, fun x hx => hl.2.2 x (List.mem_of_mem_drop hx), fun H5 k5 => ?_⟩
    have h5 := k5.tup _ _ h4
    refine ⟨rfl, _, rfl, ?_⟩
    rw [not_ne (congrArg V.int (conds_eq ns))]
    refine iteF ?_
    have k05 := (((k1.trans k2).trans k3).trans k4).trans k5
    refine ⟨_, rfl, _, _, _, _, rfl, rfl, SqT.of h5, at_row0 (by omega), _, rfl, _, _, rfl, rfl, _, rfl, ite2 (fun c1 => ?_) (fun _ => ?_)⟩
    · refine ⟨_, rfl, _, rfl, slT h5 fun p H6 k6 hp6 => ?_⟩
      rw [cut_1] at hp6
      have h6 := k6.tup _ _ h5
      refine ⟨_, _, rfl, SqT.of hp6, by simp; omega, fun m hm hle => ?_⟩
      refine ⟨_, rfl, _, _, rfl, rfl, _, rfl, ite2 (fun c2 => ?_) (fun _ => ?_)⟩
      · refine ⟨_, rfl, _, _, rfl, h6, hr0, fun H7 k7 => ?_⟩
        have h7 := k7.tup _ _ h6
        refine ⟨_, rfl, _, _, rfl, h7, hr0, fun H8 k8 => ?_⟩
        have h8 := k8.tup _ _ h7
        refine ⟨_, rfl, _, _, rfl, h8, hr0, fun H9 k9 => ?_⟩
        refine ⟨_, _, rfl, rfl, rfl, ?_⟩
        have e : cntg ns = terms ns - conds ns := by
          obtain ⟨d, ms, rfl⟩ : ∃ d ms, ns = d :: ms := by
            cases ns with
            | nil => simp at l1
            | cons d ms => exact ⟨d, ms, rfl⟩
          exact cntg_small (of_decide_eq_true c1) fun x hx => Int.le_trans (of_decide_eq_true c2) (hle x hx)
        rw [decide_eq_true (congrArg V.int e)]
        exact q _ ((((k05.trans k6).trans k7).trans k8).trans k9)
      · exact q _ (k05.trans k6)
    · exact q _ k05
def sp_l_turned_right (K : PySem.W.Frag) : Sp := fun vs H Q _ => ∃ (a : Addr) (ns : List Int) (i : Nat), vs = [.ref a, .int i] ∧ H a = some (.tup (ns.map V.int)) ∧ Lim (10 ^ 60) ns ∧ i < ns.length ∧ ∀ H', Kp N0 H H' → Q (.bl true) H'
theorem big_lt : (10 : Int) ^ 60 < TL := by decide +kernel
theorem big_lt' : (10 : Int) ^ 60 + 5 < TL := by decide +kernel
theorem ok_l_turned_right (T : Txt K mg) (D : Df K mg "_law_turned_right" s_l_turned_right ["_law_row", "_law_at"]) (c_l_with : C8.Cal P w K mg base 1 "_law_with" (sp_l_with K) []) (c_counting : C8.Cal P w K mg base 5 "counting" (sp_counting K) []) (c_genus : C8.Cal P w K mg base 5 "genus" (sp_genus K) []) : C8.Cal P w K mg base 6 "_law_turned_right" (sp_l_turned_right K) [] := by
  obtain ⟨f, fd, D, hb⟩ := D
  refine C8.cal0 D (.all hb) .nil sc_l_turned_right (fun vs H Q E h => ?_) (fun cdv A outer s H vs Q E hr h => ?_)
  · obtain ⟨_, _, _, rfl, _⟩ := h; rfl
  · obtain ⟨a, ns, i, rfl, ha, hl, hi, q⟩ := h
    refine ⟨_, (pss_cons (ps_set (i := 2) sc_l_turned_right.nd rfl (Or.inl rfl) (C8.pe_c c_l_with hr (by decide) (by rfl) (pa_cons (pv 0) (pa_cons (pv 1) (pa_cons (pe_op op_sub (pe_ifExp (pt_cmpR op_eq (pv 1) pe_int (nomark _)) (pe_op op_sub pe_int pe_int) (pe_op op_sub pe_int pe_int)) (pe_ix (ixK (K := K) rIxT ix_tup) (pv 0) (pv 1) (fun _ _ => rfl))) pa_nil)))))
      (pss_cons (ps_set (i := 3) sc_l_turned_right.nd rfl (Or.inl rfl) (C8.pe_c c_l_with hr (by decide) (by rfl) (pa_cons (pv 0) (pa_cons (pv 1) (pa_cons (pe_op op_sub (pe_ifExp (pt_cmpR op_eq (pv 1) pe_int (nomark _)) pe_int pe_int) (pe_ix (ixK (K := K) rIxT ix_tup) (pv 0) (pv 1) (fun _ _ => rfl))) pa_nil)))))
      (pss_one (ps_ret (pe_and (pe_cmpR op_eq (C8.pe_c c_counting hr (by decide) (by rfl) (pa_cons (pv 2) pa_nil)) (C8.pe_c c_counting hr (by decide) (by rfl) (pa_cons (pv 0) pa_nil)) (nomark _)) (pe_one (pe_cmpR op_eq (C8.pe_c c_genus hr (by decide) (by rfl) (pa_cons (pv 3) pa_nil)) (C8.pe_c c_genus hr (by decide) (by rfl) (pa_cons (pv 0) pa_nil)) (nomark _)))))))), ?_⟩
    have hr0 : Row ns := hl.row big_lt
    have l2 := hl.2.1
    have b := hl.at hi
    have hc : ∀ (x y : Int), i = 0 ∧ x = 0 - 3 - ns.getD i 0 ∧ y = 3 - ns.getD i 0 ∨ i ≠ 0 ∧ x = 0 - 1 - ns.getD i 0 ∧ y = 1 - ns.getD i 0 → cntg (ns.set i x) = cntg ns ∧ gen (ns.set i y) = gen ns ∧ Row (ns.set i x) ∧ Row (ns.set i y) := by
      intro x y hxy
      have hx : Row (ns.set i x) := (hl.set (c := 10 ^ 60 + 5) (v := x) (by omega) (by omega)).row big_lt'
      have hy : Row (ns.set i y) := (hl.set (c := 10 ^ 60 + 5) (v := y) (by omega) (by omega)).row big_lt'
      refine ⟨?_, ?_, hx, hy⟩
      · cases ns with
        | nil => simp at hi
        | cons d ms =>
          cases i with
          | zero =>
            rcases hxy with ⟨_, rfl, _⟩ | ⟨z, _⟩
            · exact turn_c0 d ms
            · exact absurd rfl z
          | succ i =>
            rcases hxy with ⟨z, _⟩ | ⟨_, rfl, _⟩
            · cases z
            · exact turn_c d ms i (by simpa using hi)
      · cases ns with
        | nil => simp at hi
        | cons d ms =>
          cases i with
          | zero =>
            rcases hxy with ⟨_, _, rfl⟩ | ⟨z, _⟩
            · exact turn_g0 d ms
            · exact absurd rfl z
          | succ i =>
            rcases hxy with ⟨z, _⟩ | ⟨_, _, rfl⟩
            · cases z
            · exact turn_g d ms i (by simpa using hi)
    refine ⟨_, rfl, _, rfl, _, rfl, rfl, _, rfl, ite2 (fun c => ?_) (fun c => ?_)⟩
    · have i0 : i = 0 := by
        have := V.int.inj (of_decide_eq_true c)
        omega
      refine ⟨_, _, rfl, rfl, _, rfl, _, rfl, _, _, _, _, rfl, rfl, SqT.of ha, at_row hi, _, _, rfl, rfl, ?_⟩
      refine ⟨_, _, _, _, rfl, ha, hi, by omega, fun p1 H1 k1 hp1 => ?_⟩
      have h1 := k1.tup _ _ ha
      refine ⟨_, rfl, _, rfl, _, rfl, rfl, _, rfl, ?_⟩
      rw [c]
      refine iteT ⟨_, rfl, _, rfl, _, _, _, _, rfl, rfl, SqT.of h1, at_row hi, _, _, rfl, rfl, ?_⟩
      refine ⟨_, _, _, _, rfl, h1, hi, by omega, fun p2 H2 k2 hp2 => ?_⟩
      have k02 := k1.trans k2
      have hp1 := k2.tup _ _ hp1
      have h2 := k2.tup _ _ h1
      obtain ⟨m1, m2, r1, r2⟩ := hc _ _ (.inl ⟨i0, rfl, rfl⟩)
      refine ⟨_, rfl, _, _, rfl, hp1, r1, fun H3 k3 => ⟨_, rfl, _, _, rfl, k3.tup _ _ h2, hr0, fun H4 k4 => ⟨rfl, _, rfl, ?_⟩⟩⟩
      rw [decide_eq_true (congrArg V.int m1)]
      have k24 := k3.trans k4
      refine iteT ⟨_, rfl, _, _, rfl, k24.tup _ _ hp2, r2, fun H5 k5 => ⟨_, rfl, _, _, rfl, k5.tup _ _ (k24.tup _ _ h2), hr0, fun H6 k6 => ⟨rfl, ?_⟩⟩⟩
      rw [decide_eq_true (congrArg V.int m2)]
      exact q _ (((k02.trans k24).trans k5).trans k6)
    · have i0 : i ≠ 0 := fun z => by
        rw [z] at c
        exact c rfl
      refine ⟨_, _, rfl, rfl, _, rfl, _, rfl, _, _, _, _, rfl, rfl, SqT.of ha, at_row hi, _, _, rfl, rfl, ?_⟩
      refine ⟨_, _, _, _, rfl, ha, hi, by omega, fun p1 H1 k1 hp1 => ?_⟩
      have h1 := k1.tup _ _ ha
      refine ⟨_, rfl, _, rfl, _, rfl, rfl, _, rfl, ?_⟩
      rw [Bool.eq_false_iff.mpr c]
      refine iteF ⟨_, rfl, _, rfl, _, _, _, _, rfl, rfl, SqT.of h1, at_row hi, _, _, rfl, rfl, ?_⟩
      refine ⟨_, _, _, _, rfl, h1, hi, by omega, fun p2 H2 k2 hp2 => ?_⟩
      have k02 := k1.trans k2
      have hp1 := k2.tup _ _ hp1
      have h2 := k2.tup _ _ h1
      obtain ⟨m1, m2, r1, r2⟩ := hc _ _ (.inr ⟨i0, rfl, rfl⟩)
      refine ⟨_, rfl, _, _, rfl, hp1, r1, fun H3 k3 => ⟨_, rfl, _, _, rfl, k3.tup _ _ h2, hr0, fun H4 k4 => ⟨rfl, _, rfl, ?_⟩⟩⟩
      rw [decide_eq_true (congrArg V.int m1)]
      have k24 := k3.trans k4
      refine iteT ⟨_, rfl, _, _, rfl, k24.tup _ _ hp2, r2, fun H5 k5 => ⟨_, rfl, _, _, rfl, k5.tup _ _ (k24.tup _ _ h2), hr0, fun H6 k6 => ⟨rfl, ?_⟩⟩⟩
      rw [decide_eq_true (congrArg V.int m2)]
      exact q _ (((k02.trans k24).trans k5).trans k6)

def sp_l_raised_right (K : PySem.W.Frag) : Sp := fun vs H Q _ => ∃ (a : Addr) (ns : List Int) (i : Nat), vs = [.ref a, .int i] ∧ H a = some (.tup (ns.map V.int)) ∧ Lim (10 ^ 60) ns ∧ i < ns.length ∧ ∀ H', Kp N0 H H' → Q (.bl true) H'
theorem ok_l_raised_right (T : Txt K mg) (D : Df K mg "_law_raised_right" s_l_raised_right ["_law_row", "_law_at"]) (c_l_with : C8.Cal P w K mg base 1 "_law_with" (sp_l_with K) []) (c_terms_of : C8.Cal P w K mg base 5 "terms_of" (sp_terms_of K) []) (c_conditions_of : C8.Cal P w K mg base 5 "conditions_of" (sp_conditions_of K) []) (c_counting : C8.Cal P w K mg base 5 "counting" (sp_counting K) []) (c_genus : C8.Cal P w K mg base 5 "genus" (sp_genus K) []) : C8.Cal P w K mg base 6 "_law_raised_right" (sp_l_raised_right K) [] := by
  obtain ⟨f, fd, D, hb⟩ := D
  refine C8.cal0 D (.all hb) .nil sc_l_raised_right (fun vs H Q E h => ?_) (fun cdv A outer s H vs Q E hr h => ?_)
  · obtain ⟨_, _, _, rfl, _⟩ := h; rfl
  · obtain ⟨a, ns, i, rfl, ha, hl, hi, q⟩ := h
    refine ⟨_, (pss_cons (ps_par (i := 2) (j := 3) (by rfl) sc_l_raised_right.nd rfl rfl (by decide) rfl rfl (pa_cons (C8.pe_c c_l_with hr (by decide) (by rfl) (pa_cons (pv 0) (pa_cons (pv 1) (pa_cons (pe_op op_add (pe_ix (ixK (K := K) rIxT ix_tup) (pv 0) (pv 1) (fun _ _ => rfl)) pe_int) pa_nil)))) (pa_cons (pe_ix (ixK (K := K) rIxT ix_tup) (pv 0) (pv 1) (fun _ _ => rfl)) pa_nil)) (by rfl))
      (pss_cons (ps_if (pt_cmpR op_eq (pv 1) pe_int (nomark _)) (pss_cons (ps_if (PW.pt (pw_or (pt_cmpR op_ne (C8.pe_c c_terms_of hr (by decide) (by rfl) (pa_cons (pv 2) pa_nil)) (pe_op op_add (C8.pe_c c_terms_of hr (by decide) (by rfl) (pa_cons (pv 0) pa_nil)) (pe_callB (call_max2 rfl) (by rfl) T.b_max (by decide +kernel) (pa_cons pe_int (pa_cons (pe_op op_add (pv 3) pe_int) pa_nil)))) (nomark _)) (pw_or1 (pt_cmpR op_ne (C8.pe_c c_conditions_of hr (by decide) (by rfl) (pa_cons (pv 2) pa_nil)) (C8.pe_c c_conditions_of hr (by decide) (by rfl) (pa_cons (pv 0) pa_nil)) (nomark _))))) (pss_one (ps_ret pe_bl)) pss_nil)
      (pss_one (ps_ret (pe_and (pe_cmpR op_eq (C8.pe_c c_counting hr (by decide) (by rfl) (pa_cons (pv 2) pa_nil)) (pe_op op_add (pe_op op_add (C8.pe_c c_counting hr (by decide) (by rfl) (pa_cons (pv 0) pa_nil)) (pv 3)) pe_int) (nomark _)) (pe_one (pe_cmpR op_eq (C8.pe_c c_genus hr (by decide) (by rfl) (pa_cons (pv 2) pa_nil)) (pe_op op_sub (pe_op op_add (C8.pe_c c_genus hr (by decide) (by rfl) (pa_cons (pv 0) pa_nil)) (pv 3)) pe_int) (nomark _))))))) pss_nil)
      (pss_cons (ps_if (PW.pt (pw_or (pt_cmpR op_ne (C8.pe_c c_conditions_of hr (by decide) (by rfl) (pa_cons (pv 2) pa_nil)) (pe_op op_add (C8.pe_c c_conditions_of hr (by decide) (by rfl) (pa_cons (pv 0) pa_nil)) (pe_callB (call_max2 rfl) (by rfl) T.b_max (by decide +kernel) (pa_cons pe_int (pa_cons (pe_op op_add (pv 3) pe_int) pa_nil)))) (nomark _)) (pw_or1 (pt_cmpR op_ne (C8.pe_c c_terms_of hr (by decide) (by rfl) (pa_cons (pv 2) pa_nil)) (C8.pe_c c_terms_of hr (by decide) (by rfl) (pa_cons (pv 0) pa_nil)) (nomark _))))) (pss_one (ps_ret pe_bl)) pss_nil)
      (pss_one (ps_ret (pe_and (pe_cmpR op_eq (C8.pe_c c_counting hr (by decide) (by rfl) (pa_cons (pv 2) pa_nil)) (pe_op op_sub (pe_op op_sub (C8.pe_c c_counting hr (by decide) (by rfl) (pa_cons (pv 0) pa_nil)) (pv 3)) pe_int) (nomark _)) (pe_one (pe_cmpR op_eq (C8.pe_c c_genus hr (by decide) (by rfl) (pa_cons (pv 2) pa_nil)) (pe_op op_sub (C8.pe_c c_genus hr (by decide) (by rfl) (pa_cons (pv 0) pa_nil)) (pv 3)) (nomark _))))))))), ?_⟩
    have hr0 : Row ns := hl.row big_lt
    have l2 := hl.2.1
    have b := hl.at hi
    have r1 : Row (ns.set i (ns.getD i 0 + 1)) := (hl.set (c := 10 ^ 60 + 5) (v := ns.getD i 0 + 1) (by omega) (by omega)).row big_lt'
    refine ⟨_, rfl, _, rfl, _, rfl, _, rfl, _, _, _, _, rfl, rfl, SqT.of ha, at_row hi, _, _, rfl, rfl, ?_⟩
    refine ⟨_, _, _, _, rfl, ha, hi, by omega, fun p1 H1 k1 hp1 => ?_⟩
    have h1 := k1.tup _ _ ha
    refine ⟨_, rfl, _, rfl, _, _, _, _, rfl, rfl, SqT.of h1, at_row hi, _, _, rfl, ?_⟩
    refine ⟨_, rfl, rfl, _, rfl, ite2 (fun c => ?_) (fun c => ?_)⟩
    · have i0 : i = 0 := by
        have := V.int.inj (of_decide_eq_true c)
        omega
      subst i0
      obtain ⟨d, ms, rfl⟩ : ∃ d ms, ns = d :: ms := by
        cases ns with
        | nil => simp at hi
        | cons d ms => exact ⟨d, ms, rfl⟩
      refine ⟨_, rfl, _, _, rfl, hp1, r1, fun H2 k2 => ?_⟩
      have k02 := k1.trans k2
      refine ⟨_, rfl, _, _, rfl, k02.tup _ _ ha, hr0, fun H3 k3 => ?_⟩
      have k13 := k2.trans k3
      have k03 := k1.trans k13
      refine ⟨_, rfl, _, _, rfl, rfl, _, _, rfl, _, _, rfl, rfl, rfl, _, rfl, ?_⟩
      refine iteNe (congrArg V.int (raise_t0 d ms)) ?_
      refine ⟨_, rfl, _, _, rfl, k13.tup _ _ hp1, r1, fun H4 k4 => ?_⟩
      refine ⟨_, rfl, _, _, rfl, (k03.trans k4).tup _ _ ha, hr0, fun H5 k5 => ?_⟩
      have k15 := (k13.trans k4).trans k5
      have k05 := k1.trans k15
      refine ⟨rfl, _, rfl, ?_⟩
      refine iteNe (congrArg V.int (show conds ((d + 1) :: ms) = conds (d :: ms) from rfl)) ?_
      refine ⟨_, rfl, _, _, rfl, k15.tup _ _ hp1, r1, fun H6 k6 => ?_⟩
      refine ⟨_, rfl, _, _, rfl, (k05.trans k6).tup _ _ ha, hr0, fun H7 k7 => ?_⟩
      have k17 := (k15.trans k6).trans k7
      have k07 := k1.trans k17
      refine ⟨_, rfl, _, _, rfl, rfl, _, _, rfl, rfl, rfl, _, rfl, ?_⟩
      refine iteEq (congrArg V.int (raise_c0 d ms)) ⟨_, rfl, _, _, rfl, k17.tup _ _ hp1, r1, fun H8 k8 => ?_⟩
      refine ⟨_, rfl, _, _, rfl, (k07.trans k8).tup _ _ ha, hr0, fun H9 k9 => ?_⟩
      refine ⟨_, rfl, _, _, rfl, rfl, _, _, rfl, rfl, rfl, ?_⟩
      exact finEq (congrArg V.int (raise_g0 d ms)) <| q _ ((k07.trans k8).trans k9)
    · obtain ⟨j, rfl⟩ : ∃ j, i = j + 1 := by
        cases i with
        | zero => exact absurd rfl c
        | succ j => exact ⟨j, rfl⟩
      obtain ⟨d, ms, rfl⟩ : ∃ d ms, ns = d :: ms := by
        cases ns with
        | nil => simp at hi
        | cons d ms => exact ⟨d, ms, rfl⟩
      have hj : j < ms.length := by simpa using hi
      refine ⟨_, rfl, _, _, rfl, hp1, r1, fun H2 k2 => ?_⟩
      have k02 := k1.trans k2
      refine ⟨_, rfl, _, _, rfl, k02.tup _ _ ha, hr0, fun H3 k3 => ?_⟩
      have k13 := k2.trans k3
      have k03 := k1.trans k13
      refine ⟨_, rfl, _, _, rfl, rfl, _, _, rfl, _, _, rfl, rfl, rfl, _, rfl, ?_⟩
      refine iteNe (congrArg V.int (raise_k d ms j hj)) ?_
      refine ⟨_, rfl, _, _, rfl, k13.tup _ _ hp1, r1, fun H4 k4 => ?_⟩
      refine ⟨_, rfl, _, _, rfl, (k03.trans k4).tup _ _ ha, hr0, fun H5 k5 => ?_⟩
      have k15 := (k13.trans k4).trans k5
      have k05 := k1.trans k15
      refine ⟨rfl, _, rfl, ?_⟩
      refine iteNe (congrArg V.int (show terms (d :: ms.set j (ms.getD j 0 + 1)) = terms (d :: ms) from rfl)) ?_
      refine ⟨_, rfl, _, _, rfl, k15.tup _ _ hp1, r1, fun H6 k6 => ?_⟩
      refine ⟨_, rfl, _, _, rfl, (k05.trans k6).tup _ _ ha, hr0, fun H7 k7 => ?_⟩
      have k17 := (k15.trans k6).trans k7
      have k07 := k1.trans k17
      refine ⟨_, rfl, _, _, rfl, rfl, _, _, rfl, rfl, rfl, _, rfl, ?_⟩
      refine iteEq (congrArg V.int (raise_c d ms j hj)) ⟨_, rfl, _, _, rfl, k17.tup _ _ hp1, r1, fun H8 k8 => ?_⟩
      refine ⟨_, rfl, _, _, rfl, (k07.trans k8).tup _ _ ha, hr0, fun H9 k9 => ?_⟩
      refine ⟨_, rfl, _, _, rfl, rfl, rfl, ?_⟩
      exact finEq (congrArg V.int (raise_g d ms j hj)) <| q _ ((k07.trans k8).trans k9)
def tame (ns : List Int) : List Int := (if ns.getD 0 0 > -2 then ns.getD 0 0 else -2) :: (ns.drop 1).map fun m => if m > -1 then m else -1
def sp_l_right (K : PySem.W.Frag) : Sp := fun vs H Q _ => ∃ (a : Addr), vs = [.ref a] ∧ Dc a H ∧ ∀ H', DR a H H' → Q (.bl true) H'
theorem tame_lim {ns : List Int} (h : Lim 100 ns) : Lim 1000 (tame ns) := by
  refine ⟨by simp [tame]; have := h.1; omega, by simp [tame]; have := h.1; have := h.2.1; omega, fun x hx => ?_⟩
  unfold tame at hx
  rcases List.mem_cons.mp hx with rfl | hx
  · have := h.at (i := 0) (by have := h.1; omega)
    split <;> omega
  · obtain ⟨m, hm, rfl⟩ := List.mem_map.mp hx
    have := h.2.2 m (List.mem_of_mem_drop hm)
    show -1000 ≤ (if m > -1 then m else -1) ∧ (if m > -1 then m else -1) ≤ 1000
    split <;> omega
theorem ok_l_right (T : Txt K mg) (D : Df K mg "_law_right" s_l_right ["_law_dice_here"]) (c_l_roll : C8.Cal P w K mg base 1 "_law_roll" (sp_l_roll) []) (c_l_small : C8.Cal P w K mg base 2 "_law_small" (sp_l_small K) []) (c_l_small_right : C8.Cal P w K mg base 6 "_law_small_right" (sp_l_small_right K) []) (c_l_great : C8.Cal P w K mg base 2 "_law_great" (sp_l_great K) []) (c_l_turned_right : C8.Cal P w K mg base 6 "_law_turned_right" (sp_l_turned_right K) []) (c_l_raised_right : C8.Cal P w K mg base 6 "_law_raised_right" (sp_l_raised_right K) []) : C8.Cal P w K mg base 7 "_law_right" (sp_l_right K) [] := by
  obtain ⟨f, fd, D, hb⟩ := D
  refine C8.cal0 D (.all hb) .nil sc_l_right (fun vs H Q E h => ?_) (fun cdv A outer s H vs Q E hr h => ?_)
  · obtain ⟨_, rfl, _⟩ := h; rfl
  · obtain ⟨a, rfl, hd, q⟩ := h
    refine ⟨_, (pss_cons (ps_set (i := 1) sc_l_right.nd rfl (Or.inl rfl) (pe_op op_add pe_int (C8.pe_c c_l_roll hr (by decide) (by rfl) (pa_cons (pv 0) (pa_cons pe_int pa_nil)))))
      (pss_cons (ps_for PassesOwn.never rfl (pi_range1 (by rfl) T.b_range (pa_cons pe_int pa_nil)) (pg_name (i := 2) sc_l_right.nd rfl (Or.inl rfl)) (pss_cons (ps_par (i := 3) (j := 4) (by rfl) sc_l_right.nd rfl rfl (by decide) rfl rfl (pa_cons (C8.pe_c c_l_small hr (by decide) (by rfl) (pa_cons (pv 0) (pa_cons (pv 1) pa_nil))) (pa_cons (C8.pe_c c_l_roll hr (by decide) (by rfl) (pa_cons (pv 0) (pa_cons (pe_op op_add (pv 1) pe_int) pa_nil))) pa_nil)) (by rfl))
      (pss_cons (ps_set (i := 5) sc_l_right.nd rfl (Or.inl rfl) (pe_op (opK (K := K) rCatI op_catI) (pe_tupN (pa_cons (pe_callB (call_max2 rfl) (by rfl) T.b_max (by decide +kernel) (pa_cons (pe_un un_neg pe_int) (pa_cons (pe_ix (ixK (K := K) rIxT ix_tup) (pv 3) pe_int (fun _ _ => rfl)) pa_nil))) pa_nil)) (pe_callTy (callK (K := K) rTupOf call_tupI) (by rfl) T.b_tuple (by decide +kernel) (pa_cons (pe_lc (own := [("_law_number", 7)]) (g := gName 7) rfl sc_l_right.nd (pi_tup (pe_slice (slK (K := K) rSlI sl_tupI) (pv 3) (po_some pe_int) po_none)) (C8b.blk (N := ["_law_dice_here", "_law_n", "_law_turn", "_law_row", "_law_at", "_law_tame", "_law_one", "_law_number"]) (sc := C8.fnScope s_l_right) (by decide +kernel)) (fun _ _ _ _ _ => (pg_name (i := 7) sc_l_right.nd rfl (Or.inl rfl))) (fun _ _ _ _ _ => pts_nil) (fun _ _ _ _ _ => (pe_callB (call_max2 rfl) (by rfl) T.b_max (by decide +kernel) (pa_cons (pe_un un_neg pe_int) (pa_cons (pv 7) pa_nil))))) pa_nil))))
      (pss_cons (ps_if (PW.pt (pw_or (pt_not (pt_val (C8.pe_c c_l_small_right hr (by decide) (by rfl) (pa_cons (pv 3) pa_nil)))) (pw_or1 (pt_not (pt_val (C8.pe_c c_l_small_right hr (by decide) (by rfl) (pa_cons (pv 5) pa_nil))))))) (pss_one (ps_ret pe_bl)) pss_nil)
      (pss_one (ps_for PassesOwn.never rfl (pi_tup (pe_tupN (pa_cons (pv 3) (pa_cons (pv 5) (pa_cons (C8.pe_c c_l_great hr (by decide) (by rfl) (pa_cons (pv 0) (pa_cons (pv 1) pa_nil))) pa_nil))))) (pg_name (i := 6) sc_l_right.nd rfl (Or.inl rfl)) (pss_one (ps_if (PW.pt (pw_or (pt_not (pt_val (C8.pe_c c_l_turned_right hr (by decide) (by rfl) (pa_cons (pv 6) (pa_cons (pv 4) pa_nil))))) (pw_or1 (pt_not (pt_val (C8.pe_c c_l_raised_right hr (by decide) (by rfl) (pa_cons (pv 6) (pa_cons (pv 4) pa_nil)))))))) (pss_one (ps_ret pe_bl)) pss_nil))))))))
      (pss_one (ps_ret pe_bl)))), ?_⟩
    refine ⟨_, rfl, _, _, rfl, hd, by decide, by decide, fun r H1 r0 r1 d1 => ?_⟩
    obtain ⟨n, en, n1, n2⟩ : ∃ n : Nat, 3 + r = (n : Int) ∧ 3 ≤ n ∧ n ≤ 16 := ⟨(3 + r).toNat, by omega, by omega, by omega⟩
    refine ⟨_, _, rfl, rfl, ?_⟩
    refine ⟨_, rfl, by decide, by decide, ?_⟩
    refine for_it (n := 4) walk_range (fun i σ H' => ∃ v2 v3 v4 v5 v6 v7, σ = [some (.ref a), some (.int (3 + r)), v2, v3, v4, v5, v6, v7] ∧ DR a H H') ⟨_, _, _, _, _, _, rfl, d1⟩ (fun _ _ _ _ _ => trivial) ?_ ?_
    · rintro i2 x σ H2 H2' hi ⟨v2, v3, v4, v5, v6, v7, rfl, d2⟩ ⟨rfl, rfl⟩
      refine ⟨_, rfl, _, rfl, _, n, congrArg (fun z : Int => [V.ref a, V.int z]) en, d2.dc, n2, fun p H3 ns d3 hp hlen hb => ?_⟩
      have lim : Lim 100 ns := ⟨by omega, by omega, hb⟩
      refine ⟨_, rfl, _, rfl, _, _, rfl, rfl, _, _, rfl, d3.dc, by omega, by omega, fun t H4 t0 t1 d4 => ?_⟩
      obtain ⟨j, rfl, hj⟩ : ∃ j : Nat, t = (j : Int) ∧ j < ns.length := ⟨t.toNat, by omega, by omega⟩
      refine ⟨_, _, rfl, ?_⟩
      have hp4 := d4.kp.tup _ _ hp
      have l0 : 0 < ns.length := by omega
      -- tame
      refine ⟨_, rfl, _, rfl, _, _, _, _, rfl, rfl, SqT.of hp4, at_row0 l0, _, _, rfl, newT (sz_ (by simp)) fun p5 H5 _ k5 hp5 => ?_⟩
      have hp45 := k5.tup _ _ hp4
      refine ⟨_, rfl, _, rfl, slT hp45 fun p6 H6 k6 hp6 => ?_⟩
      rw [cut_1] at hp6
      refine ⟨_, rfl, ⟨_, SqT.of hp6⟩, ?_⟩
      refine lc_ints walk_tup (fun i => if (ns.drop 1).getD i 0 > -1 then (ns.drop 1).getD i 0 else -1) (by simp; omega) (fun H' k => SqT.of (k.tup _ _ hp6)) ?_ ?_
      · rintro i x H7 H8 hi k ⟨rfl, hx⟩ R hR
        rw [List.length_map] at hi
        rw [int_at hi] at hx
        cases hx
        exact ⟨rfl, _, rfl, _, rfl, _, _, rfl, hR _ (.refl _ _)⟩
      intro D H7 k7 h7
      rw [show (ns.drop 1 |>.map V.int).length = (ns.drop 1).length by simp, range_getD (fun m => if m > -1 then m else -1)] at h7
      refine tupL rfl (SqL.of h7) fun p8 H8 _ k8 h8 => ?_
      have k58 := (k6.trans k7).trans k8
      refine catT (k58.tup _ _ hp5) h8 (sz_ (by simp; omega)) fun p9 H9 k9 h9 => ?_
      have h9 : H9 p9 = some (.tup ((tame ns).map V.int)) := h9
      have k49 := k5.trans (k58.trans k9)
      have hp9 := k49.tup _ _ hp4
      have d9 : DR a H H9 := ((d2.trans d3).trans d4).trans (.of d4.dc k49)
      have lim1 : Lim 1000 ns := lim.mono (by decide)
      -- the small rows
      refine ⟨_, rfl, _, _, rfl, hp9, lim1, fun H10 k10 => ⟨_, rfl, iteF ⟨_, rfl, _, _, rfl, k10.tup _ _ h9, tame_lim lim, fun H11 k11 => ⟨_, rfl, iteF ?_⟩⟩⟩⟩
      have k911 := k10.trans k11
      have d11 := d9.trans (.of d9.dc k911)
      refine ⟨_, rfl, _, rfl, _, rfl, _, rfl, _, n, congrArg (fun z : Int => [V.ref a, V.int z]) en, d11.dc, n2, fun p12 H12 gs d12 hg hgl hgb => ?_⟩
      refine newT (sz_ (by simp)) fun T H13 _ k13 hT => ?_
      refine ⟨_, rfl, ⟨_, SqT.of hT⟩, ?_⟩
      have e1 : H13 p = some (.tup (ns.map V.int)) := k13.tup _ _ (d12.kp.tup _ _ (k911.tup _ _ hp9))
      have e2 : H13 p9 = some (.tup ((tame ns).map V.int)) := k13.tup _ _ (d12.kp.tup _ _ (k911.tup _ _ h9))
      have e3 : H13 p12 = some (.tup (gs.map V.int)) := k13.tup _ _ hg
      have d13 : DR a H H13 := (d11.trans d12).trans (.of d12.dc k13)
      have limb : Lim (10 ^ 60) ns := lim.mono (by decide +kernel)
      have limt : Lim (10 ^ 60) (tame ns) := (tame_lim lim).mono (by decide +kernel)
      have limg : Lim (10 ^ 60) gs := ⟨by omega, by omega, hgb⟩
      have items : ∀ (i : Nat) (x : V), [V.ref p, V.ref p9, V.ref p12][i]? = some x → ∃ (b : Addr) (ms : List Int), x = .ref b ∧ H13 b = some (.tup (ms.map V.int)) ∧ Lim (10 ^ 60) ms ∧ j < ms.length := by
        intro i x hx
        rcases i with _ | _ | _ | i
        · cases hx
          exact ⟨_, _, rfl, e1, limb, hj⟩
        · cases hx
          exact ⟨_, _, rfl, e2, limt, by simp [tame]; omega⟩
        · cases hx
          exact ⟨_, _, rfl, e3, limg, by omega⟩
        · simp at hx
      refine for_it (n := 3) (walk_tup (K := K) (a := T) (xs := [V.ref p, V.ref p9, V.ref p12])) (fun i σ H' => ∃ v6, σ = [some (.ref a), some (.int (3 + r)), some (.int (0 + (i2 : Int))), some (.ref p), some (.int j), some (.ref p9), v6, v7] ∧ DR a H13 H') ⟨_, rfl, .refl d13.dc⟩ (fun _ _ H' _ ⟨_, _, z⟩ => SqT.of (z.kp.tup _ _ hT)) ?_ ?_
      · rintro i x σ H14 H14' hi ⟨v6, rfl, d14⟩ ⟨rfl, hx⟩
        obtain ⟨b, ms, rfl, hb14, hlim, hjm⟩ := items i x hx
        have hb14 := d14.kp.tup _ _ hb14
        refine ⟨_, rfl, _, rfl, _, _, _, rfl, hb14, hlim, hjm, fun H15 k15 => ⟨_, rfl, iteF ⟨_, rfl, _, rfl, _, _, _, rfl, k15.tup _ _ hb14, hlim, hjm, fun H16 k16 => ⟨_, rfl, iteF ?_⟩⟩⟩⟩
        exact ⟨_, rfl, d14.trans (.of d14.dc (k15.trans k16))⟩
      · rintro σ H14 ⟨v6, rfl, d14⟩
        exact ⟨_, _, _, _, _, _, rfl, d13.trans d14⟩
    · rintro σ H2 ⟨v2, v3, v4, v5, v6, v7, rfl, d2⟩
      exact q _ d2

def sp_law (K : PySem.W.Frag) : Sp := fun vs H Q _ => ∃ (a : Addr) (ns : List Int), vs = [.ref a] ∧ SqL K H a (ns.map V.int) ∧ ∀ H', Q (.bl true) H'
theorem ok_law {f : Addr} {fd : FuncData} (T : Txt K mg) (D : C8.Def K mg "law" s_law f fd) (c_l_right : C8.Cal P w K mg base 7 "_law_right" (sp_l_right K) []) (c_l_dice : C8.Cal P w K mg base 1 "_law_dice" (sp_l_dice K) []) : FnOk P w K mg base CX0 8 f fd ["_law_script"] (sp_law K) := by
  refine C8.fn0 D.fn sc_law (fun vs H Q E h => ?_) (fun cdv A outer s H vs Q E hr h => ?_)
  · obtain ⟨_, _, rfl, _⟩ := h; rfl
  · obtain ⟨a, ns, rfl, ha, q⟩ := h
    refine ⟨_, (pss_cons (ps_for PassesOwn.never rfl (pi_range1 (by rfl) T.b_range (pa_cons (pe_callB (call_max2 rfl) (by rfl) T.b_max (by decide +kernel) (pa_cons pe_int (pa_cons (pe_callB (call_min2 rfl) (by rfl) T.b_min (by decide +kernel) (pa_cons pe_int (pa_cons (pe_callB (callK (K := K) Vf.rLen call_lenI) (by rfl) T.b_len (by decide +kernel) (pa_cons (pv 0) pa_nil)) pa_nil))) pa_nil))) pa_nil)) (pg_name (i := 1) sc_law.nd rfl (Or.inl rfl)) (pss_one (ps_if (pt_not (pt_val (C8.pe_c c_l_right hr (by decide) (by rfl) (pa_cons (C8.pe_c c_l_dice hr (by decide) (by rfl) (pa_cons (pv 0) (pa_cons (pv 1) pa_nil))) pa_nil)))) (pss_one (ps_ret pe_bl)) pss_nil)))
      (pss_one (ps_ret pe_bl))), ?_⟩
    refine ⟨_, rfl, lenL rfl ha ⟨_, _, rfl, _, _, rfl, ?_⟩⟩
    generalize hm : (if (if ((List.map V.int ns).length : Int) < 6 then ((List.map V.int ns).length : Int) else 6) > 1 then (if ((List.map V.int ns).length : Int) < 6 then ((List.map V.int ns).length : Int) else 6) else 1) = m
    have m1 : 1 ≤ m ∧ m ≤ 6 := by
      rw [← hm]
      split <;> split <;> omega
    refine ⟨_, rfl, by omega, by omega, ?_⟩
    refine for_it (n := m.toNat) walk_range (fun i σ H' => ∃ v1, σ = [some (.ref a), v1] ∧ Kp N0 H H') ⟨_, rfl, .refl _ _⟩ (fun _ _ _ _ _ => trivial) ?_ ?_
    · rintro i x σ H2 H2' hi ⟨v1, rfl, k2⟩ ⟨rfl, rfl⟩
      refine ⟨_, rfl, _, rfl, a, ns, i, by simp, kp_sqL k2 ha, by omega, fun p H3 hp k3 hd => ?_⟩
      refine ⟨p, rfl, hd, fun H4 d4 => ⟨_, rfl, iteF ⟨_, rfl, ?_⟩⟩⟩
      exact k2.trans (kp_fresh hp k3 d4)
    · rintro σ H2 ⟨v1, rfl, k2⟩
      exact q _

end
theorem all_ok {P : Program} {w : World} {K : PySem.W.Frag} {mg : Str → Option Value} {base : Heap} (T : Txt K mg) (d_is_short : Df K mg "is_short" s_is_short ["number"]) (d_is_integer : Df K mg "is_integer" s_is_integer ["value"]) (d_is_row : Df K mg "is_row" s_is_row ["value"]) (d_counting : Df K mg "counting" s_counting ["row"]) (d_genus : Df K mg "genus" s_genus ["row"]) (d_terms_of : Df K mg "terms_of" s_terms_of ["row"]) (d_conditions_of : Df K mg "conditions_of" s_conditions_of ["row"]) (d_check_row : Df K mg "check_row" s_check_row ["row"]) (d_product_of : Df K mg "product_of" s_product_of ["one", "other"]) (d_product_with_cubic : Df K mg "product_with_cubic" s_product_with_cubic ["row"]) (d_counting_of : Df K mg "counting_of" s_counting_of ["row"]) (d_l_dice : Df K mg "_law_dice" s_l_dice ["_law_script", "_law_at"]) (d_l_roll : Df K mg "_law_roll" s_l_roll ["_law_dice_here", "_law_total"]) (d_l_small : Df K mg "_law_small" s_l_small ["_law_dice_here", "_law_n"]) (d_l_great : Df K mg "_law_great" s_l_great ["_law_dice_here", "_law_n"]) (d_l_terms_of : Df K mg "_law_terms_of" s_l_terms_of ["_law_degree"]) (d_l_conditions_of : Df K mg "_law_conditions_of" s_l_conditions_of ["_law_numbers"]) (d_l_with : Df K mg "_law_with" s_l_with ["_law_row", "_law_at", "_law_entry"]) (d_l_small_right : Df K mg "_law_small_right" s_l_small_right ["_law_row"]) (d_l_turned_right : Df K mg "_law_turned_right" s_l_turned_right ["_law_row", "_law_at"]) (d_l_raised_right : Df K mg "_law_raised_right" s_l_raised_right ["_law_row", "_law_at"]) (d_l_right : Df K mg "_law_right" s_l_right ["_law_dice_here"]) {f : Addr} {fd : FuncData} (d_law : C8.Def K mg "law" s_law f fd) : FnOk P w K mg base CX0 8 f fd ["_law_script"] (sp_law K) := by
  have c_is_short := ok_is_short (P := P) (w := w) (base := base) T d_is_short 
  have c_product_of := ok_product_of (P := P) (w := w) (base := base) T d_product_of 
  have c_product_with_cubic := ok_product_with_cubic (P := P) (w := w) (base := base) T d_product_with_cubic 
  have c_l_dice := ok_l_dice (P := P) (w := w) (base := base) T d_l_dice 
  have c_l_roll := ok_l_roll (P := P) (w := w) (base := base) T d_l_roll 
  have c_l_terms_of := ok_l_terms_of (P := P) (w := w) (base := base) T d_l_terms_of 
  have c_l_conditions_of := ok_l_conditions_of (P := P) (w := w) (base := base) T d_l_conditions_of 
  have c_l_with := ok_l_with (P := P) (w := w) (base := base) T d_l_with 
  have c_is_integer := ok_is_integer (P := P) (w := w) (base := base) T d_is_integer c_is_short
  have c_counting_of := ok_counting_of (P := P) (w := w) (base := base) T d_counting_of c_product_of c_product_with_cubic
  have c_l_small := ok_l_small (P := P) (w := w) (base := base) T d_l_small c_l_roll
  have c_l_great := ok_l_great (P := P) (w := w) (base := base) T d_l_great c_l_roll
  have c_is_row := ok_is_row (P := P) (w := w) (base := base) T d_is_row c_is_integer
  have c_check_row := ok_check_row (P := P) (w := w) (base := base) T d_check_row c_is_row
  have c_counting := ok_counting (P := P) (w := w) (base := base) T d_counting c_check_row c_counting_of
  have c_genus := ok_genus (P := P) (w := w) (base := base) T d_genus c_check_row c_product_of c_product_with_cubic
  have c_terms_of := ok_terms_of (P := P) (w := w) (base := base) T d_terms_of c_check_row
  have c_conditions_of := ok_conditions_of (P := P) (w := w) (base := base) T d_conditions_of c_check_row
  have c_l_small_right := ok_l_small_right (P := P) (w := w) (base := base) T d_l_small_right c_terms_of c_l_terms_of c_conditions_of c_l_conditions_of c_counting
  have c_l_turned_right := ok_l_turned_right (P := P) (w := w) (base := base) T d_l_turned_right c_l_with c_counting c_genus
  have c_l_raised_right := ok_l_raised_right (P := P) (w := w) (base := base) T d_l_raised_right c_l_with c_terms_of c_conditions_of c_counting c_genus
  have c_l_right := ok_l_right (P := P) (w := w) (base := base) T d_l_right c_l_roll c_l_small c_l_small_right c_l_great c_l_turned_right c_l_raised_right
  exact ok_law T d_law c_l_right c_l_dice
theorem law_end (K : PySem.W.Frag) (H : Hp) (a : Addr) (ns : List Int) (h1 : ns.length ≤ 63) (h2 : SqL K H a (ns.map V.int)) : sp_law K [.ref a] H (fun v _ => v = .bl true) fun _ _ _ => False :=
  Vf.law_end (sp := sp_law) (fun K a ns H Q E h q => ⟨a, ns, rfl, h, q⟩) K H a ns h1 h2
end K09
open PySem PySem.W PyProof.Rows in
set_option maxRecDepth 100000 in
set_option maxHeartbeats 0 in
theorem PySem.Challenge.cw_timesthrough_k09_counting_by_terms_and_c_holds : PySem.Challenge.rw_timesthrough_k09_counting_by_terms_and_c.Holds := by
  w_on; o_law; k_head; (case hw => w_witness2)
  k_fill
  refine Vf.walk_law (l := PySem.Challenge.rw_timesthrough_k09_counting_by_terms_and_c) (x := "_law_script") (k := 8) (sp := K09.sp_law) rfl rfl (fun w h Y => PySem.W.kIn_of Y) ?F (fun K H a ns h1 h2 => K09.law_end K H a ns h1 h2)
  case F =>
    intro w mg fa h KX G hmg
    refine' Vf.let_ (Vf.df_mk (x := "is_short") (st := K09.s_is_short) (ps := ["number"]) KX G ?a ?l ?c ?k (fun _ _ _ _ _ _ us hl => match us, hl with | [_], _ => rfl)) (fun d_is_short => ?_)
    (case a => k_is)
    (case l => k_is)
    (case c => k_is)
    (case k => k_is)
    refine' Vf.let_ (Vf.df_mk (x := "is_integer") (st := K09.s_is_integer) (ps := ["value"]) KX G ?a ?l ?c ?k (fun _ _ _ _ _ _ us hl => match us, hl with | [_], _ => rfl)) (fun d_is_integer => ?_)
    (case a => k_is)
    (case l => k_is)
    (case c => k_is)
    (case k => k_is)
    refine' Vf.let_ (Vf.df_mk (x := "is_row") (st := K09.s_is_row) (ps := ["value"]) KX G ?a ?l ?c ?k (fun _ _ _ _ _ _ us hl => match us, hl with | [_], _ => rfl)) (fun d_is_row => ?_)
    (case a => k_is)
    (case l => k_is)
    (case c => k_is)
    (case k => k_is)
    refine' Vf.let_ (Vf.df_mk (x := "counting") (st := K09.s_counting) (ps := ["row"]) KX G ?a ?l ?c ?k (fun _ _ _ _ _ _ us hl => match us, hl with | [_], _ => rfl)) (fun d_counting => ?_)
    (case a => k_is)
    (case l => k_is)
    (case c => k_is)
    (case k => k_is)
    refine' Vf.let_ (Vf.df_mk (x := "genus") (st := K09.s_genus) (ps := ["row"]) KX G ?a ?l ?c ?k (fun _ _ _ _ _ _ us hl => match us, hl with | [_], _ => rfl)) (fun d_genus => ?_)
    (case a => k_is)
    (case l => k_is)
    (case c => k_is)
    (case k => k_is)
    refine' Vf.let_ (Vf.df_mk (x := "terms_of") (st := K09.s_terms_of) (ps := ["row"]) KX G ?a ?l ?c ?k (fun _ _ _ _ _ _ us hl => match us, hl with | [_], _ => rfl)) (fun d_terms_of => ?_)
    (case a => k_is)
    (case l => k_is)
    (case c => k_is)
    (case k => k_is)
    refine' Vf.let_ (Vf.df_mk (x := "conditions_of") (st := K09.s_conditions_of) (ps := ["row"]) KX G ?a ?l ?c ?k (fun _ _ _ _ _ _ us hl => match us, hl with | [_], _ => rfl)) (fun d_conditions_of => ?_)
    (case a => k_is)
    (case l => k_is)
    (case c => k_is)
    (case k => k_is)
    refine' Vf.let_ (Vf.df_mk (x := "check_row") (st := K09.s_check_row) (ps := ["row"]) KX G ?a ?l ?c ?k (fun _ _ _ _ _ _ us hl => match us, hl with | [_], _ => rfl)) (fun d_check_row => ?_)
    (case a => k_is)
    (case l => k_is)
    (case c => k_is)
    (case k => k_is)
    refine' Vf.let_ (Vf.df_mk (x := "product_of") (st := K09.s_product_of) (ps := ["one", "other"]) KX G ?a ?l ?c ?k (fun _ _ _ _ _ _ us hl => match us, hl with | [_, _], _ => rfl)) (fun d_product_of => ?_)
    (case a => k_is)
    (case l => k_is)
    (case c => k_is)
    (case k => k_is)
    refine' Vf.let_ (Vf.df_mk (x := "product_with_cubic") (st := K09.s_product_with_cubic) (ps := ["row"]) KX G ?a ?l ?c ?k (fun _ _ _ _ _ _ us hl => match us, hl with | [_], _ => rfl)) (fun d_product_with_cubic => ?_)
    (case a => k_is)
    (case l => k_is)
    (case c => k_is)
    (case k => k_is)
    refine' Vf.let_ (Vf.df_mk (x := "counting_of") (st := K09.s_counting_of) (ps := ["row"]) KX G ?a ?l ?c ?k (fun _ _ _ _ _ _ us hl => match us, hl with | [_], _ => rfl)) (fun d_counting_of => ?_)
    (case a => k_is)
    (case l => k_is)
    (case c => k_is)
    (case k => k_is)
    refine' Vf.let_ (Vf.df_mk (x := "_law_dice") (st := K09.s_l_dice) (ps := ["_law_script", "_law_at"]) KX G ?a ?l ?c ?k (fun _ _ _ _ _ _ us hl => match us, hl with | [_, _], _ => rfl)) (fun d_l_dice => ?_)
    (case a => k_is)
    (case l => k_is)
    (case c => k_is)
    (case k => k_is)
    refine' Vf.let_ (Vf.df_mk (x := "_law_roll") (st := K09.s_l_roll) (ps := ["_law_dice_here", "_law_total"]) KX G ?a ?l ?c ?k (fun _ _ _ _ _ _ us hl => match us, hl with | [_, _], _ => rfl)) (fun d_l_roll => ?_)
    (case a => k_is)
    (case l => k_is)
    (case c => k_is)
    (case k => k_is)
    refine' Vf.let_ (Vf.df_mk (x := "_law_small") (st := K09.s_l_small) (ps := ["_law_dice_here", "_law_n"]) KX G ?a ?l ?c ?k (fun _ _ _ _ _ _ us hl => match us, hl with | [_, _], _ => rfl)) (fun d_l_small => ?_)
    (case a => k_is)
    (case l => k_is)
    (case c => k_is)
    (case k => k_is)
    refine' Vf.let_ (Vf.df_mk (x := "_law_great") (st := K09.s_l_great) (ps := ["_law_dice_here", "_law_n"]) KX G ?a ?l ?c ?k (fun _ _ _ _ _ _ us hl => match us, hl with | [_, _], _ => rfl)) (fun d_l_great => ?_)
    (case a => k_is)
    (case l => k_is)
    (case c => k_is)
    (case k => k_is)
    refine' Vf.let_ (Vf.df_mk (x := "_law_terms_of") (st := K09.s_l_terms_of) (ps := ["_law_degree"]) KX G ?a ?l ?c ?k (fun _ _ _ _ _ _ us hl => match us, hl with | [_], _ => rfl)) (fun d_l_terms_of => ?_)
    (case a => k_is)
    (case l => k_is)
    (case c => k_is)
    (case k => k_is)
    refine' Vf.let_ (Vf.df_mk (x := "_law_conditions_of") (st := K09.s_l_conditions_of) (ps := ["_law_numbers"]) KX G ?a ?l ?c ?k (fun _ _ _ _ _ _ us hl => match us, hl with | [_], _ => rfl)) (fun d_l_conditions_of => ?_)
    (case a => k_is)
    (case l => k_is)
    (case c => k_is)
    (case k => k_is)
    refine' Vf.let_ (Vf.df_mk (x := "_law_with") (st := K09.s_l_with) (ps := ["_law_row", "_law_at", "_law_entry"]) KX G ?a ?l ?c ?k (fun _ _ _ _ _ _ us hl => match us, hl with | [_, _, _], _ => rfl)) (fun d_l_with => ?_)
    (case a => k_is)
    (case l => k_is)
    (case c => k_is)
    (case k => k_is)
    refine' Vf.let_ (Vf.df_mk (x := "_law_small_right") (st := K09.s_l_small_right) (ps := ["_law_row"]) KX G ?a ?l ?c ?k (fun _ _ _ _ _ _ us hl => match us, hl with | [_], _ => rfl)) (fun d_l_small_right => ?_)
    (case a => k_is)
    (case l => k_is)
    (case c => k_is)
    (case k => k_is)
    refine' Vf.let_ (Vf.df_mk (x := "_law_turned_right") (st := K09.s_l_turned_right) (ps := ["_law_row", "_law_at"]) KX G ?a ?l ?c ?k (fun _ _ _ _ _ _ us hl => match us, hl with | [_, _], _ => rfl)) (fun d_l_turned_right => ?_)
    (case a => k_is)
    (case l => k_is)
    (case c => k_is)
    (case k => k_is)
    refine' Vf.let_ (Vf.df_mk (x := "_law_raised_right") (st := K09.s_l_raised_right) (ps := ["_law_row", "_law_at"]) KX G ?a ?l ?c ?k (fun _ _ _ _ _ _ us hl => match us, hl with | [_, _], _ => rfl)) (fun d_l_raised_right => ?_)
    (case a => k_is)
    (case l => k_is)
    (case c => k_is)
    (case k => k_is)
    refine' Vf.let_ (Vf.df_mk (x := "_law_right") (st := K09.s_l_right) (ps := ["_law_dice_here"]) KX G ?a ?l ?c ?k (fun _ _ _ _ _ _ us hl => match us, hl with | [_], _ => rfl)) (fun d_l_right => ?_)
    (case a => k_is)
    (case l => k_is)
    (case c => k_is)
    (case k => k_is)
    refine' Vf.let_ (Vf.df_mk (x := "law") (st := K09.s_law) (ps := ["_law_script"]) KX G ?a ?l ?c ?k (fun _ _ _ _ _ _ us hl => match us, hl with | [_], _ => rfl)) (fun d_law => ?_)
    (case a => k_is)
    (case l => k_is)
    (case c => k_is)
    (case k => k_is)
    refine' Vf.let_ (show mg "abs" = none from PySem.W.mg_none_of KX G ?z) (fun b_abs => ?_)
    (case z => k_is)
    refine' Vf.let_ (show mg "all" = none from PySem.W.mg_none_of KX G ?z) (fun b_all => ?_)
    (case z => k_is)
    refine' Vf.let_ (show mg "bool" = none from PySem.W.mg_none_of KX G ?z) (fun b_bool => ?_)
    (case z => k_is)
    refine' Vf.let_ (show mg "int" = none from PySem.W.mg_none_of KX G ?z) (fun b_int => ?_)
    (case z => k_is)
    refine' Vf.let_ (show mg "isinstance" = none from PySem.W.mg_none_of KX G ?z) (fun b_isinstance => ?_)
    (case z => k_is)
    refine' Vf.let_ (show mg "len" = none from PySem.W.mg_none_of KX G ?z) (fun b_len => ?_)
    (case z => k_is)
    refine' Vf.let_ (show mg "list" = none from PySem.W.mg_none_of KX G ?z) (fun b_list => ?_)
    (case z => k_is)
    refine' Vf.let_ (show mg "max" = none from PySem.W.mg_none_of KX G ?z) (fun b_max => ?_)
    (case z => k_is)
    refine' Vf.let_ (show mg "min" = none from PySem.W.mg_none_of KX G ?z) (fun b_min => ?_)
    (case z => k_is)
    refine' Vf.let_ (show mg "range" = none from PySem.W.mg_none_of KX G ?z) (fun b_range => ?_)
    (case z => k_is)
    refine' Vf.let_ (show mg "sum" = none from PySem.W.mg_none_of KX G ?z) (fun b_sum => ?_)
    (case z => k_is)
    refine' Vf.let_ (show mg "tuple" = none from PySem.W.mg_none_of KX G ?z) (fun b_tuple => ?_)
    (case z => k_is)
    refine' Vf.let_ (show mg "zip" = none from PySem.W.mg_none_of KX G ?z) (fun b_zip => ?_)
    (case z => k_is)
    refine' Vf.let_ (show ∃ u, mg "LEAST_POINTS" = some u ∧ L2.RelV (.int 3) u from Vf.const_mk KX G ?z) (fun c_LEAST_POINTS => ?_)
    (case z => k_is)
    refine' Vf.let_ (show ∃ u, mg "MOST_POINTS" = some u ∧ L2.RelV (.int 16) u from Vf.const_mk KX G ?z) (fun c_MOST_POINTS => ?_)
    (case z => k_is)
    refine' Vf.let_ (show ∃ u, mg "_TOO_LONG" = some u ∧ L2.RelV (.int 100000000000000000000000000000000000000000000000000000000000000000000000000000000000000000000000000000000000000000000000000000000000000000000000000000000000000000000000000000000000000000000000000000000) u from Vf.const_mk KX G ?z) (fun c_TOO_LONG => ?_)
    (case z => k_is)
    exact Vf.law_ok hmg d_law fun base _ _ D => K09.all_ok (P := PySem.Challenge.rw_timesthrough_k09_counting_by_terms_and_c.prog) ⟨b_abs, b_all, b_bool, b_int, b_isinstance, b_len, b_list, b_max, b_min, b_range, b_sum, b_tuple, b_zip, c_LEAST_POINTS, c_MOST_POINTS, c_TOO_LONG⟩ d_is_short d_is_integer d_is_row d_counting d_genus d_terms_of d_conditions_of d_check_row d_product_of d_product_with_cubic d_counting_of d_l_dice d_l_roll d_l_small d_l_great d_l_terms_of d_l_conditions_of d_l_with d_l_small_right d_l_turned_right d_l_raised_right d_l_right D
