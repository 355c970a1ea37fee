import PyProof.Rows.All
import Wide.All
import OpenK.AllK
import Wide.FinOn
import HandS.ForMost
import HandS.Codes
import HandS.TupAny
import HandS.TupMul
import HandS.Zip
import HandS.Walk
import HandS.Conv
import HandS.IsInst
import HandS.Wide
import HandS.WideBits
import HandS.Rev
import HandS.RevTup
import HandS.Style
import HandS.Defaults
import HandS.SetFor
import HandS.Strs
import HandS.TupSets
import HandS.SortKw
import HandS.NamedTupSort
import HandS.Evl
import KE.GoesNew
import KE.GoesMore
import PySem.Challenge.RW_timesthrough_k26_whole_all_exceptional_r
set_option Elab.async false
set_option linter.all false
set_option maxRecDepth 100000
set_option maxHeartbeats 4000000
/-! ## Prelude: rules and heap words that the proofs share -/
namespace L2
open PySem PySem.Spec PyProof.Rows
section
variable {X : Cx}
def CPowW (i j : Int) : Prop := 0 ≤ j ∧ (Builtin.Int.intBits i : Int) * j ≤ 2 ^ 27
def CMulE (i j : Int) : Prop := CMul i j ∨ CMulW i j
theorem op_mulE : OpR X (binaryOp .Mult) (rI CMulE fun i j => .int (i * j)) := opI fun _ _ _ _ _ _ _ hc q => by
  rcases hc with h | h
  · exact mul_int q h.ok
  · exact mul_int q h.ok
theorem wmul {i j : Int} {a b : Nat} (ha : i.natAbs < 2 ^ a) (hb : j.natAbs < 2 ^ b) (h0 : 0 < a) (h1 : 0 < b) (h : a + b ≤ 1000000) : CMulE i j := .inr (wide_mul ha hb h0 h1 h)
theorem mulX_left {i j : Int} (h : -(2 ^ 64) < i ∧ i < 2 ^ 64) : CMulE i j := .inl (.inl h)
theorem mulX_right {i j : Int} (h : -(2 ^ 64) < j ∧ j < 2 ^ 64) : CMulE i j := .inl (.inr h)
theorem op_powW : OpR X (binaryOp .Pow) (rI CPowW fun i j => .int (i ^ j.toNat)) := opI fun _ _ _ _ _ _ _ hc q => pow_int hc.1 hc.2 q
end
end L2
namespace C8b
open PySem L2
theorem blk {N : List Str} {sc scope : Scope} {own : List (Str × Nat)} (h : blkC N sc scope own = true) : BlkOk N sc scope own := blkOk_by h
end C8b
namespace PySem
section
variable {prog : Program} {w : World} {A : Around} {E : Value → Shared → Prop} {s : Shared} {l : Addr} {xs : Array (Int × Tok)}
abbrev iterOf (l : Addr) : Obj := { cls := .type "tuple_iterator", data := .fields #[.ref l, .int 0 0] }
theorem vf_iterT {Q : Value → Shared → Prop} (hl : s.heap.IsTuple l (intItems xs))
    (h : ∀ s₂ : Shared, s₂ = { s with heap := s.heap.push (iterOf l) } →
      (s₂.heap.IsTupleIter s.heap.objs.size l 0 ∧ s₂.heap.IsTuple l (intItems xs)) → (∀ b ∈ [s.heap.objs.size, l], b < s₂.heap.objs.size) → l ≠ s.heap.objs.size → Q (.ref s.heap.objs.size) s₂) :
    wpAny (model prog w) A (pyIter (.ref l)) Q E s := by
  have below : l < s.heap.objs.size := hl.elim fun _ got => Heap.lt_size got.1
  have both : ∀ b ∈ [s.heap.objs.size, l], b < (s.heap.push (iterOf l)).objs.size := by
    rw [Heap.size_push]
    exact List.forall_mem_cons.mpr ⟨Nat.lt_succ_self _, List.forall_mem_singleton.mpr (Nat.lt_succ_of_lt below)⟩
  exact wpAny_pyIter_tuple hl (h _ rfl ⟨⟨_, Heap.get?_push_size _ rfl, rfl, rfl⟩, PyProof.Rows.IsTup.push hl _⟩ both (Nat.ne_of_lt below))
theorem vf_old {h' : Heap} (hk : ∀ b o, b ∉ [s.heap.objs.size] → (s.heap.push (iterOf l)).get? b = some o → h'.get? b = some o) : ∀ b o, s.heap.get? b = some o → h'.get? b = some o := fun b o e =>
  hk b o (fun m => Nat.lt_irrefl _ (List.mem_singleton.mp m ▸ Heap.lt_size e)) (Heap.get?_push_of_some _ e)
end
theorem numbers_at {xs : Array (Int × Tok)} {i : Nat} (h : i < xs.size) : numAt xs i ∈ xs.toList.map Prod.fst := by
  rw [numAt_eq]
  exact PySem.getD_mem (by simpa using h)
theorem numbers_all {xs : Array (Int × Tok)} {p : Int → Prop} (h : ∀ i, i < xs.size → p (numAt xs i)) : ∀ y ∈ xs.toList.map Prod.fst, p y := fun y m => by
  obtain ⟨i, hi, rfl⟩ := mem_getD m
  have := h i (by simpa using hi)
  rwa [numAt_eq] at this
end PySem
namespace L2
open PySem PySem.Spec PyProof.Rows
section
variable {X : Cx}
def rSumT (K : PySem.W.Frag) : List V → Hp → VK → Prop := fun vs H Q => ∃ (a : Addr) (ns : List Int), vs = [V.ref a] ∧ SqT K H a (ns.map V.int) ∧ Q (.int ns.sum) H
def rMinT (K : PySem.W.Frag) : List V → Hp → VK → Prop := fun vs H Q => ∃ (a : Addr) (ns : List Int), vs = [V.ref a] ∧ SqT K H a (ns.map V.int) ∧ 0 < ns.length ∧ ∀ m, m ∈ ns → (∀ y, y ∈ ns → m ≤ y) → Q (.int m) H
def rMaxT (K : PySem.W.Frag) : List V → Hp → VK → Prop := fun vs H Q => ∃ (a : Addr) (ns : List Int), vs = [V.ref a] ∧ SqT K H a (ns.map V.int) ∧ 0 < ns.length ∧ ∀ m, m ∈ ns → (∀ y, y ∈ ns → y ≤ m) → Q (.int m) H
theorem numbersOf {pins : List (Addr × Obj)} {σ : L2.St} {H : Hp} {s : Shared} {a : Addr} {ns : List Int} (I : Inv X pins σ H s) (isT : SqT X.K H a (ns.map V.int)) : ∃ xs : Array (Int × Tok), s.heap.IsTuple a (intItems xs) ∧ xs.toList.map Prod.fst = ns := by
  have ⟨vs, rel, here, _⟩ := I.tuple isT
  have ⟨xs, same⟩ := rel.ints.allInts.items
  rw [same] at here
  exact ⟨xs, here, by rw [← nums_intItems, ← same]; exact rel.ints.numsOf⟩
theorem cr_sumT (hc : X.calm = true) : CallR X (.builtin "sum") (rSumT X.K) := fun pins s σ H _ _ Q I rel ⟨a, ns, e, isT, q⟩ => by
  subst e
  rw [Vals.ref1 rel]
  obtain ⟨xs, here, rfl⟩ := numbersOf I isT
  refine call_sum_walkG (vf_iterT here fun s2 e st fp more => ?_)
  subst e
  refine ⟨_, _, _, _, _, _, numAt xs, rfl, Walks.tuple (A := X.A.in1) (I.ok.hd hc) _ a more (intItems xs), st, fp, (fun _ _ => intItems_at), fun h' tk t' old => ?_⟩
  refine ⟨.int _, H, I.kept (vf_old old), ⟨_, rfl⟩, ?_⟩
  rw [show (intItems xs).size = xs.size by simp [intItems], preSum_eq, List.take_of_length_le (by simp)]
  exact q
theorem cr_minT (hc : X.calm = true) : CallR X (.builtin "min") (rMinT X.K) := fun pins s σ H _ _ Q I rel ⟨a, ns, e, isT, some_, best⟩ => by
  subst e
  rw [Vals.ref1 rel]
  obtain ⟨xs, here, rfl⟩ := numbersOf I isT
  have size : 0 < xs.size := by simpa using some_
  refine call_min_walk (vf_iterT here fun s2 e st fp more => ?_)
  subst e
  refine ⟨_, _, _, _, _, _, _, rfl, Walks.tuple (A := X.A.in1) (I.ok.hd hc) _ a more (intItems xs), st, fp, by simpa [intItems] using size, CmpOf.ints_lt (numAt xs) (fun _ _ => intItems_at), fun v h' tk it old => ?_⟩
  obtain ⟨t, rfl⟩ := intItems_at it
  rw [show (intItems xs).size = xs.size by simp [intItems]]
  have ⟨low, all⟩ := argBest_lt (numAt xs) (xs.size - 1)
  exact ⟨.int _, H, I.kept (vf_old old), ⟨_, rfl⟩, best _ (numbers_at (by omega)) (numbers_all fun j _ => all j (by omega))⟩
theorem cr_maxT (hc : X.calm = true) : CallR X (.builtin "max") (rMaxT X.K) := fun pins s σ H _ _ Q I rel ⟨a, ns, e, isT, some_, best⟩ => by
  subst e
  rw [Vals.ref1 rel]
  obtain ⟨xs, here, rfl⟩ := numbersOf I isT
  have size : 0 < xs.size := by simpa using some_
  refine call_max_walk (vf_iterT here fun s2 e st fp more => ?_)
  subst e
  refine ⟨_, _, _, _, _, _, _, rfl, Walks.tuple (A := X.A.in1) (I.ok.hd hc) _ a more (intItems xs), st, fp, by simpa [intItems] using size, CmpOf.ints_gt (numAt xs) (fun _ _ => intItems_at), fun v h' tk it old => ?_⟩
  obtain ⟨t, rfl⟩ := intItems_at it
  rw [show (intItems xs).size = xs.size by simp [intItems]]
  have ⟨low, all⟩ := argBest_gt (numAt xs) (xs.size - 1)
  exact ⟨.int _, H, I.kept (vf_old old), ⟨_, rfl⟩, best _ (numbers_at (by omega)) (numbers_all fun j _ => all j (by omega))⟩
end
end L2
/-! ### heaps -/
namespace Vf
open PySem PySem.Spec PyProof.Rows L2
/-- all but the objects at S stand as they stood; tuples and locked things always do -/
structure Kp (S : Addr → Prop) (H H' : Hp) : Prop where
  keep : ∀ p o, ¬ S p → H p = some o → H' p = some o
  tup : ∀ p xs, H p = some (.tup xs) → H' p = some (.tup xs)
  frz : ∀ p o u, H p = some (.frz o u) → H' p = some (.frz o u)
  live : ∀ p, H' p = none → H p = none
abbrev N0 : Addr → Prop := fun _ => False
abbrev At (a : Addr) : Addr → Prop := fun p => p = a
section
variable {S S' : Addr → Prop} {H H1 H2 H' : Hp} {p l : Addr} {o : HO} {K : PySem.W.Frag} {xs ys : List V}
theorem Kp.refl (S : Addr → Prop) (H : Hp) : Kp S H H := ⟨fun _ _ _ h => h, fun _ _ h => h, fun _ _ _ h => h, fun _ h => h⟩
theorem Kp.trans (a : Kp S H H1) (b : Kp S H1 H2) : Kp S H H2 := ⟨fun p o n h => b.keep p o n (a.keep p o n h), fun p xs h => b.tup p xs (a.tup p xs h), fun p o u h => b.frz p o u (a.frz p o u h), fun p h => a.live p (b.live p h)⟩
theorem Kp.mono (a : Kp S H H1) (h : ∀ p, S p → S' p) : Kp S' H H1 := ⟨fun p o n => a.keep p o fun z => n (h p z), a.tup, a.frz, a.live⟩
theorem Kp.up (a : Kp N0 H H1) : Kp S H H1 := a.mono fun _ z => z.elim
theorem Kp.same (a : Kp N0 H H1) : Same H H1 := fun p o h => a.keep p o (fun z => z) h
theorem Kp.of_same (a : Same H H1) : Kp S H H1 := ⟨fun p o _ h => a p o h, fun p _ h => a p _ h, fun p _ _ h => a p _ h, fun _ h => a.free h⟩
theorem same_new (h : H p = none) : Same H (upd H p o) := fun b x e => by
  rw [upd_ne (ne_of_none e h)]
  exact e
theorem Kp.new (h : H p = none) : Kp S H (upd H p o) := .of_same (same_new h)
theorem Kp.sqT (a : Kp S H H1) (h : SqT K H p xs) : SqT K H1 p xs := by
  rcases h with (h | ⟨o, h⟩) | h
  · exact .inl (.inl (a.tup _ _ h))
  · exact .inl (.inr ⟨o, a.frz _ _ _ h⟩)
  · exact .inr h
/-- a list that stood before and may change -/
theorem Kp.mut (hs : S l) (h : H l = some (.lst xs)) : Kp S H (upd H l (.lst ys)) := by
  have hl : ∀ b u, H b = some u → (∀ zs, u ≠ .lst zs) → b ≠ l := fun b u e n z => by
    rw [z, h] at e
    exact n xs (Option.some.inj e).symm
  refine ⟨fun b u n e => ?_, fun b zs e => ?_, fun b u z e => ?_, fun b e => ?_⟩
  · rw [upd_ne (fun z => n (by rw [z]; exact hs))]
    exact e
  · rw [upd_ne (hl b _ e fun _ z => by cases z)]
    exact e
  · rw [upd_ne (hl b _ e fun _ z => by cases z)]
    exact e
  · by_cases z : b = l
    · rw [z, upd_same] at e
      cases e
    · rw [upd_ne z] at e
      exact e
/-- an object that H did not know may change -/
theorem Kp.mut0 (h0 : H l = none) (k : Kp S H H1) : Kp S H (upd H1 l o) := by
  have hl : ∀ b u, H b = some u → b ≠ l := fun b u e => ne_of_none e h0
  refine ⟨fun b u n e => ?_, fun b zs e => ?_, fun b u z e => ?_, fun b e => ?_⟩
  · rw [upd_ne (hl b _ e)]
    exact k.keep _ _ n e
  · rw [upd_ne (hl b _ e)]
    exact k.tup _ _ e
  · rw [upd_ne (hl b _ e)]
    exact k.frz _ _ _ e
  · by_cases z : b = l
    · rw [z, upd_same] at e
      cases e
    · rw [upd_ne z] at e
      exact k.live _ e
/-- the dice at a: a list of three ints -/
def Dc (a : Addr) (H : Hp) : Prop := ∃ l m c : Int, H a = some (.lst [.int l, .int m, .int c])
theorem Dc.kp (d : Dc a H) (k : Kp N0 H H') : Dc a H' := by
  obtain ⟨l, m, c, h⟩ := d
  exact ⟨l, m, c, k.keep _ _ (fun z => z) h⟩
theorem Dc.upd_ne (d : Dc a H) (h : a ≠ p) : Dc a (upd H p o) := by
  obtain ⟨l, m, c, e⟩ := d
  exact ⟨l, m, c, by rw [L2.upd_ne h]; exact e⟩
theorem Dc.ne (d : Dc a H) (h : H p = none) : a ≠ p := by
  obtain ⟨l, m, c, e⟩ := d
  exact ne_of_none e h
/-- .. changes alone -/
structure DR (a : Addr) (H H' : Hp) : Prop where
  kp : Kp (At a) H H'
  dc : Dc a H'
theorem DR.refl (d : Dc a H) : DR a H H := ⟨.refl _ _, d⟩
theorem DR.trans (x : DR a H H1) (y : DR a H1 H2) : DR a H H2 := ⟨x.kp.trans y.kp, y.dc⟩
theorem DR.of (d : Dc a H) (k : Kp N0 H H1) : DR a H H1 := ⟨k.up, d.kp k⟩
theorem DR.sqT (x : DR a H H1) (h : SqT K H p xs) : SqT K H1 p xs := x.kp.sqT h
theorem DR.lst (x : DR a H H1) (n : p ≠ a) (h : H p = some (.lst xs)) : H1 p = some (.lst xs) := x.kp.keep _ _ n h
theorem rd_new {Q : VK} (h : ∀ p H1, H p = none → Kp N0 H H1 → H1 p = some o → Q (.ref p) H1) : ∀ p, H p = none → Q (.ref p) (upd H p o) := fun p hp => h p _ hp (.new hp) upd_same
end

/-! ### comprehensions -/
section
variable {J : It} {n : Nat} {Gw : Hp → Prop} {Y : Nat → Hp → V → Hp → Prop} {S : Addr → Prop} {g : TG} {tt : TT} {te : TE} {vs : List Nat} {σ : L2.St} {H1 : Hp} {Qd : Addr → Hp → Prop}
/-- G: what stands all the while (beside what Kp says); P: what is said of the i-th item -/
theorem lc_gen (w : Walk J n Gw Y) (G : Hp → Prop) (P : Nat → V → Hp → Prop) (hn : n < sizeLine)
    (hG : G H1) (hGn : ∀ H D o, H1 D = none → G H → G (upd H D o)) (hw : ∀ H, Kp S H1 H → G H → Gw H)
    (hP : ∀ i y H H', P i y H → Kp S H H' → P i y H') (hPn : ∀ i y H D zs zs', H1 D = none → H D = some (.lst zs) → P i y H → P i y (upd H D (.lst zs')))
    (hD : ∀ D, H1 D = none → ¬ S D)
    (turn : ∀ i x H H', i < n → Kp S H1 H → G H → Y i H x H' → ∀ R : VK, (∀ y H4, Kp S H H4 → G H4 → P i y H4 → R y H4) → g x (wipe σ vs) H' fun σ2 H2 => wipe σ2 vs = wipe σ vs ∧ te σ2 H2 R)
    (fin : ∀ D H' ys, H1 D = none → Kp S H1 H' → G H' → H' D = some (.lst ys) → ys.length = n → (∀ i y, ys[i]? = some y → P i y H') → Qd D H') :
    ∀ D, H1 D = none → ∃ W : Nat → Nat → Hp → Prop, (∃ m, W 0 m (upd H1 D (.lst []))) ∧ ∀ i m H, W i m H →
      (J.stop i H ∧ Qd D H) ∨ (J.go i H ∧ ∃ Nx : Hp → Prop, (∀ H', Nx H' → ∃ m', m' < m ∧ W (i + 1) m' H') ∧ ∀ x H', J.yld i H x H' → g x (wipe σ vs) H' fun σ2 H2 => wipe σ2 vs = wipe σ vs ∧ tYes σ2 H2 fun b H3 =>
        if b = true then te σ2 H3 fun y H4 => ∃ acc, H4 D = some (.lst acc) ∧ acc.length < sizeLine ∧ Nx (upd H4 D (.lst (acc ++ [y]))) else Nx H3) := by
  intro D hDn
  refine ⟨fun i m H => m = n - i ∧ i ≤ n ∧ Kp S H1 H ∧ G H ∧ ∃ ys, H D = some (.lst ys) ∧ ys.length = i ∧ ∀ j y, ys[j]? = some y → P j y H, ⟨n, by simp, Nat.zero_le _, .new hDn, hGn _ _ _ hDn hG, [], upd_same, rfl, fun j y h => by simp at h⟩, ?_⟩
  rintro i m H ⟨rfl, hi, k, g0, ys, hy, hl, hp⟩
  have q := hw H k g0
  by_cases hlt : i < n
  · refine .inr ⟨w.goes i H hlt q, fun H' => Kp S H1 H' ∧ G H' ∧ ∃ ys, H' D = some (.lst ys) ∧ ys.length = i + 1 ∧ ∀ j y, ys[j]? = some y → P j y H', fun H' p' => ⟨n - (i + 1), by omega, rfl, hlt, p'⟩, fun x H' y => ?_⟩
    exact turn i x H H' hlt k g0 (w.yields i H x H' hlt q y) _ fun z H4 k4 g4 p4 => by
      have hd4 : H4 D = some (.lst ys) := k4.keep _ _ (hD D hDn) hy
      refine ⟨ys, hd4, by omega, .mut0 hDn (k.trans k4), hGn _ _ _ hDn g4, ys ++ [z], upd_same, by simp [hl], fun j u hu => ?_⟩
      by_cases hj : j < ys.length
      · rw [List.getElem?_append_left hj] at hu
        exact hPn _ _ _ _ _ _ hDn hd4 (hP _ _ _ _ (hp j u hu) k4)
      · rw [List.getElem?_append_right (by omega)] at hu
        have e : j = i := by
          have : j - ys.length < [z].length := (List.getElem?_eq_some_iff.mp hu).1
          simp at this
          omega
        subst e
        rw [hl, Nat.sub_self] at hu
        have e2 : z = u := Option.some.inj hu
        subst e2
        exact hPn _ _ _ _ _ _ hDn hd4 p4
  · have e : i = n := by omega
    subst e
    exact .inl ⟨w.stops H q, fin D H ys hDn k g0 hy hl hp⟩
end
end Vf
/-! ### single readings -/
namespace Vf
open PySem PySem.Spec PyProof.Rows L2
section
variable {S : Addr → Prop} {H H1 : Hp} {a b p l : Addr} {K : PySem.W.Frag} {xs ys : List V} {Q : VK} {lo hi : Option Int} {v : V} {i : Int}
theorem sl_do (h : H a = some (.tup xs)) (q : ∀ p H1, Kp N0 H H1 → H1 p = some (.tup (cutV xs lo hi)) → Q (.ref p) H1) : rSlA K (.ref a) lo hi H Q := by
  refine ⟨a, xs, rfl, SqT.of h, fun w => q a H (.refl _ _) ?_, fun _ => rd_new fun p H1 _ e h1 => q p H1 e h1⟩
  rw [h]
  unfold cutV
  rw [w.1, w.2]
  simp
theorem sl_from {σ : L2.St} (h : H a = some (.tup xs)) (q : ∀ p H1, Kp N0 H H1 → H1 p = some (.tup (cutV xs lo none)) → Q (.ref p) H1) : tNoPart σ H fun u H2 => rSlA K (.ref a) lo u H2 Q := sl_do h q
theorem cat_do (h : H a = some (.tup xs)) (h2 : H b = some (.tup ys)) (hz : xs.length + ys.length ≤ sizeLine) (q : ∀ p H1, Kp N0 H H1 → H1 p = some (.tup (xs ++ ys)) → Q (.ref p) H1) : rCatA K (.ref a) (.ref b) H Q := by
  refine ⟨a, b, xs, ys, rfl, rfl, SqT.of h, SqT.of h2, hz, fun w => q b H (.refl _ _) ?_, fun _ w => q a H (.refl _ _) ?_, fun _ _ => rd_new fun p H1 _ e h1 => q p H1 e h1⟩
  · rw [h2, w]; rfl
  · rw [h, w]; simp
theorem ixT_do (h : H a = some (.tup xs)) (hv : atI xs i = some v) (q : Q v H) : rIxT K (.ref a) (.int i) H Q := ⟨a, xs, i, v, rfl, rfl, SqT.of h, hv, q⟩
theorem ixL_do (h : SqL K H a xs) (hv : atI xs i = some v) (q : Q v H) : rIxL K (.ref a) (.int i) H Q := ⟨a, xs, i, v, rfl, rfl, h, hv, q⟩
theorem at_row {ns : List Int} {j : Nat} (h : j < ns.length) : atI (ns.map V.int) (j : Int) = some (.int (ns.getD j 0)) := by
  refine atI_nat ?_
  rw [List.getElem?_map, List.getElem?_eq_getElem h, List.getD_eq_getElem?_getD, List.getElem?_eq_getElem h]
  rfl
theorem at_row0 {ns : List Int} (h : 0 < ns.length) : atI (ns.map V.int) 0 = some (.int (ns.getD 0 0)) := at_row (j := 0) h
theorem cut_from {xs : List V} {k : Nat} : cutV xs (some (k : Int)) none = xs.drop k := by
  unfold cutV
  rw [HT.sIx_nat, HT.sIx_none]
  by_cases h : k ≤ xs.length
  · rw [Nat.min_eq_left h, ← List.length_drop, List.take_length]
  · rw [Nat.min_eq_right (by omega), List.drop_eq_nil_of_le (by omega : xs.length ≤ xs.length), List.drop_eq_nil_of_le (by omega)]
    simp
theorem cut_to {xs : List V} {k : Nat} : cutV xs none (some (k : Int)) = xs.take k := by
  unfold cutV
  rw [HT.sIx_nat, HT.sIx_none]
  show List.take (min k xs.length - 0) (xs.drop 0) = xs.take k
  rw [Nat.sub_zero, List.drop_zero]
  by_cases h : k ≤ xs.length
  · rw [Nat.min_eq_left h]
  · rw [Nat.min_eq_right (by omega), List.take_length, List.take_of_length_le (by omega)]
theorem cut_1 {ns : List Int} : cutV (ns.map V.int) (some 1) none = (ns.drop 1).map V.int := by
  rw [show (some (1 : Int)) = some ((1 : Nat) : Int) from rfl, cut_from, List.map_drop]
theorem tyT (h : H a = some (.tup xs)) : TyX K H (.ref a) (.type "tuple") := .base (.tup h)
end

/-! ### comprehensions of ints -/
section
variable {J : It} {n : Nat} {Gw : Hp → Prop} {Y : Nat → Hp → V → Hp → Prop} {S : Addr → Prop} {g : TG} {tt : TT} {te : TE} {vs : List Nat} {σ : L2.St} {H1 : Hp} {Qd : Addr → Hp → Prop}
theorem ints_of {ys : List V} {p : Int → Prop} : (∀ (i : Nat) (y : V), ys[i]? = some y → ∃ z, y = .int z ∧ p z) → ∃ zs : List Int, ys = zs.map V.int ∧ ∀ z ∈ zs, p z := by
  induction ys with
  | nil => exact fun _ => ⟨[], rfl, fun _ h => by simp at h⟩
  | cons y r ih =>
    intro h
    obtain ⟨zs, e, hz⟩ := ih fun i u hu => h (i + 1) u (by simpa using hu)
    obtain ⟨z, ez, pz⟩ := h 0 y (by simp)
    refine ⟨z :: zs, by rw [e, ez]; rfl, fun u hu => ?_⟩
    rcases List.mem_cons.mp hu with rfl | hu
    · exact pz
    · exact hz u hu
theorem ext_of {ys : List V} {n : Nat} {f : Nat → V} (hl : ys.length = n) (h : ∀ (i : Nat) (y : V), ys[i]? = some y → y = f i) : ys = (List.range n).map f := by
  refine List.ext_getElem (by simp [hl]) fun i h1 h2 => ?_
  rw [h i ys[i] (by simp [h1])]
  simp
/-- pure: the items are ints that are told by their place -/
theorem lc_ints (w : Walk J n Gw Y) (f : Nat → Int) (hn : n ≤ 100000) (hw : ∀ H, Kp N0 H1 H → Gw H)
    (turn : ∀ i x H H', i < n → Kp N0 H1 H → Y i H x H' → ∀ R : VK, (∀ H4, Kp N0 H H4 → R (.int (f i)) H4) → g x (wipe σ vs) H' fun σ2 H2 => wipe σ2 vs = wipe σ vs ∧ te σ2 H2 R)
    (fin : ∀ D H', Kp N0 H1 H' → H' D = some (.lst (((List.range n).map f).map V.int)) → Qd D H') :
    ∀ D, H1 D = none → ∃ W : Nat → Nat → Hp → Prop, (∃ m, W 0 m (upd H1 D (.lst []))) ∧ ∀ i m H, W i m H →
      (J.stop i H ∧ Qd D H) ∨ (J.go i H ∧ ∃ Nx : Hp → Prop, (∀ H', Nx H' → ∃ m', m' < m ∧ W (i + 1) m' H') ∧ ∀ x H', J.yld i H x H' → g x (wipe σ vs) H' fun σ2 H2 => wipe σ2 vs = wipe σ vs ∧ tYes σ2 H2 fun b H3 =>
        if b = true then te σ2 H3 fun y H4 => ∃ acc, H4 D = some (.lst acc) ∧ acc.length < sizeLine ∧ Nx (upd H4 D (.lst (acc ++ [y]))) else Nx H3) :=
  lc_gen (S := N0) w (fun _ => True) (fun i y _ => y = .int (f i)) (Nat.lt_of_le_of_lt hn (by decide)) trivial (fun _ _ _ _ _ => trivial) (fun H k _ => hw H k) (fun _ _ _ _ h _ => h) (fun _ _ _ _ _ _ _ _ h => h) (fun _ _ z => z)
    (fun i x H H' hi k _ y R hR => turn i x H H' hi k y R fun H4 k4 => hR _ _ k4 trivial rfl)
    (fun D H' ys _ k _ hy hl hp => fin D H' k (by rw [hy, ext_of hl hp, List.map_map]; rfl))
/-- pure: the items are bools -/
theorem lc_bools (w : Walk J n Gw Y) (f : Nat → Bool) (hn : n ≤ 100000) (hw : ∀ H, Kp N0 H1 H → Gw H)
    (turn : ∀ i x H H', i < n → Kp N0 H1 H → Y i H x H' → ∀ R : VK, (∀ H4, Kp N0 H H4 → R (.bl (f i)) H4) → g x (wipe σ vs) H' fun σ2 H2 => wipe σ2 vs = wipe σ vs ∧ te σ2 H2 R)
    (fin : ∀ D H', Kp N0 H1 H' → H' D = some (.lst (((List.range n).map f).map V.bl)) → Qd D H') :
    ∀ D, H1 D = none → ∃ W : Nat → Nat → Hp → Prop, (∃ m, W 0 m (upd H1 D (.lst []))) ∧ ∀ i m H, W i m H →
      (J.stop i H ∧ Qd D H) ∨ (J.go i H ∧ ∃ Nx : Hp → Prop, (∀ H', Nx H' → ∃ m', m' < m ∧ W (i + 1) m' H') ∧ ∀ x H', J.yld i H x H' → g x (wipe σ vs) H' fun σ2 H2 => wipe σ2 vs = wipe σ vs ∧ tYes σ2 H2 fun b H3 =>
        if b = true then te σ2 H3 fun y H4 => ∃ acc, H4 D = some (.lst acc) ∧ acc.length < sizeLine ∧ Nx (upd H4 D (.lst (acc ++ [y]))) else Nx H3) :=
  lc_gen (S := N0) w (fun _ => True) (fun i y _ => y = .bl (f i)) (Nat.lt_of_le_of_lt hn (by decide)) trivial (fun _ _ _ _ _ => trivial) (fun H k _ => hw H k) (fun _ _ _ _ h _ => h) (fun _ _ _ _ _ _ _ _ h => h) (fun _ _ z => z)
    (fun i x H H' hi k _ y R hR => turn i x H H' hi k y R fun H4 k4 => hR _ _ k4 trivial rfl)
    (fun D H' ys _ k _ hy hl hp => fin D H' k (by rw [hy, ext_of hl hp, List.map_map]; rfl))
/-- with the dice at a: the items are ints of which p holds -/
theorem lc_draws {a : Addr} (w : Walk J n Gw Y) (p : Int → Prop) (hn : n ≤ 100000) (hd : Dc a H1) (hw : ∀ H, DR a H1 H → Gw H)
    (turn : ∀ i x H H', i < n → DR a H1 H → Y i H x H' → ∀ R : VK, (∀ z H4, DR a H H4 → p z → R (.int z) H4) → g x (wipe σ vs) H' fun σ2 H2 => wipe σ2 vs = wipe σ vs ∧ te σ2 H2 R)
    (fin : ∀ D H' (zs : List Int), H1 D = none → DR a H1 H' → H' D = some (.lst (zs.map V.int)) → zs.length = n → (∀ z ∈ zs, p z) → Qd D H') :
    ∀ D, H1 D = none → ∃ W : Nat → Nat → Hp → Prop, (∃ m, W 0 m (upd H1 D (.lst []))) ∧ ∀ i m H, W i m H →
      (J.stop i H ∧ Qd D H) ∨ (J.go i H ∧ ∃ Nx : Hp → Prop, (∀ H', Nx H' → ∃ m', m' < m ∧ W (i + 1) m' H') ∧ ∀ x H', J.yld i H x H' → g x (wipe σ vs) H' fun σ2 H2 => wipe σ2 vs = wipe σ vs ∧ tYes σ2 H2 fun b H3 =>
        if b = true then te σ2 H3 fun y H4 => ∃ acc, H4 D = some (.lst acc) ∧ acc.length < sizeLine ∧ Nx (upd H4 D (.lst (acc ++ [y]))) else Nx H3) :=
  lc_gen (S := At a) w (Dc a) (fun _ y _ => ∃ z, y = .int z ∧ p z) (Nat.lt_of_le_of_lt hn (by decide)) hd (fun H D o h d => d.upd_ne (hd.ne h)) (fun H k d => hw H ⟨k, d⟩) (fun _ _ _ _ h _ => h) (fun _ _ _ _ _ _ _ _ h => h) (fun D h z => hd.ne h z.symm)
    (fun i x H H' hi k d y R hR => turn i x H H' hi ⟨k, d⟩ y R fun z H4 k4 pz => hR _ _ k4.kp k4.dc ⟨z, rfl, pz⟩)
    (fun D H' ys hDn k d hy hl hp => by
      obtain ⟨zs, e, hz⟩ := ints_of hp
      exact fin D H' zs hDn ⟨k, d⟩ (by rw [hy, e]) (by rw [← hl, e]; simp) hz)
/-- pure, with a test: the ints of the turns that the test lets -/
theorem lc_filt (w : Walk J n Gw Y) (t : Nat → Bool) (f : Nat → Int) (hn : n ≤ 100000) (hw : ∀ H, Kp N0 H1 H → Gw H)
    (turn : ∀ i x H H', i < n → Kp N0 H1 H → Y i H x H' →
      g x (wipe σ vs) H' fun σ2 H2 => wipe σ2 vs = wipe σ vs ∧ (∀ R : Bool → Hp → Prop, (∀ H3, Kp N0 H H3 → R (t i) H3) → tt σ2 H2 R) ∧ (t i = true → ∀ H3, Kp N0 H H3 → ∀ R : VK, (∀ H4, Kp N0 H H4 → R (.int (f i)) H4) → te σ2 H3 R))
    (gm : ∀ x σ H (A B : L2.St → Hp → Prop), (∀ σ H, A σ H → B σ H) → g x σ H A → g x σ H B)
    (fin : ∀ D H', Kp N0 H1 H' → H' D = some (.lst ((((List.range n).filter t).map f).map V.int)) → Qd D H') :
    ∀ D, H1 D = none → ∃ W : Nat → Nat → Hp → Prop, (∃ m, W 0 m (upd H1 D (.lst []))) ∧ ∀ i m H, W i m H →
      (J.stop i H ∧ Qd D H) ∨ (J.go i H ∧ ∃ Nx : Hp → Prop, (∀ H', Nx H' → ∃ m', m' < m ∧ W (i + 1) m' H') ∧ ∀ x H', J.yld i H x H' → g x (wipe σ vs) H' fun σ2 H2 => wipe σ2 vs = wipe σ vs ∧ tt σ2 H2 fun b H3 =>
        if b = true then te σ2 H3 fun y H4 => ∃ acc, H4 D = some (.lst acc) ∧ acc.length < sizeLine ∧ Nx (upd H4 D (.lst (acc ++ [y]))) else Nx H3) := by
  intro D hDn
  refine ⟨fun i m H => m = n - i ∧ i ≤ n ∧ Kp N0 H1 H ∧ H D = some (.lst ((((List.range i).filter t).map f).map V.int)), ⟨n, by simp, Nat.zero_le _, .new hDn, upd_same⟩, ?_⟩
  rintro i m H ⟨rfl, hi, k, hy⟩
  have q := hw H k
  by_cases hlt : i < n
  · refine .inr ⟨w.goes i H hlt q, fun H' => Kp N0 H1 H' ∧ H' D = some (.lst ((((List.range (i + 1)).filter t).map f).map V.int)), fun H' p' => ⟨n - (i + 1), by omega, rfl, hlt, p'⟩, fun x H' y => ?_⟩
    refine gm _ _ _ _ _ (fun σ2 H2 h => ⟨h.1, h.2.1 _ fun H3 k3 => ?_⟩) (turn i x H H' hlt k (w.yields i H x H' hlt q y))
    by_cases ht : t i = true
    · rw [ht, if_pos rfl]
      refine h.2.2 ht H3 k3 _ fun H4 k4 => ?_
      have h4 := k4.keep _ _ (fun z => z) hy
      refine ⟨_, h4, ?_, .mut0 hDn (k.trans k4), ?_⟩
      · rw [List.length_map, List.length_map]
        have := List.length_filter_le t (List.range i)
        rw [List.length_range] at this
        exact Nat.lt_of_le_of_lt (Nat.le_trans this (by omega : i ≤ 100000)) (by decide)
      · rw [upd_same, List.range_succ, List.filter_append, List.filter_cons, if_pos ht]
        simp
    · have e : t i = false := by cases h : t i with | true => exact absurd h ht | false => rfl
      rw [e, if_neg (by decide)]
      refine ⟨k.trans k3, ?_⟩
      rw [k3.keep _ _ (fun z => z) hy, List.range_succ, List.filter_append, List.filter_cons, if_neg ht]
      simp
  · have e : i = n := by omega
    subst e
    exact .inl ⟨w.stops H q, fin D H k hy⟩
theorem gm_name {i : Nat} : ∀ x σ H (A B : L2.St → Hp → Prop), (∀ σ H, A σ H → B σ H) → gName i x σ H A → gName i x σ H B := fun _ _ _ _ _ h q => h _ _ q
end
theorem range_getD {α : Type} (f : Int → α) (ns : List Int) : (List.range ns.length).map (fun i => f (ns.getD i 0)) = ns.map f := by
  refine List.ext_getElem (by simp) fun i h1 h2 => ?_
  simp at h2
  simp [List.getD_eq_getElem?_getD, h2]
theorem range_zip {α : Type} (f : Int → Int → α) (ns ms : List Int) (n : Nat) (h : n = min ns.length ms.length) : (List.range n).map (fun i => f (ns.getD i 0) (ms.getD i 0)) = List.zipWith f ns ms := by
  refine List.ext_getElem (by simp [h]) fun i h1 h2 => ?_
  have hn : i < n := by simpa using h1
  have h3 : i < ns.length := by omega
  have h4 : i < ms.length := by omega
  simp [List.getD_eq_getElem?_getD, h3, h4]
theorem filt_getD (t : Int → Bool) (f : Int → Int) (ns : List Int) : ((List.range ns.length).filter fun i => t (ns.getD i 0)).map (fun i => f (ns.getD i 0)) = (ns.filter t).map f := by
  have h := range_getD (fun x => x) ns
  rw [List.map_id'] at h
  conv => rhs; rw [← h]
  rw [List.filter_map, List.map_map]
  rfl
end Vf
/-! ### defs and the end -/
namespace Vf
open PySem PySem.Spec PyProof.Rows L2
/-- a def of the module, as it stands behind the top -/
def Df (K : PySem.W.Frag) (mg : Str → Option Value) (x : Str) (st : Stmt) (ps : List Str) : Prop :=
  ∃ f fd, C8.Def K mg x st f fd ∧ ∀ us : List Value, us.length = ps.length → bindArgs fd ⟨us, []⟩ = pure (ps.zip us)
theorem df_mk {K : PySem.W.Frag} {h : Heap} {mg : Str → Option Value} (X : K.In h) (G : h.Ns mainGlobals mg) {x : Str} {st : Stmt} {ps : List Str} {f : Addr} {od an : Option Addr} {sl : Array (Option Value)} {oc kV dc pm cd ct : Value}
    (a : PySem.W.nsIn K mainGlobals x = some (some (.ref f)))
    (l : K.lookup f = some ⟨oc, od, .func (PySem.W.fnOf x x (C8.fnArgs st) (C8.fnBody st) (C8.fnScope st) .none kV dc pm an cd ct), sl⟩) (c : PySem.W.codeIn K cd x = true) (k : PySem.W.keepIn K (.ref f) = true)
    (hb : ∀ (kV doc pm : Value) (an : Option Addr) (cdv ct : Value) (us : List Value), us.length = ps.length → bindArgs (PySem.W.fnOf x x (C8.fnArgs st) (C8.fnBody st) (C8.fnScope st) .none kV doc pm an cdv ct) ⟨us, []⟩ = pure (ps.zip us)) :
    Df K mg x st ps :=
  ⟨f, _, ⟨⟨oc, od, .none, kV, dc, pm, an, cd, ct, sl, rfl, l, c⟩, PySem.W.mg_of X G a, k⟩, hb _ _ _ _ _ _⟩
theorem const_mk {K : PySem.W.Frag} {h : Heap} {mg : Str → Option Value} (X : K.In h) (G : h.Ns mainGlobals mg) {x : Str} {i : Int} {t : Tok} (a : PySem.W.nsIn K mainGlobals x = some (some (.int i t))) : ∃ u, mg x = some u ∧ RelV (.int i) u :=
  ⟨_, PySem.W.mg_of X G a, t, rfl⟩
theorem law_ok {P : Program} {w : World} {K : PySem.W.Frag} {mg : Str → Option Value} {fa : Addr} {k : Nat} {x : Str} {st : Stmt} {sp : Sp} (hmg : mg "law" = some (.ref fa)) (d : Df K mg "law" st [x])
    (h : ∀ (base : Heap) (f : Addr) (fd : FuncData), C8.Def K mg "law" st f fd → FnOk P w K mg base CX0 k f fd [x] sp) :
    ∃ fd : FuncData, (∀ (s : Shared) (u : Value), BindsTo s fd ⟨[u], []⟩ [(x, u)]) ∧ ∀ base : Heap, K.In base → base.Ns mainGlobals mg → FnOk P w K mg base CX0 k fa fd [x] sp := by
  obtain ⟨f, fd, D, hb⟩ := d
  have e := hmg.symm.trans D.mgf
  cases e
  exact ⟨fd, fun s u => .of_eq (hb [u] rfl), fun base _ _ => h base _ _ D⟩
theorem walk_law {l : PySem.W.OpenLaw} {k : Nat} {q : Program} {loose : List Str} {XP : (Str → Option Value) → Heap → Prop} {YP : World → Heap → Prop} {d : DefRec} {K : Params → PySem.W.Frag} {sp : PySem.W.Frag → Sp} {x : Str}
    (hn : l.most = some 63) (hdf : d.params.defaults = []) (hY : ∀ (w : World) (h : Heap), YP w h → (K w.params).In h)
    (F : ∀ (w : World) (mg : Str → Option Value) (fa : Addr) (h : Heap), (K w.params).In h → h.Ns mainGlobals mg → mg d.name = some (.ref fa) →
      ∃ fd : FuncData, (∀ (s : Shared) (u : Value), BindsTo s fd ⟨[u], []⟩ [(x, u)]) ∧ ∀ base : Heap, (K w.params).In base → base.Ns mainGlobals mg → FnOk l.prog w (K w.params) mg base CX0 k fa fd [x] (sp (K w.params)))
    (hsp : ∀ (K : PySem.W.Frag) (H : Hp) (a : Addr) (ns : List Int), ns.length ≤ 63 → SqL K H a (ns.map V.int) → sp K [.ref a] H (fun v _ => v = .bl true) fun _ _ _ => False)
    (hr : Room k callerA := by exact ⟨rfl, by decide, by decide⟩) :
    PySem.W.WalkO q loose XP YP l.row.toRowW d [] (fun f vs => PySem.call f vs) :=
  L2.walk_ofK (n := 63) (k := k) (x := x) (CX := CX0) (sp := sp) hn (by decide) hdf hr hY F (fun K H a ns h1 _ h3 => hsp K H a ns h1 h3) fun _ _ _ _ z => z
end Vf
namespace Vf
open PySem PySem.Spec PyProof.Rows L2
theorem int_at {ns : List Int} {i : Nat} (hi : i < ns.length) : (ns.map V.int)[i]? = some (.int (ns.getD i 0)) := by
  rw [List.getElem?_map, List.getElem?_eq_getElem hi, List.getD_eq_getElem?_getD, List.getElem?_eq_getElem hi]
  rfl
theorem two_at {xs ys : List V} {i : Nat} (hi : i < min xs.length ys.length) : ∃ x y, xs[i]? = some x ∧ ys[i]? = some y :=
  ⟨_, _, List.getElem?_eq_getElem (Nat.lt_of_lt_of_le hi (Nat.min_le_left _ _)), List.getElem?_eq_getElem (Nat.lt_of_lt_of_le hi (Nat.min_le_right _ _))⟩
theorem walk_zipT {K : PySem.W.Frag} {a b : Addr} {xs ys : List V} {n : Nat} (hn : n = min xs.length ys.length) : Walk (RZ.ItzT K a b) n (fun H => SqT K H a xs ∧ SqT K H b ys) (YPair (fun i => xs[i]?) (fun i => ys[i]?)) :=
  ⟨fun i _ hi q => have ⟨x, y, hx, hy⟩ := two_at (hn ▸ hi); ⟨xs, ys, x, y, q.1, q.2, hx, hy⟩, fun _ q => ⟨xs, ys, q.1, q.2, by omega⟩,
    fun _ _ _ _ _ q ⟨T, x, z, h1, h2, h3, at1, at2⟩ => ⟨T, x, z, h1, h2, h3, at1 xs q.1, at2 ys q.2⟩⟩
end Vf
namespace Vf
open PySem L2
theorem mod_lt64 {x y : Int} (h : 0 < y ∧ y < 2 ^ 64) : (x % y).natAbs < 2 ^ 64 := by
  have h1 := Int.emod_nonneg x (show y ≠ 0 by omega)
  have h2 := Int.emod_lt_of_pos x h.1
  omega
theorem lp {j : Int} (h : (0 : Int) < j) : 0 < j := h
theorem b2i_lt {b : Bool} : (if b = true then (1 : Int) else 0).natAbs < 2 ^ 64 := by cases b <;> decide
theorem pow_pos_ : (0 : Int) < ((10 : Int) ^ (60 : Int).toNat) ^ (10 : Int).toNat := by decide +kernel
end Vf
namespace Vf
open PySem L2
theorem sz_ {n : Nat} (h : n ≤ 100000) : n ≤ sizeLine := Nat.le_trans h (by decide)
end Vf
/-! ### rules whose new object is told by a name, and rules over the written part K by name -/
namespace Vf
open PySem PySem.Spec PyProof.Rows L2
@[irreducible] def rNewT (xs : List V) (H : Hp) (Q : VK) : Prop := xs.length ≤ sizeLine ∧ ∀ p, H p = none → Q (.ref p) (upd H p (.tup xs))
@[irreducible] def rNewL (xs : List V) (H : Hp) (Q : VK) : Prop := xs.length ≤ sizeLine ∧ ∀ p, H p = none → Q (.ref p) (upd H p (.lst xs))
def tTupN (t : TA) : TE := fun σ H Q => t σ H fun xs H1 => rNewT xs H1 Q
def tLstN (t : TA) : TE := fun σ H Q => t σ H fun xs H1 => rNewL xs H1 Q
@[irreducible] def rRgL (a b : Int) (H : Hp) (Q : VK) : Prop := RgOk a b ∧ ∀ q, H q = none → Q (.ref q) (upd H q (.lst (rgV a b)))
def tLstRgN (te : L2.St → Hp → (Int → Int → Hp → Prop) → Prop) : TE := fun σ H Q => te σ H fun a b H1 => rRgL a b H1 Q
@[irreducible] def rTupOf (K : PySem.W.Frag) (xs : List V) (H : Hp) (Q : VK) : Prop := ∃ p ys, xs = [.ref p] ∧ ((SqL K H p ys ∧ ∀ l, H l = none → Q (.ref l) (upd H l (.tup ys))) ∨ (SqT K H p ys ∧ Q (.ref p) H))
@[irreducible] def rListOf (K : PySem.W.Frag) (xs : List V) (H : Hp) (Q : VK) : Prop := ∃ p ys, xs = [.ref p] ∧ (SqL K H p ys ∨ SqT K H p ys) ∧ ∀ l, H l = none → Q (.ref l) (upd H l (.lst ys))
@[irreducible] def rLen (K : PySem.W.Frag) (xs : List V) (H : Hp) (Q : VK) : Prop := ∃ p ys, xs = [.ref p] ∧ (SqL K H p ys ∨ SqT K H p ys) ∧ Q (.int ys.length) H
@[irreducible] def rSortI (K : PySem.W.Frag) : List V → Hp → VK → Prop := rSorted K
@[irreducible] def rSlI (K : PySem.W.Frag) : V → Option Int → Option Int → Hp → VK → Prop := rSlA K
@[irreducible] def rSlLI (K : PySem.W.Frag) : V → Option Int → Option Int → Hp → VK → Prop := rSlL K
@[irreducible] def rCatI (K : PySem.W.Frag) : R2 := rCatA K
@[irreducible] def rCatLI : R2 := rCat
@[irreducible] def rRepLI : R2 := rRep
@[irreducible] def rEqI (K : PySem.W.Frag) : R2 := rEqD K
@[irreducible] def rNeI (K : PySem.W.Frag) : R2 := rNeD K
section
variable {X : Cx} {K : PySem.W.Frag} {f : Value} {g : Value → Value → Sem Value}
theorem opK (r : PySem.W.Frag → R2) (h : OpR X g (r X.K)) (e : X.K = K := by rfl) : OpR X g (r K) := by rw [← e]; exact h
theorem callK (r : PySem.W.Frag → List V → Hp → VK → Prop) (h : CallR X f (r X.K)) (e : X.K = K := by rfl) : CallR X f (r K) := by rw [← e]; exact h
theorem ixK (r : PySem.W.Frag → R2) (h : IxR X (r X.K)) (e : X.K = K := by rfl) : IxR X (r K) := by rw [← e]; exact h
theorem slK (r : PySem.W.Frag → V → Option Int → Option Int → Hp → VK → Prop) (h : L2.SlR X (r X.K)) (e : X.K = K := by rfl) : L2.SlR X (r K) := by rw [← e]; exact h
theorem op_catI : OpR X (binaryOp .Add) (rCatI X.K) := by unfold rCatI; exact op_catA
theorem op_catLI : OpR X (binaryOp .Add) rCatLI := by unfold rCatLI; exact op_cat
theorem op_repLI : OpR X (binaryOp .Mult) rRepLI := by unfold rRepLI; exact op_rep
theorem op_eqI (hu : X.A.units + 64 < cLine) : OpR X (compareOp .Eq) (rEqI X.K) := by unfold rEqI; exact op_eqD hu
theorem op_neI (hu : X.A.units + 64 < cLine) : OpR X (compareOp .NotEq) (rNeI X.K) := by unfold rNeI; exact op_neD hu
theorem sl_tupI : L2.SlR X (rSlI X.K) := by unfold rSlI; exact sl_tupA
theorem sl_lstI : L2.SlR X (rSlLI X.K) := by unfold rSlLI; exact sl_list
theorem call_lenI : CallR X (.builtin "len") (rLen X.K) := by unfold rLen; exact call_len_seq
theorem call_tupI : CallR X (.type "tuple") (rTupOf X.K) := by unfold rTupOf; exact call_tuple_of
theorem call_lstI : CallR X (.type "list") (rListOf X.K) := by unfold rListOf; exact call_list_of
theorem call_srtI : CallR X (.builtin "sorted") (rSortI X.K) := by unfold rSortI; exact cr_sorted
variable {es : List Expr} {x1 : Nat} {pos p : Pos} {t : TA} {e : Expr} {te : L2.St → Hp → (Int → Int → Hp → Prop) → Prop}
theorem pe_tupN (h : PA X es t) : PE X (.Tuple es x1 pos) (tTupN t) := by
  unfold tTupN rNewT
  exact pe_tup h
theorem pe_lstN (h : PA X es t) : PE X (.List es pos) (tLstN t) := by
  unfold tLstN rNewL
  exact pe_lst h
theorem pe_listRgN (hc : X.calm = true) (hg : Gl X "list") (hm : X.mg "list" = none) (he : PRg X e te) (na : starEach [e] X.env = (false, eval e X.env) :: starEach [] X.env := by rfl) : PE X (.Call (.Name "list" p) [e] [] pos) (tLstRgN te) := by
  unfold tLstRgN rRgL
  exact pe_listRg hc hg hm he na
end
section
variable {H : Hp} {K : PySem.W.Frag} {us : List V} {Q : VK} {p : Addr} {ys : List V} {ns : List Int} {a b : Int} {lo hi : Option Int}
theorem newT (hl : us.length ≤ sizeLine) (q : ∀ p H1, H p = none → Kp N0 H H1 → H1 p = some (.tup us) → Q (.ref p) H1) : rNewT us H Q := by
  unfold rNewT
  exact ⟨hl, fun p hp => q p _ hp (.new hp) upd_same⟩
theorem newL (hl : us.length ≤ sizeLine) (q : ∀ p H1, H p = none → Kp N0 H H1 → H1 p = some (.lst us) → Q (.ref p) H1) : rNewL us H Q := by
  unfold rNewL
  exact ⟨hl, fun p hp => q p _ hp (.new hp) upd_same⟩
theorem rgL (hr : RgOk a b) (q : ∀ p H1, H p = none → Kp N0 H H1 → H1 p = some (.lst (rgV a b)) → Q (.ref p) H1) : rRgL a b H Q := by
  unfold rRgL
  exact ⟨hr, fun p hp => q p _ hp (.new hp) upd_same⟩
/-- tuple(xs) of a list; of a tuple -/
theorem tupL (e : us = [.ref p]) (h : SqL K H p ys) (q : ∀ p H1, H p = none → Kp N0 H H1 → H1 p = some (.tup ys) → Q (.ref p) H1) : rTupOf K us H Q := by
  unfold rTupOf
  exact ⟨p, ys, e, .inl ⟨h, fun l hl => q l _ hl (.new hl) upd_same⟩⟩
theorem tupT (e : us = [.ref p]) (h : H p = some (.tup ys)) (q : Q (.ref p) H) : rTupOf K us H Q := by
  unfold rTupOf
  exact ⟨p, ys, e, .inr ⟨SqT.of h, q⟩⟩
theorem listL (e : us = [.ref p]) (h : SqL K H p ys ∨ SqT K H p ys) (q : ∀ l H1, H l = none → Kp N0 H H1 → H1 l = some (.lst ys) → Q (.ref l) H1) : rListOf K us H Q := by
  unfold rListOf
  exact ⟨p, ys, e, h, fun l hl => q l _ hl (.new hl) upd_same⟩
theorem sortL (e : us = [.ref p]) (h : SqL K H p (ns.map V.int)) (hl : ns.length < 64) (q : ∀ (ns' : List Int) l H1, ns'.Perm ns → ns'.Pairwise (· ≤ ·) → H l = none → Kp N0 H H1 → H1 l = some (.lst (ns'.map V.int)) → Q (.ref l) H1) : rSortI K us H Q := by
  unfold rSortI
  exact ⟨p, ns, e, h, hl, fun ns' l h1 h2 h3 => q ns' l _ h1 h2 h3 (.new h3) upd_same⟩
theorem lenT (e : us = [.ref p]) (h : H p = some (.tup ys)) (q : Q (.int ys.length) H) : rLen K us H Q := by
  unfold rLen
  exact ⟨p, ys, e, .inr (SqT.of h), q⟩
theorem lenL (e : us = [.ref p]) (h : SqL K H p ys) (q : Q (.int ys.length) H) : rLen K us H Q := by
  unfold rLen
  exact ⟨p, ys, e, .inl h, q⟩
variable {xs zs : List V} {x y : Addr} {k : Int}
theorem catL (h : H x = some (.lst xs)) (h2 : H y = some (.lst zs)) (hz : xs.length + zs.length ≤ sizeLine) (q : ∀ p H1, H p = none → Kp N0 H H1 → H1 p = some (.lst (xs ++ zs)) → Q (.ref p) H1) : rCatLI (.ref x) (.ref y) H Q := by
  unfold rCatLI
  exact ⟨x, y, xs, zs, rfl, rfl, h, h2, hz, fun p hp => q p _ hp (.new hp) upd_same⟩
theorem catT (h : H x = some (.tup xs)) (h2 : H y = some (.tup zs)) (hz : xs.length + zs.length ≤ sizeLine) (q : ∀ p H1, Kp N0 H H1 → H1 p = some (.tup (xs ++ zs)) → Q (.ref p) H1) : rCatI K (.ref x) (.ref y) H Q := by
  unfold rCatI
  exact cat_do h h2 hz q
theorem slT (h : H x = some (.tup xs)) (q : ∀ p H1, Kp N0 H H1 → H1 p = some (.tup (cutV xs lo hi)) → Q (.ref p) H1) : rSlI K (.ref x) lo hi H Q := by
  unfold rSlI
  exact sl_do h q
theorem slL (h : SqL K H x xs) (q : ∀ p H1, H p = none → Kp N0 H H1 → H1 p = some (.lst (cutV xs lo hi)) → Q (.ref p) H1) : rSlLI K (.ref x) lo hi H Q := by
  unfold rSlLI
  exact ⟨x, xs, rfl, h, fun p hp => q p _ hp (.new hp) upd_same⟩
end
theorem at_rowI {ns : List Int} {j : Int} (h0 : 0 ≤ j) (h : j.toNat < ns.length) : atI (ns.map V.int) j = some (.int (ns.getD j.toNat 0)) := by
  have := at_row h
  rw [Int.toNat_of_nonneg h0] at this
  exact this
end Vf

namespace Vf
open PySem PySem.Spec PyProof.Rows L2
theorem kp_sqL {H H1 : Hp} {K : PySem.W.Frag} {a : Addr} {xs : List V} (k : Kp N0 H H1) (h : SqL K H a xs) : SqL K H1 a xs := k.same.seq h
/-- what a fresh dice did is not seen -/
theorem kp_fresh {H H1 H2 : Hp} {p : Addr} (hp : H p = none) (k : Kp N0 H H1) (d : DR p H1 H2) : Kp N0 H H2 :=
  ⟨fun b o _ h => d.kp.keep _ _ (ne_of_none h hp) (k.keep _ _ (fun z => z) h), fun b xs h => d.kp.tup _ _ (k.tup _ _ h), fun b o u h => d.kp.frz _ _ _ (k.frz _ _ _ h), fun b h => k.live _ (d.kp.live _ h)⟩
theorem law_end {sp : PySem.W.Frag → Sp} (h : ∀ (K : PySem.W.Frag) (a : Addr) (ns : List Int) (H : Hp) (Q : VK) (E : XK), SqL K H a (ns.map V.int) → (∀ H', Q (.bl true) H') → sp K [.ref a] H Q E) (K : PySem.W.Frag) (H : Hp) (a : Addr) (ns : List Int) (_ : ns.length ≤ 63) (h2 : SqL K H a (ns.map V.int)) : sp K [.ref a] H (fun v _ => v = .bl true) fun _ _ _ => False :=
  h K a ns H _ _ h2 fun _ => rfl
end Vf

namespace Vf
open PySem L2
theorem iteNe {x y : V} {A B : Prop} (h : x = y) (b : B) : if (!decide (x = y)) = true then A else B := by
  rw [decide_eq_true h]
  exact iteF b
theorem iteEq {x y : V} {A B : Prop} (h : x = y) (a : A) : if decide (x = y) = true then A else B := by
  rw [decide_eq_true h]
  exact iteT a
theorem finEq {x y : V} {Q : VK} {H : Hp} (h : x = y) (q : Q (.bl true) H) : Q (.bl (decide (x = y))) H := by
  rw [decide_eq_true h]
  exact q
end Vf

theorem Vf.let_ {α β : Prop} (a : α) (h : α → β) : β := h a
/-! ### zip of a list and a tuple -/
namespace Vf
open PySem PySem.Spec PyProof.Rows L2
def ItzLT (K : PySem.W.Frag) (a b : Addr) : It :=
  ⟨fun i H => ∃ (xs ys : List V) (x y : V), SqL K H a xs ∧ SqT K H b ys ∧ xs[i]? = some x ∧ ys[i]? = some y,
    fun i H v H' => ∃ T x y, v = .ref T ∧ H T = none ∧ H' = upd H T (.tup [x, y]) ∧ (∀ xs, SqL K H a xs → xs[i]? = some x) ∧ ∀ ys, SqT K H b ys → ys[i]? = some y,
    fun i H => ∃ xs ys : List V, SqL K H a xs ∧ SqT K H b ys ∧ i = min xs.length ys.length⟩
def lt_tn (z TI TO i1 i2 a b : Addr) (i : Nat) (h : Heap) : Prop := IsZip h z TI TO .none ∧ IsTupOf2 h TI (.ref i1) (.ref i2) ∧ (∃ a1 a2, IsTupOf2 h TO a1 a2) ∧ h.IsListIter i1 a i ∧ h.IsTupleIter i2 b i
theorem lt_goes {prog : Program} {w : World} {A : Around} {elts : List Expr} {kk : Nat} {tpos : Pos} (hh : A.handled = none) {N a b : Addr} {xs ys : Array Value} (ha : a < N) (hb : b < N) :
    GoesN prog w A (.Tuple elts kk tpos) (N + 4) ((N + 4) :: (N + 2) :: (N + 3) :: ([N, a] ++ [N + 1, b])) [N + 4, N + 3, N, N + 1] (min xs.size ys.size)
      (fun i h₀ v h => ∃ T x y, v = .ref T ∧ h₀.objs.size ≤ T ∧ xs[i]? = some x ∧ ys[i]? = some y ∧ h.IsTuple T #[x, y])
      (fun i h => IsZip h (N + 4) (N + 2) (N + 3) .none ∧ IsTupOf2 h (N + 2) (.ref N) (.ref (N + 1)) ∧ (∃ a1 a2, IsTupOf2 h (N + 3) a1 a2) ∧ (h.IsListIter N a i ∧ h.IsList a xs) ∧ (h.IsTupleIter (N + 1) b i ∧ h.IsTuple b ys)) :=
  GoesN.zip2 (zip_sep2 (fp1 := [a]) (fp2 := [b]) (by simpa using ha) (by simpa using hb)) (Draws.list (A := A.in1) hh N a (Nat.ne_of_lt ha) xs) (Draws.tuple (A := A.in1) hh (N + 1) b (Nat.ne_of_lt (Nat.lt_succ_of_lt hb)) ys)
theorem five_of {c N : Addr} (m : c ∈ [N + 4, N + 2, N + 3, N, N + 1]) : c = N + 4 ∨ c = N + 2 ∨ c = N + 3 ∨ c = N ∨ c = N + 1 := by simpa using m
theorem five_of_four {c N : Addr} (m : c ∈ [N + 4, N + 3, N, N + 1]) : c ∈ [N + 4, N + 2, N + 3, N, N + 1] := by
  have e : c = N + 4 ∨ c = N + 3 ∨ c = N ∨ c = N + 1 := by simpa using m
  rcases e with e | e | e | e <;> simp [e]
theorem both_cells {X : Cx} {pins : List (Addr × Obj)} {σ : L2.St} {H : Hp} {s : Shared} {a b : Addr} {xs ys : List V} (I : Inv X pins σ H s) (hl : SqL X.K H a xs) (ht : SqT X.K H b ys) :
    ∃ us vs : List Value, Vals xs us ∧ Vals ys vs ∧ s.heap.IsList a us.toArray ∧ s.heap.IsTuple b vs.toArray ∧ a < s.heap.objs.size ∧ b < s.heap.objs.size :=
  have ⟨us, ru, pu, _⟩ := I.list hl
  have ⟨vs, rv, pv, _⟩ := I.tuple ht
  ⟨us, vs, ru, rv, pu.isList, pv, pu.lt, PyProof.Rows.IsTup.lt pv⟩
theorem turn_zipLT {P : Program} {w : World} {K : PySem.W.Frag} {elts : List Expr} {kk : Nat} {tpos : Pos} {a b N : Addr} (ha : a < N) (hb : b < N) :
    Turn P w K (.Tuple elts kk tpos) (ItzLT K a b) [N + 4, N + 2, N + 3, N, N + 1] (N + 4) (lt_tn (N + 4) (N + 2) (N + 3) N (N + 1) a b) where
  mem := List.mem_cons_self
  obj := fun _ _ ⟨cz, cI, ⟨_, _, cO⟩, ⟨l, cl, _, dl⟩, t, ct, _, dt⟩ c m => by
    rcases five_of m with rfl | rfl | rfl | rfl | rfl
    · exact ⟨_, cz, nofun⟩
    · exact ⟨_, cI, nofun⟩
    · exact ⟨_, cO, nofun⟩
    · exact ⟨l, cl, fun v q => nomatch dl.symm.trans q⟩
    · exact ⟨t, ct, fun v q => nomatch dt.symm.trans q⟩
  keep := fun _ _ _ ⟨cz, cI, ⟨_, _, cO⟩, cl, ct⟩ k =>
    ⟨k _ (by simp) _ cz, k _ (by simp) _ cI, ⟨_, _, k _ (by simp) _ cO⟩, cl.at (k _ (by simp)), ct.at (k _ (by simp))⟩
  item := fun X eP ew eK calm i pins s σ H E I free ⟨cz, cI, cO, cl, ct⟩ ⟨xs, ys, x, y, hl, ht, hx, hy⟩ => by
    subst eP ew eK
    obtain ⟨us, vs, ru, rv, atL, atT, _⟩ := both_cells I hl ht
    obtain ⟨u, hu, rx⟩ := ru.get hx
    obtain ⟨v, hv, ry⟩ := rv.get hy
    have inside : i < min us.toArray.size vs.toArray.size := Nat.lt_min.mpr ⟨by simpa using (List.getElem?_eq_some_iff.mp hu).1, by simpa using (List.getElem?_eq_some_iff.mp hv).1⟩
    refine (lt_goes (prog := X.prog) (w := X.w) (elts := elts) (kk := kk) (tpos := tpos) (I.ok.hd calm) ha hb).goes i s _ E inside ⟨cz, cI, cO, ⟨cl, atL⟩, ct, atT⟩ ?_
    rintro _ h' tk ⟨T, u', v', rfl, above, p, q, pair⟩ after same _
    have eu : u' = u := Option.some.inj (p.symm.trans (by simpa using hu))
    have ev : v' = v := Option.some.inj (q.symm.trans (by simpa using hv))
    subst eu ev
    have ok : ObjOk X.prog X.w (upd H T (.tup [x, y])) h' T (.tup [x, y]) := ⟨(by decide : 2 ≤ sizeLine), [u', v'], .cons rx (.cons ry .nil), pair⟩
    refine ⟨.ref T, _, I.turnedNew (t' := tk) same (fun c m => free c (five_of_four m)) above ok, rfl, ⟨T, x, y, rfl, I.hok.fresh above, rfl, ?_, ?_⟩, ⟨after.1, after.2.1, after.2.2.1, after.2.2.2.1.1, after.2.2.2.2.1⟩, fun c m => ?_⟩
    · intro zs h
      rwa [I.list_inj h hl]
    · intro zs h
      rwa [I.tuple_inj h ht]
    · have old : c < s.heap.objs.size := by
        rcases five_of m with rfl | rfl | rfl | rfl | rfl
        · exact Heap.lt_size cz
        · exact Heap.lt_size cI
        · exact Heap.lt_size cO.choose_spec.choose_spec
        · exact Heap.lt_size cl.choose_spec.1
        · exact Heap.lt_size ct.choose_spec.1
      rw [upd_ne (Nat.ne_of_lt (Nat.lt_of_lt_of_le old above))]
      exact (free c m).1
  done := fun X eP ew eK calm i pins s σ H E I free ⟨cz, cI, cO, cl, ct⟩ ⟨xs, ys, hl, ht, last⟩ => by
    subst eP ew eK
    obtain ⟨us, vs, ru, rv, atL, atT, _⟩ := both_cells I hl ht
    have last : i = min us.toArray.size vs.toArray.size := by rw [last, ru.length, rv.length, List.size_toArray, List.size_toArray]
    subst last
    exact (lt_goes (prog := X.prog) (w := X.w) (elts := elts) (kk := kk) (tpos := tpos) (I.ok.hd calm) ha hb).stops s _ E ⟨cz, cI, cO, ⟨cl, atL⟩, ct, atT⟩ fun h' tk same _ =>
      I.turnedL (t' := tk) same fun c m => free c (five_of_four m)
  self := fun _ _ _ _ _ st h => wpAny_pyIter_zip st.1 h
def iZipLT (K : PySem.W.Frag) (ta : TA) : TI := fun σ H R => ta σ H fun vs H1 => ∃ a b xs ys, vs = [.ref a, .ref b] ∧ SqL K H1 a xs ∧ SqT K H1 b ys ∧ R (ItzLT K a b) H1
theorem pi_zipLT {X : Cx} {e e2 : Expr} {ta : TA} {p pos tpos : Pos} {elts : List Expr} {kk : Nat} (hg : Gl X "zip") (hm : X.mg "zip" = none) (ha : PA X [e, e2] ta)
    (plain : starEach [e, e2] X.env = (false, eval e X.env) :: starEach [e2] X.env ∧ (backTo pos (starEach [e2] X.env)).any (·.1) = false := by exact ⟨rfl, rfl⟩) :
    PI X (.Tuple elts kk tpos) (.Call (.Name "zip" p) [e, e2] [] pos) (iZipLT X.K ta) := by
  refine .mk fun pins s σ H R I h => ?_
  have given := ha.run pos pins s σ H _ I h
  refine Call_ (ld_blt I hg hm PyProof.Rows.boot_zip (PyProof.Rows.callWith_type1 (thn given ?_) plain.1 plain.2))
  rintro _ s1 ⟨_, H1, I1, rel, a, b, xs, ys, rfl, hl, ht, q⟩
  obtain ⟨u, v, rfl, eu, ev⟩ := vals2 rel
  obtain rfl : u = Value.ref a := eu
  obtain rfl : v = Value.ref b := ev
  obtain ⟨us, vs, _, _, atL, atT, lowL, lowT⟩ := both_cells I1 hl ht
  refine zip_begins2 (begins_list a us.toArray) (begins_tuple b vs.toArray) atL atT fun h' cz cI cO cl ct _ same => wpAny_pyIter_zip cz ?_
  refine ⟨_, _, _, _, H1, rfl, I1.kept (t' := s1.toks) same, turn_zipLT lowL lowT, ⟨cz, cI, ⟨_, _, cO⟩, ⟨_, cl, rfl, rfl⟩, _, ct, rfl, rfl⟩, fun c m => ?_, q⟩
  have above : s1.heap.objs.size ≤ c := by rcases five_of m with rfl | rfl | rfl | rfl | rfl <;> first | exact Nat.le_refl _ | exact Nat.le_add_right _ _
  exact I1.fpOk above (I1.hok.fresh above)
theorem walk_zipLT {K : PySem.W.Frag} {a b : Addr} {xs ys : List V} {n : Nat} (hn : n = min xs.length ys.length) : Walk (ItzLT K a b) n (fun H => SqL K H a xs ∧ SqT K H b ys) (YPair (fun i => xs[i]?) (fun i => ys[i]?)) :=
  ⟨fun i _ hi q => have ⟨x, y, hx, hy⟩ := two_at (hn ▸ hi); ⟨xs, ys, x, y, q.1, q.2, hx, hy⟩, fun _ q => ⟨xs, ys, q.1, q.2, hn⟩,
    fun _ _ _ _ _ q ⟨T, x, z, h1, h2, h3, at1, at2⟩ => ⟨T, x, z, h1, h2, h3, at1 xs q.1, at2 ys q.2⟩⟩
end Vf
/-! ### tuple * int, from 0 on -/
namespace Vf
open PySem PySem.Spec PyProof.Rows L2
open PySem.AutoSeq1 (wpAny_loadPart')
theorem tmul_one (l : Addr) (items : Array Value) (n : Nat) (dd : Option Addr) (sl : Array (Option Value)) (u : Tok) :
    Meets (Builtin.«tuple.__mul__» ⟨[.ref l, .int 1 u], []⟩) (fun _ R s => s.heap.get? l = some { cls := .type "tuple", dict := dd, data := .seq items n, slots := sl } ∧ R (.ok (.ret (Value.ref l))) s) :=
  .of_wp fun prog w A R s h => by
    obtain ⟨hp, g, d, tk, os⟩ := s
    obtain ⟨hl, h⟩ := h
    have f1 := AutoSeq1.idx_int
    wp_walk using wpAny_loadPart' hl
    exact ⟨_, rfl, h⟩
theorem tmul_zero (l : Addr) (items : Array Value) (n : Nat) (dd : Option Addr) (sl : Array (Option Value)) (u : Tok) (hi : items.isEmpty = false) :
    Meets (Builtin.«tuple.__mul__» ⟨[.ref l, .int 0 u], []⟩) (fun _ R s => s.heap.get? l = some { cls := .type "tuple", dict := dd, data := .seq items n, slots := sl } ∧
      R (.ok (.ret (Value.ref s.heap.objs.size))) { s with heap := s.heap.push { cls := Value.type "tuple", data := Data.seq #[] }, toks := s.toks }) :=
  .of_wp fun prog w A R s h => by
    obtain ⟨hp, g, d, tk, os⟩ := s
    obtain ⟨hl, h⟩ := h
    have f1 := AutoSeq1.idx_int
    wp_walk using wpAny_loadPart' hl
    exact ⟨_, rfl, h⟩
def rRepA0 (K : PySem.W.Frag) : R2 := fun x y H Q => ∃ l k xs, x = .ref l ∧ y = .int k ∧ SqT K H l xs ∧ xs ≠ [] ∧ 0 ≤ k ∧ k ≤ 1000 ∧ xs.length ≤ 1000 ∧ (k = 1 → Q (.ref l) H) ∧ (k ≠ 1 → ∀ p, H p = none → Q (.ref p) (upd H p (.tup (List.replicate k.toNat xs).flatten)))
theorem op_repA0 {X : Cx} : OpR X (binaryOp .Mult) (rRepA0 X.K) := by
  intro pins s σ H x y v u Q I rx ry h
  obtain ⟨l, k, xs, rfl, rfl, hT, hne, h1, h2, hz, q1, q2⟩ := h
  by_cases hk : 2 ≤ k
  · exact op_repT pins s σ H _ _ v u Q I rx ry ⟨l, k, xs, rfl, rfl, hT, hne, hk, h2, hz, q2 (by omega)⟩
  · cases rx
    obtain ⟨t, rfl⟩ := ry
    obtain ⟨its, r, ⟨⟨cls, dd, data, sl⟩, ho, hc, n, hd⟩, hs⟩ := I.tuple hT
    simp only at hc hd
    subst hc hd
    rcases (show k = 0 ∨ k = 1 by omega) with rfl | rfl
    · have hi : its.toArray.isEmpty = false := by
        cases its with
        | nil =>
          cases r
          exact absurd rfl hne
        | cons _ _ => rfl
      refine wpAny_binaryOp_repeat_ref (T := "tuple") (U := "int") (by decide) ⟨_, ho, rfl⟩ (fun s' => typeIs_int s' 0 t) noFill_tuple_mul F.fills_int_mul F.slot_int_rmul repeat_tuple F.slot_int_index.lookup
        (call_meets F.slot_int_rmul (typeIs_int s 0 t) F.entry_int_rmul (F.args_int_rmul_2 _ _) (int_rmul_tuple 0 t l its.toArray n dd sl)
          ⟨ho, rfl, ⟨_, ho, rfl⟩, call_meets F.slot_tuple_mul ⟨_, ho, rfl⟩ F.entry_tuple_mul (F.args_tuple_mul_2 _ _) (tmul_zero l its.toArray n dd sl t hi) ⟨ho, ?_⟩⟩)
      exact ⟨.ref s.heap.objs.size, _, I.laid (t' := s.toks) (o := .tup []) (fun b ob q => Heap.get?_push_of_some _ q) (Nat.le_refl _) ⟨Nat.zero_le _, [], .nil, IsTup.new _ _⟩, rfl, q2 (by decide) _ (I.hok.fresh (Nat.le_refl _))⟩
    · refine wpAny_binaryOp_repeat_ref (T := "tuple") (U := "int") (by decide) ⟨_, ho, rfl⟩ (fun s' => typeIs_int s' 1 t) noFill_tuple_mul F.fills_int_mul F.slot_int_rmul repeat_tuple F.slot_int_index.lookup
        (call_meets F.slot_int_rmul (typeIs_int s 1 t) F.entry_int_rmul (F.args_int_rmul_2 _ _) (int_rmul_tuple 1 t l its.toArray n dd sl)
          ⟨ho, rfl, ⟨_, ho, rfl⟩, call_meets F.slot_tuple_mul ⟨_, ho, rfl⟩ F.entry_tuple_mul (F.args_tuple_mul_2 _ _) (tmul_one l its.toArray n dd sl t) ⟨ho, ?_⟩⟩)
      exact ⟨.ref l, _, I, rfl, q1 rfl⟩
@[irreducible] def rRepA (K : PySem.W.Frag) : R2 := rRepA0 K
theorem op_repA {X : Cx} : OpR X (binaryOp .Mult) (rRepA X.K) := by unfold rRepA; exact op_repA0
theorem rep_do {K : PySem.W.Frag} {H : Hp} {l : Addr} {k : Int} {xs : List V} {Q : VK} (h : H l = some (.tup xs)) (hne : xs ≠ []) (h1 : 0 ≤ k) (h2 : k ≤ 1000) (hz : xs.length ≤ 1000)
    (q : ∀ p H1, Kp N0 H H1 → H1 p = some (.tup (List.replicate k.toNat xs).flatten) → Q (.ref p) H1) : rRepA K (.ref l) (.int k) H Q := by
  unfold rRepA
  refine ⟨l, k, xs, rfl, rfl, SqT.of h, hne, h1, h2, hz, fun e => q l H (.refl _ _) ?_, fun _ p hp => q p _ (.new hp) upd_same⟩
  subst e
  rw [h]
  simp
theorem rep_one {i : Int} (k : Nat) : (List.replicate k [V.int i]).flatten = (List.replicate k i).map V.int := by
  induction k with
  | zero => rfl
  | succ k ih => rw [List.replicate_succ, List.flatten_cons, ih, List.replicate_succ]; rfl
end Vf
/-! ### t[::-1] of a tuple -/
namespace HT
open PySem PySem.Spec PyProof.Rows
section
variable {prog : Program} {w : World} {A : Around} {E : Value → Shared → Prop} {s : Shared}
theorem places_rev : ∀ n : Nat, Builtin.Slice.slicePlaces ((n : Int) - 1) (-1) (-1) = n
  | 0 => by decide
  | n + 1 => by
    unfold Builtin.Slice.slicePlaces
    rw [if_neg (show ¬ (-1 : Int) > 0 by decide), if_pos (show ((n + 1 : Nat) : Int) - 1 > -1 by omega)]
    simp
theorem sliceApplied_rev {sl : Addr} {vl vu vs : Value} {n : Nat} {Q : Int × Int × Nat → Shared → Prop} (hs : s.heap.IsSliceOf sl vl vu vs) (pl : IsPart vl none) (pu : IsPart vu none) (ps : IsPart vs (some (-1)))
    (h : Q ((n : Int) - 1, -1, n) s) : wpAny (model prog w) A (Builtin.Slice.sliceApplied (.ref sl) (pure (n : Int))) Q E s := by
  have ⟨ob, got, _, dat⟩ := hs
  have answer : wpAny (model prog w) A (do
      let (lo, hi) := Builtin.Slice.sliceAdjust none none (-1) (n : Int)
      pure (lo, (-1 : Int), Builtin.Slice.slicePlaces lo hi (-1))) Q E s := by
    rw [show Builtin.Slice.sliceAdjust none none (-1) (n : Int) = ((n : Int) - 1, -1) by first | rfl | simp [Builtin.Slice.sliceAdjust]]
    exact wpAny_pure (by rw [places_rev]; exact h)
  have fields : wpAny (model prog w) A (Builtin.Slice.sliceFields (.ref sl)) (fun r s' => r = (vl, vu, vs) ∧ s' = s) E s := by
    unfold Builtin.Slice.sliceFields
    exact wpAny_bind (wpAny_field got dat (x := vl) rfl (wpAny_bind (wpAny_field got dat (x := vu) rfl (wpAny_bind (wpAny_field got dat (x := vs) rfl (wpAny_pure ⟨rfl, rfl⟩))))))
  unfold Builtin.Slice.sliceApplied
  refine wpAny_bind (wpAny_mono fields (fun r s' e => ?_) fun _ _ x => x)
  obtain ⟨rfl, rfl⟩ := e
  exact wpAny_bind (slicePart_ ps (by
    rw [if_neg (by decide)]
    exact wpAny_bind (slicePart_ pl (wpAny_bind (slicePart_ pu (wpAny_bind (wpAny_pure answer)))))))
theorem pick_rev (xs : Array Value) : ((List.range xs.size).filterMap fun (m : Nat) => xs[((xs.size : Int) - 1 + (m : Int) * (-1)).toNat]?).toArray = xs.toList.reverse.toArray := by
  have e : (fun (m : Nat) => xs[((xs.size : Int) - 1 + (m : Int) * (-1)).toNat]?) = fun m => xs[xs.size - 1 - m]? := by
    funext m
    have : ((xs.size : Int) - 1 + (m : Int) * (-1)).toNat = xs.size - 1 - m := by omega
    rw [this]
  rw [e]
  have h := PySem.W.krv_all xs
  rw [← h, ← List.filterMap_reverse, ← PySem.W.krv_range, List.filterMap_map]
  rfl
theorem getItem_tuple_rev {t sl : Addr} {items : Array Value} {vl vu vs : Value} {Q : Value → Shared → Prop} (ht : IsTup s.heap t items) (hs : s.heap.IsSliceOf sl vl vu vs) (pl : IsPart vl none) (pu : IsPart vu none) (ps : IsPart vs (some (-1)))
    (h : Q (.ref s.heap.objs.size) { s with heap := s.heap.push { cls := .type "tuple", data := .seq items.toList.reverse.toArray } })
    (hsz : items.size ≤ sizeLine) : wpAny (model prog w) A (getItem (.ref t) (.ref sl)) Q E s := by
  have ⟨ob, got, cls, _⟩ := id hs
  have fits : sizeOk (.seq items.toList.reverse.toArray) := by simpa [sizeOk] using hsz
  have notAll : ¬ ((((items.size : Int) - 1) == 0 && (-1 : Int) == 1 && items.size == items.size) = true) := by simp
  have body : wpAny (model prog w) A.in1 (Builtin.«tuple.__getitem__» ⟨[.ref t, .ref sl], []⟩) (fun fin r => ∃ v, fin = .done (.ret v) ∧ Q v r) E s := by
    have isS : s.TypeIs (.ref sl) "slice" := ⟨ob, got, cls⟩
    refine wpAny_bind (wpAny_of_eq (a := ((Value.ref t, [Value.ref sl]) : Value × List Value)) rfl ?_)
    show wpAny (model prog w) A.in1 (Builtin.Tuple.tupleItemsOf (.ref t) >>= _) _ _ s
    refine wpAny_bind (tupleItemsOf_ ht (wpAny_bind (wpAny_typeOf isS ?_)))
    rw [if_pos (by decide)]
    refine wpAny_bind (sliceApplied_rev hs pl pu ps ?_)
    dsimp only
    rw [if_neg notAll, pick_rev]
    exact wpAny_bind (m := newObj _ _) (wpAny_newObj_type (wpAny_pure ⟨_, rfl, h⟩) fits)
  have asked := wpAny_call_entry (A := A) PyProof.Rows.slot_tuple_getitem ht.typeIs entry_tuple_getitem body (args_tuple_getitem _ _)
  unfold getItem
  exact wpAny_holding (wpAny_bind (wpAny_sequenceKey ht.typeIs (by decide) (wpAny_bind (wpAny_callSpecial?_slot (name := Str.ofString "__getitem__") ht.typeIs PyProof.Rows.slot_tuple_getitem (wpAny_mono asked (fun _ _ q => wpAny_pure q) fun _ _ e => e)))))
end
end HT
namespace Vf
open PySem PySem.Spec PyProof.Rows L2
@[irreducible] def rRevT (K : PySem.W.Frag) (x : V) (H : Hp) (Q : VK) : Prop := ∃ a xs, x = .ref a ∧ SqT K H a xs ∧ ∀ p, H p = none → Q (.ref p) (upd H p (.tup xs.reverse))
def tRevT (K : PySem.W.Frag) (te : TE) : TE := fun σ H Q => te σ H fun x H1 => rRevT K x H1 Q
theorem pe_revT {X : Cx} {e : Expr} {te : TE} {k : Nat} {p1 p2 p3 pos : Pos} (he : PE X e te) : PE X (.Subscript e (.Slice none none (some (.UnaryOp .USub (.Constant (.int 1) k p1) p2)) p3) pos) (tRevT X.K te) := by
  have back : PO X (some (.UnaryOp .USub (.Constant (.int 1) k p1) p2)) (tPart (tUn (rU fun i => .int (-i)) (tC (.int 1)))) := po_some (pe_un un_neg pe_int)
  have only {σ : L2.St} {H : Hp} : tPart (tUn (rU fun i => .int (-i)) (tC (.int 1))) σ H (fun o G => o = some (-1) ∧ G = H) := ⟨1, rfl, -1, rfl, rfl, rfl⟩
  unfold tRevT rRevT
  refine .mk fun pins s σ H Q I h => Subscript_ (thn (he.run pins s σ H _ I h) ?_)
  rintro _ s1 ⟨_, H1, I1, rel, a, xs, rfl, isT, q⟩
  cases rel
  refine wpAny_Slice (thn (po_none.run pins s1 σ H1 (fun o G => o = none ∧ G = H1) I1 ⟨rfl, rfl⟩) ?_)
  rintro lo s2 ⟨_, _, I2, noLo, rfl, rfl⟩
  refine thn (po_none.run pins s2 σ _ (fun o G => o = none ∧ G = _) I2 ⟨rfl, rfl⟩) ?_
  rintro hi s3 ⟨_, _, I3, noHi, rfl, rfl⟩
  refine thn (back.run pins s3 σ _ _ I3 only) ?_
  rintro by_ s4 ⟨_, _, I4, one, rfl, rfl⟩
  have I5 := I4.kept (h' := s4.heap.push { cls := .type "slice", data := .fields #[lo, hi, by_] }) (t' := s4.toks) fun b ob q => Heap.get?_push_of_some _ q
  have ⟨vs, rv, inT, few⟩ := I5.tuple isT
  have size : vs.toArray.size ≤ sizeLine := by rw [List.size_toArray, ← rv.length]; exact few
  refine tail_any (ops := [.ref a, .ref s4.heap.objs.size]) inT.typeIs (PyProof.Rows.slot_tuple_getitem.lookup) (HT.getItem_tuple_rev inT (Heap.IsSliceOf.new _ lo hi by_) noLo noHi one ?_ size) (by with_unfolding_all rfl)
  have laid : xs.reverse.length ≤ sizeLine := by simpa using few
  exact ⟨.ref _, _, I5.laid (t' := s4.toks) (o := .tup xs.reverse) (fun b ob q => Heap.get?_push_of_some _ q) (Nat.le_refl _) ⟨laid, _, rv.reverse, IsTup.new _ _⟩, rfl, q _ (I5.hok.fresh (Nat.le_refl _))⟩
theorem revT {K : PySem.W.Frag} {H : Hp} {a : Addr} {xs : List V} {Q : VK} (h : H a = some (.tup xs)) (q : ∀ p H1, H p = none → Kp N0 H H1 → H1 p = some (.tup xs.reverse) → Q (.ref p) H1) : rRevT K (.ref a) H Q := by
  unfold rRevT
  exact ⟨a, xs, rfl, SqT.of h, fun p hp => q p _ hp (.new hp) upd_same⟩
end Vf
/-! ### a walk over a list or a tuple; enumerate of a tuple -/
namespace Vf
open PySem PySem.Spec PyProof.Rows L2
def iSeq (K : PySem.W.Frag) (tl : TE) : TI := fun σ H R => tl σ H fun x H1 => ∃ a, x = .ref a ∧ (((∃ xs, SqL K H1 a xs) ∧ R (Itl K a) H1) ∨ ((∃ xs, SqT K H1 a xs) ∧ R (Itt K a) H1))
theorem pi_seq {X : Cx} {tg l : Expr} {tl : TE} (hl : PE X l tl) : PI X tg l (iSeq X.K tl) := by
  refine ⟨fun pins s σ H R I h => thn (hl.run pins s σ H _ I h) fun v s1 q0 => ?_⟩
  obtain ⟨x, H1, I1, r1, a, e, q⟩ := q0
  subst e
  cases r1
  have fr : ∀ b, b ∈ [s1.heap.objs.size] → s1.heap.objs.size ≤ b := fun b hb => by simp at hb; omega
  rcases q with ⟨⟨xs, hq⟩, q⟩ | ⟨⟨xs, hq⟩, q⟩
  · obtain ⟨its, rv, p, hz⟩ := I1.list hq
    refine wpAny_pyIter_list p.isList ⟨_, [s1.heap.objs.size], _, _, H1, rfl, I1.kept (t' := s1.toks) fun b o e => Heap.get?_push_of_some _ e, turn_list a _, ⟨_, Heap.get?_push_size _ rfl, rfl, rfl⟩, fun b hb => ?_, q⟩
    have le := fr b hb
    exact I1.fpOk le (I1.hok.fresh le)
  · obtain ⟨its, rv, p, hz⟩ := I1.tuple hq
    refine wpAny_pyIter_tuple (show s1.heap.IsTuple a its.toArray from p) ⟨_, [s1.heap.objs.size], _, _, H1, rfl, I1.kept (t' := s1.toks) fun b o e => Heap.get?_push_of_some _ e, turn_tuple a _, ⟨_, Heap.get?_push_size _ rfl, rfl, rfl⟩, fun b hb => ?_, q⟩
    have le := fr b hb
    exact I1.fpOk le (I1.hok.fresh le)
/-- the cells that enumerate(v) makes -/
def enN (n : Addr) : Obj := { cls := .type "enumerate", data := .fields #[.none, .bool false, .ref n, rawInt 0, .none, .none] }
theorem en_new {v : Value} {o : Obj} {Z : Heap → Prop} (B : Begins v o Z) :
    Meets (Builtin.«enumerate.__new__» ⟨[.type "enumerate", v], []⟩) (fun _ R s => Z s.heap ∧ R (.ok (.ret (.ref (s.heap.push o).objs.size))) { s with heap := (s.heap.push o).push (enN s.heap.objs.size) }) :=
  .of_wp fun prog w A R s h => by
    obtain ⟨hp, g, d, tk, os⟩ := s
    obtain ⟨z1, z2⟩ := h
    have z3 := sub_enumerate
    have z4 : ∀ {A' : Around} {E : Value → Shared → Prop} {Q : Value → Shared → Prop}, Q (.ref hp.objs.size) ⟨hp.push o, g, d, tk, os⟩ → wpAny (model prog w) A' (pyIter v) Q E ⟨hp, g, d, tk, os⟩ :=
      fun q => B.iter prog w _ _ ⟨hp, g, d, tk, os⟩ _ z1 q
    wp_walk using z4
    refine wpAny_stack_any fun st => wpAny_pure ?_
    split
    · rename_i c _ _ _ _ _
      cases (c == Value.type "enumerate")
      all_goals
        wp_walk using z4
        exact ⟨_, rfl, z2⟩
    · wp_walk using z4
      exact ⟨_, rfl, z2⟩
theorem en_begins {prog : Program} {w : World} {A : Around} {E : Value → Shared → Prop} {s : Shared} {v : Value} {o : Obj} {Z : Heap → Prop} {Q : Value → Shared → Prop} (B : Begins v o Z) (h1 : Z s.heap)
    (h : ∀ h', h'.get? (s.heap.objs.size + 1) = some (enN s.heap.objs.size) → h'.get? s.heap.objs.size = some o → (∀ b u, s.heap.get? b = some u → h'.get? b = some u) → Q (.ref (s.heap.objs.size + 1)) { s with heap := h' }) :
    wpAny (model prog w) A (call (.type "enumerate") [v]) Q E s := by
  refine callType_new F.called_enumerate (by decide) (F.typeCall_enumerate_1 _) (F.newCall_enumerate_1 _) (fun obj => F.args_object_init_2 obj _) F.entry_enumerate_new (en_new B) ⟨h1, ?_⟩
  have hz : (s.heap.push o).objs.size = s.heap.objs.size + 1 := Heap.size_push ..
  have he := Heap.get?_push_size (s.heap.push o) (o := enN s.heap.objs.size) rfl
  show _ ∧ _
  rw [hz] at he ⊢
  exact ⟨⟨_, he, rfl⟩, h _ he (Heap.get?_push_of_some _ (Heap.get?_push_size _ B.free)) fun b u x => Heap.get?_push_of_some _ (Heap.get?_push_of_some _ x)⟩
def IteT (K : PySem.W.Frag) (a : Addr) : It :=
  ⟨fun i H => ∃ (xs : List V) (x : V), SqT K H a xs ∧ xs[i]? = some x, fun i H v H' => ∃ T x, v = .ref T ∧ H T = none ∧ H' = upd H T (.tup [.int (i : Nat), x]) ∧ ∀ xs, SqT K H a xs → xs[i]? = some x,
    fun i H => ∃ xs : List V, SqT K H a xs ∧ i = xs.length⟩
theorem two_of {c e it : Addr} (m : c ∈ [e, it]) : c = e ∨ c = it := by simpa using m
/-- where the two cells of a walk with numbers stand, at the i-th turn -/
def EnSt (a e it : Addr) (i : Nat) (h : Heap) : Prop := (∃ old, IsEnum h e it ((i : Nat) : Int) old) ∧ h.IsTupleIter it a i ∧ e ≠ it ∧ a ≠ it ∧ e ≠ a
theorem EnSt.lt {a e it c : Addr} {i : Nat} {h : Heap} (st : EnSt a e it i h) (m : c ∈ [e, it]) : c < h.objs.size := by
  obtain ⟨⟨_, ce⟩, ⟨_, ci, _⟩, _⟩ := st
  rcases two_of m with rfl | rfl
  · exact Heap.lt_size ce
  · exact Heap.lt_size ci
theorem turn_enT {P : Program} {w : World} {K : PySem.W.Frag} {elts : List Expr} {kk : Nat} {tpos : Pos} (a e it : Addr) : Turn P w K (.Tuple elts kk tpos) (IteT K a) [e, it] e (EnSt a e it) where
  mem := List.mem_cons_self
  obj := fun _ _ ⟨⟨_, ce⟩, ⟨o, ci, _, d⟩, _⟩ c m => by
    rcases two_of m with rfl | rfl
    · exact ⟨_, ce, nofun⟩
    · exact ⟨o, ci, fun v q => nomatch d.symm.trans q⟩
  keep := fun _ _ _ ⟨⟨old, ce⟩, ci, apart⟩ k => ⟨⟨old, k e List.mem_cons_self _ ce⟩, ci.at (k it (by simp)), apart⟩
  item := fun X eP ew eK calm i pins s σ H E I free st ⟨xs, x, isT, hx⟩ => by
    subst eP ew eK
    have low := fun c (m : c ∈ [e, it]) => st.lt m
    obtain ⟨⟨old, ce⟩, ci, ne1, ne2, ne3⟩ := st
    obtain ⟨vs, rel, at_, _⟩ := I.tuple isT
    obtain ⟨v, hv, rv⟩ := rel.get hx
    have inside : i < vs.toArray.size := by simpa using (List.getElem?_eq_some_iff.mp hv).1
    refine wpAny_pyNext_enum_itemD (Draws.tuple (A := X.A.in1) (I.ok.hd calm) it a ne2 vs.toArray) ce ⟨ci, at_⟩ inside ne1 (by simp [ne1, ne3]) fun v' h' tk p own ci' pair _ same => ?_
    obtain rfl : v' = v := Option.some.inj (p.symm.trans (by simpa using hv))
    refine ⟨_, rfl, wpAny_letOwnedTupleGo_enum (s := { s with heap := h', toks := tk + 1 }) own fun h2 ce' sb => ?_⟩
    have kept (c : Addr) (o : Obj) (nm : c ∉ [e, it]) (q : s.heap.get? c = some o) : h2.get? c = some o := (sb.2 c fun z => nm (by simp [z])).trans (same c o (fun z => nm (by simp [z])) (fun z => nm (by simp [z])) q)
    have new : h2.get? s.heap.objs.size = _ := (sb.2 _ (Nat.ne_of_gt (low e List.mem_cons_self))).trans pair
    have ok : ObjOk X.prog X.w (upd H s.heap.objs.size (.tup [.int (i : Nat), x])) h2 s.heap.objs.size (.tup [.int (i : Nat), x]) :=
      ⟨(by decide : 2 ≤ sizeLine), [.int i tk, v'], .cons ⟨_, rfl⟩ (.cons rv .nil), _, new, rfl, _, rfl⟩
    refine ⟨.ref s.heap.objs.size, _, I.turnedNew kept free (Nat.le_refl _) ok, rfl, ⟨_, x, rfl, I.hok.fresh (Nat.le_refl _), rfl, fun ys hy => ?_⟩, ⟨⟨v', ?_⟩, ci'.1.at fun o q => (sb.2 it ne1.symm).trans q, ne1, ne2, ne3⟩, fun c m => ?_⟩
    · rwa [I.tuple_inj hy isT]
    · rwa [Int.natCast_succ]
    · rw [upd_ne (Nat.ne_of_lt (low c m))]
      exact (free c m).1
  done := fun X eP ew eK calm i pins s σ H E I free ⟨⟨old, ce⟩, ci, ne1, ne2, ne3⟩ ⟨xs, isT, last⟩ => by
    subst eP ew eK
    obtain ⟨vs, rel, at_, _⟩ := I.tuple isT
    obtain ⟨f0, f1, _, f3, f4, f5⟩ := free it (by simp)
    obtain rfl : i = vs.toArray.size := by rw [last, rel.length, List.size_toArray]
    exact wpAny_pyNext_enum_endD (Draws.tuple (A := X.A.in1) (I.ok.hd calm) it a ne2 vs.toArray) ce ⟨ci, at_⟩ fun _ eb => ⟨rfl, I.turned (t' := s.toks) eb f0 f1 f3 f4 f5⟩
  self := fun _ _ _ _ _ ⟨⟨_, ce⟩, _⟩ h => wpAny_pyIter_enum ce h
def iEnT (K : PySem.W.Frag) (ta : TA) : TI := fun σ H R => ta σ H fun vs H1 => ∃ a xs, vs = [.ref a] ∧ SqT K H1 a xs ∧ R (IteT K a) H1
theorem pi_enT {X : Cx} {e : Expr} {ta : TA} {p pos tpos : Pos} {elts : List Expr} {kk : Nat} (hg : Gl X "enumerate") (hm : X.mg "enumerate" = none) (ha : PA X [e] ta) (plain : starEach [e] X.env = [(false, eval e X.env)] := by rfl) :
    PI X (.Tuple elts kk tpos) (.Call (.Name "enumerate" p) [e] [] pos) (iEnT X.K ta) := by
  refine .mk fun pins s σ H R I h => ?_
  have given := ha.run pos pins s σ H _ I h
  refine Call_ (ld_blt I hg hm boot_enumerate (PyProof.Rows.callWith_type1 (thn given ?_) plain rfl))
  rintro _ s1 ⟨_, H1, I1, rel, a, xs, rfl, isT, q⟩
  obtain ⟨u, rfl, eu⟩ := vals1 rel
  obtain rfl : u = Value.ref a := eu
  obtain ⟨vs, _, at_, _⟩ := I1.tuple isT
  have low : a < s1.heap.objs.size := PyProof.Rows.IsTup.lt at_
  refine en_begins (begins_tuple a vs.toArray) at_ fun h' ce ci same => wpAny_pyIter_enum ce ?_
  have apart : s1.heap.objs.size + 1 ≠ s1.heap.objs.size ∧ a ≠ s1.heap.objs.size ∧ s1.heap.objs.size + 1 ≠ a := ⟨Nat.succ_ne_self _, Nat.ne_of_lt low, (Nat.ne_of_lt (Nat.lt_succ_of_lt low)).symm⟩
  refine ⟨_, _, _, _, H1, rfl, I1.kept (t' := s1.toks) same, turn_enT a (s1.heap.objs.size + 1) s1.heap.objs.size, ⟨⟨.none, ce⟩, ⟨_, ci, rfl, rfl⟩, apart⟩, fun c m => ?_, q⟩
  have above : s1.heap.objs.size ≤ c := by rcases two_of m with rfl | rfl <;> first | exact Nat.le_refl _ | exact Nat.le_add_right _ _
  exact I1.fpOk above (I1.hok.fresh above)
theorem walk_enT {K : PySem.W.Frag} {a : Addr} {xs : List V} : Walk (IteT K a) xs.length (fun H => SqT K H a xs) (YPair (fun i => some (.int (i : Nat))) (fun i => xs[i]?)) :=
  ⟨fun i _ hi q => ⟨xs, xs[i], q, List.getElem?_eq_getElem hi⟩, fun _ q => ⟨xs, q, rfl⟩, fun i _ _ _ _ q ⟨T, x, hv, hp, hH, at_⟩ => ⟨T, .int (i : Nat), x, hv, hp, hH, rfl, at_ xs q⟩⟩
end Vf
/-! ### a comprehension within a comprehension -/
namespace C8b
open PySem L2
def rl (env : Env) : Str × NameKind → Str × NameKind := fun (n, k) => if (k == NameKind.free && env.scope.kind == .function && env.kindOf n == some .cell) then (n, NameKind.cell) else (n, k)
theorem rl_two (env : Env) (n : Str) (k : NameKind) : rl env (n, k) = (n, .cell) ∨ rl env (n, k) = (n, k) := by
  unfold rl
  by_cases hc : (k == NameKind.free && env.scope.kind == .function && env.kindOf n == some .cell) = true
  · exact .inl (if_pos hc)
  · exact .inr (if_neg hc)
theorem rl_look {env : Env} : ∀ {names : List (Str × NameKind)} {x : Str}, (names.lookup x = some .cell ∨ names.lookup x = some .free) → ((names.map (rl env)).lookup x = some .cell ∨ (names.map (rl env)).lookup x = some .free)
  | [], _, h => by simp at h
  | (n, k) :: r, x, h => by
    have ih := @rl_look env r x
    rw [List.map_cons]
    rcases rl_two env n k with e | e <;> rw [e] <;> cases hx : x == n <;> simp only [List.lookup_cons, hx] at h ⊢
    · exact ih h
    · simp
    · exact ih h
    · exact h
theorem blk2 {N : List Str} {sc scope : Scope} {own : List (Str × Nat)} {env : Env} (h : BlkOk N sc scope own) : BlkOk N (relabel sc env) scope own :=
  ⟨h.kind, h.uniq, h.ix, fun y hy e => rl_look (h.free y hy e), h.own⟩
end C8b
/-! ### walks within a comprehension, the written part told by name -/
namespace Vf
open PySem PySem.Spec PyProof.Rows L2
section
variable {X : Cx} {K : PySem.W.Frag} {tg l e e2 : Expr} {tl : TE} {ta : TA} {p pos tpos : Pos} {elts : List Expr} {kk : Nat}
theorem pi_listK (hl : PE X l tl) (h : X.K = K := by rfl) : PI X tg l (iList K tl) := by rw [← h]; exact pi_list hl
theorem pi_tupK (hl : PE X l tl) (h : X.K = K := by rfl) : PI X tg l (iTup K tl) := by rw [← h]; exact pi_tup hl
theorem pi_seqK (hl : PE X l tl) (h : X.K = K := by rfl) : PI X tg l (iSeq K tl) := by rw [← h]; exact pi_seq hl
theorem pi_zipLTK (hg : Gl X "zip") (hm : X.mg "zip" = none) (ha : PA X [e, e2] ta) (hs : starEach [e, e2] X.env = (false, eval e X.env) :: starEach [e2] X.env := by rfl) (hpl : (backTo pos (starEach [e2] X.env)).any (·.1) = false := by rfl) (h : X.K = K := by rfl) :
    PI X (.Tuple elts kk tpos) (.Call (.Name "zip" p) [e, e2] [] pos) (iZipLT K ta) := by rw [← h]; exact pi_zipLT hg hm ha ⟨hs, hpl⟩
theorem pi_zipAK (hg : Gl X "zip") (hm : X.mg "zip" = none) (ha : PA X [e, e2] ta) (hs : starEach [e, e2] X.env = (false, eval e X.env) :: starEach [e2] X.env := by rfl) (hpl : (backTo pos (starEach [e2] X.env)).any (·.1) = false := by rfl) (h : X.K = K := by rfl) :
    PI X (.Tuple elts kk tpos) (.Call (.Name "zip" p) [e, e2] [] pos) (RZ.iZipA K ta) := by rw [← h]; exact RZ.pi_zipA hg hm ha hs hpl
theorem pi_zipK (hg : Gl X "zip") (hm : X.mg "zip" = none) (ha : PA X [e, e2] ta) (hs : starEach [e, e2] X.env = (false, eval e X.env) :: starEach [e2] X.env := by rfl) (hpl : (backTo pos (starEach [e2] X.env)).any (·.1) = false := by rfl) (h : X.K = K := by rfl) :
    PI X (.Tuple elts kk tpos) (.Call (.Name "zip" p) [e, e2] [] pos) (iZip K ta) := by rw [← h]; exact pi_zip hg hm ha hs hpl
end
end Vf
/-! ### rows as data: == and != -/
namespace Vf
open PySem PySem.Spec PyProof.Rows L2
def di (ns : List Int) : List PyData := ns.map PyData.int
theorem dpAll_ints {K : PySem.W.Frag} {H : Hp} : ∀ ns : List Int, DpAll K H (ns.map V.int) (di ns)
  | [] => .nil
  | n :: r => .cons (.int n) (dpAll_ints r)
theorem canLay_di : ∀ ns : List Int, PyData.canLayAll0 (di ns) = true
  | [] => by simp [di, PyData.canLayAll0]
  | n :: r => by
    have := canLay_di r
    simp only [di, List.map_cons, PyData.canLayAll0, PyData.canLay0, Bool.true_and] at this ⊢
    exact this
theorem depth_di : ∀ ns : List Int, PyData.depthAll (di ns) ≤ 2
  | [] => by simp [di, PyData.depthAll]
  | n :: r => by
    have := depth_di r
    simp only [di, List.map_cons, PyData.depthAll, PyData.depth] at this ⊢
    omega
theorem shaped_row (ns : List Int) : SeqAt.shaped (.tuple (di ns)) = true := by
  have h1 := canLay_di ns
  have h2 := depth_di ns
  unfold SeqAt.shaped
  rw [Bool.and_eq_true]
  exact ⟨by simpa [PyData.canLay0] using h1, decide_eq_true (by simp only [PyData.depth]; omega)⟩
theorem shaped_list (ns : List Int) : SeqAt.shaped (.list (di ns)) = true := by
  have h1 := canLay_di ns
  have h2 := depth_di ns
  unfold SeqAt.shaped
  rw [Bool.and_eq_true]
  exact ⟨by simpa [PyData.canLay0] using h1, decide_eq_true (by simp only [PyData.depth]; omega)⟩
def drs (rs : List (List Int)) : List PyData := rs.map fun ns => .tuple (di ns)
theorem canLay_drs : ∀ rs : List (List Int), PyData.canLayAll0 (drs rs) = true
  | [] => by simp [drs, PyData.canLayAll0]
  | n :: r => by
    have h1 := canLay_drs r
    have h2 := canLay_di n
    simp only [drs, List.map_cons, PyData.canLayAll0, PyData.canLay0, h2, Bool.true_and] at h1 ⊢
    exact h1
theorem depth_drs : ∀ rs : List (List Int), PyData.depthAll (drs rs) ≤ 5
  | [] => by simp [drs, PyData.depthAll]
  | n :: r => by
    have h1 := depth_drs r
    have h2 := depth_di n
    simp only [drs, List.map_cons, PyData.depthAll, PyData.depth] at h1 ⊢
    omega
theorem shaped_rows (rs : List (List Int)) : SeqAt.shaped (.list (drs rs)) = true := by
  have h1 := canLay_drs rs
  have h2 := depth_drs rs
  unfold SeqAt.shaped
  rw [Bool.and_eq_true]
  exact ⟨by simpa [PyData.canLay0] using h1, decide_eq_true (by simp only [PyData.depth]; omega)⟩
theorem shaped_rowsT (rs : List (List Int)) : SeqAt.shaped (.tuple (drs rs)) = true := by
  have h1 := canLay_drs rs
  have h2 := depth_drs rs
  unfold SeqAt.shaped
  rw [Bool.and_eq_true]
  exact ⟨by simpa [PyData.canLay0] using h1, decide_eq_true (by simp only [PyData.depth]; omega)⟩
section
variable {K : PySem.W.Frag} {H : Hp} {a b : Addr} {ns ms : List Int} {Q : VK}
theorem neRow (h1 : H a = some (.tup (ns.map V.int))) (h2 : H b = some (.tup (ns.map V.int))) (q : Q (.bl false) H) : rNeI K (.ref a) (.ref b) H Q := by
  unfold rNeI
  refine ⟨_, _, .tup (SqT.of h1) (dpAll_ints ns), .tup (SqT.of h2) (dpAll_ints ns), shaped_row ns, shaped_row ns, ?_⟩
  rw [SeqAt.eqv_refl _ (SeqAt.canLay_of_shaped (shaped_row ns))]
  exact q
theorem eqRow (h1 : H a = some (.tup (ns.map V.int))) (h2 : H b = some (.tup (ns.map V.int))) (q : Q (.bl true) H) : rEqI K (.ref a) (.ref b) H Q := by
  unfold rEqI
  refine ⟨_, _, .tup (SqT.of h1) (dpAll_ints ns), .tup (SqT.of h2) (dpAll_ints ns), shaped_row ns, shaped_row ns, ?_⟩
  rw [SeqAt.eqv_refl _ (SeqAt.canLay_of_shaped (shaped_row ns))]
  exact q
theorem eqIntsL (h1 : SqL K H a (ns.map V.int)) (h2 : SqL K H b (ns.map V.int)) (q : Q (.bl true) H) : rEqI K (.ref a) (.ref b) H Q := by
  unfold rEqI
  refine ⟨_, _, .lst h1 (dpAll_ints ns), .lst h2 (dpAll_ints ns), shaped_list ns, shaped_list ns, ?_⟩
  rw [SeqAt.eqv_refl _ (SeqAt.canLay_of_shaped (shaped_list ns))]
  exact q
/-- the places of rows -/
def Rws (H : Hp) : List V → List (List Int) → Prop
  | [], [] => True
  | v :: vs, r :: rs => (∃ p, v = .ref p ∧ H p = some (.tup (r.map V.int))) ∧ Rws H vs rs
  | _, _ => False
theorem Rws.kp {S : Addr → Prop} {H H1 : Hp} (k : Kp S H H1) : ∀ {vs : List V} {rs : List (List Int)}, Rws H vs rs → Rws H1 vs rs
  | [], [], _ => trivial
  | _ :: _, _ :: _, ⟨⟨p, e, h⟩, t⟩ => ⟨⟨p, e, k.tup _ _ h⟩, Rws.kp k t⟩
theorem Rws.len {H : Hp} : ∀ {vs : List V} {rs : List (List Int)}, Rws H vs rs → vs.length = rs.length
  | [], [], _ => rfl
  | _ :: _, _ :: _, ⟨_, t⟩ => by rw [List.length_cons, List.length_cons, Rws.len t]
theorem Rws.get {H : Hp} : ∀ {vs : List V} {rs : List (List Int)} {i : Nat} {v : V}, Rws H vs rs → vs[i]? = some v → ∃ p r, v = .ref p ∧ rs[i]? = some r ∧ H p = some (.tup (r.map V.int))
  | [], [], i, v, _, h => by simp at h
  | u :: vs, r :: rs, 0, v, ⟨⟨p, e, h⟩, t⟩, hv => by
    cases hv
    exact ⟨p, r, e, rfl, h⟩
  | u :: vs, r :: rs, i + 1, v, ⟨_, t⟩, hv => Rws.get (i := i) t (by simpa using hv)
theorem Rws.of {H : Hp} : ∀ {vs : List V} {rs : List (List Int)}, vs.length = rs.length → (∀ (i : Nat) (v : V) (r : List Int), vs[i]? = some v → rs[i]? = some r → ∃ p, v = .ref p ∧ H p = some (.tup (r.map V.int))) → Rws H vs rs
  | [], [], _, _ => trivial
  | [], _ :: _, h, _ => by simp at h
  | _ :: _, [], h, _ => by simp at h
  | v :: vs, r :: rs, h, f => ⟨f 0 v r rfl rfl, Rws.of (by simpa using h) fun i v r hv hr => f (i + 1) v r (by simpa using hv) (by simpa using hr)⟩
theorem Rws.dp {H : Hp} : ∀ {vs : List V} {rs : List (List Int)}, Rws H vs rs → DpAll K H vs (drs rs)
  | [], [], _ => .nil
  | _ :: _, r :: _, ⟨⟨p, e, h⟩, t⟩ => by
    subst e
    exact .cons (.tup (SqT.of h) (dpAll_ints r)) (Rws.dp t)
theorem Rws.app {H : Hp} : ∀ {vs ws : List V} {rs ss : List (List Int)}, Rws H vs rs → Rws H ws ss → Rws H (vs ++ ws) (rs ++ ss)
  | [], _, [], _, _, t => t
  | _ :: _, _, _ :: _, _, ⟨x, t⟩, u => ⟨x, Rws.app t u⟩
theorem eqRowsL {vs ws : List V} {rs : List (List Int)} (h1 : SqL K H a vs) (h2 : SqL K H b ws) (r1 : Rws H vs rs) (r2 : Rws H ws rs) (q : Q (.bl true) H) : rEqI K (.ref a) (.ref b) H Q := by
  unfold rEqI
  refine ⟨_, _, .lst h1 r1.dp, .lst h2 r2.dp, shaped_rows rs, shaped_rows rs, ?_⟩
  rw [SeqAt.eqv_refl _ (SeqAt.canLay_of_shaped (shaped_rows rs))]
  exact q
/-- xs != [], a list of ints -/
theorem neNil (h1 : SqL K H a (ns.map V.int)) (h2 : SqL K H b []) (q : Q (.bl (!ns.isEmpty)) H) : rNeI K (.ref a) (.ref b) H Q := by
  unfold rNeI
  refine ⟨_, _, .lst h1 (dpAll_ints ns), .lst (ds := []) h2 .nil, shaped_list ns, shaped_list [], ?_⟩
  have e : PyData.eqv (.list (di ns)) (.list []) = ns.isEmpty := by
    cases ns with
    | nil => simp [di, PyData.eqv, PyData.eqvAll]
    | cons n r => simp [di, PyData.eqv, PyData.eqvAll]
  rw [e]
  exact q
theorem repL {i : Int} {k : Int} (h : H a = some (.lst [.int i])) (h0 : 0 ≤ k) (h1 : k ≤ 1000) (q : ∀ p H1, H p = none → Kp N0 H H1 → H1 p = some (.lst ((List.replicate k.toNat i).map V.int)) → Q (.ref p) H1) : rRepLI (.ref a) (.int k) H Q := by
  unfold rRepLI
  refine ⟨a, k, [.int i], rfl, rfl, h, by omega, by omega, Nat.le_trans (by simp; omega : [V.int i].length * k.toNat ≤ 1000) (by decide), fun p hp => q p _ hp (.new hp) ?_⟩
  rw [upd_same, ← rep_one]
end
end Vf
namespace Vf
open PySem PySem.Spec PyProof.Rows L2
section
variable {J : It} {n : Nat} {Gw : Hp → Prop} {Y : Nat → Hp → V → Hp → Prop} {g : TG} {te : TE} {vs : List Nat} {σ : L2.St} {H1 : Hp} {Qd : Addr → Hp → Prop}
theorem rw_up {H : Hp} {p D : Addr} {r : List Int} {zs zs' : List V} (h : H p = some (.tup (r.map V.int))) (hd : H D = some (.lst zs)) : upd H D (.lst zs') p = some (.tup (r.map V.int)) := by
  rw [upd_ne (ne_of h hd (by intro z; cases z))]
  exact h
/-- pure: the items are rows, told by their place -/
theorem lc_rows (w : Walk J n Gw Y) (f : Nat → List Int) (hn : n ≤ 100000) (hw : ∀ H, Kp N0 H1 H → Gw H)
    (turn : ∀ i x H H', i < n → Kp N0 H1 H → Y i H x H' → ∀ R : VK, (∀ p H4, Kp N0 H H4 → H4 p = some (.tup ((f i).map V.int)) → R (.ref p) H4) → g x (wipe σ vs) H' fun σ2 H2 => wipe σ2 vs = wipe σ vs ∧ te σ2 H2 R)
    (fin : ∀ D H' ys, H1 D = none → Kp N0 H1 H' → H' D = some (.lst ys) → Rws H' ys ((List.range n).map f) → Qd D H') :
    ∀ D, H1 D = none → ∃ W : Nat → Nat → Hp → Prop, (∃ m, W 0 m (upd H1 D (.lst []))) ∧ ∀ i m H, W i m H →
      (J.stop i H ∧ Qd D H) ∨ (J.go i H ∧ ∃ Nx : Hp → Prop, (∀ H', Nx H' → ∃ m', m' < m ∧ W (i + 1) m' H') ∧ ∀ x H', J.yld i H x H' → g x (wipe σ vs) H' fun σ2 H2 => wipe σ2 vs = wipe σ vs ∧ tYes σ2 H2 fun b H3 =>
        if b = true then te σ2 H3 fun y H4 => ∃ acc, H4 D = some (.lst acc) ∧ acc.length < sizeLine ∧ Nx (upd H4 D (.lst (acc ++ [y]))) else Nx H3) :=
  lc_gen (S := N0) w (fun _ => True) (fun i y H => ∃ p, y = .ref p ∧ H p = some (.tup ((f i).map V.int))) (Nat.lt_of_le_of_lt hn (by decide)) trivial (fun _ _ _ _ _ => trivial) (fun H k _ => hw H k)
    (fun _ _ _ _ ⟨p, e, h⟩ k => ⟨p, e, k.tup _ _ h⟩) (fun _ _ _ _ _ _ _ hd ⟨p, e, h⟩ => ⟨p, e, rw_up h hd⟩) (fun _ _ z => z)
    (fun i x H H' hi k _ y R hR => turn i x H H' hi k y R fun p H4 k4 h4 => hR _ _ k4 trivial ⟨p, rfl, h4⟩)
    (fun D H' ys nD k _ hy hl hp => fin D H' ys nD k hy (Rws.of (by simp [hl]) fun i v r hv hr => by
      obtain ⟨p, e, h⟩ := hp i v hv
      rw [List.getElem?_map] at hr
      have hi : i < n := by rw [← hl]; exact (List.getElem?_eq_some_iff.mp hv).1
      rw [List.getElem?_range hi] at hr
      cases hr
      exact ⟨p, e, h⟩))
theorem rws_ex {H : Hp} {p : List Int → Prop} : ∀ {ys : List V}, (∀ (i : Nat) (y : V), ys[i]? = some y → ∃ q r, y = .ref q ∧ H q = some (.tup (r.map V.int)) ∧ p r) → ∃ rs : List (List Int), Rws H ys rs ∧ ∀ r ∈ rs, p r
  | [], _ => ⟨[], trivial, fun _ h => by simp at h⟩
  | y :: ys, h => by
    obtain ⟨rs, t, hp⟩ := rws_ex (ys := ys) fun i u hu => h (i + 1) u (by simpa using hu)
    obtain ⟨q, r, e, hq, pr⟩ := h 0 y (by simp)
    exact ⟨r :: rs, ⟨⟨q, e, hq⟩, t⟩, fun u hu => by
      rcases List.mem_cons.mp hu with rfl | hu
      · exact pr
      · exact hp u hu⟩
/-- with the dice: the items are rows of which p holds -/
theorem lc_rowsD {a : Addr} (w : Walk J n Gw Y) (p : List Int → Prop) (hn : n ≤ 100000) (hd : Dc a H1) (hw : ∀ H, DR a H1 H → Gw H)
    (turn : ∀ i x H H', i < n → DR a H1 H → Y i H x H' → ∀ R : VK, (∀ q r H4, DR a H H4 → H4 q = some (.tup (r.map V.int)) → p r → R (.ref q) H4) → g x (wipe σ vs) H' fun σ2 H2 => wipe σ2 vs = wipe σ vs ∧ te σ2 H2 R)
    (fin : ∀ D H' ys rs, H1 D = none → DR a H1 H' → H' D = some (.lst ys) → Rws H' ys rs → rs.length = n → (∀ r ∈ rs, p r) → Qd D H') :
    ∀ D, H1 D = none → ∃ W : Nat → Nat → Hp → Prop, (∃ m, W 0 m (upd H1 D (.lst []))) ∧ ∀ i m H, W i m H →
      (J.stop i H ∧ Qd D H) ∨ (J.go i H ∧ ∃ Nx : Hp → Prop, (∀ H', Nx H' → ∃ m', m' < m ∧ W (i + 1) m' H') ∧ ∀ x H', J.yld i H x H' → g x (wipe σ vs) H' fun σ2 H2 => wipe σ2 vs = wipe σ vs ∧ tYes σ2 H2 fun b H3 =>
        if b = true then te σ2 H3 fun y H4 => ∃ acc, H4 D = some (.lst acc) ∧ acc.length < sizeLine ∧ Nx (upd H4 D (.lst (acc ++ [y]))) else Nx H3) :=
  lc_gen (S := At a) w (Dc a) (fun _ y H => ∃ q r, y = .ref q ∧ H q = some (.tup (r.map V.int)) ∧ p r) (Nat.lt_of_le_of_lt hn (by decide)) hd (fun H D o h d => d.upd_ne (hd.ne h)) (fun H k d => hw H ⟨k, d⟩)
    (by rintro i y H H' ⟨q, r, e, h, pr⟩ k; exact ⟨q, r, e, k.tup _ _ h, pr⟩) (by rintro i y H D zs zs' _ hd ⟨q, r, e, h, pr⟩; exact ⟨q, r, e, rw_up h hd, pr⟩) (fun D h z => hd.ne h z.symm)
    (fun i x H H' hi k d y R hR => turn i x H H' hi ⟨k, d⟩ y R fun q r H4 k4 h4 pr => hR _ _ k4.kp k4.dc ⟨q, r, rfl, h4, pr⟩)
    (fun D H' ys hDn k d hy hl hp => by
      obtain ⟨rs, t, hz⟩ := rws_ex hp
      exact fin D H' ys rs hDn ⟨k, d⟩ hy t (by rw [← t.len, hl]) hz)
end
end Vf
namespace Vf
open PySem PySem.Spec PyProof.Rows L2
theorem walk_tupN {K : PySem.W.Frag} {a : Addr} {xs : List V} {n : Nat} (h : xs.length = n) : Walk (Itt K a) n (fun H => SqT K H a xs) (YAt xs) := by subst h; exact walk_tup
theorem walk_listN {K : PySem.W.Frag} {a : Addr} {xs : List V} {n : Nat} (h : xs.length = n) : Walk (Itl K a) n (fun H => SqL K H a xs) (YAt xs) := by subst h; exact walk_list
theorem walk_rangeN {lo : Int} {m n : Nat} (h : m = n) : Walk (Itr lo m) n (fun _ => True) (YFn fun i => .int (lo + (i : Int))) := by subst h; exact walk_range
end Vf
/-! ### tuples that may be the module's own: rows of its tables -/
namespace Vf
open PySem PySem.Spec PyProof.Rows L2
section
variable {H : Hp} {K : PySem.W.Frag} {us : List V} {Q : VK} {p x : Addr} {xs ys : List V} {lo hi : Option Int}
theorem tyS {a : Addr} (h : SqT K H a xs) : TyX K H (.ref a) (.type "tuple") := by
  rcases h with (h | ⟨o, h⟩) | ⟨o, _, _, h, c, _⟩
  · exact .base (.tup h)
  · exact .fTuple h
  · exact .kTuple h c
theorem lenS (e : us = [.ref p]) (h : SqT K H p ys) (q : Q (.int ys.length) H) : rLen K us H Q := by
  unfold rLen
  exact ⟨p, ys, e, .inr h, q⟩
theorem tupS (e : us = [.ref p]) (h : SqT K H p ys) (q : Q (.ref p) H) : rTupOf K us H Q := by
  unfold rTupOf
  exact ⟨p, ys, e, .inr ⟨h, q⟩⟩
theorem slS (h : SqT K H x xs) (nw : ¬ (HT.sIx xs.length 0 lo = 0 ∧ HT.sIx xs.length xs.length hi = xs.length)) (q : ∀ p H1, Kp N0 H H1 → H1 p = some (.tup (cutV xs lo hi)) → Q (.ref p) H1) : rSlI K (.ref x) lo hi H Q := by
  unfold rSlI
  exact ⟨x, xs, rfl, h, fun w => absurd w nw, fun _ => rd_new fun p H1 _ e h1 => q p H1 e h1⟩
theorem nw1 (h : 0 < xs.length) : ¬ (HT.sIx xs.length 0 (some 1) = 0 ∧ HT.sIx xs.length xs.length hi = xs.length) := by
  rintro ⟨w, _⟩
  rw [show (some (1 : Int)) = some ((1 : Nat) : Int) from rfl, HT.sIx_nat] at w
  omega
end
def RwK (K : PySem.W.Frag) (H : Hp) : List V → List (List Int) → Prop
  | [], [] => True
  | v :: vs, r :: rs => (∃ p, v = .ref p ∧ SqT K H p (r.map V.int)) ∧ RwK K H vs rs
  | _, _ => False
section
variable {K : PySem.W.Frag}
theorem RwK.of {H : Hp} : ∀ {vs : List V} {rs : List (List Int)}, Rws H vs rs → RwK K H vs rs
  | [], [], _ => trivial
  | _ :: _, _ :: _, ⟨⟨p, e, h⟩, t⟩ => ⟨⟨p, e, SqT.of h⟩, RwK.of t⟩
theorem RwK.kp {S : Addr → Prop} {H H1 : Hp} (k : Kp S H H1) : ∀ {vs : List V} {rs : List (List Int)}, RwK K H vs rs → RwK K H1 vs rs
  | [], [], _ => trivial
  | _ :: _, _ :: _, ⟨⟨p, e, h⟩, t⟩ => ⟨⟨p, e, k.sqT h⟩, RwK.kp k t⟩
theorem RwK.len {H : Hp} : ∀ {vs : List V} {rs : List (List Int)}, RwK K H vs rs → vs.length = rs.length
  | [], [], _ => rfl
  | _ :: _, _ :: _, ⟨_, t⟩ => by rw [List.length_cons, List.length_cons, RwK.len t]
theorem RwK.get {H : Hp} : ∀ {vs : List V} {rs : List (List Int)} {i : Nat} {v : V}, RwK K H vs rs → vs[i]? = some v → ∃ p r, v = .ref p ∧ rs[i]? = some r ∧ SqT K H p (r.map V.int)
  | [], [], _, _, _, h => by simp at h
  | _ :: _, r :: _, 0, _, ⟨⟨p, e, h⟩, _⟩, hv => by
    cases hv
    exact ⟨p, r, e, rfl, h⟩
  | _ :: _, _ :: _, i + 1, _, ⟨_, t⟩, hv => RwK.get (i := i) t (by simpa using hv)
theorem RwK.dp {H : Hp} : ∀ {vs : List V} {rs : List (List Int)}, RwK K H vs rs → DpAll K H vs (drs rs)
  | [], [], _ => .nil
  | _ :: _, r :: _, ⟨⟨p, e, h⟩, t⟩ => by
    subst e
    exact .cons (.tup h (dpAll_ints r)) (RwK.dp t)
theorem rwk_ex {H : Hp} : ∀ {ys : List V}, (∀ v ∈ ys, ∃ q r, v = .ref q ∧ SqT K H q (List.map V.int r)) → ∃ rs : List (List Int), RwK K H ys rs
  | [], _ => ⟨[], trivial⟩
  | y :: ys, h => by
    obtain ⟨rs, t⟩ := rwk_ex (ys := ys) fun v hv => h v (List.mem_cons_of_mem _ hv)
    obtain ⟨q, r, e, hq⟩ := h y List.mem_cons_self
    exact ⟨r :: rs, ⟨q, e, hq⟩, t⟩
end
end Vf
/-! ### a def whose last parameter has a default -/
namespace Vf
open PySem PySem.Spec PyProof.Rows L2
def Dfd (K : PySem.W.Frag) (mg : Str → Option Value) (x : Str) (st : Stmt) (ps : List Str) (dvs : List V) : Prop :=
  ∃ f fd ds, C8.Def K mg x st f fd ∧ Binds K fd ps ds ∧ Vals dvs ds
theorem dfd_mk {K : PySem.W.Frag} {h : Heap} {mg : Str → Option Value} (X : K.In h) (G : h.Ns mainGlobals mg) {x : Str} {st : Stmt} {ps : List Str} {f T : Addr} {od an : Option Addr} {sl : Array (Option Value)} {oc kV dc pm cd ct : Value} {o : Obj} {n : Nat} {i : Int} {u : Tok}
    (a : PySem.W.nsIn K mainGlobals x = some (some (.ref f)))
    (l : K.lookup f = some ⟨oc, od, .func (PySem.W.fnOf x x (C8.fnArgs st) (C8.fnBody st) (C8.fnScope st) (.ref T) kV dc pm an cd ct), sl⟩) (c : PySem.W.codeIn K cd x = true) (k : PySem.W.keepIn K (.ref f) = true)
    (t : K.lookup T = some o) (ot : o.data = .seq #[.int i u] n)
    (hb : ∀ (T : Addr) (kV doc pm : Value) (an : Option Addr) (cdv ct : Value) (us its : List Value), us.length + 1 = ps.length → its.length = 1 →
      ∃ k, bindArgs (PySem.W.fnOf x x (C8.fnArgs st) (C8.fnBody st) (C8.fnScope st) (.ref T) kV doc pm an cdv ct) ⟨us, []⟩ = seqItems? (.ref T) >>= k ∧ k (some its.toArray) = pure (ps.zip (us ++ its))) :
    Dfd K mg x st ps [.int i] := by
  refine ⟨f, _, [.int i u], ⟨⟨oc, od, .ref T, kV, dc, pm, an, cd, ct, sl, rfl, l, c⟩, PySem.W.mg_of X G a, k⟩, fun s us X hlen => ?_, .cons ⟨u, rfl⟩ .nil⟩
  obtain ⟨k, e1, e2⟩ := hb T kV dc pm an cd ct us [.int i u] (by rw [List.length_append] at hlen; exact hlen) rfl
  refine BindsTo.of_looks fun M => ?_
  rw [e1]
  exact looks_items X t ot (.of_pure e2)
/-- .. and every call gives all -/
theorem dfd_mk0 {K : PySem.W.Frag} {h : Heap} {mg : Str → Option Value} (X : K.In h) (G : h.Ns mainGlobals mg) {x : Str} {st : Stmt} {ps : List Str} {f T : Addr} {od an : Option Addr} {sl : Array (Option Value)} {oc kV dc pm cd ct : Value} {o : Obj} {n : Nat} {i : Int} {u : Tok}
    (a : PySem.W.nsIn K mainGlobals x = some (some (.ref f)))
    (l : K.lookup f = some ⟨oc, od, .func (PySem.W.fnOf x x (C8.fnArgs st) (C8.fnBody st) (C8.fnScope st) (.ref T) kV dc pm an cd ct), sl⟩) (c : PySem.W.codeIn K cd x = true) (k : PySem.W.keepIn K (.ref f) = true)
    (t : K.lookup T = some o) (ot : o.data = .seq #[.int i u] n)
    (hb : ∀ (T : Addr) (kV doc pm : Value) (an : Option Addr) (cdv ct : Value) (us its : List Value), us.length = ps.length → its.length = 1 →
      ∃ k, bindArgs (PySem.W.fnOf x x (C8.fnArgs st) (C8.fnBody st) (C8.fnScope st) (.ref T) kV doc pm an cdv ct) ⟨us, []⟩ = seqItems? (.ref T) >>= k ∧ k (some its.toArray) = pure (ps.zip us)) :
    Dfd K mg x st ps [] := by
  refine ⟨f, _, [], ⟨⟨oc, od, .ref T, kV, dc, pm, an, cd, ct, sl, rfl, l, c⟩, PySem.W.mg_of X G a, k⟩, fun s us X hlen => ?_, .nil⟩
  obtain ⟨k, e1, e2⟩ := hb T kV dc pm an cd ct us [.int i u] (by simpa using hlen) rfl
  refine BindsTo.of_looks fun M => ?_
  rw [e1, List.append_nil]
  exact looks_items X t ot (.of_pure e2)
end Vf
/-! ### sorted lists of tuples of ints, of any length -/
namespace Vf
open PySem PySem.W PyProof.Rows L2 Builtin
section
variable {prog : Program} {w : World} {A : Around} {s : Shared}
def ItupV (h : Heap) (v : Value) (ns : List Int) : Prop := ∃ (a : Addr) (o : Obj) (its : List Value) (n : Nat), v = .ref a ∧ h.get? a = some o ∧ o.cls = .type "tuple" ∧ o.data = .seq its.toArray n ∧ Vals (ns.map V.int) its
theorem ItupV.keeps {h h' : Heap} {v : Value} {ns : List Int} (x : ItupV h v ns) (k : ∀ b o, h.get? b = some o → o.cls = .type "tuple" → h'.get? b = some o) : ItupV h' v ns := by
  obtain ⟨a, o, its, n, e, g, c, d, r⟩ := x
  exact ⟨a, o, its, n, e, k _ _ g c, c, d, r⟩
theorem kat_ints {fin : Bool} {Q : Bool → Shared → Prop} : ∀ (ns ms : List Int) (us ws : List Value) (i : Nat), Vals (ns.map V.int) us → Vals (ms.map V.int) ws → fin = decide (ns.length < ms.length) → Q (HT.lexLt ns ms) s → KatLex prog w A true fin Q (us.zip ws) i s
  | [], ms, us, ws, i, r, r2, e, h => by
    cases r
    refine kat_nil ?_
    rw [e]
    cases ms with
    | nil => exact h
    | cons m ms => exact h
  | n :: ns, [], us, ws, i, r, r2, e, h => by
    cases r2
    rw [List.zip_nil_right]
    refine kat_nil ?_
    rw [e]
    exact h
  | n :: ns, m :: ms, us, ws, i, r, r2, e, h => by
    rw [List.map_cons] at r r2
    cases r with
    | cons h1 t1 =>
      cases r2 with
      | cons h2 t2 =>
        obtain ⟨a, rfl⟩ := h1
        obtain ⟨b, rfl⟩ := h2
        rw [List.zip_cons_cons]
        rw [HT.lexLt_cons] at h
        refine kat_cons (SeqAt.EqAt.int_int n a m b prog w _ _ ?_)
        refine kat_go (fun e1 => ?_) (fun e1 => ?_)
        · have ex : n = m := by simpa using e1
          rw [if_pos ex] at h
          exact kat_yes (kat_ints ns ms _ _ (i + 1) t1 t2 (by rw [e]; simp) h)
        · have ex : ¬ n = m := by simpa using e1
          rw [if_neg ex] at h
          exact kat_no (TS.oneLt_ints _ h)
theorem itup_cmp {vs : List Value} {k : Value → List Int} (hp : ∀ v ∈ vs, ItupV s.heap v (k v)) : SrtO.Cmp prog w A s (tuples' true) (fun p => p.1 ∈ vs) (SrtO.lt2 fun v u => HT.lexLt (k v) (k u)) := by
  intro p q hm hm'
  have h1 := hp _ hm
  have h2 := hp _ hm'
  show wpAny (model prog w) A (keyLt' (tuples' true) p.1 q.1) (fun r s' => s' = s ∧ r = HT.lexLt (k p.1) (k q.1)) (fun _ _ => False) s
  generalize k p.1 = ns at h1 ⊢
  generalize k q.1 = ms at h2 ⊢
  obtain ⟨a, o, its, n, e, ho, hc, hd, hv⟩ := h1
  obtain ⟨a', o', its', n', e', ho', hc', hd', hv'⟩ := h2
  rw [e, e']
  have l1 := hv.length
  have l2 := hv'.length
  rw [List.length_map] at l1 l2
  exact kat_lt ho hd ho' hd' (kat_ints ns ms its its' 0 hv hv' (by simp [l1, l2]) ⟨rfl, rfl⟩)
theorem itup_firsts {h : Heap} {k : Value → List Int} : ∀ {vs : List Value}, (∀ v ∈ vs, ItupV h v (k v) ∧ k v ≠ []) → ∃ fs, KatTups h vs fs ∧ fs.length = vs.length ∧ ∀ f ∈ fs, ∃ x t, f = Value.int x t
  | [], _ => ⟨[], .nil, rfl, fun _ h => by cases h⟩
  | v :: vs, hv => by
    obtain ⟨fs, t, l, hf⟩ := itup_firsts (vs := vs) fun u hu => hv u (List.mem_cons_of_mem _ hu)
    obtain ⟨⟨a, o, its, n, e, g, c, d, r⟩, ne⟩ := hv v List.mem_cons_self
    generalize k v = ns at r ne
    cases ns with
    | nil => exact absurd rfl ne
    | cons x ns =>
      rw [List.map_cons] at r
      cases r with
      | cons h1 t1 =>
        obtain ⟨u, rfl⟩ := h1
        subst e
        refine ⟨.int x u :: fs, KatTups.cons g c d (by simp) t, by simp [l], fun f hf' => ?_⟩
        rcases List.mem_cons.mp hf' with rfl | hf'
        · exact ⟨x, u, rfl⟩
        · exact hf f hf'
theorem itup_sortable {a : Addr} {vs : List Value} {k : Value → List Int} (h0 : 0 < vs.length) (hp : ∀ v ∈ vs, ItupV s.heap v (k v) ∧ k v ≠ []) (ha : ∀ o, s.heap.get? a = some o → o.cls ≠ .type "tuple") : SrtO.SortableO prog w A s a vs fun v u => HT.lexLt (k v) (k u) := by
  intro h' keep
  have hp' : ∀ v ∈ vs, ItupV h' v (k v) ∧ k v ≠ [] := fun v hm => ⟨(hp v hm).1.keeps fun b o e c => keep b o (fun z => by subst z; exact ha o e c) e, (hp v hm).2⟩
  obtain ⟨fs, h1, h2, h3⟩ := itup_firsts hp'
  refine ⟨tuples' true, fun Q E hq => ?_, itup_cmp fun v hv => (hp' v hv).1⟩
  refine kat_kind (T := .type "int") h1 (by omega) (fun f hm => ?_) (by rfl) ?_
  · obtain ⟨x, t, rfl⟩ := h3 f hm
    exact Looks.now
  · have e : (Value.type "int" != Value.type "tuple") = true := by first | decide +kernel | rfl | decide
    rw [e]
    exact hq
end
end Vf
namespace Vf
open PySem PySem.Spec PyProof.Rows L2
def vint : V → Int
  | .int i => i
  | _ => 0
def contA (H : Hp) (a : Addr) : List Int := match H a with
  | some (.tup vs) => vs.map vint
  | _ => []
theorem contA_of {H : Hp} {a : Addr} {ns : List Int} (h : H a = some (.tup (ns.map V.int))) : contA H a = ns := by
  unfold contA
  rw [h]
  show (ns.map V.int).map vint = ns
  rw [List.map_map]
  exact (List.map_congr_left fun _ _ => rfl).trans (List.map_id ns)
def LexS (b : Bool) (L : List (Addr × List Int)) : Prop := L.Pairwise fun x y => (if b = true then HT.lexLt x.2 y.2 else HT.lexLt y.2 x.2) = false
def rSortTup0 (K : PySem.W.Frag) (b : Bool) : List V → List V → Hp → VK → Prop := fun vs zs H Q => ∃ (a : Addr) (L : List (Addr × List Int)), vs = [.ref a] ∧ zs = (if b = true then [.bl true] else []) ∧ SqL K H a (L.map fun p => V.ref p.1) ∧ (∀ p ∈ L, H p.1 = some (.tup (p.2.map V.int)) ∧ p.2 ≠ []) ∧
  ∀ (L' : List (Addr × List Int)) (p : Addr), L'.Perm L → LexS b L' → H p = none → Q (.ref p) (upd H p (.lst (L'.map fun p => V.ref p.1)))
section
variable {X : Cx}
theorem sortTup_run {b : Bool} {kw : List (Str × Value)} {pins : List (Addr × Obj)} {s : Shared} {σ : L2.St} {H : Hp} {a : Addr} {L : List (Addr × List Int)} {Q : VK} (I : Inv X pins σ H s) (hs : SqL X.K H a (L.map fun p => V.ref p.1)) (hL : ∀ p ∈ L, H p.1 = some (.tup (p.2.map V.int)) ∧ p.2 ≠ [])
    (hk : ∀ a, Builtin.«list.sort» ⟨[.ref a], kw⟩ = Builtin.«list.sort» ⟨[.ref a], [(Str.ofString "reverse", .bool b)]⟩) (ha1 : argsOk "sorted" ⟨[.ref a], kw⟩) (ha2 : ∀ a, argsOk "list.sort" ⟨[a], kw⟩)
    (q : ∀ (L' : List (Addr × List Int)) (p : Addr), L'.Perm L → LexS b L' → H p = none → Q (.ref p) (upd H p (.lst (L'.map fun p => V.ref p.1)))) : wpAny (model X.prog X.w) X.A (call (.builtin "sorted") [.ref a] kw) (EP X pins σ Q) X.xe s := by
  obtain ⟨its, rv, hl, hz⟩ := I.list hs
  rw [show (L.map fun p => V.ref p.1) = (L.map (·.1)).map V.ref by rw [List.map_map]; rfl] at rv hz
  have ei := nts_of rv
  have cont : ∀ p ∈ L, contA H p.1 = p.2 := fun p hp => contA_of (hL p hp).1
  have hp : ∀ v ∈ its, ItupV s.heap v (contA H (adO v)) ∧ contA H (adO v) ≠ [] := fun v hv => by
    rw [ei] at hv
    obtain ⟨t, ht, rfl⟩ := List.mem_map.mp hv
    obtain ⟨p, hp, rfl⟩ := List.mem_map.mp ht
    rw [show adO (Value.ref p.1) = p.1 from rfl, cont p hp]
    obtain ⟨_, its2, r2, o, ho, hc, n, hd⟩ := I.hok _ _ (hL p hp).1
    exact ⟨⟨p.1, o, its2, n, rfl, ho, hc, hd, r2⟩, (hL p hp).2⟩
  refine SrtR.sorted_ordK hk ha1 ha2 (NtL.swo_lexL fun v => contA H (adO v)) hl.isList (by rw [← rv.length]; exact hz) (fun h2 h₁ a' ha kk => ?_) fun out h1 h2 => ?_
  · refine itup_sortable (s := { s with heap := h₁ }) (by omega) (fun v hv => ⟨(hp v hv).1.keeps fun b o e _ => (kk b o e).2, (hp v hv).2⟩) fun o e => ?_
    have e' : some o = some (seqObj "list" its.toArray 0) := e.symm.trans ha
    cases e'
    intro c
    exact absurd (Value.type.inj c) (by decide)
  · have hperm : out.Perm its := by
      refine h2.perm.trans ?_
      cases b with
      | false => exact .refl _
      | true => exact List.reverse_perm _
    generalize eo2 : (if b = true then out.reverse else out) = out2
    have ho2 : out2.Perm its := by
      rw [← eo2]
      cases b with
      | false => exact hperm
      | true => exact (List.reverse_perm _).trans hperm
    have hsrt : out2.Pairwise fun x y => (if b = true then HT.lexLt (contA H (adO x)) (contA H (adO y)) else HT.lexLt (contA H (adO y)) (contA H (adO x))) = false := by
      rw [← eo2]
      cases b with
      | false => exact h1
      | true =>
        show out.reverse.Pairwise _
        rw [List.pairwise_reverse]
        exact h1
    have eA : (if b = true then out.toArray.reverse else out.toArray) = out2.toArray := by
      rw [← eo2]
      cases b with
      | false => rfl
      | true =>
        show out.toArray.reverse = out.reverse.toArray
        apply Array.ext'
        rw [Array.toList_reverse]
    obtain ⟨ep, he'⟩ := PyProof.Rows.sortedAll_at s.heap its out2.toArray
    have hrefs : ∀ v ∈ out2, ∃ t, v = Value.ref t := fun v hv => by
      have hm := ho2.mem_iff.mp hv
      rw [ei] at hm
      obtain ⟨t, _, e⟩ := List.mem_map.mp hm
      exact ⟨t, e.symm⟩
    have eref := ref_map hrefs
    have hpa : (out2.map adO).Perm (L.map (·.1)) := by
      have p1 := ho2.map adO
      rw [ei, ad_map] at p1
      exact p1
    have hmem : ∀ t ∈ out2.map adO, H t = some (.tup ((contA H t).map V.int)) := fun t ht => by
      obtain ⟨p, hp', e⟩ := List.mem_map.mp (hpa.mem_iff.mp ht)
      rw [← e, cont p hp']
      exact (hL p hp').1
    have hLL : (((out2.map adO).map fun t => (t, contA H t))).Perm L := by
      have p2 := hpa.map fun t => (t, contA H t)
      rw [show (L.map (·.1)).map (fun t => (t, contA H t)) = L by
        rw [List.map_map]
        refine (List.map_congr_left fun p hp' => ?_).trans (List.map_id L)
        show (p.1, contA H p.1) = id p
        rw [cont p hp']
        rfl] at p2
      exact p2
    have evs : (((out2.map adO).map fun t => (t, contA H t)).map fun p => V.ref p.1) = (out2.map adO).map V.ref := by
      rw [List.map_map]
      rfl
    have hlen : ((out2.map adO).map V.ref).length ≤ sizeLine := by
      rw [List.length_map, hpa.length_eq]
      rw [List.length_map] at hz
      exact hz
    have rvo : Vals ((out2.map adO).map V.ref) out2 := by
      have z := of_nts (out2.map adO)
      rw [← eref] at z
      exact z
    have e0 : out2.toArray.toList = out2 := rfl
    rw [eA]
    refine ⟨.ref _, upd H (s.heap.objs.size + 1) (.lst ((out2.map adO).map V.ref)), I.laid (t' := s.toks) (fun _ _ => PyProof.Rows.sortedAll_old) (Nat.le_succ _) ⟨hlen, out2, ep, rvo, he'⟩, rfl, ?_⟩
    rw [← evs]
    refine q _ _ hLL ?_ (I.hok.fresh (Nat.le_succ _))
    unfold LexS
    rw [List.pairwise_map, List.pairwise_map]
    exact hsrt
theorem cr_sortTupRev : CallRK X (.builtin "sorted") [Str.ofString "reverse"] (rSortTup0 X.K true) := by
  intro pins s σ H vs zs us ws Q I r rz h
  obtain ⟨a, L, rfl, rfl, hs, hL, q⟩ := h
  obtain rfl := Vals.ref1 r
  obtain ⟨w1, rfl, e1⟩ := vals1 rz
  obtain rfl : w1 = Value.bool true := e1
  exact sortTup_run I hs hL (fun _ => rfl) (PyProof.Rows.args_sorted_rev _ _) (fun _ => PyProof.Rows.args_list_sort_rev _ _) q
end
end Vf

/-! ### set(list of ints), sorted(set) -/
namespace Vf
open PySem PySem.Spec PyProof.Rows L2
section
variable {P : Program} {w : World} {A : Around} {E : Value → Shared → Prop} {s : Shared}
/-- the set that `set.__new__` lays -/
abbrev bare (w : World) : Obj := { cls := .type "set", dict := none, data := .set #[] 0 (.fresh 0 0 (!w.params.followText "set-order")) }
/-- the heap with it -/
abbrev laid (w : World) (s : Shared) : Heap := s.heap.push (bare w)
theorem laid_at (w : World) (s : Shared) : (laid w s).get? s.heap.objs.size = some (bare w) := Heap.get?_push_size _ rfl
set_option maxRecDepth 100000 in
set_option maxHeartbeats 3200000 in
theorem setOfL {l : Addr} {xs : Array Value} (ns : List Int) {Q : Value → Shared → Prop} (none' : A.handled = none) (isl : s.heap.IsList l xs) (isi : IntsAre xs.toList ns) (few : ns.length + 1 < scanBound)
    (k : ∀ (g : Heap) (tk c : Nat), SetR w g s.heap.objs.size (fun j => decide (j ∈ ns)) c → c ≤ ns.length → (∀ b o, s.heap.get? b = some o → g.get? b = some o) → Q (.ref s.heap.objs.size) { s with heap := g, toks := tk }) :
    wpAny (model P w) A (call (.type "set") [.ref l]) Q E s := by
  have sz : xs.size = ns.length := by have q := IntsAre.length isi; rwa [Array.length_toList] at q
  obtain ⟨_, _, mro⟩ := F.called_set.mro
  have a1 := F.called_set.made; have a2 := F.called_set.sub
  have a3 := F.called_set.notType; have a4 := F.called_set.canCreate
  have a5 := F.typeCall_set_1 (.ref l)
  refine wpAny_call (codeAny_of_tree (wpAny_pure ⟨Code.quiet_builtin _ (by decide +kernel), codeAny_builtin F.entry_type_call ?_⟩))
  rw [Around.under_plain (weight_type_call_type "set" [.ref l] []) rfl]
  repeat (any_goals (first | assumption | wp_step))
  refine codeAny_mono (code_set_led1 (.ref l) (E := E) (Q₁ := fun obj t => obj = .ref s.heap.objs.size ∧ t = { s with heap := laid w s }) ⟨rfl, rfl⟩) fun r t hr => ?_
  cases r with
  | error e => exact hr
  | ok fl => cases fl with
    | ret obj =>
      obtain ⟨rfl, rfl⟩ := hr
      have ty : Shared.TypeIs { s with heap := laid w s } (.ref s.heap.objs.size) "set" := ⟨_, laid_at w s, rfl⟩
      have b1 := F.called_set.init.lookup; have b2 := F.called_set.init.bind (.ref s.heap.objs.size)
      repeat (any_goals (first | assumption | wp_step))
      refine codeAny_mono (codeAny_call_builtin (R := wants (fun r t => r = .none ∧ ∃ g tk c, t = { s with heap := g, toks := tk } ∧ SetR w g s.heap.objs.size (fun j => decide (j ∈ ns)) c ∧ c ≤ ns.length ∧ (∀ b o, s.heap.get? b = some o → g.get? b = some o)) E)
        F.called_set.init.plain F.entry_set_init (check_set_init_1 ty ?_)) fun r2 t2 hr2 => ?_
      · obtain ⟨⟨c0, d0, da, sl⟩, got, e1, n0, e2⟩ := isl
        simp only at e1 e2
        subst e1; subst e2
        have got1 : (laid w s).get? l = some { cls := .type "list", dict := d0, data := .seq xs n0, slots := sl } := Heap.get?_push_of_some _ got
        have il : (laid w s).IsList l xs := ⟨_, got1, rfl, n0, rfl⟩
        have c1 := F.sub_list_set; have c2 := F.sub_list_frozenset
        have c3 : (Value.type "list" == Value.type "dict") = false := by decide
        unfold Builtin.«set.__init__» noKeywords Builtin.Frozenset.updateFrom
        generalize hI : pyIter = I
        wp_walk
        subst hI
        refine wpAny_pyIter_list il (wpAny_bind (wpAny_runValue ?_))
        have lt : l < s.heap.objs.size := Heap.lt_size got
        have hz : (laid w s).objs.size = s.heap.objs.size + 1 := Heap.size_push ..
        have h3 : A.in1.in1.in1.handled = none := by simp [none']
        have ne : l ≠ (laid w s).objs.size := by rw [hz]; exact Nat.ne_of_lt (Nat.lt_succ_of_lt lt)
        have nm : s.heap.objs.size ∉ [(laid w s).objs.size, l] := by
          rw [hz]
          intro m
          rcases List.mem_cons.mp m with m | m
          · exact absurd m (Nat.ne_of_lt (Nat.lt_succ_self _))
          · exact absurd (List.mem_singleton.mp m) (Nat.ne_of_gt lt)
        have vals : ∀ (i : Nat) (v : Value), xs[i]? = some v → ∃ k t, ns[i]? = some k ∧ v = .int k t := fun i v hv => by
          have hi : i < ns.length := by rw [← sz]; exact (Array.getElem?_eq_some_iff.mp hv).1
          obtain ⟨t, e⟩ := IntsAre.int_at isi i v (by rw [Array.getElem?_toList]; exact hv)
          exact ⟨ns[i], t, List.getElem?_eq_getElem hi, by rw [e, List.getD_eq_getElem?_getD, List.getElem?_eq_getElem hi]; rfl⟩
        refine set_update_ints ((Walks.list h3 _ l ne xs).toS) s.heap.objs.size nm ns sz few vals (xs.size - 0) 0 _ (by omega) (Nat.zero_le _) ⟨⟨_, Heap.get?_push_size _ rfl, rfl, rfl⟩, il.push _⟩ ?first ?last
        case first => exact ⟨0, Nat.le_refl 0, setR_new_at (Heap.get?_push_of_some _ (laid_at w s))⟩
        case last =>
          rintro ⟨g, g2, d2, t2, o2⟩ c moved le R
          obtain rfl : g2 = s.gens := moved.gens
          obtain rfl : d2 = s.drawn := moved.drawn
          obtain rfl : o2 = s.os := moved.os
          show wpAny _ _ _ _ _ _
          refine wpAny_pure ?_
          show wpAny _ _ (ret Value.none) _ _ _
          refine wpAny_pure ⟨rfl, g, t2, c, rfl, R, by omega, fun b o e => moved.heap b o ?_ (Heap.get?_push_of_some _ (Heap.get?_push_of_some _ e))⟩
          have blt : b < s.heap.objs.size := Heap.lt_size e
          intro m
          rcases List.mem_cons.mp m with m | m
          · exact absurd m (Nat.ne_of_lt blt)
          · have m := List.mem_singleton.mp m
            rw [hz] at m
            exact absurd m (Nat.ne_of_lt (Nat.lt_succ_of_lt blt))
      · cases r2 with
        | error e => exact hr2
        | ok f2 => cases f2 with
          | ret v =>
            obtain ⟨rfl, g, tk, c, rfl, R, le, kp⟩ := hr2
            repeat (any_goals (first | assumption | wp_step))
            exact k g tk c R le kp
          | _ => exact False.elim hr2
    | _ => exact False.elim hr
end
section
variable {X : Cx}
/-- set(xs), xs a list of fewer than 64 ints -/
@[irreducible] def rSetL (K : PySem.W.Frag) (w : World) : List V → Hp → VK → Prop := fun vs H Q => ∃ (l : Addr) (ns : List Int), vs = [V.ref l] ∧ SqL K H l (ns.map V.int) ∧ ns.length < 64 ∧ ∀ (p : Addr) (c : Nat), c ≤ ns.length → H p = none → Q (.ref p) (upd H p (SetO w p (fun j => decide (j ∈ ns)) c))
theorem cr_setL (hc : X.calm = true) : CallR X (.type "set") (rSetL X.K X.w) := by
  unfold rSetL
  intro pins s σ H vs us Q I r h
  obtain ⟨l, ns, rfl, hl, few, q⟩ := h
  rw [Vals.ref1 r]
  obtain ⟨its, rv, pl, _⟩ := I.list hl
  refine setOfL (P := X.prog) (w := X.w) ns (I.ok.hd hc) pl.isList (by simpa using ints_of_vals rv) (by unfold scanBound; omega) fun g tk c R le kp => ?_
  exact ⟨.ref s.heap.objs.size, upd H s.heap.objs.size (SetO X.w s.heap.objs.size (fun j => decide (j ∈ ns)) c), I.laid (t' := tk) kp (Nat.le_refl _) (setO_new R), rfl, q _ c le (I.hok.fresh (Nat.le_refl _))⟩
end
/-- the least list of what a list holds -/
structure Dis (ns ms : List Int) : Prop where
  pw : ms.Pairwise (· < ·)
  mem : ∀ k, k ∈ ms ↔ k ∈ ns
theorem dis_pw : ∀ {ns ms : List Int}, Dis ns ms → (ns = ms ↔ ns.Pairwise (· < ·)) := by
  intro ns ms d
  refine ⟨fun e => e ▸ d.pw, fun p => ?_⟩
  have hp : ns.Perm ms := (List.perm_ext_iff_of_nodup (p.imp fun h => Int.ne_of_lt h) (d.pw.imp fun h => Int.ne_of_lt h)).mpr fun k => (d.mem k).symm
  exact hp.eq_of_pairwise (fun a b _ _ h1 h2 => by omega) p d.pw
section
variable {H : Hp} {K : PySem.W.Frag} {w : World} {us : List V} {Q : VK} {p : Addr} {ns : List Int}
theorem setL (e : us = [.ref p]) (h : SqL K H p (ns.map V.int)) (few : ns.length < 64) (q : ∀ (a : Addr) (c : Nat) (H1 : Hp), c ≤ ns.length → Kp N0 H H1 → H1 a = some (SetO w a (fun j => decide (j ∈ ns)) c) → Q (.ref a) H1) : rSetL K w us H Q := by
  unfold rSetL
  exact ⟨p, ns, e, h, few, fun a c le hn => q a c _ le (.new hn) upd_same⟩
theorem sortS {c : Nat} {q : Addr} (e : us = [.ref q]) (h : H q = some (SetO w q (fun j => decide (j ∈ ns)) c)) (few : c < 64) (qq : ∀ (a : Addr) (H1 : Hp) (ms : List Int), Dis ns ms → Kp N0 H H1 → H1 a = some (.lst (ms.map V.int)) → Q (.ref a) H1) : rSortedSet w us H Q := by
  exact ⟨q, _, c, e, h, few, fun ms a pw mem _ hn => qq a _ ms ⟨pw, fun k => by rw [mem k]; exact decide_eq_true_iff⟩ (.new hn) upd_same⟩
end
end Vf

/-! ### sorted(tuple of ints); `in` where the tuple holds texts and what is asked is anything -/
namespace Vf
open PySem PySem.Spec PyProof.Rows L2
section
variable {P : Program} {w : World} {A : Around} {E : Value → Shared → Prop} {s : Shared}
abbrev nil0 : Obj := seqObj "list" #[] 0
abbrev pour (s : Shared) (vs : List Value) : Heap := (s.heap.push nil0).update s.heap.objs.size (Obj.mapSeq (· ++ vs.toArray))
theorem pour_size (s : Shared) (vs : List Value) : (pour s vs).objs.size = s.heap.objs.size + 1 := by rw [Heap.size_update, size_push']
/-- a new list takes all that a tuple holds -/
theorem pourT {l : Addr} {vs : List Value} {Q : PySem.Fin → Shared → Prop} {out : Value} (t : s.heap.IsTuple l vs.toArray) (few : vs.length ≤ sizeLine) (q : Q (.done (.ret out)) { s with heap := pour s vs }) :
    wpAny (model P w) A (Builtin.List.listExtendWith (.ref s.heap.objs.size) (.ref l) out) Q E { s with heap := s.heap.push nil0 } := by
  obtain ⟨o, got, cls, n, dat⟩ := t
  have here : (s.heap.push nil0).get? l = some o := Heap.get?_push_of_some _ got
  have own : (s.heap.push nil0).get? s.heap.objs.size = some nil0 := Heap.get?_push_size _ rfl
  have kind : Shared.TypeIs { s with heap := s.heap.push nil0 } (.ref l) "tuple" := ⟨o, here, cls⟩
  unfold Builtin.List.listExtendWith
  refine wpAny_bind (wpAny_typeOf kind ?_)
  rw [if_pos (by simp)]
  refine wpAny_bind (listItems_at here dat (wpAny_bind (listItems_at (xs := #[]) (n := 0) own rfl ?_)))
  rw [if_neg (by simp)]
  exact wpAny_bind (listUpdate_at (xs := #[]) (n := 0) own rfl (wpAny_pure q) (Nat.zero_le _) (by simp; omega))
/-- what is walked of a tuple -/
theorem collectT {l : Addr} {vs : List Value} {Q : List Value → Shared → Prop} (t : s.heap.IsTuple l vs.toArray) (few : vs.length ≤ sizeLine) (q : Q vs { s with heap := pour s vs }) : wpAny (model P w) A (collect (.ref l)) Q E s := by
  have loaded {R : Obj → Shared → Prop} (q : R (Obj.mapSeq (· ++ vs.toArray) nil0) { s with heap := pour s vs }) : wpAny (model P w) A (load s.heap.objs.size) R E { s with heap := pour s vs } := wpAny_load (get?_update_seq (Heap.get?_push_size _ rfl) _) q
  have told : (#[] ++ vs.toArray : Array Value).toList = vs := by simp
  unfold collect
  refine wpAny_bind (wpAny_runValue (codeAny_builtin entry_proto_collect' (wpAny_bind (wpAny_newList (wpAny_pure ?_)))))
  refine ⟨Code.quiet_builtin _ (by decide +kernel), codeAny_builtin entry_list_iadd' (pourT t few ?_)⟩
  exact wpAny_bind (loaded (wpAny_pure (by rw [told]; exact q)))
theorem sortedTI {l : Addr} {vs : List Value} {ns : List Int} {Q : Value → Shared → Prop} (t : s.heap.IsTuple l vs.toArray) (isi : IntsAre vs ns) (few : vs.length < 64)
    (q : ∀ (out : Array Value) (ms : List Int), IntsAre out.toList ms → ms.Perm ns → ms.Pairwise (· ≤ ·) → Q (.ref (s.heap.objs.size + 1)) { s with heap := sortedAll s.heap vs out }) : wpAny (model P w) A (call (.builtin "sorted") [.ref l]) Q E s := by
  have fits : vs.length ≤ sizeLine := by rw [sizeLine_eq]; omega
  refine Calls.call_function_entry kind_sorted plain_sorted entry_sorted (args_sorted1 _) ?_
  unfold Builtin.«sorted»
  refine wpAny_bind (m := checkCount "sorted" 1 1 _) (wpAny_pure (wpAny_bind (collectT t fits (wpAny_bind (wpAny_newList ?_ fits)))))
  have at1 : ((pour s vs).push (seqObj "list" vs.toArray 0)).get? (s.heap.objs.size + 1) = some (seqObj "list" vs.toArray 0) := by rw [← pour_size s vs]; exact Heap.get?_push_size _ rfl
  show wpAny _ _ _ _ _ { s with heap := (pour s vs).push (seqObj "list" vs.toArray 0) }
  rw [pour_size]
  refine wpAny_bind (wpAny_holding (wpAny_call_entry slot_list_sort ⟨_, at1, rfl⟩ entry_list_sort (list_sort_tree at1 isi few fun out ms b1 b2 b3 => ⟨_, rfl, ?_⟩) (args_list_sort _)))
  exact wpAny_pure ⟨_, rfl, q out ms b1 b2 b3⟩
end
section
variable {X : Cx}
@[irreducible] def rSortTI (K : PySem.W.Frag) : List V → Hp → VK → Prop := fun vs H Q => ∃ (a : Addr) (ns : List Int), vs = [V.ref a] ∧ SqT K H a (ns.map V.int) ∧ ns.length < 64 ∧ ∀ (ms : List Int) (p : Addr), ms.Perm ns → ms.Pairwise (· ≤ ·) → H p = none → Q (.ref p) (upd H p (.lst (ms.map V.int)))
theorem call_srtTI : CallR X (.builtin "sorted") (rSortTI X.K) := by
  unfold rSortTI
  intro pins s σ H vs us Q I r h
  obtain ⟨a, ns, rfl, ht, few, q⟩ := h
  obtain ⟨its, rv, tup, _⟩ := I.tuple ht
  rw [Vals.ref1 r]
  have isi := rv.ints
  refine sortedTI tup isi (by rw [isi.length]; exact few) fun out ms b1 b2 b3 => ?_
  obtain ⟨ep, at2⟩ := sortedAll_at s.heap its out
  have fits : (ms.map V.int).length ≤ sizeLine := by rw [List.length_map, b2.length_eq, sizeLine_eq]; omega
  refine ⟨.ref _, upd H (s.heap.objs.size + 1) (.lst (ms.map V.int)), I.laid (t' := s.toks) (fun _ _ => sortedAll_old) (Nat.le_succ _) ⟨fits, out.toList, ep, vals_of_ints b1, at2⟩, rfl, ?_⟩
  exact q ms _ b2 b3 (I.hok.fresh (Nat.le_succ _))
/-- x not in a tuple, by data -/
@[irreducible] def rNotInT (K : PySem.W.Frag) : R2 := fun x y H Q => ∃ d ds, Dp K H x d ∧ Dp K H y (.tuple ds) ∧ SeqAt.shaped d = true ∧ PyData.canLayAll0 ds = true ∧ PyData.depthAll ds = 0 ∧ Q (.bl (!ds.any fun z => PyData.eqv z d)) H
theorem op_notInT (hu : X.A.units + 64 < cLine) : OpR X (compareOp .NotIn) (rNotInT X.K) := by
  unfold rNotInT
  intro pins s σ H x y v u Q I rx ry h
  obtain ⟨d, ds, hd, he, sd, lay, flat, q⟩ := h
  obtain ⟨_, r1⟩ := Dp.reads I d x v hd rx
  obtain ⟨_, r2⟩ := Dp.reads I (.tuple ds) y u he ry
  refine SeqAt.notIn_tuple_reads r2 r1 lay (SeqAt.canLay_of_shaped sd) (by rw [flat, Nat.zero_min]; omega) ⟨.bl _, H, I, rfl, q⟩
end
section
variable {H : Hp} {K : PySem.W.Frag} {us : List V} {Q : VK} {p : Addr} {ns : List Int}
theorem sortTI (e : us = [.ref p]) (h : H p = some (.tup (ns.map V.int))) (few : ns.length < 64) (q : ∀ (ms : List Int) l H1, ms.Perm ns → ms.Pairwise (· ≤ ·) → H l = none → Kp N0 H H1 → H1 l = some (.lst (ms.map V.int)) → Q (.ref l) H1) : rSortTI K us H Q := by
  unfold rSortTI
  exact ⟨p, ns, e, SqT.of h, few, fun ms l b1 b2 hn => q ms l _ b1 b2 hn (.new hn) upd_same⟩
end
end Vf
/-! ### set(tuple of ints), tuple.index of an int -/
namespace Vf
open PySem PySem.Spec PyProof.Rows L2
section
variable {P : Program} {w : World} {A : Around} {E : Value → Shared → Prop} {s : Shared}
set_option maxRecDepth 100000 in
set_option maxHeartbeats 3200000 in
theorem setOfTu {l : Addr} {xs : Array Value} (ns : List Int) {Q : Value → Shared → Prop} (none' : A.handled = none) (isl : PyProof.Rows.IsTup s.heap l xs) (isi : IntsAre xs.toList ns) (few : ns.length + 1 < scanBound)
    (k : ∀ (g : Heap) (tk c : Nat), SetR w g s.heap.objs.size (fun j => decide (j ∈ ns)) c → c ≤ ns.length → (∀ b o, s.heap.get? b = some o → g.get? b = some o) → Q (.ref s.heap.objs.size) { s with heap := g, toks := tk }) :
    wpAny (model P w) A (call (.type "set") [.ref l]) Q E s := by
  have sz : xs.size = ns.length := by have q := IntsAre.length isi; rwa [Array.length_toList] at q
  obtain ⟨_, _, mro⟩ := F.called_set.mro
  have a1 := F.called_set.made; have a2 := F.called_set.sub
  have a3 := F.called_set.notType; have a4 := F.called_set.canCreate
  have a5 := F.typeCall_set_1 (.ref l)
  refine wpAny_call (codeAny_of_tree (wpAny_pure ⟨Code.quiet_builtin _ (by decide +kernel), codeAny_builtin F.entry_type_call ?_⟩))
  rw [Around.under_plain (weight_type_call_type "set" [.ref l] []) rfl]
  repeat (any_goals (first | assumption | wp_step))
  refine codeAny_mono (code_set_led1 (.ref l) (E := E) (Q₁ := fun obj t => obj = .ref s.heap.objs.size ∧ t = { s with heap := laid w s }) ⟨rfl, rfl⟩) fun r t hr => ?_
  cases r with
  | error e => exact hr
  | ok fl => cases fl with
    | ret obj =>
      obtain ⟨rfl, rfl⟩ := hr
      have ty : Shared.TypeIs { s with heap := laid w s } (.ref s.heap.objs.size) "set" := ⟨_, laid_at w s, rfl⟩
      have b1 := F.called_set.init.lookup; have b2 := F.called_set.init.bind (.ref s.heap.objs.size)
      repeat (any_goals (first | assumption | wp_step))
      refine codeAny_mono (codeAny_call_builtin (R := wants (fun r t => r = .none ∧ ∃ g tk c, t = { s with heap := g, toks := tk } ∧ SetR w g s.heap.objs.size (fun j => decide (j ∈ ns)) c ∧ c ≤ ns.length ∧ (∀ b o, s.heap.get? b = some o → g.get? b = some o)) E)
        F.called_set.init.plain F.entry_set_init (check_set_init_1 ty ?_)) fun r2 t2 hr2 => ?_
      · obtain ⟨⟨c0, d0, da, sl⟩, got, e1, n0, e2⟩ := isl
        simp only at e1 e2
        subst e1; subst e2
        have got1 : (laid w s).get? l = some { cls := .type "tuple", dict := d0, data := .seq xs n0, slots := sl } := Heap.get?_push_of_some _ got
        have il : (laid w s).IsTuple l xs := ⟨_, got1, rfl, n0, rfl⟩
        have c1 := F.sub_tuple_set; have c2 := F.sub_tuple_frozenset
        have c3 : (Value.type "tuple" == Value.type "dict") = false := by decide
        unfold Builtin.«set.__init__» noKeywords Builtin.Frozenset.updateFrom
        generalize hI : pyIter = I
        wp_walk
        subst hI
        refine wpAny_pyIter_tuple il (wpAny_bind (wpAny_runValue ?_))
        have lt : l < s.heap.objs.size := Heap.lt_size got
        have hz : (laid w s).objs.size = s.heap.objs.size + 1 := Heap.size_push ..
        have h3 : A.in1.in1.in1.handled = none := by simp [none']
        have ne : l ≠ (laid w s).objs.size := by rw [hz]; exact Nat.ne_of_lt (Nat.lt_succ_of_lt lt)
        have nm : s.heap.objs.size ∉ [(laid w s).objs.size, l] := by
          rw [hz]
          intro m
          rcases List.mem_cons.mp m with m | m
          · exact absurd m (Nat.ne_of_lt (Nat.lt_succ_self _))
          · exact absurd (List.mem_singleton.mp m) (Nat.ne_of_gt lt)
        have vals : ∀ (i : Nat) (v : Value), xs[i]? = some v → ∃ k t, ns[i]? = some k ∧ v = .int k t := fun i v hv => by
          have hi : i < ns.length := by rw [← sz]; exact (Array.getElem?_eq_some_iff.mp hv).1
          obtain ⟨t, e⟩ := IntsAre.int_at isi i v (by rw [Array.getElem?_toList]; exact hv)
          exact ⟨ns[i], t, List.getElem?_eq_getElem hi, by rw [e, List.getD_eq_getElem?_getD, List.getElem?_eq_getElem hi]; rfl⟩
        refine set_update_ints ((Walks.tuple h3 _ l ne xs).toS) s.heap.objs.size nm ns sz few vals (xs.size - 0) 0 _ (by omega) (Nat.zero_le _) ⟨⟨_, Heap.get?_push_size _ rfl, rfl, rfl⟩, il.push _⟩ ?first ?last
        case first => exact ⟨0, Nat.le_refl 0, setR_new_at (Heap.get?_push_of_some _ (laid_at w s))⟩
        case last =>
          rintro ⟨g, g2, d2, t2, o2⟩ c moved le R
          obtain rfl : g2 = s.gens := moved.gens
          obtain rfl : d2 = s.drawn := moved.drawn
          obtain rfl : o2 = s.os := moved.os
          show wpAny _ _ _ _ _ _
          refine wpAny_pure ?_
          show wpAny _ _ (ret Value.none) _ _ _
          refine wpAny_pure ⟨rfl, g, t2, c, rfl, R, by omega, fun b o e => moved.heap b o ?_ (Heap.get?_push_of_some _ (Heap.get?_push_of_some _ e))⟩
          have blt : b < s.heap.objs.size := Heap.lt_size e
          intro m
          rcases List.mem_cons.mp m with m | m
          · exact absurd m (Nat.ne_of_lt blt)
          · have m := List.mem_singleton.mp m
            rw [hz] at m
            exact absurd m (Nat.ne_of_lt (Nat.lt_succ_of_lt blt))
      · cases r2 with
        | error e => exact hr2
        | ok f2 => cases f2 with
          | ret v =>
            obtain ⟨rfl, g, tk, c, rfl, R, le, kp⟩ := hr2
            repeat (any_goals (first | assumption | wp_step))
            exact k g tk c R le kp
          | _ => exact False.elim hr2
    | _ => exact False.elim hr
end
section
variable {X : Cx}
/-- set(xs), xs a tuple of fewer than 64 ints -/
@[irreducible] def rSetTu (K : PySem.W.Frag) (w : World) : List V → Hp → VK → Prop := fun vs H Q => ∃ (l : Addr) (ns : List Int), vs = [V.ref l] ∧ SqT K H l (ns.map V.int) ∧ ns.length < 64 ∧ ∀ (p : Addr) (c : Nat), c ≤ ns.length → H p = none → Q (.ref p) (upd H p (SetO w p (fun j => decide (j ∈ ns)) c))
theorem cr_setTu (hc : X.calm = true) : CallR X (.type "set") (rSetTu X.K X.w) := by
  unfold rSetTu
  intro pins s σ H vs us Q I r h
  obtain ⟨l, ns, rfl, hl, few, q⟩ := h
  rw [Vals.ref1 r]
  obtain ⟨its, rv, pl, _⟩ := I.tuple hl
  refine setOfTu (P := X.prog) (w := X.w) ns (I.ok.hd hc) pl (by simpa using ints_of_vals rv) (by unfold scanBound; omega) fun g tk c R le kp => ?_
  exact ⟨.ref s.heap.objs.size, upd H s.heap.objs.size (SetO X.w s.heap.objs.size (fun j => decide (j ∈ ns)) c), I.laid (t' := tk) kp (Nat.le_refl _) (setO_new R), rfl, q _ c le (I.hok.fresh (Nat.le_refl _))⟩
end
section
variable {H : Hp} {K : PySem.W.Frag} {w : World} {us : List V} {Q : VK} {p : Addr} {ns : List Int}
theorem setTu (e : us = [.ref p]) (h : SqT K H p (ns.map V.int)) (few : ns.length < 64) (q : ∀ (a : Addr) (c : Nat) (H1 : Hp), c ≤ ns.length → Kp N0 H H1 → H1 a = some (SetO w a (fun j => decide (j ∈ ns)) c) → Q (.ref a) H1) : rSetTu K w us H Q := by
  unfold rSetTu
  exact ⟨p, ns, e, h, few, fun a c le hn => q a c _ le (.new hn) upd_same⟩
end
section
variable {X : Cx}
@[irreducible] def rTIdx (K : PySem.W.Frag) : V → List V → Hp → VK → Prop := fun x xs H Q => ∃ (p : Addr) (ns : List Int) (z : Int) (j : Nat), x = .ref p ∧ xs = [.int z] ∧ SqT K H p (ns.map V.int) ∧ ns[j]? = some z ∧ (∀ m, m < j → ns[m]? ≠ some z) ∧ Q (.int (j : Nat)) H
theorem flat_ints (ys : List Int) : (ys.map V.int).all flatV = true := by simp [flatV]
theorem mt_tIdx : MtR X "tuple.index" (rTIdx X.K) := by
  unfold rTIdx
  rintro pins s σ H _ _ _ _ Q I rx rs ⟨p, ns, z, j, rfl, rfl, isT, here, sooner, q⟩
  cases rx
  obtain ⟨u, rfl, ru⟩ := vals1 rs
  obtain ⟨vs, rel, ⟨⟨_, dd, _, sl⟩, got, c, n, d⟩, _⟩ := I.tuple isT
  cases c
  cases d
  have cnt : vs.toArray.size = ns.length := by simpa using rel.length.symm
  have told (m : Nat) (hm : m < vs.toArray.size) : ∃ y, ns[m]? = some y ∧ eqU (.int z) vs.toArray[m] = decide (y = z) := by
    have lt : m < ns.length := cnt ▸ hm
    obtain ⟨v, hv, rv⟩ := rel.get (i := m) (x := .int ns[m]) (by simp [lt])
    have is_ : vs.toArray[m] = v := by simpa using (List.getElem?_eq_some_iff.mp hv).2
    exact ⟨ns[m], List.getElem?_eq_getElem lt, by rw [is_, eqU_of rv rfl]; rfl⟩
  have inside : j < vs.toArray.size := by rw [cnt]; exact (List.getElem?_eq_some_iff.mp here).1
  have found : eqU (.int z) vs.toArray[j] = true := by
    obtain ⟨y, hy, e⟩ := told j inside
    rw [e, Option.some.inj (hy.symm.trans here)]
    simp
  have before (m : Nat) (hm : m < vs.toArray.size) (lt : m < j) : eqU (.int z) vs.toArray[m] = false := by
    obtain ⟨y, hy, e⟩ := told m hm
    rw [e]
    exact decide_eq_false fun same => sooner m lt (same ▸ hy)
  exact call_meets PySem.F.slot_tuple_index ⟨_, got, rfl⟩ PySem.F.entry_tuple_index (PySem.F.args_tuple_index_2 _ _) (TI.tuple_indexAt p vs.toArray n dd sl u (eqU (.int z)) j inside found before) ⟨got, fun v m => mem_eqAt (x := .int z) ru rfl rel (flat_ints ns) v (by simpa using m), .int (j : Nat), H, I.tok _, ⟨_, rfl⟩, q⟩
theorem tIdx {K : PySem.W.Frag} {H : Hp} {Q : VK} {p : Addr} {ns : List Int} {z : Int} {j : Nat} (h : SqT K H p (ns.map V.int)) (hj : ns[j]? = some z) (hno : ∀ m, m < j → ns[m]? ≠ some z) (q : Q (.int (j : Nat)) H) : rTIdx K (.ref p) [.int z] H Q := by
  unfold rTIdx
  exact ⟨p, ns, z, j, rfl, rfl, h, hj, hno, q⟩
end
end Vf
/-! ### tuples of which it is known that they have no dict; their methods -/
namespace Vf
open PySem PySem.Spec PyProof.Rows L2
def TF (K : PySem.W.Frag) (H : Hp) (p : Addr) (xs : List V) : Prop :=
  (∃ o, H p = some (.frz o (.tup xs)) ∧ o.cls = .type "tuple" ∧ o.dict = none) ∨
  ∃ (o : Obj) (its : Array Value) (n : Nat), K.lookup p = some o ∧ o.cls = .type "tuple" ∧ o.dict = none ∧ o.data = .seq its n ∧ its.size ≤ sizeLine ∧ Vals xs its.toList
theorem TF.sq {K : PySem.W.Frag} {H : Hp} {p : Addr} {xs : List V} (h : TF K H p xs) : SqT K H p xs := by
  rcases h with ⟨o, h, _⟩ | ⟨o, its, n, a, b, _, c, d, e⟩
  · exact .inl (.inr ⟨o, h⟩)
  · exact .inr ⟨o, its, n, a, b, c, d, e⟩
theorem TF.kp {K : PySem.W.Frag} {S : Addr → Prop} {H H1 : Hp} {p : Addr} {xs : List V} (k : Kp S H H1) (h : TF K H p xs) : TF K H1 p xs := by
  rcases h with ⟨o, h, a, b⟩ | h
  · exact .inl ⟨o, k.frz _ _ _ h, a, b⟩
  · exact .inr h
theorem TF.new {K : PySem.W.Frag} {H : Hp} {p : Addr} {o : Obj} {xs : List V} (a : o.cls = .type "tuple") (b : o.dict = none) : TF K (upd H p (.frz o (.tup xs))) p xs := .inl ⟨o, upd_same, a, b⟩
/-- a new one -/
def NewF (H : Hp) (xs : List V) (Q : VK) : Prop := ∀ p, H p = none → ∀ o : Obj, o.cls = .type "tuple" → o.dict = none → Q (.ref p) (upd H p (.frz o (.tup xs)))
section
variable {X : Cx}
theorem bareF {X : Cx} {pins : List (Addr × Obj)} {σ : L2.St} {H : Hp} {s : Shared} {xs : List V} {its : List Value} {Q : VK} (I : Inv X pins σ H s) (hz : xs.length ≤ sizeLine) (r : Vals xs its) (q : NewF H xs Q) :
    EP X pins σ Q (.ref s.heap.objs.size) { s with heap := s.heap.push { cls := .type "tuple", data := .seq its.toArray } } :=
  ⟨.ref s.heap.objs.size, _, I.laid (t' := s.toks) (o := .frz { cls := .type "tuple", data := .seq its.toArray } (.tup xs)) (fun b ob q => Heap.get?_push_of_some _ q) (Nat.le_refl _) ⟨Heap.get?_push_size _ rfl, hz, _, r, IsTup.new _ _⟩, rfl, q _ (I.hok.fresh (Nat.le_refl _)) _ rfl rfl⟩
def rCatF0 (K : PySem.W.Frag) : R2 := fun x y H Q => ∃ a b xs ys, x = .ref a ∧ y = .ref b ∧ SqT K H a xs ∧ SqT K H b ys ∧ xs.length + ys.length ≤ sizeLine ∧ (xs = [] → Q (.ref b) H) ∧ (xs ≠ [] → ys = [] → Q (.ref a) H) ∧ (xs ≠ [] → ys ≠ [] → NewF H (xs ++ ys) Q)
theorem op_catF0 : OpR X (binaryOp .Add) (rCatF0 X.K) := fun pins s σ H _ _ _ _ Q I rx ry ⟨a, b, xs, ys, e1, e2, ha, hb, fits, onlyR, onlyL, both⟩ => by
  subst e1 e2
  cases rx
  cases ry
  have ⟨us, ru, pu, _⟩ := I.tuple ha
  have ⟨vs, rv, pv, _⟩ := I.tuple hb
  have long : (xs ++ ys).length ≤ sizeLine := by simpa using fits
  by_cases e : xs = []
  · have : us = [] := ru.nil_iff.mpr e
    subst this
    exact cat_tup0 pu pv ⟨.ref b, H, I, rfl, onlyR e⟩
  · have left : us ≠ [] := fun z => e (ru.nil_iff.mp z)
    exact HT.cat_tup pu pv left (fun z => ⟨.ref a, H, I, rfl, onlyL e (rv.nil_iff.mp z)⟩) (fun z => bareF I long (ru.append rv) (both e fun y => z (rv.nil_iff.mpr y))) (by have := ru.length; have := rv.length; omega)
def rSlF0 (K : PySem.W.Frag) : V → Option Int → Option Int → Hp → VK → Prop := fun x lo hi H Q => ∃ a xs, x = .ref a ∧ SqT K H a xs ∧
  (HT.sIx xs.length 0 lo = 0 ∧ HT.sIx xs.length xs.length hi = xs.length → Q (.ref a) H) ∧ (¬ (HT.sIx xs.length 0 lo = 0 ∧ HT.sIx xs.length xs.length hi = xs.length) → NewF H (cutV xs lo hi) Q)
theorem sl_tupF0 : L2.SlR X (rSlF0 X.K) := fun pins s σ H _ _ _ _ lo hi sl Q I rx cuts pl pu ⟨a, xs, e, isT, whole, part⟩ => by
  subst e
  cases rx
  have ⟨vs, rel, inT, few⟩ := I.tuple isT
  have size : vs.toArray.size = xs.length := by simp [rel.length]
  refine ⟨"tuple", _, PyProof.Rows.slot_tuple_getitem.lookup, inT.typeIs, ?_⟩
  rcases Classical.em (HT.sIx xs.length 0 lo = 0 ∧ HT.sIx xs.length xs.length hi = xs.length) with all | some_
  · exact getItem_tuple_whole inT cuts pl pu (size.symm ▸ all) ⟨.ref a, H, I, rfl, whole all⟩
  · have new := bareF I (Nat.le_trans (cutV_length xs lo hi) few) ((rel.drop _).take _) (part some_)
    exact HT.getItem_tuple_cut inT cuts pl pu (size.symm ▸ some_) (by rw [size]; exact new) (by rw [size]; exact few)
def rRepF0 (K : PySem.W.Frag) : R2 := fun x y H Q => ∃ l k xs, x = .ref l ∧ y = .int k ∧ SqT K H l xs ∧ xs ≠ [] ∧ 0 ≤ k ∧ k ≤ 1000 ∧ xs.length ≤ 1000 ∧ (k = 1 → Q (.ref l) H) ∧ (k ≠ 1 → NewF H (List.replicate k.toNat xs).flatten Q)
/-- a tuple times a number, by whatever its own method answers -/
theorem times {P : Program} {w : World} {A : Around} {E : Value → Shared → Prop} {Q : Value → Shared → Prop} {s : Shared} {S : Around → (Result → Shared → Prop) → Shared → Prop} {l : Addr} {k : Int} {t : Tok} {vs : Array Value} {n : Nat} {dd : Option Addr} {sl : Array (Option Value)}
    (here : s.heap.get? l = some { cls := .type "tuple", dict := dd, data := .seq vs n, slots := sl }) (m : Meets (Builtin.«tuple.__mul__» ⟨[.ref l, .int k t], []⟩) S) (go : S A (wants Q E) s) :
    wpAny (model P w) A (binaryOp .Mult (.ref l) (.int k t)) Q E s :=
  have isT : s.TypeIs (.ref l) "tuple" := ⟨_, here, rfl⟩
  have isI (r : Shared) : r.TypeIs (.int k t) "int" := typeIs_int r k t
  have inner := call_meets F.slot_tuple_mul isT F.entry_tuple_mul (F.args_tuple_mul_2 _ _) m go
  wpAny_binaryOp_repeat_ref (T := "tuple") (U := "int") rfl isT isI noFill_tuple_mul F.fills_int_mul F.slot_int_rmul repeat_tuple F.slot_int_index.lookup
    (call_meets F.slot_int_rmul (isI s) F.entry_int_rmul (F.args_int_rmul_2 _ _) (int_rmul_tuple k t l vs n dd sl) ⟨here, rfl, isT, inner⟩)
theorem op_repF0 : OpR X (binaryOp .Mult) (rRepF0 X.K) := fun pins s σ H _ _ _ _ Q I rx ry ⟨l, k, xs, e1, e2, isT, full, low, top, short, one, other⟩ => by
  subst e1 e2
  cases rx
  obtain ⟨t, rfl⟩ := ry
  obtain ⟨vs, rel, ⟨⟨_, dd, _, sl⟩, here, c, n, d⟩, _⟩ := I.tuple isT
  cases c
  cases d
  have cnt : xs.length = vs.length := rel.length
  have some1 : vs.toArray.isEmpty = false := by
    rcases vs with _ | ⟨v, vs⟩
    · exact (full (List.length_eq_zero_iff.mp cnt)).elim
    · rfl
  have cap : k.toNat * xs.length ≤ 1000 * 1000 := Nat.mul_le_mul (by omega) short
  have fits (zs : List V) (e : zs.length = xs.length) : (List.replicate k.toNat zs).flatten.length ≤ sizeLine := by
    rw [PyProof.Rows.lm_len_rep_flat, e]
    exact Nat.le_trans cap (by decide)
  rcases (by omega : k = 0 ∨ k = 1 ∨ 1 < k) with rfl | rfl | big
  · exact times here (tmul_zero l vs.toArray n dd sl t some1) ⟨here, bareF (its := []) I (Nat.zero_le _) .nil (other (by decide))⟩
  · exact times here (tmul_one l vs.toArray n dd sl t) ⟨here, .ref l, H, I, rfl, one rfl⟩
  · have capI : (vs.toArray.size : Int) * k ≤ 1000000 := by
      obtain ⟨m, rfl⟩ : ∃ m : Nat, k = m := ⟨k.toNat, by omega⟩
      rw [List.size_toArray, ← cnt, Int.mul_comm, ← Int.natCast_mul]
      exact Int.ofNat_le.mpr cap
    refine times here (tuple_mulW l vs.toArray n dd sl k t (by simp; omega) (by simp [some1]; omega) (by simp [some1]; omega) (by omega) ?_ ?_) ⟨here, ?_⟩
    · exact decide_eq_false (by rw [sizeLine_eq]; omega)
    · rw [size_rep, List.size_toArray, PyProof.Rows.lm_len_rep_flat, ← cnt]
      exact Nat.le_trans cap (by decide)
    · rw [size_rep]
      exact bareF I (fits xs rfl) (rel.rep k.toNat) (other (by omega))
theorem pe_tupF0 {es : List Expr} {t : TA} {x1 : Nat} {pos : Pos} (h : PA X es t) : PE X (.Tuple es x1 pos) (fun σ H Q => t σ H fun xs H1 => xs.length ≤ sizeLine ∧ NewF H1 xs Q) := by
  refine ⟨fun pins s σ H Q I hq => ?_⟩
  refine wpAny_Tuple_spliced (thn (h.run pos pins s σ H _ I hq) fun us s1 ⟨xs, H1, I1, r, z, q⟩ => ⟨by rw [← r.length]; exact z, ?_⟩)
  exact bareF I1 z r q
/-- t.m(x), t a tuple without a dict -/
def tBMF (K : PySem.W.Frag) (r : V → List V → Hp → VK → Prop) (to : TE) (t : TA) : TE := fun σ H Q => to σ H fun x H1 => (∃ p xs, x = .ref p ∧ TF K H1 p xs) ∧ t σ H1 fun xs H2 => r x xs H2 Q
variable {o e : Expr} {es : List Expr} {to : TE} {t : TA} {name : Str} {apos cpos : Pos} {id : String} {r : V → List V → Hp → VK → Prop}
theorem tf_is {pins : List (Addr × Obj)} {σ : L2.St} {H : Hp} {s : Shared} {x : V} {v : Value} (I : Inv X pins σ H s) (rv : RelV x v) (h : ∃ p xs, x = .ref p ∧ TF X.K H p xs) : s.TypeIs v "tuple" ∧ ∀ a, v = .ref a → ∃ ob, s.heap.get? a = some ob ∧ ob.dict = none := by
  obtain ⟨p, xs, rfl, h⟩ := h
  cases rv
  rcases h with ⟨ob, h, hc, hd⟩ | ⟨ob, its, n, hk, hc, hd, _⟩
  · obtain ⟨e, _⟩ := I.hok p _ h
    refine ⟨⟨ob, e, hc⟩, fun a ea => ?_⟩
    cases ea
    exact ⟨ob, e, hd⟩
  · have e := I.kIn _ _ hk
    refine ⟨⟨ob, e, hc⟩, fun a ea => ?_⟩
    cases ea
    exact ⟨ob, e, hd⟩
/-- what the call's own words must be: read off the text -/
def Simple (X : Cx) (o e : Expr) (es : List Expr) (name : Str) (apos cpos : Pos) : Prop :=
  (attributeBase o name X.env (eval o X.env) = eval o X.env ∧ starEach (e :: es) X.env = (false, eval e X.env) :: starEach es X.env ∧ (backTo cpos (starEach es X.env)).any (·.1) = false) ∧
  (apos.endLine == cpos.line) = true ∧ (((backTo cpos (starEach (e :: es) X.env)).all (fun x => !x.1) && (backToKw cpos (keywordEach [] X.env)).all (fun x => x.1.isSome)) && decide ((e :: es).length + ([] : List Keyword).length + (if ([] : List Keyword).isEmpty then 0 else 1) < 30)) = true
theorem pe_bmF (pa : PlainAttrs "tuple") (slot : Slot "tuple" name id) (hty : typeOf (.builtin id) = pure (.type "method_descriptor")) (hm : MtR X id r) (ho : PE X o to) (ha : PA X (e :: es) t)
    (plain : Simple X o e es name apos cpos := by exact ⟨⟨rfl, rfl, rfl⟩, rfl, rfl⟩) : PE X (.Call (.Attribute o name apos) (e :: es) [] cpos) (tBMF X.K r to t) := .mk fun pins s σ H Q I h => by
  obtain ⟨⟨base, stars, none_⟩, row1, few⟩ := plain
  have whose := ho.run pins s σ H _ I h
  refine wpAny_Call_method_late base few row1 rfl (thn whose fun v s1 got => ?_)
  obtain ⟨x, H1, I1, rel, isT, more⟩ := got
  obtain ⟨kind, bare⟩ := tf_is I1 rel isT
  have what := ha.run cpos pins s1 σ H1 _ I1 more
  refine ⟨_, id, pa, slot, hty, kind, bare, ?_⟩
  rw [stars] at what ⊢
  have noStar : ((false, eval e X.env) :: backTo cpos (starEach es X.env)).any (·.1) = false := by simpa using none_
  exact Calls.callWith_builtin noStar (Calls.evalArgs_plain (thn what fun us s2 ⟨vs, H2, I2, rels, q⟩ => hm pins s2 σ H2 x vs v us Q I2 rel rels q))
@[irreducible] def rCatF (K : PySem.W.Frag) : R2 := rCatF0 K
@[irreducible] def rSlF (K : PySem.W.Frag) : V → Option Int → Option Int → Hp → VK → Prop := rSlF0 K
@[irreducible] def rRepF (K : PySem.W.Frag) : R2 := rRepF0 K
@[irreducible] def rNewF (xs : List V) (H : Hp) (Q : VK) : Prop := xs.length ≤ sizeLine ∧ NewF H xs Q
def tTupF (t : TA) : TE := fun σ H Q => t σ H fun xs H1 => rNewF xs H1 Q
theorem op_catF : OpR X (binaryOp .Add) (rCatF X.K) := by unfold rCatF; exact op_catF0
theorem sl_tupF : L2.SlR X (rSlF X.K) := by unfold rSlF; exact sl_tupF0
theorem op_repF : OpR X (binaryOp .Mult) (rRepF X.K) := by unfold rRepF; exact op_repF0
theorem pe_tupF {es : List Expr} {t : TA} {x1 : Nat} {pos : Pos} (h : PA X es t) : PE X (.Tuple es x1 pos) (tTupF t) := by
  unfold tTupF rNewF
  exact pe_tupF0 h
section
variable {H : Hp} {K : PySem.W.Frag} {us : List V} {Q : VK} {p b : Addr} {xs ys : List V} {lo hi : Option Int}
theorem newFq (q : ∀ p H1, Kp N0 H H1 → TF K H1 p xs → Q (.ref p) H1) : NewF H xs Q := fun p hp o a b => q p _ (.new hp) (TF.new a b)
theorem newF (hl : us.length ≤ sizeLine) (q : ∀ p H1, Kp N0 H H1 → TF K H1 p us → Q (.ref p) H1) : rNewF us H Q := by
  unfold rNewF
  exact ⟨hl, newFq q⟩
theorem lenF (e : us = [.ref p]) (h : TF K H p ys) (q : Q (.int ys.length) H) : rLen K us H Q := by
  unfold rLen
  exact ⟨p, ys, e, .inr h.sq, q⟩
theorem catF (h : TF K H p xs) (h2 : TF K H b ys) (hz : xs.length + ys.length ≤ sizeLine) (q : ∀ p H1, Kp N0 H H1 → TF K H1 p (xs ++ ys) → Q (.ref p) H1) : rCatF K (.ref p) (.ref b) H Q := by
  unfold rCatF
  refine ⟨p, b, xs, ys, rfl, rfl, h.sq, h2.sq, hz, fun w => q b H (.refl _ _) ?_, fun _ w => q p H (.refl _ _) ?_, fun _ _ => newFq q⟩
  · rw [w]; exact h2
  · rw [w, List.append_nil]; exact h
theorem slF (h : TF K H p xs) (q : ∀ p H1, Kp N0 H H1 → TF K H1 p (cutV xs lo hi) → Q (.ref p) H1) : rSlF K (.ref p) lo hi H Q := by
  unfold rSlF
  refine ⟨p, xs, rfl, h.sq, fun w => q p H (.refl _ _) ?_, fun _ => newFq q⟩
  unfold cutV
  rw [w.1, w.2]
  simpa using h
theorem repF {k : Int} (h : TF K H p xs) (hne : xs ≠ []) (h1 : 0 ≤ k) (h2 : k ≤ 1000) (hz : xs.length ≤ 1000) (q : ∀ p H1, Kp N0 H H1 → TF K H1 p (List.replicate k.toNat xs).flatten → Q (.ref p) H1) : rRepF K (.ref p) (.int k) H Q := by
  unfold rRepF
  refine ⟨p, k, xs, rfl, rfl, h.sq, hne, h1, h2, hz, fun e => q p H (.refl _ _) ?_, fun _ => newFq q⟩
  subst e
  simpa using h
end
end
end Vf
/-! ### tables of the module: tuples of (an int, a tuple of ints) -/
namespace Vf
open PySem PySem.Spec PyProof.Rows L2
def KT (K : PySem.W.Frag) (a : Addr) (xs : List V) : Prop := ∃ (o : Obj) (its : Array Value) (n : Nat), K.lookup a = some o ∧ o.cls = .type "tuple" ∧ o.dict = none ∧ o.data = .seq its n ∧ its.size ≤ sizeLine ∧ Vals xs its.toList
theorem KT.tf {K : PySem.W.Frag} {H : Hp} {a : Addr} {xs : List V} (h : KT K a xs) : TF K H a xs := .inr h
theorem KT.mk {K : PySem.W.Frag} {a : Addr} {xs : List V} {its : Array Value} {n : Nat} {sl : Array (Option Value)} (l : K.lookup a = some ⟨.type "tuple", none, .seq its n, sl⟩) (z : its.size ≤ 1000) (v : Vals xs its.toList) : KT K a xs :=
  ⟨_, its, n, l, rfl, rfl, rfl, Nat.le_trans z (by decide), v⟩
def KPats (K : PySem.W.Frag) : List V → List (Int × List Int) → Prop
  | [], [] => True
  | v :: vs, p :: l => (∃ a b, v = .ref a ∧ KT K a [.int p.1, .ref b] ∧ KT K b (p.2.map V.int)) ∧ KPats K vs l
  | _, _ => False
def KPat (K : PySem.W.Frag) (a : Addr) (l : List (Int × List Int)) : Prop := ∃ vs, KT K a vs ∧ KPats K vs l
theorem KPats.len {K : PySem.W.Frag} : ∀ {vs : List V} {l : List (Int × List Int)}, KPats K vs l → vs.length = l.length
  | [], [], _ => rfl
  | _ :: _, _ :: _, ⟨_, t⟩ => by rw [List.length_cons, List.length_cons, KPats.len t]
theorem KPats.get {K : PySem.W.Frag} : ∀ {vs : List V} {l : List (Int × List Int)} {i : Nat} {v : V}, KPats K vs l → vs[i]? = some v → ∃ p a b, l[i]? = some p ∧ v = .ref a ∧ KT K a [.int p.1, .ref b] ∧ KT K b (p.2.map V.int)
  | [], [], i, v, _, h => by simp at h
  | u :: vs, r :: rs, 0, v, ⟨⟨a, b, e, h1, h2⟩, t⟩, hv => by
    cases hv
    exact ⟨r, a, b, rfl, e, h1, h2⟩
  | u :: vs, r :: rs, i + 1, v, ⟨_, t⟩, hv => KPats.get (i := i) t (by simpa using hv)
theorem iteFB {b : Bool} {A B : Prop} (h : b = false) (x : B) : if b = true then A else B := by
  rw [h]
  exact iteF x
theorem iteTB {b : Bool} {A B : Prop} (h : b = true) (x : A) : if b = true then A else B := by
  rw [h]
  exact iteT x
theorem cref_mk {K : PySem.W.Frag} {h : Heap} {mg : Str → Option Value} (X : K.In h) (G : h.Ns mainGlobals mg) {x : Str} {p : Addr} (a : PySem.W.nsIn K mainGlobals x = some (some (.ref p))) : ∃ u, mg x = some u ∧ RelV (.ref p) u :=
  ⟨_, PySem.W.mg_of X G a, rfl⟩
theorem rlr {a : Addr} : RelV (.ref a) (.ref a) := rfl
theorem kpat_mk {K : PySem.W.Frag} {h : Heap} {mg : Str → Option Value} (X : K.In h) (G : h.Ns mainGlobals mg) {x : Str} {p : Addr} {l : List (Int × List Int)} (a : PySem.W.nsIn K mainGlobals x = some (some (.ref p))) (hp : KPat K p l) :
    ∃ a : Addr, (∃ u, mg x = some u ∧ RelV (.ref a) u) ∧ KPat K a l := ⟨p, cref_mk X G a, hp⟩
end Vf
/-! ### tuple(range(a, b, c)); sorted tuples as a reading -/
namespace Vf
open PySem PySem.Spec PyProof.Rows L2
def RgV3 (i c : Int) (n : Nat) : List V := (List.range n).map fun k => V.int (i + (k : Nat) * c)
section
variable {X : Cx}
def PRg3 (X : Cx) (e : Expr) (t : L2.St → Hp → (Int → Int → Int → Hp → Prop) → Prop) : Prop :=
  ∀ (pins : List (Addr × Obj)) (s : Shared) (σ : L2.St) (H : Hp) (Q : Int → Int → Int → Hp → Prop), Inv X pins σ H s → t σ H Q →
    wpAny (model X.prog X.w) X.A (eval e X.env) (fun x s' => ∃ r a b c t u v H', x = .ref r ∧ IsRange s'.heap r a b c t u v ∧ Inv X pins σ H' s' ∧ Q a b c H') X.xe s
def tRg3 (ta : TA) : L2.St → Hp → (Int → Int → Int → Hp → Prop) → Prop := fun σ H Q => ta σ H fun vs H1 => ∃ i j c : Int, vs = [.int i, .int j, .int c] ∧ c ≠ 0 ∧ c.natAbs < 1073741824 ∧ Q i j c H1
theorem prg_3 {a b c : Expr} {ta : TA} {p pos : Pos} (hg : Gl X "range") (hm : X.mg "range" = none) (ha : PA X [a, b, c] ta)
    (hs : starEach [a, b, c] X.env = (false, eval a X.env) :: starEach [b, c] X.env := by rfl) (hpl : (backTo pos (starEach [b, c] X.env)).any (·.1) = false := by rfl) : PRg3 X (.Call (.Name "range" p) [a, b, c] [] pos) (tRg3 ta) := by
  intro pins s σ H Q I h
  refine Call_ (ld_blt I hg hm boot_range (PyProof.Rows.callWith_type1 (thn (ha.run pos pins s σ H _ I h) fun us s1 ⟨vs, H1, I1, r1, q1⟩ => ?_) hs hpl))
  obtain ⟨i, j, k, e, c0, c1, q⟩ := q1
  subst e
  cases r1 with
  | cons r rr =>
    cases rr with
    | cons r' rr =>
      cases rr with
      | cons r'' rr =>
        cases rr
        obtain ⟨t, rfl⟩ := r
        obtain ⟨t', rfl⟩ := r'
        obtain ⟨t'', rfl⟩ := r''
        refine call_range_3 c0 ?_ (.inl (PyProof.noPylong_small c1))
        exact ⟨_, i, j, k, _, _, _, H1, rfl, IsRange.new _ _ _ _ _ _ _, I1.kept fun b u e => Heap.get?_push_of_some _ e, q⟩
theorem vals_rg3 {a c : Int} {n : Nat} {acc : Array Value} (h : ItemsOf (fun i v => ∃ t, v = .int (a + i * c) t) acc n) : Vals (RgV3 a c n) acc.toList := by
  have e : acc.toList.length = n := by rw [Array.length_toList]; exact h.1
  unfold RgV3
  rw [← e]
  refine vals_of_get acc.toList _ fun j u hj => ?_
  obtain ⟨t, rfl⟩ := h.2 j u (by rw [← hj, Array.getElem?_toList])
  exact ⟨t, rfl⟩
def tTupRg3 (te : L2.St → Hp → (Int → Int → Int → Hp → Prop) → Prop) : TE := fun σ H Q => te σ H fun a b c H1 => ∃ n, RgC a b c n ∧ n ≤ 2 ^ 24 ∧ ∀ q, H1 q = none → Q (.ref q) (upd H1 q (.tup (RgV3 a c n)))
theorem pe_tupRg3 {e : Expr} {te : L2.St → Hp → (Int → Int → Int → Hp → Prop) → Prop} {p pos : Pos} (hc : X.calm = true) (hg : Gl X "tuple") (hm : X.mg "tuple" = none) (he : PRg3 X e te) (na : starEach [e] X.env = (false, eval e X.env) :: starEach [] X.env := by rfl) : PE X (.Call (.Name "tuple" p) [e] [] pos) (tTupRg3 te) := by
  refine ⟨fun pins s σ H Q I h => ?_⟩
  refine Call_ (ld_blt I hg hm boot_tuple (PyProof.Rows.callWith_type1 (args_cons (thn (he pins s σ H _ I h) fun x s1 ⟨r, a, b, c, t, u, v, H1, ex, hr, I1, n, ok, hn, q⟩ => args_nil ?_) na) na))
  subst ex
  refine call_tuple_range (n := n) (I1.ok.hd hc) hr ok.2.2.1 ok.2.2.2 hn fun h' tk acc hk hi => ?_
  have I2 : Inv X pins σ H1 { s1 with heap := h', toks := tk } := I1.kept hk
  refine ⟨.ref h'.objs.size, upd H1 h'.objs.size (.tup (RgV3 a c n)), I2.laid (t' := tk) (fun c o e => Heap.get?_push_of_some _ e) (Nat.le_refl _) (show ObjOk X.prog X.w _ _ _ (.tup (RgV3 a c n)) from ⟨?_, acc.toList, vals_rg3 hi, ?_⟩), rfl, q _ (I2.hok.fresh (Nat.le_refl _))⟩
  · unfold RgV3
    rw [List.length_map, List.length_range, sizeLine_eq]; omega
  · rw [Array.toArray_toList]; exact IsTup.new _ _
end
@[irreducible] def rSortTup (K : PySem.W.Frag) (b : Bool) : List V → List V → Hp → VK → Prop := rSortTup0 K b
section
variable {X : Cx} {K : PySem.W.Frag}
theorem cr_sortTR (h : X.K = K := by rfl) : CallRK X (.builtin "sorted") [Str.ofString "reverse"] (rSortTup K true) := by
  subst h
  unfold rSortTup
  exact cr_sortTupRev
end
theorem sortTR {K : PySem.W.Frag} {H : Hp} {p : Addr} {L : List (Addr × List Int)} {Q : VK} (h : SqL K H p (L.map fun p => V.ref p.1)) (hL : ∀ p ∈ L, H p.1 = some (.tup (p.2.map V.int)) ∧ p.2 ≠ [])
    (q : ∀ (L' : List (Addr × List Int)) (p : Addr) (H1 : Hp), L'.Perm L → LexS true L' → H p = none → Kp N0 H H1 → H1 p = some (.lst (L'.map fun p => V.ref p.1)) → Q (.ref p) H1) : rSortTup K true [.ref p] [.bl true] H Q := by
  unfold rSortTup rSortTup0
  exact ⟨p, L, rfl, rfl, h, hL, fun L' p' h1 h2 h3 => q L' p' _ h1 h2 h3 (.new h3) upd_same⟩
/-- rows and their places as pairs -/
theorem rws_pairs {H : Hp} : ∀ {vs : List V} {rs : List (List Int)}, Rws H vs rs → ∃ L : List (Addr × List Int), vs = L.map (fun p => V.ref p.1) ∧ rs = L.map (·.2) ∧ ∀ p ∈ L, H p.1 = some (.tup (p.2.map V.int))
  | [], [], _ => ⟨[], rfl, rfl, fun _ h => by cases h⟩
  | v :: vs, r :: rs, ⟨⟨p, e, h⟩, t⟩ => by
    obtain ⟨L, e1, e2, e3⟩ := rws_pairs t
    refine ⟨(p, r) :: L, by rw [List.map_cons, ← e1, e], by rw [List.map_cons, ← e2], fun x hx => ?_⟩
    rcases List.mem_cons.mp hx with rfl | hx
    · exact h
    · exact e3 x hx
end Vf
/-! ### sorted of a list of tuples of ints: the only sorted list -/
namespace Vf
open PySem PySem.Spec PyProof.Rows L2
def lxl (a b : List Int) : Prop := HT.lexLt b a = false
theorem lxl_anti : ∀ {a b : List Int}, lxl a b → lxl b a → a = b
  | [], [], _, _ => rfl
  | [], _ :: _, _, h => by simp [lxl, HT.lexLt_nil_cons] at h
  | _ :: _, [], h, _ => by simp [lxl, HT.lexLt_nil_cons] at h
  | x :: a, y :: b, h1, h2 => by
    unfold lxl at h1 h2
    rw [HT.lexLt_cons] at h1 h2
    by_cases e : x = y
    · subst e
      rw [if_pos rfl] at h1 h2
      rw [lxl_anti h1 h2]
    · rw [if_neg (Ne.symm e)] at h1
      rw [if_neg e] at h2
      have := of_decide_eq_false h1
      have := of_decide_eq_false h2
      omega
theorem lxl_total : ∀ (a b : List Int), lxl a b ∨ lxl b a
  | [], b => by
    left
    unfold lxl
    cases b with
    | nil => rfl
    | cons y b => exact HT.lexLt_cons_nil y b
  | x :: a, [] => .inr (HT.lexLt_cons_nil x a)
  | x :: a, y :: b => by
    unfold lxl
    rw [HT.lexLt_cons, HT.lexLt_cons]
    by_cases e : x = y
    · subst e
      rw [if_pos rfl, if_pos rfl]
      exact lxl_total a b
    · rw [if_neg (Ne.symm e), if_neg e]
      rcases Int.lt_or_gt_of_ne e with h | h
      · left; exact decide_eq_false (by omega)
      · right; exact decide_eq_false (by omega)
theorem lxl_trans : ∀ {a b c : List Int}, lxl a b → lxl b c → lxl a c
  | [], b, c, _, _ => by
    unfold lxl
    cases c with
    | nil => rfl
    | cons y b => exact HT.lexLt_cons_nil y b
  | x :: a, [], c, h, _ => by simp [lxl, HT.lexLt_nil_cons] at h
  | x :: a, y :: b, [], _, h => by simp [lxl, HT.lexLt_nil_cons] at h
  | x :: a, y :: b, z :: c, h1, h2 => by
    unfold lxl at h1 h2 ⊢
    rw [HT.lexLt_cons] at h1 h2 ⊢
    by_cases e : x = y
    · subst e
      rw [if_pos rfl] at h1
      by_cases e2 : x = z
      · subst e2
        rw [if_pos rfl] at h2 ⊢
        exact lxl_trans h1 h2
      · rw [if_neg (Ne.symm e2)] at h2 ⊢
        exact h2
    · rw [if_neg (Ne.symm e)] at h1
      have h1 := of_decide_eq_false h1
      by_cases e2 : y = z
      · subst e2
        rw [if_neg (Ne.symm e)]
        exact decide_eq_false (by omega)
      · rw [if_neg (Ne.symm e2)] at h2
        have h2 := of_decide_eq_false h2
        rw [if_neg (by omega)]
        exact decide_eq_false (by omega)
def insX (x : List Int) : List (List Int) → List (List Int)
  | [] => [x]
  | y :: l => if HT.lexLt y x = true then y :: insX x l else x :: y :: l
def lsort (l : List (List Int)) : List (List Int) := l.foldr insX []
theorem insX_perm (x : List Int) : ∀ l, (insX x l).Perm (x :: l)
  | [] => .refl _
  | y :: l => by
    unfold insX
    split
    · exact ((insX_perm x l).cons y).trans (.swap x y l)
    · exact .refl _
theorem lsort_perm : ∀ l, (lsort l).Perm l
  | [] => .refl _
  | x :: l => (insX_perm x _).trans ((lsort_perm l).cons x)
theorem insX_pw (x : List Int) : ∀ l, l.Pairwise lxl → (insX x l).Pairwise lxl
  | [], _ => by simp [insX]
  | y :: l, h => by
    obtain ⟨h1, h2⟩ := List.pairwise_cons.mp h
    unfold insX
    split
    · next c =>
      have hyx : lxl y x := by
        rcases lxl_total y x with h | h
        · exact h
        · unfold lxl at h
          rw [c] at h
          cases h
      refine List.pairwise_cons.mpr ⟨fun z hz => ?_, insX_pw x l h2⟩
      rcases List.mem_cons.mp ((insX_perm x l).mem_iff.mp hz) with rfl | hz
      · exact hyx
      · exact h1 z hz
    · next c =>
      have hxy : lxl x y := by
        unfold lxl
        cases h : HT.lexLt y x with
        | true => exact absurd h c
        | false => rfl
      refine List.pairwise_cons.mpr ⟨fun z hz => ?_, h⟩
      rcases List.mem_cons.mp hz with rfl | hz
      · exact hxy
      · exact lxl_trans hxy (h1 z hz)
theorem lsort_pw : ∀ l, (lsort l).Pairwise lxl
  | [] => .nil
  | x :: l => insX_pw x _ (lsort_pw l)
theorem lsort_uniq {l l' : List (List Int)} (h : l'.Perm l) (p : l'.Pairwise lxl) : l' = lsort l :=
  (h.trans (lsort_perm l).symm).eq_of_pairwise (fun _ _ _ _ h1 h2 => lxl_anti h1 h2) p (lsort_pw l)
section
variable {X : Cx}
@[irreducible] def rSrtU (K : PySem.W.Frag) : List V → Hp → VK → Prop := fun vs H Q => rSortTup0 K false vs [] H Q
theorem cr_srtU : CallR X (.builtin "sorted") (rSrtU X.K) := by
  unfold rSrtU
  intro pins s σ H vs us Q I r h
  obtain ⟨a, L, rfl, _, hs, hL, q⟩ := h
  obtain rfl := Vals.ref1 r
  exact sortTup_run I hs hL (fun _ => rfl) (PyProof.Rows.args_sorted1 _) (fun _ => PyProof.Rows.args_list_sort _) q
theorem sortU {K : PySem.W.Frag} {H : Hp} {p : Addr} {ws : List V} {rs : List (List Int)} {us : List V} {Q : VK} (e : us = [.ref p]) (h : SqL K H p ws) (hr : Rws H ws rs) (hne : ∀ r ∈ rs, r ≠ [])
    (q : ∀ (l : Addr) (H1 : Hp) (ws' : List V), H l = none → Kp N0 H H1 → H1 l = some (.lst ws') → Rws H1 ws' (lsort rs) → ws'.length = ws.length → Q (.ref l) H1) : rSrtU K us H Q := by
  unfold rSrtU rSortTup0
  obtain ⟨L, rfl, rfl, hL⟩ := rws_pairs hr
  refine ⟨p, L, e, rfl, h, fun x hx => ⟨hL x hx, hne _ (List.mem_map.mpr ⟨x, hx, rfl⟩)⟩, fun L' l h1 h2 h3 => ?_⟩
  have k : Kp N0 H (upd H l (.lst (L'.map fun p => V.ref p.1))) := .new h3
  have e2 : L'.map (·.2) = lsort (L.map (·.2)) := by
    refine lsort_uniq (h1.map _) ?_
    rw [List.pairwise_map]
    exact h2
  refine q l _ _ h3 k upd_same ?_ (by rw [List.length_map, List.length_map, h1.length_eq])
  rw [← e2]
  refine Rws.of (by simp) fun i v r hv hr => ?_
  rw [List.getElem?_map] at hv hr
  cases hx : L'[i]? with
  | none => rw [hx] at hv; cases hv
  | some x =>
    rw [hx] at hv hr
    cases hv
    cases hr
    exact ⟨x.1, rfl, k.tup _ _ (hL x (h1.mem_iff.mp (List.mem_of_getElem? hx)))⟩
end
end Vf
/-! ### sorted of a set of tuples of ints, whatever their entries -/
namespace Vf
open PySem PySem.Spec PyProof.Rows L2
section
variable {P : Program} {w : World} {A : Around} {E : Value → Shared → Prop} {s : Shared}
theorem sorted_setU {a : Addr} {L : List (Addr × List Int)} {es : Array (Int × Value)} {ep : Nat} {t : SetTable} {Q : Value → Shared → Prop} (key : Value → List Int) (R : SetTR P w s.heap a L es ep t) (quiet : A.handled = none)
    (keys : ∀ p ∈ L, ItupV s.heap (.ref p.1) (key (.ref p.1)) ∧ key (.ref p.1) ≠ [])
    (q : ∀ (s' : Shared) (b : Addr) (out : List Value) (c : Nat), (∀ x o, s.heap.get? x = some o → s'.heap.get? x = some o) → s'.gens = s.gens → s'.os = s.os → s.heap.objs.size ≤ b → s'.heap.get? b = some (seqObj "list" out.toArray c) →
      out.Perm (L.map fun p => Value.ref p.1) → (out.Pairwise fun x y => HT.lexLt (key y) (key x) = false) → Q (.ref b) s') : wpAny (model P w) A (call (.builtin "sorted") [.ref a]) Q E s := by
  have ⟨o, got, whole, dat⟩ := R.ob
  have few64 := R.few
  have small : es.size < scanBound := by
    have := R.size
    unfold scanBound
    omega
  refine Calls.call_function_entry kind_sorted plain_sorted entry_sorted (args_sorted1 _) ?_
  unfold Builtin.«sorted»
  refine wpAny_bind (m := checkCount "sorted" 1 1 _) (wpAny_pure (wpAny_bind (collect_set (A := A.in1) quiet ⟨o, got, whole.1, dat⟩ R.fits small R.tab.ris R.led ?_)))
  intro s1 vs old more gens os pm
  have refs : vs.Perm (L.map fun p => Value.ref p.1) := by
    rw [R.rows, rowsOf, List.map_map] at pm
    exact pm
  have few : vs.length ≤ sizeLine := by rw [refs.length_eq, List.length_map, sizeLine_eq]; omega
  have own : (s1.heap.push (seqObj "list" vs.toArray 0)).get? s1.heap.objs.size = some (seqObj "list" vs.toArray 0) := Heap.get?_push_size _ rfl
  have told (v : Value) (m : v ∈ vs) : ItupV (s1.heap.push (seqObj "list" vs.toArray 0)) v (key v) ∧ key v ≠ [] := by
    obtain ⟨p, hp, rfl⟩ := List.mem_map.mp (refs.mem_iff.mp m)
    exact ⟨(keys p hp).1.keeps fun b o e _ => Heap.get?_push_of_some _ (old b o e), (keys p hp).2⟩
  have noTup (o : Obj) (e : (s1.heap.push (seqObj "list" vs.toArray 0)).get? s1.heap.objs.size = some o) : o.cls ≠ .type "tuple" := by
    cases own.symm.trans e
    intro c
    exact absurd (Value.type.inj c) (by decide)
  refine wpAny_bind (wpAny_newList ?_ few)
  refine wpAny_bind (wpAny_holding (wpAny_call_entry slot_list_sort ⟨_, own, rfl⟩ entry_list_sort ?_ (args_list_sort _)))
  show wpAny _ _ (Builtin.«list.sort» ⟨[.ref s1.heap.objs.size], [(Str.ofString "reverse", .bool false)]⟩) _ _ { s1 with heap := s1.heap.push (seqObj "list" vs.toArray 0) }
  refine SrtR.list_sort_ordR (NtL.swo_lexL key) own few (fun two => itup_sortable (s := { s1 with heap := s1.heap.push (seqObj "list" vs.toArray 0) }) (by omega) told noTup) fun out up st => ⟨_, rfl, wpAny_pure ⟨_, rfl, ?_⟩⟩
  obtain ⟨c, at_⟩ := sortedHeap_at (vs := vs) (out := out.toArray) own
  refine q _ s1.heap.objs.size out c (fun x o e => ?_) gens os more at_ (st.perm.trans refs) up
  have low : x < s1.heap.objs.size := Heap.lt_size (old x o e)
  show (sortedHeap (s1.heap.push (seqObj "list" vs.toArray 0)) s1.heap.objs.size vs out.toArray).get? x = some o
  rw [sortedHeap_old (Nat.ne_of_lt low) (by rw [size_push']; exact Nat.lt_succ_of_lt low)]
  exact Heap.get?_push_of_some _ (old x o e)
end
section
variable {X : Cx}
@[irreducible] def rSrtSet (K : PySem.W.Frag) (P : Program) (w : World) : List V → Hp → VK → Prop := fun vs H Q => ∃ (a : Addr) (L : List (Addr × List Int)), vs = [V.ref a] ∧ H a = some (SetTO P w a L) ∧ (∀ p ∈ L, H p.1 = some (.tup (p.2.map V.int)) ∧ p.2 ≠ []) ∧
  ∀ (L' : List (Addr × List Int)) (p : Addr), L'.Perm L → (L'.map (·.2)).Nodup → (L'.map (·.2)).Pairwise lxl → H p = none → Q (.ref p) (upd H p (.lst (L'.map fun q => V.ref q.1)))
theorem cr_srtSet (hc : X.calm = true) : CallR X (.builtin "sorted") (rSrtSet X.K X.prog X.w) := by
  unfold rSrtSet
  rintro pins s σ H _ _ Q I rel ⟨a, L, rfl, isS, rows, q⟩
  rw [Vals.ref1 rel]
  have cont (p) (hp : p ∈ L) : contA H p.1 = p.2 := contA_of (rows p hp).1
  obtain ⟨es, ep, t, R⟩ := (I.hok a _ isS).1.full fun p hp => I.isT (SqT.of (rows p hp).1)
  have keys (p) (hp : p ∈ L) : ItupV s.heap (.ref p.1) (contA H (adO (.ref p.1))) ∧ contA H (adO (.ref p.1)) ≠ [] := by
    show ItupV s.heap (.ref p.1) (contA H p.1) ∧ contA H p.1 ≠ []
    rw [cont p hp]
    obtain ⟨_, vs, rv, o, ho, c, n, d⟩ := I.hok _ _ (rows p hp).1
    exact ⟨⟨p.1, o, vs, n, rfl, ho, c, d, rv⟩, (rows p hp).2⟩
  refine sorted_setU (fun v => contA H (adO v)) R (I.ok.hd hc) keys fun s' b out c old gens os above at_ pm up => ?_
  have back : out.map (fun v => (adO v, contA H (adO v))) |>.Perm L := by
    have := pm.map fun v => (adO v, contA H (adO v))
    rwa [List.map_map, show L.map ((fun v => (adO v, contA H (adO v))) ∘ fun p => Value.ref p.1) = L from (List.map_congr_left fun p hp => show (p.1, contA H p.1) = id p by rw [cont p hp]; rfl).trans (List.map_id L)] at this
  have is_ : (out.map fun v => (adO v, contA H (adO v))).map (fun q => Value.ref q.1) = out := by
    rw [List.map_map]
    refine (List.map_congr_left fun v m => ?_).trans (List.map_id out)
    obtain ⟨p, _, rfl⟩ := List.mem_map.mp (pm.mem_iff.mp m)
    rfl
  generalize out.map (fun v => (adO v, contA H (adO v))) = L' at back is_
  have new : H b = none := I.hok.fresh above
  have vals : Vals (L'.map fun q => V.ref q.1) out := is_ ▸ vals_of_refs L'
  have fits : (L'.map fun q => V.ref q.1).length ≤ sizeLine := by
    rw [List.length_map, back.length_eq, sizeLine_eq]
    have := R.few
    omega
  obtain ⟨h2, g2, d2, t2, o2⟩ := s'
  obtain rfl : g2 = s.gens := gens
  obtain rfl : o2 = s.os := os
  have ok : ObjOk X.prog X.w (upd H b (.lst (L'.map fun q => V.ref q.1))) h2 b (.lst (L'.map fun q => V.ref q.1)) := ⟨fits, out, c, vals, at_⟩
  have J := I.call (ch := []) (g' := s.gens) (t' := t2) (d' := d2) (Un.laid old above new) (I.hok.laid old above ok) I.bare (fun _ z => nomatch z)
  refine ⟨.ref b, _, J, rfl, q L' b back ((back.map (·.2)).nodup_iff.mpr R.nd) ?_ new⟩
  rw [← is_, List.pairwise_map] at up
  refine List.pairwise_map.mpr (up.imp_of_mem fun {x y} hx hy lt => ?_)
  have ex := cont x (back.mem_iff.mp hx)
  have ey := cont y (back.mem_iff.mp hy)
  show HT.lexLt y.2 x.2 = false
  rw [← ex, ← ey]
  exact lt
/-- by rows: what was told of the set -/
theorem srtSet {K : PySem.W.Frag} {P : Program} {w : World} {H : Hp} {a : Addr} {L : List (Addr × List Int)} {us : List V} {Q : VK} (e : us = [.ref a]) (h : H a = some (SetTO P w a L)) (rows : ∀ p ∈ L, H p.1 = some (.tup (p.2.map V.int)) ∧ p.2 ≠ [])
    (q : ∀ (l : Addr) (H1 : Hp) (ws : List V) (rs : List (List Int)), H l = none → Kp N0 H H1 → H1 l = some (.lst ws) → Rws H1 ws rs → rs.Nodup → rs.Pairwise lxl → (∀ r, r ∈ rs ↔ r ∈ L.map (·.2)) → Q (.ref l) H1) : rSrtSet K P w us H Q := by
  unfold rSrtSet
  refine ⟨a, L, e, h, rows, fun L' l pm nd up new => ?_⟩
  have k : Kp N0 H (upd H l (.lst (L'.map fun p => V.ref p.1))) := .new new
  refine q l _ _ (L'.map (·.2)) new k upd_same (Rws.of (by simp) fun i v r hv hr => ?_) nd up fun r => (pm.map (·.2)).mem_iff
  rw [List.getElem?_map] at hv hr
  obtain ⟨x, hx, rfl⟩ := Option.map_eq_some_iff.mp hv
  obtain ⟨y, hy, rfl⟩ := Option.map_eq_some_iff.mp hr
  obtain rfl : x = y := Option.some.inj (hx.symm.trans hy)
  exact ⟨x.1, rfl, k.tup _ _ (rows x (pm.mem_iff.mp (List.mem_of_getElem? hx))).1⟩
/-- two sorted lists without doubles that hold the same rows are one -/
theorem same_rows {xs ys : List (List Int)} (n1 : xs.Nodup) (n2 : ys.Nodup) (p1 : xs.Pairwise lxl) (p2 : ys.Pairwise lxl) (h : ∀ r, r ∈ xs ↔ r ∈ ys) : xs = ys :=
  ((List.perm_ext_iff_of_nodup n1 n2).mpr h).eq_of_pairwise (fun _ _ _ _ a b => lxl_anti a b) p1 p2
end
end Vf
/-! ### set of a list of rows; a row in a tuple of rows; != of rows and what may be other rows -/
namespace Vf
open PySem PySem.Spec PyProof.Rows L2
theorem eqv_di : ∀ a b : List Int, PyData.eqvAll (di a) (di b) = decide (a = b)
  | [], [] => by simp [di, PyData.eqvAll]
  | [], _ :: _ => by simp [di, PyData.eqvAll]
  | _ :: _, [] => by simp [di, PyData.eqvAll]
  | x :: a, y :: b => by
    have h := eqv_di a b
    simp only [di, List.map_cons, PyData.eqvAll, PyData.eqv] at h ⊢
    rw [h]
    by_cases e : x = y <;> by_cases e2 : a = b <;> simp [e, e2]
theorem any_rows (r : List Int) (rs : List (List Int)) : ((drs rs).any fun z => PyData.eqv z (.tuple (di r))) = decide (r ∈ rs) := by
  induction rs with
  | nil => simp [drs]
  | cons s rs ih =>
    have h : PyData.eqv (.tuple (di s)) (.tuple (di r)) = decide (s = r) := by rw [PyData.eqv, eqv_di]
    show (PyData.eqv (.tuple (di s)) (.tuple (di r)) || (drs rs).any fun z => PyData.eqv z (.tuple (di r))) = _
    rw [h, ih]
    by_cases e : s = r
    · simp [e]
    · simp [e, Ne.symm e]
section
variable {X : Cx}
@[irreducible] def rRowIn (K : PySem.W.Frag) : R2 := fun x y H Q => ∃ (a b : Addr) (r : List Int) (ws : List V) (rs : List (List Int)), x = .ref a ∧ y = .ref b ∧ H a = some (.tup (r.map V.int)) ∧ SqT K H b ws ∧ RwK K H ws rs ∧ Q (.bl (decide (r ∈ rs))) H
theorem op_rowIn (hu : X.A.units + 64 < cLine) : OpR X (compareOp .In) (rRowIn X.K) := by
  unfold rRowIn
  rintro pins s σ H _ _ v u Q I rx ry ⟨a, b, r, ws, rs, rfl, rfl, ha, hb, rows, q⟩
  obtain ⟨_, one⟩ := Dp.reads I (.tuple (di r)) _ v (.tup (SqT.of ha) (dpAll_ints r)) rx
  obtain ⟨_, all⟩ := Dp.reads I (.tuple (drs rs)) _ u (.tup hb rows.dp) ry
  have deep := depth_drs rs
  have lay : PyData.canLay0 (.tuple (di r)) = true := SeqAt.canLay_of_shaped (shaped_row r)
  refine SeqAt.in_tuple_reads all one (canLay_drs rs) lay (by omega) ⟨.bl _, H, I, rfl, ?_⟩
  rw [any_rows]
  exact q
@[irreducible] def rSetRows (K : PySem.W.Frag) (P : Program) (w : World) : List V → Hp → VK → Prop := rSetOfT K P w
theorem cr_setTup (hc : X.calm = true) (hu : X.A.units + 64 < cLine) : CallR X (.type "set") (rSetRows X.K X.prog X.w) := by
  unfold rSetRows
  exact cr_setOfT hc hu
end
section
variable {K : PySem.W.Frag} {P : Program} {w : World} {H : Hp} {a b p : Addr} {us ws : List V} {rs ss : List (List Int)} {r : List Int} {Q : VK}
theorem rowIn (h1 : H a = some (.tup (r.map V.int))) (h2 : SqT K H b ws) (h3 : RwK K H ws rs) (q : Q (.bl (decide (r ∈ rs))) H) : rRowIn K (.ref a) (.ref b) H Q := by
  unfold rRowIn
  exact ⟨a, b, r, ws, rs, rfl, rfl, h1, h2, h3, q⟩
theorem setRows (e : us = [.ref p]) (h : SqL K H p ws) (rows : Rws H ws rs) (few : ws.length < 64)
    (q : ∀ (l : Addr) (L : List (Addr × List Int)) (H1 : Hp), Kp N0 H H1 → H1 l = some (SetTO P w l L) → (∀ x ∈ L, H1 x.1 = some (.tup (x.2.map V.int)) ∧ x.2 ∈ rs) → (∀ r ∈ rs, r ∈ L.map (·.2)) → Q (.ref l) H1) : rSetRows K P w us H Q := by
  unfold rSetRows rSetOfT
  obtain ⟨L, rfl, rfl, hL⟩ := rws_pairs rows
  refine ⟨p, L, e, h, fun x hx => SqT.of (hL x hx), by simpa using few, fun l M new sub all => ?_⟩
  have k : Kp N0 H (upd H l (SetTO P w l M)) := .new new
  refine q l M _ k upd_same (fun x hx => ⟨k.tup _ _ (hL x (sub x hx)), List.mem_map.mpr ⟨x, sub x hx, rfl⟩⟩) fun r hr => ?_
  obtain ⟨x, hx, rfl⟩ := List.mem_map.mp hr
  exact all x hx
/-- rows of two lists, by what they hold -/
theorem neRowsL (h1 : SqL K H a us) (h2 : SqL K H b ws) (r1 : RwK K H us rs) (r2 : RwK K H ws rs) (q : Q (.bl false) H) : rNeI K (.ref a) (.ref b) H Q := by
  unfold rNeI
  refine ⟨_, _, .lst h1 r1.dp, .lst h2 r2.dp, shaped_rows rs, shaped_rows rs, ?_⟩
  rw [SeqAt.eqv_refl _ (SeqAt.canLay_of_shaped (shaped_rows rs))]
  exact q
theorem neRowsTu (h1 : SqT K H a us) (h2 : SqT K H b ws) (r1 : RwK K H us rs) (r2 : RwK K H ws rs) (q : Q (.bl false) H) : rNeI K (.ref a) (.ref b) H Q := by
  unfold rNeI
  refine ⟨_, _, .tup h1 r1.dp, .tup h2 r2.dp, shaped_rowsT rs, shaped_rowsT rs, ?_⟩
  rw [SeqAt.eqv_refl _ (SeqAt.canLay_of_shaped (shaped_rowsT rs))]
  exact q
end
end Vf
/-! ### tables of the module: tuples of rows -/
namespace Vf
open PySem PySem.Spec PyProof.Rows L2
def KRow (K : PySem.W.Frag) : List V → List (List Int) → Prop
  | [], [] => True
  | v :: vs, r :: rs => (∃ b, v = .ref b ∧ KT K b (r.map V.int)) ∧ KRow K vs rs
  | _, _ => False
def KTb (K : PySem.W.Frag) (a : Addr) (rows : List (List Int)) : Prop := ∃ vs, KT K a vs ∧ KRow K vs rows
theorem KRow.rw {K : PySem.W.Frag} {H : Hp} : ∀ {vs : List V} {rs : List (List Int)}, KRow K vs rs → RwK K H vs rs
  | [], [], _ => trivial
  | _ :: _, _ :: _, ⟨⟨b, e, h⟩, t⟩ => ⟨⟨b, e, h.tf.sq⟩, KRow.rw t⟩
/-! a look at the written part that tells such a table -/
def itsOf (o : Obj) : Option (Array Value) := match o.cls, o.dict, o.data with
  | .type s, none, .seq its _ => if s = "tuple" then some its else none
  | _, _, _ => none
def intsLook : List Value → List Int → Bool
  | [], [] => true
  | .int i _ :: vs, j :: js => decide (i = j) && intsLook vs js
  | _, _ => false
def rowLook (o : Option Obj) (r : List Int) : Bool := match o with
  | some o => match itsOf o with
    | some its => decide (its.size ≤ 1000) && intsLook its.toList r
    | none => false
  | none => false
def rowsLook (K : PySem.W.Frag) : List Value → List (List Int) → Bool
  | [], [] => true
  | .ref b :: vs, r :: rs => rowLook (K.lookup b) r && rowsLook K vs rs
  | _, _ => false
def tabLook (K : PySem.W.Frag) (p : Addr) (rows : List (List Int)) : Bool := match K.lookup p with
  | some o => match itsOf o with
    | some its => decide (its.size ≤ 1000) && rowsLook K its.toList rows
    | none => false
  | none => false
theorem itsOf_some {o : Obj} {its : Array Value} (h : itsOf o = some its) : o.cls = .type "tuple" ∧ o.dict = none ∧ ∃ n, o.data = .seq its n := by
  unfold itsOf at h
  split at h
  · next s its' n e1 e2 e3 =>
    split at h
    · next e =>
      cases h
      exact ⟨by rw [e1, e], e2, n, e3⟩
    · cases h
  · cases h
theorem intsLook_vals : ∀ {vs : List Value} {r : List Int}, intsLook vs r = true → Vals (r.map V.int) vs
  | [], [], _ => .nil
  | .int i t :: vs, j :: js, h => by
    unfold intsLook at h
    obtain ⟨h1, h2⟩ := Bool.and_eq_true_iff.mp h
    obtain rfl := of_decide_eq_true h1
    exact .cons ⟨t, rfl⟩ (intsLook_vals h2)
theorem rowLook_kt {K : PySem.W.Frag} {b : Addr} {r : List Int} (h : rowLook (K.lookup b) r = true) : KT K b (r.map V.int) := by
  unfold rowLook at h
  split at h
  · next o e =>
    split at h
    · next its e2 =>
      obtain ⟨h1, h2⟩ := Bool.and_eq_true_iff.mp h
      obtain ⟨c, d, n, e3⟩ := itsOf_some e2
      exact ⟨o, its, n, e, c, d, e3, Nat.le_trans (of_decide_eq_true h1) (by decide), intsLook_vals h2⟩
    · cases h
  · cases h
theorem rowsLook_rows {K : PySem.W.Frag} : ∀ {us : List Value} {rs : List (List Int)}, rowsLook K us rs = true → ∃ vs, Vals vs us ∧ KRow K vs rs
  | [], [], _ => ⟨[], .nil, trivial⟩
  | .ref b :: us, r :: rs, h => by
    unfold rowsLook at h
    obtain ⟨h1, h2⟩ := Bool.and_eq_true_iff.mp h
    obtain ⟨vs, v, t⟩ := rowsLook_rows h2
    exact ⟨.ref b :: vs, .cons rfl v, ⟨b, rfl, rowLook_kt h1⟩, t⟩
theorem tabLook_tab {K : PySem.W.Frag} {p : Addr} {rows : List (List Int)} (h : tabLook K p rows = true) : KTb K p rows := by
  unfold tabLook at h
  split at h
  · next o e =>
    split at h
    · next its e2 =>
      obtain ⟨h1, h2⟩ := Bool.and_eq_true_iff.mp h
      obtain ⟨c, d, n, e3⟩ := itsOf_some e2
      obtain ⟨vs, v, t⟩ := rowsLook_rows h2
      exact ⟨vs, ⟨o, its, n, e, c, d, e3, Nat.le_trans (of_decide_eq_true h1) (by decide), v⟩, t⟩
    · cases h
  · cases h
theorem ktb_mk {K : PySem.W.Frag} {h : Heap} {mg : Str → Option Value} (X : K.In h) (G : h.Ns mainGlobals mg) {x : Str} {p : Addr} {rows : List (List Int)} (a : PySem.W.nsIn K mainGlobals x = some (some (.ref p))) (c : tabLook K p rows = true) :
    ∃ a : Addr, (∃ u, mg x = some u ∧ RelV (.ref a) u) ∧ KTb K a rows := ⟨p, cref_mk X G a, tabLook_tab c⟩
/-- rows of eight points, each told by one number -/
def rowOf (low : Int) (k : Nat) : List Int := (List.range 9).map fun i => ((k / 8 ^ (8 - i) % 8 : Nat) : Int) + low
end Vf
namespace Vf
/-- the exceptional rows of eight points -/
def exc8 : List (List Int) := [
  17076809, 18911817, 19141193, 19169865, 19173449, 19173897, 19173953, 19173960, 35951186, 35951242, 35951249, 35951690,
  35951697, 35951753, 35955274, 35955281, 35955337, 35955785, 35983946, 35983953, 35984009, 35984457, 35988041, 36213322,
  36213329, 36213385, 36213833, 36217417, 36246089, 38048330, 38048337, 38048393, 38048841, 38052425, 38081097, 38310473,
  52733074, 52761746, 52765330, 52765778, 52765834, 52765841, 52991122, 52994706, 52995154, 52995210, 52995217, 53023378,
  53023826, 53023882, 53023889, 53027410, 53027466, 53027473, 53027914, 53027921, 53027977, 54826130, 54829714, 54830162,
  54830218, 54830225, 54858386, 54858834, 54858890, 54858897, 54862418, 54862474, 54862481, 54862922, 54862929, 54862985,
  55087762, 55088210, 55088266, 55088273, 55091794, 55091850, 55091857, 55092298, 55092305, 55092361, 55120466, 55120522,
  55120529, 55120970, 55120977, 55121033, 55124554, 55124561, 55124617, 55125065, 69805203, 69805210, 69805266, 69805714,
  69809298, 69837970, 70067346, 71640211, 71640218, 71640274, 71640722, 71644306, 71672978, 71869587, 71869594, 71869650,
  71870098, 71873682, 71898259, 71898266, 71898322, 71898770, 71901843, 71901850, 71901906, 71902291, 71902298, 71902347,
  71902361, 71902410, 71902417, 71902802, 71902858, 71902865, 71905938, 71906386, 71906442, 71906449, 71931026, 71934610,
  71935058, 71935114, 71935121, 72131730, 72160402, 72163986, 72164434, 72164490, 72164497, 73737362, 73966738, 73995410,
  73998994, 73999442, 73999498, 73999505, 88679643, 88680091, 88680147, 88680154, 88683675, 88683731, 88683738, 88684179,
  88684186, 88684242, 88712347, 88712403, 88712410, 88712851, 88712858, 88712914, 88716435, 88716442, 88716498, 88716946,
  88941723, 88941779, 88941786, 88942227, 88942234, 88942290, 88945811, 88945818, 88945874, 88946322, 88974483, 88974490,
  88974546, 88974994, 88978578, 90776731, 90776787, 90776794, 90777235, 90777242, 90777298, 90780819, 90780826, 90780882,
  90781330, 90809491, 90809498, 90809554, 90810002, 90813586, 91038867, 91038874, 91038930, 91039378, 91042962, 91071634,
  105494235, 105723611, 105752283, 105755867, 105756315, 105756371, 105756378, 107558619, 107587291, 107590875, 107591323, 107591379,
  107591386, 107816667, 107820251, 107820699, 107820755, 107820762, 107848923, 107849371, 107849427, 107849434, 107852955, 107853011,
  107853018, 107853459, 107853466, 107853522, 124630748, 124630755, 124630811, 124631259, 124634843, 124663515, 124892891, 126727899].map (rowOf (-1))
end Vf
/-! ### == and != of tuples of ints, told -/
namespace Vf
open PySem PySem.Spec PyProof.Rows L2
theorem eqvAllI : ∀ a b : List Int, PyData.eqvAll (di a) (di b) = decide (a = b)
  | [], [] => by simp [di, PyData.eqvAll]
  | [], _ :: _ => by simp [di, PyData.eqvAll]
  | _ :: _, [] => by simp [di, PyData.eqvAll]
  | x :: a, y :: b => by
    have h := eqvAllI a b
    simp only [di, List.map_cons, PyData.eqvAll, PyData.eqv] at h ⊢
    rw [h]
    by_cases e : x = y <;> by_cases e2 : a = b <;> simp [e, e2]
section
variable {K : PySem.W.Frag} {H : Hp} {a b : Addr} {ns ms : List Int} {Q : VK}
theorem eqT2 (h1 : SqT K H a (ns.map V.int)) (h2 : SqT K H b (ms.map V.int)) (q : Q (.bl (decide (ns = ms))) H) : rEqI K (.ref a) (.ref b) H Q := by
  unfold rEqI
  refine ⟨_, _, .tup h1 (dpAll_ints ns), .tup h2 (dpAll_ints ms), shaped_row ns, shaped_row ms, ?_⟩
  rw [show PyData.eqv (.tuple (di ns)) (.tuple (di ms)) = decide (ns = ms) by rw [PyData.eqv, eqvAllI]]
  exact q
theorem neT2 (h1 : SqT K H a (ns.map V.int)) (h2 : SqT K H b (ms.map V.int)) (q : Q (.bl (!decide (ns = ms))) H) : rNeI K (.ref a) (.ref b) H Q := by
  unfold rNeI
  refine ⟨_, _, .tup h1 (dpAll_ints ns), .tup h2 (dpAll_ints ms), shaped_row ns, shaped_row ms, ?_⟩
  rw [show PyData.eqv (.tuple (di ns)) (.tuple (di ms)) = decide (ns = ms) by rw [PyData.eqv, eqvAllI]]
  exact q
end
end Vf
namespace K26
open PySem PySem.Spec PyProof.Rows L2 Vf
def TL : Int := 100000000000000000000000000000000000000000000000000000000000000000000000000000000000000000000000000000000000000000000000000000000000000000000000000000000000000000000000000000000000000000000000000000000
def topS (i : Nat) : Stmt := PySem.Challenge.pw_timesthrough_k26_whole_all_exceptional_r.main.body.getD i (.Pass ⟨0, 0, 0, 0⟩)
abbrev s_is_short : Stmt := topS 2
theorem sc_is_short : FnScope ["number"] ["number"] (C8.fnScope s_is_short) := C8.fnScope_by (by decide +kernel)
abbrev s_are_short : Stmt := topS 3
theorem sc_are_short : FnScope ["numbers", "number"] ["numbers"] (C8.fnScope s_are_short) := C8.fnScope_by (by decide +kernel)
abbrev s_is_integer : Stmt := topS 4
theorem sc_is_integer : FnScope ["value"] ["value"] (C8.fnScope s_is_integer) := C8.fnScope_by (by decide +kernel)
abbrev s_is_from_to : Stmt := topS 5
theorem sc_is_from_to : FnScope ["value", "least", "most"] ["value", "least", "most"] (C8.fnScope s_is_from_to) := C8.fnScope_by (by decide +kernel)
abbrev s_is_row : Stmt := topS 18
theorem sc_is_row : FnScope ["value", "entry"] ["value"] (C8.fnScope s_is_row) := C8.fnScope_by (by decide +kernel)
abbrev s_check_many : Stmt := topS 19
theorem sc_check_many : FnScope ["n", "most"] ["n", "most"] (C8.fnScope s_check_many) := C8.fnScope_by (by decide +kernel)
abbrev s_check_row : Stmt := topS 20
theorem sc_check_row : FnScope ["row"] ["row"] (C8.fnScope s_check_row) := C8.fnScope_by (by decide +kernel)
abbrev s_check_few : Stmt := topS 21
theorem sc_check_few : FnScope ["row", "most"] ["row", "most"] (C8.fnScope s_check_few) := C8.fnScope_by (by decide +kernel)
abbrev s_short_row : Stmt := topS 22
theorem sc_short_row : FnScope ["entries"] ["entries"] (C8.fnScope s_short_row) := C8.fnScope_by (by decide +kernel)
abbrev s_product_of : Stmt := topS 23
theorem sc_product_of : FnScope ["one", "other", "left", "right"] ["one", "other"] (C8.fnScope s_product_of) := C8.fnScope_by (by decide +kernel)
abbrev s_product_with_cubic : Stmt := topS 24
theorem sc_product_with_cubic : FnScope ["row"] ["row"] (C8.fnScope s_product_with_cubic) := C8.fnScope_by (by decide +kernel)
abbrev s_moved : Stmt := topS 27
theorem sc_moved : FnScope ["row", "word"] ["row", "word"] (C8.fnScope s_moved) := C8.fnScope_by (by decide +kernel)
abbrev s_check_word : Stmt := topS 28
theorem sc_check_word : FnScope ["n", "word"] ["n", "word"] (C8.fnScope s_check_word) := C8.fnScope_by (by decide +kernel)
abbrev s_is_move : Stmt := topS 29
theorem sc_is_move : FnScope ["n", "value", "name", "index", "low", "high"] ["n", "value"] (C8.fnScope s_is_move) := C8.fnScope_by (by decide +kernel)
abbrev s_do_move : Stmt := topS 30
theorem sc_do_move : FnScope ["entries", "move", "i", "j", "k", "change", "at"] ["entries", "move"] (C8.fnScope s_do_move) := C8.fnScope_by (by decide +kernel)
abbrev s_moved_far : Stmt := topS 31
theorem sc_moved_far : FnScope ["row", "word", "entries", "move"] ["row", "word"] (C8.fnScope s_moved_far) := C8.fnScope_by (by decide +kernel)
abbrev s_is_word : Stmt := topS 32
theorem sc_is_word : FnScope ["n", "value", "move"] ["n", "value"] (C8.fnScope s_is_word) := C8.fnScope_by (by decide +kernel)
abbrev s_is_exceptional : Stmt := topS 35
theorem sc_is_exceptional : FnScope ["row"] ["row"] (C8.fnScope s_is_exceptional) := C8.fnScope_by (by decide +kernel)
abbrev s_exceptional_rows : Stmt := topS 36
theorem sc_exceptional_rows : FnScope ["n", "behind", "row"] ["n"] (C8.fnScope s_exceptional_rows) := C8.fnScope_by (by decide +kernel)
abbrev s_l_dice : Stmt := topS 38
theorem sc_l_dice : FnScope ["_law_script", "_law_at", "_law_cell", "_law_great", "_law_left", "_law_mixed_here"] ["_law_script", "_law_at"] (C8.fnScope s_l_dice) := C8.fnScope_by (by decide +kernel)
abbrev s_l_roll : Stmt := topS 39
theorem sc_l_roll : FnScope ["_law_dice_here", "_law_total", "_law_size", "_law_drawn", "_law_one", "_law_two"] ["_law_dice_here", "_law_total"] (C8.fnScope s_l_roll) := C8.fnScope_by (by decide +kernel)
abbrev s_l_mixed : Stmt := topS 40
theorem sc_l_mixed : FnScope ["_law_dice_here", "_law_items", "_law_left", "_law_found"] ["_law_dice_here", "_law_items"] (C8.fnScope s_l_mixed) := C8.fnScope_by (by decide +kernel)
abbrev s_l_point_row : Stmt := topS 41
theorem sc_l_point_row : FnScope ["_law_n", "_law_at", "_law_place"] ["_law_n", "_law_at"] (C8.fnScope s_l_point_row) := C8.fnScope_by (by decide +kernel)
abbrev s_l_sum : Stmt := topS 42
theorem sc_l_sum : FnScope ["_law_rows", "_law_numbers", "_law_found", "_law_row", "_law_number", "_law_one", "_law_other"] ["_law_rows", "_law_numbers"] (C8.fnScope s_l_sum) := C8.fnScope_by (by decide +kernel)
abbrev s_l_word : Stmt := topS 43
theorem sc_l_word : FnScope ["_law_dice_here", "_law_n", "_law_most", "_law_found", "_law_turn", "_law_places", "_law_way"] ["_law_dice_here", "_law_n", "_law_most"] (C8.fnScope s_l_word) := C8.fnScope_by (by decide +kernel)
abbrev s_l_choices : Stmt := topS 44
theorem sc_l_choices : FnScope ["_law_items", "_law_size", "_law_found", "_law_item", "_law_more", "_law_one"] ["_law_items", "_law_size"] (C8.fnScope s_l_choices) := C8.fnScope_by (by decide +kernel)
abbrev s_l_exceptional : Stmt := topS 45
theorem sc_l_exceptional : FnScope ["_law_n", "_law_at", "_law_found", "_law_kinds", "_law_degree", "_law_plain", "_law_other", "_law_size", "_law_room", "_law_chosen", "_law_some", "_law_numbers"] ["_law_n"] (C8.fnScope s_l_exceptional) := C8.fnScope_by (by decide +kernel)
abbrev s_l_searched : Stmt := topS 46
theorem sc_l_searched : FnScope ["_law_n", "_law_degree", "_law_found", "_law_waiting", "_law_numbers", "_law_total", "_law_squares", "_law_left", "_law_one"] ["_law_n", "_law_degree"] (C8.fnScope s_l_searched) := C8.fnScope_by (by decide +kernel)
abbrev s_l_falling : Stmt := topS 47
theorem sc_l_falling : FnScope ["_law_row"] ["_law_row"] (C8.fnScope s_l_falling) := C8.fnScope_by (by decide +kernel)
abbrev s_law : Stmt := topS 48
theorem sc_law : FnScope ["_law_script", "_law_at", "_law_dice_here", "_law_n", "_law_rows", "_law_degree", "_law_row", "_law_some", "_law_word_here", "_law_spoilt", "_law_place"] ["_law_script"] (C8.fnScope s_law) := C8.fnScope_by (by decide +kernel)
structure Txt (K : PySem.W.Frag) (mg : Str → Option Value) : Prop where
  b_abs : mg "abs" = none
  b_all : mg "all" = none
  b_bool : mg "bool" = none
  b_int : mg "int" = none
  b_isinstance : mg "isinstance" = none
  b_len : mg "len" = none
  b_list : mg "list" = none
  b_max : mg "max" = none
  b_min : mg "min" = none
  b_range : mg "range" = none
  b_set : mg "set" = none
  b_sorted : mg "sorted" = none
  b_sum : mg "sum" = none
  b_tuple : mg "tuple" = none
  b_zip : mg "zip" = none
  c_FINITE_POINTS : ∃ u, mg "FINITE_POINTS" = some u ∧ RelV (.int 8) u
  c_LEAST_POINTS : ∃ u, mg "LEAST_POINTS" = some u ∧ RelV (.int 3) u
  c_MAX_WORD : ∃ u, mg "MAX_WORD" = some u ∧ RelV (.int 2000) u
  c_MOST_POINTS : ∃ u, mg "MOST_POINTS" = some u ∧ RelV (.int 16) u
  c_TOO_LONG : ∃ u, mg "_TOO_LONG" = some u ∧ RelV (.int TL) u
  k_EXCEPTIONAL : ∃ a : Addr, (∃ u, mg "EXCEPTIONAL" = some u ∧ RelV (.ref a) u) ∧ KTb K a exc8
end K26
namespace K26
open PySem PySem.Spec PyProof.Rows L2 Vf
section
variable {P : Program} {w : World} {K : PySem.W.Frag} {mg : Str → Option Value} {base : Heap}
/-! ### rows of ints, their products -/
def Sh (x : Int) : Prop := -TL < x ∧ x < TL
def Row (ns : List Int) : Prop := 4 ≤ ns.length ∧ ns.length ≤ 17 ∧ ∀ x ∈ ns, Sh x
theorem TL_lt : TL.natAbs < 2 ^ 700 := by decide +kernel
theorem Sh.lt {x : Int} (h : Sh x) : x.natAbs < 2 ^ 700 := by
  have := TL_lt
  obtain ⟨a, b⟩ := h
  omega
theorem Sh.le {x : Int} (h : Sh x) : x.natAbs ≤ TL.natAbs := by
  obtain ⟨a, b⟩ := h
  omega
theorem TL2_lt : 2 * TL.natAbs < 2 ^ 700 := by decide +kernel
theorem Row.sh {ns : List Int} (h : Row ns) (i : Nat) (hi : i < ns.length) : Sh (ns.getD i 0) := by
  rw [List.getD_eq_getElem?_getD, List.getElem?_eq_getElem hi]
  exact h.2.2 _ (List.getElem_mem hi)
theorem wide_sh {x y : Int} (hx : x.natAbs < 2 ^ 700) (hy : y.natAbs < 2 ^ 700) : CMulE x y := wmul hx hy (by decide) (by decide) (by decide)
theorem wide_2 {x : Int} : CDivW x 2 := wide_div (b := 2) (by decide) (by decide) (by decide) (by decide)
def dot (ns ms : List Int) : Int := ns.getD 0 0 * ms.getD 0 0 - (List.zipWith (· * ·) (ns.drop 1) (ms.drop 1)).sum
def cub (ns : List Int) : Int := 3 * ns.getD 0 0 - (ns.drop 1).sum
def cntg (ns : List Int) : Int := (dot ns ns + cub ns) / 2 + 1
def gen (ns : List Int) : Int := (dot ns ns - cub ns) / 2 + 1
def terms (ns : List Int) : Int := if ns.getD 0 0 < 0 then 0 else (ns.getD 0 0 + 1) * (ns.getD 0 0 + 2) / 2
def conds (ns : List Int) : Int := (((ns.drop 1).filter fun m => decide (0 < m)).map fun m => m * (m + 1) / 2).sum
def sp_is_short : Sp := fun vs H Q _ => ∃ i : Int, vs = [.int i] ∧ Sh i ∧ Q (.bl true) H
theorem ok_is_short (T : Txt K mg) (D : Df K mg "is_short" s_is_short ["number"]) : C8.Cal P w K mg base 1 "is_short" (sp_is_short) [] := by
  obtain ⟨f, fd, D, hb⟩ := D
  refine C8.cal0 D (.all hb) .nil sc_is_short (fun vs H Q E h => ?_) (fun cdv A outer s H vs Q E hr h => ?_)
  · obtain ⟨i, rfl, _⟩ := h; rfl
  · obtain ⟨i, rfl, hi, q⟩ := h
    refine ⟨_, (pss_one (ps_ret (pe_chain op_lt op_lt (pe_un un_neg (C8.pe_gc (by rfl) T.c_TOO_LONG)) (pv 0) (C8.pe_gc (by rfl) T.c_TOO_LONG)))), ?_⟩
    refine ⟨_, rfl, _, rfl, _, _, rfl, rfl, _, rfl, ?_⟩
    rw [decide_eq_true hi.1]
    refine iteT ⟨_, _, rfl, rfl, ?_⟩
    show Q (V.bl (decide (i < TL))) H
    rw [decide_eq_true hi.2]
    exact q
def sp_is_integer : Sp := fun vs H Q _ => ∃ i : Int, vs = [.int i] ∧ Sh i ∧ Q (.bl true) H
theorem ok_is_integer (T : Txt K mg) (D : Df K mg "is_integer" s_is_integer ["value"]) (c_is_short : C8.Cal P w K mg base 1 "is_short" (sp_is_short) []) : C8.Cal P w K mg base 2 "is_integer" (sp_is_integer) [] := by
  obtain ⟨f, fd, D, hb⟩ := D
  refine C8.cal0 D (.all hb) .nil sc_is_integer (fun vs H Q E h => ?_) (fun cdv A outer s H vs Q E hr h => ?_)
  · obtain ⟨i, rfl, _⟩ := h; rfl
  · obtain ⟨i, rfl, hi, q⟩ := h
    refine ⟨_, (pss_one (ps_ret (pe_and (pe_callB (callK (K := K) rIsi call_isi) (by rfl) T.b_isinstance (by decide +kernel) (pa_cons (pv 0) (pa_cons (pe_bltn (v := .ty "int") (by rfl) T.b_int (by decide +kernel) rfl) pa_nil))) (pe_and (pe_not (pe_callB (callK (K := K) rIsi call_isi) (by rfl) T.b_isinstance (by decide +kernel) (pa_cons (pv 0) (pa_cons (pe_bltn (v := .ty "bool") (by rfl) T.b_bool (by decide +kernel) rfl) pa_nil)))) (pe_one (C8.pe_c c_is_short hr (by decide) (by rfl) (pa_cons (pv 0) pa_nil))))))), ?_⟩
    refine ⟨_, rfl, _, _, _, _, true, rfl, .ty _, .base (.int i), kit_ty (by decide +kernel), true, rfl, iteT ?_⟩
    refine ⟨_, rfl, _, _, _, _, false, rfl, .ty _, .base (.int i), kit_ty (by decide +kernel), false, rfl, true, rfl, iteT ?_⟩
    exact ⟨_, rfl, i, rfl, hi, q⟩
def sp_is_row (K : PySem.W.Frag) : Sp := fun vs H Q _ => ∃ a ns, vs = [.ref a] ∧ SqT K H a (ns.map V.int) ∧ Row ns ∧ ∀ H', Kp N0 H H' → Q (.bl true) H'
theorem ok_is_row (T : Txt K mg) (D : Df K mg "is_row" s_is_row ["value"]) (c_is_integer : C8.Cal P w K mg base 2 "is_integer" (sp_is_integer) []) : C8.Cal P w K mg base 3 "is_row" (sp_is_row K) [] := by
  obtain ⟨f, fd, D, hb⟩ := D
  refine C8.cal0 D (.all hb) .nil sc_is_row (fun vs H Q E h => ?_) (fun cdv A outer s H vs Q E hr h => ?_)
  · obtain ⟨i, ns, rfl, _⟩ := h; rfl
  · obtain ⟨a, ns, rfl, ht, hr1, q⟩ := h
    refine ⟨_, (pss_cons (ps_if (PW.pt (pw_or (pt_not (pt_val (pe_callB (callK (K := K) rIsi call_isi) (by rfl) T.b_isinstance (by decide +kernel) (pa_cons (pv 0) (pa_cons (pe_bltn (v := .ty "tuple") (by rfl) T.b_tuple (by decide +kernel) rfl) pa_nil))))) (pw_or1 (pt_not (pt_chain op_lt op_le (C8.pe_gc (by rfl) T.c_LEAST_POINTS) (pe_callB (callK (K := K) Vf.rLen call_lenI) (by rfl) T.b_len (by decide +kernel) (pa_cons (pv 0) pa_nil)) (pe_op op_add (C8.pe_gc (by rfl) T.c_MOST_POINTS) pe_int)))))) (pss_one (ps_ret pe_bl)) pss_nil)
      (pss_one (ps_ret (pe_callB (callK (K := K) rAll (cr_all rfl)) (by rfl) T.b_all (by decide +kernel) (pa_cons (pe_lc (own := [("entry", 1)]) (g := gName 1) rfl sc_is_row.nd (pi_tup (pv 0)) (C8b.blk (N := ["value", "entry"]) (sc := C8.fnScope s_is_row) (by decide +kernel)) (fun _ _ _ _ _ => (pg_name (i := 1) sc_is_row.nd rfl (Or.inl rfl))) (fun _ _ _ _ _ => pts_nil) (fun _ _ _ _ _ => (C8.pe_c c_is_integer hr (by decide) (by rfl) (pa_cons (pv 1) pa_nil)))) pa_nil))))), ?_⟩
    refine ⟨_, rfl, _, _, _, _, true, rfl, .ty _, tyS ht, kit_ty (by decide +kernel), true, rfl, iteF ?_⟩
    refine ⟨_, rfl, lenS rfl ht ⟨_, _, rfl, rfl, _, rfl, ?_⟩⟩
    rw [decide_eq_true (by rw [List.length_map]; have := hr1.1; omega)]
    refine iteT ⟨_, _, rfl, rfl, _, _, rfl, rfl, _, rfl, ?_⟩
    rw [decide_eq_true (by rw [List.length_map]; have := hr1.2.1; omega)]
    refine iteF ?_
    refine ⟨_, rfl, _, rfl, ⟨_, ht⟩, ?_⟩
    refine lc_bools walk_tup (fun _ => true) (by rw [List.length_map]; have := hr1.2.1; omega) (fun H' k => k.sqT ht) ?_ ?_
    · rintro i x H1 H2 hi k ⟨rfl, hx⟩ R hR
      rw [List.length_map] at hi
      have e : x = .int (ns.getD i 0) := by
        rw [List.getElem?_map, List.getElem?_eq_getElem hi] at hx
        rw [← Option.some.inj hx, List.getD_eq_getElem?_getD, List.getElem?_eq_getElem hi]
        rfl
      subst e
      exact ⟨rfl, _, rfl, _, rfl, hr1.sh i hi, hR _ (.refl _ _)⟩
    · intro D H1 k h1
      refine ⟨D, _, rfl, SqL.of h1, ?_⟩
      rw [show (List.map (fun _ => true) (List.range (ns.map V.int).length)).all id = true by simp]
      exact q _ k
def sp_check_row (K : PySem.W.Frag) : Sp := fun vs H Q _ => ∃ a ns, vs = [.ref a] ∧ SqT K H a (ns.map V.int) ∧ Row ns ∧ ∀ H', Kp N0 H H' → Q .non H'
theorem ok_check_row (T : Txt K mg) (D : Df K mg "check_row" s_check_row ["row"]) (c_is_row : C8.Cal P w K mg base 3 "is_row" (sp_is_row K) []) : C8.Cal P w K mg base 4 "check_row" (sp_check_row K) [] := by
  obtain ⟨f, fd, D, hb⟩ := D
  refine C8.cal0 D (.all hb) .nil sc_check_row (fun vs H Q E h => ?_) (fun cdv A outer s H vs Q E hr h => ?_)
  · obtain ⟨i, ns, rfl, _⟩ := h; rfl
  · obtain ⟨a, ns, rfl, ht, hr1, q⟩ := h
    refine ⟨_, (pss_one (ps_if (pt_not (pt_val (C8.pe_c c_is_row hr (by decide) (by rfl) (pa_cons (pv 0) pa_nil)))) (pss_one ps_never) pss_nil)), ?_⟩
    exact ⟨_, rfl, _, _, rfl, ht, hr1, fun H1 k => ⟨true, rfl, iteF (q _ k)⟩⟩
theorem dot_all {ns ms : List Int} (h1 : 0 < ns.length) (h2 : 0 < ms.length) : 2 * ns.getD 0 0 * ms.getD 0 0 - (List.zipWith (· * ·) ns ms).sum = dot ns ms := by
  match ns, ms, h1, h2 with
  | x :: ns, y :: ms, _, _ =>
    show 2 * x * y - (x * y + (List.zipWith (· * ·) ns ms).sum) = x * y - (List.zipWith (· * ·) ns ms).sum
    generalize (List.zipWith (· * ·) ns ms).sum = z
    grind
def sp_product_of (K : PySem.W.Frag) : Sp := fun vs H Q _ => ∃ a b ns ms, vs = [.ref a, .ref b] ∧ SqT K H a (ns.map V.int) ∧ SqT K H b (ms.map V.int) ∧ Row ns ∧ Row ms ∧ ms.length = ns.length ∧ ∀ H', Kp N0 H H' → Q (.int (dot ns ms)) H'
theorem ok_product_of (T : Txt K mg) (D : Df K mg "product_of" s_product_of ["one", "other"]) : C8.Cal P w K mg base 1 "product_of" (sp_product_of K) [] := by
  obtain ⟨f, fd, D, hb⟩ := D
  refine C8.cal0 D (.all hb) .nil sc_product_of (fun vs H Q E h => ?_) (fun cdv A outer s H vs Q E hr h => ?_)
  · obtain ⟨_, _, _, _, rfl, _⟩ := h; rfl
  · obtain ⟨a, b, ns, ms, rfl, ha, hb, ra, rb, hl, q⟩ := h
    refine ⟨_, (pss_one (ps_ret (pe_op op_sub (pe_op op_mulE (pe_op op_mulE pe_int (pe_ix (ixK (K := K) rIxT ix_tup) (pv 0) pe_int (fun _ _ => rfl))) (pe_ix (ixK (K := K) rIxT ix_tup) (pv 1) pe_int (fun _ _ => rfl))) (pe_callB (callK (K := K) rSum (cr_sum rfl)) (by rfl) T.b_sum (by decide +kernel) (pa_cons (pe_lc (own := [("left", 2), ("right", 3)]) (g := gTup K 2 (gCons (gName 2) (gCons (gName 3) gNil))) rfl sc_product_of.nd (RZ.pi_zipA (by rfl) T.b_zip (pa_cons (pv 0) (pa_cons (pv 1) pa_nil))) (C8b.blk (N := ["one", "other", "left", "right"]) (sc := C8.fnScope s_product_of) (by decide +kernel)) (fun _ _ _ _ _ => (pg_tup rfl (pgs_cons (pg_name (i := 2) sc_product_of.nd rfl (Or.inl rfl)) (pgs_cons (pg_name (i := 3) sc_product_of.nd rfl (Or.inl rfl)) pgs_nil)))) (fun _ _ _ _ _ => pts_nil) (fun _ _ _ _ _ => (pe_op op_mulE (pv 2) (pv 3)))) pa_nil))))), ?_⟩
    have l1 := ra.1
    have l2 := ra.2.1
    have a0 := (ra.sh 0 (by omega)).le
    refine ⟨_, rfl, _, _, _, _, rfl, rfl, ha, at_row0 (by omega), _, _, rfl, rfl, wide_sh (by decide) (ra.sh 0 (by omega)).lt, ?_⟩
    refine ⟨_, rfl, _, _, _, _, rfl, rfl, hb, at_row0 (by omega), _, _, rfl, rfl, wide_sh (x := 2 * ns.getD 0 0) (Nat.lt_of_le_of_lt (by omega : (2 * ns.getD 0 0).natAbs ≤ 2 * TL.natAbs) TL2_lt) (rb.sh 0 (by omega)).lt, ?_⟩
    refine ⟨_, rfl, _, rfl, _, _, _, _, rfl, .inr ⟨ha, hb, ?_⟩⟩
    refine lc_ints (walk_zipT rfl) (fun i => ns.getD i 0 * ms.getD i 0) (by simp; omega) (fun H' k => ⟨k.sqT ha, k.sqT hb⟩) ?_ ?_
    · rintro i x H3 H4 hi k3 ⟨T, x1, x2, rfl, hT, rfl, e1, e2⟩ R hR
      have hi1 : i < ns.length := by simp at hi ⊢; omega
      have hi2 : i < ms.length := by omega
      obtain rfl : x1 = _ := (Option.some.inj ((int_at hi1).symm.trans e1)).symm
      obtain rfl : x2 = _ := (Option.some.inj ((int_at hi2).symm.trans e2)).symm
      exact ⟨T, _, rfl, SqT.of upd_same, rfl, _, _, rfl, _, _, rfl, rfl, rfl, _, rfl, _, rfl, _, _, rfl, rfl, wide_sh (ra.sh _ hi1).lt (rb.sh _ hi2).lt, hR _ (.new hT)⟩
    · intro D H3 k3 h3
      rw [range_zip (· * ·) ns ms _ (by simp)] at h3
      refine ⟨D, _, rfl, SqL.of h3, _, _, rfl, rfl, ?_⟩
      dsimp only
      rw [dot_all (by omega) (by omega)]
      exact q _ k3
def sp_product_with_cubic (K : PySem.W.Frag) : Sp := fun vs H Q _ => ∃ a ns, vs = [.ref a] ∧ SqT K H a (ns.map V.int) ∧ Row ns ∧ ∀ H', Kp N0 H H' → Q (.int (cub ns)) H'
theorem ok_product_with_cubic (T : Txt K mg) (D : Df K mg "product_with_cubic" s_product_with_cubic ["row"]) : C8.Cal P w K mg base 1 "product_with_cubic" (sp_product_with_cubic K) [] := by
  obtain ⟨f, fd, D, hb⟩ := D
  refine C8.cal0 D (.all hb) .nil sc_product_with_cubic (fun vs H Q E h => ?_) (fun cdv A outer s H vs Q E hr h => ?_)
  · obtain ⟨_, _, rfl, _⟩ := h; rfl
  · obtain ⟨a, ns, rfl, ha, ra, q⟩ := h
    refine ⟨_, (pss_one (ps_ret (pe_op op_sub (pe_op op_mulE pe_int (pe_ix (ixK (K := K) rIxT ix_tup) (pv 0) pe_int (fun _ _ => rfl))) (pe_callB (callK (K := K) rSumT (cr_sumT rfl)) (by rfl) T.b_sum (by decide +kernel) (pa_cons (pe_slice (slK (K := K) rSlI sl_tupI) (pv 0) (po_some pe_int) po_none) pa_nil))))), ?_⟩
    have l1 := ra.1
    refine ⟨_, rfl, _, _, _, _, rfl, rfl, ha, at_row0 (by omega), _, _, rfl, rfl, wide_sh (by decide) (ra.sh 0 (by omega)).lt, ?_⟩
    refine ⟨_, rfl, _, rfl, slS ha (nw1 (by rw [List.length_map]; omega)) fun p H1 k1 hp => ?_⟩
    rw [cut_1] at hp
    exact ⟨p, _, rfl, SqT.of hp, _, _, rfl, rfl, q _ k1⟩
def sp_counting_of (K : PySem.W.Frag) : Sp := fun vs H Q _ => ∃ a ns, vs = [.ref a] ∧ H a = some (.tup (ns.map V.int)) ∧ Row ns ∧ ∀ H', Kp N0 H H' → Q (.int (cntg ns)) H'
def sp_counting (K : PySem.W.Frag) : Sp := fun vs H Q _ => ∃ a ns, vs = [.ref a] ∧ H a = some (.tup (ns.map V.int)) ∧ Row ns ∧ ∀ H', Kp N0 H H' → Q (.int (cntg ns)) H'
def sp_genus (K : PySem.W.Frag) : Sp := fun vs H Q _ => ∃ a ns, vs = [.ref a] ∧ H a = some (.tup (ns.map V.int)) ∧ Row ns ∧ ∀ H', Kp N0 H H' → Q (.int (gen ns)) H'
/-! ### the dice -/
def sp_l_dice (K : PySem.W.Frag) : Sp := fun vs H Q _ => ∃ (a : Addr) (ns : List Int) (i : Nat), vs = [.ref a, .int i] ∧ SqL K H a (ns.map V.int) ∧ i ≤ 100 ∧ ∀ p H', H p = none → Kp N0 H H' → Dc p H' → Q (.ref p) H'
theorem ok_l_dice (T : Txt K mg) (D : Df K mg "_law_dice" s_l_dice ["_law_script", "_law_at"]) : C8.Cal P w K mg base 1 "_law_dice" (sp_l_dice K) [] := by
  obtain ⟨f, fd, D, hb⟩ := D
  refine C8.cal0 D (.all hb) .nil sc_l_dice (fun vs H Q E h => ?_) (fun cdv A outer s H vs Q E hr h => ?_)
  · obtain ⟨_, _, _, rfl, _⟩ := h; rfl
  · obtain ⟨a, ns, i, rfl, ha, hi, q⟩ := h
    refine ⟨_, (pss_cons (ps_set (i := 2) sc_l_dice.nd rfl (Or.inl rfl) (pe_op op_add (pe_op op_mulE pe_int (pv 1)) pe_int))
      (pss_cons (ps_if (pt_cmpR op_lt (pv 1) (pe_callB (callK (K := K) Vf.rLen call_lenI) (by rfl) T.b_len (by decide +kernel) (pa_cons (pv 0) pa_nil)) (nomark _)) (pss_one (ps_set (i := 2) sc_l_dice.nd rfl (Or.inl rfl) (pe_ix (ixK (K := K) rIxL ix_list) (pv 0) (pv 1) (fun _ _ => rfl)))) pss_nil)
      (pss_cons (ps_set (i := 3) sc_l_dice.nd rfl (Or.inl rfl) (pe_op op_mod (pe_callTy call_int1 (by rfl) T.b_int (by decide +kernel) (pa_cons (pe_callB call_abs (by rfl) T.b_abs (by decide +kernel) (pa_cons (pv 2) pa_nil)) pa_nil)) (pe_op op_powW (pe_op op_powW pe_int pe_int) pe_int)))
      (pss_cons (ps_set (i := 4) sc_l_dice.nd rfl (Or.inl rfl) (pe_op op_fdivW (pv 3) (pe_op op_powW pe_int pe_int)))
      (pss_cons (ps_set (i := 5) sc_l_dice.nd rfl (Or.inl rfl) (pe_op op_add (pe_op op_add (pe_op op_add (pe_op op_mulE (pe_op op_mod (pv 3) pe_int) pe_int) (pe_op op_mulE pe_int (pv 1))) (pe_op op_mulE pe_int (pe_callTy call_int1 (by rfl) T.b_int (by decide +kernel) (pa_cons (pe_cmpR op_lt (pv 2) pe_int (nomark _)) pa_nil)))) pe_int))
      (pss_one (ps_ret (pe_lstN (pa_cons (pv 4) (pa_cons (pe_op op_mod (pv 5) pe_int) (pa_cons pe_int pa_nil))))))))))), ?_⟩
    have hw : ∀ {n : Int}, n.natAbs ≤ 100 → n.natAbs < 2 ^ 64 := fun h => Nat.lt_of_le_of_lt h (by decide)
    refine ⟨_, rfl, _, _, rfl, rfl, wmul (a := 64) (b := 64) (by decide) (hw (by omega)) (by decide) (by decide) (by decide), _, _, rfl, rfl, ?_⟩
    refine ⟨_, rfl, _, rfl, lenL rfl ha ⟨_, _, rfl, rfl, _, rfl, ?_⟩⟩
    refine ite2 (fun c => ?_) (fun c => ?_)
    · have hc : i < ns.length := by
        have := of_decide_eq_true c
        rw [List.length_map] at this
        omega
      refine ⟨_, rfl, _, rfl, a, _, _, _, rfl, rfl, ha, at_row hc, ?_⟩
      refine ⟨_, rfl, _, rfl, .inl ⟨_, rfl, ?_⟩⟩
      refine ⟨_, _, rfl, rfl, ⟨by decide, by decide⟩, _, _, rfl, rfl, ⟨by decide, by decide +kernel⟩, _, _, rfl, rfl, pow_pos_, ?_⟩
      refine ⟨_, rfl, _, _, rfl, rfl, ⟨by decide, by decide⟩, _, _, rfl, rfl, wide_div (b := 64) (by decide) (by decide) (by decide) (by decide), ?_⟩
      refine ⟨_, rfl, _, _, rfl, rfl, lp (by decide), _, _, rfl, rfl, wmul (a := 64) (b := 64) (mod_lt64 (by decide)) (by decide) (by decide) (by decide) (by decide), ?_⟩
      refine ⟨_, rfl, _, _, rfl, rfl, wmul (a := 64) (b := 64) (by decide) (hw (by omega)) (by decide) (by decide) (by decide), _, _, rfl, rfl, ?_⟩
      refine ⟨_, rfl, _, _, rfl, rfl, .inr ⟨_, rfl, _, _, rfl, rfl, wmul (a := 64) (b := 64) (by decide) b2i_lt (by decide) (by decide) (by decide), _, _, rfl, rfl, _, _, rfl, rfl, ?_⟩⟩
      refine ⟨_, rfl, _, rfl, _, _, rfl, rfl, lp (by decide), newL (sz_ (by simp)) fun p H1 n1 k1 h1 => q p H1 n1 k1 ⟨_, _, _, h1⟩⟩
    · refine ⟨_, rfl, _, rfl, .inl ⟨_, rfl, ?_⟩⟩
      refine ⟨_, _, rfl, rfl, ⟨by decide, by decide⟩, _, _, rfl, rfl, ⟨by decide, by decide +kernel⟩, _, _, rfl, rfl, pow_pos_, ?_⟩
      refine ⟨_, rfl, _, _, rfl, rfl, ⟨by decide, by decide⟩, _, _, rfl, rfl, wide_div (b := 64) (by decide) (by decide) (by decide) (by decide), ?_⟩
      refine ⟨_, rfl, _, _, rfl, rfl, lp (by decide), _, _, rfl, rfl, wmul (a := 64) (b := 64) (mod_lt64 (by decide)) (by decide) (by decide) (by decide) (by decide), ?_⟩
      refine ⟨_, rfl, _, _, rfl, rfl, wmul (a := 64) (b := 64) (by decide) (hw (by omega)) (by decide) (by decide) (by decide), _, _, rfl, rfl, ?_⟩
      refine ⟨_, rfl, _, _, rfl, rfl, .inr ⟨_, rfl, _, _, rfl, rfl, wmul (a := 64) (b := 64) (by decide) b2i_lt (by decide) (by decide) (by decide), _, _, rfl, rfl, _, _, rfl, rfl, ?_⟩⟩
      refine ⟨_, rfl, _, rfl, _, _, rfl, rfl, lp (by decide), newL (sz_ (by simp)) fun p H1 n1 k1 h1 => q p H1 n1 k1 ⟨_, _, _, h1⟩⟩
def sp_l_roll : Sp := fun vs H Q _ => ∃ (a : Addr) (n : Int), vs = [.ref a, .int n] ∧ Dc a H ∧ 0 < n ∧ n.natAbs < 2 ^ 700 ∧ ∀ r H', 0 ≤ r → r < n → DR a H H' → Q (.int r) H'
theorem ok_l_roll (T : Txt K mg) (D : Df K mg "_law_roll" s_l_roll ["_law_dice_here", "_law_total"]) : C8.Cal P w K mg base 1 "_law_roll" (sp_l_roll) [] := by
  obtain ⟨f, fd, D, hb⟩ := D
  refine C8.cal0 D (.all hb) .nil sc_l_roll (fun vs H Q E h => ?_) (fun cdv A outer s H vs Q E hr h => ?_)
  · obtain ⟨_, _, rfl, _⟩ := h; rfl
  · obtain ⟨a, n, rfl, ⟨l, m, c, hd⟩, h0, hn, q⟩ := h
    refine ⟨_, (pss_cons (ps_set (i := 2) sc_l_roll.nd rfl (Or.inl rfl) (pe_callTy call_int1 (by rfl) T.b_int (by decide +kernel) (pa_cons (pv 1) pa_nil)))
      (pss_cons (ps_if (pt_cmpR op_gt (pe_ix (ixK (K := K) rIxL ix_list) (pv 0) pe_int (fun _ _ => rfl)) pe_int (nomark _)) (pss_cons (ps_set (i := 3) sc_l_roll.nd rfl (Or.inl rfl) (pe_op op_mod (pe_ix (ixK (K := K) rIxL ix_list) (pv 0) pe_int (fun _ _ => rfl)) (pv 2)))
      (pss_cons (ps_asg (pe_op op_fdivW (pe_ix (ixK (K := K) rIxL ix_list) (pv 0) pe_int (fun _ _ => rfl)) (pv 2)) (pg_sub (pv 0) pe_int set_list))
      (pss_one (ps_ret (pe_callTy call_int1 (by rfl) T.b_int (by decide +kernel) (pa_cons (pv 3) pa_nil)))))) pss_nil)
      (pss_cons (ps_asg (pe_op op_add (pe_ix (ixK (K := K) rIxL ix_list) (pv 0) pe_int (fun _ _ => rfl)) pe_int) (pg_sub (pv 0) pe_int set_list))
      (pss_cons (ps_set (i := 4) sc_l_roll.nd rfl (Or.inl rfl) (pe_op op_mod (pe_op op_add (pe_ix (ixK (K := K) rIxL ix_list) (pv 0) pe_int (fun _ _ => rfl)) (pe_op op_mulE pe_int (pe_ix (ixK (K := K) rIxL ix_list) (pv 0) pe_int (fun _ _ => rfl)))) pe_int))
      (pss_cons (ps_set (i := 5) sc_l_roll.nd rfl (Or.inl rfl) (pe_op op_add (pe_op op_mulE (pe_op op_mod (pe_op op_mulE (pv 4) (pv 4)) pe_int) (pv 4)) (pe_op op_mulE pe_int (pe_ix (ixK (K := K) rIxL ix_list) (pv 0) pe_int (fun _ _ => rfl)))))
      (pss_cons (ps_set (i := 5) sc_l_roll.nd rfl (Or.inl rfl) (pe_op op_mod (pv 5) pe_int))
      (pss_one (ps_ret (pe_callTy call_int1 (by rfl) T.b_int (by decide +kernel) (pa_cons (pe_op op_mod (pe_op op_fdivW (pv 5) pe_int) (pv 2)) pa_nil)))))))))), ?_⟩
    refine ⟨_, rfl, .inl ⟨_, rfl, ?_⟩⟩
    refine ⟨_, rfl, a, _, _, _, rfl, rfl, SqL.of hd, rfl, _, _, rfl, rfl, _, rfl, ?_⟩
    refine ite2 (fun _ => ?_) (fun _ => ?_)
    · refine ⟨_, rfl, a, _, _, _, rfl, rfl, SqL.of hd, rfl, _, rfl, _, _, rfl, rfl, h0, ?_⟩
      refine ⟨_, rfl, a, _, _, _, rfl, rfl, SqL.of hd, rfl, _, rfl, _, _, rfl, rfl, wide_div h0 hn (by decide) (by decide), ?_⟩
      refine ⟨_, rfl, a, _, _, 0, rfl, rfl, hd, rfl, ?_⟩
      exact ⟨_, rfl, .inl ⟨_, rfl, q _ _ (Int.emod_nonneg _ (by omega)) (Int.emod_lt_of_pos _ h0) ⟨.mut rfl hd, _, _, _, upd_same⟩⟩⟩
    · refine ⟨_, rfl, a, _, _, _, rfl, rfl, SqL.of hd, rfl, _, _, rfl, rfl, ?_⟩
      refine ⟨_, rfl, a, _, _, 2, rfl, rfl, hd, rfl, ?_⟩
      have hd1 : upd H a (.lst [.int l, .int m, .int (c + 1)]) a = some (.lst [.int l, .int m, .int (c + 1)]) := upd_same
      have k1 : DR a H (upd H a (.lst [.int l, .int m, .int (c + 1)])) := ⟨.mut rfl hd, _, _, _, upd_same⟩
      refine ⟨_, rfl, a, _, _, _, rfl, rfl, SqL.of hd1, rfl, _, rfl, a, _, _, _, rfl, rfl, SqL.of hd1, rfl, _, _, rfl, rfl, mulX_left (by decide), _, _, rfl, rfl, _, _, rfl, rfl, lp (by decide), ?_⟩
      refine ⟨_, rfl, _, rfl, _, _, rfl, rfl, wmul (a := 64) (b := 64) (mod_lt64 (by decide)) (mod_lt64 (by decide)) (by decide) (by decide) (by decide), _, _, rfl, rfl, lp (by decide), _, rfl, _, _, rfl, rfl, wmul (a := 64) (b := 64) (mod_lt64 (by decide)) (mod_lt64 (by decide)) (by decide) (by decide) (by decide), _, rfl, a, _, _, _, rfl, rfl, SqL.of hd1, rfl, _, _, rfl, rfl, mulX_left (by decide), _, _, rfl, rfl, ?_⟩
      refine ⟨_, rfl, _, _, rfl, rfl, lp (by decide), ?_⟩
      exact ⟨_, rfl, _, _, rfl, rfl, wide_div (b := 64) (by decide) (by decide) (by decide) (by decide), _, rfl, _, _, rfl, rfl, h0, .inl ⟨_, rfl, q _ _ (Int.emod_nonneg _ (by omega)) (Int.emod_lt_of_pos _ h0) k1⟩⟩

/-! ### more of rows -/
def sp_is_from_to : Sp := fun vs H Q _ => ∃ i l m : Int, vs = [.int i, .int l, .int m] ∧ Sh i ∧ l ≤ i ∧ i ≤ m ∧ Q (.bl true) H
theorem ok_is_from_to (T : Txt K mg) (D : Df K mg "is_from_to" s_is_from_to ["value", "least", "most"]) (c_is_integer : C8.Cal P w K mg base 2 "is_integer" (sp_is_integer) []) : C8.Cal P w K mg base 3 "is_from_to" (sp_is_from_to) [] := by
  obtain ⟨f, fd, D, hb⟩ := D
  refine C8.cal0 D (.all hb) .nil sc_is_from_to (fun vs H Q E h => ?_) (fun cdv A outer s H vs Q E hr h => ?_)
  · obtain ⟨_, _, _, rfl, _⟩ := h; rfl
  · obtain ⟨i, l, m, rfl, hi, h1, h2, q⟩ := h
    refine ⟨_, (pss_one (ps_ret (pe_and (C8.pe_c c_is_integer hr (by decide) (by rfl) (pa_cons (pv 0) pa_nil)) (pe_one (pe_chain op_le op_le (pv 1) (pv 0) (pv 2)))))), ?_⟩
    refine ⟨_, rfl, _, rfl, hi, true, rfl, iteT ?_⟩
    refine ⟨_, rfl, _, rfl, _, _, rfl, rfl, _, rfl, ?_⟩
    rw [decide_eq_true h1]
    refine iteT ⟨_, rfl, _, _, rfl, rfl, ?_⟩
    show Q (V.bl (decide (i ≤ m))) H
    rw [decide_eq_true h2]
    exact q
theorem sh_small {i : Int} (h0 : -(10 ^ 60) ≤ i) (h1 : i ≤ 10 ^ 60) : Sh i := by
  have : (10 : Int) ^ 60 < TL := by decide +kernel
  exact ⟨by omega, by omega⟩
def sp_check_many : Sp := fun vs H Q _ => ∃ (n k : Nat), vs = [.int n, .int k] ∧ 3 ≤ n ∧ n ≤ k ∧ k ≤ 16 ∧ Q .non H
theorem ok_check_many (T : Txt K mg) (D : Df K mg "check_many" s_check_many ["n", "most"]) (c_is_from_to : C8.Cal P w K mg base 3 "is_from_to" (sp_is_from_to) []) : C8.Cal P w K mg base 4 "check_many" (sp_check_many) [] := by
  obtain ⟨f, fd, D, hb⟩ := D
  refine C8.cal0 D (.all hb) .nil sc_check_many (fun vs H Q E h => ?_) (fun cdv A outer s H vs Q E hr h => ?_)
  · obtain ⟨_, _, rfl, _⟩ := h; rfl
  · obtain ⟨n, k, rfl, h1, h2, h3, q⟩ := h
    refine ⟨_, (pss_one (ps_if (pt_not (pt_val (C8.pe_c c_is_from_to hr (by decide) (by rfl) (pa_cons (pv 0) (pa_cons (C8.pe_gc (by rfl) T.c_LEAST_POINTS) (pa_cons (pv 1) pa_nil)))))) (pss_one ps_never) pss_nil)), ?_⟩
    exact ⟨_, rfl, _, rfl, _, _, _, rfl, sh_small (by omega) (by omega), by omega, by omega, true, rfl, iteF q⟩
def crow (n : Nat) : List Int := 3 :: List.replicate n 1
def lrow (n : Nat) : List Int := 1 :: List.replicate n 0
def prow (n i : Nat) : List Int := 0 :: (List.range n).map fun j => 0 - (if j = i then 1 else 0)
def sp_cubic (K : PySem.W.Frag) : Sp := fun vs H Q _ => ∃ (n : Nat), vs = [.int n] ∧ 3 ≤ n ∧ n ≤ 16 ∧ ∀ p H', Kp N0 H H' → H' p = some (.tup ((crow n).map V.int)) → Q (.ref p) H'
def sp_line_row (K : PySem.W.Frag) : Sp := fun vs H Q _ => ∃ (n : Nat), vs = [.int n] ∧ 3 ≤ n ∧ n ≤ 16 ∧ ∀ p H', Kp N0 H H' → H' p = some (.tup ((lrow n).map V.int)) → Q (.ref p) H'
theorem prow_eq (n i : Nat) (h : i < n) : List.replicate (i + 1) 0 ++ [(-1 : Int)] ++ List.replicate (n - 1 - i) 0 = prow n i := by
  unfold prow
  refine List.ext_getElem (by simp; omega) fun j h1 h2 => ?_
  cases j with
  | zero => simp [List.replicate_succ]
  | succ j =>
    simp only [List.getElem_cons_succ, List.getElem_map, List.getElem_range]
    by_cases e : j = i
    · subst e
      simp [List.getElem_append]
    · rw [if_neg e]
      by_cases lt : j < i
      · simp [List.getElem_append, lt]
      · obtain ⟨k, rfl⟩ : ∃ k, j = i + 1 + k := ⟨j - (i + 1), by omega⟩
        have e2 : ¬ i + 1 + k + 1 < i + 1 + 1 := by omega
        rw [List.getElem_append_right (by simp)]
        simp
def sp_point_row (K : PySem.W.Frag) : Sp := fun vs H Q _ => ∃ (n i : Nat), vs = [.int n, .int i] ∧ 3 ≤ n ∧ n ≤ 16 ∧ i < n ∧ ∀ p H', Kp N0 H H' → H' p = some (.tup ((prow n i).map V.int)) → Q (.ref p) H'
def sp_check_rows (K : PySem.W.Frag) : Sp := fun vs H Q _ => ∃ a b ns ms, vs = [.ref a, .ref b] ∧ H a = some (.tup (ns.map V.int)) ∧ H b = some (.tup (ms.map V.int)) ∧ Row ns ∧ Row ms ∧ ms.length = ns.length ∧ ∀ H', Kp N0 H H' → Q .non H'
def sp_product (K : PySem.W.Frag) : Sp := fun vs H Q _ => ∃ a b ns ms, vs = [.ref a, .ref b] ∧ H a = some (.tup (ns.map V.int)) ∧ H b = some (.tup (ms.map V.int)) ∧ Row ns ∧ Row ms ∧ ms.length = ns.length ∧ ∀ H', Kp N0 H H' → Q (.int (dot ns ms)) H'
def sp_square (K : PySem.W.Frag) : Sp := fun vs H Q _ => ∃ a ns, vs = [.ref a] ∧ H a = some (.tup (ns.map V.int)) ∧ Row ns ∧ ∀ H', Kp N0 H H' → Q (.int (dot ns ns)) H'
def sp_with_cubic (K : PySem.W.Frag) : Sp := fun vs H Q _ => ∃ a ns, vs = [.ref a] ∧ H a = some (.tup (ns.map V.int)) ∧ Row ns ∧ ∀ H', Kp N0 H H' → Q (.int (cub ns)) H'
def AllSh (ns : List Int) : Prop := ∀ x ∈ ns, Sh x
def sp_are_short (K : PySem.W.Frag) : Sp := fun vs H Q _ => ∃ a ns, vs = [.ref a] ∧ (H a = some (.lst (ns.map V.int)) ∨ H a = some (.tup (ns.map V.int))) ∧ AllSh ns ∧ ns.length ≤ 100 ∧ ∀ H', Kp N0 H H' → Q (.bl true) H'
theorem ok_are_short (T : Txt K mg) (D : Df K mg "are_short" s_are_short ["numbers"]) (c_is_short : C8.Cal P w K mg base 1 "is_short" (sp_is_short) []) : C8.Cal P w K mg base 2 "are_short" (sp_are_short K) [] := by
  obtain ⟨f, fd, D, hb⟩ := D
  refine C8.cal0 D (.all hb) .nil sc_are_short (fun vs H Q E h => ?_) (fun cdv A outer s H vs Q E hr h => ?_)
  · obtain ⟨_, _, rfl, _⟩ := h; rfl
  · obtain ⟨a, ns, rfl, ha, hs, hl, q⟩ := h
    refine ⟨_, (pss_one (ps_ret (pe_callB (callK (K := K) rAll (cr_all rfl)) (by rfl) T.b_all (by decide +kernel) (pa_cons (pe_lc (own := [("number", 1)]) (g := gName 1) rfl sc_are_short.nd (pi_seq (pv 0)) (C8b.blk (N := ["numbers", "number"]) (sc := C8.fnScope s_are_short) (by decide +kernel)) (fun _ _ _ _ _ => (pg_name (i := 1) sc_are_short.nd rfl (Or.inl rfl))) (fun _ _ _ _ _ => pts_nil) (fun _ _ _ _ _ => (C8.pe_c c_is_short hr (by decide) (by rfl) (pa_cons (pv 1) pa_nil)))) pa_nil)))), ?_⟩
    have fin : ∀ D H1, Kp N0 H H1 → H1 D = some (.lst (((List.range (ns.map V.int).length).map fun _ => true).map V.bl)) → rAll K [V.ref D] H1 Q := by
      intro D H1 k h1
      refine ⟨D, _, rfl, SqL.of h1, ?_⟩
      rw [show (List.map (fun _ => true) (List.range (ns.map V.int).length)).all id = true by simp]
      exact q _ k
    have sh : ∀ i, i < ns.length → Sh (ns.getD i 0) := fun i hi => by
      rw [List.getD_eq_getElem?_getD, List.getElem?_eq_getElem hi]
      exact hs _ (List.getElem_mem hi)
    rcases ha with ha | ha
    · refine ⟨_, rfl, _, rfl, .inl ⟨⟨_, SqL.of ha⟩, ?_⟩⟩
      refine lc_bools walk_list (fun _ => true) (by simp; omega) (fun H' k => SqL.of (k.keep _ _ (fun z => z) ha)) ?_ ?_
      · rintro i x H1 H2 hi k ⟨rfl, hx⟩ R hR
        rw [List.length_map] at hi
        rw [int_at hi] at hx
        cases hx
        exact ⟨rfl, _, rfl, _, rfl, sh i hi, hR _ (.refl _ _)⟩
      · exact fin
    · refine ⟨_, rfl, _, rfl, .inr ⟨⟨_, SqT.of ha⟩, ?_⟩⟩
      refine lc_bools walk_tup (fun _ => true) (by simp; omega) (fun H' k => SqT.of (k.tup _ _ ha)) ?_ ?_
      · rintro i x H1 H2 hi k ⟨rfl, hx⟩ R hR
        rw [List.length_map] at hi
        rw [int_at hi] at hx
        cases hx
        exact ⟨rfl, _, rfl, _, rfl, sh i hi, hR _ (.refl _ _)⟩
      · exact fin
def sp_short_row (K : PySem.W.Frag) : Sp := fun vs H Q _ => ∃ a ns, vs = [.ref a] ∧ (H a = some (.lst (ns.map V.int)) ∨ H a = some (.tup (ns.map V.int))) ∧ AllSh ns ∧ ns.length ≤ 100 ∧ ∀ p H', Kp N0 H H' → H' p = some (.tup (ns.map V.int)) → Q (.ref p) H'
theorem ok_short_row (T : Txt K mg) (D : Df K mg "short_row" s_short_row ["entries"]) (c_are_short : C8.Cal P w K mg base 2 "are_short" (sp_are_short K) []) : C8.Cal P w K mg base 3 "short_row" (sp_short_row K) [] := by
  obtain ⟨f, fd, D, hb⟩ := D
  refine C8.cal0 D (.all hb) .nil sc_short_row (fun vs H Q E h => ?_) (fun cdv A outer s H vs Q E hr h => ?_)
  · obtain ⟨_, _, rfl, _⟩ := h; rfl
  · obtain ⟨a, ns, rfl, ha, hs, hl, q⟩ := h
    refine ⟨_, (pss_cons (ps_if (pt_not (pt_val (C8.pe_c c_are_short hr (by decide) (by rfl) (pa_cons (pv 0) pa_nil)))) (pss_one ps_never) pss_nil)
      (pss_one (ps_ret (pe_callTy (callK (K := K) rTupOf call_tupI) (by rfl) T.b_tuple (by decide +kernel) (pa_cons (pv 0) pa_nil))))), ?_⟩
    refine ⟨_, rfl, _, _, rfl, ha, hs, hl, fun H1 k1 => ⟨true, rfl, iteF ?_⟩⟩
    rcases ha with ha | ha
    · exact ⟨_, rfl, tupL rfl (SqL.of (k1.keep _ _ (fun z => z) ha)) fun p H2 _ k2 hp => q _ _ (k1.trans k2) hp⟩
    · exact ⟨_, rfl, tupT rfl (k1.tup _ _ ha) (q _ _ k1 (k1.tup _ _ ha))⟩
def sp_plus_times (K : PySem.W.Frag) : Sp := fun vs H Q _ => ∃ a b c ns ms, vs = [.ref a, .int c, .ref b] ∧ H a = some (.tup (ns.map V.int)) ∧ H b = some (.tup (ms.map V.int)) ∧ c.natAbs < 2 ^ 700 ∧ (∀ y ∈ ms, y.natAbs < 2 ^ 700) ∧ ns.length ≤ 100 ∧
  ∀ p H', Kp N0 H H' → H' p = some (.tup ((List.zipWith (fun x y => x + c * y) ns ms).map V.int)) → Q (.ref p) H'
def sp_added (K : PySem.W.Frag) : Sp := fun vs H Q _ => ∃ a b ns ms, vs = [.ref a, .ref b] ∧ H a = some (.tup (ns.map V.int)) ∧ H b = some (.tup (ms.map V.int)) ∧ Row ns ∧ Row ms ∧ ms.length = ns.length ∧ AllSh (List.zipWith (· + ·) ns ms) ∧
  ∀ p H', Kp N0 H H' → H' p = some (.tup ((List.zipWith (· + ·) ns ms).map V.int)) → Q (.ref p) H'
theorem zip_one (ns ms : List Int) : List.zipWith (fun x y => x + 1 * y) ns ms = List.zipWith (· + ·) ns ms := by
  congr 1
  funext x y
  rw [Int.one_mul]
theorem zip_neg (ns ms : List Int) : List.zipWith (fun x y => x + -1 * y) ns ms = List.zipWith (· - ·) ns ms := by
  congr 1
  funext x y
  omega
theorem row_w {ns : List Int} (h : Row ns) : ∀ y ∈ ns, y.natAbs < 2 ^ 700 := fun y hy => (h.2.2 y hy).lt
def sp_less (K : PySem.W.Frag) : Sp := fun vs H Q _ => ∃ a b ns ms, vs = [.ref a, .ref b] ∧ H a = some (.tup (ns.map V.int)) ∧ H b = some (.tup (ms.map V.int)) ∧ Row ns ∧ Row ms ∧ ms.length = ns.length ∧ AllSh (List.zipWith (· - ·) ns ms) ∧
  ∀ p H', Kp N0 H H' → H' p = some (.tup ((List.zipWith (· - ·) ns ms).map V.int)) → Q (.ref p) H'
def sp_multiplied (K : PySem.W.Frag) : Sp := fun vs H Q _ => ∃ (c : Int) (a : Addr) (ns : List Int), vs = [.int c, .ref a] ∧ H a = some (.tup (ns.map V.int)) ∧ Sh c ∧ Row ns ∧ AllSh (ns.map (c * ·)) ∧
  ∀ p H', Kp N0 H H' → H' p = some (.tup ((ns.map (c * ·)).map V.int)) → Q (.ref p) H'
/-! ### what the laws draw -/
def Lim (b : Int) (ns : List Int) : Prop := 4 ≤ ns.length ∧ ns.length ≤ 17 ∧ ∀ x ∈ ns, -b ≤ x ∧ x ≤ b
theorem Lim.row {b : Int} {ns : List Int} (h : Lim b ns) (hb : b < TL) : Row ns := ⟨h.1, h.2.1, fun x hx => by
  have := h.2.2 x hx
  exact ⟨by omega, by omega⟩⟩
theorem Lim.at {b : Int} {ns : List Int} (h : Lim b ns) {i : Nat} (hi : i < ns.length) : -b ≤ ns.getD i 0 ∧ ns.getD i 0 ≤ b := by
  rw [List.getD_eq_getElem?_getD, List.getElem?_eq_getElem hi]
  exact h.2.2 _ (List.getElem_mem hi)
theorem Lim.mono {b c : Int} {ns : List Int} (h : Lim b ns) (hc : b ≤ c) : Lim c ns := ⟨h.1, h.2.1, fun x hx => by
  have := h.2.2 x hx
  exact ⟨by omega, by omega⟩⟩
def sp_one_v (K : PySem.W.Frag) : List V → Hp → VK → Prop := fun vs H Q => ∃ (a l : Addr) (xs : List V), vs = [.ref a, .ref l] ∧ Dc a H ∧ SqL K H l xs ∧ (∀ H', DR a H H' → SqL K H' l xs) ∧ 0 < xs.length ∧ xs.length ≤ 1000 ∧ ∀ i H', i < xs.length → DR a H H' → ∃ v, xs[i]? = some v ∧ Q v H'
def sp_l_one_of (K : PySem.W.Frag) : Sp := fun vs H Q _ => (∃ (a l : Addr) (ns : List Int), vs = [.ref a, .ref l] ∧ Dc a H ∧ SqL K H l (ns.map V.int) ∧ (∀ H', DR a H H' → SqL K H' l (ns.map V.int)) ∧ 0 < ns.length ∧ ns.length ≤ 1000 ∧ ∀ z H', z ∈ ns → DR a H H' → Q (.int z) H') ∨ sp_one_v K vs H Q
/-- items that the law mixes: ints, or rows at their places -/
def Its (K : PySem.W.Frag) (H : Hp) (vs : List V) : Prop := (∀ v ∈ vs, ∃ i, v = .int i) ∨ ∀ v ∈ vs, ∃ q r, v = .ref q ∧ SqT K H q (List.map V.int r)
theorem Its.sub {H : Hp} {us vs : List V} (h : Its K H vs) (s : ∀ u ∈ us, u ∈ vs) : Its K H us := h.imp (fun g u m => g u (s u m)) fun g u m => g u (s u m)
theorem Its.kp {S : Addr → Prop} {H H' : Hp} {vs : List V} (k : Kp S H H') (h : Its K H vs) : Its K H' vs := h.imp id fun g v m => by
  obtain ⟨q, r, e, hq⟩ := g v m
  exact ⟨q, r, e, k.sqT hq⟩
theorem Its.ints {H : Hp} (ns : List Int) : Its K H (ns.map V.int) := .inl fun v m => by
  obtain ⟨i, _, e⟩ := List.mem_map.mp m
  exact ⟨i, e.symm⟩
theorem ints_of {vs : List V} (h : ∀ v ∈ vs, ∃ i, v = .int i) : (vs.map vint).map V.int = vs := by
  rw [List.map_map]
  refine (List.map_congr_left fun v m => ?_).trans (List.map_id vs)
  obtain ⟨i, rfl⟩ := h v m
  rfl
theorem perm_ints {ys : List V} {ns : List Int} (h : ys.Perm (ns.map V.int)) : ∃ ms : List Int, ys = ms.map V.int ∧ ms.Perm ns := by
  refine ⟨ys.map vint, (ints_of fun v m => ?_).symm, ?_⟩
  · obtain ⟨i, _, e⟩ := List.mem_map.mp (h.mem_iff.mp m)
    exact ⟨i, e.symm⟩
  · have := h.map vint
    rwa [List.map_map, show (vint ∘ V.int) = id from rfl, List.map_id] at this
theorem neNilI {H : Hp} {a b : Addr} {vs : List V} {Q : VK} (h1 : SqL K H a vs) (h2 : SqL K H b []) (i : Its K H vs) (q : Q (.bl (!vs.isEmpty)) H) : rNeI K (.ref a) (.ref b) H Q := by
  rcases i with i | i
  · have e := ints_of i
    rw [← e] at h1
    refine neNil h1 h2 ?_
    simpa using q
  · obtain ⟨rs, t⟩ := rwk_ex (K := K) (H := H) (ys := vs) i
    unfold rNeI
    refine ⟨_, _, .lst h1 t.dp, .lst (ds := []) h2 .nil, shaped_rows rs, shaped_rows [], ?_⟩
    have e : PyData.eqv (.list (drs rs)) (.list []) = vs.isEmpty := by
      have l := t.len
      cases rs with
      | nil =>
        have : vs = [] := List.eq_nil_of_length_eq_zero l
        subst this
        simp [drs, PyData.eqv, PyData.eqvAll]
      | cons r rs =>
        cases vs with
        | nil => simp at l
        | cons v vs => simp [drs, PyData.eqv, PyData.eqvAll]
    rw [e]
    exact q
def sp_l_mixed (K : PySem.W.Frag) : Sp := fun vs H Q _ => ∃ (a l : Addr) (xs : List V), vs = [.ref a, .ref l] ∧ Dc a H ∧ (SqL K H l xs ∨ SqT K H l xs) ∧ Its K H xs ∧ xs.length ≤ 1000 ∧
  ∀ p H' (ys : List V), H p = none → DR a H H' → H' p = some (.lst ys) → ys.Perm xs → Q (.ref p) H'
theorem perm_pop {α : Type} {A : List α} {k : Nat} {x : α} (h : A[k]? = some x) : (x :: A.eraseIdx k).Perm A := by
  induction A generalizing k with
  | nil => simp at h
  | cons y r ih =>
    cases k with
    | zero =>
      cases h
      exact .refl _
    | succ k => exact (List.Perm.swap y x _).trans ((ih (k := k) (by simpa using h)).cons y)
theorem seq_nat {i n : Nat} (h : i < n) : seqIndex? (i : Int) n = some i := by
  obtain ⟨j, h1, h2, _⟩ := atI_get (xs := (List.range n)) (i := (i : Int)) (v := i) (atI_nat (by rw [List.getElem?_range h]))
  rw [List.length_range] at h1
  have : j = i := by
    have hj : j < n := by
      have := (List.getElem?_eq_some_iff.mp h2).1
      rwa [List.length_range] at this
    rw [List.getElem?_range hj] at h2
    exact Option.some.inj h2
  rw [h1, this]
def mixW (a l p1 p2 : Addr) (xs : List V) (H : Hp) (m : Nat) (σ : L2.St) (H' : Hp) : Prop := ∃ (A B : List V), σ = [some (.ref a), some (.ref l), some (.ref p1), some (.ref p2)] ∧ m = A.length ∧ DR a H H' ∧ H' p1 = some (.lst A) ∧ H' p2 = some (.lst B) ∧ (B ++ A).Perm xs
theorem ok_l_mixed (T : Txt K mg) (D : Df K mg "_law_mixed" s_l_mixed ["_law_dice_here", "_law_items"]) (c_l_roll : C8.Cal P w K mg base 1 "_law_roll" (sp_l_roll) []) : C8.Cal P w K mg base 2 "_law_mixed" (sp_l_mixed K) [] := by
  obtain ⟨f, fd, D, hb⟩ := D
  refine C8.cal0 D (.all hb) .nil sc_l_mixed (fun vs H Q E h => ?_) (fun cdv A outer s H vs Q E hr h => ?_)
  · obtain ⟨_, _, _, rfl, _⟩ := h; rfl
  · obtain ⟨a, l, xs, rfl, hd, hl, hi, h1, q⟩ := h
    refine ⟨_, (pss_cons (ps_par (i := 2) (j := 3) (by rfl) sc_l_mixed.nd rfl rfl (by decide) rfl rfl (pa_cons (pe_callTy (callK (K := K) rListOf call_lstI) (by rfl) T.b_list (by decide +kernel) (pa_cons (pv 1) pa_nil)) (pa_cons (pe_lstN pa_nil) pa_nil)) (by rfl))
      (pss_cons (ps_while PassesOwn.never (pt_cmpR (opK (K := K) rNeI (op_neI hr.units)) (pv 2) (pe_lstN pa_nil) (nomark _)) (pss_one (ps_expr (pe_bm PySem.F.plainAttrs_list PySem.F.slot_list_append PySem.F.type_list_append mt_append (pv 3) (pa_cons (pe_bm PySem.F.plainAttrs_list PySem.F.slot_list_pop PySem.F.type_list_pop mt_popAt (pv 2) (pa_cons (C8.pe_c c_l_roll hr (by decide) (by rfl) (pa_cons (pv 0) (pa_cons (pe_callB (callK (K := K) Vf.rLen call_lenI) (by rfl) T.b_len (by decide +kernel) (pa_cons (pv 2) pa_nil)) pa_nil))) pa_nil)) pa_nil)))))
      (pss_one (ps_ret (pv 3))))), ?_⟩
    refine ⟨_, rfl, listL rfl hl fun p1 H1 n1 k1 hp1 => newL (sz_ (by simp)) fun p2 H2 n2 k2 hp2 => ⟨_, _, rfl, ?_⟩⟩
    have n2' : H p2 = none := k1.live _ n2
    have hne : p1 ≠ p2 := ne_of_none hp1 n2
    have fin : mixW a l p1 p2 xs H xs.length [some (.ref a), some (.ref l), some (.ref p1), some (.ref p2)] H2 := ⟨xs, [], rfl, rfl, .of hd (k1.trans k2), k2.keep _ _ (fun z => z) hp1, hp2, .refl _⟩
    refine ⟨mixW a l p1 p2 xs H, ⟨_, fin⟩, ?_⟩
    rintro m σ H3 ⟨A, B, rfl, rfl, d3, hA, hB, hperm⟩
    refine ⟨_, rfl, newL (sz_ (by simp)) fun p4 H4 n4 k4 hp4 => neNilI (SqL.of (k4.keep _ _ (fun z => z) hA)) (SqL.of hp4) (((hi.kp d3.kp).kp k4).sub fun u m => hperm.mem_iff.mp (List.mem_append_right _ m)) ⟨_, rfl, ?_⟩⟩
    have d4 := d3.trans (.of d3.dc k4)
    have hA4 := k4.keep _ _ (fun z => z) hA
    have hB4 := k4.keep _ _ (fun z => z) hB
    have hlen : (B ++ A).length ≤ 1000 := by rw [hperm.length_eq]; exact h1
    rw [List.length_append] at hlen
    cases A with
    | nil =>
      refine iteF ?_
      exact ⟨_, rfl, q _ _ _ n2' d4 hB4 (by simpa using hperm)⟩
    | cons x A =>
      refine iteT ⟨fun σ' H' => ∃ m', m' < (x :: A).length ∧ mixW a l p1 p2 xs H m' σ' H', fun σ' H' z => z, ?_⟩
      refine ⟨_, rfl, .inl ⟨rfl, _, SqL.of hB4⟩, _, rfl, .inl ⟨rfl, _, SqL.of hA4⟩, _, rfl, _, rfl, lenL rfl (SqL.of hA4) ⟨_, _, rfl, d4.dc, by simp, ?_, fun r H5 r0 r1 d5 => ?_⟩⟩
      · exact Nat.lt_of_le_of_lt (by omega : (((x :: A).length : Nat) : Int).natAbs ≤ 1000) (by decide)
      · have rl : r.toNat < (x :: A).length := by omega
        have np1 : p1 ≠ a := fun z => hd.ne n1 z.symm
        have np2 : p2 ≠ a := fun z => hd.ne n2' z.symm
        have hA5 := d5.lst np1 hA4
        have hB5 := d5.lst np2 hB4
        have e1 : seqIndex? r (x :: A).length = some r.toNat := by
          have := seq_nat (i := r.toNat) (n := (x :: A).length) rl
          rwa [Int.toNat_of_nonneg r0] at this
        have hg : (x :: A)[r.toNat]? = some (x :: A)[r.toNat] := List.getElem?_eq_getElem rl
        refine ⟨p1, _, _, r.toNat, (x :: A)[r.toNat], rfl, rfl, hA5, by omega, by omega, e1, hg, ?_⟩
        have hB6 : upd H5 p1 (.lst ((x :: A).eraseIdx r.toNat)) p2 = some (.lst B) := by rw [upd_ne hne.symm]; exact hB5
        refine ⟨p2, _, _, rfl, rfl, hB6, Nat.lt_of_le_of_lt (by omega : B.length ≤ 1000) (by decide), ?_⟩
        have hp := perm_pop hg
        have lenE : ((x :: A).eraseIdx r.toNat).length = A.length := by
          have := hp.length_eq
          simp only [List.length_cons] at this
          omega
        refine ⟨((x :: A).eraseIdx r.toNat).length, by rw [lenE]; simp, (x :: A).eraseIdx r.toNat, B ++ [(x :: A)[r.toNat]], rfl, rfl, ⟨.mut0 n2' (.mut0 n1 (d4.kp.trans d5.kp)), (d5.dc.upd_ne np1.symm).upd_ne np2.symm⟩, ?_, ?_, ?_⟩
        · rw [upd_ne hne, upd_same]
        · rw [upd_same]
        · rw [List.append_assoc]
          exact (List.Perm.append_left B hp).trans hperm

def sp_l_times (K : PySem.W.Frag) : Sp := fun vs H Q _ => ∃ a b ns ms, vs = [.ref a, .ref b] ∧ H a = some (.tup (ns.map V.int)) ∧ H b = some (.tup (ms.map V.int)) ∧ Row ns ∧ Row ms ∧ ms.length = ns.length ∧ ∀ H', Kp N0 H H' → Q (.int (dot ns ms)) H'
def sp_l_cubic (K : PySem.W.Frag) : Sp := fun vs H Q _ => ∃ (n : Nat), vs = [.int n] ∧ 3 ≤ n ∧ n ≤ 16 ∧ ∀ p H', Kp N0 H H' → H' p = some (.tup ((crow n).map V.int)) → Q (.ref p) H'
theorem crow_row {n : Nat} (h1 : 3 ≤ n) (h2 : n ≤ 16) : Row (crow n) := by
  refine ⟨by simp [crow]; omega, by simp [crow]; omega, fun x hx => ?_⟩
  have : x = 3 ∨ x = 1 := by
    rcases List.mem_cons.mp hx with rfl | hx
    · exact .inl rfl
    · exact .inr (List.eq_of_mem_replicate hx)
  rcases this with rfl | rfl <;> exact sh_small (by decide) (by decide)
theorem dot_crow {ns : List Int} {n : Nat} (h : ns.length = n + 1) : dot ns (crow n) = cub ns := by
  obtain ⟨d, ms, rfl⟩ : ∃ d ms, ns = d :: ms := by
    cases ns with
    | nil => simp at h
    | cons d ms => exact ⟨d, ms, rfl⟩
  show d * 3 - (List.zipWith (· * ·) ms (List.replicate n 1)).sum = 3 * d - ms.sum
  have e : ∀ (ms : List Int) (n : Nat), ms.length = n → List.zipWith (· * ·) ms (List.replicate n 1) = ms := by
    intro ms
    induction ms with
    | nil => intro n _; simp
    | cons x r ih =>
      intro n hn
      cases n with
      | zero => simp at hn
      | succ n =>
        rw [List.replicate_succ, List.zipWith_cons_cons, ih n (by simpa using hn), Int.mul_one]
  rw [e ms n (by simpa using h)]
  omega
def sp_l_counting (K : PySem.W.Frag) : Sp := fun vs H Q _ => ∃ a ns, vs = [.ref a] ∧ H a = some (.tup (ns.map V.int)) ∧ Row ns ∧ ∀ H', Kp N0 H H' → Q (.int (cntg ns)) H'
/-! ### rows that are drawn -/
def sp_l_point_row (K : PySem.W.Frag) : Sp := fun vs H Q _ => ∃ (n i : Nat), vs = [.int n, .int i] ∧ n ≤ 16 ∧ ∀ p H', Kp N0 H H' → H' p = some (.tup ((prow n i).map V.int)) → Q (.ref p) H'
theorem ok_l_point_row (T : Txt K mg) (D : Df K mg "_law_point_row" s_l_point_row ["_law_n", "_law_at"]) : C8.Cal P w K mg base 1 "_law_point_row" (sp_l_point_row K) [] := by
  obtain ⟨f, fd, D, hb⟩ := D
  refine C8.cal0 D (.all hb) .nil sc_l_point_row (fun vs H Q E h => ?_) (fun cdv A outer s H vs Q E hr h => ?_)
  · obtain ⟨_, _, rfl, _⟩ := h; rfl
  · obtain ⟨n, i, rfl, h2, q⟩ := h
    refine ⟨_, (pss_one (ps_ret (pe_callTy (callK (K := K) rTupOf call_tupI) (by rfl) T.b_tuple (by decide +kernel) (pa_cons (pe_op op_catLI (pe_lstN (pa_cons pe_int pa_nil)) (pe_lc (own := [("_law_place", 2)]) (g := gName 2) rfl sc_l_point_row.nd (pi_range1 (by rfl) T.b_range (pa_cons (pv 0) pa_nil)) (C8b.blk (N := ["_law_n", "_law_at", "_law_place"]) (sc := C8.fnScope s_l_point_row) (by decide +kernel)) (fun _ _ _ _ _ => (pg_name (i := 2) sc_l_point_row.nd rfl (Or.inl rfl))) (fun _ _ _ _ _ => pts_nil) (fun _ _ _ _ _ => (pe_op op_sub pe_int (pe_callTy call_int1 (by rfl) T.b_int (by decide +kernel) (pa_cons (pe_cmpR op_eq (pv 2) (pv 1) (nomark _)) pa_nil)))))) pa_nil)))), ?_⟩
    refine newL (sz_ (by simp)) fun p1 H1 n1 k1 hp1 => ?_
    refine ⟨_, rfl, _, rfl, by omega, by omega, ?_⟩
    refine lc_ints walk_range (fun j => 0 - (if j = i then 1 else 0)) (by omega) (fun _ _ => trivial) ?_ ?_
    · rintro j x H3 H4 hj k ⟨rfl, rfl⟩ R hR
      refine ⟨rfl, _, rfl, _, rfl, rfl, .inr ⟨_, rfl, _, _, rfl, rfl, ?_⟩⟩
      have e : (if decide (V.int (0 + (j : Int)) = V.int (i : Int)) = true then (1 : Int) else 0) = if j = i then 1 else 0 := by
        by_cases e : j = i
        · subst e
          rw [if_pos rfl, if_pos (decide_eq_true (by rw [Int.zero_add]))]
        · rw [if_neg e, if_neg (fun z => e (by have := V.int.inj (of_decide_eq_true z); omega))]
      show R (V.int (0 - (if decide (V.int (0 + (j : Int)) = V.int (i : Int)) = true then (1 : Int) else 0))) _
      rw [e]
      exact hR _ (.refl _ _)
    · intro D H3 k3 h3
      refine catL (k3.keep _ _ (fun z => z) hp1) h3 (sz_ (by simp; omega)) fun p4 H4 _ k4 hp4 => ?_
      refine tupL rfl (SqL.of hp4) fun p5 H5 _ k5 hp5 => q _ _ (((k1.trans k3).trans k4).trans k5) hp5
def sumr : List Int → List (List Int) → List Int → List Int
  | acc, r :: rs, n :: ns => sumr (List.zipWith (fun x y => x + n * y) acc r) rs ns
  | acc, _, _ => acc
theorem sumr_take (acc : List Int) (rs : List (List Int)) (ns : List Int) (i : Nat) (r : List Int) (n : Int) (h1 : rs[i]? = some r) (h2 : ns[i]? = some n) :
    sumr acc (rs.take (i + 1)) (ns.take (i + 1)) = List.zipWith (fun x y => x + n * y) (sumr acc (rs.take i) (ns.take i)) r := by
  induction i generalizing acc rs ns with
  | zero =>
    cases rs with
    | nil => simp at h1
    | cons r' rs =>
      cases ns with
      | nil => simp at h2
      | cons n' ns =>
        cases h1
        cases h2
        simp [sumr]
  | succ i ih =>
    cases rs with
    | nil => simp at h1
    | cons r' rs =>
      cases ns with
      | nil => simp at h2
      | cons n' ns =>
        simp only [List.take_succ_cons, sumr]
        exact ih _ rs ns (by simpa using h1) (by simpa using h2)
theorem sumr_len (acc : List Int) (rs : List (List Int)) (ns : List Int) (h : ∀ r ∈ rs, r.length = acc.length) : (sumr acc rs ns).length = acc.length := by
  induction rs generalizing acc ns with
  | nil => cases ns <;> rfl
  | cons r rs ih =>
    cases ns with
    | nil => rfl
    | cons n ns =>
      have h0 := h r List.mem_cons_self
      have e : (List.zipWith (fun x y => x + n * y) acc r).length = acc.length := by simp [h0]
      show (sumr _ rs ns).length = _
      rw [ih _ ns (fun r' hr' => by rw [e]; exact h r' (List.mem_cons_of_mem _ hr')), e]
def W700 (ns : List Int) : Prop := ∀ x ∈ ns, x.natAbs < 2 ^ 700
theorem W700.at {ns : List Int} (h : W700 ns) {i : Nat} (hi : i < ns.length) : (ns.getD i 0).natAbs < 2 ^ 700 := by
  rw [List.getD_eq_getElem?_getD, List.getElem?_eq_getElem hi]
  exact h _ (List.getElem_mem hi)
def sp_l_sum (K : PySem.W.Frag) : Sp := fun vs H Q _ => ∃ (a b : Addr) (ws : List V) (rs : List (List Int)) (ns : List Int) (L : Nat), vs = [.ref a, .ref b] ∧ H a = some (.lst ws) ∧ RwK K H ws rs ∧ H b = some (.lst (ns.map V.int)) ∧ rs.length = ns.length ∧ 0 < rs.length ∧ rs.length ≤ 100 ∧ L ≤ 100 ∧
  (∀ r ∈ rs, r.length = L ∧ W700 r) ∧ W700 ns ∧ ∀ p H', Kp N0 H H' → H' p = some (.tup ((sumr (List.replicate L 0) rs ns).map V.int)) → Q (.ref p) H'
theorem ok_l_sum (T : Txt K mg) (D : Df K mg "_law_sum" s_l_sum ["_law_rows", "_law_numbers"]) : C8.Cal P w K mg base 1 "_law_sum" (sp_l_sum K) [] := by
  obtain ⟨f, fd, D, hb⟩ := D
  refine C8.cal0 D (.all hb) .nil sc_l_sum (fun vs H Q E h => ?_) (fun cdv A outer s H vs Q E hr h => ?_)
  · obtain ⟨_, _, _, _, _, _, rfl, _⟩ := h; rfl
  · obtain ⟨a, b, ws, rs, ns, L, rfl, ha, hw, hb, hl, h0, h1, hL, hr2, hn2, q⟩ := h
    refine ⟨_, (pss_cons (ps_set (i := 2) sc_l_sum.nd rfl (Or.inl rfl) (pe_op op_repLI (pe_lstN (pa_cons pe_int pa_nil)) (pe_callB (callK (K := K) Vf.rLen call_lenI) (by rfl) T.b_len (by decide +kernel) (pa_cons (pe_ix (ixK (K := K) rIxL ix_list) (pv 0) pe_int (fun _ _ => rfl)) pa_nil))))
      (pss_cons (ps_for PassesOwn.never rfl (pi_zip (by rfl) T.b_zip (pa_cons (pv 0) (pa_cons (pv 1) pa_nil))) (pg_tup rfl (pgs_cons (pg_name (i := 3) sc_l_sum.nd rfl (Or.inl rfl)) (pgs_cons (pg_name (i := 4) sc_l_sum.nd rfl (Or.inr rfl)) pgs_nil))) (pss_one (ps_setLc (i := 2) (own := [("_law_one", 5), ("_law_other", 6)]) (g := gTup K 2 (gCons (gName 5) (gCons (gName 6) gNil))) rfl sc_l_sum.nd rfl rfl (sw_true rfl rfl rfl (by decide +kernel)) (pi_zipLT (by rfl) T.b_zip (pa_cons (pv 2) (pa_cons (pv 3) pa_nil))) (C8b.blk (N := ["_law_rows", "_law_numbers", "_law_found", "_law_row", "_law_number", "_law_one", "_law_other"]) (sc := C8.fnScope s_l_sum) (by decide +kernel)) (fun _ _ _ _ _ => (pg_tup rfl (pgs_cons (pg_name (i := 5) sc_l_sum.nd rfl (Or.inl rfl)) (pgs_cons (pg_name (i := 6) sc_l_sum.nd rfl (Or.inl rfl)) pgs_nil)))) (fun _ _ _ _ _ => pts_nil) (fun _ _ _ _ _ => (pe_op op_add (pv 5) (pe_op op_mulE (pv 4) (pv 6)))))))
      (pss_one (ps_ret (pe_callTy (callK (K := K) rTupOf call_tupI) (by rfl) T.b_tuple (by decide +kernel) (pa_cons (pv 2) pa_nil)))))), ?_⟩
    refine newL (sz_ (by simp)) fun p1 H1 n1 k1 hp1 => ?_
    have ha1 := k1.keep _ _ (fun z => z) ha
    have hw1 := hw.kp k1
    have hwl := hw.len
    obtain ⟨v0, hv0⟩ : ∃ v, ws[0]? = some v := ⟨ws[0]'(by omega), by rw [List.getElem?_eq_getElem]⟩
    obtain ⟨p0, r0, rfl, hr0, hp0⟩ := hw1.get hv0
    refine ⟨_, rfl, a, _, _, _, rfl, rfl, SqL.of ha1, atI_nat (j := 0) hv0, lenS rfl hp0 ?_⟩
    have hr0L := (hr2 r0 (List.mem_of_getElem? hr0)).1
    refine repL hp1 (by omega) (by rw [List.length_map]; omega) fun p2 H2 n2 k2 hp2 => ?_
    have e0 : ((List.replicate (((r0.map V.int).length : Nat) : Int).toNat (0 : Int))) = List.replicate L 0 := by
      rw [List.length_map, hr0L]
      rfl
    rw [e0] at hp2
    have k02 := k1.trans k2
    have ha2 := k02.keep _ _ (fun z => z) ha
    have hb2 := k02.keep _ _ (fun z => z) hb
    refine ⟨_, rfl, _, rfl, a, b, _, _, rfl, SqL.of ha2, SqL.of hb2, ?_⟩
    refine for_it (n := ns.length) (walk_zip (K := K) (a := a) (b := b) (xs := ws) (ys := ns.map V.int) (by simp; omega)) (fun i σ H' => ∃ p v3 v4 v5 v6, σ = [some (.ref a), some (.ref b), some (.ref p), v3, v4, v5, v6] ∧ Kp N0 H H' ∧ H' p = some (.lst ((sumr (List.replicate L 0) (rs.take i) (ns.take i)).map V.int)))
      ⟨p2, _, _, _, _, rfl, k02, by simpa [sumr] using hp2⟩ (fun i σ H' _ ⟨_, _, _, _, _, _, k, _⟩ => ⟨SqL.of (k.keep _ _ (fun z => z) ha), SqL.of (k.keep _ _ (fun z => z) hb)⟩) ?_ ?_
    · rintro i x σ H3 H4 hi ⟨p, v3, v4, v5, v6, rfl, k3, hp3⟩ ⟨T, x1, x2, rfl, hT, rfl, e1, e2⟩
      have k3' : Kp N0 H3 (upd H3 T (.tup [x1, x2])) := .new hT
      obtain ⟨pr, r, rfl, hr, hpr⟩ := (hw.kp (k3.trans k3')).get e1
      obtain rfl : x2 = _ := (Option.some.inj ((int_at (ns := ns) hi).symm.trans e2)).symm
      have hn : ns[i]? = some (ns.getD i 0) := by rw [List.getD_eq_getElem?_getD, List.getElem?_eq_getElem hi]; rfl
      have hrL := hr2 r (List.mem_of_getElem? hr)
      refine ⟨T, _, rfl, SqT.of upd_same, rfl, _, _, rfl, _, _, rfl, rfl, ?_⟩
      have hp4 := k3'.keep _ _ (fun z => z) hp3
      have hsl : (sumr (List.replicate L 0) (rs.take i) (ns.take i)).length = L := by
        rw [sumr_len _ _ _ fun r' hr' => by rw [(hr2 r' (List.mem_of_mem_take hr')).1]; simp]
        simp
      refine ⟨_, rfl, _, rfl, p, pr, _, _, rfl, SqL.of hp4, hpr, ?_⟩
      refine lc_ints (walk_zipLT rfl) (fun j => (sumr (List.replicate L 0) (rs.take i) (ns.take i)).getD j 0 + ns.getD i 0 * r.getD j 0) (by simp; omega) (fun H' k => ⟨SqL.of (k.keep _ _ (fun z => z) hp4), k.sqT hpr⟩) ?_ ?_
      · rintro j x H5 H6 hj k5 ⟨T2, y1, y2, rfl, hT2, rfl, f1, f2⟩ R hR
        have hj1 : j < (sumr (List.replicate L 0) (rs.take i) (ns.take i)).length := by simp at hj; omega
        have hj2 : j < r.length := by simp at hj; omega
        obtain rfl : y1 = _ := (Option.some.inj ((int_at hj1).symm.trans f1)).symm
        obtain rfl : y2 = _ := (Option.some.inj ((int_at hj2).symm.trans f2)).symm
        exact ⟨T2, _, rfl, SqT.of upd_same, rfl, _, _, rfl, _, _, rfl, rfl, rfl, _, rfl, _, rfl, _, rfl, _, _, rfl, rfl, wide_sh (hn2.at hi) (hrL.2.at hj2), _, _, rfl, rfl, hR _ (.new hT2)⟩
      · intro D H5 k5 h5
        rw [range_zip (fun x y => x + ns.getD i 0 * y) _ r _ (by simp), ← sumr_take _ _ _ _ _ _ hr hn] at h5
        exact ⟨D, _, _, _, _, rfl, (k3.trans k3').trans k5, h5⟩
    · rintro σ H3 ⟨p, v3, v4, v5, v6, rfl, k3, hp3⟩
      rw [List.take_of_length_le (by omega), List.take_of_length_le (by omega)] at hp3
      exact ⟨_, rfl, tupL rfl (SqL.of hp3) fun p4 H4 _ k4 hp4 => q _ _ (k3.trans k4) hp4⟩
def GenR (n : Nat) (r : List Int) : Prop := r.length = n + 1 ∧ ∀ x ∈ r, 0 ≤ x ∧ x ≤ 3
theorem gen_of {n : Nat} {xs ys zs : List Int} (hx : ∀ x ∈ xs, 0 ≤ x ∧ x ≤ 3) (i j : Int) (hi : 0 ≤ i ∧ i ≤ 3) (hj : 0 ≤ j ∧ j ≤ 3) (hy : ∀ y ∈ ys, y = i) (hz : ∀ z ∈ zs, z = j) (hl : xs.length + ys.length + zs.length = n + 1) : GenR n (xs ++ ys ++ zs) := by
  refine ⟨by simp; omega, fun x h => ?_⟩
  rcases List.mem_append.mp h with h | h
  · rcases List.mem_append.mp h with h | h
    · exact hx x h
    · rw [hy x h]; exact hi
  · rw [hz x h]; exact hj
def genL (n : Nat) : List (List Int) := [[1] ++ List.replicate n 0 ++ [], [1, 1] ++ List.replicate (n - 1) 0 ++ [], [2, 1, 1] ++ List.replicate (n - 2) 0 ++ []] ++ (List.range (((n : Int) + 1) - 3).toNat).map fun i => [3] ++ List.replicate (3 + i) 1 ++ List.replicate (n - (3 + i)) 0
def sp_l_generators (K : PySem.W.Frag) : Sp := fun vs H Q _ => ∃ (n : Nat), vs = [.int n] ∧ 3 ≤ n ∧ n ≤ 16 ∧ ∀ p H' ws rs, H p = none → Kp N0 H H' → H' p = some (.lst ws) → Rws H' ws rs → rs.length = n + 1 → (∀ r ∈ rs, GenR n r) → rs = genL n → Q (.ref p) H'
theorem sumr_gen (n : Nat) (M : Int) (hM : 0 ≤ M) : ∀ (acc : List Int) (rs : List (List Int)) (ns : List Int) (b : Int), (∀ x ∈ acc, 0 ≤ x ∧ x ≤ b) → (∀ r ∈ rs, GenR n r) → (∀ z ∈ ns, 0 ≤ z ∧ z ≤ M) → ∀ x ∈ sumr acc rs ns, 0 ≤ x ∧ x ≤ b + 3 * M * rs.length
  | acc, [], ns, b, ha, _, _ => by
    cases ns <;> (intro x hx; have := ha x hx; simp; exact this)
  | acc, r :: rs, [], b, ha, _, _ => by
    intro x hx
    have h1 := ha x hx
    have h2 : 0 ≤ 3 * M * ((r :: rs).length : Int) := Int.mul_nonneg (by omega) (by omega)
    exact ⟨h1.1, by omega⟩
  | acc, r :: rs, m :: ns, b, ha, hr, hn => by
    intro x hx
    have ih := sumr_gen n M hM (List.zipWith (fun x y => x + m * y) acc r) rs ns (b + 3 * M) (fun u hu => by
      obtain ⟨i, hi, e⟩ := List.mem_iff_getElem.mp hu
      rw [List.getElem_zipWith] at e
      rw [List.length_zipWith] at hi
      have h1 := ha _ (List.getElem_mem (show i < acc.length by omega))
      have h2 := (hr r List.mem_cons_self).2 _ (List.getElem_mem (show i < r.length by omega))
      have h3 := hn m List.mem_cons_self
      have h4 : 0 ≤ m * r[i]'(by omega) := Int.mul_nonneg h3.1 h2.1
      have h5 : m * r[i]'(by omega) ≤ M * 3 := Int.mul_le_mul h3.2 h2.2 h2.1 hM
      omega) (fun r' h' => hr r' (List.mem_cons_of_mem _ h')) (fun z hz => hn z (List.mem_cons_of_mem _ hz)) x hx
    have e : 3 * M * ((r :: rs).length : Int) = 3 * M * (rs.length : Int) + 3 * M := by
      rw [List.length_cons]
      push_cast
      rw [Int.mul_add, Int.mul_one]
    omega
theorem w_small {ns : List Int} (h : ∀ x ∈ ns, -(10 ^ 90) ≤ x ∧ x ≤ 10 ^ 90) : W700 ns := fun x hx => by
  have := h x hx
  have e : ((10 : Int) ^ 90).natAbs < 2 ^ 700 := by decide +kernel
  omega
theorem sq_lst_dr {a p : Addr} {H H' : Hp} {K : PySem.W.Frag} {xs : List V} (n : p ≠ a) (h : H p = some (.lst xs)) (d : DR a H H') : SqL K H' p xs := SqL.of (d.lst n h)
def sp_l_standard (K : PySem.W.Frag) : Sp := fun vs H Q _ => ∃ (a : Addr) (n m : Nat), vs = [.ref a, .int n, .int m] ∧ Dc a H ∧ 3 ≤ n ∧ n ≤ 16 ∧ m ≤ 100 ∧ ∀ p H' (ns : List Int), DR a H H' → H' p = some (.tup (ns.map V.int)) → ns.length = n + 1 → (∀ x ∈ ns, 0 ≤ x ∧ x ≤ 10000) → Q (.ref p) H'
def sp_l_small_row (K : PySem.W.Frag) : Sp := fun vs H Q _ => ∃ (a : Addr) (n m : Nat), vs = [.ref a, .int n, .int m] ∧ Dc a H ∧ 3 ≤ n ∧ n ≤ 16 ∧ m ≤ 1000 ∧ ∀ p H' (ns : List Int), DR a H H' → H' p = some (.tup (ns.map V.int)) → ns.length = n + 1 → (∀ x ∈ ns, -10000 ≤ x ∧ x ≤ 10000) → Q (.ref p) H'
theorem nb {x : Int} (h : -100000 ≤ x ∧ x ≤ 100000) : x.natAbs < 2 ^ 700 := Nat.lt_of_le_of_lt (by omega : x.natAbs ≤ 100000) (by decide)
def sp_l_great_row (K : PySem.W.Frag) : Sp := fun vs H Q _ => ∃ (a : Addr) (n : Nat) (f : Int), vs = [.ref a, .int n, .int f] ∧ Dc a H ∧ 3 ≤ n ∧ n ≤ 16 ∧ ∀ p H' (ns : List Int), DR a H H' → H' p = some (.tup (ns.map V.int)) → ns.length = n + 1 → (∀ x ∈ ns, -(10 ^ 60) ≤ x ∧ x ≤ 10 ^ 60) → Q (.ref p) H'
/-! ### moves and words -/
inductive Mv where | sw (i j : Nat) | tn (i j k : Nat)
def Mv.val : Mv → List V
  | .sw i j => [.str "swap", .int i, .int j]
  | .tn i j k => [.str "turn", .int i, .int j, .int k]
def MvOk (n : Nat) : Mv → Prop
  | .sw i j => i < j ∧ j < n
  | .tn i j k => i < j ∧ j < k ∧ k < n
def act (r : List Int) : Mv → List Int
  | .sw i j => (r.set (1 + i) (r.getD (1 + j) 0)).set (1 + j) (r.getD (1 + i) 0)
  | .tn i j k =>
    let c := r.getD 0 0 - r.getD (1 + i) 0 - r.getD (1 + j) 0 - r.getD (1 + k) 0
    (((r.set 0 (r.getD 0 0 + c)).set (1 + i) (r.getD (1 + i) 0 + c)).set (1 + j) (r.getD (1 + j) 0 + c)).set (1 + k) (r.getD (1 + k) 0 + c)
def acts (r : List Int) (ms : List Mv) : List Int := ms.foldl act r
theorem act_len (r : List Int) (m : Mv) : (act r m).length = r.length := by
  cases m <;> simp [act]
theorem acts_len (r : List Int) (ms : List Mv) : (acts r ms).length = r.length := by
  induction ms generalizing r with
  | nil => rfl
  | cons m ms ih =>
    show (acts (act r m) ms).length = _
    rw [ih, act_len]
theorem mem_getD {r : List Int} {b : Int} (h : ∀ x ∈ r, -b ≤ x ∧ x ≤ b) (hb : 0 ≤ b) (i : Nat) : -b ≤ r.getD i 0 ∧ r.getD i 0 ≤ b := by
  by_cases hi : i < r.length
  · rw [List.getD_eq_getElem?_getD, List.getElem?_eq_getElem hi]
    exact h _ (List.getElem_mem hi)
  · rw [List.getD_eq_getElem?_getD, List.getElem?_eq_none (by omega)]
    exact ⟨by simp; omega, by simpa using hb⟩
theorem act_lim {r : List Int} {b : Int} (m : Mv) (h : ∀ x ∈ r, -b ≤ x ∧ x ≤ b) (hb : 0 ≤ b) : ∀ x ∈ act r m, -(5 * b) ≤ x ∧ x ≤ 5 * b := by
  intro x hx
  have g := mem_getD h hb
  cases m with
  | sw i j =>
    rcases List.mem_or_eq_of_mem_set hx with hx | rfl
    · rcases List.mem_or_eq_of_mem_set hx with hx | rfl
      · have := h x hx
        omega
      · have := g (1 + j)
        omega
    · have := g (1 + i)
      omega
  | tn i j k =>
    have g0 := g 0
    have g1 := g (1 + i)
    have g2 := g (1 + j)
    have g3 := g (1 + k)
    rcases List.mem_or_eq_of_mem_set hx with hx | rfl
    · rcases List.mem_or_eq_of_mem_set hx with hx | rfl
      · rcases List.mem_or_eq_of_mem_set hx with hx | rfl
        · rcases List.mem_or_eq_of_mem_set hx with hx | rfl
          · have := h x hx
            omega
          · omega
        · omega
      · omega
    · omega
theorem acts_lim (ms : List Mv) : ∀ {r : List Int} {b : Int}, (∀ x ∈ r, -b ≤ x ∧ x ≤ b) → 0 ≤ b → ∀ x ∈ acts r ms, -(5 ^ ms.length * b) ≤ x ∧ x ≤ 5 ^ ms.length * b := by
  induction ms with
  | nil =>
    intro r b h _ x hx
    have := h x hx
    simpa using this
  | cons m ms ih =>
    intro r b h hb x hx
    have := ih (act_lim m h hb) (by omega) x hx
    rw [List.length_cons, Int.pow_succ, Int.mul_assoc]
    exact this
/-- a move, a word as they stand -/
def Mvs (H : Hp) : List V → List Mv → Prop
  | [], [] => True
  | v :: vs, m :: ms => (∃ p, v = .ref p ∧ H p = some (.tup m.val)) ∧ Mvs H vs ms
  | _, _ => False
theorem Mvs.kp {S : Addr → Prop} {H H1 : Hp} (k : Kp S H H1) : ∀ {vs : List V} {ms : List Mv}, Mvs H vs ms → Mvs H1 vs ms
  | [], [], _ => trivial
  | _ :: _, _ :: _, ⟨⟨p, e, h⟩, t⟩ => ⟨⟨p, e, k.tup _ _ h⟩, Mvs.kp k t⟩
theorem Mvs.len {H : Hp} : ∀ {vs : List V} {ms : List Mv}, Mvs H vs ms → vs.length = ms.length
  | [], [], _ => rfl
  | _ :: _, _ :: _, ⟨_, t⟩ => by rw [List.length_cons, List.length_cons, Mvs.len t]
theorem Mvs.get {H : Hp} : ∀ {vs : List V} {ms : List Mv} {i : Nat} {v : V}, Mvs H vs ms → vs[i]? = some v → ∃ p m, v = .ref p ∧ ms[i]? = some m ∧ H p = some (.tup m.val)
  | [], [], i, v, _, h => by simp at h
  | u :: vs, r :: rs, 0, v, ⟨⟨p, e, h⟩, t⟩, hv => by
    cases hv
    exact ⟨p, r, e, rfl, h⟩
  | u :: vs, r :: rs, i + 1, v, ⟨_, t⟩, hv => Mvs.get (i := i) t (by simpa using hv)
theorem Mvs.app {H : Hp} : ∀ {vs ws : List V} {rs ss : List Mv}, Mvs H vs rs → Mvs H ws ss → Mvs H (vs ++ ws) (rs ++ ss)
  | [], _, [], _, _, t => t
  | _ :: _, _, _ :: _, _, ⟨x, t⟩, u => ⟨x, Mvs.app t u⟩
theorem Mvs.upd {H : Hp} {D : Addr} {zs zs' : List V} (hd : H D = some (.lst zs)) : ∀ {vs : List V} {ms : List Mv}, Mvs H vs ms → Mvs (upd H D (.lst zs')) vs ms
  | [], [], _ => trivial
  | _ :: _, _ :: _, ⟨⟨p, e, h⟩, t⟩ => ⟨⟨p, e, by rw [upd_ne (ne_of h hd (by intro z; cases z))]; exact h⟩, Mvs.upd hd t⟩
def Wd (H : Hp) (p : Addr) (ms : List Mv) : Prop := ∃ vs, H p = some (.tup vs) ∧ Mvs H vs ms
theorem Wd.kp {S : Addr → Prop} {H H1 : Hp} {p : Addr} {ms : List Mv} (k : Kp S H H1) (h : Wd H p ms) : Wd H1 p ms := by
  obtain ⟨vs, h1, h2⟩ := h
  exact ⟨vs, k.tup _ _ h1, h2.kp k⟩
def sp_l_word (K : PySem.W.Frag) : Sp := fun vs H Q _ => ∃ (a : Addr) (n m : Nat), vs = [.ref a, .int n, .int m] ∧ Dc a H ∧ 3 ≤ n ∧ n ≤ 16 ∧ m ≤ 100 ∧ ∀ p H' (ms : List Mv), DR a H H' → Wd H' p ms → ms.length ≤ m → (∀ x ∈ ms, MvOk n x) → Q (.ref p) H'
theorem three {n : Nat} {xs ys : List Int} (hn : 3 ≤ n) (h1 : xs.Perm ((List.range n).map fun i : Nat => 0 + (i : Int))) (h2 : ys.Perm (xs.take 3)) (h3 : ys.Pairwise (· ≤ ·)) : ∃ i j k : Nat, ys = [(i : Int), (j : Int), (k : Int)] ∧ i < j ∧ j < k ∧ k < n := by
  have nd : ((List.range n).map fun i : Nat => 0 + (i : Int)).Nodup := by
    have := List.nodup_range (n := n)
    exact List.Pairwise.map _ (fun a b h e => h (by omega)) this
  have nd2 : xs.Nodup := h1.nodup_iff.mpr nd
  have nd3 : (xs.take 3).Nodup := (List.take_sublist 3 xs).nodup nd2
  have nd4 : ys.Nodup := h2.nodup_iff.mpr nd3
  have hl : ys.length = 3 := by
    rw [h2.length_eq, List.length_take, h1.length_eq]
    simp
    omega
  have hm : ∀ y ∈ ys, ∃ i : Nat, y = (i : Int) ∧ i < n := by
    intro y hy
    have := h1.mem_iff.mp (List.mem_of_mem_take (h2.mem_iff.mp hy))
    obtain ⟨i, hi, rfl⟩ := List.mem_map.mp this
    exact ⟨i, by omega, List.mem_range.mp hi⟩
  match ys, hl with
  | [a, b, c], _ =>
    obtain ⟨i, rfl, hi⟩ := hm a (by simp)
    obtain ⟨j, rfl, hj⟩ := hm b (by simp)
    obtain ⟨k, rfl, hk⟩ := hm c (by simp)
    simp only [List.pairwise_cons, List.mem_cons, List.not_mem_nil, or_false, forall_eq_or_imp, forall_eq] at h3
    simp only [List.nodup_cons, List.mem_cons, List.not_mem_nil, or_false, not_or] at nd4
    exact ⟨i, j, k, rfl, by omega, by omega, hk⟩
theorem rgV_0 (n : Nat) : rgV 0 (n : Int) = ((List.range n).map fun i : Nat => 0 + (i : Int)).map V.int := by
  unfold rgV
  rw [List.map_map, show ((n : Int) - 0).toNat = n by omega]
  rfl
theorem ok_l_word (T : Txt K mg) (D : Df K mg "_law_word" s_l_word ["_law_dice_here", "_law_n", "_law_most"]) (c_l_roll : C8.Cal P w K mg base 1 "_law_roll" (sp_l_roll) []) (c_l_mixed : C8.Cal P w K mg base 2 "_law_mixed" (sp_l_mixed K) []) : C8.Cal P w K mg base 3 "_law_word" (sp_l_word K) [] := by
  obtain ⟨f, fd, D, hb⟩ := D
  refine C8.cal0 D (.all hb) .nil sc_l_word (fun vs H Q E h => ?_) (fun cdv A outer s H vs Q E hr h => ?_)
  · obtain ⟨_, _, _, rfl, _⟩ := h; rfl
  · obtain ⟨a, n, m, rfl, hd, h1, h2, hm, q⟩ := h
    refine ⟨_, (pss_cons (ps_set (i := 3) sc_l_word.nd rfl (Or.inl rfl) (pe_lstN pa_nil))
      (pss_cons (ps_for PassesOwn.never rfl (pi_range1 (by rfl) T.b_range (pa_cons (C8.pe_c c_l_roll hr (by decide) (by rfl) (pa_cons (pv 0) (pa_cons (pe_op op_add (pv 2) pe_int) pa_nil))) pa_nil)) (pg_name (i := 4) sc_l_word.nd rfl (Or.inl rfl)) (pss_cons (ps_set (i := 5) sc_l_word.nd rfl (Or.inl rfl) (pe_callB (callK (K := K) rSortI call_srtI) (by rfl) T.b_sorted (by decide +kernel) (pa_cons (pe_slice (slK (K := K) rSlLI sl_lstI) (C8.pe_c c_l_mixed hr (by decide) (by rfl) (pa_cons (pv 0) (pa_cons (pe_listRgN rfl (by rfl) T.b_list (prg_1 (by rfl) T.b_range (pv 1))) pa_nil))) po_none (po_some pe_int)) pa_nil)))
      (pss_cons (ps_set (i := 6) sc_l_word.nd rfl (Or.inl rfl) (C8.pe_c c_l_roll hr (by decide) (by rfl) (pa_cons (pv 0) (pa_cons pe_int pa_nil))))
      (pss_one (ps_expr (pe_bm PySem.F.plainAttrs_list PySem.F.slot_list_append PySem.F.type_list_append mt_append (pv 3) (pa_cons (pe_ifExp (pt_cmpR op_eq (pv 6) pe_int (nomark _)) (pe_tupN (pa_cons pe_str (pa_cons (pe_ix (ixK (K := K) rIxL ix_list) (pv 5) pe_int (fun _ _ => rfl)) (pa_cons (pe_ix (ixK (K := K) rIxL ix_list) (pv 5) pe_int (fun _ _ => rfl)) pa_nil)))) (pe_tupN (pa_cons pe_str (pa_cons (pe_ix (ixK (K := K) rIxL ix_list) (pv 5) pe_int (fun _ _ => rfl)) (pa_cons (pe_ix (ixK (K := K) rIxL ix_list) (pv 5) pe_int (fun _ _ => rfl)) (pa_cons (pe_ix (ixK (K := K) rIxL ix_list) (pv 5) pe_int (fun _ _ => rfl)) pa_nil)))))) pa_nil)))))))
      (pss_one (ps_ret (pe_callTy (callK (K := K) rTupOf call_tupI) (by rfl) T.b_tuple (by decide +kernel) (pa_cons (pv 3) pa_nil)))))), ?_⟩
    refine newL (sz_ (by simp)) fun p1 H1 n1 k1 hp1 => ?_
    have d1 : DR a H H1 := .of hd k1
    have np : p1 ≠ a := fun z => hd.ne n1 z.symm
    refine ⟨_, rfl, _, rfl, _, _, rfl, rfl, _, _, rfl, d1.dc, by omega, nb (by omega), fun r H2 r0 r1 d2 => ⟨_, rfl, by omega, by omega, ?_⟩⟩
    refine for_it (n := r.toNat) walk_range (fun i σ H' => ∃ v4 v5 v6 ws ms, σ = [some (.ref a), some (.int n), some (.int m), some (.ref p1), v4, v5, v6] ∧ DR a H H' ∧ H' p1 = some (.lst ws) ∧ Mvs H' ws ms ∧ ms.length = i ∧ ∀ x ∈ ms, MvOk n x)
      ⟨_, _, _, [], [], rfl, d1.trans d2, d2.lst np hp1, trivial, rfl, by simp⟩ (fun _ _ _ _ _ => trivial) ?_ ?_
    · rintro i x σ H3' H3 hi ⟨v4, v5, v6, ws, ms, rfl, d3, hw3, hm3, hml, hok⟩ ⟨rfl, rfl⟩
      refine ⟨_, rfl, _, rfl, _, rfl, rgL ⟨by omega, by omega, by omega, by omega, by omega⟩ fun p4 H4 n4 k4 hp4 => ?_⟩
      rw [rgV_0] at hp4
      have d4 := d3.trans (.of d3.dc k4)
      refine ⟨a, p4, _, rfl, d4.dc, .inl (SqL.of hp4), .ints _, by simp; omega, fun p5 H5 _ n5 d5 hp5 hperm0 => ?_⟩
      obtain ⟨us, rfl, hperm⟩ := perm_ints hperm0
      have hul : us.length = n := by rw [hperm.length_eq]; simp
      refine ⟨_, rfl, slL (SqL.of hp5) fun p6 H6 n6 k6 hp6 => ?_⟩
      rw [show (some (3 : Int)) = some ((3 : Nat) : Int) from rfl, cut_to, ← List.map_take] at hp6
      refine sortL rfl (SqL.of hp6) (by simp; omega) fun ys p7 H7 hperm2 hpw n7 k7 hp7 => ?_
      obtain ⟨i1, j1, k1', rfl, hij, hjk, hkn⟩ := three h1 hperm hperm2 hpw
      have d7 := (d4.trans d5).trans (.of d5.dc (k6.trans k7))
      refine ⟨_, rfl, _, _, rfl, d7.dc, by decide, by decide, fun w8 H8 _ _ d8 => ?_⟩
      have hp7a : p7 ≠ a := fun z => d5.dc.ne (k6.live _ n7) z.symm
      have hp78 := d8.lst hp7a hp7
      have hw8 := d8.lst np (k7.keep _ _ (fun z => z) (k6.keep _ _ (fun z => z) (d5.lst np (k4.keep _ _ (fun z => z) hw3))))
      have d8' := d7.trans d8
      have k38 : Kp (At a) H3 H8 := ((k4.up.trans d5.kp).trans (k6.trans k7).up).trans d8.kp
      have hm8 := hm3.kp k38
      have fin : ∀ (m' : Mv) (p9 : Addr) (H9 : Hp), Kp N0 H8 H9 → H9 p9 = some (.tup m'.val) → MvOk n m' → ∃ v4' v5' v6' ws' ms', [some (V.ref a), some (.int n), some (.int m), some (.ref p1), some (.int (0 + (i : Int))), some (.ref p7), some (.int w8)] = [some (.ref a), some (.int n), some (.int m), some (.ref p1), v4', v5', v6'] ∧ DR a H (upd H9 p1 (.lst (ws ++ [.ref p9]))) ∧ upd H9 p1 (.lst (ws ++ [.ref p9])) p1 = some (.lst ws') ∧ Mvs (upd H9 p1 (.lst (ws ++ [.ref p9]))) ws' ms' ∧ ms'.length = i + 1 ∧ ∀ x ∈ ms', MvOk n x := by
        intro m' p9 H9 k9 hp9 hm'
        have hw9 := k9.keep _ _ (fun z => z) hw8
        refine ⟨_, _, _, ws ++ [.ref p9], ms ++ [m'], rfl, ⟨.mut0 n1 (d8'.kp.trans k9.up), (d8.dc.kp k9).upd_ne np.symm⟩, upd_same, Mvs.app (Mvs.upd hw9 (hm8.kp k9)) ⟨⟨p9, rfl, ?_⟩, trivial⟩, by simp [hml], fun x hx => ?_⟩
        · rw [upd_ne (ne_of hp9 hw9 (by intro z; cases z))]
          exact hp9
        · rcases List.mem_append.mp hx with hx | hx
          · exact hok x hx
          · simp only [List.mem_cons, List.not_mem_nil, or_false] at hx
            rw [hx]; exact hm'
      have hsz : ws.length < sizeLine := Nat.lt_of_le_of_lt (by rw [hm3.len, hml]; omega : ws.length ≤ 1000) (by decide)
      refine ⟨_, rfl, .inl ⟨rfl, _, SqL.of hw8⟩, _, rfl, rfl, _, rfl, ite2 (fun _ => ?_) (fun _ => ?_)⟩
      · refine ⟨_, rfl, p7, _, _, _, rfl, rfl, SqL.of hp78, rfl, _, rfl, p7, _, _, _, rfl, rfl, SqL.of hp78, rfl, newT (sz_ (by simp)) fun p9 H9 _ k9 hp9 => ?_⟩
        exact ⟨p1, _, _, rfl, rfl, k9.keep _ _ (fun z => z) hw8, hsz, fin (.sw i1 j1) p9 H9 k9 hp9 ⟨hij, by omega⟩⟩
      · refine ⟨_, rfl, p7, _, _, _, rfl, rfl, SqL.of hp78, rfl, _, rfl, p7, _, _, _, rfl, rfl, SqL.of hp78, rfl, _, rfl, p7, _, _, _, rfl, rfl, SqL.of hp78, rfl, newT (sz_ (by simp)) fun p9 H9 _ k9 hp9 => ?_⟩
        exact ⟨p1, _, _, rfl, rfl, k9.keep _ _ (fun z => z) hw8, hsz, fin (.tn i1 j1 k1') p9 H9 k9 hp9 ⟨hij, hjk, hkn⟩⟩
    · rintro σ H3 ⟨v4, v5, v6, ws, ms, rfl, d3, hw3, hm3, hml, hok⟩
      refine ⟨_, rfl, tupL rfl (SqL.of hw3) fun p4 H4 _ k4 hp4 => ?_⟩
      exact q p4 H4 ms (d3.trans (.of d3.dc k4)) ⟨ws, hp4, hm3.kp k4⟩ (by omega) hok

def sp_l_move (K : PySem.W.Frag) : Sp := fun vs H Q _ => ∃ (a b : Addr) (ns : List Int) (m : Mv) (n : Nat), vs = [.ref a, .ref b] ∧ H a = some (.tup (ns.map V.int)) ∧ H b = some (.tup m.val) ∧ MvOk n m ∧ ns.length = n + 1 ∧ n ≤ 100 ∧ ∀ p H', Kp N0 H H' → H' p = some (.tup ((act ns m).map V.int)) → Q (.ref p) H'
theorem at1 {ns : List Int} {j : Nat} (h : 1 + j < ns.length) : atI (ns.map V.int) (1 + (j : Int)) = some (.int (ns.getD (1 + j) 0)) := by
  have := at_row (ns := ns) (j := 1 + j) h
  rw [show (((1 + j : Nat)) : Int) = 1 + (j : Int) by omega] at this
  exact this
theorem ix1 {n j : Nat} (h : 1 + j < n) : ixN n (1 + (j : Int)) = some (1 + j) := by
  have := Evl.ixN_nat (n := n) (j := 1 + j) h
  rw [show (((1 + j : Nat)) : Int) = 1 + (j : Int) by omega] at this
  exact this
def bump (c : Int) (l : List Int) (x : Nat) : List Int := l.set x (l.getD x 0 + c)
theorem bump_len (c : Int) (l : List Int) (x : Nat) : (bump c l x).length = l.length := by simp [bump]
theorem act_bump (r : List Int) (i j k : Nat) (h1 : i < j) (h2 : j < k) (c : Int) (hc : c = r.getD 0 0 - r.getD (1 + i) 0 - r.getD (1 + j) 0 - r.getD (1 + k) 0) :
    bump c (bump c (bump c (bump c r 0) (1 + i)) (1 + j)) (1 + k) = act r (.tn i j k) := by
  have g : ∀ (l : List Int) (x y : Nat) (v : Int), x ≠ y → (l.set x v).getD y 0 = l.getD y 0 := by
    intro l x y v h
    rw [List.getD_eq_getElem?_getD, List.getD_eq_getElem?_getD, List.getElem?_set_ne h]
  subst hc
  unfold bump act
  simp only
  rw [g _ 0 (1 + i) _ (by omega), g _ (1 + i) (1 + j) _ (by omega), g _ 0 (1 + j) _ (by omega), g _ (1 + j) (1 + k) _ (by omega), g _ (1 + i) (1 + k) _ (by omega), g _ 0 (1 + k) _ (by omega)]
def sp_l_moved (K : PySem.W.Frag) : Sp := fun vs H Q _ => ∃ (a b : Addr) (ns : List Int) (ms : List Mv) (n : Nat), vs = [.ref a, .ref b] ∧ H a = some (.tup (ns.map V.int)) ∧ Wd H b ms ∧ (∀ m ∈ ms, MvOk n m) ∧ ns.length = n + 1 ∧ n ≤ 100 ∧ ∀ p H', Kp N0 H H' → H' p = some (.tup ((acts ns ms).map V.int)) → Q (.ref p) H'
theorem acts_take (ns : List Int) (ms : List Mv) (i : Nat) (m : Mv) (h : ms[i]? = some m) : acts ns (ms.take (i + 1)) = act (acts ns (ms.take i)) m := by
  unfold acts
  rw [List.take_add_one, h]
  simp
def LimN (n : Nat) (b : Int) (ns : List Int) : Prop := ns.length = n + 1 ∧ ∀ x ∈ ns, -b ≤ x ∧ x ≤ b
def sp_l_full_row (K : PySem.W.Frag) : Sp := fun vs H Q _ => ∃ (a : Addr) (n m : Nat), vs = [.ref a, .int n, .int m] ∧ Dc a H ∧ 3 ≤ n ∧ n ≤ 16 ∧ m ≤ 100 ∧ ∀ p H' (ns : List Int), DR a H H' → H' p = some (.tup (ns.map V.int)) → LimN n (10 ^ 30) ns → Q (.ref p) H'
theorem sumr_abs (n : Nat) : ∀ (rs : List (List Int)) (ns : List Int) (acc : List Int) (b : Int), (∀ x ∈ acc, -b ≤ x ∧ x ≤ b) → (∀ r ∈ rs, ∀ x ∈ r, -1 ≤ x ∧ x ≤ 1) → (∀ z ∈ ns, -10 ≤ z ∧ z ≤ 10) → 0 ≤ b → ∀ x ∈ sumr acc rs ns, -(b + 10 * rs.length) ≤ x ∧ x ≤ b + 10 * rs.length
  | [], ns, acc, b, ha, _, _, _ => by
    cases ns <;> (intro x hx; have := ha x hx; simp; exact this)
  | r :: rs, [], acc, b, ha, _, _, hb => by
    intro x hx
    have h1 := ha x hx
    simp only [List.length_cons]
    omega
  | r :: rs, m :: ns, acc, b, ha, hr, hn, hb => by
    intro x hx
    have ih := sumr_abs n rs ns (List.zipWith (fun x y => x + m * y) acc r) (b + 10) (fun u hu => by
      obtain ⟨i, hi, e⟩ := List.mem_iff_getElem.mp hu
      rw [List.getElem_zipWith] at e
      rw [List.length_zipWith] at hi
      have h1 := ha _ (List.getElem_mem (show i < acc.length by omega))
      have h2 := hr r List.mem_cons_self _ (List.getElem_mem (show i < r.length by omega))
      have h3 := hn m List.mem_cons_self
      rcases (show r[i]'(by omega) = -1 ∨ r[i]'(by omega) = 0 ∨ r[i]'(by omega) = 1 by omega) with e3 | e3 | e3 <;> rw [e3] at e <;> omega) (fun r' h' => hr r' (List.mem_cons_of_mem _ h')) (fun z hz => hn z (List.mem_cons_of_mem _ hz)) (by omega) x hx
    simp only [List.length_cons]
    push_cast
    omega
theorem prow_ent {n i : Nat} : ∀ x ∈ prow n i, -1 ≤ x ∧ x ≤ 1 := by
  intro x hx
  rcases List.mem_cons.mp hx with rfl | hx
  · omega
  · obtain ⟨j, _, rfl⟩ := List.mem_map.mp hx
    split <;> omega
theorem prow_len {n i : Nat} : (prow n i).length = n + 1 := by simp [prow]
theorem pow5 {k m : Nat} (h : k ≤ m) : (5 : Int) ^ k ≤ 5 ^ m := by
  have := Nat.pow_le_pow_right (show 0 < 5 by decide) h
  exact_mod_cast this
def sp_l_row (K : PySem.W.Frag) : Sp := fun vs H Q _ => ∃ (a : Addr) (n m : Nat), vs = [.ref a, .int n, .int m] ∧ Dc a H ∧ 3 ≤ n ∧ n ≤ 16 ∧ m ≤ 100 ∧ ∀ p H' (ns : List Int), DR a H H' → H' p = some (.tup (ns.map V.int)) → LimN n (10 ^ 30) ns → Q (.ref p) H'
def sp_l_any_row (K : PySem.W.Frag) : Sp := fun vs H Q _ => ∃ (a : Addr) (n : Nat), vs = [.ref a, .int n] ∧ Dc a H ∧ 3 ≤ n ∧ n ≤ 16 ∧ ∀ p H' (ns : List Int), DR a H H' → H' p = some (.tup (ns.map V.int)) → LimN n (10 ^ 60) ns → Q (.ref p) H'
/-! ### the mathematics of products -/
theorem big_lt : (10 : Int) ^ 60 < TL := by decide +kernel
theorem LimN.row {n : Nat} {b : Int} {r : List Int} (h : LimN n b r) (h1 : 3 ≤ n) (h2 : n ≤ 16) (hb : b < TL) : Row r := ⟨by have := h.1; omega, by have := h.1; omega, fun x hx => by
  have := h.2 x hx
  exact ⟨by omega, by omega⟩⟩
theorem limN_add {n : Nat} {b c : Int} {r s : List Int} (h : LimN n b r) (g : LimN n c s) : LimN n (b + c) (List.zipWith (· + ·) r s) := by
  have l1 := h.1
  have l2 := g.1
  refine ⟨by simp; omega, fun x hx => ?_⟩
  obtain ⟨i, hi, e⟩ := List.mem_iff_getElem.mp hx
  rw [List.getElem_zipWith] at e
  rw [List.length_zipWith] at hi
  have h3 := h.2 _ (List.getElem_mem (show i < r.length by omega))
  have h4 := g.2 _ (List.getElem_mem (show i < s.length by omega))
  omega
theorem abs_mul {a b x y : Int} (hx : -a ≤ x ∧ x ≤ a) (hy : -b ≤ y ∧ y ≤ b) : -(a * b) ≤ x * y ∧ x * y ≤ a * b := by
  have h1 : (x * y).natAbs ≤ a.toNat * b.toNat := by
    rw [Int.natAbs_mul]
    exact Nat.mul_le_mul (by omega) (by omega)
  have h2 : ((a.toNat * b.toNat : Nat) : Int) = a * b := by
    rw [Int.natCast_mul, Int.toNat_of_nonneg (by omega), Int.toNat_of_nonneg (by omega)]
  omega
theorem limN_mul {n : Nat} {b k c : Int} {r : List Int} (h : LimN n b r) (hc : -k ≤ c ∧ c ≤ k) : LimN n (k * b) (r.map (c * ·)) := by
  refine ⟨by rw [List.length_map]; exact h.1, fun x hx => ?_⟩
  obtain ⟨y, hy, rfl⟩ := List.mem_map.mp hx
  exact abs_mul hc (h.2 y hy)
theorem zw_comm (a b : List Int) : List.zipWith (· * ·) a b = List.zipWith (· * ·) b a := by
  induction a generalizing b with
  | nil => simp
  | cons x a ih =>
    cases b with
    | nil => rfl
    | cons y b => rw [List.zipWith_cons_cons, List.zipWith_cons_cons, ih, Int.mul_comm]
theorem dot_comm (r s : List Int) : dot r s = dot s r := by
  unfold dot
  rw [zw_comm, Int.mul_comm]
theorem zw_add (a b c : List Int) (h : b.length = a.length) : (List.zipWith (· * ·) (List.zipWith (· + ·) a b) c).sum = (List.zipWith (· * ·) a c).sum + (List.zipWith (· * ·) b c).sum := by
  induction a generalizing b c with
  | nil =>
    cases b with
    | nil => simp
    | cons y b => simp at h
  | cons x a ih =>
    cases b with
    | nil => simp at h
    | cons y b =>
      cases c with
      | nil => simp
      | cons z c =>
        simp only [List.zipWith_cons_cons, List.sum_cons]
        rw [ih b c (by simpa using h), Int.add_mul]
        omega
theorem cons_of {n : Nat} {r : List Int} (h : r.length = n + 1) : ∃ d m, r = d :: m ∧ m.length = n := by
  cases r with
  | nil => simp at h
  | cons d m => exact ⟨d, m, rfl, by simpa using h⟩
theorem dot_add {n : Nat} {r s t : List Int} (hr : r.length = n + 1) (hs : s.length = n + 1) : dot (List.zipWith (· + ·) r s) t = dot r t + dot s t := by
  obtain ⟨d, m, rfl, hm⟩ := cons_of hr
  obtain ⟨e, k, rfl, hk⟩ := cons_of hs
  show (d + e) * t.getD 0 0 - (List.zipWith (· * ·) (List.zipWith (· + ·) m k) (t.drop 1)).sum = (d * t.getD 0 0 - (List.zipWith (· * ·) m (t.drop 1)).sum) + (e * t.getD 0 0 - (List.zipWith (· * ·) k (t.drop 1)).sum)
  rw [zw_add _ _ _ (by omega), Int.add_mul]
  omega
theorem zw_mul (c : Int) (a b : List Int) : (List.zipWith (· * ·) (a.map (c * ·)) b).sum = c * (List.zipWith (· * ·) a b).sum := by
  induction a generalizing b with
  | nil => simp
  | cons x a ih =>
    cases b with
    | nil => simp
    | cons y b =>
      simp only [List.map_cons, List.zipWith_cons_cons, List.sum_cons]
      rw [ih, Int.mul_add, Int.mul_assoc]
theorem dot_mul {n : Nat} {r t : List Int} (c : Int) (hr : r.length = n + 1) : dot (r.map (c * ·)) t = c * dot r t := by
  obtain ⟨d, m, rfl, hm⟩ := cons_of hr
  show (c * d) * t.getD 0 0 - (List.zipWith (· * ·) (m.map (c * ·)) (t.drop 1)).sum = c * (d * t.getD 0 0 - (List.zipWith (· * ·) m (t.drop 1)).sum)
  rw [zw_mul, Int.mul_sub, Int.mul_assoc]
theorem sum_zadd (a b : List Int) (h : b.length = a.length) : (List.zipWith (· + ·) a b).sum = a.sum + b.sum := by
  induction a generalizing b with
  | nil =>
    cases b with
    | nil => simp
    | cons y b => simp at h
  | cons x a ih =>
    cases b with
    | nil => simp at h
    | cons y b =>
      simp only [List.zipWith_cons_cons, List.sum_cons]
      rw [ih b (by simpa using h)]
      omega
theorem cub_add {n : Nat} {r s : List Int} (hr : r.length = n + 1) (hs : s.length = n + 1) : cub (List.zipWith (· + ·) r s) = cub r + cub s := by
  obtain ⟨d, m, rfl, hm⟩ := cons_of hr
  obtain ⟨e, k, rfl, hk⟩ := cons_of hs
  show 3 * (d + e) - (List.zipWith (· + ·) m k).sum = (3 * d - m.sum) + (3 * e - k.sum)
  rw [sum_zadd _ _ (by omega)]
  omega
theorem sum_mul (c : Int) (a : List Int) : (a.map (c * ·)).sum = c * a.sum := by
  induction a with
  | nil => simp
  | cons x a ih => rw [List.map_cons, List.sum_cons, ih, List.sum_cons, Int.mul_add]
theorem cub_mul {n : Nat} {r : List Int} (c : Int) (hr : r.length = n + 1) : cub (r.map (c * ·)) = c * cub r := by
  obtain ⟨d, m, rfl, hm⟩ := cons_of hr
  show 3 * (c * d) - (m.map (c * ·)).sum = c * (3 * d - m.sum)
  rw [sum_mul, Int.mul_sub, ← Int.mul_assoc, ← Int.mul_assoc, Int.mul_comm 3 c]
theorem sq_par (x : Int) : (x * x) % 2 = x % 2 := by
  rcases (show x % 2 = 0 ∨ x % 2 = 1 by omega) with h | h <;> rw [Int.mul_emod, h] <;> rfl
theorem zw_par (m : List Int) : (List.zipWith (· * ·) m m).sum % 2 = m.sum % 2 := by
  induction m with
  | nil => rfl
  | cons x m ih =>
    simp only [List.zipWith_cons_cons, List.sum_cons]
    have := sq_par x
    omega
theorem par {n : Nat} {r : List Int} (hr : r.length = n + 1) : (dot r r + cub r) % 2 = 0 := by
  obtain ⟨d, m, rfl, hm⟩ := cons_of hr
  show (d * d - (List.zipWith (· * ·) m m).sum + (3 * d - m.sum)) % 2 = 0
  have h1 := sq_par d
  have h2 := zw_par m
  omega
theorem two_cntg {n : Nat} {r : List Int} (hr : r.length = n + 1) : 2 * cntg r = dot r r + cub r + 2 := by
  have := par hr
  unfold cntg
  omega
theorem two_gen {n : Nat} {r : List Int} (hr : r.length = n + 1) : 2 * gen r = dot r r - cub r + 2 := by
  have := par hr
  unfold gen
  omega
theorem dot_both {n : Nat} {r s : List Int} (hr : r.length = n + 1) (hs : s.length = n + 1) : dot (List.zipWith (· + ·) r s) (List.zipWith (· + ·) r s) = dot r r + dot s s + 2 * dot r s := by
  rw [dot_add hr hs, dot_comm r, dot_comm s, dot_add hr hs, dot_add hr hs, dot_comm s r]
  omega
theorem len_add {n : Nat} {r s : List Int} (hr : r.length = n + 1) (hs : s.length = n + 1) : (List.zipWith (· + ·) r s).length = n + 1 := by simp; omega
theorem cntg_both {n : Nat} {r s : List Int} (hr : r.length = n + 1) (hs : s.length = n + 1) : cntg (List.zipWith (· + ·) r s) = cntg r + cntg s + dot r s - 1 := by
  have h1 := two_cntg (len_add hr hs)
  have h2 := two_cntg hr
  have h3 := two_cntg hs
  rw [dot_both hr hs, cub_add hr hs] at h1
  omega
theorem gen_both {n : Nat} {r s : List Int} (hr : r.length = n + 1) (hs : s.length = n + 1) : gen (List.zipWith (· + ·) r s) = gen r + gen s + dot r s - 1 := by
  have h1 := two_gen (len_add hr hs)
  have h2 := two_gen hr
  have h3 := two_gen hs
  rw [dot_both hr hs, cub_add hr hs] at h1
  omega
theorem dot_cc {n : Nat} {r : List Int} (c : Int) (hr : r.length = n + 1) : dot (r.map (c * ·)) (r.map (c * ·)) = c * c * dot r r := by
  rw [dot_mul c hr, dot_comm r, dot_mul c hr, Int.mul_assoc]
theorem cntg_more {n : Nat} {r : List Int} (c : Int) (hr : r.length = n + 1) : 2 * cntg (r.map (c * ·)) = c * c * dot r r + c * cub r + 2 := by
  rw [two_cntg (n := n) (by rw [List.length_map, hr]), dot_cc c hr, cub_mul c hr]
theorem gen_more {n : Nat} {r : List Int} (c : Int) (hr : r.length = n + 1) : cntg (r.map (c * ·)) - gen (r.map (c * ·)) = c * cub r := by
  have h1 := two_cntg (n := n) (r := r.map (c * ·)) (by rw [List.length_map, hr])
  have h2 := two_gen (n := n) (r := r.map (c * ·)) (by rw [List.length_map, hr])
  rw [cub_mul c hr] at h1 h2
  omega
theorem sub_add (r s : List Int) (h : s.length = r.length) : List.zipWith (· - ·) (List.zipWith (· + ·) r s) s = r := by
  refine List.ext_getElem (by simp; omega) fun i h1 h2 => ?_
  rw [List.getElem_zipWith, List.getElem_zipWith]
  omega
theorem sub_self (r : List Int) : List.zipWith (· - ·) r r = List.replicate r.length 0 := by
  refine List.ext_getElem (by simp) fun i h1 h2 => ?_
  simp
theorem zw_zero (m : List Int) (n : Nat) : (List.zipWith (· * ·) m (List.replicate n 0)).sum = 0 := by
  induction m generalizing n with
  | nil => simp
  | cons x m ih =>
    cases n with
    | zero => simp
    | succ n =>
      rw [List.replicate_succ, List.zipWith_cons_cons, List.sum_cons, ih]
      simp
theorem dot_lrow {n : Nat} (r : List Int) : dot r (lrow n) = r.getD 0 0 := by
  show r.getD 0 0 * 1 - (List.zipWith (· * ·) (r.drop 1) (List.replicate n 0)).sum = _
  rw [zw_zero]
  omega
theorem zw_pt (m : List Int) (i k : Nat) : (List.zipWith (· * ·) m ((List.range m.length).map fun j => 0 - (if k + j = i then (1 : Int) else 0))).sum = if k ≤ i then 0 - m.getD (i - k) 0 else 0 := by
  induction m generalizing k with
  | nil => simp
  | cons x m ih =>
    rw [List.length_cons, List.range_succ_eq_map, List.map_cons, List.map_map, List.zipWith_cons_cons, List.sum_cons]
    have e : ((fun j => 0 - (if k + j = i then (1 : Int) else 0)) ∘ Nat.succ) = fun j => 0 - (if (k + 1) + j = i then (1 : Int) else 0) := by
      funext j
      show 0 - (if k + (j + 1) = i then (1 : Int) else 0) = _
      rw [show k + (j + 1) = k + 1 + j by omega]
    rw [e, ih (k + 1)]
    by_cases h : k = i
    · subst h
      simp
      rw [if_neg (by omega)]
      omega
    · rw [if_neg (by omega)]
      by_cases h2 : k ≤ i
      · rw [if_pos (by omega), if_pos h2, show i - k = (i - (k + 1)) + 1 by omega]
        simp
      · rw [if_neg (by omega), if_neg h2]
        simp
theorem dot_prow {n i : Nat} {r : List Int} (hr : r.length = n + 1) : dot r (prow n i) = r.getD (1 + i) 0 := by
  obtain ⟨d, m, rfl, rfl⟩ := cons_of hr
  show d * 0 - (List.zipWith (· * ·) m ((List.range m.length).map fun j => 0 - (if j = i then (1 : Int) else 0))).sum = _
  have := zw_pt m i 0
  simp only [Nat.zero_add] at this
  rw [this, if_pos (by omega), show 1 + i = i + 1 by omega]
  show d * 0 - (0 - m.getD i 0) = m.getD i 0
  omega
theorem lrow_row {n : Nat} (h1 : 3 ≤ n) (h2 : n ≤ 16) : Row (lrow n) := by
  refine ⟨by simp [lrow]; omega, by simp [lrow]; omega, fun x hx => ?_⟩
  rcases List.mem_cons.mp hx with rfl | hx
  · exact sh_small (by decide) (by decide)
  · rw [List.eq_of_mem_replicate hx]
    exact sh_small (by decide) (by decide)
theorem prow_row {n i : Nat} (h1 : 3 ≤ n) (h2 : n ≤ 16) : Row (prow n i) := by
  refine ⟨by rw [prow_len]; omega, by rw [prow_len]; omega, fun x hx => ?_⟩
  have := prow_ent x hx
  exact sh_small (by omega) (by omega)
theorem zw_lim (p k : Int) : ∀ (a b : List Int), (∀ x ∈ a, -p ≤ x ∧ x ≤ p) → (∀ y ∈ b, -k ≤ y ∧ y ≤ k) → -((a.length : Int) * (p * k)) ≤ (List.zipWith (· * ·) a b).sum ∧ (0 ≤ p * k → (List.zipWith (· * ·) a b).sum ≤ (a.length : Int) * (p * k)) ∧ (0 ≤ p * k → -((a.length : Int) * (p * k)) ≤ (List.zipWith (· * ·) a b).sum) ∨ p * k < 0
  | [], b, _, _ => by simp
  | x :: a, [], _, _ => by
    by_cases h : p * k < 0
    · exact .inr h
    · have : 0 ≤ ((x :: a).length : Int) * (p * k) := Int.mul_nonneg (by omega) (by omega)
      refine .inl ⟨?_, fun _ => ?_, fun _ => ?_⟩ <;> simp <;> simp at this <;> omega
  | x :: a, y :: b, ha, hb => by
    rcases zw_lim p k a b (fun z hz => ha z (List.mem_cons_of_mem _ hz)) (fun z hz => hb z (List.mem_cons_of_mem _ hz)) with ih | ih
    · have h := abs_mul (ha x List.mem_cons_self) (hb y List.mem_cons_self)
      have h0 : 0 ≤ p * k := by omega
      have i1 := ih.1
      have i2 := ih.2.1 h0
      have e : (((x :: a).length : Nat) : Int) * (p * k) = (a.length : Int) * (p * k) + p * k := by
        rw [List.length_cons]
        push_cast
        rw [Int.add_mul, Int.one_mul]
      rw [e, List.zipWith_cons_cons, List.sum_cons]
      exact .inl ⟨by omega, fun _ => by omega, fun _ => by omega⟩
    · exact .inr ih
theorem dot_w {n : Nat} {r t : List Int} (hr : LimN n (10 ^ 60) r) (ht : LimN n (10 ^ 60) t) (h2 : n ≤ 16) : (dot r t).natAbs < 2 ^ 700 := by
  obtain ⟨d, m, rfl, hm⟩ := cons_of hr.1
  obtain ⟨e, k, rfl, hk⟩ := cons_of ht.1
  show (d * e - (List.zipWith (· * ·) m k).sum).natAbs < 2 ^ 700
  have e0 : (10 : Int) ^ 60 * 10 ^ 60 = 10 ^ 120 := by decide +kernel
  have h := abs_mul (hr.2 d List.mem_cons_self) (ht.2 e List.mem_cons_self)
  have z := zw_lim (10 ^ 60) (10 ^ 60) m k (fun x hx => hr.2 x (List.mem_cons_of_mem _ hx)) (fun x hx => ht.2 x (List.mem_cons_of_mem _ hx))
  rw [e0] at h z
  have p0 : (0 : Int) ≤ 10 ^ 120 := by decide +kernel
  rcases z with z | z
  · have z1 := z.1
    have z2 := z.2.1 p0
    have h3 : (m.length : Int) * 10 ^ 120 ≤ 16 * 10 ^ 120 := Int.mul_le_mul_of_nonneg_right (by omega) p0
    have h4 : ((17 : Int) * 10 ^ 120).natAbs < 2 ^ 700 := by decide +kernel
    omega
  · omega
theorem sum_lim (p : Int) : ∀ a : List Int, (∀ x ∈ a, -p ≤ x ∧ x ≤ p) → -((a.length : Int) * p) ≤ a.sum ∧ a.sum ≤ (a.length : Int) * p
  | [], _ => by simp
  | x :: a, h => by
    have ih := sum_lim p a fun z hz => h z (List.mem_cons_of_mem _ hz)
    have h1 := h x List.mem_cons_self
    have e : (((x :: a).length : Nat) : Int) * p = (a.length : Int) * p + p := by
      rw [List.length_cons]
      push_cast
      rw [Int.add_mul, Int.one_mul]
    rw [e, List.sum_cons]
    omega
theorem cub_w {n : Nat} {r : List Int} (hr : LimN n (10 ^ 60) r) (h2 : n ≤ 16) : (cub r).natAbs < 2 ^ 700 := by
  obtain ⟨d, m, rfl, hm⟩ := cons_of hr.1
  show (3 * d - m.sum).natAbs < 2 ^ 700
  have h := hr.2 d List.mem_cons_self
  have z := sum_lim (10 ^ 60) m (fun x hx => hr.2 x (List.mem_cons_of_mem _ hx))
  have p0 : (0 : Int) ≤ 10 ^ 60 := by decide +kernel
  have h3 : (m.length : Int) * 10 ^ 60 ≤ 16 * 10 ^ 60 := Int.mul_le_mul_of_nonneg_right (by omega) p0
  have h4 : ((19 : Int) * 10 ^ 60).natAbs < 2 ^ 700 := by decide +kernel
  omega
theorem cc_w {c : Int} (hc : -(10 ^ 41) ≤ c ∧ c ≤ 10 ^ 41) : (c * c).natAbs < 2 ^ 700 := by
  have h := abs_mul hc hc
  have h4 : ((10 : Int) ^ 41 * 10 ^ 41).natAbs < 2 ^ 700 := by decide +kernel
  omega
theorem drop_range {n : Nat} {r : List Int} (hr : r.length = n + 1) : (List.range n).map (fun i => r.getD (1 + i) 0) = r.drop 1 := by
  refine List.ext_getElem (by simp; omega) fun i h1 h2 => ?_
  simp at h1
  have e : 1 + i = i + 1 := by omega
  simp [List.getD_eq_getElem?_getD, e, show i + 1 < r.length by omega]

/-! ### what moves keep -/
theorem zsum_set (a b : List Int) (i : Nat) (x y : Int) (h1 : i < a.length) (h2 : i < b.length) : (List.zipWith (· * ·) (a.set i x) (b.set i y)).sum = (List.zipWith (· * ·) a b).sum - a.getD i 0 * b.getD i 0 + x * y := by
  induction a generalizing b i with
  | nil => simp at h1
  | cons u a ih =>
    cases b with
    | nil => simp at h2
    | cons v b =>
      cases i with
      | zero =>
        show x * y + (List.zipWith (· * ·) a b).sum = u * v + (List.zipWith (· * ·) a b).sum - u * v + x * y
        omega
      | succ i =>
        have := ih b i (by simpa using h1) (by simpa using h2)
        show u * v + (List.zipWith (· * ·) (a.set i x) (b.set i y)).sum = u * v + (List.zipWith (· * ·) a b).sum - a.getD i 0 * b.getD i 0 + x * y
        omega
theorem sum_set (a : List Int) (i : Nat) (x : Int) (h : i < a.length) : (a.set i x).sum = a.sum - a.getD i 0 + x := by
  induction a generalizing i with
  | nil => simp at h
  | cons u a ih =>
    cases i with
    | zero =>
      show x + a.sum = u + a.sum - u + x
      omega
    | succ i =>
      have := ih i (by simpa using h)
      show u + (a.set i x).sum = u + a.sum - a.getD i 0 + x
      omega
theorem getD_set_ne (l : List Int) (i j : Nat) (v : Int) (h : i ≠ j) : (l.set i v).getD j 0 = l.getD j 0 := by
  rw [List.getD_eq_getElem?_getD, List.getD_eq_getElem?_getD, List.getElem?_set_ne h]
theorem getD_set_eq (l : List Int) (i : Nat) (v : Int) (h : i < l.length) : (l.set i v).getD i 0 = v := by
  rw [List.getD_eq_getElem?_getD, List.getElem?_set_self h]
  rfl
theorem act_sw (d : Int) (m : List Int) (i j : Nat) : act (d :: m) (.sw i j) = d :: (m.set i (m.getD j 0)).set j (m.getD i 0) := by
  show ((d :: m).set (1 + i) ((d :: m).getD (1 + j) 0)).set (1 + j) ((d :: m).getD (1 + i) 0) = _
  rw [show 1 + i = i + 1 by omega, show 1 + j = j + 1 by omega]
  rfl
theorem act_tn (d : Int) (m : List Int) (i j k : Nat) (c : Int) (hc : c = d - m.getD i 0 - m.getD j 0 - m.getD k 0) : act (d :: m) (.tn i j k) = (d + c) :: ((m.set i (m.getD i 0 + c)).set j (m.getD j 0 + c)).set k (m.getD k 0 + c) := by
  subst hc
  unfold act
  simp only
  rw [show 1 + i = i + 1 by omega, show 1 + j = j + 1 by omega, show 1 + k = k + 1 by omega]
  rfl
theorem dot_cons (d f : Int) (a b : List Int) : dot (d :: a) (f :: b) = d * f - (List.zipWith (· * ·) a b).sum := rfl
theorem dot_act {n : Nat} {r s : List Int} (m : Mv) (h : MvOk n m) (hr : r.length = n + 1) (hs : s.length = n + 1) : dot (act r m) (act s m) = dot r s := by
  obtain ⟨d, a, rfl, ha⟩ := cons_of hr
  obtain ⟨f, b, rfl, hb⟩ := cons_of hs
  cases m with
  | sw i j =>
    obtain ⟨h1, h2⟩ := h
    rw [act_sw, act_sw, dot_cons, dot_cons]
    rw [zsum_set _ _ _ _ _ (by rw [List.length_set]; omega) (by rw [List.length_set]; omega), zsum_set _ _ _ _ _ (by omega) (by omega), getD_set_ne _ _ _ _ (by omega), getD_set_ne _ _ _ _ (by omega)]
    omega
  | tn i j k =>
    obtain ⟨h1, h2, h3⟩ := h
    generalize hc : d - a.getD i 0 - a.getD j 0 - a.getD k 0 = c
    generalize he : f - b.getD i 0 - b.getD j 0 - b.getD k 0 = e
    rw [act_tn _ _ _ _ _ c hc.symm, act_tn _ _ _ _ _ e he.symm, dot_cons, dot_cons]
    rw [zsum_set _ _ _ _ _ (by rw [List.length_set, List.length_set]; omega) (by rw [List.length_set, List.length_set]; omega), zsum_set _ _ _ _ _ (by rw [List.length_set]; omega) (by rw [List.length_set]; omega), zsum_set _ _ _ _ _ (by omega) (by omega)]
    rw [getD_set_ne _ _ k _ (show j ≠ k by omega), getD_set_ne _ _ k _ (show i ≠ k by omega), getD_set_ne _ _ j _ (show i ≠ j by omega)]
    rw [getD_set_ne _ _ k _ (show j ≠ k by omega), getD_set_ne _ _ k _ (show i ≠ k by omega), getD_set_ne _ _ j _ (show i ≠ j by omega)]
    have e1 : c * e = d * e - a.getD i 0 * e - a.getD j 0 * e - a.getD k 0 * e := by rw [← hc, Int.sub_mul, Int.sub_mul, Int.sub_mul]
    have e2 : c * e = c * f - c * b.getD i 0 - c * b.getD j 0 - c * b.getD k 0 := by rw [← he, Int.mul_sub, Int.mul_sub, Int.mul_sub]
    simp only [Int.add_mul, Int.mul_add]
    omega
theorem cub_act {n : Nat} {r : List Int} (m : Mv) (h : MvOk n m) (hr : r.length = n + 1) : cub (act r m) = cub r := by
  obtain ⟨d, a, rfl, ha⟩ := cons_of hr
  cases m with
  | sw i j =>
    obtain ⟨h1, h2⟩ := h
    rw [act_sw]
    show 3 * d - (List.set _ _ _).sum = 3 * d - a.sum
    rw [sum_set _ _ _ (by rw [List.length_set]; omega), sum_set _ _ _ (by omega), getD_set_ne _ _ _ _ (by omega)]
    omega
  | tn i j k =>
    obtain ⟨h1, h2, h3⟩ := h
    generalize hc : d - a.getD i 0 - a.getD j 0 - a.getD k 0 = c
    rw [act_tn _ _ _ _ _ c hc.symm]
    show 3 * (d + c) - (List.set _ _ _).sum = 3 * d - a.sum
    rw [sum_set _ _ _ (by rw [List.length_set, List.length_set]; omega), sum_set _ _ _ (by rw [List.length_set]; omega), sum_set _ _ _ (by omega), getD_set_ne _ _ k _ (show j ≠ k by omega), getD_set_ne _ _ k _ (show i ≠ k by omega), getD_set_ne _ _ j _ (show i ≠ j by omega)]
    omega
theorem act_act {n : Nat} {r : List Int} (m : Mv) (h : MvOk n m) (hr : r.length = n + 1) : act (act r m) m = r := by
  obtain ⟨d, a, rfl, ha⟩ := cons_of hr
  cases m with
  | sw i j =>
    obtain ⟨h1, h2⟩ := h
    rw [act_sw, act_sw]
    congr 1
    rw [getD_set_eq _ j _ (by rw [List.length_set]; omega), getD_set_ne _ j i _ (by omega), getD_set_eq _ i _ (by omega)]
    refine List.ext_getElem (by simp) fun k k1 k2 => ?_
    simp only [List.getElem_set]
    by_cases e1 : j = k
    · subst e1
      rw [if_pos rfl, List.getD_eq_getElem?_getD, List.getElem?_eq_getElem k2]
      rfl
    · by_cases e2 : i = k
      · subst e2
        rw [if_neg e1, if_pos rfl, List.getD_eq_getElem?_getD, List.getElem?_eq_getElem k2]
        rfl
      · rw [if_neg e1, if_neg e2, if_neg e1, if_neg e2]
  | tn i j k =>
    obtain ⟨h1, h2, h3⟩ := h
    generalize hc : d - a.getD i 0 - a.getD j 0 - a.getD k 0 = c
    rw [act_tn _ _ _ _ _ c hc.symm]
    generalize hb : ((a.set i (a.getD i 0 + c)).set j (a.getD j 0 + c)).set k (a.getD k 0 + c) = b
    have bi : b.getD i 0 = a.getD i 0 + c := by rw [← hb, getD_set_ne _ k i _ (by omega), getD_set_ne _ j i _ (by omega), getD_set_eq _ i _ (by omega)]
    have bj : b.getD j 0 = a.getD j 0 + c := by rw [← hb, getD_set_ne _ k j _ (by omega), getD_set_eq _ j _ (by rw [List.length_set]; omega)]
    have bk : b.getD k 0 = a.getD k 0 + c := by rw [← hb, getD_set_eq _ k _ (by rw [List.length_set, List.length_set]; omega)]
    rw [act_tn _ b i j k (-c) (by omega), bi, bj, bk, show d + c + -c = d by omega, show a.getD i 0 + c + -c = a.getD i 0 by omega, show a.getD j 0 + c + -c = a.getD j 0 by omega, show a.getD k 0 + c + -c = a.getD k 0 by omega]
    congr 1
    refine List.ext_getElem (by rw [← hb]; simp) fun q q1 q2 => ?_
    have ga : ∀ x, x = q → a.getD x 0 = a[q] := fun x hx => by
      subst hx
      rw [List.getD_eq_getElem?_getD, List.getElem?_eq_getElem q2]
      rfl
    simp only [List.getElem_set, ← hb]
    by_cases e1 : k = q
    · rw [if_pos e1]
      exact ga k e1
    · by_cases e2 : j = q
      · rw [if_neg e1, if_pos e2]
        exact ga j e2
      · by_cases e3 : i = q
        · rw [if_neg e1, if_neg e2, if_pos e3]
          exact ga i e3
        · rw [if_neg e1, if_neg e2, if_neg e3, if_neg e1, if_neg e2, if_neg e3]
theorem acts_append (r : List Int) (ms ws : List Mv) : acts r (ms ++ ws) = acts (acts r ms) ws := by
  unfold acts
  rw [List.foldl_append]
theorem dot_acts {n : Nat} (ms : List Mv) : ∀ {r s : List Int}, (∀ m ∈ ms, MvOk n m) → r.length = n + 1 → s.length = n + 1 → dot (acts r ms) (acts s ms) = dot r s := by
  induction ms with
  | nil => intro r s _ _ _; rfl
  | cons m ms ih =>
    intro r s h hr hs
    show dot (acts (act r m) ms) (acts (act s m) ms) = _
    rw [ih (fun x hx => h x (List.mem_cons_of_mem _ hx)) (by rw [act_len, hr]) (by rw [act_len, hs]), dot_act m (h m List.mem_cons_self) hr hs]
theorem cub_acts {n : Nat} (ms : List Mv) : ∀ {r : List Int}, (∀ m ∈ ms, MvOk n m) → r.length = n + 1 → cub (acts r ms) = cub r := by
  induction ms with
  | nil => intro r _ _; rfl
  | cons m ms ih =>
    intro r h hr
    show cub (acts (act r m) ms) = _
    rw [ih (fun x hx => h x (List.mem_cons_of_mem _ hx)) (by rw [act_len, hr]), cub_act m (h m List.mem_cons_self) hr]
theorem cntg_acts {n : Nat} (ms : List Mv) {r : List Int} (h : ∀ m ∈ ms, MvOk n m) (hr : r.length = n + 1) : cntg (acts r ms) = cntg r := by
  unfold cntg
  rw [dot_acts ms h hr hr, cub_acts ms h hr]
theorem acts_back {n : Nat} (ms : List Mv) : ∀ {r : List Int}, (∀ m ∈ ms, MvOk n m) → r.length = n + 1 → acts (acts r ms) ms.reverse = r := by
  induction ms with
  | nil => intro r _ _; rfl
  | cons m ms ih =>
    intro r h hr
    rw [List.reverse_cons, acts_append]
    show acts (acts (acts (act r m) ms) ms.reverse) [m] = r
    rw [ih (fun x hx => h x (List.mem_cons_of_mem _ hx)) (by rw [act_len, hr])]
    exact act_act m (h m List.mem_cons_self) hr
theorem acts_fore {n : Nat} (ms : List Mv) {r : List Int} (h : ∀ m ∈ ms, MvOk n m) (hr : r.length = n + 1) : acts r (ms.reverse ++ ms) = r := by
  rw [acts_append]
  have := acts_back ms.reverse (n := n) (r := r) (fun m hm => h m (List.mem_reverse.mp hm)) hr
  rw [List.reverse_reverse] at this
  exact this
theorem far_lt : (10 : Int) ^ 80 < TL := by decide +kernel
theorem acts_limN {n : Nat} {r : List Int} {ms : List Mv} (h : LimN n (10 ^ 60) r) (hl : ms.length ≤ 28) : LimN n (10 ^ 80) (acts r ms) := by
  refine ⟨by rw [acts_len, h.1], fun x hx => ?_⟩
  have h3 := acts_lim ms h.2 (by decide) x hx
  have h4 := pow5 hl
  have h5 : (5 : Int) ^ ms.length * 10 ^ 60 ≤ 5 ^ 28 * 10 ^ 60 := Int.mul_le_mul_of_nonneg_right h4 (by decide)
  have h6 : (5 : Int) ^ 28 * 10 ^ 60 ≤ 10 ^ 80 := by decide +kernel
  omega

/-! ### words as data, and the program's moves -/
def Mv.idx : Mv → List Int
  | .sw i j => [(i : Int), (j : Int)]
  | .tn i j k => [(i : Int), (j : Int), (k : Int)]
def Mv.nm : Mv → Str
  | .sw _ _ => "swap"
  | .tn _ _ _ => "turn"
theorem Mv.val_eq (m : Mv) : m.val = V.str m.nm :: m.idx.map V.int := by cases m <;> rfl
theorem val_cut1 (m : Mv) : cutV m.val (some 1) none = m.idx.map V.int := by
  rw [show (some (1 : Int)) = some ((1 : Nat) : Int) from rfl, cut_from]
  cases m <;> rfl
theorem val_cut2 (m : Mv) : cutV m.val (some 2) none = (m.idx.drop 1).map V.int := by
  rw [show (some (2 : Int)) = some ((2 : Nat) : Int) from rfl, cut_from]
  cases m <;> rfl
def Mv.dt (m : Mv) : PyData := .tuple (.str m.nm :: di m.idx)
theorem Mv.dp {H : Hp} {p : Addr} {m : Mv} (h : H p = some (.tup m.val)) : Dp K H (.ref p) m.dt := by
  rw [Mv.val_eq] at h
  exact .tup (SqT.of h) (.cons (.str _) (dpAll_ints _))
def dms (ms : List Mv) : List PyData := ms.map Mv.dt
theorem Mvs.dp {H : Hp} : ∀ {vs : List V} {ms : List Mv}, Mvs H vs ms → DpAll K H vs (dms ms)
  | [], [], _ => .nil
  | _ :: _, _ :: _, ⟨⟨p, e, h⟩, t⟩ => by
    subst e
    exact .cons (Mv.dp h) (Mvs.dp t)
theorem canLay_mv (m : Mv) : m.dt.canLay0 = true := by
  have h1 := canLay_di m.idx
  have h2 : PyData.strOk m.nm = true := by
    cases m with
    | sw i j => exact (by decide +kernel : PyData.strOk "swap" = true)
    | tn i j k => exact (by decide +kernel : PyData.strOk "turn" = true)
  simp only [Mv.dt, PyData.canLay0, PyData.canLayAll0, h1, h2, Bool.and_true]
theorem canLay_dms : ∀ ms : List Mv, PyData.canLayAll0 (dms ms) = true
  | [] => by simp [dms, PyData.canLayAll0]
  | m :: r => by
    have h1 := canLay_dms r
    have h2 := canLay_mv m
    simp only [dms, List.map_cons, PyData.canLayAll0, h2, Bool.true_and] at h1 ⊢
    exact h1
theorem depth_dms : ∀ ms : List Mv, PyData.depthAll (dms ms) ≤ 6
  | [] => by simp [dms, PyData.depthAll]
  | m :: r => by
    have h1 := depth_dms r
    have h2 := depth_di m.idx
    simp only [dms, Mv.dt, List.map_cons, PyData.depthAll, PyData.depth] at h1 ⊢
    omega
theorem shaped_word (ms : List Mv) : SeqAt.shaped (.tuple (dms ms)) = true := by
  have h1 := canLay_dms ms
  have h2 := depth_dms ms
  unfold SeqAt.shaped
  rw [Bool.and_eq_true]
  exact ⟨by simpa [PyData.canLay0] using h1, decide_eq_true (by simp only [PyData.depth]; omega)⟩
theorem neWord {H : Hp} {a b : Addr} {ms : List Mv} {Q : VK} (h1 : Wd H a ms) (h2 : Wd H b ms) (q : Q (.bl false) H) : rNeI K (.ref a) (.ref b) H Q := by
  obtain ⟨vs, h1, m1⟩ := h1
  obtain ⟨ws, h2, m2⟩ := h2
  unfold rNeI
  refine ⟨_, _, .tup (SqT.of h1) m1.dp, .tup (SqT.of h2) m2.dp, shaped_word ms, shaped_word ms, ?_⟩
  rw [SeqAt.eqv_refl _ (SeqAt.canLay_of_shaped (shaped_word ms))]
  exact q
theorem Mvs.rev {H : Hp} : ∀ {vs : List V} {ms : List Mv}, Mvs H vs ms → Mvs H vs.reverse ms.reverse
  | [], [], _ => trivial
  | v :: vs, m :: ms, ⟨x, t⟩ => by
    rw [List.reverse_cons, List.reverse_cons]
    exact Mvs.app (Mvs.rev t) ⟨x, trivial⟩
theorem idx_ok {n : Nat} {m : Mv} (h : MvOk n m) : (∀ x ∈ m.idx, 0 ≤ x ∧ x ≤ (n : Int) - 1) ∧ ∀ i, 1 + i < m.idx.length → m.idx.getD i 0 < m.idx.getD (1 + i) 0 := by
  cases m with
  | sw i j =>
    obtain ⟨h1, h2⟩ := h
    refine ⟨fun x hx => ?_, fun t ht => ?_⟩
    · simp only [Mv.idx, List.mem_cons, List.not_mem_nil, or_false] at hx
      omega
    · simp only [Mv.idx, List.length_cons, List.length_nil] at ht
      have : t = 0 := by omega
      subst this
      show (i : Int) < (j : Int)
      omega
  | tn i j k =>
    obtain ⟨h1, h2, h3⟩ := h
    refine ⟨fun x hx => ?_, fun t ht => ?_⟩
    · simp only [Mv.idx, List.mem_cons, List.not_mem_nil, or_false] at hx
      omega
    · simp only [Mv.idx, List.length_cons, List.length_nil] at ht
      rcases (show t = 0 ∨ t = 1 by omega) with rfl | rfl
      · show (i : Int) < (j : Int)
        omega
      · show (j : Int) < (k : Int)
        omega
theorem idx_len (m : Mv) : m.idx.length ≤ 3 := by cases m <;> simp [Mv.idx]
theorem iteNo {x y : V} {A B : Prop} (h : x ≠ y) (b : B) : if decide (x = y) = true then A else B := by
  rw [decide_eq_false h]
  exact iteF b
def sp_is_move (K : PySem.W.Frag) : Sp := fun vs H Q _ => ∃ (n : Nat) (p : Addr) (m : Mv), vs = [.int n, .ref p] ∧ H p = some (.tup m.val) ∧ MvOk n m ∧ n ≤ 16 ∧ ∀ H', Kp N0 H H' → Q (.bl true) H'
theorem ok_is_move (T : Txt K mg) (D : Df K mg "is_move" s_is_move ["n", "value"]) (c_is_from_to : C8.Cal P w K mg base 3 "is_from_to" (sp_is_from_to) []) : C8.Cal P w K mg base 4 "is_move" (sp_is_move K) [] := by
  obtain ⟨f, fd, D, hb⟩ := D
  refine C8.cal0 D (.all hb) .nil sc_is_move (fun vs H Q E h => ?_) (fun cdv A outer s H vs Q E hr h => ?_)
  · obtain ⟨_, _, _, rfl, _⟩ := h; rfl
  · obtain ⟨n, p, m, rfl, hp, hok, hn, q⟩ := h
    refine ⟨_, (pss_cons (ps_if (PW.pt (pw_or (pt_not (pt_val (pe_callB (callK (K := K) rIsi call_isi) (by rfl) T.b_isinstance (by decide +kernel) (pa_cons (pv 1) (pa_cons (pe_bltn (v := .ty "tuple") (by rfl) T.b_tuple (by decide +kernel) rfl) pa_nil))))) (pw_or1 (pt_cmpR op_notIn_seq (pe_callB (callK (K := K) Vf.rLen call_lenI) (by rfl) T.b_len (by decide +kernel) (pa_cons (pv 1) pa_nil)) (pe_tupN (pa_cons pe_int (pa_cons pe_int pa_nil))) rfl)))) (pss_one (ps_ret pe_bl)) pss_nil)
      (pss_cons (ps_set (i := 2) sc_is_move.nd rfl (Or.inl rfl) (pe_ifExp (pt_cmpR op_eq (pe_callB (callK (K := K) Vf.rLen call_lenI) (by rfl) T.b_len (by decide +kernel) (pa_cons (pv 1) pa_nil)) pe_int (nomark _)) pe_str pe_str))
      (pss_cons (ps_if (PW.pt (pw_or (pt_cmpR op_ne (pe_ix (ixK (K := K) rIxT ix_tup) (pv 1) pe_int (fun _ _ => rfl)) (pv 2) (nomark _)) (pw_or1 (pt_not (pt_val (pe_callB (callK (K := K) rAll (cr_all rfl)) (by rfl) T.b_all (by decide +kernel) (pa_cons (pe_lc (own := [("index", 3)]) (g := gName 3) rfl sc_is_move.nd (pi_tup (pe_slice (slK (K := K) rSlI sl_tupI) (pv 1) (po_some pe_int) po_none)) (C8b.blk (N := ["n", "value", "name", "index", "low", "high"]) (sc := C8.fnScope s_is_move) (by decide +kernel)) (fun _ _ _ _ _ => (pg_name (i := 3) sc_is_move.nd rfl (Or.inl rfl))) (fun _ _ _ _ _ => pts_nil) (fun _ _ _ _ _ => (C8.pe_c c_is_from_to hr (by decide) (by rfl) (pa_cons (pv 3) (pa_cons pe_int (pa_cons (pe_op op_sub (pv 0) pe_int) pa_nil)))))) pa_nil))))))) (pss_one (ps_ret pe_bl)) pss_nil)
      (pss_one (ps_ret (pe_callB (callK (K := K) rAll (cr_all rfl)) (by rfl) T.b_all (by decide +kernel) (pa_cons (pe_lc (own := [("low", 4), ("high", 5)]) (g := gTup K 2 (gCons (gName 4) (gCons (gName 5) gNil))) rfl sc_is_move.nd (RZ.pi_zipA (by rfl) T.b_zip (pa_cons (pe_slice (slK (K := K) rSlI sl_tupI) (pv 1) (po_some pe_int) po_none) (pa_cons (pe_slice (slK (K := K) rSlI sl_tupI) (pv 1) (po_some pe_int) po_none) pa_nil))) (C8b.blk (N := ["n", "value", "name", "index", "low", "high"]) (sc := C8.fnScope s_is_move) (by decide +kernel)) (fun _ _ _ _ _ => (pg_tup rfl (pgs_cons (pg_name (i := 4) sc_is_move.nd rfl (Or.inl rfl)) (pgs_cons (pg_name (i := 5) sc_is_move.nd rfl (Or.inl rfl)) pgs_nil)))) (fun _ _ _ _ _ => pts_nil) (fun _ _ _ _ _ => (pe_cmpR op_lt (pv 4) (pv 5) (nomark _)))) pa_nil))))))), ?_⟩
    refine ⟨_, rfl, _, _, _, _, true, rfl, .ty _, tyT hp, kit_ty (by decide +kernel), true, rfl, iteF ?_⟩
    refine ⟨_, rfl, lenT rfl hp ?_⟩
    have main : ∀ H1, Kp N0 H H1 → ∀ (σ : L2.St), True := fun _ _ _ => trivial
    obtain ⟨i1, i2⟩ := idx_ok hok
    have il := idx_len m
    have hcut1 := val_cut1 m
    have hcut2 := val_cut2 m
    refine newT (sz_ (by simp)) fun p1 H1 _ k1 hp1 => ?_
    refine ⟨p1, _, rfl, .inr (SqT.of hp1), rfl, rfl, false, by cases m <;> rfl, iteF ?_⟩
    have h1 := k1.tup _ _ hp
    refine ⟨_, rfl, lenT rfl h1 ⟨rfl, _, rfl, ?_⟩⟩
    cases m with
    | sw i j =>
      refine iteEq rfl ?_
      refine ⟨_, rfl, p, _, _, _, rfl, rfl, SqT.of h1, rfl, _, rfl, rfl, _, rfl, iteNe rfl ?_⟩
      refine ⟨_, rfl, _, rfl, slT h1 fun p2 H2 k2 hp2 => ?_⟩
      rw [hcut1] at hp2
      refine ⟨_, rfl, ⟨_, SqT.of hp2⟩, ?_⟩
      refine lc_bools walk_tup (fun _ => true) (by rw [List.length_map]; omega) (fun H' k => SqT.of (k.tup _ _ hp2)) ?_ ?_
      · rintro t x H3 H4 hi k ⟨rfl, hx⟩ R hR
        rw [List.length_map] at hi
        rw [int_at hi] at hx
        cases hx
        have hb := i1 _ (List.getElem_mem hi)
        rw [show (Mv.idx _)[t] = (Mv.idx _).getD t 0 by rw [List.getD_eq_getElem?_getD, List.getElem?_eq_getElem hi]; rfl] at hb
        exact ⟨rfl, _, rfl, _, rfl, _, _, rfl, rfl, _, _, _, rfl, sh_small (by omega) (by omega), hb.1, hb.2, hR _ (.refl _ _)⟩
      intro D2 H3 k3 h3
      refine ⟨D2, _, rfl, SqL.of h3, ?_⟩
      rw [show (List.map (fun _ => true) (List.range (List.map V.int _).length)).all id = true by simp]
      refine ⟨_, rfl, iteF ?_⟩
      have h4 := (k2.trans k3).tup _ _ h1
      refine ⟨_, rfl, _, rfl, slT h4 fun p5 H5 k5 hp5 => ?_⟩
      refine ⟨_, rfl, _, rfl, slT (k5.tup _ _ h4) fun p6 H6 k6 hp6 => ?_⟩
      have hp5 := k6.tup _ _ hp5
      rw [hcut1] at hp5
      rw [hcut2] at hp6
      refine ⟨_, _, _, _, rfl, .inr ⟨SqT.of hp5, SqT.of hp6, ?_⟩⟩
      refine lc_bools (walk_zipT rfl) (fun _ => true) (by simp only [List.length_map, List.length_drop]; omega) (fun H' k => ⟨SqT.of (k.tup _ _ hp5), SqT.of (k.tup _ _ hp6)⟩) ?_ ?_
      · rintro t x H7 H8 hi k7 ⟨T, x1, x2, rfl, hT, rfl, e1, e2⟩ R hR
        simp only [List.length_map, List.length_drop] at hi
        have hi1 : t < (Mv.sw i j).idx.length := by omega
        have hi2 : t < ((Mv.sw i j).idx.drop 1).length := by rw [List.length_drop]; omega
        obtain rfl : x1 = _ := (Option.some.inj ((int_at hi1).symm.trans e1)).symm
        obtain rfl : x2 = _ := (Option.some.inj ((int_at hi2).symm.trans e2)).symm
        have hlt := i2 t (by omega)
        rw [show ∀ l : List Int, l.getD (1 + t) 0 = (l.drop 1).getD t 0 from fun l => by rw [List.getD_eq_getElem?_getD, List.getD_eq_getElem?_getD, List.getElem?_drop]] at hlt
        refine ⟨T, _, rfl, SqT.of upd_same, rfl, _, _, rfl, _, _, rfl, rfl, rfl, _, rfl, _, rfl, _, _, rfl, rfl, ?_⟩
        show R (V.bl (decide (_ < _))) _
        rw [decide_eq_true hlt]
        exact hR _ (.new hT)
      intro D9 H9 k9 h9
      refine ⟨D9, _, rfl, SqL.of h9, ?_⟩
      rw [show (List.map (fun _ => true) (List.range (min (List.map V.int _).length (List.map V.int _).length))).all id = true by simp]
      exact q _ (k1.trans ((k2.trans k3).trans ((k5.trans k6).trans k9)))
    | tn i j k =>
      refine iteNo (fun z => absurd (V.int.inj z) (by show ¬ ((4 : Int) = 3); decide)) ?_
      refine ⟨_, rfl, p, _, _, _, rfl, rfl, SqT.of h1, rfl, _, rfl, rfl, _, rfl, iteNe rfl ?_⟩
      refine ⟨_, rfl, _, rfl, slT h1 fun p2 H2 k2 hp2 => ?_⟩
      rw [hcut1] at hp2
      refine ⟨_, rfl, ⟨_, SqT.of hp2⟩, ?_⟩
      refine lc_bools walk_tup (fun _ => true) (by rw [List.length_map]; omega) (fun H' k => SqT.of (k.tup _ _ hp2)) ?_ ?_
      · rintro t x H3 H4 hi k ⟨rfl, hx⟩ R hR
        rw [List.length_map] at hi
        rw [int_at hi] at hx
        cases hx
        have hb := i1 _ (List.getElem_mem hi)
        rw [show (Mv.idx _)[t] = (Mv.idx _).getD t 0 by rw [List.getD_eq_getElem?_getD, List.getElem?_eq_getElem hi]; rfl] at hb
        exact ⟨rfl, _, rfl, _, rfl, _, _, rfl, rfl, _, _, _, rfl, sh_small (by omega) (by omega), hb.1, hb.2, hR _ (.refl _ _)⟩
      intro D2 H3 k3 h3
      refine ⟨D2, _, rfl, SqL.of h3, ?_⟩
      rw [show (List.map (fun _ => true) (List.range (List.map V.int _).length)).all id = true by simp]
      refine ⟨_, rfl, iteF ?_⟩
      have h4 := (k2.trans k3).tup _ _ h1
      refine ⟨_, rfl, _, rfl, slT h4 fun p5 H5 k5 hp5 => ?_⟩
      refine ⟨_, rfl, _, rfl, slT (k5.tup _ _ h4) fun p6 H6 k6 hp6 => ?_⟩
      have hp5 := k6.tup _ _ hp5
      rw [hcut1] at hp5
      rw [hcut2] at hp6
      refine ⟨_, _, _, _, rfl, .inr ⟨SqT.of hp5, SqT.of hp6, ?_⟩⟩
      refine lc_bools (walk_zipT rfl) (fun _ => true) (by simp only [List.length_map, List.length_drop]; omega) (fun H' k => ⟨SqT.of (k.tup _ _ hp5), SqT.of (k.tup _ _ hp6)⟩) ?_ ?_
      · rintro t x H7 H8 hi k7 ⟨T, x1, x2, rfl, hT, rfl, e1, e2⟩ R hR
        simp only [List.length_map, List.length_drop] at hi
        have hi1 : t < (Mv.tn i j k).idx.length := by omega
        have hi2 : t < ((Mv.tn i j k).idx.drop 1).length := by rw [List.length_drop]; omega
        obtain rfl : x1 = _ := (Option.some.inj ((int_at hi1).symm.trans e1)).symm
        obtain rfl : x2 = _ := (Option.some.inj ((int_at hi2).symm.trans e2)).symm
        have hlt := i2 t (by omega)
        rw [show ∀ l : List Int, l.getD (1 + t) 0 = (l.drop 1).getD t 0 from fun l => by rw [List.getD_eq_getElem?_getD, List.getD_eq_getElem?_getD, List.getElem?_drop]] at hlt
        refine ⟨T, _, rfl, SqT.of upd_same, rfl, _, _, rfl, _, _, rfl, rfl, rfl, _, rfl, _, rfl, _, _, rfl, rfl, ?_⟩
        show R (V.bl (decide (_ < _))) _
        rw [decide_eq_true hlt]
        exact hR _ (.new hT)
      intro D9 H9 k9 h9
      refine ⟨D9, _, rfl, SqL.of h9, ?_⟩
      rw [show (List.map (fun _ => true) (List.range (min (List.map V.int _).length (List.map V.int _).length))).all id = true by simp]
      exact q _ (k1.trans ((k2.trans k3).trans ((k5.trans k6).trans k9)))
def sp_do_move (K : PySem.W.Frag) : Sp := fun vs H Q _ => ∃ (e p : Addr) (r : List Int) (m : Mv) (n : Nat), vs = [.ref e, .ref p] ∧ H e = some (.lst (r.map V.int)) ∧ H p = some (.tup m.val) ∧ MvOk n m ∧ r.length = n + 1 ∧ n ≤ 100 ∧ ∀ H', Kp (At e) H H' → H' e = some (.lst ((act r m).map V.int)) → Q .non H'
theorem at2 {ns : List Int} {j : Nat} (h : 1 + j < ns.length) : atI (ns.map V.int) ((j : Int) + 1) = some (.int (ns.getD (1 + j) 0)) := by
  have := at_row (ns := ns) (j := 1 + j) h
  rw [show (((1 + j : Nat)) : Int) = (j : Int) + 1 by omega] at this
  exact this
theorem ix2 {n j : Nat} (h : 1 + j < n) : ixN n ((j : Int) + 1) = some (1 + j) := by
  have := Evl.ixN_nat (n := n) (j := 1 + j) h
  rw [show (((1 + j : Nat)) : Int) = (j : Int) + 1 by omega] at this
  exact this
theorem ok_do_move (T : Txt K mg) (D : Df K mg "do_move" s_do_move ["entries", "move"]) : C8.Cal P w K mg base 1 "do_move" (sp_do_move K) [] := by
  obtain ⟨f, fd, D, hb⟩ := D
  refine C8.cal0 D (.all hb) .nil sc_do_move (fun vs H Q E h => ?_) (fun cdv A outer s H vs Q E hr h => ?_)
  · obtain ⟨_, _, _, _, _, rfl, _⟩ := h; rfl
  · obtain ⟨e, p, r, m, n, rfl, he, hp, hok, hl, hn, q⟩ := h
    refine ⟨_, (pss_one (ps_if (pt_cmpR op_eq (pe_ix (ixK (K := K) rIxT ix_tup) (pv 1) pe_int (fun _ _ => rfl)) pe_str (nomark _)) (pss_cons (ps_par (i := 2) (j := 3) (by rfl) sc_do_move.nd rfl rfl (by decide) rfl rfl (pa_cons (pe_op op_add (pe_ix (ixK (K := K) rIxT ix_tup) (pv 1) pe_int (fun _ _ => rfl)) pe_int) (pa_cons (pe_op op_add (pe_ix (ixK (K := K) rIxT ix_tup) (pv 1) pe_int (fun _ _ => rfl)) pe_int) pa_nil)) (by rfl))
      (pss_one (ps_asg (pe_tupN (pa_cons (pe_ix (ixK (K := K) rIxL ix_list) (pv 0) (pv 3) (fun _ _ => rfl)) (pa_cons (pe_ix (ixK (K := K) rIxL ix_list) (pv 0) (pv 2) (fun _ _ => rfl)) pa_nil))) (pg_tup rfl (pgs_cons (pg_sub (pv 0) (pv 2) set_list) (pgs_cons (pg_sub (pv 0) (pv 3) set_list) pgs_nil)))))) (pss_cons (ps_par3 (i := 2) (j := 3) (l := 4) (by rfl) sc_do_move.nd rfl rfl rfl (by decide) (by decide) (by decide) rfl rfl rfl (pa_cons (pe_op op_add (pe_ix (ixK (K := K) rIxT ix_tup) (pv 1) pe_int (fun _ _ => rfl)) pe_int) (pa_cons (pe_op op_add (pe_ix (ixK (K := K) rIxT ix_tup) (pv 1) pe_int (fun _ _ => rfl)) pe_int) (pa_cons (pe_op op_add (pe_ix (ixK (K := K) rIxT ix_tup) (pv 1) pe_int (fun _ _ => rfl)) pe_int) pa_nil))) (by rfl))
      (pss_cons (ps_set (i := 5) sc_do_move.nd rfl (Or.inl rfl) (pe_op op_sub (pe_op op_sub (pe_op op_sub (pe_ix (ixK (K := K) rIxL ix_list) (pv 0) pe_int (fun _ _ => rfl)) (pe_ix (ixK (K := K) rIxL ix_list) (pv 0) (pv 2) (fun _ _ => rfl))) (pe_ix (ixK (K := K) rIxL ix_list) (pv 0) (pv 3) (fun _ _ => rfl))) (pe_ix (ixK (K := K) rIxL ix_list) (pv 0) (pv 4) (fun _ _ => rfl))))
      (pss_one (ps_for PassesOwn.never rfl (pi_tup (pe_tupN (pa_cons pe_int (pa_cons (pv 2) (pa_cons (pv 3) (pa_cons (pv 4) pa_nil)))))) (pg_name (i := 6) sc_do_move.nd rfl (Or.inl rfl)) (pss_one (ps_asg (pe_op op_add (pe_ix (ixK (K := K) rIxL ix_list) (pv 0) (pv 6) (fun _ _ => rfl)) (pv 5)) (pg_sub (pv 0) (pv 6) set_list))))))))), ?_⟩
    cases m with
    | sw i j =>
      obtain ⟨o1, o2⟩ := hok
      refine ⟨_, rfl, p, _, _, _, rfl, rfl, SqT.of hp, rfl, rfl, _, rfl, iteEq rfl ?_⟩
      refine ⟨_, rfl, p, _, _, _, rfl, rfl, SqT.of hp, rfl, _, _, rfl, rfl, _, rfl, p, _, _, _, rfl, rfl, SqT.of hp, rfl, _, _, rfl, rfl, _, _, rfl, ?_⟩
      refine ⟨_, rfl, _, rfl, e, _, _, _, rfl, rfl, SqL.of he, at2 (by omega), _, rfl, _, rfl, e, _, _, _, rfl, rfl, SqL.of he, at2 (by omega), newT (sz_ (by simp)) fun p2 H2 _ k2 hp2 => ?_⟩
      have he2 := k2.keep _ _ (fun z => z) he
      refine ⟨p2, _, rfl, SqT.of hp2, rfl, _, _, rfl, ?_⟩
      refine ⟨_, rfl, _, rfl, e, _, _, _, rfl, rfl, he2, ix2 (by rw [List.length_map]; omega), ?_⟩
      have kk : Kp (At e) H (upd H2 e (.lst ((r.map V.int).set (1 + i) (V.int (r.getD (1 + j) 0))))) := k2.up.trans (.mut rfl he2)
      have he3 : upd H2 e (.lst ((r.map V.int).set (1 + i) (V.int (r.getD (1 + j) 0)))) e = some (.lst ((r.map V.int).set (1 + i) (V.int (r.getD (1 + j) 0)))) := upd_same
      generalize upd H2 e (.lst ((r.map V.int).set (1 + i) (V.int (r.getD (1 + j) 0)))) = H3 at kk he3
      refine ⟨_, _, rfl, _, rfl, _, rfl, e, _, _, _, rfl, rfl, he3, ix2 (by rw [List.length_set, List.length_map]; omega), rfl, ?_⟩
      refine q _ (kk.trans (.mut rfl he3)) ?_
      rw [upd_same, ← List.map_set, ← List.map_set]
      rfl
    | tn i j k =>
      obtain ⟨o1, o2, o3⟩ := hok
      refine ⟨_, rfl, p, _, _, _, rfl, rfl, SqT.of hp, rfl, rfl, _, rfl, ?_⟩
      have e0 : decide (V.str "turn" = V.str "swap") = false := by decide
      refine (show ∀ {A B : Prop}, B → (if decide (V.str "turn" = V.str "swap") = true then A else B) from fun h => by rw [e0]; exact iteF h) ?_
      refine ⟨_, rfl, p, _, _, _, rfl, rfl, SqT.of hp, rfl, _, _, rfl, rfl, _, rfl, p, _, _, _, rfl, rfl, SqT.of hp, rfl, _, _, rfl, rfl, _, rfl, p, _, _, _, rfl, rfl, SqT.of hp, rfl, _, _, rfl, rfl, _, _, _, rfl, ?_⟩
      refine ⟨_, rfl, e, _, _, _, rfl, rfl, SqL.of he, at_row0 (by omega), _, rfl, _, rfl, e, _, _, _, rfl, rfl, SqL.of he, at2 (by omega), _, _, rfl, rfl, ?_⟩
      refine ⟨_, rfl, _, rfl, e, _, _, _, rfl, rfl, SqL.of he, at2 (by omega), _, _, rfl, rfl, ?_⟩
      refine ⟨_, rfl, _, rfl, e, _, _, _, rfl, rfl, SqL.of he, at2 (by omega), _, _, rfl, rfl, ?_⟩
      refine ⟨_, rfl, _, rfl, _, rfl, newT (sz_ (by simp)) fun T H2 _ k2 hT => ?_⟩
      refine ⟨_, rfl, ⟨_, SqT.of hT⟩, ?_⟩
      have he2 := k2.keep _ _ (fun z => z) he
      generalize hc : r.getD 0 0 - r.getD (1 + i) 0 - r.getD (1 + j) 0 - r.getD (1 + k) 0 = c
      have lenF : ∀ (l : List Nat) (r : List Int), (l.foldl (bump c) r).length = r.length := by
        intro l
        induction l with
        | nil => intro r; rfl
        | cons x l ih => intro r; show (l.foldl (bump c) (bump c r x)).length = _; rw [ih, bump_len]
      refine for_it (n := 4) (walk_tup (K := K) (a := T) (xs := [V.int 0, V.int ((i : Int) + 1), V.int ((j : Int) + 1), V.int ((k : Int) + 1)])) (fun t σ H' => ∃ v6, σ = [some (.ref e), some (.ref p), some (.int ((i : Int) + 1)), some (.int ((j : Int) + 1)), some (.int ((k : Int) + 1)), some (.int c), v6] ∧ Kp (At e) H H' ∧ H' T = some (.tup [V.int 0, V.int ((i : Int) + 1), V.int ((j : Int) + 1), V.int ((k : Int) + 1)]) ∧ H' e = some (.lst ((([0, 1 + i, 1 + j, 1 + k].take t).foldl (bump c) r).map V.int)))
        ⟨none, by rw [← hc]; rfl, k2.up, hT, he2⟩ (fun _ _ H' _ ⟨_, _, _, z, _⟩ => SqT.of z) ?_ ?_
      · rintro t x σ H3' H3 ht ⟨v6, rfl, k3, hT3, he3⟩ ⟨rfl, hx⟩
        obtain ⟨y, hy, rfl, hyl, hyt⟩ : ∃ y : Nat, [0, 1 + i, 1 + j, 1 + k][t]? = some y ∧ x = .int (y : Int) ∧ y < r.length ∧ [0, 1 + i, 1 + j, 1 + k].take (t + 1) = [0, 1 + i, 1 + j, 1 + k].take t ++ [y] := by
          rcases t with _ | _ | _ | _ | t
          · cases hx; exact ⟨0, rfl, rfl, by omega, rfl⟩
          · cases hx; exact ⟨1 + i, rfl, congrArg V.int (by omega), by omega, rfl⟩
          · cases hx; exact ⟨1 + j, rfl, congrArg V.int (by omega), by omega, rfl⟩
          · cases hx; exact ⟨1 + k, rfl, congrArg V.int (by omega), by omega, rfl⟩
          · omega
        have hlen := lenF ([0, 1 + i, 1 + j, 1 + k].take t) r
        refine ⟨_, rfl, _, rfl, e, _, _, _, rfl, rfl, SqL.of he3, at_row (by rw [hlen]; exact hyl), _, rfl, _, _, rfl, rfl, ?_⟩
        refine ⟨_, rfl, _, rfl, e, _, _, y, rfl, rfl, he3, Evl.ixN_nat (by rw [List.length_map, hlen]; exact hyl), ?_⟩
        refine ⟨_, rfl, k3.trans (.mut rfl he3), ?_, ?_⟩
        · rw [upd_ne (ne_of hT3 he3 (by intro z; cases z))]
          exact hT3
        · rw [upd_same, hyt, List.foldl_append, ← List.map_set]
          rfl
      · rintro σ H3 ⟨v6, rfl, k3, hT3, he3⟩
        refine q _ k3 ?_
        rw [he3, ← act_bump r i j k o1 o2 c hc.symm]
        rfl
/-- what a list that H did not know suffered is not seen -/
theorem kp_at {H H1 H2 : Hp} {p : Addr} (hp : H p = none) (k : Kp N0 H H1) (d : Kp (At p) H1 H2) : Kp N0 H H2 :=
  ⟨fun b o _ h => d.keep _ _ (ne_of_none h hp) (k.keep _ _ (fun z => z) h), fun b xs h => d.tup _ _ (k.tup _ _ h), fun b o u h => d.frz _ _ _ (k.frz _ _ _ h), fun b h => k.live _ (d.live _ h)⟩
def sp_moved_far (K : PySem.W.Frag) : Sp := fun vs H Q _ => ∃ (a b : Addr) (r : List Int) (ms : List Mv) (n : Nat), vs = [.ref a, .ref b] ∧ SqT K H a (r.map V.int) ∧ Wd H b ms ∧ (∀ m ∈ ms, MvOk n m) ∧ r.length = n + 1 ∧ n ≤ 100 ∧ ∀ p H', H p = none → Kp N0 H H' → H' p = some (.lst ((acts r ms).map V.int)) → Q (.ref p) H'
theorem ok_moved_far (T : Txt K mg) (D : Df K mg "moved_far" s_moved_far ["row", "word"]) (c_do_move : C8.Cal P w K mg base 1 "do_move" (sp_do_move K) []) : C8.Cal P w K mg base 2 "moved_far" (sp_moved_far K) [] := by
  obtain ⟨f, fd, D, hb⟩ := D
  refine C8.cal0 D (.all hb) .nil sc_moved_far (fun vs H Q E h => ?_) (fun cdv A outer s H vs Q E hr h => ?_)
  · obtain ⟨_, _, _, _, _, rfl, _⟩ := h; rfl
  · obtain ⟨a, b, r, ms, n, rfl, ha, ⟨ws, hb, hms⟩, hok, hl, hn, q⟩ := h
    refine ⟨_, (pss_cons (ps_set (i := 2) sc_moved_far.nd rfl (Or.inl rfl) (pe_callTy (callK (K := K) rListOf call_lstI) (by rfl) T.b_list (by decide +kernel) (pa_cons (pv 0) pa_nil)))
      (pss_cons (ps_for PassesOwn.never rfl (pi_tup (pv 1)) (pg_name (i := 3) sc_moved_far.nd rfl (Or.inl rfl)) (pss_one (ps_expr (C8.pe_c c_do_move hr (by decide) (by rfl) (pa_cons (pv 2) (pa_cons (pv 3) pa_nil))))))
      (pss_one (ps_ret (pv 2))))), ?_⟩
    refine ⟨_, rfl, listL rfl (.inr ha) fun D1 H1 nD k1 hD1 => ?_⟩
    refine ⟨_, rfl, b, rfl, ⟨_, SqT.of (k1.tup _ _ hb)⟩, ?_⟩
    refine for_it (n := ws.length) (walk_tup (K := K) (a := b) (xs := ws)) (fun t σ H' => ∃ v3, σ = [some (.ref a), some (.ref b), some (.ref D1), v3] ∧ Kp N0 H H' ∧ H' D1 = some (.lst ((acts r (ms.take t)).map V.int))) ⟨none, rfl, k1, hD1⟩ (fun _ _ H' _ ⟨_, _, k, _⟩ => SqT.of (k.tup _ _ hb)) ?_ ?_
    · rintro t x σ H3' H3 ht ⟨v3, rfl, k3, hp3⟩ ⟨rfl, hx⟩
      obtain ⟨pm, m, rfl, hm, hpm⟩ := (hms.kp k3).get hx
      refine ⟨_, rfl, _, rfl, D1, pm, _, m, n, rfl, hp3, hpm, hok m (List.mem_of_getElem? hm), by rw [acts_len]; exact hl, hn, fun H4 k4 hp4 => ?_⟩
      exact ⟨_, rfl, kp_at nD k3 k4, by rw [hp4, acts_take r ms t m hm]⟩
    · rintro σ H3 ⟨v3, rfl, k3, hp3⟩
      rw [hms.len, List.take_length] at hp3
      exact ⟨_, rfl, q _ _ nD k3 hp3⟩
def sp_is_word (K : PySem.W.Frag) : Sp := fun vs H Q _ => ∃ (n : Nat) (p : Addr) (ms : List Mv), vs = [.int n, .ref p] ∧ Wd H p ms ∧ (∀ m ∈ ms, MvOk n m) ∧ ms.length ≤ 1000 ∧ n ≤ 16 ∧ ∀ H', Kp N0 H H' → Q (.bl true) H'
theorem ok_is_word (T : Txt K mg) (D : Df K mg "_is_word" s_is_word ["n", "value"]) (c_is_move : C8.Cal P w K mg base 4 "is_move" (sp_is_move K) []) : C8.Cal P w K mg base 5 "_is_word" (sp_is_word K) [] := by
  obtain ⟨f, fd, D, hb⟩ := D
  refine C8.cal0 D (.all hb) .nil sc_is_word (fun vs H Q E h => ?_) (fun cdv A outer s H vs Q E hr h => ?_)
  · obtain ⟨_, _, _, rfl, _⟩ := h; rfl
  · obtain ⟨n, p, ms, rfl, ⟨ws, hp, hms⟩, hok, hl, hn, q⟩ := h
    refine ⟨_, (pss_cons (ps_if (PW.pt (pw_or (pt_not (pt_val (pe_callB (callK (K := K) rIsi call_isi) (by rfl) T.b_isinstance (by decide +kernel) (pa_cons (pv 1) (pa_cons (pe_bltn (v := .ty "tuple") (by rfl) T.b_tuple (by decide +kernel) rfl) pa_nil))))) (pw_or1 (pt_cmpR op_gt (pe_callB (callK (K := K) Vf.rLen call_lenI) (by rfl) T.b_len (by decide +kernel) (pa_cons (pv 1) pa_nil)) (C8.pe_gc (by rfl) T.c_MAX_WORD) (nomark _))))) (pss_one (ps_ret pe_bl)) pss_nil)
      (pss_one (ps_ret (pe_callB (callK (K := K) rAll (cr_all rfl)) (by rfl) T.b_all (by decide +kernel) (pa_cons (pe_lc (own := [("move", 2)]) (g := gName 2) rfl sc_is_word.nd (pi_tup (pv 1)) (C8b.blk (N := ["n", "value", "move"]) (sc := C8.fnScope s_is_word) (by decide +kernel)) (fun _ _ _ _ _ => (pg_name (i := 2) sc_is_word.nd rfl (Or.inl rfl))) (fun _ _ _ _ _ => pts_nil) (fun _ _ _ _ _ => (C8.pe_c c_is_move hr (by decide) (by rfl) (pa_cons (pv 0) (pa_cons (pv 2) pa_nil))))) pa_nil))))), ?_⟩
    have hwl := hms.len
    refine ⟨_, rfl, _, _, _, _, true, rfl, .ty _, tyT hp, kit_ty (by decide +kernel), true, rfl, iteF ?_⟩
    refine ⟨_, rfl, lenT rfl hp ⟨_, _, rfl, rfl, _, rfl, ?_⟩⟩
    rw [decide_eq_false (by omega)]
    refine iteF ⟨_, rfl, _, rfl, ⟨_, SqT.of hp⟩, ?_⟩
    refine lc_bools (walk_tup (xs := ws)) (fun _ => true) (by omega) (fun H' k => SqT.of (k.tup _ _ hp)) ?_ ?_
    · rintro i x H1 H2 hi k ⟨rfl, hx⟩ R hR
      obtain ⟨pm, m, rfl, hm, hpm⟩ := (hms.kp k).get hx
      exact ⟨rfl, _, rfl, _, rfl, n, pm, m, rfl, hpm, hok m (List.mem_of_getElem? hm), hn, fun H3 k3 => hR _ k3⟩
    · intro D H1 k h1
      refine ⟨D, _, rfl, SqL.of h1, ?_⟩
      rw [show (List.map (fun _ => true) (List.range ws.length)).all id = true by simp]
      exact q _ k
def sp_check_word (K : PySem.W.Frag) : Sp := fun vs H Q _ => ∃ (n : Nat) (p : Addr) (ms : List Mv), vs = [.int n, .ref p] ∧ Wd H p ms ∧ (∀ m ∈ ms, MvOk n m) ∧ ms.length ≤ 1000 ∧ n ≤ 16 ∧ ∀ H', Kp N0 H H' → Q .non H'
theorem ok_check_word (T : Txt K mg) (D : Df K mg "check_word" s_check_word ["n", "word"]) (c_is_word : C8.Cal P w K mg base 5 "_is_word" (sp_is_word K) []) : C8.Cal P w K mg base 6 "check_word" (sp_check_word K) [] := by
  obtain ⟨f, fd, D, hb⟩ := D
  refine C8.cal0 D (.all hb) .nil sc_check_word (fun vs H Q E h => ?_) (fun cdv A outer s H vs Q E hr h => ?_)
  · obtain ⟨_, _, _, rfl, _⟩ := h; rfl
  · obtain ⟨n, p, ms, rfl, hp, hok, hl, hn, q⟩ := h
    refine ⟨_, (pss_one (ps_if (pt_not (pt_val (C8.pe_c c_is_word hr (by decide) (by rfl) (pa_cons (pv 0) (pa_cons (pv 1) pa_nil))))) (pss_one ps_never) pss_nil)), ?_⟩
    exact ⟨_, rfl, _, rfl, n, p, ms, rfl, hp, hok, hl, hn, fun H1 k => ⟨true, rfl, iteF (q _ k)⟩⟩
theorem MvOk.up {n k : Nat} {m : Mv} (h : MvOk n m) (hk : n ≤ k) : MvOk k m := by
  cases m with
  | sw i j => exact ⟨h.1, by have := h.2; omega⟩
  | tn i j l => exact ⟨h.1, h.2.1, by have := h.2.2; omega⟩
def sp_undone (K : PySem.W.Frag) : Sp := fun vs H Q _ => ∃ (p : Addr) (ms : List Mv), vs = [.ref p] ∧ Wd H p ms ∧ (∀ m ∈ ms, MvOk 16 m) ∧ ms.length ≤ 1000 ∧ ∀ p' H', Kp N0 H H' → Wd H' p' ms.reverse → Q (.ref p') H'
def sp_moved (K : PySem.W.Frag) : Sp := fun vs H Q _ => ∃ (a b : Addr) (r : List Int) (ms : List Mv) (n : Nat), vs = [.ref a, .ref b] ∧ SqT K H a (r.map V.int) ∧ Wd H b ms ∧ (∀ m ∈ ms, MvOk n m) ∧ r.length = n + 1 ∧ n ≤ 16 ∧ ms.length ≤ 1000 ∧ Row r ∧ AllSh (acts r ms) ∧ ∀ p H', Kp N0 H H' → H' p = some (.tup ((acts r ms).map V.int)) → Q (.ref p) H'
theorem ok_moved (T : Txt K mg) (D : Df K mg "moved" s_moved ["row", "word"]) (c_check_row : C8.Cal P w K mg base 4 "check_row" (sp_check_row K) []) (c_check_word : C8.Cal P w K mg base 6 "check_word" (sp_check_word K) []) (c_short_row : C8.Cal P w K mg base 3 "short_row" (sp_short_row K) []) (c_moved_far : C8.Cal P w K mg base 2 "moved_far" (sp_moved_far K) []) : C8.Cal P w K mg base 7 "moved" (sp_moved K) [] := by
  obtain ⟨f, fd, D, hb⟩ := D
  refine C8.cal0 D (.all hb) .nil sc_moved (fun vs H Q E h => ?_) (fun cdv A outer s H vs Q E hr h => ?_)
  · obtain ⟨_, _, _, _, _, rfl, _⟩ := h; rfl
  · obtain ⟨a, b, r, ms, n, rfl, ha, hb, hok, hl, hn, hml, rr, hs, q⟩ := h
    refine ⟨_, (pss_cons (ps_expr (C8.pe_c c_check_row hr (by decide) (by rfl) (pa_cons (pv 0) pa_nil)))
      (pss_cons (ps_expr (C8.pe_c c_check_word hr (by decide) (by rfl) (pa_cons (pe_op op_sub (pe_callB (callK (K := K) Vf.rLen call_lenI) (by rfl) T.b_len (by decide +kernel) (pa_cons (pv 0) pa_nil)) pe_int) (pa_cons (pv 1) pa_nil))))
      (pss_one (ps_ret (C8.pe_c c_short_row hr (by decide) (by rfl) (pa_cons (C8.pe_c c_moved_far hr (by decide) (by rfl) (pa_cons (pv 0) (pa_cons (pv 1) pa_nil))) pa_nil)))))), ?_⟩
    refine ⟨_, rfl, a, r, rfl, ha, rr, fun H1 k1 => ?_⟩
    refine ⟨_, rfl, lenS rfl (k1.sqT ha) ⟨_, _, rfl, rfl, _, rfl, n, b, ms, ?_, hb.kp k1, hok, hml, hn, fun H2 k2 => ?_⟩⟩
    · rw [List.length_map]
      exact congrArg (fun z : Int => [V.int z, V.ref b]) (by omega)
    have k02 := k1.trans k2
    refine ⟨_, rfl, _, rfl, a, b, r, ms, n, rfl, k02.sqT ha, hb.kp k02, hok, hl, by omega, fun D3 H3 _ k3 h3 => ?_⟩
    exact ⟨D3, _, rfl, .inl h3, hs, by rw [acts_len]; omega, fun p4 H4 k4 hp4 => q _ _ ((k02.trans k3).trans k4) hp4⟩

/-! ### all orders of some ints -/
def insU (x : Int) : List Int → List Int
  | [] => [x]
  | y :: l => if x < y then x :: y :: l else if x = y then y :: l else y :: insU x l
def dsort (l : List Int) : List Int := l.foldr insU []
theorem insU_mem (x k : Int) : ∀ l : List Int, k ∈ insU x l ↔ k = x ∨ k ∈ l
  | [] => by simp [insU]
  | y :: l => by
    have ih := insU_mem x k l
    unfold insU
    split
    · simp
    · split
      · next e => subst e; simp
      · simp only [List.mem_cons, ih]
        constructor
        · rintro (h | h | h)
          · exact .inr (.inl h)
          · exact .inl h
          · exact .inr (.inr h)
        · rintro (h | h | h)
          · exact .inr (.inl h)
          · exact .inl h
          · exact .inr (.inr h)
theorem insU_len (x : Int) : ∀ l : List Int, (insU x l).length ≤ l.length + 1
  | [] => by simp [insU]
  | y :: l => by
    have := insU_len x l
    unfold insU
    split
    · simp
    · split
      · simp
      · simp only [List.length_cons]
        omega
theorem dsort_len : ∀ l : List Int, (dsort l).length ≤ l.length
  | [] => Nat.le_refl _
  | x :: l => by
    have h1 := dsort_len l
    have h2 := insU_len x (dsort l)
    show (insU x (dsort l)).length ≤ l.length + 1
    omega
theorem insU_pw (x : Int) : ∀ l : List Int, l.Pairwise (· < ·) → (insU x l).Pairwise (· < ·)
  | [], _ => by simp [insU]
  | y :: l, h => by
    obtain ⟨h1, h2⟩ := List.pairwise_cons.mp h
    unfold insU
    split
    · next c => exact List.pairwise_cons.mpr ⟨fun z hz => by
        rcases List.mem_cons.mp hz with rfl | hz
        · exact c
        · have := h1 z hz
          omega, h⟩
    · split
      · exact h
      · next c1 c2 => exact List.pairwise_cons.mpr ⟨fun z hz => by
          rcases (insU_mem x z l).mp hz with rfl | hz
          · omega
          · exact h1 z hz, insU_pw x l h2⟩
theorem dsort_dis : ∀ l : List Int, Dis l (dsort l)
  | [] => ⟨.nil, fun k => .rfl⟩
  | x :: l => by
    have ih := dsort_dis l
    refine ⟨insU_pw x _ ih.pw, fun k => ?_⟩
    show k ∈ insU x (dsort l) ↔ _
    rw [insU_mem, ih.mem, List.mem_cons]
theorem dis_uniq {ns ms ks : List Int} (a : Dis ns ms) (b : Dis ns ks) : ms = ks := by
  have hp : ms.Perm ks := (List.perm_ext_iff_of_nodup (a.pw.imp fun h => Int.ne_of_lt h) (b.pw.imp fun h => Int.ne_of_lt h)).mpr fun k => (a.mem k).trans (b.mem k).symm
  exact hp.eq_of_pairwise (fun a b _ _ h1 h2 => by omega) a.pw b.pw
def ordL : Nat → List Int → List (List Int)
  | 0, _ => [[]]
  | d + 1, l => (dsort l).flatMap fun x => (ordL d (l.erase x)).map (x :: ·)
theorem ordL_len : ∀ (d : Nat) (l : List Int), l.length = d → ∀ o ∈ ordL d l, o.length = d
  | 0, _, _, o, h => by
    have h : o ∈ [[]] := h
    rw [List.mem_singleton.mp h]
    rfl
  | d + 1, l, hl, o, h => by
    obtain ⟨x, hx, h⟩ := List.mem_flatMap.mp (show o ∈ (dsort l).flatMap fun x => (ordL d (l.erase x)).map (x :: ·) from h)
    obtain ⟨o', ho, rfl⟩ := List.mem_map.mp h
    have hm : x ∈ l := ((dsort_dis l).mem x).mp hx
    rw [List.length_cons, ordL_len d (l.erase x) (by rw [List.length_erase_of_mem hm, hl]; rfl) o' ho]
theorem erase_first : ∀ {l : List Int} {j : Nat} {x : Int}, l[j]? = some x → (∀ m, m < j → l[m]? ≠ some x) → l.take j ++ l.drop (j + 1) = l.erase x
  | [], j, x, h, _ => by simp at h
  | y :: l, 0, x, h, _ => by
    have h : y = x := by simpa using h
    subst h
    simp
  | y :: l, j + 1, x, h, hn => by
    have h0 : y ≠ x := fun e => hn 0 (by omega) (by rw [e]; rfl)
    have ih := erase_first (l := l) (j := j) (x := x) (by simpa using h) fun m hm => by
      have := hn (m + 1) (by omega)
      simpa using this
    rw [List.erase_cons_tail (by simpa using h0), ← ih]
    simp
theorem first_at {l : List Int} {x : Int} (h : x ∈ l) : ∃ j : Nat, l[j]? = some x ∧ ∀ m, m < j → l[m]? ≠ some x := by
  induction l with
  | nil => cases h
  | cons y l ih =>
    by_cases e : y = x
    · exact ⟨0, by rw [e]; rfl, fun m hm => absurd hm (by omega)⟩
    · rcases List.mem_cons.mp h with h | h
      · exact absurd h.symm e
      · obtain ⟨j, h1, h2⟩ := ih h
        refine ⟨j + 1, by simpa using h1, fun m hm => ?_⟩
        cases m with
        | zero => simpa using e
        | succ m => simpa using h2 m (by omega)
theorem Rws.upd {H : Hp} {D : Addr} {zs zs' : List V} (hd : H D = some (.lst zs)) : ∀ {vs : List V} {rs : List (List Int)}, Rws H vs rs → Rws (upd H D (.lst zs')) vs rs
  | [], [], _ => trivial
  | _ :: _, _ :: _, ⟨⟨p, e, h⟩, t⟩ => ⟨⟨p, e, by rw [upd_ne (ne_of h hd (by intro z; cases z))]; exact h⟩, Rws.upd hd t⟩
def sp_ord (K : PySem.W.Frag) : Nat → Sp
  | 0 => fun _ _ _ _ => False
  | d + 1 => fun vs H Q _ => ∃ (p : Addr) (l : List Int), vs = [.ref p] ∧ TF K H p (l.map V.int) ∧ l.length ≤ d ∧ d ≤ 9 ∧ (ordL l.length l).length ≤ 1000 ∧
    ∀ D H' ws, H D = none → Kp N0 H H' → H' D = some (.lst ws) → Rws H' ws (ordL l.length l) → Q (.ref D) H'
def sp_orders (K : PySem.W.Frag) : Sp := sp_ord K 10
/-! ### a comprehension with a test, its items rows; the law's choices -/
theorem lc_filtR {J : It} {n : Nat} {Gw : Hp → Prop} {Y : Nat → Hp → V → Hp → Prop} {g : TG} {tt : TT} {te : TE} {vs : List Nat} {σ : L2.St} {H1 : Hp} {Qd : Addr → Hp → Prop} (w : Walk J n Gw Y) (t : Nat → Bool) (f : Nat → List Int) (hn : n ≤ 100000) (hw : ∀ H, Kp N0 H1 H → Gw H)
    (turn : ∀ i x H H', i < n → Kp N0 H1 H → Y i H x H' →
      g x (wipe σ vs) H' fun σ2 H2 => wipe σ2 vs = wipe σ vs ∧ (∀ R : Bool → Hp → Prop, (∀ H3, Kp N0 H H3 → R (t i) H3) → tt σ2 H2 R) ∧ (t i = true → ∀ H3, Kp N0 H H3 → ∀ R : VK, (∀ p H4, Kp N0 H H4 → H4 p = some (.tup ((f i).map V.int)) → R (.ref p) H4) → te σ2 H3 R))
    (gm : ∀ x σ H (A B : L2.St → Hp → Prop), (∀ σ H, A σ H → B σ H) → g x σ H A → g x σ H B)
    (fin : ∀ D H' ys, H1 D = none → Kp N0 H1 H' → H' D = some (.lst ys) → Rws H' ys (((List.range n).filter t).map f) → Qd D H') :
    ∀ D, H1 D = none → ∃ W : Nat → Nat → Hp → Prop, (∃ m, W 0 m (upd H1 D (.lst []))) ∧ ∀ i m H, W i m H →
      (J.stop i H ∧ Qd D H) ∨ (J.go i H ∧ ∃ Nx : Hp → Prop, (∀ H', Nx H' → ∃ m', m' < m ∧ W (i + 1) m' H') ∧ ∀ x H', J.yld i H x H' → g x (wipe σ vs) H' fun σ2 H2 => wipe σ2 vs = wipe σ vs ∧ tt σ2 H2 fun b H3 =>
        if b = true then te σ2 H3 fun y H4 => ∃ acc, H4 D = some (.lst acc) ∧ acc.length < sizeLine ∧ Nx (upd H4 D (.lst (acc ++ [y]))) else Nx H3) := by
  intro D hDn
  refine ⟨fun i m H => m = n - i ∧ i ≤ n ∧ Kp N0 H1 H ∧ ∃ ys, H D = some (.lst ys) ∧ Rws H ys (((List.range i).filter t).map f), ⟨n, by simp, Nat.zero_le _, .new hDn, [], upd_same, trivial⟩, ?_⟩
  rintro i m H ⟨rfl, hi, k, ys, hy, hys⟩
  have q := hw H k
  by_cases hlt : i < n
  · refine .inr ⟨w.goes i H hlt q, fun H' => Kp N0 H1 H' ∧ ∃ ys, H' D = some (.lst ys) ∧ Rws H' ys (((List.range (i + 1)).filter t).map f), fun H' p' => ⟨n - (i + 1), by omega, rfl, hlt, p'⟩, fun x H' y => ?_⟩
    refine gm _ _ _ _ _ (fun σ2 H2 h => ⟨h.1, h.2.1 _ fun H3 k3 => ?_⟩) (turn i x H H' hlt k (w.yields i H x H' hlt q y))
    by_cases ht : t i = true
    · rw [ht, if_pos rfl]
      refine h.2.2 ht H3 k3 _ fun p H4 k4 hp => ?_
      have h4 := k4.keep _ _ (fun z => z) hy
      have yl := hys.len
      refine ⟨_, h4, ?_, .mut0 hDn (k.trans k4), ys ++ [.ref p], upd_same, ?_⟩
      · rw [List.length_map] at yl
        have := List.length_filter_le t (List.range i)
        rw [List.length_range] at this
        exact Nat.lt_of_le_of_lt (by omega : ys.length ≤ 100000) (by decide)
      · rw [List.range_succ, List.filter_append, List.filter_cons, if_pos ht, List.map_append]
        exact Rws.upd h4 (Rws.app (hys.kp k4) ⟨⟨p, rfl, hp⟩, trivial⟩)
    · have e : t i = false := by cases h : t i with | true => exact absurd h ht | false => rfl
      rw [e, if_neg (by decide)]
      refine ⟨k.trans k3, ys, k3.keep _ _ (fun z => z) hy, ?_⟩
      rw [List.range_succ, List.filter_append, List.filter_cons, if_neg ht]
      simpa using hys.kp k3
  · have e : i = n := by omega
    subst e
    exact .inl ⟨w.stops H q, fin D H ys hDn k hy hys⟩
theorem range_filt {α : Type} (d : α) (p : α → Bool) {β : Type} (g : α → β) (l : List α) : ((List.range l.length).filter fun i => p (l.getD i d)).map (fun i => g (l.getD i d)) = (l.filter p).map g := by
  have h : l = (List.range l.length).map fun i => l.getD i d := by
    refine List.ext_getElem (by simp) fun i h1 h2 => ?_
    rw [List.getElem_map, List.getElem_range, List.getD_eq_getElem?_getD, List.getElem?_eq_getElem h1]
    rfl
  conv => rhs; rw [h]
  rw [List.filter_map, List.map_map]
  rfl
def chS (k : Nat) (found : List (List Int)) (x : Int) : List (List Int) := found ++ (found.filter fun o => decide (o.length < k)).map (· ++ [x])
def chA (items : List Int) (k : Nat) : List (List Int) := items.foldl (chS k) [[]]
def chL (items : List Int) (k : Nat) : List (List Int) := (chA items k).filter fun o => decide (o.length = k)
theorem chS_len (k : Nat) (f : List (List Int)) (x : Int) : (chS k f x).length ≤ 2 * f.length := by
  unfold chS
  rw [List.length_append, List.length_map]
  have := List.length_filter_le (fun o : List Int => decide (o.length < k)) f
  omega
theorem chA_take (items : List Int) (k i : Nat) (h : i < items.length) : chA (items.take (i + 1)) k = chS k (chA (items.take i) k) (items.getD i 0) := by
  unfold chA
  rw [List.take_add_one, List.getElem?_eq_getElem h, List.foldl_append, List.getD_eq_getElem?_getD, List.getElem?_eq_getElem h]
  rfl
theorem chA_len (items : List Int) (k : Nat) : ∀ i, i ≤ items.length → (chA (items.take i) k).length ≤ 2 ^ i ∧ ∀ o ∈ chA (items.take i) k, o.length ≤ i
  | 0, _ => ⟨Nat.le_refl _, fun o h => by
    have h : o ∈ [[]] := h
    rw [List.mem_singleton.mp h]
    exact Nat.le_refl _⟩
  | i + 1, h => by
    obtain ⟨h1, h2⟩ := chA_len items k i (by omega)
    rw [chA_take items k i (by omega)]
    refine ⟨?_, fun o ho => ?_⟩
    · have := chS_len k (chA (items.take i) k) (items.getD i 0)
      rw [Nat.pow_succ]
      omega
    · rcases List.mem_append.mp ho with ho | ho
      · have := h2 o ho
        omega
      · obtain ⟨o', ho', rfl⟩ := List.mem_map.mp ho
        have := h2 o' (List.mem_filter.mp ho').1
        rw [List.length_append]
        exact Nat.succ_le_succ this
def sp_l_choices (K : PySem.W.Frag) : Sp := fun vs H Q _ => ∃ (a : Addr) (ns : List Int) (k : Nat), vs = [.ref a, .int k] ∧ H a = some (.lst (ns.map V.int)) ∧ ns.length ≤ 8 ∧ ∀ D H' ys, H D = none → Kp N0 H H' → H' D = some (.lst ys) → Rws H' ys (chL ns k) → Q (.ref D) H'
theorem ok_l_choices (T : Txt K mg) (D : Df K mg "_law_choices" s_l_choices ["_law_items", "_law_size"]) : C8.Cal P w K mg base 1 "_law_choices" (sp_l_choices K) [] := by
  obtain ⟨f, fd, D, hb⟩ := D
  refine C8.cal0 D (.all hb) .nil sc_l_choices (fun vs H Q E h => ?_) (fun cdv A outer s H vs Q E hr h => ?_)
  · obtain ⟨_, _, _, rfl, _⟩ := h; rfl
  · obtain ⟨a, ns, k, rfl, ha, hl, q⟩ := h
    refine ⟨_, (pss_cons (ps_set (i := 2) sc_l_choices.nd rfl (Or.inl rfl) (pe_lstN (pa_cons (pe_tupN pa_nil) pa_nil)))
      (pss_cons (ps_for PassesOwn.never rfl (pi_list (pv 0)) (pg_name (i := 3) sc_l_choices.nd rfl (Or.inr rfl)) (pss_cons (ps_setLc (i := 4) (own := [("_law_one", 5)]) (g := gName 5) rfl sc_l_choices.nd rfl rfl (sw_true rfl rfl rfl (by decide +kernel)) (pi_list (pv 2)) (C8b.blk (N := ["_law_items", "_law_size", "_law_found", "_law_item", "_law_more", "_law_one"]) (sc := C8.fnScope s_l_choices) (by decide +kernel)) (fun _ _ _ _ _ => (pg_name (i := 5) sc_l_choices.nd rfl (Or.inl rfl))) (fun _ _ _ _ _ => (pts_one (pt_cmpR op_lt (pe_callB (callK (K := K) Vf.rLen call_lenI) (by rfl) T.b_len (by decide +kernel) (pa_cons (pv 5) pa_nil)) (pv 1) (nomark _)))) (fun _ _ _ _ _ => (pe_op (opK (K := K) rCatI op_catI) (pv 5) (pe_tupN (pa_cons (pv 3) pa_nil)))))
      (pss_one (ps_set (i := 2) sc_l_choices.nd rfl (Or.inl rfl) (pe_op op_catLI (pv 2) (pv 4))))))
      (pss_one (ps_ret (pe_lc (own := [("_law_one", 5)]) (g := gName 5) rfl sc_l_choices.nd (pi_list (pv 2)) (C8b.blk (N := ["_law_items", "_law_size", "_law_found", "_law_item", "_law_more", "_law_one"]) (sc := C8.fnScope s_l_choices) (by decide +kernel)) (fun _ _ _ _ _ => (pg_name (i := 5) sc_l_choices.nd rfl (Or.inl rfl))) (fun _ _ _ _ _ => (pts_one (pt_cmpR op_eq (pe_callB (callK (K := K) Vf.rLen call_lenI) (by rfl) T.b_len (by decide +kernel) (pa_cons (pv 5) pa_nil)) (pv 1) (nomark _)))) (fun _ _ _ _ _ => (pv 5))))))), ?_⟩
    refine newT (sz_ (by simp)) fun p1 H1 _ k1 hp1 => newL (sz_ (by simp)) fun p2 H2 n2 k2 hp2 => ?_
    have k12 := k1.trans k2
    refine ⟨_, rfl, a, rfl, ⟨_, SqL.of (k12.keep _ _ (fun z => z) ha)⟩, ?_⟩
    refine for_it (n := ns.length) (walk_listN (K := K) (a := a) (xs := ns.map V.int) (by rw [List.length_map])) (fun i σ H' => ∃ pf v3 v4 v5 ws, σ = [some (.ref a), some (.int k), some (.ref pf), v3, v4, v5] ∧ Kp N0 H H' ∧ H' pf = some (.lst ws) ∧ Rws H' ws (chA (ns.take i) k))
      ⟨p2, _, _, _, [.ref p1], rfl, k12, hp2, ⟨⟨p1, rfl, k2.tup _ _ hp1⟩, trivial⟩⟩ (fun _ _ _ _ ⟨_, _, _, _, _, _, kk, _⟩ => SqL.of (kk.keep _ _ (fun z => z) ha)) ?_ ?_
    · rintro i x σ G0 G hi ⟨pf, v3, v4, v5, ws, rfl, kG, hf, hw⟩ ⟨rfl, hx⟩
      rw [int_at hi] at hx
      cases hx
      obtain ⟨cl, co⟩ := chA_len ns k i (by omega)
      have c2 : (2 : Nat) ^ i ≤ 2 ^ 8 := Nat.pow_le_pow_right (by decide) (by omega)
      have c8 : (2 : Nat) ^ 8 = 256 := by decide
      have etk := chA_take ns k i hi
      have wl := hw.len
      generalize hF : chA (ns.take i) k = fnd at hw cl co etk wl
      generalize ns.getD i 0 = x at etk
      refine ⟨_, rfl, pf, rfl, ⟨_, SqL.of hf⟩, ?_⟩
      refine lc_filtR (walk_list (K := K) (a := pf) (xs := ws)) (fun j => decide ((fnd.getD j []).length < k)) (fun j => fnd.getD j [] ++ [x]) (by omega) (fun H' kk => SqL.of (kk.keep _ _ (fun z => z) hf)) ?_ gm_name ?_
      · rintro j y F0 F hj kF ⟨rfl, hy⟩
        obtain ⟨po, o, rfl, ho, hpo⟩ := (hw.kp kF).get hy
        have eo : fnd.getD j [] = o := by
          rw [List.getD_eq_getElem?_getD, ho]
          rfl
        have ol := co o (List.mem_of_getElem? ho)
        refine ⟨rfl, fun R hR => ?_, fun _ F3 f3 R hR => ?_⟩
        · refine ⟨_, rfl, lenT rfl hpo ⟨_, rfl, _, _, rfl, rfl, _, rfl, ?_⟩⟩
          have e : decide ((((o.map V.int).length : Nat) : Int) < (k : Int)) = decide ((fnd.getD j []).length < k) := by
            rw [eo, List.length_map]
            exact decide_eq_decide.mpr (by omega)
          rw [e]
          exact hR _ (.refl _ _)
        · refine ⟨_, rfl, _, rfl, newT (sz_ (by simp)) fun p8 F4 _ f4 hp8 => ?_⟩
          refine catT ((f3.trans f4).tup _ _ hpo) hp8 (sz_ (by simp; omega)) fun p9 F5 f5 hp9 => hR p9 F5 ((f3.trans f4).trans f5) ?_
          rw [hp9, eo]
          simp
      intro D5 G5 ys nD5 g5 hD5 hys
      have hys : Rws G5 ys ((fnd.filter fun o => decide (o.length < k)).map (· ++ [x])) := by
        rw [← range_filt [] (fun o : List Int => decide (o.length < k)) (· ++ [x]) fnd]
        rw [wl] at hys
        exact hys
      have yl := hys.len
      rw [List.length_map] at yl
      have yf := List.length_filter_le (fun o : List Int => decide (o.length < k)) fnd
      refine ⟨_, rfl, _, rfl, catL (g5.keep _ _ (fun z => z) hf) hD5 (sz_ (by omega)) fun p6 G6 n6 g6 h6 => ?_⟩
      refine ⟨p6, _, _, _, ws ++ ys, rfl, kG.trans (g5.trans g6), h6, ?_⟩
      rw [etk]
      exact Rws.app (hw.kp (g5.trans g6)) (hys.kp g6)
    · rintro σ G ⟨pf, v3, v4, v5, ws, rfl, kG, hf, hw⟩
      rw [List.take_length] at hw
      obtain ⟨cl, co⟩ := chA_len ns k ns.length (Nat.le_refl _)
      rw [List.take_length] at cl co
      have c2 : (2 : Nat) ^ ns.length ≤ 2 ^ 8 := Nat.pow_le_pow_right (by decide) hl
      have c8 : (2 : Nat) ^ 8 = 256 := by decide
      have wl := hw.len
      refine ⟨_, rfl, pf, rfl, ⟨_, SqL.of hf⟩, ?_⟩
      refine lc_filtR (walk_list (K := K) (a := pf) (xs := ws)) (fun j => decide (((chA ns k).getD j []).length = k)) (fun j => (chA ns k).getD j []) (by omega) (fun H' kk => SqL.of (kk.keep _ _ (fun z => z) hf)) ?_ gm_name ?_
      · rintro j y F0 F hj kF ⟨rfl, hy⟩
        obtain ⟨po, o, rfl, ho, hpo⟩ := (hw.kp kF).get hy
        have eo : (chA ns k).getD j [] = o := by
          rw [List.getD_eq_getElem?_getD, ho]
          rfl
        refine ⟨rfl, fun R hR => ?_, fun _ F3 f3 R hR => ⟨_, rfl, hR po F3 f3 (by rw [f3.tup _ _ hpo, eo])⟩⟩
        refine ⟨_, rfl, lenT rfl hpo ⟨_, rfl, rfl, _, rfl, ?_⟩⟩
        have e : decide (V.int (((o.map V.int).length : Nat) : Int) = V.int (k : Int)) = decide (((chA ns k).getD j []).length = k) := by
          rw [eo, List.length_map]
          exact decide_eq_decide.mpr ⟨fun z => by have := V.int.inj z; omega, fun z => by rw [z]⟩
        rw [e]
        exact hR _ (.refl _ _)
      intro D5 G5 ys nD5 g5 hD5 hys
      have hys : Rws G5 ys (chL ns k) := by
        have e := range_filt [] (fun o : List Int => decide (o.length = k)) (fun o => o) (chA ns k)
        rw [List.map_id'] at e
        unfold chL
        rw [← e]
        rw [wl] at hys
        exact hys
      exact q D5 G5 ys (kG.live _ nD5) (kG.trans g5) hD5 hys

/-! ### all exceptional rows -/
def patsX : List (Int × List Int) := [(0, [-1]), (1, [1, 1]), (2, [1, 1, 1, 1, 1]), (3, [2, 1, 1, 1, 1, 1, 1]), (4, [2, 2, 2, 1, 1, 1, 1, 1]), (5, [2, 2, 2, 2, 2, 2, 1, 1]), (6, [3, 2, 2, 2, 2, 2, 2, 2])]
def filX (n : Nat) (p : Int × List Int) : List (List Int) := if p.2.length ≤ n then (ordL n (p.2 ++ List.replicate (n - p.2.length) 0)).map (p.1 :: ·) else []
def rawX (n : Nat) : List (List Int) := patsX.flatMap (filX n)
def excL (n : Nat) : List (List Int) := lsort (rawX n)
theorem filX_small : ∀ n ∈ [3, 4, 5, 6, 7, 8], ∀ p ∈ patsX, (filX n p).length ≤ 200 := by decide +kernel
theorem rawX_small : ∀ n ∈ [3, 4, 5, 6, 7, 8], (rawX n).length ≤ 300 := by decide +kernel
theorem in38 {n : Nat} (h1 : 3 ≤ n) (h2 : n ≤ 8) : n ∈ [3, 4, 5, 6, 7, 8] := by
  simp only [List.mem_cons, List.not_mem_nil, or_false]
  omega
theorem exc8_eq : exc8 = excL 8 := by decide +kernel
theorem exc8_len : exc8.length = 240 := by decide +kernel
theorem exc8_nine : ∀ r ∈ exc8, r.length = 9 := by decide +kernel
theorem exc8_cut : ∀ n ∈ [3, 4, 5, 6, 7], (exc8.filter fun r => decide (r.drop (n + 1) = List.replicate (8 - n) 0)).map (fun r => r.take (n + 1)) = excL n := by decide +kernel
def sp_exceptional_rows (K : PySem.W.Frag) : Sp := fun vs H Q _ => ∃ (n : Nat), vs = [.int n] ∧ 3 ≤ n ∧ n ≤ 8 ∧ ∀ p H' ws, Kp N0 H H' → SqT K H' p ws → RwK K H' ws (excL n) → Q (.ref p) H'
theorem ok_exceptional_rows (T : Txt K mg) (D : Df K mg "exceptional_rows" s_exceptional_rows ["n"]) (c_check_many : C8.Cal P w K mg base 4 "check_many" (sp_check_many) []) : C8.Cal P w K mg base 5 "exceptional_rows" (sp_exceptional_rows K) [] := by
  obtain ⟨f, fd, D, hb⟩ := D
  refine C8.cal0 D (.all hb) .nil sc_exceptional_rows (fun vs H Q E h => ?_) (fun cdv A outer s H vs Q E hr h => ?_)
  · obtain ⟨_, rfl, _⟩ := h; rfl
  · obtain ⟨n, rfl, h1, h2, q⟩ := h
    obtain ⟨aP, k_EXCEPTIONAL, vP, kP, hP⟩ := T.k_EXCEPTIONAL
    refine ⟨_, (pss_cons (ps_expr (C8.pe_c c_check_many hr (by decide) (by rfl) (pa_cons (pv 0) (pa_cons (C8.pe_gc (by rfl) T.c_FINITE_POINTS) pa_nil))))
      (pss_cons (ps_if (pt_cmpR op_eq (pv 0) (C8.pe_gc (by rfl) T.c_FINITE_POINTS) (nomark _)) (pss_one (ps_ret (C8.pe_gc (by rfl) k_EXCEPTIONAL))) pss_nil)
      (pss_cons (ps_set (i := 1) sc_exceptional_rows.nd rfl (Or.inr rfl) (pe_op (opK (K := K) rRepA op_repA) (pe_tupN (pa_cons pe_int pa_nil)) (pe_op op_sub (C8.pe_gc (by rfl) T.c_FINITE_POINTS) (pv 0))))
      (pss_one (ps_ret (pe_callTy (callK (K := K) rTupOf call_tupI) (by rfl) T.b_tuple (by decide +kernel) (pa_cons (pe_lc (own := [("row", 2)]) (g := gName 2) rfl sc_exceptional_rows.nd (pi_tup (C8.pe_gc (by rfl) k_EXCEPTIONAL)) (C8b.blk (N := ["n", "behind", "row"]) (sc := C8.fnScope s_exceptional_rows) (by decide +kernel)) (fun _ _ _ _ _ => (pg_name (i := 2) sc_exceptional_rows.nd rfl (Or.inl rfl))) (fun _ _ _ _ _ => (pts_one (pt_cmpR (opK (K := K) rEqI (op_eqI hr.units)) (pe_slice (slK (K := K) rSlI sl_tupI) (pv 2) (po_some (pe_op op_add (pv 0) pe_int)) po_none) (pv 1) (nomark _)))) (fun _ _ _ _ _ => (pe_slice (slK (K := K) rSlI sl_tupI) (pv 2) po_none (po_some (pe_op op_add (pv 0) pe_int))))) pa_nil))))))), ?_⟩
    refine ⟨_, rfl, n, 8, rfl, h1, h2, by decide, ?_⟩
    refine ⟨_, rfl, rfl, _, rfl, ?_⟩
    by_cases e8 : n = 8
    · subst e8
      refine iteTB (decide_eq_true rfl) ?_
      have hr8 := hP.rw (H := H)
      rw [exc8_eq] at hr8
      exact q aP H vP (.refl _ _) kP.tf.sq hr8
    · refine iteFB (decide_eq_false fun z => e8 (by have := V.int.inj z; omega)) ?_
      refine newT (sz_ (by simp)) fun p1 H1 _ k1 hp1 => ⟨_, rfl, _, _, rfl, rfl, ?_⟩
      refine rep_do hp1 (by simp) (by omega) (by omega) (by simp) fun p2 H2 k2 hp2 => ?_
      rw [show (8 - (n : Int)) = ((8 - n : Nat) : Int) by omega, Int.toNat_natCast, rep_one] at hp2
      have k02 := k1.trans k2
      have hr2 := hP.rw (H := H2)
      have wl := hr2.len
      rw [exc8_len] at wl
      refine ⟨_, rfl, ⟨_, kP.tf.sq⟩, ?_⟩
      refine lc_filtR (walk_tup (K := K) (a := aP) (xs := vP)) (fun t => decide ((exc8.getD t []).drop (n + 1) = List.replicate (8 - n) 0)) (fun t => (exc8.getD t []).take (n + 1)) (by omega) (fun H' kk => kP.tf.sq) ?_ gm_name ?_
      · rintro t y F0 F ht kF ⟨rfl, hy⟩
        obtain ⟨po, o, rfl, ho, hpo⟩ := (hr2.kp kF).get hy
        have eo : exc8.getD t [] = o := by
          rw [List.getD_eq_getElem?_getD, ho]
          rfl
        have ol : o.length = 9 := exc8_nine o (List.mem_of_getElem? ho)
        have cutn : ∀ {xs : List V} {k : Nat}, xs.length = 9 → k < 9 → ¬ (HT.sIx xs.length 0 none = 0 ∧ HT.sIx xs.length xs.length (some (k : Int)) = xs.length) := by
          rintro xs k hx hk ⟨_, w⟩
          rw [HT.sIx_nat] at w
          omega
        refine ⟨rfl, fun R hR => ?_, fun _ F3 f3 R hR => ?_⟩
        · refine ⟨_, rfl, _, rfl, _, _, rfl, rfl, _, rfl, slS hpo ?_ fun p3 F1 f1 hp3 => ⟨_, rfl, ?_⟩⟩
          · rintro ⟨w, _⟩
            rw [show some ((n : Int) + 1) = some ((n + 1 : Nat) : Int) by simp, HT.sIx_nat, List.length_map] at w
            omega
          rw [show some ((n : Int) + 1) = some ((n + 1 : Nat) : Int) by simp, cut_from, ← List.map_drop] at hp3
          refine eqT2 (SqT.of hp3) (SqT.of ((kF.trans f1).tup _ _ hp2)) ?_
          have := hR F1 f1
          rw [eo] at this
          exact ⟨_, rfl, this⟩
        · refine ⟨_, rfl, _, rfl, _, _, rfl, rfl, _, rfl, slS (f3.sqT hpo) ?_ fun p3 F1 f1 hp3 => hR p3 F1 (f3.trans f1) ?_⟩
          · rw [show some ((n : Int) + 1) = some ((n + 1 : Nat) : Int) by simp]
            exact cutn (by rw [List.length_map, ol]) (by omega)
          rw [show some ((n : Int) + 1) = some ((n + 1 : Nat) : Int) by simp, cut_to, ← List.map_take] at hp3
          rw [hp3, eo]
      intro D3 H3 ys nD3 k3 hD3 hys
      have ecut : ((List.range vP.length).filter fun t => decide ((exc8.getD t []).drop (n + 1) = List.replicate (8 - n) 0)).map (fun t => (exc8.getD t []).take (n + 1)) = excL n := by
        have e := range_filt [] (fun o : List Int => decide (o.drop (n + 1) = List.replicate (8 - n) 0)) (fun o => o.take (n + 1)) exc8
        rw [exc8_len, ← wl] at e
        rw [e]
        exact exc8_cut n (by simp only [List.mem_cons, List.not_mem_nil, or_false]; omega)
      rw [ecut] at hys
      refine tupL rfl (SqL.of hD3) fun p4 H4 _ k4 hp4 => ?_
      exact q p4 H4 ys (k02.trans (k3.trans k4)) (SqT.of hp4) (RwK.of (hys.kp k4))

/-! ### the law's own list of all exceptional rows -/
def kindsX : List (Int × Int × Int × Nat) := [(1, 0, 1, 2), (2, 0, 1, 5), (3, 1, 2, 1), (4, 1, 2, 3), (5, 2, 1, 2), (6, 2, 3, 1)]
def roomX (n : Nat) (d : Int) : Nat := if d = 3 then 7 else if d = 4 then 8 else if d = 5 then 8 else if d = 6 then 8 else n
def ranI (n : Nat) : List Int := (List.range n).map fun i : Nat => (i : Int)
def numX (plain other : Int) (ch so : List Int) (acc : List Int) : List Int := ch.foldl (fun l at_ => l.set at_.toNat (if at_ ∈ so then other else plain)) acc
def rowX (n : Nat) (k : Int × Int × Int × Nat) (ch so : List Int) : List Int := k.1 :: numX k.2.1 k.2.2.1 ch so (List.replicate n 0)
def chosX (n : Nat) (k : Int × Int × Int × Nat) (ch : List Int) : List (List Int) := (chL ch k.2.2.2).map (rowX n k ch)
def kindX (n : Nat) (k : Int × Int × Int × Nat) : List (List Int) := if roomX n k.1 ≤ n then (chL (ranI n) (roomX n k.1)).flatMap (chosX n k) else []
def lrawX (n : Nat) : List (List Int) := ((List.range n).map fun i => prow n i) ++ kindsX.flatMap (kindX n)
theorem lexc_eq : ∀ n ∈ [3, 4, 5, 6, 7, 8], lsort (lrawX n) = excL n := by decide +kernel
theorem lraw_ne : ∀ n ∈ [3, 4, 5, 6, 7, 8], ∀ r ∈ lrawX n, r ≠ [] := by decide +kernel
theorem lraw_small : ∀ n ∈ [3, 4, 5, 6, 7, 8], (lrawX n).length ≤ 300 := by decide +kernel
theorem getD_memI {ns : List Int} {i : Nat} (h : i < ns.length) : ns.getD i 0 ∈ ns := by
  rw [List.getD_eq_getElem?_getD, List.getElem?_eq_getElem h]
  exact List.getElem_mem h
def Kd (H : Hp) (v : V) (k : Int × Int × Int × Nat) : Prop := ∃ p, v = .ref p ∧ H p = some (.tup [.int k.1, .int k.2.1, .int k.2.2.1, .int ((k.2.2.2 : Nat) : Int)])
theorem Kd.kp {S : Addr → Prop} {H H1 : Hp} {v : V} {k : Int × Int × Int × Nat} (kp : Kp S H H1) (h : Kd H v k) : Kd H1 v k := by
  obtain ⟨p, e, h⟩ := h
  exact ⟨p, e, kp.tup _ _ h⟩
theorem rg_ranI (n : Nat) : rgV 0 (n : Int) = (ranI n).map V.int := by
  unfold rgV ranI
  rw [show ((n : Int) - 0).toNat = n by omega, List.map_map]
  refine List.map_congr_left fun i _ => ?_
  show V.int (0 + (i : Int)) = V.int (i : Int)
  rw [Int.zero_add]
theorem chA_mem (items : List Int) (k : Nat) : ∀ i, i ≤ items.length → ∀ o ∈ chA (items.take i) k, ∀ a ∈ o, a ∈ items
  | 0, _ => fun o h a ha => by
    have h : o ∈ [[]] := h
    rw [List.mem_singleton.mp h] at ha
    cases ha
  | i + 1, h => fun o ho a ha => by
    have ih := chA_mem items k i (by omega)
    rw [chA_take items k i (by omega)] at ho
    rcases List.mem_append.mp ho with ho | ho
    · exact ih o ho a ha
    · obtain ⟨o', ho', rfl⟩ := List.mem_map.mp ho
      rcases List.mem_append.mp ha with ha | ha
      · exact ih o' (List.mem_filter.mp ho').1 a ha
      · rw [List.mem_singleton.mp ha]
        exact getD_memI (by omega)
theorem chL_mem {items : List Int} {k : Nat} {o : List Int} (h : o ∈ chL items k) : o.length = k ∧ ∀ a ∈ o, a ∈ items := by
  obtain ⟨h1, h2⟩ := List.mem_filter.mp h
  have := chA_mem items k items.length (Nat.le_refl _) o (by rw [List.take_length]; exact h1)
  exact ⟨of_decide_eq_true h2, this⟩
theorem ranI_mem {n : Nat} {a : Int} (h : a ∈ ranI n) : ∃ j : Nat, a = (j : Int) ∧ j < n := by
  obtain ⟨j, hj, rfl⟩ := List.mem_map.mp h
  exact ⟨j, rfl, List.mem_range.mp hj⟩
theorem numX_len (pl ot : Int) (so : List Int) : ∀ (ch acc : List Int), (numX pl ot ch so acc).length = acc.length
  | [], acc => rfl
  | a :: ch, acc => by
    show (numX pl ot ch so (acc.set a.toNat _)).length = _
    rw [numX_len pl ot so ch, List.length_set]
theorem numX_take (pl ot : Int) (so ch acc : List Int) (i : Nat) (h : i < ch.length) : numX pl ot (ch.take (i + 1)) so acc = (numX pl ot (ch.take i) so acc).set (ch.getD i 0).toNat (if ch.getD i 0 ∈ so then ot else pl) := by
  unfold numX
  rw [List.take_add_one, List.getElem?_eq_getElem h, List.foldl_append, List.getD_eq_getElem?_getD, List.getElem?_eq_getElem h]
  rfl
theorem inV_ints (a : Int) : ∀ l : List Int, inV (.int a) (l.map V.int) = decide (a ∈ l)
  | [] => by simp [inV]
  | x :: l => by
    have ih := inV_ints a l
    unfold inV at ih ⊢
    rw [List.map_cons, List.any_cons, ih]
    by_cases e : x = a
    · subst e
      simp [eqV]
    · have e' : ¬ a = x := fun z => e z.symm
      simp [eqV, e, e', List.mem_cons]
theorem kinds_room {n : Nat} {k : Int × Int × Int × Nat} (h : k ∈ kindsX) : k.1 = 1 ∧ roomX n k.1 = n ∨ k.1 = 2 ∧ roomX n k.1 = n ∨ k.1 = 3 ∧ roomX n k.1 = 7 ∨ k.1 = 4 ∧ roomX n k.1 = 8 ∨ k.1 = 5 ∧ roomX n k.1 = 8 ∨ k.1 = 6 ∧ roomX n k.1 = 8 := by
  simp only [kindsX, List.mem_cons, List.not_mem_nil, or_false] at h
  rcases h with rfl | rfl | rfl | rfl | rfl | rfl
  · exact .inl ⟨rfl, rfl⟩
  · exact .inr (.inl ⟨rfl, rfl⟩)
  · exact .inr (.inr (.inl ⟨rfl, rfl⟩))
  · exact .inr (.inr (.inr (.inl ⟨rfl, rfl⟩)))
  · exact .inr (.inr (.inr (.inr (.inl ⟨rfl, rfl⟩))))
  · exact .inr (.inr (.inr (.inr (.inr ⟨rfl, rfl⟩))))
def sp_l_exceptional (K : PySem.W.Frag) : Sp := fun vs H Q _ => ∃ (n : Nat), vs = [.int n] ∧ 3 ≤ n ∧ n ≤ 8 ∧ ∀ D H' ws, H D = none → Kp N0 H H' → H' D = some (.lst ws) → Rws H' ws (excL n) → Q (.ref D) H'
theorem ok_l_exceptional (T : Txt K mg) (D : Df K mg "_law_exceptional" s_l_exceptional ["_law_n"]) (c_l_point_row : C8.Cal P w K mg base 1 "_law_point_row" (sp_l_point_row K) []) (c_l_choices : C8.Cal P w K mg base 1 "_law_choices" (sp_l_choices K) []) : C8.Cal P w K mg base 2 "_law_exceptional" (sp_l_exceptional K) [] := by
  obtain ⟨f, fd, D, hb⟩ := D
  refine C8.cal0 D (.all hb) .nil sc_l_exceptional (fun vs H Q E h => ?_) (fun cdv A outer s H vs Q E hr h => ?_)
  · obtain ⟨_, rfl, _⟩ := h; rfl
  · obtain ⟨n, rfl, h1, h2, q⟩ := h
    refine ⟨_, (pss_cons (ps_setLc (i := 2) (own := [("_law_at", 1)]) (g := gName 1) rfl sc_l_exceptional.nd rfl rfl (sw_true rfl rfl rfl (by decide +kernel)) (pi_range1 (by rfl) T.b_range (pa_cons (pv 0) pa_nil)) (C8b.blk (N := ["_law_n", "_law_at", "_law_found", "_law_kinds", "_law_degree", "_law_plain", "_law_other", "_law_size", "_law_room", "_law_chosen", "_law_some", "_law_numbers"]) (sc := C8.fnScope s_l_exceptional) (by decide +kernel)) (fun _ _ _ _ _ => (pg_name (i := 1) sc_l_exceptional.nd rfl (Or.inl rfl))) (fun _ _ _ _ _ => pts_nil) (fun _ _ _ _ _ => (C8.pe_c c_l_point_row hr (by decide) (by rfl) (pa_cons (pv 0) (pa_cons (pv 1) pa_nil)))))
      (pss_cons (ps_set (i := 3) sc_l_exceptional.nd rfl (Or.inl rfl) (pe_lstN (pa_cons (pe_tupN (pa_cons pe_int (pa_cons pe_int (pa_cons pe_int (pa_cons pe_int pa_nil))))) (pa_cons (pe_tupN (pa_cons pe_int (pa_cons pe_int (pa_cons pe_int (pa_cons pe_int pa_nil))))) (pa_cons (pe_tupN (pa_cons pe_int (pa_cons pe_int (pa_cons pe_int (pa_cons pe_int pa_nil))))) (pa_cons (pe_tupN (pa_cons pe_int (pa_cons pe_int (pa_cons pe_int (pa_cons pe_int pa_nil))))) (pa_cons (pe_tupN (pa_cons pe_int (pa_cons pe_int (pa_cons pe_int (pa_cons pe_int pa_nil))))) (pa_cons (pe_tupN (pa_cons pe_int (pa_cons pe_int (pa_cons pe_int (pa_cons pe_int pa_nil))))) pa_nil))))))))
      (pss_cons (ps_for PassesOwn.never rfl (pi_list (pv 3)) (pg_tup rfl (pgs_cons (pg_name (i := 4) sc_l_exceptional.nd rfl (Or.inl rfl)) (pgs_cons (pg_name (i := 5) sc_l_exceptional.nd rfl (Or.inl rfl)) (pgs_cons (pg_name (i := 6) sc_l_exceptional.nd rfl (Or.inl rfl)) (pgs_cons (pg_name (i := 7) sc_l_exceptional.nd rfl (Or.inl rfl)) pgs_nil))))) (pss_one (ps_for PassesOwn.never rfl (pi_list (pe_dget2 (Nat.lt_of_le_of_lt (Nat.add_le_add_left (by decide) _) hr.units) (pe_disp (pps_cons pe_int (pe_lstN (pa_cons pe_int pa_nil)) (pps_cons pe_int (pe_lstN (pa_cons pe_int pa_nil)) (pps_cons pe_int (pe_lstN (pa_cons pe_int pa_nil)) (pps_cons pe_int (pe_lstN (pa_cons pe_int pa_nil)) pps_nil)))) rfl rfl (by simp) (by decide)) (pv 4) (pe_lstN (pa_cons (pv 0) pa_nil)) ⟨by rfl, by rfl, by rfl, by rfl⟩)) (pg_name (i := 8) sc_l_exceptional.nd rfl (Or.inl rfl)) (pss_one (ps_for PassesOwn.never rfl (pi_list (pe_ifExp (pt_cmpR op_le (pv 8) (pv 0) (nomark _)) (C8.pe_c c_l_choices hr (by decide) (by rfl) (pa_cons (pe_listRgN rfl (by rfl) T.b_list (prg_1 (by rfl) T.b_range (pv 0))) (pa_cons (pv 8) pa_nil))) (pe_lstN pa_nil))) (pg_name (i := 9) sc_l_exceptional.nd rfl (Or.inl rfl)) (pss_one (ps_for PassesOwn.never rfl (pi_list (C8.pe_c c_l_choices hr (by decide) (by rfl) (pa_cons (pe_callTy (callK (K := K) rListOf call_lstI) (by rfl) T.b_list (by decide +kernel) (pa_cons (pv 9) pa_nil)) (pa_cons (pv 7) pa_nil)))) (pg_name (i := 10) sc_l_exceptional.nd rfl (Or.inl rfl)) (pss_cons (ps_set (i := 11) sc_l_exceptional.nd rfl (Or.inl rfl) (pe_op op_repLI (pe_lstN (pa_cons pe_int pa_nil)) (pv 0)))
      (pss_cons (ps_for PassesOwn.never rfl (pi_tup (pv 9)) (pg_name (i := 1) sc_l_exceptional.nd rfl (Or.inl rfl)) (pss_one (ps_asg (pe_ifExp (pt_cmpR op_in_seq (pv 1) (pv 10) rfl) (pv 6) (pv 5)) (pg_sub (pv 11) (pv 1) set_list))))
      (pss_one (ps_expr (pe_bm PySem.F.plainAttrs_list PySem.F.slot_list_append PySem.F.type_list_append mt_append (pv 2) (pa_cons (pe_op (opK (K := K) rCatI op_catI) (pe_tupN (pa_cons (pv 4) pa_nil)) (pe_callTy (callK (K := K) rTupOf call_tupI) (by rfl) T.b_tuple (by decide +kernel) (pa_cons (pv 11) pa_nil))) pa_nil)))))))))))))
      (pss_one (ps_ret (pe_callB (callK (K := K) rSrtU cr_srtU) (by rfl) T.b_sorted (by decide +kernel) (pa_cons (pv 2) pa_nil))))))), ?_⟩
    refine ⟨_, rfl, _, rfl, by omega, by omega, ?_⟩
    refine lc_rows walk_range (fun i => prow n i) (by omega) (fun _ _ => trivial) ?_ ?_
    · rintro i x H3' H3 hi k ⟨rfl, rfl⟩ R hR
      exact ⟨rfl, _, rfl, _, rfl, n, i, by simp, by omega, fun p H4 k4 hp => hR _ _ k4 hp⟩
    intro D1 H2 ys nD1 k2 hD1 hys
    refine newT (sz_ (by simp)) fun t1 G1 _ g1 ht1 => newT (sz_ (by simp)) fun t2 G2 _ g2 ht2 => newT (sz_ (by simp)) fun t3 G3 _ g3 ht3 => newT (sz_ (by simp)) fun t4 G4 _ g4 ht4 => newT (sz_ (by simp)) fun t5 G5 _ g5 ht5 => newT (sz_ (by simp)) fun t6 G6 _ g6 ht6 => newL (sz_ (by simp)) fun pk Hk nk g7 hpk => ?_
    have hkd : ∀ (i : Nat) (v : V), [V.ref t1, .ref t2, .ref t3, .ref t4, .ref t5, .ref t6][i]? = some v → ∃ k, kindsX[i]? = some k ∧ Kd Hk v k := fun i v hv => by
      have e6 := g7
      have e5 := g6.trans e6
      have e4 := g5.trans e5
      have e3 := g4.trans e4
      have e2 := g3.trans e3
      have e1 := g2.trans e2
      rcases i with _ | _ | _ | _ | _ | _ | i
      · cases hv; exact ⟨_, rfl, t1, rfl, e1.tup _ _ ht1⟩
      · cases hv; exact ⟨_, rfl, t2, rfl, e2.tup _ _ ht2⟩
      · cases hv; exact ⟨_, rfl, t3, rfl, e3.tup _ _ ht3⟩
      · cases hv; exact ⟨_, rfl, t4, rfl, e4.tup _ _ ht4⟩
      · cases hv; exact ⟨_, rfl, t5, rfl, e5.tup _ _ ht5⟩
      · cases hv; exact ⟨_, rfl, t6, rfl, e6.tup _ _ ht6⟩
      · simp at hv
    have gk := (((((g1.trans g2).trans g3).trans g4).trans g5).trans g6).trans g7
    have hDk := gk.keep _ _ (fun z => z) hD1
    have hysk := hys.kp gk
    have kk := k2.trans gk
    have nek : pk ≠ D1 := fun e => by
      have := (((((g1.trans g2).trans g3).trans g4).trans g5).trans g6).keep _ _ (fun z => z) hD1
      rw [← e, nk] at this
      cases this
    clear ht1 ht2 ht3 ht4 ht5 ht6 hD1 hys g1 g2 g3 g4 g5 g6 g7 gk
    refine ⟨_, rfl, pk, rfl, ⟨_, SqL.of hpk⟩, ?_⟩
    have hrs := lraw_small n (in38 h1 h2)
    have er : ((List.range (n : Int).toNat).map fun i => prow n i) = (List.range n).map fun i => prow n i := by rw [Int.toNat_natCast]
    rw [er] at hysk
    generalize hP : ((List.range n).map fun i => prow n i) = prs at hysk
    have hraw : lrawX n = prs ++ kindsX.flatMap (kindX n) := by rw [← hP]; rfl
    refine for_it (n := 6) (walk_list (K := K) (a := pk) (xs := [V.ref t1, .ref t2, .ref t3, .ref t4, .ref t5, .ref t6])) (fun i σ H' => ∃ v1 v4 v5 v6 v7 v8 v9 v10 v11 ws, σ = [some (.int n), v1, some (.ref D1), some (.ref pk), v4, v5, v6, v7, v8, v9, v10, v11] ∧ Kp (At D1) Hk H' ∧ H' D1 = some (.lst ws) ∧ Rws H' ws (prs ++ (kindsX.take i).flatMap (kindX n)))
      ⟨_, _, _, _, _, _, _, _, _, ys, rfl, .refl _ _, hDk, by simpa using hysk⟩ (fun _ _ _ _ ⟨_, _, _, _, _, _, _, _, _, _, _, z, _⟩ => SqL.of (z.keep _ _ nek hpk)) ?_ ?_
    · rintro i x σ F0 F hi ⟨v1, v4, v5, v6, v7, v8, v9, v10, v11, ws, rfl, kF, hD, hw⟩ ⟨rfl, hx⟩
      obtain ⟨k, hk, tk, rfl, htk⟩ := hkd i x hx
      have htk := kF.tup _ _ htk
      have hkm : k ∈ kindsX := List.mem_of_getElem? hk
      have htake : kindsX.take (i + 1) = kindsX.take i ++ [k] := by
        rw [List.take_add_one, hk]
        rfl
      have hroom := kinds_room (n := n) hkm
      refine ⟨tk, _, rfl, SqT.of htk, rfl, _, _, rfl, _, _, rfl, _, _, rfl, _, _, rfl, rfl, ?_⟩
      intro pd npd
      have f1 : Kp N0 F (upd F pd (.dK [])) := .new npd
      have hd1 : upd F pd (.dK []) pd = some (.dK []) := upd_same
      generalize upd F pd (.dK []) = F1 at f1 hd1
      refine newL (sz_ (by simp)) fun l3 F2 n3 f2 hl3 => newL (sz_ (by simp)) fun l4 F3 n4 f3 hl4 => newL (sz_ (by simp)) fun l5 F4 n5 f4 hl5 => newL (sz_ (by simp)) fun l6 F5 n6 f5 hl6 => ?_
      have f25 := ((f2.trans f3).trans f4).trans f5
      have hd5 := f25.keep _ _ (fun z => z) hd1
      refine ⟨hd5, [(.inl 3, .ref l3), (.inl 4, .ref l4), (.inl 5, .ref l5), (.inl 6, .ref l6)], rfl, by simp, ?_⟩
      have f6 : Kp N0 F (upd F5 pd (.dK (mergeK [] [(.inl 3, .ref l3), (.inl 4, .ref l4), (.inl 5, .ref l5), (.inl 6, .ref l6)]))) := .mut0 npd (f1.trans f25)
      have hd6 : upd F5 pd (.dK (mergeK [] [(.inl 3, .ref l3), (.inl 4, .ref l4), (.inl 5, .ref l5), (.inl 6, .ref l6)])) pd = some (.dK (mergeK [] [(.inl 3, .ref l3), (.inl 4, .ref l4), (.inl 5, .ref l5), (.inl 6, .ref l6)])) := upd_same
      have up : ∀ {l : Addr} {xs : List V}, F5 l = some (.lst xs) → upd F5 pd (.dK (mergeK [] [(.inl 3, .ref l3), (.inl 4, .ref l4), (.inl 5, .ref l5), (.inl 6, .ref l6)])) l = some (.lst xs) := fun h => by
        rw [upd_ne (ne_of h hd5 (by intro z; cases z))]
        exact h
      have u3 := up (((f3.trans f4).trans f5).keep _ _ (fun z => z) hl3)
      have u4 := up ((f4.trans f5).keep _ _ (fun z => z) hl4)
      have u5 := up (f5.keep _ _ (fun z => z) hl5)
      have u6 := up hl6
      have hDF1 := f1.keep _ _ (fun z => z) hD
      have e3 : l3 ≠ D1 := fun e => by rw [e, hDF1] at n3; cases n3
      have e4 : l4 ≠ D1 := fun e => by rw [e, f2.keep _ _ (fun z => z) hDF1] at n4; cases n4
      have e5 : l5 ≠ D1 := fun e => by rw [e, (f2.trans f3).keep _ _ (fun z => z) hDF1] at n5; cases n5
      have e6 : l6 ≠ D1 := fun e => by rw [e, ((f2.trans f3).trans f4).keep _ _ (fun z => z) hDF1] at n6; cases n6
      clear up hd5 f25 f1 f2 f3 f4 f5 hl3 hl4 hl5 hl6 n3 n4 n5 n6 hd1 hDF1
      generalize upd F5 pd (.dK (mergeK [] [(.inl 3, .ref l3), (.inl 4, .ref l4), (.inl 5, .ref l5), (.inl 6, .ref l6)])) = F6 at f6 hd6 u3 u4 u5 u6
      refine ⟨pd, rfl, .inl ⟨_, .inl hd6⟩, _, rfl, _, rfl, newL (sz_ (by simp)) fun l7 F7 n7 f7 hl7 => ⟨_, DGet.k (k := .inl k.1) (f7.keep _ _ (fun z => z) hd6), ?_⟩⟩
      have e7 : l7 ≠ D1 := fun e => by rw [e, f6.keep _ _ (fun z => z) hD] at n7; cases n7
      have hlr : ∃ lr, (valV (mergeK [] [((.inl 3 : Key), V.ref l3), (.inl 4, .ref l4), (.inl 5, .ref l5), (.inl 6, .ref l6)]) (.inl k.1)).getD (V.ref l7) = .ref lr ∧ lr ≠ D1 ∧ F7 lr = some (.lst [.int ((roomX n k.1 : Nat) : Int)]) := by
        rcases hroom with ⟨e, er⟩ | ⟨e, er⟩ | ⟨e, er⟩ | ⟨e, er⟩ | ⟨e, er⟩ | ⟨e, er⟩ <;> rw [er, e]
        · exact ⟨l7, rfl, e7, hl7⟩
        · exact ⟨l7, rfl, e7, hl7⟩
        · exact ⟨l3, rfl, e3, f7.keep _ _ (fun z => z) u3⟩
        · exact ⟨l4, rfl, e4, f7.keep _ _ (fun z => z) u4⟩
        · exact ⟨l5, rfl, e5, f7.keep _ _ (fun z => z) u5⟩
        · exact ⟨l6, rfl, e6, f7.keep _ _ (fun z => z) u6⟩
      obtain ⟨lr, elr, nlr, hlr⟩ := hlr
      rw [elr]
      have f07 := f6.trans f7
      have hD7 := f07.keep _ _ (fun z => z) hD
      have hw7 := hw.kp f07
      generalize hA : prs ++ (kindsX.take i).flatMap (kindX n) = A at hw7
      refine ⟨lr, rfl, ⟨_, SqL.of hlr⟩, ?_⟩
      have ek : prs ++ (kindsX.take (i + 1)).flatMap (kindX n) = A ++ kindX n k := by
        rw [htake, List.flatMap_append, ← List.append_assoc, hA]
        simp
      have hAl : A.length + (kindX n k).length ≤ 300 := by
        have h := hrs
        rw [hraw, ← List.take_append_drop (i + 1) kindsX, List.flatMap_append, ← List.append_assoc, ek, List.length_append, List.length_append] at h
        omega
      rw [ek]
      refine for_it (n := 1) (walk_list (K := K) (a := lr) (xs := [.int ((roomX n k.1 : Nat) : Int)])) (fun t σ H' => ∃ v1 v8 v9 v10 v11 ws, σ = [some (.int n), v1, some (.ref D1), some (.ref pk), some (.int k.1), some (.int k.2.1), some (.int k.2.2.1), some (.int ((k.2.2.2 : Nat) : Int)), v8, v9, v10, v11] ∧ Kp (At D1) F7 H' ∧ H' D1 = some (.lst ws) ∧ Rws H' ws (A ++ if t = 0 then [] else kindX n k))
        ⟨_, _, _, _, _, ws, rfl, .refl _ _, hD7, by rw [if_pos rfl, List.append_nil]; exact hw7⟩ (fun _ _ _ _ ⟨_, _, _, _, _, _, _, z, _⟩ => SqL.of (z.keep _ _ nlr hlr)) ?_ ?_
      · rintro t x σ B0 B ht ⟨v1, v8, v9, v10, v11, ws, rfl, kB, hDB, hwB⟩ ⟨rfl, hx⟩
        obtain rfl : t = 0 := by omega
        cases hx
        rw [if_pos rfl, List.append_nil] at hwB
        refine ⟨_, rfl, _, rfl, _, _, rfl, rfl, _, rfl, ?_⟩
        by_cases hle : roomX n k.1 ≤ n
        case neg =>
          refine iteFB (decide_eq_false (by omega)) ?_
          refine newL (sz_ (by simp)) fun l8 B1 n8 b1 hl8 => ⟨l8, rfl, ⟨_, SqL.of hl8⟩, ?_⟩
          have ne8 : l8 ≠ D1 := fun e => by rw [e, hDB] at n8; cases n8
          refine for_it (n := 0) (walk_list (K := K) (a := l8) (xs := [])) (fun t σ H' => ∃ v1 v8 v9 v10 v11 ws, σ = [some (.int n), v1, some (.ref D1), some (.ref pk), some (.int k.1), some (.int k.2.1), some (.int k.2.2.1), some (.int ((k.2.2.2 : Nat) : Int)), v8, v9, v10, v11] ∧ Kp (At D1) F7 H' ∧ H' D1 = some (.lst ws) ∧ Rws H' ws (A ++ if (1 : Nat) = 0 then [] else kindX n k) ∧ H' l8 = some (.lst []))
            ⟨_, _, _, _, _, ws, rfl, kB.trans b1.up, b1.keep _ _ (fun z => z) hDB, ?_, hl8⟩ (fun _ _ _ _ ⟨_, _, _, _, _, _, _, _, _, _, z⟩ => SqL.of z) (fun i _ _ _ _ hi => absurd hi (by omega)) ?_
          · rw [if_neg (by decide), show kindX n k = [] from if_neg hle, List.append_nil]
            exact hwB.kp b1
          · rintro σ B2 ⟨v1, v8, v9, v10, v11, ws, rfl, kB2, hDB2, hwB2, _⟩
            exact ⟨_, _, _, _, _, ws, rfl, kB2, hDB2, hwB2⟩
        refine iteTB (decide_eq_true (by omega)) ?_
        have ekX : kindX n k = (chL (ranI n) (roomX n k.1)).flatMap (chosX n k) := if_pos hle
        refine ⟨_, rfl, _, rfl, rgL ⟨by omega, by omega, by omega, by omega, by omega⟩ fun p4 B1 _ b1 hp4 => ⟨_, rfl, ?_⟩⟩
        rw [rg_ranI] at hp4
        refine ⟨p4, ranI n, roomX n k.1, rfl, hp4, by simp [ranI]; omega, fun D3 B2 ws3 nD3 b2 hD3 hw3 => ?_⟩
        have b12 := b1.trans b2
        have hDB2 := b12.keep _ _ (fun z => z) hDB
        have ne3 : D3 ≠ D1 := fun e => by rw [e, b1.keep _ _ (fun z => z) hDB] at nD3; cases nD3
        have hwB2 := hwB.kp b12
        have kB2 : Kp (At D1) F7 B2 := kB.trans b12.up
        have w3l := hw3.len
        rw [ekX] at hAl
        refine ⟨D3, rfl, ⟨_, SqL.of hD3⟩, ?_⟩
        generalize hC : chL (ranI n) (roomX n k.1) = C at hw3 w3l ekX hAl
        refine for_it (n := ws3.length) (walk_list (K := K) (a := D3) (xs := ws3)) (fun t σ H' => ∃ v1 v9 v10 v11 ws, σ = [some (.int n), v1, some (.ref D1), some (.ref pk), some (.int k.1), some (.int k.2.1), some (.int k.2.2.1), some (.int ((k.2.2.2 : Nat) : Int)), some (.int ((roomX n k.1 : Nat) : Int)), v9, v10, v11] ∧ Kp (At D1) B2 H' ∧ H' D1 = some (.lst ws) ∧ Rws H' ws (A ++ (C.take t).flatMap (chosX n k)))
          ⟨_, _, _, _, ws, rfl, .refl _ _, hDB2, by simpa using hwB2⟩ (fun _ _ _ _ ⟨_, _, _, _, _, _, z, _⟩ => SqL.of (z.keep _ _ ne3 hD3)) ?_ ?_
        · rintro t x σ M0 M ht ⟨v1, v9, v10, v11, ws, rfl, kM, hDM, hwM⟩ ⟨rfl, hx⟩
          obtain ⟨py, ch, rfl, hch, hpy⟩ := (hw3.kp kM).get hx
          have hchm : ch ∈ chL (ranI n) (roomX n k.1) := by rw [hC]; exact List.mem_of_getElem? hch
          obtain ⟨chl, chm⟩ := chL_mem hchm
          have etk : (C.take (t + 1)).flatMap (chosX n k) = (C.take t).flatMap (chosX n k) ++ chosX n k ch := by
            rw [List.take_add_one, hch, List.flatMap_append]
            simp
          have hCl : A.length + (((C.take t).flatMap (chosX n k)).length + (chosX n k ch).length) ≤ 300 := by
            have h := hAl
            rw [← List.take_append_drop (t + 1) C, List.flatMap_append, etk, List.length_append, List.length_append] at h
            omega
          rw [etk, ← List.append_assoc]
          generalize hA2 : A ++ (C.take t).flatMap (chosX n k) = A2 at hwM
          have hA2l : A2.length + (chosX n k ch).length ≤ 300 := by rw [← hA2, List.length_append]; omega
          refine ⟨_, rfl, listL rfl (.inr (SqT.of hpy)) fun p5 M1 _ m1 hp5 => ⟨_, rfl, ?_⟩⟩
          refine ⟨p5, ch, k.2.2.2, rfl, hp5, by omega, fun D4 M2 ws4 nD4 m2 hD4 hw4 => ?_⟩
          have m12 := m1.trans m2
          have hDM2 := m12.keep _ _ (fun z => z) hDM
          have ne4 : D4 ≠ D1 := fun e => by rw [e, m1.keep _ _ (fun z => z) hDM] at nD4; cases nD4
          have hpy2 := m12.tup _ _ hpy
          have w4l := hw4.len
          refine ⟨D4, rfl, ⟨_, SqL.of hD4⟩, ?_⟩
          have ecX : chosX n k ch = (chL ch k.2.2.2).map (rowX n k ch) := rfl
          generalize hE : chL ch k.2.2.2 = Ec at hw4 w4l ecX
          refine for_it (n := ws4.length) (walk_list (K := K) (a := D4) (xs := ws4)) (fun u σ H' => ∃ v1 v10 v11 ws, σ = [some (.int n), v1, some (.ref D1), some (.ref pk), some (.int k.1), some (.int k.2.1), some (.int k.2.2.1), some (.int ((k.2.2.2 : Nat) : Int)), some (.int ((roomX n k.1 : Nat) : Int)), some (.ref py), v10, v11] ∧ Kp (At D1) M2 H' ∧ H' D1 = some (.lst ws) ∧ Rws H' ws (A2 ++ (Ec.take u).map (rowX n k ch)))
            ⟨_, _, _, ws, rfl, .refl _ _, hDM2, by simpa using hwM.kp m12⟩ (fun _ _ _ _ ⟨_, _, _, _, _, z, _⟩ => SqL.of (z.keep _ _ ne4 hD4)) ?_ ?_
          · rintro u x σ N1 N hu ⟨v1, v10, v11, ws, rfl, kN, hDN, hwN⟩ ⟨rfl, hx⟩
            obtain ⟨pz, so, rfl, hso, hpz⟩ := (hw4.kp kN).get hx
            have hpyN := kN.tup _ _ hpy2
            refine newL (sz_ (by simp)) fun p6 N2 _ o2 hp6 => ⟨_, rfl, repL hp6 (by omega) (by omega) fun pn N3 nn o3 hpn => ?_⟩
            rw [Int.toNat_natCast] at hpn
            have nnN : N pn = none := o2.live _ nn
            have o23 := o2.trans o3
            refine ⟨_, rfl, py, rfl, ⟨_, SqT.of (o23.tup _ _ hpyN)⟩, ?_⟩
            have hpzN := hpz
            refine for_it (n := ch.length) (walk_tupN (K := K) (a := py) (xs := ch.map V.int) (by rw [List.length_map])) (fun y σ H' => ∃ v1, σ = [some (.int n), v1, some (.ref D1), some (.ref pk), some (.int k.1), some (.int k.2.1), some (.int k.2.2.1), some (.int ((k.2.2.2 : Nat) : Int)), some (.int ((roomX n k.1 : Nat) : Int)), some (.ref py), some (.ref pz), some (.ref pn)] ∧ Kp N0 N H' ∧ H' pn = some (.lst ((numX k.2.1 k.2.2.1 (ch.take y) so (List.replicate n 0)).map V.int)))
              ⟨_, rfl, o23, hpn⟩ (fun _ _ _ _ ⟨_, _, z, _⟩ => SqT.of (z.tup _ _ hpyN)) ?_ ?_
            · rintro y x σ R0 R hy ⟨v1, rfl, kR, hpnR⟩ ⟨rfl, hx⟩
              rw [int_at hy] at hx
              cases hx
              have enx := numX_take k.2.1 k.2.2.1 so ch (List.replicate n 0) y hy
              obtain ⟨jj, ej, hjn⟩ := ranI_mem (chm _ (getD_memI hy))
              have hnl := numX_len k.2.1 k.2.2.1 so (ch.take y) (List.replicate n 0)
              rw [List.length_replicate] at hnl
              rw [ej] at enx ⊢
              rw [Int.toNat_natCast] at enx
              generalize numX k.2.1 k.2.2.1 (ch.take y) so (List.replicate n 0) = nl at hpnR enx hnl
              refine ⟨_, rfl, _, rfl, pz, so.map V.int, rfl, .inr (SqT.of (kR.tup _ _ hpzN)), rfl, flat_ints so, _, rfl, ?_⟩
              have fin : ∀ z : Int, z = (if (jj : Int) ∈ so then k.2.2.1 else k.2.1) → ∃ v1, [some (V.int n), some (V.int (jj : Int)), some (.ref D1), some (.ref pk), some (.int k.1), some (.int k.2.1), some (.int k.2.2.1), some (.int ((k.2.2.2 : Nat) : Int)), some (.int ((roomX n k.1 : Nat) : Int)), some (.ref py), some (.ref pz), some (.ref pn)] = [some (V.int n), v1, some (.ref D1), some (.ref pk), some (.int k.1), some (.int k.2.1), some (.int k.2.2.1), some (.int ((k.2.2.2 : Nat) : Int)), some (.int ((roomX n k.1 : Nat) : Int)), some (.ref py), some (.ref pz), some (.ref pn)] ∧ Kp N0 N (upd R pn (.lst ((nl.map V.int).set jj (.int z)))) ∧ (upd R pn (.lst ((nl.map V.int).set jj (.int z)))) pn = some (.lst ((numX k.2.1 k.2.2.1 (ch.take (y + 1)) so (List.replicate n 0)).map V.int)) := fun z ez => by
                refine ⟨_, rfl, .mut0 nnN kR, ?_⟩
                rw [upd_same, enx, ← ez, ← List.map_set]
              by_cases hm : (jj : Int) ∈ so
              · refine iteTB (by show inV (.int (jj : Int)) (so.map V.int) = true; rw [inV_ints, decide_eq_true hm]) ?_
                refine ⟨_, rfl, _, rfl, _, rfl, pn, _, _, jj, rfl, rfl, hpnR, Evl.ixN_nat (by rw [List.length_map, hnl]; exact hjn), ?_⟩
                exact fin _ (by rw [if_pos hm])
              · refine iteFB (by show inV (.int (jj : Int)) (so.map V.int) = false; rw [inV_ints, decide_eq_false hm]) ?_
                refine ⟨_, rfl, _, rfl, _, rfl, pn, _, _, jj, rfl, rfl, hpnR, Evl.ixN_nat (by rw [List.length_map, hnl]; exact hjn), ?_⟩
                exact fin _ (by rw [if_neg hm])
            · rintro σ R ⟨v1, rfl, kR, hpnR⟩
              rw [List.take_length] at hpnR
              have hDR := kR.keep _ _ (fun z => z) hDN
              have hwR := hwN.kp kR
              have hnl := numX_len k.2.1 k.2.2.1 so ch (List.replicate n 0)
              rw [List.length_replicate] at hnl
              refine ⟨_, rfl, .inl ⟨rfl, _, SqL.of hDR⟩, _, rfl, newT (sz_ (by simp)) fun p7 R1 _ r1 hp7 => ⟨_, rfl, tupL rfl (SqL.of (r1.keep _ _ (fun z => z) hpnR)) fun p8 R2 _ r2 hp8 => ?_⟩⟩
              refine catT (r2.tup _ _ hp7) hp8 (sz_ (by simp; omega)) fun p9 R3 r3 hp9 => ?_
              have r03 := (r1.trans r2).trans r3
              have hDR3 := r03.keep _ _ (fun z => z) hDR
              have wl := hwR.len
              rw [List.length_append, List.length_map, List.length_take] at wl
              have hel : (chosX n k ch).length = Ec.length := by rw [ecX, List.length_map]
              refine ⟨D1, _, _, rfl, rfl, hDR3, Nat.lt_of_le_of_lt (by omega : ws.length ≤ 1000) (by decide), ?_⟩
              refine ⟨_, _, _, ws ++ [.ref p9], rfl, (kN.trans (kR.trans r03).up).trans (.mut rfl hDR3), upd_same, ?_⟩
              have eu : (Ec.take (u + 1)).map (rowX n k ch) = (Ec.take u).map (rowX n k ch) ++ [rowX n k ch so] := by
                rw [List.take_add_one, hso, List.map_append]
                rfl
              rw [eu, ← List.append_assoc]
              refine Rws.upd hDR3 (Rws.app (hwR.kp r03) ⟨⟨p9, rfl, ?_⟩, trivial⟩)
              rw [hp9]
              rfl
          · rintro σ N ⟨v1, v10, v11, ws, rfl, kN, hDN, hwN⟩
            have e1 : Ec.take ws4.length = Ec := List.take_of_length_le (by omega)
            rw [e1, ← ecX] at hwN
            exact ⟨_, _, _, _, ws, rfl, (show Kp (At D1) B2 M2 from kM.trans m12.up).trans kN, hDN, hwN⟩
        · rintro σ M ⟨v1, v9, v10, v11, ws, rfl, kM, hDM, hwM⟩
          have e1 : C.take ws3.length = C := List.take_of_length_le (by omega)
          rw [e1, ← ekX] at hwM
          exact ⟨_, _, _, _, _, ws, rfl, kB2.trans kM, hDM, by rw [if_neg (by omega)]; exact hwM⟩
      · rintro σ B ⟨v1, v8, v9, v10, v11, ws, rfl, kB, hDB, hwB⟩
        rw [if_neg (by decide)] at hwB
        exact ⟨_, _, _, _, _, _, _, _, _, ws, rfl, (kF.trans f07.up).trans kB, hDB, hwB⟩
    · rintro σ F ⟨v1, v4, v5, v6, v7, v8, v9, v10, v11, ws, rfl, kF, hD, hw⟩
      have hw : Rws F ws (lrawX n) := by rw [hraw]; exact hw
      refine ⟨_, rfl, sortU rfl (SqL.of hD) hw (fun r hr => ?_) fun l G1 ws' nl g1 hl hw' _ => ?_⟩
      · have := lraw_ne n (in38 h1 h2) r hr
        exact this
      · rw [lexc_eq n (in38 h1 h2)] at hw'
        have kA := kp_at nD1 kk kF
        exact q l G1 ws' (kA.live _ nl) (kA.trans g1) hl hw'

/-! ### is_exceptional, both answers; falling rows -/
def sp_check_few (K : PySem.W.Frag) : Sp := fun vs H Q _ => ∃ a ns, vs = [.ref a, .int 9] ∧ SqT K H a (ns.map V.int) ∧ Row ns ∧ ns.length ≤ 10 ∧ ∀ H', Kp N0 H H' → Q .non H'
theorem ok_check_few (T : Txt K mg) (D : Dfd K mg "check_few" s_check_few ["row", "most"] [.int 9]) (c_check_row : C8.Cal P w K mg base 4 "check_row" (sp_check_row K) []) : C8.Cal P w K mg base 5 "check_few" (sp_check_few K) [.int 9] := by
  obtain ⟨f, fd, ds, D, hb, hv⟩ := D
  refine C8.cal0 D hb hv sc_check_few (fun vs H Q E h => ?_) (fun cdv A outer s H vs Q E hr h => ?_)
  · obtain ⟨_, _, rfl, _⟩ := h; rfl
  · obtain ⟨a, ns, rfl, ha, hr1, hl, q⟩ := h
    refine ⟨_, (pss_cons (ps_expr (C8.pe_c c_check_row hr (by decide) (by rfl) (pa_cons (pv 0) pa_nil)))
      (pss_one (ps_if (pt_cmpR op_gt (pe_callB (callK (K := K) Vf.rLen call_lenI) (by rfl) T.b_len (by decide +kernel) (pa_cons (pv 0) pa_nil)) (pe_op op_add (pv 1) pe_int) (nomark _)) (pss_one ps_never) pss_nil))), ?_⟩
    refine ⟨_, rfl, _, _, rfl, ha, hr1, fun H1 k1 => ⟨_, rfl, lenS rfl (k1.sqT ha) ⟨_, rfl, _, _, rfl, rfl, _, _, rfl, rfl, _, rfl, ?_⟩⟩⟩
    rw [decide_eq_false (by rw [List.length_map]; omega)]
    exact iteF (q _ k1)
def excB (ns : List Int) : Bool := decide (dot ns ns = -1) && decide (cub ns = 1)
def sp_is_exceptional (K : PySem.W.Frag) : Sp := fun vs H Q _ => ∃ a ns, vs = [.ref a] ∧ SqT K H a (ns.map V.int) ∧ Row ns ∧ ns.length ≤ 10 ∧ ∀ H', Kp N0 H H' → Q (.bl (excB ns)) H'
theorem ok_is_exceptional (T : Txt K mg) (D : Df K mg "is_exceptional" s_is_exceptional ["row"]) (c_check_few : C8.Cal P w K mg base 5 "check_few" (sp_check_few K) [.int 9]) (c_product_of : C8.Cal P w K mg base 1 "product_of" (sp_product_of K) []) (c_product_with_cubic : C8.Cal P w K mg base 1 "product_with_cubic" (sp_product_with_cubic K) []) : C8.Cal P w K mg base 6 "is_exceptional" (sp_is_exceptional K) [] := by
  obtain ⟨f, fd, D, hb⟩ := D
  refine C8.cal0 D (.all hb) .nil sc_is_exceptional (fun vs H Q E h => ?_) (fun cdv A outer s H vs Q E hr h => ?_)
  · obtain ⟨_, _, rfl, _⟩ := h; rfl
  · obtain ⟨a, ns, rfl, ha, hr1, hl, q⟩ := h
    refine ⟨_, (pss_cons (ps_expr (C8.pe_c c_check_few hr (by decide) (by rfl) (pa_cons (pv 0) pa_nil)))
      (pss_one (ps_ret (pe_and (pe_cmpR op_eq (C8.pe_c c_product_of hr (by decide) (by rfl) (pa_cons (pv 0) (pa_cons (pv 0) pa_nil))) (pe_un un_neg pe_int) (nomark _)) (pe_one (pe_cmpR op_eq (C8.pe_c c_product_with_cubic hr (by decide) (by rfl) (pa_cons (pv 0) pa_nil)) pe_int (nomark _))))))), ?_⟩
    refine ⟨_, rfl, _, _, rfl, ha, hr1, hl, fun H1 k1 => ?_⟩
    have h1 := k1.sqT ha
    refine ⟨_, rfl, _, rfl, _, _, _, _, rfl, h1, h1, hr1, hr1, rfl, fun H2 k2 => ⟨_, rfl, rfl, _, rfl, ?_⟩⟩
    have h2 := k2.sqT h1
    have k02 := k1.trans k2
    by_cases e : dot ns ns = -1
    · refine iteTB (decide_eq_true (by rw [e])) ?_
      refine ⟨_, rfl, _, _, rfl, h2, hr1, fun H3 k3 => ⟨rfl, ?_⟩⟩
      have eb : decide (V.int (cub ns) = V.int 1) = excB ns := by
        unfold excB
        rw [decide_eq_true e, Bool.true_and]
        exact decide_eq_decide.mpr ⟨fun z => V.int.inj z, fun z => by rw [z]⟩
      rw [eb]
      exact q H3 (k02.trans k3)
    · refine iteFB (decide_eq_false fun z => e (V.int.inj z)) ?_
      have eb : excB ns = false := by
        unfold excB
        rw [decide_eq_false e, Bool.false_and]
      have := q H2 k02
      rw [eb] at this
      exact this
def insD (x : Int) : List Int → List Int
  | [] => [x]
  | y :: l => if y < x then y :: insD x l else x :: y :: l
def isort (l : List Int) : List Int := l.foldr insD []
def fallR (r : List Int) : List Int := r.getD 0 0 :: (isort (r.drop 1)).reverse
theorem insD_perm (x : Int) : ∀ l, (insD x l).Perm (x :: l)
  | [] => .refl _
  | y :: l => by
    unfold insD
    split
    · exact ((insD_perm x l).cons y).trans (.swap x y l)
    · exact .refl _
theorem isort_perm : ∀ l, (isort l).Perm l
  | [] => .refl _
  | x :: l => (insD_perm x _).trans ((isort_perm l).cons x)
theorem insD_pw (x : Int) : ∀ l : List Int, l.Pairwise (· ≤ ·) → (insD x l).Pairwise (· ≤ ·)
  | [], _ => by simp [insD]
  | y :: l, h => by
    obtain ⟨h1, h2⟩ := List.pairwise_cons.mp h
    unfold insD
    split
    · refine List.pairwise_cons.mpr ⟨fun z hz => ?_, insD_pw x l h2⟩
      rcases List.mem_cons.mp ((insD_perm x l).mem_iff.mp hz) with rfl | hz
      · omega
      · exact h1 z hz
    · refine List.pairwise_cons.mpr ⟨fun z hz => ?_, h⟩
      rcases List.mem_cons.mp hz with rfl | hz
      · omega
      · have := h1 z hz
        omega
theorem isort_pw : ∀ l, (isort l).Pairwise (· ≤ ·)
  | [] => .nil
  | x :: l => insD_pw x _ (isort_pw l)
theorem isort_uniq {l l' : List Int} (h : l'.Perm l) (p : l'.Pairwise (· ≤ ·)) : l' = isort l :=
  (h.trans (isort_perm l).symm).eq_of_pairwise (fun _ _ _ _ h1 h2 => by omega) p (isort_pw l)
def sp_l_falling (K : PySem.W.Frag) : Sp := fun vs H Q _ => ∃ (a : Addr) (r : List Int), vs = [.ref a] ∧ SqT K H a (r.map V.int) ∧ 0 < r.length ∧ r.length ≤ 17 ∧ ∀ p H', Kp N0 H H' → H' p = some (.tup ((fallR r).map V.int)) → Q (.ref p) H'
theorem ok_l_falling (T : Txt K mg) (D : Df K mg "_law_falling" s_l_falling ["_law_row"]) : C8.Cal P w K mg base 1 "_law_falling" (sp_l_falling K) [] := by
  obtain ⟨f, fd, D, hb⟩ := D
  refine C8.cal0 D (.all hb) .nil sc_l_falling (fun vs H Q E h => ?_) (fun cdv A outer s H vs Q E hr h => ?_)
  · obtain ⟨_, _, rfl, _⟩ := h; rfl
  · obtain ⟨a, r, rfl, ha, h0, hl, q⟩ := h
    refine ⟨_, (pss_one (ps_ret (pe_op (opK (K := K) rCatI op_catI) (pe_tupN (pa_cons (pe_ix (ixK (K := K) rIxT ix_tup) (pv 0) pe_int (fun _ _ => rfl)) pa_nil)) (pe_callTy (callK (K := K) rTupOf call_tupI) (by rfl) T.b_tuple (by decide +kernel) (pa_cons (pe_revL (pe_callB (callK (K := K) rSortTI call_srtTI) (by rfl) T.b_sorted (by decide +kernel) (pa_cons (pe_slice (slK (K := K) rSlI sl_tupI) (pv 0) (po_some pe_int) po_none) pa_nil))) pa_nil))))), ?_⟩
    refine ⟨_, rfl, _, _, _, _, rfl, rfl, ha, at_row0 h0, newT (sz_ (by simp)) fun p1 H1 _ k1 hp1 => ?_⟩
    refine ⟨_, rfl, _, rfl, slS (k1.sqT ha) (nw1 (by rw [List.length_map]; exact h0)) fun p2 H2 k2 hp2 => ?_⟩
    rw [cut_1] at hp2
    refine sortTI rfl hp2 (by simp; omega) fun ms p3 H3 pm pw n3 k3 hp3 => ?_
    refine ⟨p3, _, rfl, SqL.of hp3, fun p4 n4 => ?_⟩
    have k4 : Kp N0 H3 (upd H3 p4 (.lst (ms.map V.int).reverse)) := .new n4
    have hp4 : upd H3 p4 (.lst (ms.map V.int).reverse) p4 = some (.lst (ms.map V.int).reverse) := upd_same
    generalize upd H3 p4 (.lst (ms.map V.int).reverse) = H4 at k4 hp4
    have msl := pm.length_eq
    rw [List.length_drop] at msl
    refine tupL rfl (SqL.of hp4) fun p5 H5 _ k5 hp5 => ?_
    refine catT ((((k2.trans k3).trans k4).trans k5).tup _ _ hp1) hp5 (sz_ (by simp; omega)) fun p6 H6 k6 hp6 => ?_
    refine q p6 H6 (((((k1.trans k2).trans k3).trans k4).trans k5).trans k6) ?_
    rw [hp6, isort_uniq pm pw]
    unfold fallR
    rw [List.map_cons, List.map_reverse]
    rfl

/-! ### the law's search -/
structure Nd where
  ns : List Int
  tot : Int
  sq : Int
def rg17 : List Int := (List.range 17).map fun i : Nat => -8 + (i : Int)
def okN (x : Nd) (one : Int) : Bool := decide (one * one ≤ x.sq) && (decide (x.ns = []) || decide (one ≤ x.ns.getD (x.ns.length - 1) 0))
def kid (x : Nd) (one : Int) : Nd := ⟨x.ns ++ [one], x.tot - one, x.sq - one * one⟩
def kids (x : Nd) (l : List Int) : List Nd := (l.filter (okN x)).map (kid x)
def step1 (n : Nat) (d : Int) (x : Nd) (f : List (List Int)) (W : List Nd) : List (List Int) × List Nd :=
  if x.ns.length = n then (f ++ (if x.tot = 0 ∧ x.sq = 0 then [d :: x.ns] else []), W)
  else if x.tot * x.tot ≤ ((n : Int) - x.ns.length) * x.sq then (f, W ++ kids x rg17) else (f, W)
def stepS (n : Nat) (d : Int) (s : List (List Int) × List Nd) : List (List Int) × List Nd :=
  match s.2.getLast? with
  | none => s
  | some x => step1 n d x s.1 s.2.dropLast
def stS (n : Nat) (d : Int) : Nat → List (List Int) × List Nd
  | 0 => ([], [⟨[], 3 * d - 1, d * d + 1⟩])
  | j + 1 => stepS n d (stS n d j)
def degs : List Int := [-3, -2, -1, 0, 1, 2, 3, 4, 5, 6, 7, 8]
theorem srch_end : ∀ n ∈ [3, 4, 5, 6, 7, 8], ∀ d ∈ degs, (stS n d 400).2.isEmpty = true := by decide +kernel
def srchL (n : Nat) (d : Int) : List (List Int) := lsort (stS n d 400).1
def NdH (H : Hp) (v : V) (x : Nd) : Prop := ∃ p q, v = .ref p ∧ H p = some (.tup [.ref q, .int x.tot, .int x.sq]) ∧ H q = some (.tup (x.ns.map V.int))
def Nds (H : Hp) : List V → List Nd → Prop
  | [], [] => True
  | v :: vs, x :: xs => NdH H v x ∧ Nds H vs xs
  | _, _ => False
theorem NdH.kp {S : Addr → Prop} {H H1 : Hp} {v : V} {x : Nd} (k : Kp S H H1) (h : NdH H v x) : NdH H1 v x := by
  obtain ⟨p, q, e, h1, h2⟩ := h
  exact ⟨p, q, e, k.tup _ _ h1, k.tup _ _ h2⟩
theorem Nds.kp {S : Addr → Prop} {H H1 : Hp} (k : Kp S H H1) : ∀ {vs : List V} {xs : List Nd}, Nds H vs xs → Nds H1 vs xs
  | [], [], _ => trivial
  | _ :: _, _ :: _, ⟨a, t⟩ => ⟨a.kp k, Nds.kp k t⟩
theorem Nds.len {H : Hp} : ∀ {vs : List V} {xs : List Nd}, Nds H vs xs → vs.length = xs.length
  | [], [], _ => rfl
  | _ :: _, _ :: _, ⟨_, t⟩ => by rw [List.length_cons, List.length_cons, Nds.len t]
theorem Nds.app {H : Hp} : ∀ {vs ws : List V} {xs ys : List Nd}, Nds H vs xs → Nds H ws ys → Nds H (vs ++ ws) (xs ++ ys)
  | [], _, [], _, _, t => t
  | _ :: _, _, _ :: _, _, ⟨x, t⟩, u => ⟨x, Nds.app t u⟩
theorem Nds.cut {H : Hp} : ∀ {vs : List V} {xs : List Nd} {x : Nd}, Nds H vs (xs ++ [x]) → ∃ us u, vs = us ++ [u] ∧ Nds H us xs ∧ NdH H u x
  | [u], [], x, ⟨h, _⟩ => ⟨[], u, rfl, trivial, h⟩
  | v :: vs, y :: ys, x, ⟨h, t⟩ => by
    obtain ⟨us, u, e, a, b⟩ := Nds.cut (vs := vs) (xs := ys) t
    exact ⟨v :: us, u, by rw [e]; rfl, ⟨h, a⟩, b⟩
  | [], [], x, h => h.elim
  | _ :: _ :: _, [], x, ⟨_, h⟩ => h.elim
  | [], _ :: _, x, h => h.elim
theorem Nds.upd {H : Hp} {D : Addr} {zs zs' : List V} (hd : H D = some (.lst zs)) : ∀ {vs : List V} {xs : List Nd}, Nds H vs xs → Nds (upd H D (.lst zs')) vs xs
  | [], [], _ => trivial
  | _ :: _, _ :: _, ⟨⟨p, q, e, h1, h2⟩, t⟩ => ⟨⟨p, q, e, by rw [upd_ne (ne_of h1 hd (by intro z; cases z))]; exact h1, by rw [upd_ne (ne_of h2 hd (by intro z; cases z))]; exact h2⟩, Nds.upd hd t⟩
def ndd (x : Nd) : PyData := .tuple [.tuple (di x.ns), .int x.tot, .int x.sq]
theorem Nds.dp {H : Hp} : ∀ {vs : List V} {xs : List Nd}, Nds H vs xs → DpAll K H vs (xs.map ndd)
  | [], [], _ => .nil
  | _ :: _, x :: _, ⟨⟨p, q, e, h1, h2⟩, t⟩ => by
    subst e
    exact .cons (.tup (SqT.of h1) (.cons (.tup (SqT.of h2) (dpAll_ints _)) (.cons (.int _) (.cons (.int _) .nil)))) (Nds.dp t)
theorem canLay_nd : ∀ xs : List Nd, PyData.canLayAll0 (xs.map ndd) = true
  | [] => by simp [PyData.canLayAll0]
  | x :: r => by
    have h1 := canLay_nd r
    have h2 := canLay_di x.ns
    simp only [ndd, List.map_cons, PyData.canLayAll0, PyData.canLay0, h2, Bool.and_true, Bool.true_and] at h1 ⊢
    exact h1
theorem depth_nd : ∀ xs : List Nd, PyData.depthAll (xs.map ndd) ≤ 10
  | [] => by simp [PyData.depthAll]
  | x :: r => by
    have h1 := depth_nd r
    have h2 := depth_di x.ns
    simp only [ndd, List.map_cons, PyData.depthAll, PyData.depth] at h1 ⊢
    omega
theorem shaped_nds (xs : List Nd) : SeqAt.shaped (.list (xs.map ndd)) = true := by
  have h1 := canLay_nd xs
  have h2 := depth_nd xs
  unfold SeqAt.shaped
  rw [Bool.and_eq_true]
  exact ⟨by simpa [PyData.canLay0] using h1, decide_eq_true (by simp only [PyData.depth]; omega)⟩
theorem neNds {H : Hp} {a b : Addr} {vs : List V} {xs : List Nd} {Q : VK} (h1 : H a = some (.lst vs)) (h2 : H b = some (.lst [])) (r1 : Nds H vs xs) (q : Q (.bl (!xs.isEmpty)) H) : rNeI K (.ref a) (.ref b) H Q := by
  unfold rNeI
  refine ⟨_, _, .lst (SqL.of h1) r1.dp, .lst (ds := []) (SqL.of h2) .nil, shaped_nds xs, by decide +kernel, ?_⟩
  rw [show PyData.eqv (.list (xs.map ndd)) (.list []) = xs.isEmpty by cases xs <;> simp [PyData.eqv, PyData.eqvAll]]
  exact q
def sp_l_searched (K : PySem.W.Frag) : Sp := fun vs H Q _ => ∃ (n : Nat) (d : Int), vs = [.int n, .int d] ∧ 3 ≤ n ∧ n ≤ 8 ∧ d ∈ degs ∧ ∀ D H' ws, H D = none → Kp N0 H H' → H' D = some (.lst ws) → Rws H' ws (srchL n d) → Q (.ref D) H'
theorem sm {x y : Int} (hx : -1000 ≤ x ∧ x ≤ 1000) (hy : -1000 ≤ y ∧ y ≤ 1000) : CMulE x y :=
  wmul (a := 64) (b := 64) (Nat.lt_of_le_of_lt (by omega : x.natAbs ≤ 1000) (by decide)) (Nat.lt_of_le_of_lt (by omega : y.natAbs ≤ 1000) (by decide)) (by decide) (by decide) (by decide)
theorem st_stay {n : Nat} {d : Int} {j : Nat} (h : (stS n d j).2 = []) : ∀ i, stS n d (j + i) = stS n d j
  | 0 => rfl
  | i + 1 => by
    show stepS n d (stS n d (j + i)) = _
    rw [st_stay h i]
    unfold stepS
    rw [h]
    rfl
theorem last_at (l : List Int) (h : l ≠ []) : atI (l.map V.int) (-1) = some (.int (l.getD (l.length - 1) 0)) := by
  have hp : 0 < l.length := List.length_pos_iff.mpr h
  unfold atI ixN
  rw [if_neg (by decide), List.length_map]
  rw [if_pos (by omega)]
  show (l.map V.int)[((l.length : Int) + -1).toNat]? = _
  rw [show ((l.length : Int) + -1).toNat = l.length - 1 by omega]
  exact int_at (by omega)
theorem eqvAll_dI : ∀ a b : List Int, PyData.eqvAll (di a) (di b) = decide (a = b)
  | [], [] => by simp [di, PyData.eqvAll]
  | [], _ :: _ => by simp [di, PyData.eqvAll]
  | _ :: _, [] => by simp [di, PyData.eqvAll]
  | x :: a, y :: b => by
    have h := eqvAll_dI a b
    simp only [di, List.map_cons, PyData.eqvAll, PyData.eqv] at h ⊢
    rw [h]
    by_cases e : x = y <;> by_cases e2 : a = b <;> simp [e, e2]
theorem eqTp {H : Hp} {a b : Addr} {ns ms : List Int} {Q : VK} (h1 : H a = some (.tup (ns.map V.int))) (h2 : H b = some (.tup (ms.map V.int))) (q : Q (.bl (decide (ns = ms))) H) : rEqI K (.ref a) (.ref b) H Q := by
  unfold rEqI
  refine ⟨_, _, .tup (SqT.of h1) (dpAll_ints ns), .tup (SqT.of h2) (dpAll_ints ms), shaped_row ns, shaped_row ms, ?_⟩
  rw [show PyData.eqv (.tuple (di ns)) (.tuple (di ms)) = decide (ns = ms) by rw [PyData.eqv, eqvAll_dI]]
  exact q
/-- what the search's items are like -/
def NdOk (n : Nat) (x : Nd) : Prop := x.ns.length ≤ n ∧ -(40 + 8 * (x.ns.length : Int)) ≤ x.tot ∧ x.tot ≤ 40 + 8 * (x.ns.length : Int) ∧ 0 ≤ x.sq ∧ x.sq ≤ 65
theorem kids_len (x : Nd) (l : List Int) : (kids x l).length ≤ l.length := by
  unfold kids
  rw [List.length_map]
  exact List.length_filter_le _ _
theorem kids_take (x : Nd) {t : Nat} (h : t < 17) : kids x (rg17.take (t + 1)) = kids x (rg17.take t) ++ (if okN x (-8 + (t : Int)) = true then [kid x (-8 + (t : Int))] else []) := by
  have e : rg17[t]? = some (-8 + (t : Int)) := by
    unfold rg17
    rw [List.getElem?_map, List.getElem?_range h]
    rfl
  unfold kids
  rw [List.take_add_one, e, List.filter_append, List.map_append]
  congr 1
  show ([-8 + (t : Int)].filter (okN x)).map (kid x) = _
  rw [List.filter_cons]
  by_cases ho : okN x (-8 + (t : Int)) = true
  · rw [if_pos ho, if_pos ho]
    rfl
  · rw [if_neg ho, if_neg ho]
    rfl
theorem sq_nn (x : Int) : 0 ≤ x * x := by
  rcases Int.le_total 0 x with h | h
  · exact Int.mul_nonneg h h
  · exact Int.mul_nonneg_of_nonpos_of_nonpos h h
theorem kid_ok {n : Nat} {x : Nd} (h : NdOk n x) (hl : x.ns.length < n) : ∀ y ∈ kids x rg17, NdOk n y := fun y hy => by
  obtain ⟨one, ho, rfl⟩ := List.mem_map.mp hy
  obtain ⟨hr, hk⟩ := List.mem_filter.mp ho
  obtain ⟨i, hi, rfl⟩ := List.mem_map.mp hr
  have hi := List.mem_range.mp hi
  unfold okN at hk
  rw [Bool.and_eq_true] at hk
  have h1 := of_decide_eq_true hk.1
  have h2 := sq_nn (-8 + (i : Int))
  obtain ⟨a1, a2, a3, a4, a5⟩ := h
  unfold kid NdOk
  dsimp only
  rw [List.length_append, List.length_singleton]
  push_cast
  exact ⟨by omega, by omega, by omega, by omega, by omega⟩
structure SrI (H H' : Hp) (n : Nat) (d : Int) (pf pw : Addr) (ws vs : List V) (j : Nat) : Prop where
  kp : Kp N0 H H'
  hf : H' pf = some (.lst ws)
  hw : H' pw = some (.lst vs)
  rf : Rws H' ws (stS n d j).1
  rw_ : Nds H' vs (stS n d j).2
  ok : ∀ x ∈ (stS n d j).2, NdOk n x
  fl : (stS n d j).1.length ≤ j
  wl : (stS n d j).2.length ≤ 1 + 17 * j
  fe : ∀ r ∈ (stS n d j).1, r ≠ []
theorem ok_l_searched (T : Txt K mg) (D : Df K mg "_law_searched" s_l_searched ["_law_n", "_law_degree"]) : C8.Cal P w K mg base 1 "_law_searched" (sp_l_searched K) [] := by
  obtain ⟨f, fd, D, hb⟩ := D
  refine C8.cal0 D (.all hb) .nil sc_l_searched (fun vs H Q E h => ?_) (fun cdv A outer s H vs Q E hr h => ?_)
  · obtain ⟨_, _, rfl, _⟩ := h; rfl
  · obtain ⟨n, d, rfl, h1, h2, hd, q⟩ := h
    refine ⟨_, (pss_cons (ps_par (i := 2) (j := 3) (by rfl) sc_l_searched.nd rfl rfl (by decide) rfl rfl (pa_cons (pe_lstN pa_nil) (pa_cons (pe_lstN (pa_cons (pe_tupN (pa_cons (pe_tupN pa_nil) (pa_cons (pe_op op_sub (pe_op op_mulE pe_int (pv 1)) pe_int) (pa_cons (pe_op op_add (pe_op op_mulE (pv 1) (pv 1)) pe_int) pa_nil)))) pa_nil)) pa_nil)) (by rfl))
      (pss_cons (ps_while PassesOwn.never (pt_cmpR (opK (K := K) rNeI (op_neI hr.units)) (pv 3) (pe_lstN pa_nil) (nomark _)) (pss_cons (ps_asg (pe_bm0 PySem.F.plainAttrs_list PySem.F.slot_list_pop PySem.F.type_list_pop mt_pop (pv 3)) (pg_tup rfl (pgs_cons (pg_name (i := 4) sc_l_searched.nd rfl (Or.inl rfl)) (pgs_cons (pg_name (i := 5) sc_l_searched.nd rfl (Or.inl rfl)) (pgs_cons (pg_name (i := 6) sc_l_searched.nd rfl (Or.inl rfl)) pgs_nil)))))
      (pss_cons (ps_set (i := 7) sc_l_searched.nd rfl (Or.inl rfl) (pe_op op_sub (pv 0) (pe_callB (callK (K := K) Vf.rLen call_lenI) (by rfl) T.b_len (by decide +kernel) (pa_cons (pv 4) pa_nil))))
      (pss_one (ps_if (pt_cmpR op_eq (pv 7) pe_int (nomark _)) (pss_one (ps_expr (pe_bm PySem.F.plainAttrs_list PySem.F.slot_list_extend PySem.F.type_list_extend mt_extend (pv 2) (pa_cons (pe_ifExp (pt_cmpR (opK (K := K) rEqI (op_eqI hr.units)) (pe_tupN (pa_cons (pv 5) (pa_cons (pv 6) pa_nil))) (pe_tupN (pa_cons pe_int (pa_cons pe_int pa_nil))) (nomark _)) (pe_lstN (pa_cons (pe_op (opK (K := K) rCatI op_catI) (pe_tupN (pa_cons (pv 1) pa_nil)) (pv 4)) pa_nil)) (pe_lstN pa_nil)) pa_nil)))) (pss_one (ps_if (pt_cmpR op_le (pe_op op_mulE (pv 5) (pv 5)) (pe_op op_mulE (pv 7) (pv 6)) (nomark _)) (pss_one (ps_for PassesOwn.never rfl (pi_range2 (by rfl) T.b_range (pa_cons (pe_un un_neg pe_int) (pa_cons pe_int pa_nil))) (pg_name (i := 8) sc_l_searched.nd rfl (Or.inl rfl)) (pss_one (ps_if (PW.pt (pw_and (pt_cmpR op_le (pe_op op_mulE (pv 8) (pv 8)) (pv 6) (nomark _)) (pw_and1 (PW.pt (pw_or (pt_cmpR (opK (K := K) rEqI (op_eqI hr.units)) (pv 4) (pe_tupN pa_nil) (nomark _)) (pw_or1 (pt_cmpR op_le (pv 8) (pe_ix (ixK (K := K) rIxT ix_tup) (pv 4) (pe_un un_neg pe_int) (fun _ _ => rfl)) (nomark _)))))))) (pss_one (ps_expr (pe_bm PySem.F.plainAttrs_list PySem.F.slot_list_append PySem.F.type_list_append mt_append (pv 3) (pa_cons (pe_tupN (pa_cons (pe_op (opK (K := K) rCatI op_catI) (pv 4) (pe_tupN (pa_cons (pv 8) pa_nil))) (pa_cons (pe_op op_sub (pv 5) (pv 8)) (pa_cons (pe_op op_sub (pv 6) (pe_op op_mulE (pv 8) (pv 8))) pa_nil)))) pa_nil)))) pss_nil)))) pss_nil)))))))
      (pss_one (ps_ret (pe_callB (callK (K := K) rSrtU cr_srtU) (by rfl) T.b_sorted (by decide +kernel) (pa_cons (pv 2) pa_nil)))))), ?_⟩
    have hdb : -3 ≤ d ∧ d ≤ 8 := by
      simp only [degs, List.mem_cons, List.not_mem_nil, or_false] at hd
      omega
    refine newL (sz_ (by simp)) fun pf H1 nf k1 hpf => newT (sz_ (by simp)) fun q0 H2 _ k2 hq0 => ?_
    refine ⟨_, rfl, _, _, rfl, rfl, sm ⟨by decide, by decide⟩ ⟨by omega, by omega⟩, _, _, rfl, rfl, ?_⟩
    refine ⟨_, rfl, _, rfl, _, _, rfl, rfl, sm ⟨by omega, by omega⟩ ⟨by omega, by omega⟩, _, _, rfl, rfl, ?_⟩
    refine newT (sz_ (by simp)) fun p0 H3 _ k3 hp0 => newL (sz_ (by simp)) fun pw H4 nw k4 hpw => ⟨_, _, rfl, ?_⟩
    have k24 := (k2.trans k3).trans k4
    have kk := k1.trans k24
    have nw' : H pw = none := ((k1.trans k2).trans k3).live _ nw
    have hf4 := k24.keep _ _ (fun z => z) hpf
    have nefw : pf ≠ pw := fun e => by
      have := (k2.trans k3).keep _ _ (fun z => z) hpf
      rw [e, nw] at this
      cases this
    have hdd : 0 ≤ d * d ∧ d * d ≤ 64 := by
      have : d = -3 ∨ d = -2 ∨ d = -1 ∨ d = 0 ∨ d = 1 ∨ d = 2 ∨ d = 3 ∨ d = 4 ∨ d = 5 ∨ d = 6 ∨ d = 7 ∨ d = 8 := by omega
      rcases this with rfl | rfl | rfl | rfl | rfl | rfl | rfl | rfl | rfl | rfl | rfl | rfl <;> decide
    have S0 : SrI H H4 n d pf pw [] [.ref p0] 0 := ⟨kk, hf4, hpw, trivial, ⟨⟨p0, q0, rfl, k4.tup _ _ hp0, (k3.trans k4).tup _ _ hq0⟩, trivial⟩, fun x hx => by
      have hx : x ∈ [(⟨[], 3 * d - 1, d * d + 1⟩ : Nd)] := hx
      rw [List.mem_singleton.mp hx]
      exact ⟨Nat.zero_le _, by simp; omega, by simp; omega, by simp; omega, by simp; omega⟩, Nat.le_refl _, by simp [stS], fun r hr => by cases hr⟩
    have hend := srch_end n (in38 h1 h2) d hd
    refine ⟨fun m σ H' => ∃ ws vs j v4 v5 v6 v7 v8, σ = [some (.int n), some (.int d), some (.ref pf), some (.ref pw), v4, v5, v6, v7, v8] ∧ m = 400 - j ∧ j ≤ 400 ∧ SrI H H' n d pf pw ws vs j, ⟨_, [], [.ref p0], 0, _, _, _, _, _, rfl, rfl, by omega, S0⟩, ?_⟩
    rintro m σ G ⟨ws, vs, j, v4, v5, v6, v7, v8, rfl, rfl, hj, S⟩
    refine ⟨_, rfl, newL (sz_ (by simp)) fun pe G1 _ g1 hpe => neNds (g1.keep _ _ (fun z => z) S.hw) hpe (S.rw_.kp g1) ⟨_, rfl, ?_⟩⟩
    have hf1 := g1.keep _ _ (fun z => z) S.hf
    have hw1 := g1.keep _ _ (fun z => z) S.hw
    have rf1 := S.rf.kp g1
    have rw1 := S.rw_.kp g1
    have kp1 := S.kp.trans g1
    rcases List.eq_nil_or_concat (stS n d j).2 with he | ⟨W, x, he⟩
    · refine iteFB (by rw [he]; rfl) ?_
      have e4 : stS n d 400 = stS n d j := by
        have := st_stay he (400 - j)
        rwa [show j + (400 - j) = 400 by omega] at this
      refine ⟨_, rfl, sortU rfl (SqL.of hf1) rf1 S.fe fun l G2 ws' nl g2 hl hw' _ => ?_⟩
      refine q l G2 ws' (kp1.live _ nl) (kp1.trans g2) hl ?_
      unfold srchL
      rw [e4]
      exact hw'
    rw [List.concat_eq_append] at he
    have hj4 : j < 400 := by
      rcases Nat.lt_or_ge j 400 with h | h
      · exact h
      · obtain rfl : j = 400 := by omega
        rw [he] at hend
        simp at hend
    refine iteTB (by rw [he]; simp) ⟨fun σ' H' => ∃ m', m' < 400 - j ∧ ∃ ws vs j v4 v5 v6 v7 v8, σ' = [some (.int n), some (.int d), some (.ref pf), some (.ref pw), v4, v5, v6, v7, v8] ∧ m' = 400 - j ∧ j ≤ 400 ∧ SrI H H' n d pf pw ws vs j, fun σ' H' z => z, ?_⟩
    have rw1 : Nds G1 vs (W ++ [x]) := by rw [← he]; exact rw1
    obtain ⟨us, u, rfl, hus, ⟨p, qx, rfl, hp, hq⟩⟩ := Nds.cut rw1
    have xok := S.ok x (by rw [he]; simp)
    have Wok : ∀ y ∈ W, NdOk n y := fun y hy => S.ok y (by rw [he]; exact List.mem_append_left _ hy)
    have Wl : W.length ≤ 17 * j := by
      have := S.wl
      rw [he, List.length_append, List.length_singleton] at this
      omega
    have est : stS n d (j + 1) = step1 n d x (stS n d j).1 W := by
      show stepS n d (stS n d j) = _
      unfold stepS
      rw [he]
      simp
    refine ⟨_, rfl, .inl ⟨rfl, _, SqL.of hw1⟩, pw, us ++ [.ref p], .ref p, rfl, rfl, hw1, by simp, ?_⟩
    rw [List.dropLast_concat]
    have hw2 : upd G1 pw (.lst us) pw = some (.lst us) := upd_same
    have kp2 : Kp N0 H (upd G1 pw (.lst us)) := .mut0 nw' kp1
    have hf2 : upd G1 pw (.lst us) pf = some (.lst ws) := by rw [upd_ne nefw]; exact hf1
    have rf2 : Rws (upd G1 pw (.lst us)) ws (stS n d j).1 := Rws.upd hw1 rf1
    have hus2 : Nds (upd G1 pw (.lst us)) us W := Nds.upd hw1 hus
    have hp2 : upd G1 pw (.lst us) p = some (.tup [.ref qx, .int x.tot, .int x.sq]) := by rw [upd_ne (ne_of hp hw1 (by intro z; cases z))]; exact hp
    have hq2 : upd G1 pw (.lst us) qx = some (.tup (x.ns.map V.int)) := by rw [upd_ne (ne_of hq hw1 (by intro z; cases z))]; exact hq
    generalize upd G1 pw (.lst us) = G2 at hw2 kp2 hf2 rf2 hus2 hp2 hq2
    have hF := S.fl
    have hFe := S.fe
    clear rw1 hw1 hf1 rf1 kp1 hus hp hq g1 hpe S
    generalize hFn : (stS n d j).1 = fnd at rf2 est hF hFe
    have xl := xok.1
    refine ⟨p, _, rfl, SqT.of hp2, rfl, _, _, rfl, _, _, rfl, _, _, rfl, rfl, ?_⟩
    refine ⟨_, rfl, _, rfl, lenT rfl hq2 ⟨_, _, rfl, rfl, ?_⟩⟩
    dsimp only
    rw [show (n : Int) - ((x.ns.map V.int).length : Int) = ((n - x.ns.length : Nat) : Int) by rw [List.length_map]; omega]
    refine ⟨_, rfl, rfl, _, rfl, ?_⟩
    by_cases hz : x.ns.length = n
    · refine iteEq (congrArg V.int (by omega)) ?_
      have es : stS n d (j + 1) = (fnd ++ (if x.tot = 0 ∧ x.sq = 0 then [d :: x.ns] else []), W) := by
        rw [est]
        unfold step1
        rw [if_pos hz]
      refine ⟨_, rfl, .inl ⟨rfl, _, SqL.of hf2⟩, ?_⟩
      refine ⟨_, rfl, _, rfl, newT (sz_ (by simp)) fun a1 G3 _ g3 ha1 => newT (sz_ (by simp)) fun a2 G4 _ g4 ha2 => eqTp (ns := [x.tot, x.sq]) (ms := [0, 0]) (g4.tup _ _ ha1) ha2 ⟨_, rfl, ?_⟩⟩
      have g34 := g3.trans g4
      have wl := rf2.len
      by_cases h00 : x.tot = 0 ∧ x.sq = 0
      · refine iteTB (decide_eq_true (by rw [h00.1, h00.2])) ?_
        rw [if_pos h00] at es
        refine ⟨_, rfl, newT (sz_ (by simp)) fun a3 G5 _ g5 ha3 => ⟨_, rfl, ?_⟩⟩
        refine catT ha3 ((g34.trans g5).tup _ _ hq2) (sz_ (by simp; omega)) fun a4 G6 g6 ha4 => newL (sz_ (by simp)) fun a5 G7 n7 g7 ha5 => ?_
        have g27 := (g34.trans g5).trans (g6.trans g7)
        have hf7 := g27.keep _ _ (fun z => z) hf2
        refine ⟨pf, a5, _, _, rfl, rfl, hf7, ha5, sz_ (by simp; omega), ?_⟩
        refine ⟨400 - (j + 1), by omega, ws ++ [.ref a4], us, j + 1, _, _, _, _, _, rfl, rfl, by omega, .mut0 nf (kp2.trans g27), upd_same, ?_, ?_, ?_, ?_, ?_, ?_, ?_⟩
        · rw [upd_ne nefw.symm]
          exact g27.keep _ _ (fun z => z) hw2
        · rw [es]
          refine Rws.upd hf7 (Rws.app (rf2.kp g27) ⟨⟨a4, rfl, ?_⟩, trivial⟩)
          rw [g7.tup _ _ ha4]
          rfl
        · rw [es]
          exact Nds.upd hf7 (hus2.kp g27)
        · rw [es]
          exact Wok
        · rw [es, List.length_append]
          exact Nat.add_le_add_right hF 1
        · rw [es]
          show W.length ≤ _
          omega
        · rw [es]
          intro r hr
          rcases List.mem_append.mp hr with hr | hr
          · exact hFe r hr
          · rw [List.mem_singleton.mp hr]
            simp
      · refine iteFB (decide_eq_false fun z => h00 (by simpa using z)) ?_
        rw [if_neg h00, List.append_nil] at es
        refine newL (sz_ (by simp)) fun a5 G5 n5 g5 ha5 => ?_
        have g25 := g34.trans g5
        have hf5 := g25.keep _ _ (fun z => z) hf2
        refine ⟨pf, a5, _, _, rfl, rfl, hf5, ha5, sz_ (by simp; omega), ?_⟩
        rw [List.append_nil]
        refine ⟨400 - (j + 1), by omega, ws, us, j + 1, _, _, _, _, _, rfl, rfl, by omega, .mut0 nf (kp2.trans g25), upd_same, ?_, ?_, ?_, ?_, ?_, ?_, ?_⟩
        · rw [upd_ne nefw.symm]
          exact g25.keep _ _ (fun z => z) hw2
        · rw [es]
          exact Rws.upd hf5 (rf2.kp g25)
        · rw [es]
          exact Nds.upd hf5 (hus2.kp g25)
        · rw [es]
          exact Wok
        · rw [es]
          show fnd.length ≤ _
          omega
        · rw [es]
          show W.length ≤ _
          omega
        · rw [es]
          exact hFe
    · refine iteNo (fun z => by have := V.int.inj z; omega) ?_
      have hlt : x.ns.length < n := by omega
      obtain ⟨_, xt1, xt2, xs1, xs2⟩ := xok
      have ecast : ((n - x.ns.length : Nat) : Int) = (n : Int) - x.ns.length := by omega
      refine ⟨_, rfl, _, rfl, _, _, rfl, rfl, sm ⟨by omega, by omega⟩ ⟨by omega, by omega⟩, _, rfl, _, rfl, _, _, rfl, rfl, sm ⟨by omega, by omega⟩ ⟨by omega, by omega⟩, _, _, rfl, rfl, _, rfl, ?_⟩
      by_cases hle : x.tot * x.tot ≤ ((n : Int) - x.ns.length) * x.sq
      case neg =>
        refine iteFB (decide_eq_false (by rw [ecast]; exact hle)) ?_
        have es : stS n d (j + 1) = (fnd, W) := by
          rw [est]
          unfold step1
          rw [if_neg hz, if_neg hle]
        exact ⟨400 - (j + 1), by omega, ws, us, j + 1, _, _, _, _, _, rfl, rfl, by omega, kp2, hf2, hw2, by rw [es]; exact rf2, by rw [es]; exact hus2, by rw [es]; exact Wok, by rw [es]; show fnd.length ≤ _; omega, by rw [es]; show W.length ≤ _; omega, by rw [es]; exact hFe⟩
      refine iteTB (decide_eq_true (by rw [ecast]; exact hle)) ?_
      have es : stS n d (j + 1) = (fnd, W ++ kids x rg17) := by
        rw [est]
        unfold step1
        rw [if_neg hz, if_pos hle]
      refine ⟨_, rfl, _, _, rfl, ⟨by decide, by decide, by decide, by decide⟩, ?_⟩
      have hul := hus2.len
      refine for_it (n := 17) (walk_rangeN (lo := -8) (by decide)) (fun t σ H' => ∃ v8 vs', σ = [some (.int n), some (.int d), some (.ref pf), some (.ref pw), some (.ref qx), some (.int x.tot), some (.int x.sq), some (.int ((n - x.ns.length : Nat) : Int)), v8] ∧ Kp (At pw) G2 H' ∧ H' pw = some (.lst vs') ∧ Nds H' vs' (W ++ kids x (rg17.take t)))
        ⟨_, us, rfl, .refl _ _, hw2, by simpa [kids] using hus2⟩ (fun _ _ _ _ _ => trivial) ?_ ?_
      · rintro t xx σ F' F ht ⟨v8, vs', rfl, kF, hwF, hvF⟩ ⟨rfl, rfl⟩
        have hqF := kF.tup _ _ hq2
        have vl := hvF.len
        rw [List.length_append] at vl
        have kl := kids_len x (rg17.take t)
        rw [List.length_take] at kl
        refine ⟨_, rfl, _, rfl, _, _, rfl, rfl, sm ⟨by omega, by omega⟩ ⟨by omega, by omega⟩, _, rfl, _, _, rfl, rfl, _, rfl, ?_⟩
        by_cases c1 : (-8 + (t : Int)) * (-8 + (t : Int)) ≤ x.sq
        case neg =>
          have hok : okN x (-8 + (t : Int)) = false := by
            unfold okN
            rw [decide_eq_false c1, Bool.false_and]
          refine iteFB (decide_eq_false c1) ?_
          refine ⟨_, vs', rfl, kF, hwF, ?_⟩
          rw [kids_take x ht, hok, if_neg (by decide), List.append_nil]
          exact hvF
        refine iteTB (decide_eq_true c1) ?_
        refine ⟨_, rfl, newT (sz_ (by simp)) fun b0 F2 _ f2 hb0 => eqTp (ms := []) (f2.tup _ _ hqF) hb0 ⟨_, rfl, ?_⟩⟩
        have hqF2 := f2.tup _ _ hqF
        have hwF2 := f2.keep _ _ (fun z => z) hwF
        have hvF2 := hvF.kp f2
        have kF2 : Kp (At pw) G2 F2 := kF.trans f2.up
        by_cases c2 : x.ns = []
        case pos =>
          have hok : okN x (-8 + (t : Int)) = true := by
            unfold okN
            rw [decide_eq_true c1, decide_eq_true c2]
            rfl
          refine iteTB (decide_eq_true c2) (iteT ?_)
          refine ⟨_, rfl, .inl ⟨rfl, _, SqL.of hwF2⟩, _, rfl, _, rfl, newT (sz_ (by simp)) fun b1 F3 _ f3 hb1 => ?_⟩
          refine catT (f3.tup _ _ hqF2) hb1 (sz_ (by simp; omega)) fun b2 F4 f4 hb2 => ?_
          refine ⟨_, rfl, _, rfl, _, _, rfl, rfl, _, rfl, _, rfl, _, rfl, _, _, rfl, rfl, sm ⟨by omega, by omega⟩ ⟨by omega, by omega⟩, _, _, rfl, rfl, newT (sz_ (by simp)) fun b3 F5 _ f5 hb3 => ?_⟩
          have f25 := (f3.trans f4).trans f5
          have hwF5 := f25.keep _ _ (fun z => z) hwF2
          refine ⟨pw, _, _, rfl, rfl, hwF5, Nat.lt_of_le_of_lt (by omega : vs'.length ≤ 100000) (by decide), ?_⟩
          refine ⟨_, vs' ++ [.ref b3], rfl, (kF2.trans f25.up).trans (.mut rfl hwF5), upd_same, ?_⟩
          rw [kids_take x ht, hok, if_pos rfl, ← List.append_assoc]
          refine Nds.upd hwF5 (Nds.app (hvF2.kp f25) ⟨⟨b3, b2, rfl, hb3, ?_⟩, trivial⟩)
          rw [f5.tup _ _ hb2]
          unfold kid
          simp
        refine iteFB (decide_eq_false c2) ?_
        refine ⟨_, rfl, _, rfl, _, rfl, _, _, _, _, rfl, rfl, SqT.of hqF2, last_at x.ns c2, _, _, rfl, rfl, _, rfl, ?_⟩
        by_cases c3 : -8 + (t : Int) ≤ x.ns.getD (x.ns.length - 1) 0
        case neg =>
          have hok : okN x (-8 + (t : Int)) = false := by
            unfold okN
            rw [decide_eq_false c2, decide_eq_false c3, decide_eq_true c1]
            rfl
          refine iteFB (decide_eq_false c3) ?_
          refine ⟨_, vs', rfl, kF2, hwF2, ?_⟩
          rw [kids_take x ht, hok, if_neg (by decide), List.append_nil]
          exact hvF2
        have hok : okN x (-8 + (t : Int)) = true := by
          unfold okN
          rw [decide_eq_false c2, decide_eq_true c3, decide_eq_true c1]
          rfl
        refine iteTB (decide_eq_true c3) ?_
        refine ⟨_, rfl, .inl ⟨rfl, _, SqL.of hwF2⟩, _, rfl, _, rfl, newT (sz_ (by simp)) fun b1 F3 _ f3 hb1 => ?_⟩
        refine catT (f3.tup _ _ hqF2) hb1 (sz_ (by simp; omega)) fun b2 F4 f4 hb2 => ?_
        refine ⟨_, rfl, _, rfl, _, _, rfl, rfl, _, rfl, _, rfl, _, rfl, _, _, rfl, rfl, sm ⟨by omega, by omega⟩ ⟨by omega, by omega⟩, _, _, rfl, rfl, newT (sz_ (by simp)) fun b3 F5 _ f5 hb3 => ?_⟩
        have f25 := (f3.trans f4).trans f5
        have hwF5 := f25.keep _ _ (fun z => z) hwF2
        refine ⟨pw, _, _, rfl, rfl, hwF5, Nat.lt_of_le_of_lt (by omega : vs'.length ≤ 100000) (by decide), ?_⟩
        refine ⟨_, vs' ++ [.ref b3], rfl, (kF2.trans f25.up).trans (.mut rfl hwF5), upd_same, ?_⟩
        rw [kids_take x ht, hok, if_pos rfl, ← List.append_assoc]
        refine Nds.upd hwF5 (Nds.app (hvF2.kp f25) ⟨⟨b3, b2, rfl, hb3, ?_⟩, trivial⟩)
        rw [f5.tup _ _ hb2]
        unfold kid
        simp
      · rintro σ F ⟨v8, vs', rfl, kF, hwF, hvF⟩
        have e17 : rg17.take 17 = rg17 := rfl
        rw [e17] at hvF
        have kA := kp_at nw' kp2 kF
        refine ⟨400 - (j + 1), by omega, ws, vs', j + 1, _, _, _, _, _, rfl, rfl, by omega, kA, kF.keep _ _ nefw hf2, hwF, ?_, ?_, ?_, ?_, ?_, ?_⟩
        · rw [es]
          exact rf2.kp kF
        · rw [es]
          exact hvF
        · rw [es]
          intro y hy
          rcases List.mem_append.mp hy with hy | hy
          · exact Wok y hy
          · exact kid_ok ⟨xl, xt1, xt2, xs1, xs2⟩ hlt y hy
        · rw [es]
          show fnd.length ≤ _
          omega
        · rw [es]
          show (W ++ kids x rg17).length ≤ _
          have := kids_len x rg17
          rw [List.length_append]
          have e : rg17.length = 17 := rfl
          omega
        · rw [es]
          exact hFe

/-! ### what a move makes, number by number -/
theorem getD_set (l : List Int) (i t : Nat) (v : Int) (h : i < l.length) : (l.set i v).getD t 0 = if t = i then v else l.getD t 0 := by
  by_cases e : t = i
  · subst e
    rw [if_pos rfl, getD_set_eq _ _ _ h]
  · rw [if_neg e, getD_set_ne _ _ _ _ (fun z => e z.symm)]
theorem ext_getD {a b : List Int} (hl : a.length = b.length) (h : ∀ t, t < a.length → a.getD t 0 = b.getD t 0) : a = b := by
  refine List.ext_getElem hl fun t h1 h2 => ?_
  have := h t h1
  rw [List.getD_eq_getElem?_getD, List.getD_eq_getElem?_getD, List.getElem?_eq_getElem h1, List.getElem?_eq_getElem h2] at this
  exact this
theorem sw_get {n i j : Nat} {r : List Int} (h : MvOk n (.sw i j)) (hr : r.length = n + 1) (t : Nat) : (act r (.sw i j)).getD t 0 = if t = 1 + j then r.getD (1 + i) 0 else if t = 1 + i then r.getD (1 + j) 0 else r.getD t 0 := by
  obtain ⟨h1, h2⟩ := h
  show ((r.set (1 + i) (r.getD (1 + j) 0)).set (1 + j) (r.getD (1 + i) 0)).getD t 0 = _
  rw [getD_set _ _ _ _ (by rw [List.length_set]; omega), getD_set _ _ _ _ (by omega)]
theorem tn_get {n i j k : Nat} {r : List Int} (h : MvOk n (.tn i j k)) (hr : r.length = n + 1) (t : Nat) : (act r (.tn i j k)).getD t 0 = r.getD t 0 + if t = 0 ∨ t = 1 + i ∨ t = 1 + j ∨ t = 1 + k then r.getD 0 0 - r.getD (1 + i) 0 - r.getD (1 + j) 0 - r.getD (1 + k) 0 else 0 := by
  obtain ⟨h1, h2, h3⟩ := h
  generalize hc : r.getD 0 0 - r.getD (1 + i) 0 - r.getD (1 + j) 0 - r.getD (1 + k) 0 = c
  have e : act r (.tn i j k) = (((r.set 0 (r.getD 0 0 + c)).set (1 + i) (r.getD (1 + i) 0 + c)).set (1 + j) (r.getD (1 + j) 0 + c)).set (1 + k) (r.getD (1 + k) 0 + c) := by
    subst hc
    rfl
  rw [e, getD_set _ _ _ _ (by simp; omega), getD_set _ _ _ _ (by simp; omega), getD_set _ _ _ _ (by simp; omega), getD_set _ _ _ _ (by omega)]
  by_cases e1 : t = 1 + k
  · subst e1
    rw [if_pos rfl, if_pos (by omega)]
  · by_cases e2 : t = 1 + j
    · subst e2
      rw [if_neg e1, if_pos rfl, if_pos (by omega)]
    · by_cases e3 : t = 1 + i
      · subst e3
        rw [if_neg e1, if_neg e2, if_pos rfl, if_pos (by omega)]
      · by_cases e4 : t = 0
        · subst e4
          rw [if_neg e1, if_neg e2, if_neg e3, if_pos rfl, if_pos (by omega)]
        · rw [if_neg e1, if_neg e2, if_neg e3, if_neg e4, if_neg (by omega)]
          omega

/-! ### swaps of neighbours, and turns at the first three points -/
theorem conj_sw {n i p q : Nat} {r : List Int} (h1 : i < p) (h2 : p < q) (h3 : q < n) (hr : r.length = n + 1) : act (act (act r (.sw i p)) (.sw p q)) (.sw i p) = act r (.sw i q) := by
  have o1 : MvOk n (.sw i p) := ⟨h1, by omega⟩
  have o2 : MvOk n (.sw p q) := ⟨h2, h3⟩
  have o3 : MvOk n (.sw i q) := ⟨by omega, h3⟩
  have l1 : (act r (.sw i p)).length = n + 1 := by rw [act_len, hr]
  have l2 : (act (act r (.sw i p)) (.sw p q)).length = n + 1 := by rw [act_len, act_len, hr]
  refine ext_getD (by rw [act_len, act_len, act_len, act_len]) fun t ht => ?_
  have xi : (act r (.sw i p)).getD (1 + i) 0 = r.getD (1 + p) 0 := by rw [sw_get o1 hr, if_neg (by omega), if_pos rfl]
  have xp : (act r (.sw i p)).getD (1 + p) 0 = r.getD (1 + i) 0 := by rw [sw_get o1 hr, if_pos rfl]
  have xq : (act r (.sw i p)).getD (1 + q) 0 = r.getD (1 + q) 0 := by rw [sw_get o1 hr, if_neg (by omega), if_neg (by omega)]
  have yi : (act (act r (.sw i p)) (.sw p q)).getD (1 + i) 0 = r.getD (1 + p) 0 := by rw [sw_get o2 l1, if_neg (by omega), if_neg (by omega), xi]
  have yp : (act (act r (.sw i p)) (.sw p q)).getD (1 + p) 0 = r.getD (1 + q) 0 := by rw [sw_get o2 l1, if_neg (by omega), if_pos rfl, xq]
  rw [sw_get o1 l2, sw_get o3 hr, yi, yp]
  by_cases e1 : t = 1 + p
  · subst e1
    rw [if_pos rfl, if_neg (by omega), if_neg (by omega)]
  · by_cases e2 : t = 1 + i
    · subst e2
      rw [if_neg e1, if_pos rfl, if_neg (by omega), if_pos rfl]
    · rw [if_neg e1, if_neg e2, if_neg e2, sw_get o2 l1, xp, if_neg e1, sw_get o1 hr, if_neg e1, if_neg e2]
def chain (i d : Nat) : List Mv := ((List.range d).map fun t => Mv.sw (i + t) (i + t + 1)) ++ [Mv.sw (i + d) (i + d + 1)] ++ ((List.range d).map fun t => Mv.sw (i + t) (i + t + 1)).reverse
theorem chain_succ (i d : Nat) : chain i (d + 1) = [Mv.sw i (i + 1)] ++ chain (i + 1) d ++ [Mv.sw i (i + 1)] := by
  unfold chain
  have e : (List.range (d + 1)).map (fun t => Mv.sw (i + t) (i + t + 1)) = Mv.sw i (i + 1) :: (List.range d).map fun t => Mv.sw (i + 1 + t) (i + 1 + t + 1) := by
    have e2 : (fun t => Mv.sw (i + t) (i + t + 1)) ∘ Nat.succ = fun t => Mv.sw (i + 1 + t) (i + 1 + t + 1) := by
      funext t
      show Mv.sw (i + (t + 1)) (i + (t + 1) + 1) = _
      rw [show i + (t + 1) = i + 1 + t by omega]
    rw [List.range_succ_eq_map, List.map_cons, List.map_map, e2]
    rfl
  rw [e, List.reverse_cons, show i + (d + 1) = i + 1 + d by omega]
  simp
theorem acts_chain {n : Nat} : ∀ (d i : Nat) {r : List Int}, i + d + 1 < n → r.length = n + 1 → acts r (chain i d) = act r (.sw i (i + d + 1))
  | 0, i, r, _, _ => by
    show acts r ([] ++ [Mv.sw (i + 0) (i + 0 + 1)] ++ []) = _
    simp [acts]
  | d + 1, i, r, h, hr => by
    rw [chain_succ, acts_append, acts_append]
    show act (acts (act r (.sw i (i + 1))) (chain (i + 1) d)) (.sw i (i + 1)) = _
    rw [acts_chain (n := n) d (i + 1) (by omega) (by rw [act_len, hr]), conj_sw (n := n) (by omega) (by omega) (by omega) hr, show i + 1 + d + 1 = i + (d + 1) + 1 by omega]
def opt (p q : Nat) : List Mv := if p < q then [.sw p q] else []
theorem opt_rev (p q : Nat) : (opt p q).reverse = opt p q := by
  unfold opt
  split <;> rfl
theorem opt_conj {n p q : Nat} {m m' : Mv} {W : List Mv} (hpq : p ≤ q) (h0 : p = q → m = m') (h : p < q → ∀ r : List Int, r.length = n + 1 → act (act (act r (.sw p q)) m) (.sw p q) = act r m') (hW : ∀ r : List Int, r.length = n + 1 → acts r W = act r m) :
    ∀ r : List Int, r.length = n + 1 → acts r (opt p q ++ W ++ opt p q) = act r m' := by
  intro r hr
  unfold opt
  split
  · rw [acts_append, acts_append]
    show act (acts (act r (.sw p q)) W) (.sw p q) = _
    rw [hW _ (by rw [act_len, hr])]
    exact h (by assumption) r hr
  · rw [acts_append, acts_append]
    show acts r W = _
    rw [hW r hr, h0 (by omega)]
theorem conj_tn3 {n i j p q : Nat} {r : List Int} (h1 : i < j) (h2 : j < p) (h3 : p < q) (h4 : q < n) (hr : r.length = n + 1) : act (act (act r (.sw p q)) (.tn i j p)) (.sw p q) = act r (.tn i j q) := by
  have o1 : MvOk n (.sw p q) := ⟨h3, h4⟩
  have o2 : MvOk n (.tn i j p) := ⟨h1, h2, by omega⟩
  have o3 : MvOk n (.tn i j q) := ⟨h1, by omega, h4⟩
  have l1 : (act r (.sw p q)).length = n + 1 := by rw [act_len, hr]
  have l2 : (act (act r (.sw p q)) (.tn i j p)).length = n + 1 := by rw [act_len, act_len, hr]
  have g0 : (act r (.sw p q)).getD 0 0 = r.getD 0 0 := by rw [sw_get o1 hr, if_neg (by omega), if_neg (by omega)]
  have gi : (act r (.sw p q)).getD (1 + i) 0 = r.getD (1 + i) 0 := by rw [sw_get o1 hr, if_neg (by omega), if_neg (by omega)]
  have gj : (act r (.sw p q)).getD (1 + j) 0 = r.getD (1 + j) 0 := by rw [sw_get o1 hr, if_neg (by omega), if_neg (by omega)]
  have gp : (act r (.sw p q)).getD (1 + p) 0 = r.getD (1 + q) 0 := by rw [sw_get o1 hr, if_neg (by omega), if_pos rfl]
  have gq : (act r (.sw p q)).getD (1 + q) 0 = r.getD (1 + p) 0 := by rw [sw_get o1 hr, if_pos rfl]
  refine ext_getD (by rw [act_len, act_len, act_len, act_len]) fun t ht => ?_
  rw [sw_get o1 l2, tn_get o3 hr, tn_get o2 l1, tn_get o2 l1, tn_get o2 l1, g0, gi, gj, gp, gq]
  generalize r.getD 0 0 - r.getD (1 + i) 0 - r.getD (1 + j) 0 - r.getD (1 + q) 0 = c
  by_cases e1 : t = 1 + q
  · subst e1
    rw [if_pos rfl, if_pos (by omega), if_pos (by omega)]
  · by_cases e2 : t = 1 + p
    · subst e2
      rw [if_neg e1, if_pos rfl, if_neg (by omega), if_neg (by omega)]
    · rw [if_neg e1, if_neg e2, sw_get o1 hr, if_neg e1, if_neg e2]
      by_cases e3 : t = 0 ∨ t = 1 + i ∨ t = 1 + j
      · rw [if_pos (by omega), if_pos (by omega)]
      · rw [if_neg (by omega), if_neg (by omega)]
theorem conj_tn2 {n i p q k : Nat} {r : List Int} (h1 : i < p) (h2 : p < q) (h3 : q < k) (h4 : k < n) (hr : r.length = n + 1) : act (act (act r (.sw p q)) (.tn i p k)) (.sw p q) = act r (.tn i q k) := by
  have o1 : MvOk n (.sw p q) := ⟨h2, by omega⟩
  have o2 : MvOk n (.tn i p k) := ⟨h1, by omega, by omega⟩
  have o3 : MvOk n (.tn i q k) := ⟨by omega, h3, h4⟩
  have l1 : (act r (.sw p q)).length = n + 1 := by rw [act_len, hr]
  have l2 : (act (act r (.sw p q)) (.tn i p k)).length = n + 1 := by rw [act_len, act_len, hr]
  have g0 : (act r (.sw p q)).getD 0 0 = r.getD 0 0 := by rw [sw_get o1 hr, if_neg (by omega), if_neg (by omega)]
  have gi : (act r (.sw p q)).getD (1 + i) 0 = r.getD (1 + i) 0 := by rw [sw_get o1 hr, if_neg (by omega), if_neg (by omega)]
  have gk : (act r (.sw p q)).getD (1 + k) 0 = r.getD (1 + k) 0 := by rw [sw_get o1 hr, if_neg (by omega), if_neg (by omega)]
  have gp : (act r (.sw p q)).getD (1 + p) 0 = r.getD (1 + q) 0 := by rw [sw_get o1 hr, if_neg (by omega), if_pos rfl]
  have gq : (act r (.sw p q)).getD (1 + q) 0 = r.getD (1 + p) 0 := by rw [sw_get o1 hr, if_pos rfl]
  refine ext_getD (by rw [act_len, act_len, act_len, act_len]) fun t ht => ?_
  rw [sw_get o1 l2, tn_get o3 hr, tn_get o2 l1, tn_get o2 l1, tn_get o2 l1, g0, gi, gk, gp, gq]
  generalize r.getD 0 0 - r.getD (1 + i) 0 - r.getD (1 + q) 0 - r.getD (1 + k) 0 = c
  by_cases e1 : t = 1 + q
  · subst e1
    rw [if_pos rfl, if_pos (by omega), if_pos (by omega)]
  · by_cases e2 : t = 1 + p
    · subst e2
      rw [if_neg e1, if_pos rfl, if_neg (by omega), if_neg (by omega)]
    · rw [if_neg e1, if_neg e2, sw_get o1 hr, if_neg e1, if_neg e2]
      by_cases e3 : t = 0 ∨ t = 1 + i ∨ t = 1 + k
      · rw [if_pos (by omega), if_pos (by omega)]
      · rw [if_neg (by omega), if_neg (by omega)]
theorem conj_tn1 {n p q j k : Nat} {r : List Int} (h1 : p < q) (h2 : q < j) (h3 : j < k) (h4 : k < n) (hr : r.length = n + 1) : act (act (act r (.sw p q)) (.tn p j k)) (.sw p q) = act r (.tn q j k) := by
  have o1 : MvOk n (.sw p q) := ⟨h1, by omega⟩
  have o2 : MvOk n (.tn p j k) := ⟨by omega, h3, h4⟩
  have o3 : MvOk n (.tn q j k) := ⟨h2, h3, h4⟩
  have l1 : (act r (.sw p q)).length = n + 1 := by rw [act_len, hr]
  have l2 : (act (act r (.sw p q)) (.tn p j k)).length = n + 1 := by rw [act_len, act_len, hr]
  have g0 : (act r (.sw p q)).getD 0 0 = r.getD 0 0 := by rw [sw_get o1 hr, if_neg (by omega), if_neg (by omega)]
  have gj : (act r (.sw p q)).getD (1 + j) 0 = r.getD (1 + j) 0 := by rw [sw_get o1 hr, if_neg (by omega), if_neg (by omega)]
  have gk : (act r (.sw p q)).getD (1 + k) 0 = r.getD (1 + k) 0 := by rw [sw_get o1 hr, if_neg (by omega), if_neg (by omega)]
  have gp : (act r (.sw p q)).getD (1 + p) 0 = r.getD (1 + q) 0 := by rw [sw_get o1 hr, if_neg (by omega), if_pos rfl]
  have gq : (act r (.sw p q)).getD (1 + q) 0 = r.getD (1 + p) 0 := by rw [sw_get o1 hr, if_pos rfl]
  refine ext_getD (by rw [act_len, act_len, act_len, act_len]) fun t ht => ?_
  rw [sw_get o1 l2, tn_get o3 hr, tn_get o2 l1, tn_get o2 l1, tn_get o2 l1, g0, gj, gk, gp, gq]
  generalize r.getD 0 0 - r.getD (1 + q) 0 - r.getD (1 + j) 0 - r.getD (1 + k) 0 = c
  by_cases e1 : t = 1 + q
  · subst e1
    rw [if_pos rfl, if_pos (by omega), if_pos (by omega)]
  · by_cases e2 : t = 1 + p
    · subst e2
      rw [if_neg e1, if_pos rfl, if_neg (by omega), if_neg (by omega)]
    · rw [if_neg e1, if_neg e2, sw_get o1 hr, if_neg e1, if_neg e2]
      by_cases e3 : t = 0 ∨ t = 1 + j ∨ t = 1 + k
      · rw [if_pos (by omega), if_pos (by omega)]
      · rw [if_neg (by omega), if_neg (by omega)]
def broughtM (i j k : Nat) : List Mv := opt 0 i ++ opt 1 j ++ opt 2 k
theorem acts_brought {n i j k : Nat} (h : MvOk n (.tn i j k)) : ∀ r : List Int, r.length = n + 1 → acts r (broughtM i j k ++ [.tn 0 1 2] ++ (broughtM i j k).reverse) = act r (.tn i j k) := by
  obtain ⟨h1, h2, h3⟩ := h
  have w3 := opt_conj (n := n) (p := 2) (q := k) (m := .tn 0 1 2) (m' := .tn 0 1 k) (W := [.tn 0 1 2]) (by omega) (fun e => by rw [e]) (fun hk r hr => conj_tn3 (by omega) (by omega) hk h3 hr) (fun r _ => rfl)
  have w2 := opt_conj (n := n) (p := 1) (q := j) (m := .tn 0 1 k) (m' := .tn 0 j k) (by omega) (fun e => by rw [e]) (fun hj r hr => conj_tn2 (by omega) hj h2 h3 hr) w3
  have w1 := opt_conj (n := n) (p := 0) (q := i) (m := .tn 0 j k) (m' := .tn i j k) (by omega) (fun e => by rw [e]) (fun hi r hr => conj_tn1 hi h1 h2 h3 hr) w2
  intro r hr
  have e : broughtM i j k ++ [.tn 0 1 2] ++ (broughtM i j k).reverse = opt 0 i ++ (opt 1 j ++ (opt 2 k ++ [.tn 0 1 2] ++ opt 2 k) ++ opt 1 j) ++ opt 0 i := by
    unfold broughtM
    rw [List.reverse_append, List.reverse_append, opt_rev, opt_rev, opt_rev]
    simp only [List.append_assoc]
  rw [e]
  exact w1 r hr

/-! ### the exceptional rows: what is decided of them; moves keep them -/
theorem excL_mem {n : Nat} {r : List Int} : r ∈ excL n ↔ r ∈ rawX n := (lsort_perm (rawX n)).mem_iff
theorem raw_nodup : ∀ n ∈ [3, 4, 5, 6, 7, 8], (rawX n).Nodup := by decide +kernel
theorem raw_len : ∀ n ∈ [3, 4, 5, 6, 7, 8], ∀ r ∈ rawX n, r.length = n + 1 := by decide +kernel
theorem raw_small : ∀ n ∈ [3, 4, 5, 6, 7, 8], ∀ r ∈ rawX n, ∀ x ∈ r, -1 ≤ x ∧ x ≤ 6 := by decide +kernel
theorem raw_exc : ∀ n ∈ [3, 4, 5, 6, 7, 8], ∀ r ∈ rawX n, excB r = true := by decide +kernel
theorem ordL_mem : ∀ (d : Nat) (l o : List Int), l.length = d → (o ∈ ordL d l ↔ o.Perm l)
  | 0, l, o, h => by
    cases List.eq_nil_of_length_eq_zero h
    show o ∈ [[]] ↔ _
    rw [List.mem_singleton, List.perm_nil]
  | d + 1, l, o, h => by
    show o ∈ (dsort l).flatMap (fun x => (ordL d (l.erase x)).map (x :: ·)) ↔ _
    rw [List.mem_flatMap]
    constructor
    · rintro ⟨x, hx, ho⟩
      obtain ⟨o', ho', rfl⟩ := List.mem_map.mp ho
      have m := ((dsort_dis l).mem x).mp hx
      have p := (ordL_mem d (l.erase x) o' (by rw [List.length_erase_of_mem m, h]; rfl)).mp ho'
      exact (p.cons x).trans (List.perm_cons_erase m).symm
    · intro p
      cases o with
      | nil => exact absurd (p.length_eq.trans h) (by simp)
      | cons x o =>
        have m := p.mem_iff.mp List.mem_cons_self
        refine ⟨x, ((dsort_dis l).mem x).mpr m, List.mem_map.mpr ⟨o, (ordL_mem d (l.erase x) o (by rw [List.length_erase_of_mem m, h]; rfl)).mpr ?_, rfl⟩⟩
        exact List.Perm.cons_inv (p.trans (List.perm_cons_erase m))
theorem raw_perm {n : Nat} {d : Int} {o o' : List Int} (h : d :: o ∈ rawX n) (p : o'.Perm o) : d :: o' ∈ rawX n := by
  obtain ⟨q, hq, h⟩ := List.mem_flatMap.mp h
  refine List.mem_flatMap.mpr ⟨q, hq, ?_⟩
  unfold filX at h ⊢
  split at h
  · next c =>
    obtain ⟨u, hu, e⟩ := List.mem_map.mp h
    obtain ⟨rfl, rfl⟩ := List.cons.inj e
    have len : (q.2 ++ List.replicate (n - q.2.length) 0).length = n := by simp; omega
    rw [if_pos c]
    exact List.mem_map.mpr ⟨o', (ordL_mem n _ _ len).mpr (p.trans ((ordL_mem n _ _ len).mp hu)), rfl⟩
  · cases h
theorem set_out : ∀ (l : List Int) (j : Nat) (x : Int), j < l.length → (l.getD j 0 :: l.set j x).Perm (x :: l)
  | [], _, _, h => by simp at h
  | y :: l, 0, x, _ => .swap x y l
  | y :: l, j + 1, x, h => ((List.Perm.swap y _ _).trans ((set_out l j x (by simpa using h)).cons y)).trans (.swap x y l)
theorem swap_perm : ∀ (l : List Int) (i j : Nat), i < j → j < l.length → ((l.set i (l.getD j 0)).set j (l.getD i 0)).Perm l
  | [], _, _, _, h => by simp at h
  | _ :: _, _, 0, h, _ => absurd h (Nat.not_lt_zero _)
  | x :: l, 0, j + 1, _, h => set_out l j x (by simpa using h)
  | x :: l, i + 1, j + 1, h1, h2 => (swap_perm l i j (by omega) (by simpa using h2)).cons x
theorem turn_keep : ∀ n ∈ [3, 4, 5, 6, 7, 8], ∀ r ∈ rawX n, act r (.tn 0 1 2) ∈ rawX n := by decide +kernel
def Kps (n : Nat) (m : Mv) : Prop := ∀ r ∈ rawX n, act r m ∈ rawX n
theorem acts_kps {n : Nat} : ∀ {ms : List Mv} {r : List Int}, (∀ m ∈ ms, Kps n m) → r ∈ rawX n → acts r ms ∈ rawX n
  | [], _, _, hr => hr
  | m :: ms, _, h, hr => acts_kps (ms := ms) (fun x hx => h x (List.mem_cons_of_mem _ hx)) (h m List.mem_cons_self _ hr)
section
variable {n : Nat} (hn : n ∈ [3, 4, 5, 6, 7, 8])
include hn
theorem kps_sw {i j : Nat} (h : MvOk n (.sw i j)) : Kps n (.sw i j) := fun r hr => by
  have len := raw_len n hn r hr
  cases r with
  | nil => simp at len
  | cons d o =>
    have e : act (d :: o) (.sw i j) = d :: (o.set i (o.getD j 0)).set j (o.getD i 0) := by
      show ((d :: o).set (1 + i) ((d :: o).getD (1 + j) 0)).set (1 + j) ((d :: o).getD (1 + i) 0) = _
      rw [Nat.add_comm 1 i, Nat.add_comm 1 j]
      rfl
    rw [e]
    exact raw_perm hr (swap_perm o i j h.1 (by have := h.2; simp at len; omega))
theorem kps_opt {p q : Nat} (h : q < n) : ∀ m ∈ opt p q, Kps n m := fun m hm => by
  unfold opt at hm
  split at hm
  · cases List.mem_singleton.mp hm
    exact kps_sw hn ⟨by assumption, h⟩
  · simp at hm
theorem kps {m : Mv} (h : MvOk n m) : Kps n m := by
  cases m with
  | sw i j => exact kps_sw hn h
  | tn i j k =>
    intro r hr
    have ⟨h1, h2, h3⟩ := h
    have b : ∀ m ∈ broughtM i j k, Kps n m := fun m hm => by
      unfold broughtM at hm
      rcases List.mem_append.mp hm with hm | hm
      · rcases List.mem_append.mp hm with hm | hm
        · exact kps_opt hn (by omega) m hm
        · exact kps_opt hn (by omega) m hm
      · exact kps_opt hn h3 m hm
    rw [← acts_brought h r (raw_len n hn r hr)]
    refine acts_kps (fun m hm => ?_) hr
    rcases List.mem_append.mp hm with hm | hm
    · rcases List.mem_append.mp hm with hm | hm
      · exact b m hm
      · cases List.mem_singleton.mp hm
        exact fun r hr => turn_keep n hn r hr
    · exact b m (List.mem_reverse.mp hm)
/-- a word makes the same rows of them -/
theorem word_rows {ms : List Mv} (ok : ∀ m ∈ ms, MvOk n m) : lsort ((excL n).map fun r => acts r ms) = excL n := by
  have len : ∀ r ∈ excL n, r.length = n + 1 := fun r hr => raw_len n hn r (excL_mem.mp hr)
  have nd : (excL n).Nodup := (lsort_perm (rawX n)).nodup_iff.mpr (raw_nodup n hn)
  have rok : ∀ m ∈ ms.reverse, MvOk n m := fun m hm => ok m (List.mem_reverse.mp hm)
  have nd2 : ((excL n).map fun r => acts r ms).Nodup := by
    refine List.pairwise_map.mpr (nd.imp_of_mem fun {x y} hx hy ne e => ne ?_)
    rw [← acts_back ms ok (len x hx), ← acts_back ms ok (len y hy), e]
  refine (lsort_uniq ((List.perm_ext_iff_of_nodup nd nd2).mpr fun r => ?_) (lsort_pw _)).symm
  constructor
  · intro hr
    have h2 : acts r ms.reverse ∈ rawX n := acts_kps (fun m hm => kps hn (rok m hm)) (excL_mem.mp hr)
    have h3 := acts_back ms.reverse rok (len r hr)
    rw [List.reverse_reverse] at h3
    exact List.mem_map.mpr ⟨_, excL_mem.mpr h2, h3⟩
  · intro hr
    obtain ⟨x, hx, rfl⟩ := List.mem_map.mp hr
    exact excL_mem.mpr (acts_kps (fun m hm => kps hn (ok m hm)) (excL_mem.mp hx))
end

/-! ### the exceptional rows: what is decided of them -/
theorem raw_opp : ∀ n ∈ [3, 4, 5, 6, 7, 8], ∀ r ∈ rawX n, excB (r.map fun x => -x) = false := by decide +kernel
def degR (n : Nat) (d : Int) : List (List Int) := (rawX n).filter fun r => decide (r.getD 0 0 = d)
theorem deg_few : ∀ n ∈ [3, 4, 5, 6, 7, 8], ∀ d ∈ degs, (degR n d).length < 64 := by decide +kernel
def fallsIn (L S : List (List Int)) : Bool := L.all fun r => S.any fun s => s == fallR r
def fallsAll (L S : List (List Int)) : Bool := S.all fun s => L.any fun r => s == fallR r
theorem falls_inB : ∀ n ∈ [3, 4, 5, 6, 7, 8], ∀ d ∈ degs, fallsIn (degR n d) (srchL n d) = true := by decide +kernel
theorem falls_allB : ∀ n ∈ [3, 4, 5, 6, 7, 8], ∀ d ∈ degs, fallsAll (degR n d) (srchL n d) = true := by decide +kernel
theorem falls_in {n : Nat} (hn : n ∈ [3, 4, 5, 6, 7, 8]) {d : Int} (hd : d ∈ degs) {r : List Int} (hr : r ∈ degR n d) : fallR r ∈ srchL n d := by
  obtain ⟨s, hs, e⟩ := List.any_eq_true.mp (List.all_eq_true.mp (falls_inB n hn d hd) r hr)
  rwa [← eq_of_beq e]
theorem falls_all {n : Nat} (hn : n ∈ [3, 4, 5, 6, 7, 8]) {d : Int} (hd : d ∈ degs) {s : List Int} (hs : s ∈ srchL n d) : ∃ r ∈ degR n d, fallR r = s := by
  obtain ⟨r, hr, e⟩ := List.any_eq_true.mp (List.all_eq_true.mp (falls_allB n hn d hd) s hs)
  exact ⟨r, hr, (eq_of_beq e).symm⟩
theorem srch_nd : ∀ n ∈ [3, 4, 5, 6, 7, 8], ∀ d ∈ degs, (srchL n d).Nodup := by decide +kernel
section
variable {n : Nat} (hn : n ∈ [3, 4, 5, 6, 7, 8])
include hn
/-- the falling rows of a degree, sorted without doubles, are what the search finds -/
theorem falls_are {d : Int} (hd : d ∈ degs) {rs : List (List Int)} (nd : rs.Nodup) (up : rs.Pairwise lxl) (h : ∀ s, s ∈ rs ↔ s ∈ ((excL n).filter fun r => decide (r.getD 0 0 = d)).map fallR) : rs = srchL n d := by
  have same : ∀ r, r ∈ (excL n).filter (fun r => decide (r.getD 0 0 = d)) ↔ r ∈ degR n d := fun r => by
    unfold degR
    rw [List.mem_filter, List.mem_filter, excL_mem]
  refine same_rows nd (srch_nd n hn d hd) up (lsort_pw _) fun s => ?_
  rw [h, List.mem_map]
  constructor
  · rintro ⟨r, hr, rfl⟩
    exact falls_in hn hd ((same r).mp hr)
  · intro hs
    obtain ⟨r, hr, e⟩ := falls_all hn hd hs
    exact ⟨r, (same r).mpr hr, e⟩
end
theorem raw_spoilt : ∀ n ∈ [3, 4, 5, 6, 7, 8], ∀ r ∈ rawX n, ∀ i ∈ List.range (n + 1), excB (r.set i (r.getD i 0 + 1)) = false := by decide +kernel
theorem spoilt_out {n : Nat} (hn : n ∈ [3, 4, 5, 6, 7, 8]) {r : List Int} (hr : r ∈ excL n) {i : Nat} (hi : i < n + 1) : r.set i (r.getD i 0 + 1) ∉ excL n := fun h => by
  have e := raw_exc n hn _ (excL_mem.mp h)
  rw [raw_spoilt n hn r (excL_mem.mp hr) i (List.mem_range.mpr hi)] at e
  cases e

/-! ### the law -/
theorem degs_of {z : Int} {ms : List Int} (p : ms.Perm degs) (h : z ∈ ms) : z ∈ degs := p.mem_iff.mp h
theorem raw_ne {n : Nat} (h1 : 3 ≤ n) (h2 : n ≤ 8) {r : List Int} (h : r ∈ excL n) : r.length = n + 1 ∧ Row r ∧ ∀ x ∈ r, -1 ≤ x ∧ x ≤ 6 := by
  have hm := excL_mem.mp h
  have hl := raw_len n (in38 h1 h2) r hm
  have hs := raw_small n (in38 h1 h2) r hm
  exact ⟨hl, ⟨by omega, by omega, fun x hx => sh_small (by have := hs x hx; omega) (by have := hs x hx; omega)⟩, hs⟩
theorem excL_len {n : Nat} (h1 : 3 ≤ n) (h2 : n ≤ 8) : (excL n).length ≤ 300 := by
  show (lsort (rawX n)).length ≤ 300
  rw [(lsort_perm (rawX n)).length_eq]
  exact rawX_small n (in38 h1 h2)
theorem opp_sum (n : Nat) (r : List Int) (h : r.length = n + 1) : sumr (List.replicate (n + 1) 0) [r] [-1] = r.map fun x => -x := by
  show List.zipWith (fun x y => x + -1 * y) (List.replicate (n + 1) 0) r = _
  refine List.ext_getElem (by simp [h]) fun i h1 h2 => ?_
  rw [List.getElem_zipWith, List.getElem_replicate, List.getElem_map]
  omega
theorem its_rows {H : Hp} {ws : List V} {rs : List (List Int)} (h : RwK K H ws rs) : Its K H ws := .inr fun v m => by
  obtain ⟨i, hi, e⟩ := List.getElem_of_mem m
  obtain ⟨p, r, e2, _, hp⟩ := h.get (i := i) (by rw [List.getElem?_eq_getElem hi])
  exact ⟨p, r, by rw [← e, e2], hp⟩
theorem row_at {H : Hp} {ws : List V} {rs : List (List Int)} {v : V} (h : RwK K H ws rs) (m : v ∈ ws) : ∃ p r, v = .ref p ∧ SqT K H p (r.map V.int) ∧ r ∈ rs := by
  obtain ⟨i, hi, e⟩ := List.getElem_of_mem m
  obtain ⟨p, r, e2, hr, hp⟩ := h.get (i := i) (by rw [List.getElem?_eq_getElem hi])
  exact ⟨p, r, by rw [← e, e2], hp, List.mem_of_getElem? hr⟩
def sp_law (K : PySem.W.Frag) : Sp := fun vs H Q _ => ∃ (a : Addr) (ns : List Int), vs = [.ref a] ∧ SqL K H a (ns.map V.int) ∧ ∀ H', Q (.bl true) H'
theorem ok_law {f : Addr} {fd : FuncData} (T : Txt K mg) (D : C8.Def K mg "law" s_law f fd) (c_l_dice : C8.Cal P w K mg base 1 "_law_dice" (sp_l_dice K) []) (c_l_roll : C8.Cal P w K mg base 1 "_law_roll" (sp_l_roll) []) (c_exceptional_rows : C8.Cal P w K mg base 5 "exceptional_rows" (sp_exceptional_rows K) []) (c_l_exceptional : C8.Cal P w K mg base 2 "_law_exceptional" (sp_l_exceptional K) []) (c_l_mixed : C8.Cal P w K mg base 2 "_law_mixed" (sp_l_mixed K) []) (c_l_falling : C8.Cal P w K mg base 1 "_law_falling" (sp_l_falling K) []) (c_l_searched : C8.Cal P w K mg base 1 "_law_searched" (sp_l_searched K) []) (c_l_word : C8.Cal P w K mg base 3 "_law_word" (sp_l_word K) []) (c_moved : C8.Cal P w K mg base 7 "moved" (sp_moved K) []) (c_is_exceptional : C8.Cal P w K mg base 6 "is_exceptional" (sp_is_exceptional K) []) (c_l_sum : C8.Cal P w K mg base 1 "_law_sum" (sp_l_sum K) []) : FnOk P w K mg base CX0 8 f fd ["_law_script"] (sp_law K) := by
  refine C8.fn0 D.fn sc_law (fun vs H Q E h => ?_) (fun cdv A outer s H vs Q E hr h => ?_)
  · obtain ⟨_, _, rfl, _⟩ := h; rfl
  · obtain ⟨a, ns, rfl, ha, q⟩ := h
    refine ⟨_, (pss_cons (ps_for PassesOwn.never rfl (pi_range1 (by rfl) T.b_range (pa_cons (pe_callB (call_max2 rfl) (by rfl) T.b_max (by decide +kernel) (pa_cons pe_int (pa_cons (pe_callB (call_min2 rfl) (by rfl) T.b_min (by decide +kernel) (pa_cons (pe_callB (callK (K := K) Vf.rLen call_lenI) (by rfl) T.b_len (by decide +kernel) (pa_cons (pv 0) pa_nil)) (pa_cons pe_int pa_nil))) pa_nil))) pa_nil)) (pg_name (i := 1) sc_law.nd rfl (Or.inl rfl)) (pss_cons (ps_set (i := 2) sc_law.nd rfl (Or.inl rfl) (C8.pe_c c_l_dice hr (by decide) (by rfl) (pa_cons (pv 0) (pa_cons (pv 1) pa_nil))))
      (pss_cons (ps_set (i := 3) sc_law.nd rfl (Or.inl rfl) (pe_op op_add pe_int (C8.pe_c c_l_roll hr (by decide) (by rfl) (pa_cons (pv 2) (pa_cons pe_int pa_nil)))))
      (pss_cons (ps_set (i := 4) sc_law.nd rfl (Or.inl rfl) (C8.pe_c c_exceptional_rows hr (by decide) (by rfl) (pa_cons (pv 3) pa_nil)))
      (pss_cons (ps_if (pt_cmpR (opK (K := K) rNeI (op_neI hr.units)) (pv 4) (pe_callTy (callK (K := K) rTupOf call_tupI) (by rfl) T.b_tuple (by decide +kernel) (pa_cons (C8.pe_c c_l_exceptional hr (by decide) (by rfl) (pa_cons (pv 3) pa_nil)) pa_nil)) (nomark _)) (pss_one (ps_ret pe_bl)) pss_nil)
      (pss_cons (ps_for PassesOwn.never rfl (pi_list (pe_slice (slK (K := K) rSlLI sl_lstI) (C8.pe_c c_l_mixed hr (by decide) (by rfl) (pa_cons (pv 2) (pa_cons (pe_listRgN rfl (by rfl) T.b_list (prg_2 (by rfl) T.b_range (pe_un un_neg pe_int) pe_int)) pa_nil))) po_none (po_some pe_int))) (pg_name (i := 5) sc_law.nd rfl (Or.inr rfl)) (pss_cons (ps_set (i := 7) sc_law.nd rfl (Or.inl rfl) (pe_callB (cr_srtSet rfl) (by rfl) T.b_sorted (by decide +kernel) (pa_cons (pe_callTy (cr_setTup rfl hr.units) (by rfl) T.b_set (by decide +kernel) (pa_cons (pe_lc (own := [("_law_row", 6)]) (g := gName 6) rfl sc_law.nd (pi_tup (pv 4)) (C8b.blk (N := ["_law_script", "_law_at", "_law_dice_here", "_law_n", "_law_rows", "_law_degree", "_law_row", "_law_some", "_law_word_here", "_law_spoilt", "_law_place"]) (sc := C8.fnScope s_law) (by decide +kernel)) (fun _ _ _ _ _ => (pg_name (i := 6) sc_law.nd rfl (Or.inl rfl))) (fun _ _ _ _ _ => (pts_one (pt_cmpR op_eq (pe_ix (ixK (K := K) rIxT ix_tup) (pv 6) pe_int (fun _ _ => rfl)) (pv 5) (nomark _)))) (fun _ _ _ _ _ => (C8.pe_c c_l_falling hr (by decide) (by rfl) (pa_cons (pv 6) pa_nil)))) pa_nil)) pa_nil)))
      (pss_one (ps_if (pt_cmpR (opK (K := K) rNeI (op_neI hr.units)) (C8.pe_c c_l_searched hr (by decide) (by rfl) (pa_cons (pv 3) (pa_cons (pv 5) pa_nil))) (pv 7) (nomark _)) (pss_one (ps_ret pe_bl)) pss_nil))))
      (pss_cons (ps_set (i := 8) sc_law.nd rfl (Or.inr rfl) (C8.pe_c c_l_word hr (by decide) (by rfl) (pa_cons (pv 2) (pa_cons (pv 3) (pa_cons pe_int pa_nil)))))
      (pss_cons (ps_if (pt_cmpR (opK (K := K) rNeI (op_neI hr.units)) (pe_callB (callK (K := K) rSrtU cr_srtU) (by rfl) T.b_sorted (by decide +kernel) (pa_cons (pe_lc (own := [("_law_row", 6)]) (g := gName 6) rfl sc_law.nd (pi_tup (pv 4)) (C8b.blk (N := ["_law_script", "_law_at", "_law_dice_here", "_law_n", "_law_rows", "_law_degree", "_law_row", "_law_some", "_law_word_here", "_law_spoilt", "_law_place"]) (sc := C8.fnScope s_law) (by decide +kernel)) (fun _ _ _ _ _ => (pg_name (i := 6) sc_law.nd rfl (Or.inl rfl))) (fun _ _ _ _ _ => pts_nil) (fun _ _ _ _ _ => (C8.pe_c c_moved hr (by decide) (by rfl) (pa_cons (pv 6) (pa_cons (pv 8) pa_nil))))) pa_nil)) (pe_callTy (callK (K := K) rListOf call_lstI) (by rfl) T.b_list (by decide +kernel) (pa_cons (pv 4) pa_nil)) (nomark _)) (pss_one (ps_ret pe_bl)) pss_nil)
      (pss_one (ps_for PassesOwn.never rfl (pi_list (pe_slice (slK (K := K) rSlLI sl_lstI) (C8.pe_c c_l_mixed hr (by decide) (by rfl) (pa_cons (pv 2) (pa_cons (pv 4) pa_nil))) po_none (po_some pe_int))) (pg_name (i := 6) sc_law.nd rfl (Or.inl rfl)) (pss_cons (ps_if (PW.pt (pw_or (pt_not (pt_val (C8.pe_c c_is_exceptional hr (by decide) (by rfl) (pa_cons (pv 6) pa_nil)))) (pw_or1 (pt_val (C8.pe_c c_is_exceptional hr (by decide) (by rfl) (pa_cons (C8.pe_c c_l_sum hr (by decide) (by rfl) (pa_cons (pe_lstN (pa_cons (pv 6) pa_nil)) (pa_cons (pe_lstN (pa_cons (pe_un un_neg pe_int) pa_nil)) pa_nil))) pa_nil)))))) (pss_one (ps_ret pe_bl)) pss_nil)
      (pss_cons (ps_set (i := 9) sc_law.nd rfl (Or.inl rfl) (pe_callTy (callK (K := K) rListOf call_lstI) (by rfl) T.b_list (by decide +kernel) (pa_cons (pv 6) pa_nil)))
      (pss_cons (ps_set (i := 10) sc_law.nd rfl (Or.inl rfl) (C8.pe_c c_l_roll hr (by decide) (by rfl) (pa_cons (pv 2) (pa_cons (pe_op op_add (pv 3) pe_int) pa_nil))))
      (pss_cons (ps_asg (pe_op op_add (pe_ix (ixK (K := K) rIxL ix_list) (pv 9) (pv 10) (fun _ _ => rfl)) pe_int) (pg_sub (pv 9) (pv 10) set_list))
      (pss_one (ps_if (pt_cmpR op_ne (C8.pe_c c_is_exceptional hr (by decide) (by rfl) (pa_cons (pe_callTy (callK (K := K) rTupOf call_tupI) (by rfl) T.b_tuple (by decide +kernel) (pa_cons (pv 9) pa_nil)) pa_nil)) (pe_cmpR (opK (K := K) rRowIn (op_rowIn hr.units)) (pe_callTy (callK (K := K) rTupOf call_tupI) (by rfl) T.b_tuple (by decide +kernel) (pa_cons (pv 9) pa_nil)) (pv 4) rfl) (nomark _)) (pss_one (ps_ret pe_bl)) pss_nil))))))))))))))))
      (pss_one (ps_ret pe_bl))), ?_⟩
    refine ⟨_, rfl, lenL rfl ha ⟨_, _, rfl, _, _, rfl, ?_⟩⟩
    generalize hm : (if (if (2 : Int) < ((List.map V.int ns).length : Int) then (2 : Int) else ((List.map V.int ns).length : Int)) > 1 then (if (2 : Int) < ((List.map V.int ns).length : Int) then (2 : Int) else ((List.map V.int ns).length : Int)) else 1) = m
    have m1 : 1 ≤ m ∧ m ≤ 2 := by
      rw [← hm]
      split <;> split <;> omega
    refine ⟨_, rfl, by omega, by omega, ?_⟩
    refine for_it (n := m.toNat) walk_range (fun i σ H' => ∃ v1 v2 v3 v4 v5 v6 v7 v8 v9 v10, σ = [some (.ref a), v1, v2, v3, v4, v5, v6, v7, v8, v9, v10] ∧ Kp N0 H H') ⟨_, _, _, _, _, _, _, _, _, _, rfl, .refl _ _⟩ (fun _ _ _ _ _ => trivial) ?_ ?_
    · rintro i x σ H2 H2' hi ⟨v1, v2, v3, v4, v5, v6, v7, v8, v9, v10, rfl, k2⟩ ⟨rfl, rfl⟩
      refine ⟨_, rfl, _, rfl, a, ns, i, by simp, kp_sqL k2 ha, by omega, fun pd H3 hpd k3 hd => ?_⟩
      refine ⟨_, rfl, _, _, rfl, hd, by decide, by decide, fun z H4 r0 r1 d4 => ?_⟩
      obtain ⟨n, en, n1, n2⟩ : ∃ n : Nat, 3 + z = (n : Int) ∧ 3 ≤ n ∧ n ≤ 8 := ⟨(3 + z).toNat, by omega, by omega, by omega⟩
      refine ⟨_, _, rfl, rfl, ?_⟩
      dsimp only
      rw [en]
      refine ⟨_, rfl, n, rfl, n1, n2, fun pr H5 ws k5 hpr hw => ?_⟩
      have hn := in38 n1 n2
      have elen := excL_len n1 n2
      have wlen := hw.len
      refine ⟨_, rfl, _, rfl, n, rfl, n1, n2, fun D6 H6 ws6 n6 k6 hD6 hw6 => tupL rfl (SqL.of hD6) fun p7 H7 n7 k7 hp7 => ?_⟩
      refine neRowsTu ((k6.trans k7).sqT hpr) (SqT.of hp7) (hw.kp (k6.trans k7)) (RwK.of (hw6.kp k7)) ⟨_, rfl, iteFB rfl ?_⟩
      have d7 : DR pd H3 H7 := d4.trans (.of d4.dc ((k5.trans k6).trans k7))
      have hpr7 := (k6.trans k7).sqT hpr
      have hw7 := hw.kp (k6.trans k7)
      clear hpr hw hD6 hw6 hp7 k5 k6 k7 d4
      refine ⟨_, rfl, _, rfl, _, _, rfl, rfl, rgL ⟨by omega, by omega, by omega, by omega, by omega⟩ fun p8 H8 n8 k8 hp8 => ?_⟩
      have hp8 : H8 p8 = some (.lst (degs.map V.int)) := hp8
      have d8 := d7.trans (.of d7.dc k8)
      refine ⟨pd, p8, degs.map V.int, rfl, d8.dc, .inl (SqL.of hp8), .ints _, by decide, fun p9 H9 _ n9 d9 hp9 hperm0 => ?_⟩
      obtain ⟨us, rfl, hperm⟩ := perm_ints hperm0
      have d09 := d8.trans d9
      refine ⟨_, rfl, slL (SqL.of hp9) fun p10 H10 n10 k10 hp10 => ?_⟩
      rw [show (some (4 : Int)) = some ((4 : Nat) : Int) from rfl, cut_to, ← List.map_take] at hp10
      refine ⟨p10, rfl, ⟨_, SqL.of hp10⟩, ?_⟩
      have d10 : DR pd H3 H10 := d09.trans (.of d09.dc k10)
      have hpr10 := k10.sqT (d9.kp.sqT (k8.sqT hpr7))
      have hw10 := ((hw7.kp k8).kp d9.kp).kp k10
      have hus : ∀ z ∈ us.take 4, z ∈ degs := fun z hz => hperm.mem_iff.mp (List.mem_of_mem_take hz)
      have hul : (us.take 4).length ≤ 4 := List.length_take_le 4 us
      have npd : p10 ≠ pd := (d09.dc.ne n10).symm
      generalize us.take 4 = zs at hp10 hus hul
      clear hp8 hp9 hperm hperm0 k8 d8 d9 d09 k10 hpr7 hw7 n8 n9
      refine for_it (n := zs.length) (walk_listN (K := K) (a := p10) (xs := zs.map V.int) (by rw [List.length_map])) (fun j σ H' => ∃ v5 v6 v7 v8 v9 v10, σ = [some (.ref a), some (.int (0 + (i : Int))), some (.ref pd), some (.int n), some (.ref pr), v5, v6, v7, v8, v9, v10] ∧ DR pd H10 H')
        ⟨_, _, _, _, _, _, rfl, .refl d10.dc⟩ (fun _ _ _ _ ⟨_, _, _, _, _, _, _, z⟩ => SqL.of (z.lst npd hp10)) ?_ ?_
      · rintro j x σ G0 G hj ⟨v5, v6, v7, v8, v9, v10, rfl, dG⟩ ⟨rfl, hx⟩
        rw [int_at hj] at hx
        cases hx
        have hz := hus _ (getD_memI hj)
        generalize zs.getD j 0 = dg at hz
        have hprG := dG.kp.sqT hpr10
        have hwG := hw10.kp dG.kp
        refine ⟨_, rfl, pr, rfl, ⟨_, hprG⟩, ?_⟩
        refine lc_filtR (walk_tup (K := K) (a := pr) (xs := ws)) (fun t => decide (((excL n).getD t []).getD 0 0 = dg)) (fun t => fallR ((excL n).getD t [])) (by omega) (fun H' kk => kk.sqT hprG) ?_ gm_name ?_
        · rintro t y F0 F ht kF ⟨rfl, hy⟩
          obtain ⟨po, o, rfl, ho, hpo⟩ := (hwG.kp kF).get hy
          have eo : (excL n).getD t [] = o := by
            rw [List.getD_eq_getElem?_getD, ho]
            rfl
          obtain ⟨ol, _, _⟩ := raw_ne n1 n2 (List.mem_of_getElem? ho)
          refine ⟨rfl, fun R hR => ?_, fun _ F3 f3 R hR => ⟨_, rfl, po, o, rfl, f3.sqT hpo, by omega, by omega, fun p H' kk hp => hR p H' (f3.trans kk) (by rw [hp, eo])⟩⟩
          refine ⟨_, rfl, _, _, _, _, rfl, rfl, hpo, at_row0 (by omega), _, rfl, rfl, _, rfl, ?_⟩
          have e : decide (V.int (o.getD 0 0) = V.int dg) = decide (((excL n).getD t []).getD 0 0 = dg) := by
            rw [eo]
            exact decide_eq_decide.mpr ⟨fun z => V.int.inj z, fun z => by rw [z]⟩
          rw [e]
          exact hR _ (.refl _ _)
        intro D5 G5 ys nD5 g5 hD5 hys
        have hys : Rws G5 ys (((excL n).filter fun r => decide (r.getD 0 0 = dg)).map fallR) := by
          have e := range_filt [] (fun o : List Int => decide (o.getD 0 0 = dg)) fallR (excL n)
          rw [← e]
          rw [wlen] at hys
          exact hys
        have few : ys.length < 64 := by
          have h := deg_few n hn dg hz
          have e := ((lsort_perm (rawX n)).filter fun r => decide (r.getD 0 0 = dg)).length_eq
          rw [hys.len, List.length_map]
          unfold degR at h
          unfold excL
          omega
        refine setRows rfl (SqL.of hD5) hys few fun l L G6 g6 hl rows all => ?_
        refine srtSet rfl hl (fun p hp => ⟨(rows p hp).1, fun z => ?_⟩) fun l7 G7 ws7 rs7 n7 g7 hl7 hw7 nd up hmem => ?_
        · obtain ⟨u, _, e⟩ := List.mem_map.mp (rows p hp).2
          rw [← e] at z
          cases z
        have ers : rs7 = srchL n dg := falls_are hn hz nd up fun r => by
          rw [hmem]
          constructor
          · intro h
            obtain ⟨u, hu, rfl⟩ := List.mem_map.mp h
            exact (rows u hu).2
          · exact all r
        rw [ers] at hw7
        have g17 := (g5.trans g6).trans g7
        refine ⟨_, rfl, _, rfl, n, dg, rfl, n1, n2, hz, fun D8 G8 ws8 n8 g8 hD8 hw8 => ?_⟩
        refine ⟨_, rfl, neRowsL (SqL.of hD8) (SqL.of (g8.keep _ _ (fun z => z) hl7)) (RwK.of hw8) (RwK.of (hw7.kp g8)) ⟨_, rfl, iteFB rfl ?_⟩⟩
        exact ⟨_, _, _, _, _, _, rfl, dG.trans (.of dG.dc (g17.trans g8))⟩
      rintro σ G ⟨v5, v6, v7, v8, v9, v10, rfl, dG⟩
      have dG3 : DR pd H3 G := d10.trans dG
      have hprG := dG.kp.sqT hpr10
      have hwG := hw10.kp dG.kp
      refine ⟨_, rfl, _, rfl, pd, n, 4, rfl, dG.dc, n1, by omega, by decide, fun pw G1 ms dG1 hwd hml hok => ?_⟩
      have hprG1 := dG1.kp.sqT hprG
      have hwG1 := hwG.kp dG1.kp
      refine ⟨_, rfl, pr, rfl, ⟨_, hprG1⟩, ?_⟩
      have led : ∀ r ∈ excL n, acts r ms ∈ excL n := fun r hr => excL_mem.mpr (acts_kps (fun m hm => kps hn (hok m hm)) (excL_mem.mp hr))
      refine lc_rows (walk_tup (K := K) (a := pr) (xs := ws)) (fun t => acts ((excL n).getD t []) ms) (by omega) (fun H' kk => kk.sqT hprG1) ?_ ?_
      · rintro t y F0 F ht kF ⟨rfl, hy⟩ R hR
        obtain ⟨po, o, rfl, ho, hpo⟩ := (hwG1.kp kF).get hy
        have eo : (excL n).getD t [] = o := by
          rw [List.getD_eq_getElem?_getD, ho]
          rfl
        have om := List.mem_of_getElem? ho
        obtain ⟨ol, orow, _⟩ := raw_ne n1 n2 om
        obtain ⟨_, arow, _⟩ := raw_ne n1 n2 (led o om)
        exact ⟨rfl, _, rfl, _, rfl, po, pw, o, ms, n, rfl, hpo, hwd.kp kF, hok, ol, by omega, by omega, orow, arow.2.2, fun p F1 f1 hp => hR p F1 f1 (by rw [hp, eo])⟩
      intro D2 G2 ys nD2 g2 hD2 hys
      have eys : (List.range ws.length).map (fun t => acts ((excL n).getD t []) ms) = (excL n).map fun r => acts r ms := by
        refine List.ext_getElem (by simp [wlen]) fun i h1 h2 => ?_
        have hi : i < (excL n).length := by simpa using h2
        rw [List.getElem_map, List.getElem_map, List.getElem_range, List.getD_eq_getElem?_getD, List.getElem?_eq_getElem hi]
        rfl
      rw [eys] at hys
      refine sortU rfl (SqL.of hD2) hys (fun r hr => ?_) fun l3 G3 ws3 n3 g3 hl3 hw3 _ => ?_
      · obtain ⟨u, hu, rfl⟩ := List.mem_map.mp hr
        intro z
        have := (raw_ne n1 n2 (led u hu)).1
        rw [z] at this
        simp at this
      rw [word_rows hn hok] at hw3
      have g13 := g2.trans g3
      refine ⟨_, rfl, listL rfl (.inr (g13.sqT hprG1)) fun p4 G4 n4 g4 hp4 => ?_⟩
      refine neRowsL (SqL.of (g4.keep _ _ (fun z => z) hl3)) (SqL.of hp4) (RwK.of (hw3.kp g4)) ((hwG1.kp g13).kp g4) ⟨_, rfl, iteFB rfl ?_⟩
      have g14 := g13.trans g4
      have hpr4 := g14.sqT hprG1
      have hw4 := hwG1.kp g14
      have d4 := (dG3.trans dG1).trans (.of dG1.dc g14)
      clear hprG hwG hprG1 hwG1 hwd hys hD2 hl3 hw3 hp4 g2 g3 g4 g13 g14 dG3 dG1 dG hpr10 hw10 d10 hp10
      refine ⟨_, rfl, _, rfl, pd, pr, ws, rfl, d4.dc, .inr hpr4, its_rows hw4, by omega, fun p5 G5 ys5 n5 d5 hp5 hperm5 => ?_⟩
      refine ⟨_, rfl, slL (SqL.of hp5) fun p6 G6 n6 k6 hp6 => ?_⟩
      rw [show (some (6 : Int)) = some ((6 : Nat) : Int) from rfl, cut_to] at hp6
      refine ⟨p6, rfl, ⟨_, SqL.of hp6⟩, ?_⟩
      have np6 : p6 ≠ pd := ((d4.trans d5).dc.ne n6).symm
      have d6 := (d4.trans d5).trans (.of d5.dc k6)
      have hpr6 := k6.sqT (d5.kp.sqT hpr4)
      have hw6 := (hw4.kp d5.kp).kp k6
      have hmem : ∀ v ∈ ys5.take 6, v ∈ ws := fun v hv => hperm5.mem_iff.mp (List.mem_of_mem_take hv)
      have hyl : (ys5.take 6).length ≤ 6 := List.length_take_le 6 ys5
      generalize ys5.take 6 = zs6 at hp6 hmem hyl
      clear hp5 hperm5 k6 d5 d4 hpr4 hw4
      refine for_it (n := zs6.length) (walk_list (K := K) (a := p6) (xs := zs6)) (fun j σ H' => ∃ v5 v6 v7 v9 v10, σ = [some (.ref a), some (.int (0 + (i : Int))), some (.ref pd), some (.int n), some (.ref pr), v5, v6, v7, some (.ref pw), v9, v10] ∧ DR pd G6 H')
        ⟨_, _, _, _, _, rfl, .refl d6.dc⟩ (fun _ _ _ _ ⟨_, _, _, _, _, _, z⟩ => SqL.of (z.lst np6 hp6)) ?_ ?_
      · rintro j x σ F0 F hj ⟨v5, v6, v7, v9, v10, rfl, dF⟩ ⟨rfl, hx⟩
        have hprF := dF.kp.sqT hpr6
        have hwF := hw6.kp dF.kp
        obtain ⟨po, o, rfl, hpo, om⟩ := row_at hwF (hmem x (List.mem_of_getElem? hx))
        obtain ⟨ol, orow, osm⟩ := raw_ne n1 n2 om
        have oraw := excL_mem.mp om
        refine ⟨_, rfl, po, o, rfl, hpo, orow, by omega, fun F1 f1 => ?_⟩
        rw [raw_exc n hn o oraw]
        refine ⟨true, rfl, iteF ?_⟩
        have hpo1 := f1.sqT hpo
        refine ⟨_, rfl, newL (sz_ (by simp)) fun p2 F2 m2 f2 hp2 => ⟨_, rfl, newL (sz_ (by simp)) fun p3 F3 m3 f3 hp3 => ?_⟩⟩
        have f13 := (f1.trans f2).trans f3
        have hpo3 := (f2.trans f3).sqT hpo1
        have w7 : ∀ x : Int, -1 ≤ x ∧ x ≤ 6 → x.natAbs < 2 ^ 700 := fun x hx => Nat.lt_of_le_of_lt (by omega : x.natAbs ≤ 1000) (by decide)
        refine ⟨p2, p3, [.ref po], [o], [-1], n + 1, rfl, f3.keep _ _ (fun z => z) hp2, ⟨⟨po, rfl, hpo3⟩, trivial⟩, hp3, rfl, by simp, by simp, by omega, fun r hr => ?_, fun x hx => ?_, fun p4 F4 f4 hp4 => ?_⟩
        · cases List.mem_singleton.mp hr
          exact ⟨ol, fun x hx => w7 x (osm x hx)⟩
        · cases List.mem_singleton.mp hx
          decide
        rw [opp_sum n o ol] at hp4
        have orow2 : Row (o.map fun x => -x) := ⟨by rw [List.length_map]; exact orow.1, by rw [List.length_map]; exact orow.2.1, fun x hx => by
          obtain ⟨y, hy, rfl⟩ := List.mem_map.mp hx
          have := osm y hy
          exact sh_small (by omega) (by omega)⟩
        refine ⟨p4, _, rfl, SqT.of hp4, orow2, by rw [List.length_map]; omega, fun F5 f5 => ?_⟩
        rw [raw_opp n hn o oraw]
        refine ⟨false, rfl, iteF ?_⟩
        have f15 := (f13.trans f4).trans f5
        have hpo5 := f15.sqT hpo
        have d5 := dF.trans (.of dF.dc f15)
        refine ⟨_, rfl, listL rfl (.inr hpo5) fun p7 F7 n7 f7 hp7 => ?_⟩
        have d7 := d5.trans (.of d5.dc f7)
        refine ⟨_, rfl, _, rfl, _, _, rfl, rfl, pd, _, rfl, d7.dc, by omega, Nat.lt_of_le_of_lt (by omega : ((n : Int) + 1).natAbs ≤ 1000) (by decide), fun t F8 t0 t1 d8 => ?_⟩
        obtain ⟨t, rfl⟩ := Int.eq_ofNat_of_zero_le t0
        have ht : t < o.length := by omega
        have np7 : p7 ≠ pd := (d5.dc.ne n7).symm
        have hp8 := d8.lst np7 hp7
        refine ⟨_, rfl, _, rfl, p7, _, _, _, rfl, rfl, SqL.of hp8, at_row ht, _, _, rfl, rfl, ?_⟩
        refine ⟨_, rfl, _, rfl, p7, _, _, t, rfl, rfl, hp8, Evl.ixN_nat (by rw [List.length_map]; exact ht), ?_⟩
        have d78 := d7.trans d8
        have dF1 : DR pd F F8 := (DR.of dF.dc (f15.trans f7)).trans d8
        have hF7 : F p7 = none := f15.live _ n7
        have dF9 : DR pd F (upd F8 p7 (.lst ((o.map V.int).set t (V.int (o.getD t 0 + 1))))) := ⟨.mut0 hF7 dF1.kp, dF1.dc.upd_ne np7.symm⟩
        have hp9 : upd F8 p7 (.lst ((o.map V.int).set t (V.int (o.getD t 0 + 1)))) p7 = some (.lst ((o.set t (o.getD t 0 + 1)).map V.int)) := by
          rw [upd_same, ← List.map_set]
        generalize upd F8 p7 (.lst ((o.map V.int).set t (V.int (o.getD t 0 + 1)))) = F9 at dF9 hp9
        have hpr9 := dF9.kp.sqT hprF
        have hw9 := hwF.kp dF9.kp
        have hot : o.getD t 0 ∈ o := getD_memI ht
        generalize hs : o.set t (o.getD t 0 + 1) = so at hp9
        have sol : so.length = n + 1 := by rw [← hs, List.length_set, ol]
        have srow : Row so := ⟨by omega, by omega, fun x hx => by
          rw [← hs] at hx
          rcases List.mem_or_eq_of_mem_set hx with hx | rfl
          · exact orow.2.2 x hx
          · have := osm _ hot
            exact sh_small (by omega) (by omega)⟩
        refine ⟨_, rfl, tupL rfl (SqL.of hp9) fun q1 G1 _ g1 hq1 => ⟨q1, so, rfl, SqT.of hq1, srow, by omega, fun G2 g2 => ⟨_, rfl, tupL rfl (SqL.of ((g1.trans g2).keep _ _ (fun z => z) hp9)) fun q3 G3 _ g3 hq3 => ⟨_, rfl, rowIn hq3 (((g1.trans g2).trans g3).sqT hpr9) (hw9.kp ((g1.trans g2).trans g3)) ?_⟩⟩⟩⟩
        rw [← hs, raw_spoilt n hn o oraw t (List.mem_range.mpr (by omega)), decide_eq_false (spoilt_out hn om (by omega))]
        refine ⟨rfl, _, rfl, iteNe rfl ?_⟩
        exact ⟨_, _, _, _, _, rfl, (dF.trans dF9).trans (.of dF9.dc ((g1.trans g2).trans g3))⟩
      rintro σ F ⟨v5, v6, v7, v9, v10, rfl, dF⟩
      exact ⟨_, _, _, _, _, _, _, _, _, _, rfl, k2.trans (kp_fresh hpd k3 (d6.trans dF))⟩
    · rintro σ H2 ⟨v1, v2, v3, v4, v5, v6, v7, v8, v9, v10, rfl, k2⟩
      exact q _

end
theorem all_ok {P : Program} {w : World} {K : PySem.W.Frag} {mg : Str → Option Value} {base : Heap} (T : Txt K mg) (d_is_short : Df K mg "is_short" s_is_short ["number"]) (d_are_short : Df K mg "are_short" s_are_short ["numbers"]) (d_is_integer : Df K mg "is_integer" s_is_integer ["value"]) (d_is_from_to : Df K mg "is_from_to" s_is_from_to ["value", "least", "most"]) (d_is_row : Df K mg "is_row" s_is_row ["value"]) (d_check_many : Df K mg "check_many" s_check_many ["n", "most"]) (d_check_row : Df K mg "check_row" s_check_row ["row"]) (d_check_few : Dfd K mg "check_few" s_check_few ["row", "most"] [.int 9]) (d_short_row : Df K mg "short_row" s_short_row ["entries"]) (d_product_of : Df K mg "product_of" s_product_of ["one", "other"]) (d_product_with_cubic : Df K mg "product_with_cubic" s_product_with_cubic ["row"]) (d_moved : Df K mg "moved" s_moved ["row", "word"]) (d_check_word : Df K mg "check_word" s_check_word ["n", "word"]) (d_is_move : Df K mg "is_move" s_is_move ["n", "value"]) (d_do_move : Df K mg "do_move" s_do_move ["entries", "move"]) (d_moved_far : Df K mg "moved_far" s_moved_far ["row", "word"]) (d_is_word : Df K mg "_is_word" s_is_word ["n", "value"]) (d_is_exceptional : Df K mg "is_exceptional" s_is_exceptional ["row"]) (d_exceptional_rows : Df K mg "exceptional_rows" s_exceptional_rows ["n"]) (d_l_dice : Df K mg "_law_dice" s_l_dice ["_law_script", "_law_at"]) (d_l_roll : Df K mg "_law_roll" s_l_roll ["_law_dice_here", "_law_total"]) (d_l_mixed : Df K mg "_law_mixed" s_l_mixed ["_law_dice_here", "_law_items"]) (d_l_point_row : Df K mg "_law_point_row" s_l_point_row ["_law_n", "_law_at"]) (d_l_sum : Df K mg "_law_sum" s_l_sum ["_law_rows", "_law_numbers"]) (d_l_word : Df K mg "_law_word" s_l_word ["_law_dice_here", "_law_n", "_law_most"]) (d_l_choices : Df K mg "_law_choices" s_l_choices ["_law_items", "_law_size"]) (d_l_exceptional : Df K mg "_law_exceptional" s_l_exceptional ["_law_n"]) (d_l_searched : Df K mg "_law_searched" s_l_searched ["_law_n", "_law_degree"]) (d_l_falling : Df K mg "_law_falling" s_l_falling ["_law_row"]) {f : Addr} {fd : FuncData} (d_law : C8.Def K mg "law" s_law f fd) : FnOk P w K mg base CX0 8 f fd ["_law_script"] (sp_law K) := by
  have c_is_short := ok_is_short (P := P) (w := w) (base := base) T d_is_short 
  have c_product_of := ok_product_of (P := P) (w := w) (base := base) T d_product_of 
  have c_product_with_cubic := ok_product_with_cubic (P := P) (w := w) (base := base) T d_product_with_cubic 
  have c_do_move := ok_do_move (P := P) (w := w) (base := base) T d_do_move 
  have c_l_dice := ok_l_dice (P := P) (w := w) (base := base) T d_l_dice 
  have c_l_roll := ok_l_roll (P := P) (w := w) (base := base) T d_l_roll 
  have c_l_point_row := ok_l_point_row (P := P) (w := w) (base := base) T d_l_point_row 
  have c_l_sum := ok_l_sum (P := P) (w := w) (base := base) T d_l_sum 
  have c_l_choices := ok_l_choices (P := P) (w := w) (base := base) T d_l_choices 
  have c_l_searched := ok_l_searched (P := P) (w := w) (base := base) T d_l_searched 
  have c_l_falling := ok_l_falling (P := P) (w := w) (base := base) T d_l_falling 
  have c_are_short := ok_are_short (P := P) (w := w) (base := base) T d_are_short c_is_short
  have c_is_integer := ok_is_integer (P := P) (w := w) (base := base) T d_is_integer c_is_short
  have c_moved_far := ok_moved_far (P := P) (w := w) (base := base) T d_moved_far c_do_move
  have c_l_mixed := ok_l_mixed (P := P) (w := w) (base := base) T d_l_mixed c_l_roll
  have c_l_exceptional := ok_l_exceptional (P := P) (w := w) (base := base) T d_l_exceptional c_l_point_row c_l_choices
  have c_is_from_to := ok_is_from_to (P := P) (w := w) (base := base) T d_is_from_to c_is_integer
  have c_is_row := ok_is_row (P := P) (w := w) (base := base) T d_is_row c_is_integer
  have c_short_row := ok_short_row (P := P) (w := w) (base := base) T d_short_row c_are_short
  have c_l_word := ok_l_word (P := P) (w := w) (base := base) T d_l_word c_l_roll c_l_mixed
  have c_check_many := ok_check_many (P := P) (w := w) (base := base) T d_check_many c_is_from_to
  have c_check_row := ok_check_row (P := P) (w := w) (base := base) T d_check_row c_is_row
  have c_is_move := ok_is_move (P := P) (w := w) (base := base) T d_is_move c_is_from_to
  have c_check_few := ok_check_few (P := P) (w := w) (base := base) T d_check_few c_check_row
  have c_is_word := ok_is_word (P := P) (w := w) (base := base) T d_is_word c_is_move
  have c_exceptional_rows := ok_exceptional_rows (P := P) (w := w) (base := base) T d_exceptional_rows c_check_many
  have c_check_word := ok_check_word (P := P) (w := w) (base := base) T d_check_word c_is_word
  have c_is_exceptional := ok_is_exceptional (P := P) (w := w) (base := base) T d_is_exceptional c_check_few c_product_of c_product_with_cubic
  have c_moved := ok_moved (P := P) (w := w) (base := base) T d_moved c_check_row c_check_word c_short_row c_moved_far
  exact ok_law T d_law c_l_dice c_l_roll c_exceptional_rows c_l_exceptional c_l_mixed c_l_falling c_l_searched c_l_word c_moved c_is_exceptional c_l_sum
theorem law_end (K : PySem.W.Frag) (H : Hp) (a : Addr) (ns : List Int) (h1 : ns.length ≤ 63) (h2 : SqL K H a (ns.map V.int)) : sp_law K [.ref a] H (fun v _ => v = .bl true) fun _ _ _ => False :=
  Vf.law_end (sp := sp_law) (fun K a ns H Q E h q => ⟨a, ns, rfl, h, q⟩) K H a ns h1 h2
end K26
open PySem PySem.W PyProof.Rows in
set_option maxRecDepth 100000 in
set_option maxHeartbeats 0 in
theorem PySem.Challenge.cw_timesthrough_k26_whole_all_exceptional_r_holds : PySem.Challenge.rw_timesthrough_k26_whole_all_exceptional_r.Holds := by
  w_on; o_law; k_head; (case hw => w_witness2)
  k_fill
  refine Vf.walk_law (l := PySem.Challenge.rw_timesthrough_k26_whole_all_exceptional_r) (x := "_law_script") (k := 8) (sp := K26.sp_law) rfl rfl (fun w h Y => PySem.W.kIn_of Y) ?F (fun K H a ns h1 h2 => K26.law_end K H a ns h1 h2)
  case F =>
    intro w mg fa h KX G hmg
    refine' Vf.let_ (Vf.df_mk (x := "is_short") (st := K26.s_is_short) (ps := ["number"]) KX G ?a ?l ?c ?k (fun _ _ _ _ _ _ us hl => match us, hl with | [_], _ => rfl)) (fun d_is_short => ?_)
    (case a => k_is)
    (case l => k_is)
    (case c => k_is)
    (case k => k_is)
    refine' Vf.let_ (Vf.df_mk (x := "are_short") (st := K26.s_are_short) (ps := ["numbers"]) KX G ?a ?l ?c ?k (fun _ _ _ _ _ _ us hl => match us, hl with | [_], _ => rfl)) (fun d_are_short => ?_)
    (case a => k_is)
    (case l => k_is)
    (case c => k_is)
    (case k => k_is)
    refine' Vf.let_ (Vf.df_mk (x := "is_integer") (st := K26.s_is_integer) (ps := ["value"]) KX G ?a ?l ?c ?k (fun _ _ _ _ _ _ us hl => match us, hl with | [_], _ => rfl)) (fun d_is_integer => ?_)
    (case a => k_is)
    (case l => k_is)
    (case c => k_is)
    (case k => k_is)
    refine' Vf.let_ (Vf.df_mk (x := "is_from_to") (st := K26.s_is_from_to) (ps := ["value", "least", "most"]) KX G ?a ?l ?c ?k (fun _ _ _ _ _ _ us hl => match us, hl with | [_, _, _], _ => rfl)) (fun d_is_from_to => ?_)
    (case a => k_is)
    (case l => k_is)
    (case c => k_is)
    (case k => k_is)
    refine' Vf.let_ (Vf.df_mk (x := "is_row") (st := K26.s_is_row) (ps := ["value"]) KX G ?a ?l ?c ?k (fun _ _ _ _ _ _ us hl => match us, hl with | [_], _ => rfl)) (fun d_is_row => ?_)
    (case a => k_is)
    (case l => k_is)
    (case c => k_is)
    (case k => k_is)
    refine' Vf.let_ (Vf.df_mk (x := "check_many") (st := K26.s_check_many) (ps := ["n", "most"]) KX G ?a ?l ?c ?k (fun _ _ _ _ _ _ us hl => match us, hl with | [_, _], _ => rfl)) (fun d_check_many => ?_)
    (case a => k_is)
    (case l => k_is)
    (case c => k_is)
    (case k => k_is)
    refine' Vf.let_ (Vf.df_mk (x := "check_row") (st := K26.s_check_row) (ps := ["row"]) KX G ?a ?l ?c ?k (fun _ _ _ _ _ _ us hl => match us, hl with | [_], _ => rfl)) (fun d_check_row => ?_)
    (case a => k_is)
    (case l => k_is)
    (case c => k_is)
    (case k => k_is)
    refine' Vf.let_ (Vf.dfd_mk (x := "check_few") (st := K26.s_check_few) (ps := ["row", "most"]) (i := 9) KX G ?a ?l ?c ?k ?t ?ot (fun _ _ _ _ _ _ _ us its hl hi => match us, its, hl, hi with | [_], [_], _, _ => ⟨_, rfl, rfl⟩)) (fun d_check_few => ?_)
    (case a => k_is)
    (case l => k_is)
    (case c => k_is)
    (case k => k_is)
    (case t => k_is)
    (case ot => rfl)
    refine' Vf.let_ (Vf.df_mk (x := "short_row") (st := K26.s_short_row) (ps := ["entries"]) KX G ?a ?l ?c ?k (fun _ _ _ _ _ _ us hl => match us, hl with | [_], _ => rfl)) (fun d_short_row => ?_)
    (case a => k_is)
    (case l => k_is)
    (case c => k_is)
    (case k => k_is)
    refine' Vf.let_ (Vf.df_mk (x := "product_of") (st := K26.s_product_of) (ps := ["one", "other"]) KX G ?a ?l ?c ?k (fun _ _ _ _ _ _ us hl => match us, hl with | [_, _], _ => rfl)) (fun d_product_of => ?_)
    (case a => k_is)
    (case l => k_is)
    (case c => k_is)
    (case k => k_is)
    refine' Vf.let_ (Vf.df_mk (x := "product_with_cubic") (st := K26.s_product_with_cubic) (ps := ["row"]) KX G ?a ?l ?c ?k (fun _ _ _ _ _ _ us hl => match us, hl with | [_], _ => rfl)) (fun d_product_with_cubic => ?_)
    (case a => k_is)
    (case l => k_is)
    (case c => k_is)
    (case k => k_is)
    refine' Vf.let_ (Vf.df_mk (x := "moved") (st := K26.s_moved) (ps := ["row", "word"]) KX G ?a ?l ?c ?k (fun _ _ _ _ _ _ us hl => match us, hl with | [_, _], _ => rfl)) (fun d_moved => ?_)
    (case a => k_is)
    (case l => k_is)
    (case c => k_is)
    (case k => k_is)
    refine' Vf.let_ (Vf.df_mk (x := "check_word") (st := K26.s_check_word) (ps := ["n", "word"]) KX G ?a ?l ?c ?k (fun _ _ _ _ _ _ us hl => match us, hl with | [_, _], _ => rfl)) (fun d_check_word => ?_)
    (case a => k_is)
    (case l => k_is)
    (case c => k_is)
    (case k => k_is)
    refine' Vf.let_ (Vf.df_mk (x := "is_move") (st := K26.s_is_move) (ps := ["n", "value"]) KX G ?a ?l ?c ?k (fun _ _ _ _ _ _ us hl => match us, hl with | [_, _], _ => rfl)) (fun d_is_move => ?_)
    (case a => k_is)
    (case l => k_is)
    (case c => k_is)
    (case k => k_is)
    refine' Vf.let_ (Vf.df_mk (x := "do_move") (st := K26.s_do_move) (ps := ["entries", "move"]) KX G ?a ?l ?c ?k (fun _ _ _ _ _ _ us hl => match us, hl with | [_, _], _ => rfl)) (fun d_do_move => ?_)
    (case a => k_is)
    (case l => k_is)
    (case c => k_is)
    (case k => k_is)
    refine' Vf.let_ (Vf.df_mk (x := "moved_far") (st := K26.s_moved_far) (ps := ["row", "word"]) KX G ?a ?l ?c ?k (fun _ _ _ _ _ _ us hl => match us, hl with | [_, _], _ => rfl)) (fun d_moved_far => ?_)
    (case a => k_is)
    (case l => k_is)
    (case c => k_is)
    (case k => k_is)
    refine' Vf.let_ (Vf.df_mk (x := "_is_word") (st := K26.s_is_word) (ps := ["n", "value"]) KX G ?a ?l ?c ?k (fun _ _ _ _ _ _ us hl => match us, hl with | [_, _], _ => rfl)) (fun d_is_word => ?_)
    (case a => k_is)
    (case l => k_is)
    (case c => k_is)
    (case k => k_is)
    refine' Vf.let_ (Vf.df_mk (x := "is_exceptional") (st := K26.s_is_exceptional) (ps := ["row"]) KX G ?a ?l ?c ?k (fun _ _ _ _ _ _ us hl => match us, hl with | [_], _ => rfl)) (fun d_is_exceptional => ?_)
    (case a => k_is)
    (case l => k_is)
    (case c => k_is)
    (case k => k_is)
    refine' Vf.let_ (Vf.df_mk (x := "exceptional_rows") (st := K26.s_exceptional_rows) (ps := ["n"]) KX G ?a ?l ?c ?k (fun _ _ _ _ _ _ us hl => match us, hl with | [_], _ => rfl)) (fun d_exceptional_rows => ?_)
    (case a => k_is)
    (case l => k_is)
    (case c => k_is)
    (case k => k_is)
    refine' Vf.let_ (Vf.df_mk (x := "_law_dice") (st := K26.s_l_dice) (ps := ["_law_script", "_law_at"]) KX G ?a ?l ?c ?k (fun _ _ _ _ _ _ us hl => match us, hl with | [_, _], _ => rfl)) (fun d_l_dice => ?_)
    (case a => k_is)
    (case l => k_is)
    (case c => k_is)
    (case k => k_is)
    refine' Vf.let_ (Vf.df_mk (x := "_law_roll") (st := K26.s_l_roll) (ps := ["_law_dice_here", "_law_total"]) KX G ?a ?l ?c ?k (fun _ _ _ _ _ _ us hl => match us, hl with | [_, _], _ => rfl)) (fun d_l_roll => ?_)
    (case a => k_is)
    (case l => k_is)
    (case c => k_is)
    (case k => k_is)
    refine' Vf.let_ (Vf.df_mk (x := "_law_mixed") (st := K26.s_l_mixed) (ps := ["_law_dice_here", "_law_items"]) KX G ?a ?l ?c ?k (fun _ _ _ _ _ _ us hl => match us, hl with | [_, _], _ => rfl)) (fun d_l_mixed => ?_)
    (case a => k_is)
    (case l => k_is)
    (case c => k_is)
    (case k => k_is)
    refine' Vf.let_ (Vf.df_mk (x := "_law_point_row") (st := K26.s_l_point_row) (ps := ["_law_n", "_law_at"]) KX G ?a ?l ?c ?k (fun _ _ _ _ _ _ us hl => match us, hl with | [_, _], _ => rfl)) (fun d_l_point_row => ?_)
    (case a => k_is)
    (case l => k_is)
    (case c => k_is)
    (case k => k_is)
    refine' Vf.let_ (Vf.df_mk (x := "_law_sum") (st := K26.s_l_sum) (ps := ["_law_rows", "_law_numbers"]) KX G ?a ?l ?c ?k (fun _ _ _ _ _ _ us hl => match us, hl with | [_, _], _ => rfl)) (fun d_l_sum => ?_)
    (case a => k_is)
    (case l => k_is)
    (case c => k_is)
    (case k => k_is)
    refine' Vf.let_ (Vf.df_mk (x := "_law_word") (st := K26.s_l_word) (ps := ["_law_dice_here", "_law_n", "_law_most"]) KX G ?a ?l ?c ?k (fun _ _ _ _ _ _ us hl => match us, hl with | [_, _, _], _ => rfl)) (fun d_l_word => ?_)
    (case a => k_is)
    (case l => k_is)
    (case c => k_is)
    (case k => k_is)
    refine' Vf.let_ (Vf.df_mk (x := "_law_choices") (st := K26.s_l_choices) (ps := ["_law_items", "_law_size"]) KX G ?a ?l ?c ?k (fun _ _ _ _ _ _ us hl => match us, hl with | [_, _], _ => rfl)) (fun d_l_choices => ?_)
    (case a => k_is)
    (case l => k_is)
    (case c => k_is)
    (case k => k_is)
    refine' Vf.let_ (Vf.df_mk (x := "_law_exceptional") (st := K26.s_l_exceptional) (ps := ["_law_n"]) KX G ?a ?l ?c ?k (fun _ _ _ _ _ _ us hl => match us, hl with | [_], _ => rfl)) (fun d_l_exceptional => ?_)
    (case a => k_is)
    (case l => k_is)
    (case c => k_is)
    (case k => k_is)
    refine' Vf.let_ (Vf.df_mk (x := "_law_searched") (st := K26.s_l_searched) (ps := ["_law_n", "_law_degree"]) KX G ?a ?l ?c ?k (fun _ _ _ _ _ _ us hl => match us, hl with | [_, _], _ => rfl)) (fun d_l_searched => ?_)
    (case a => k_is)
    (case l => k_is)
    (case c => k_is)
    (case k => k_is)
    refine' Vf.let_ (Vf.df_mk (x := "_law_falling") (st := K26.s_l_falling) (ps := ["_law_row"]) KX G ?a ?l ?c ?k (fun _ _ _ _ _ _ us hl => match us, hl with | [_], _ => rfl)) (fun d_l_falling => ?_)
    (case a => k_is)
    (case l => k_is)
    (case c => k_is)
    (case k => k_is)
    refine' Vf.let_ (Vf.df_mk (x := "law") (st := K26.s_law) (ps := ["_law_script"]) KX G ?a ?l ?c ?k (fun _ _ _ _ _ _ us hl => match us, hl with | [_], _ => rfl)) (fun d_law => ?_)
    (case a => k_is)
    (case l => k_is)
    (case c => k_is)
    (case k => k_is)
    refine' Vf.let_ (show mg "abs" = none from PySem.W.mg_none_of KX G ?z) (fun b_abs => ?_)
    (case z => k_is)
    refine' Vf.let_ (show mg "all" = none from PySem.W.mg_none_of KX G ?z) (fun b_all => ?_)
    (case z => k_is)
    refine' Vf.let_ (show mg "bool" = none from PySem.W.mg_none_of KX G ?z) (fun b_bool => ?_)
    (case z => k_is)
    refine' Vf.let_ (show mg "int" = none from PySem.W.mg_none_of KX G ?z) (fun b_int => ?_)
    (case z => k_is)
    refine' Vf.let_ (show mg "isinstance" = none from PySem.W.mg_none_of KX G ?z) (fun b_isinstance => ?_)
    (case z => k_is)
    refine' Vf.let_ (show mg "len" = none from PySem.W.mg_none_of KX G ?z) (fun b_len => ?_)
    (case z => k_is)
    refine' Vf.let_ (show mg "list" = none from PySem.W.mg_none_of KX G ?z) (fun b_list => ?_)
    (case z => k_is)
    refine' Vf.let_ (show mg "max" = none from PySem.W.mg_none_of KX G ?z) (fun b_max => ?_)
    (case z => k_is)
    refine' Vf.let_ (show mg "min" = none from PySem.W.mg_none_of KX G ?z) (fun b_min => ?_)
    (case z => k_is)
    refine' Vf.let_ (show mg "range" = none from PySem.W.mg_none_of KX G ?z) (fun b_range => ?_)
    (case z => k_is)
    refine' Vf.let_ (show mg "set" = none from PySem.W.mg_none_of KX G ?z) (fun b_set => ?_)
    (case z => k_is)
    refine' Vf.let_ (show mg "sorted" = none from PySem.W.mg_none_of KX G ?z) (fun b_sorted => ?_)
    (case z => k_is)
    refine' Vf.let_ (show mg "sum" = none from PySem.W.mg_none_of KX G ?z) (fun b_sum => ?_)
    (case z => k_is)
    refine' Vf.let_ (show mg "tuple" = none from PySem.W.mg_none_of KX G ?z) (fun b_tuple => ?_)
    (case z => k_is)
    refine' Vf.let_ (show mg "zip" = none from PySem.W.mg_none_of KX G ?z) (fun b_zip => ?_)
    (case z => k_is)
    refine' Vf.let_ (show ∃ u, mg "FINITE_POINTS" = some u ∧ L2.RelV (.int 8) u from Vf.const_mk KX G ?z) (fun c_FINITE_POINTS => ?_)
    (case z => k_is)
    refine' Vf.let_ (show ∃ u, mg "LEAST_POINTS" = some u ∧ L2.RelV (.int 3) u from Vf.const_mk KX G ?z) (fun c_LEAST_POINTS => ?_)
    (case z => k_is)
    refine' Vf.let_ (show ∃ u, mg "MAX_WORD" = some u ∧ L2.RelV (.int 2000) u from Vf.const_mk KX G ?z) (fun c_MAX_WORD => ?_)
    (case z => k_is)
    refine' Vf.let_ (show ∃ u, mg "MOST_POINTS" = some u ∧ L2.RelV (.int 16) u from Vf.const_mk KX G ?z) (fun c_MOST_POINTS => ?_)
    (case z => k_is)
    refine' Vf.let_ (show ∃ u, mg "_TOO_LONG" = some u ∧ L2.RelV (.int 100000000000000000000000000000000000000000000000000000000000000000000000000000000000000000000000000000000000000000000000000000000000000000000000000000000000000000000000000000000000000000000000000000000) u from Vf.const_mk KX G ?z) (fun c_TOO_LONG => ?_)
    (case z => k_is)
    refine' Vf.let_ (Vf.ktb_mk (x := "EXCEPTIONAL") (rows := Vf.exc8) KX G ?kz ?kc) (fun k_EXCEPTIONAL => ?_)
    (case kz => k_is)
    (case kc => kernel_rfl)
    exact Vf.law_ok hmg d_law fun base _ _ D => K26.all_ok (P := PySem.Challenge.rw_timesthrough_k26_whole_all_exceptional_r.prog) ⟨b_abs, b_all, b_bool, b_int, b_isinstance, b_len, b_list, b_max, b_min, b_range, b_set, b_sorted, b_sum, b_tuple, b_zip, c_FINITE_POINTS, c_LEAST_POINTS, c_MAX_WORD, c_MOST_POINTS, c_TOO_LONG, k_EXCEPTIONAL⟩ d_is_short d_are_short d_is_integer d_is_from_to d_is_row d_check_many d_check_row d_check_few d_short_row d_product_of d_product_with_cubic d_moved d_check_word d_is_move d_do_move d_moved_far d_is_word d_is_exceptional d_exceptional_rows d_l_dice d_l_roll d_l_mixed d_l_point_row d_l_sum d_l_word d_l_choices d_l_exceptional d_l_searched d_l_falling D
