import PyProof.Rows.All
import Wide.All
import OpenK.AllK
import Wide.FinOn
import HandS.ForMost
import HandS.Codes
import HandS.TupAny
import HandS.TupMul
import HandS.Zip
import HandS.Walk
import HandS.Conv
import HandS.IsInst
import HandS.Wide
import HandS.WideBits
import HandS.Rev
import HandS.RevTup
import HandS.Style
import HandS.Defaults
import HandS.SetFor
import HandS.Strs
import HandS.TryOnly
import HandS.SortKw
import HandS.NamedTupSort
import HandS.Evl
import KE.GoesNew
import KE.GoesMore
import PySem.Challenge.RW_timesthrough_k46_whole_words_that_lead_o
set_option Elab.async false
set_option linter.all false
set_option maxRecDepth 100000
set_option maxHeartbeats 4000000
/-! ## Prelude: rules and heap words that the proofs share -/
namespace L2
open PySem PySem.Spec PyProof.Rows
section
variable {X : Cx}
def CPowW (i j : Int) : Prop := 0 ≤ j ∧ (Builtin.Int.intBits i : Int) * j ≤ 2 ^ 27
def CMulE (i j : Int) : Prop := CMul i j ∨ CMulW i j
theorem op_mulE : OpR X (binaryOp .Mult) (rI CMulE fun i j => .int (i * j)) := opI fun _ _ _ _ _ _ _ hc q => by
  rcases hc with h | h
  · exact mul_int q h.ok
  · exact mul_int q h.ok
theorem wmul {i j : Int} {a b : Nat} (ha : i.natAbs < 2 ^ a) (hb : j.natAbs < 2 ^ b) (h0 : 0 < a) (h1 : 0 < b) (h : a + b ≤ 1000000) : CMulE i j := .inr (wide_mul ha hb h0 h1 h)
theorem mulX_left {i j : Int} (h : -(2 ^ 64) < i ∧ i < 2 ^ 64) : CMulE i j := .inl (.inl h)
theorem mulX_right {i j : Int} (h : -(2 ^ 64) < j ∧ j < 2 ^ 64) : CMulE i j := .inl (.inr h)
theorem op_powW : OpR X (binaryOp .Pow) (rI CPowW fun i j => .int (i ^ j.toNat)) := opI fun _ _ _ _ _ _ _ hc q => pow_int hc.1 hc.2 q
end
end L2
namespace C8b
open PySem L2
theorem blk {N : List Str} {sc scope : Scope} {own : List (Str × Nat)} (h : blkC N sc scope own = true) : BlkOk N sc scope own := blkOk_by h
end C8b
namespace PySem
section
variable {prog : Program} {w : World} {A : Around} {E : Value → Shared → Prop} {s : Shared} {l : Addr} {xs : Array (Int × Tok)}
abbrev iterOf (l : Addr) : Obj := { cls := .type "tuple_iterator", data := .fields #[.ref l, .int 0 0] }
theorem vf_iterT {Q : Value → Shared → Prop} (hl : s.heap.IsTuple l (intItems xs))
    (h : ∀ s₂ : Shared, s₂ = { s with heap := s.heap.push (iterOf l) } →
      (s₂.heap.IsTupleIter s.heap.objs.size l 0 ∧ s₂.heap.IsTuple l (intItems xs)) → (∀ b ∈ [s.heap.objs.size, l], b < s₂.heap.objs.size) → l ≠ s.heap.objs.size → Q (.ref s.heap.objs.size) s₂) :
    wpAny (model prog w) A (pyIter (.ref l)) Q E s := by
  have below : l < s.heap.objs.size := hl.elim fun _ got => Heap.lt_size got.1
  have both : ∀ b ∈ [s.heap.objs.size, l], b < (s.heap.push (iterOf l)).objs.size := by
    rw [Heap.size_push]
    exact List.forall_mem_cons.mpr ⟨Nat.lt_succ_self _, List.forall_mem_singleton.mpr (Nat.lt_succ_of_lt below)⟩
  exact wpAny_pyIter_tuple hl (h _ rfl ⟨⟨_, Heap.get?_push_size _ rfl, rfl, rfl⟩, PyProof.Rows.IsTup.push hl _⟩ both (Nat.ne_of_lt below))
theorem vf_old {h' : Heap} (hk : ∀ b o, b ∉ [s.heap.objs.size] → (s.heap.push (iterOf l)).get? b = some o → h'.get? b = some o) : ∀ b o, s.heap.get? b = some o → h'.get? b = some o := fun b o e =>
  hk b o (fun m => Nat.lt_irrefl _ (List.mem_singleton.mp m ▸ Heap.lt_size e)) (Heap.get?_push_of_some _ e)
end
theorem numbers_at {xs : Array (Int × Tok)} {i : Nat} (h : i < xs.size) : numAt xs i ∈ xs.toList.map Prod.fst := by
  rw [numAt_eq]
  exact PySem.getD_mem (by simpa using h)
theorem numbers_all {xs : Array (Int × Tok)} {p : Int → Prop} (h : ∀ i, i < xs.size → p (numAt xs i)) : ∀ y ∈ xs.toList.map Prod.fst, p y := fun y m => by
  obtain ⟨i, hi, rfl⟩ := mem_getD m
  have := h i (by simpa using hi)
  rwa [numAt_eq] at this
end PySem
namespace L2
open PySem PySem.Spec PyProof.Rows
section
variable {X : Cx}
def rSumT (K : PySem.W.Frag) : List V → Hp → VK → Prop := fun vs H Q => ∃ (a : Addr) (ns : List Int), vs = [V.ref a] ∧ SqT K H a (ns.map V.int) ∧ Q (.int ns.sum) H
def rMinT (K : PySem.W.Frag) : List V → Hp → VK → Prop := fun vs H Q => ∃ (a : Addr) (ns : List Int), vs = [V.ref a] ∧ SqT K H a (ns.map V.int) ∧ 0 < ns.length ∧ ∀ m, m ∈ ns → (∀ y, y ∈ ns → m ≤ y) → Q (.int m) H
def rMaxT (K : PySem.W.Frag) : List V → Hp → VK → Prop := fun vs H Q => ∃ (a : Addr) (ns : List Int), vs = [V.ref a] ∧ SqT K H a (ns.map V.int) ∧ 0 < ns.length ∧ ∀ m, m ∈ ns → (∀ y, y ∈ ns → y ≤ m) → Q (.int m) H
theorem numbersOf {pins : List (Addr × Obj)} {σ : L2.St} {H : Hp} {s : Shared} {a : Addr} {ns : List Int} (I : Inv X pins σ H s) (isT : SqT X.K H a (ns.map V.int)) : ∃ xs : Array (Int × Tok), s.heap.IsTuple a (intItems xs) ∧ xs.toList.map Prod.fst = ns := by
  have ⟨vs, rel, here, _⟩ := I.tuple isT
  have ⟨xs, same⟩ := rel.ints.allInts.items
  rw [same] at here
  exact ⟨xs, here, by rw [← nums_intItems, ← same]; exact rel.ints.numsOf⟩
theorem cr_sumT (hc : X.calm = true) : CallR X (.builtin "sum") (rSumT X.K) := fun pins s σ H _ _ Q I rel ⟨a, ns, e, isT, q⟩ => by
  subst e
  rw [Vals.ref1 rel]
  obtain ⟨xs, here, rfl⟩ := numbersOf I isT
  refine call_sum_walkG (vf_iterT here fun s2 e st fp more => ?_)
  subst e
  refine ⟨_, _, _, _, _, _, numAt xs, rfl, Walks.tuple (A := X.A.in1) (I.ok.hd hc) _ a more (intItems xs), st, fp, (fun _ _ => intItems_at), fun h' tk t' old => ?_⟩
  refine ⟨.int _, H, I.kept (vf_old old), ⟨_, rfl⟩, ?_⟩
  rw [show (intItems xs).size = xs.size by simp [intItems], preSum_eq, List.take_of_length_le (by simp)]
  exact q
theorem cr_minT (hc : X.calm = true) : CallR X (.builtin "min") (rMinT X.K) := fun pins s σ H _ _ Q I rel ⟨a, ns, e, isT, some_, best⟩ => by
  subst e
  rw [Vals.ref1 rel]
  obtain ⟨xs, here, rfl⟩ := numbersOf I isT
  have size : 0 < xs.size := by simpa using some_
  refine call_min_walk (vf_iterT here fun s2 e st fp more => ?_)
  subst e
  refine ⟨_, _, _, _, _, _, _, rfl, Walks.tuple (A := X.A.in1) (I.ok.hd hc) _ a more (intItems xs), st, fp, by simpa [intItems] using size, CmpOf.ints_lt (numAt xs) (fun _ _ => intItems_at), fun v h' tk it old => ?_⟩
  obtain ⟨t, rfl⟩ := intItems_at it
  rw [show (intItems xs).size = xs.size by simp [intItems]]
  have ⟨low, all⟩ := argBest_lt (numAt xs) (xs.size - 1)
  exact ⟨.int _, H, I.kept (vf_old old), ⟨_, rfl⟩, best _ (numbers_at (by omega)) (numbers_all fun j _ => all j (by omega))⟩
theorem cr_maxT (hc : X.calm = true) : CallR X (.builtin "max") (rMaxT X.K) := fun pins s σ H _ _ Q I rel ⟨a, ns, e, isT, some_, best⟩ => by
  subst e
  rw [Vals.ref1 rel]
  obtain ⟨xs, here, rfl⟩ := numbersOf I isT
  have size : 0 < xs.size := by simpa using some_
  refine call_max_walk (vf_iterT here fun s2 e st fp more => ?_)
  subst e
  refine ⟨_, _, _, _, _, _, _, rfl, Walks.tuple (A := X.A.in1) (I.ok.hd hc) _ a more (intItems xs), st, fp, by simpa [intItems] using size, CmpOf.ints_gt (numAt xs) (fun _ _ => intItems_at), fun v h' tk it old => ?_⟩
  obtain ⟨t, rfl⟩ := intItems_at it
  rw [show (intItems xs).size = xs.size by simp [intItems]]
  have ⟨low, all⟩ := argBest_gt (numAt xs) (xs.size - 1)
  exact ⟨.int _, H, I.kept (vf_old old), ⟨_, rfl⟩, best _ (numbers_at (by omega)) (numbers_all fun j _ => all j (by omega))⟩
end
end L2
/-! ### heaps -/
namespace Vf
open PySem PySem.Spec PyProof.Rows L2
/-- all but the objects at S stand as they stood; tuples and locked things always do -/
structure Kp (S : Addr → Prop) (H H' : Hp) : Prop where
  keep : ∀ p o, ¬ S p → H p = some o → H' p = some o
  tup : ∀ p xs, H p = some (.tup xs) → H' p = some (.tup xs)
  frz : ∀ p o u, H p = some (.frz o u) → H' p = some (.frz o u)
  live : ∀ p, H' p = none → H p = none
abbrev N0 : Addr → Prop := fun _ => False
abbrev At (a : Addr) : Addr → Prop := fun p => p = a
section
variable {S S' : Addr → Prop} {H H1 H2 H' : Hp} {p l : Addr} {o : HO} {K : PySem.W.Frag} {xs ys : List V}
theorem Kp.refl (S : Addr → Prop) (H : Hp) : Kp S H H := ⟨fun _ _ _ h => h, fun _ _ h => h, fun _ _ _ h => h, fun _ h => h⟩
theorem Kp.trans (a : Kp S H H1) (b : Kp S H1 H2) : Kp S H H2 := ⟨fun p o n h => b.keep p o n (a.keep p o n h), fun p xs h => b.tup p xs (a.tup p xs h), fun p o u h => b.frz p o u (a.frz p o u h), fun p h => a.live p (b.live p h)⟩
theorem Kp.mono (a : Kp S H H1) (h : ∀ p, S p → S' p) : Kp S' H H1 := ⟨fun p o n => a.keep p o fun z => n (h p z), a.tup, a.frz, a.live⟩
theorem Kp.up (a : Kp N0 H H1) : Kp S H H1 := a.mono fun _ z => z.elim
theorem Kp.same (a : Kp N0 H H1) : Same H H1 := fun p o h => a.keep p o (fun z => z) h
theorem Kp.of_same (a : Same H H1) : Kp S H H1 := ⟨fun p o _ h => a p o h, fun p _ h => a p _ h, fun p _ _ h => a p _ h, fun _ h => a.free h⟩
theorem same_new (h : H p = none) : Same H (upd H p o) := fun b x e => by
  rw [upd_ne (ne_of_none e h)]
  exact e
theorem Kp.new (h : H p = none) : Kp S H (upd H p o) := .of_same (same_new h)
theorem Kp.sqT (a : Kp S H H1) (h : SqT K H p xs) : SqT K H1 p xs := by
  rcases h with (h | ⟨o, h⟩) | h
  · exact .inl (.inl (a.tup _ _ h))
  · exact .inl (.inr ⟨o, a.frz _ _ _ h⟩)
  · exact .inr h
/-- a list that stood before and may change -/
theorem Kp.mut (hs : S l) (h : H l = some (.lst xs)) : Kp S H (upd H l (.lst ys)) := by
  have hl : ∀ b u, H b = some u → (∀ zs, u ≠ .lst zs) → b ≠ l := fun b u e n z => by
    rw [z, h] at e
    exact n xs (Option.some.inj e).symm
  refine ⟨fun b u n e => ?_, fun b zs e => ?_, fun b u z e => ?_, fun b e => ?_⟩
  · rw [upd_ne (fun z => n (by rw [z]; exact hs))]
    exact e
  · rw [upd_ne (hl b _ e fun _ z => by cases z)]
    exact e
  · rw [upd_ne (hl b _ e fun _ z => by cases z)]
    exact e
  · by_cases z : b = l
    · rw [z, upd_same] at e
      cases e
    · rw [upd_ne z] at e
      exact e
/-- an object that H did not know may change -/
theorem Kp.mut0 (h0 : H l = none) (k : Kp S H H1) : Kp S H (upd H1 l o) := by
  have hl : ∀ b u, H b = some u → b ≠ l := fun b u e => ne_of_none e h0
  refine ⟨fun b u n e => ?_, fun b zs e => ?_, fun b u z e => ?_, fun b e => ?_⟩
  · rw [upd_ne (hl b _ e)]
    exact k.keep _ _ n e
  · rw [upd_ne (hl b _ e)]
    exact k.tup _ _ e
  · rw [upd_ne (hl b _ e)]
    exact k.frz _ _ _ e
  · by_cases z : b = l
    · rw [z, upd_same] at e
      cases e
    · rw [upd_ne z] at e
      exact k.live _ e
/-- the dice at a: a list of three ints -/
def Dc (a : Addr) (H : Hp) : Prop := ∃ l m c : Int, H a = some (.lst [.int l, .int m, .int c])
theorem Dc.kp (d : Dc a H) (k : Kp N0 H H') : Dc a H' := by
  obtain ⟨l, m, c, h⟩ := d
  exact ⟨l, m, c, k.keep _ _ (fun z => z) h⟩
theorem Dc.upd_ne (d : Dc a H) (h : a ≠ p) : Dc a (upd H p o) := by
  obtain ⟨l, m, c, e⟩ := d
  exact ⟨l, m, c, by rw [L2.upd_ne h]; exact e⟩
theorem Dc.ne (d : Dc a H) (h : H p = none) : a ≠ p := by
  obtain ⟨l, m, c, e⟩ := d
  exact ne_of_none e h
/-- .. changes alone -/
structure DR (a : Addr) (H H' : Hp) : Prop where
  kp : Kp (At a) H H'
  dc : Dc a H'
theorem DR.refl (d : Dc a H) : DR a H H := ⟨.refl _ _, d⟩
theorem DR.trans (x : DR a H H1) (y : DR a H1 H2) : DR a H H2 := ⟨x.kp.trans y.kp, y.dc⟩
theorem DR.of (d : Dc a H) (k : Kp N0 H H1) : DR a H H1 := ⟨k.up, d.kp k⟩
theorem DR.sqT (x : DR a H H1) (h : SqT K H p xs) : SqT K H1 p xs := x.kp.sqT h
theorem DR.lst (x : DR a H H1) (n : p ≠ a) (h : H p = some (.lst xs)) : H1 p = some (.lst xs) := x.kp.keep _ _ n h
theorem rd_new {Q : VK} (h : ∀ p H1, H p = none → Kp N0 H H1 → H1 p = some o → Q (.ref p) H1) : ∀ p, H p = none → Q (.ref p) (upd H p o) := fun p hp => h p _ hp (.new hp) upd_same
end

/-! ### comprehensions -/
section
variable {J : It} {n : Nat} {Gw : Hp → Prop} {Y : Nat → Hp → V → Hp → Prop} {S : Addr → Prop} {g : TG} {tt : TT} {te : TE} {vs : List Nat} {σ : L2.St} {H1 : Hp} {Qd : Addr → Hp → Prop}
/-- G: what stands all the while (beside what Kp says); P: what is said of the i-th item -/
theorem lc_gen (w : Walk J n Gw Y) (G : Hp → Prop) (P : Nat → V → Hp → Prop) (hn : n < sizeLine)
    (hG : G H1) (hGn : ∀ H D o, H1 D = none → G H → G (upd H D o)) (hw : ∀ H, Kp S H1 H → G H → Gw H)
    (hP : ∀ i y H H', P i y H → Kp S H H' → P i y H') (hPn : ∀ i y H D zs zs', H1 D = none → H D = some (.lst zs) → P i y H → P i y (upd H D (.lst zs')))
    (hD : ∀ D, H1 D = none → ¬ S D)
    (turn : ∀ i x H H', i < n → Kp S H1 H → G H → Y i H x H' → ∀ R : VK, (∀ y H4, Kp S H H4 → G H4 → P i y H4 → R y H4) → g x (wipe σ vs) H' fun σ2 H2 => wipe σ2 vs = wipe σ vs ∧ te σ2 H2 R)
    (fin : ∀ D H' ys, H1 D = none → Kp S H1 H' → G H' → H' D = some (.lst ys) → ys.length = n → (∀ i y, ys[i]? = some y → P i y H') → Qd D H') :
    ∀ D, H1 D = none → ∃ W : Nat → Nat → Hp → Prop, (∃ m, W 0 m (upd H1 D (.lst []))) ∧ ∀ i m H, W i m H →
      (J.stop i H ∧ Qd D H) ∨ (J.go i H ∧ ∃ Nx : Hp → Prop, (∀ H', Nx H' → ∃ m', m' < m ∧ W (i + 1) m' H') ∧ ∀ x H', J.yld i H x H' → g x (wipe σ vs) H' fun σ2 H2 => wipe σ2 vs = wipe σ vs ∧ tYes σ2 H2 fun b H3 =>
        if b = true then te σ2 H3 fun y H4 => ∃ acc, H4 D = some (.lst acc) ∧ acc.length < sizeLine ∧ Nx (upd H4 D (.lst (acc ++ [y]))) else Nx H3) := by
  intro D hDn
  refine ⟨fun i m H => m = n - i ∧ i ≤ n ∧ Kp S H1 H ∧ G H ∧ ∃ ys, H D = some (.lst ys) ∧ ys.length = i ∧ ∀ j y, ys[j]? = some y → P j y H, ⟨n, by simp, Nat.zero_le _, .new hDn, hGn _ _ _ hDn hG, [], upd_same, rfl, fun j y h => by simp at h⟩, ?_⟩
  rintro i m H ⟨rfl, hi, k, g0, ys, hy, hl, hp⟩
  have q := hw H k g0
  by_cases hlt : i < n
  · refine .inr ⟨w.goes i H hlt q, fun H' => Kp S H1 H' ∧ G H' ∧ ∃ ys, H' D = some (.lst ys) ∧ ys.length = i + 1 ∧ ∀ j y, ys[j]? = some y → P j y H', fun H' p' => ⟨n - (i + 1), by omega, rfl, hlt, p'⟩, fun x H' y => ?_⟩
    exact turn i x H H' hlt k g0 (w.yields i H x H' hlt q y) _ fun z H4 k4 g4 p4 => by
      have hd4 : H4 D = some (.lst ys) := k4.keep _ _ (hD D hDn) hy
      refine ⟨ys, hd4, by omega, .mut0 hDn (k.trans k4), hGn _ _ _ hDn g4, ys ++ [z], upd_same, by simp [hl], fun j u hu => ?_⟩
      by_cases hj : j < ys.length
      · rw [List.getElem?_append_left hj] at hu
        exact hPn _ _ _ _ _ _ hDn hd4 (hP _ _ _ _ (hp j u hu) k4)
      · rw [List.getElem?_append_right (by omega)] at hu
        have e : j = i := by
          have : j - ys.length < [z].length := (List.getElem?_eq_some_iff.mp hu).1
          simp at this
          omega
        subst e
        rw [hl, Nat.sub_self] at hu
        have e2 : z = u := Option.some.inj hu
        subst e2
        exact hPn _ _ _ _ _ _ hDn hd4 p4
  · have e : i = n := by omega
    subst e
    exact .inl ⟨w.stops H q, fin D H ys hDn k g0 hy hl hp⟩
end
end Vf
/-! ### single readings -/
namespace Vf
open PySem PySem.Spec PyProof.Rows L2
section
variable {S : Addr → Prop} {H H1 : Hp} {a b p l : Addr} {K : PySem.W.Frag} {xs ys : List V} {Q : VK} {lo hi : Option Int} {v : V} {i : Int}
theorem sl_do (h : H a = some (.tup xs)) (q : ∀ p H1, Kp N0 H H1 → H1 p = some (.tup (cutV xs lo hi)) → Q (.ref p) H1) : rSlA K (.ref a) lo hi H Q := by
  refine ⟨a, xs, rfl, SqT.of h, fun w => q a H (.refl _ _) ?_, fun _ => rd_new fun p H1 _ e h1 => q p H1 e h1⟩
  rw [h]
  unfold cutV
  rw [w.1, w.2]
  simp
theorem sl_from {σ : L2.St} (h : H a = some (.tup xs)) (q : ∀ p H1, Kp N0 H H1 → H1 p = some (.tup (cutV xs lo none)) → Q (.ref p) H1) : tNoPart σ H fun u H2 => rSlA K (.ref a) lo u H2 Q := sl_do h q
theorem cat_do (h : H a = some (.tup xs)) (h2 : H b = some (.tup ys)) (hz : xs.length + ys.length ≤ sizeLine) (q : ∀ p H1, Kp N0 H H1 → H1 p = some (.tup (xs ++ ys)) → Q (.ref p) H1) : rCatA K (.ref a) (.ref b) H Q := by
  refine ⟨a, b, xs, ys, rfl, rfl, SqT.of h, SqT.of h2, hz, fun w => q b H (.refl _ _) ?_, fun _ w => q a H (.refl _ _) ?_, fun _ _ => rd_new fun p H1 _ e h1 => q p H1 e h1⟩
  · rw [h2, w]; rfl
  · rw [h, w]; simp
theorem ixT_do (h : H a = some (.tup xs)) (hv : atI xs i = some v) (q : Q v H) : rIxT K (.ref a) (.int i) H Q := ⟨a, xs, i, v, rfl, rfl, SqT.of h, hv, q⟩
theorem ixL_do (h : SqL K H a xs) (hv : atI xs i = some v) (q : Q v H) : rIxL K (.ref a) (.int i) H Q := ⟨a, xs, i, v, rfl, rfl, h, hv, q⟩
theorem at_row {ns : List Int} {j : Nat} (h : j < ns.length) : atI (ns.map V.int) (j : Int) = some (.int (ns.getD j 0)) := by
  refine atI_nat ?_
  rw [List.getElem?_map, List.getElem?_eq_getElem h, List.getD_eq_getElem?_getD, List.getElem?_eq_getElem h]
  rfl
theorem at_row0 {ns : List Int} (h : 0 < ns.length) : atI (ns.map V.int) 0 = some (.int (ns.getD 0 0)) := at_row (j := 0) h
theorem cut_from {xs : List V} {k : Nat} : cutV xs (some (k : Int)) none = xs.drop k := by
  unfold cutV
  rw [HT.sIx_nat, HT.sIx_none]
  by_cases h : k ≤ xs.length
  · rw [Nat.min_eq_left h, ← List.length_drop, List.take_length]
  · rw [Nat.min_eq_right (by omega), List.drop_eq_nil_of_le (by omega : xs.length ≤ xs.length), List.drop_eq_nil_of_le (by omega)]
    simp
theorem cut_to {xs : List V} {k : Nat} : cutV xs none (some (k : Int)) = xs.take k := by
  unfold cutV
  rw [HT.sIx_nat, HT.sIx_none]
  show List.take (min k xs.length - 0) (xs.drop 0) = xs.take k
  rw [Nat.sub_zero, List.drop_zero]
  by_cases h : k ≤ xs.length
  · rw [Nat.min_eq_left h]
  · rw [Nat.min_eq_right (by omega), List.take_length, List.take_of_length_le (by omega)]
theorem cut_1 {ns : List Int} : cutV (ns.map V.int) (some 1) none = (ns.drop 1).map V.int := by
  rw [show (some (1 : Int)) = some ((1 : Nat) : Int) from rfl, cut_from, List.map_drop]
theorem tyT (h : H a = some (.tup xs)) : TyX K H (.ref a) (.type "tuple") := .base (.tup h)
end

/-! ### comprehensions of ints -/
section
variable {J : It} {n : Nat} {Gw : Hp → Prop} {Y : Nat → Hp → V → Hp → Prop} {S : Addr → Prop} {g : TG} {tt : TT} {te : TE} {vs : List Nat} {σ : L2.St} {H1 : Hp} {Qd : Addr → Hp → Prop}
theorem ints_of {ys : List V} {p : Int → Prop} : (∀ (i : Nat) (y : V), ys[i]? = some y → ∃ z, y = .int z ∧ p z) → ∃ zs : List Int, ys = zs.map V.int ∧ ∀ z ∈ zs, p z := by
  induction ys with
  | nil => exact fun _ => ⟨[], rfl, fun _ h => by simp at h⟩
  | cons y r ih =>
    intro h
    obtain ⟨zs, e, hz⟩ := ih fun i u hu => h (i + 1) u (by simpa using hu)
    obtain ⟨z, ez, pz⟩ := h 0 y (by simp)
    refine ⟨z :: zs, by rw [e, ez]; rfl, fun u hu => ?_⟩
    rcases List.mem_cons.mp hu with rfl | hu
    · exact pz
    · exact hz u hu
theorem ext_of {ys : List V} {n : Nat} {f : Nat → V} (hl : ys.length = n) (h : ∀ (i : Nat) (y : V), ys[i]? = some y → y = f i) : ys = (List.range n).map f := by
  refine List.ext_getElem (by simp [hl]) fun i h1 h2 => ?_
  rw [h i ys[i] (by simp [h1])]
  simp
/-- pure: the items are ints that are told by their place -/
theorem lc_ints (w : Walk J n Gw Y) (f : Nat → Int) (hn : n ≤ 100000) (hw : ∀ H, Kp N0 H1 H → Gw H)
    (turn : ∀ i x H H', i < n → Kp N0 H1 H → Y i H x H' → ∀ R : VK, (∀ H4, Kp N0 H H4 → R (.int (f i)) H4) → g x (wipe σ vs) H' fun σ2 H2 => wipe σ2 vs = wipe σ vs ∧ te σ2 H2 R)
    (fin : ∀ D H', Kp N0 H1 H' → H' D = some (.lst (((List.range n).map f).map V.int)) → Qd D H') :
    ∀ D, H1 D = none → ∃ W : Nat → Nat → Hp → Prop, (∃ m, W 0 m (upd H1 D (.lst []))) ∧ ∀ i m H, W i m H →
      (J.stop i H ∧ Qd D H) ∨ (J.go i H ∧ ∃ Nx : Hp → Prop, (∀ H', Nx H' → ∃ m', m' < m ∧ W (i + 1) m' H') ∧ ∀ x H', J.yld i H x H' → g x (wipe σ vs) H' fun σ2 H2 => wipe σ2 vs = wipe σ vs ∧ tYes σ2 H2 fun b H3 =>
        if b = true then te σ2 H3 fun y H4 => ∃ acc, H4 D = some (.lst acc) ∧ acc.length < sizeLine ∧ Nx (upd H4 D (.lst (acc ++ [y]))) else Nx H3) :=
  lc_gen (S := N0) w (fun _ => True) (fun i y _ => y = .int (f i)) (Nat.lt_of_le_of_lt hn (by decide)) trivial (fun _ _ _ _ _ => trivial) (fun H k _ => hw H k) (fun _ _ _ _ h _ => h) (fun _ _ _ _ _ _ _ _ h => h) (fun _ _ z => z)
    (fun i x H H' hi k _ y R hR => turn i x H H' hi k y R fun H4 k4 => hR _ _ k4 trivial rfl)
    (fun D H' ys _ k _ hy hl hp => fin D H' k (by rw [hy, ext_of hl hp, List.map_map]; rfl))
/-- pure: the items are bools -/
theorem lc_bools (w : Walk J n Gw Y) (f : Nat → Bool) (hn : n ≤ 100000) (hw : ∀ H, Kp N0 H1 H → Gw H)
    (turn : ∀ i x H H', i < n → Kp N0 H1 H → Y i H x H' → ∀ R : VK, (∀ H4, Kp N0 H H4 → R (.bl (f i)) H4) → g x (wipe σ vs) H' fun σ2 H2 => wipe σ2 vs = wipe σ vs ∧ te σ2 H2 R)
    (fin : ∀ D H', Kp N0 H1 H' → H' D = some (.lst (((List.range n).map f).map V.bl)) → Qd D H') :
    ∀ D, H1 D = none → ∃ W : Nat → Nat → Hp → Prop, (∃ m, W 0 m (upd H1 D (.lst []))) ∧ ∀ i m H, W i m H →
      (J.stop i H ∧ Qd D H) ∨ (J.go i H ∧ ∃ Nx : Hp → Prop, (∀ H', Nx H' → ∃ m', m' < m ∧ W (i + 1) m' H') ∧ ∀ x H', J.yld i H x H' → g x (wipe σ vs) H' fun σ2 H2 => wipe σ2 vs = wipe σ vs ∧ tYes σ2 H2 fun b H3 =>
        if b = true then te σ2 H3 fun y H4 => ∃ acc, H4 D = some (.lst acc) ∧ acc.length < sizeLine ∧ Nx (upd H4 D (.lst (acc ++ [y]))) else Nx H3) :=
  lc_gen (S := N0) w (fun _ => True) (fun i y _ => y = .bl (f i)) (Nat.lt_of_le_of_lt hn (by decide)) trivial (fun _ _ _ _ _ => trivial) (fun H k _ => hw H k) (fun _ _ _ _ h _ => h) (fun _ _ _ _ _ _ _ _ h => h) (fun _ _ z => z)
    (fun i x H H' hi k _ y R hR => turn i x H H' hi k y R fun H4 k4 => hR _ _ k4 trivial rfl)
    (fun D H' ys _ k _ hy hl hp => fin D H' k (by rw [hy, ext_of hl hp, List.map_map]; rfl))
/-- with the dice at a: the items are ints of which p holds -/
theorem lc_draws {a : Addr} (w : Walk J n Gw Y) (p : Int → Prop) (hn : n ≤ 100000) (hd : Dc a H1) (hw : ∀ H, DR a H1 H → Gw H)
    (turn : ∀ i x H H', i < n → DR a H1 H → Y i H x H' → ∀ R : VK, (∀ z H4, DR a H H4 → p z → R (.int z) H4) → g x (wipe σ vs) H' fun σ2 H2 => wipe σ2 vs = wipe σ vs ∧ te σ2 H2 R)
    (fin : ∀ D H' (zs : List Int), H1 D = none → DR a H1 H' → H' D = some (.lst (zs.map V.int)) → zs.length = n → (∀ z ∈ zs, p z) → Qd D H') :
    ∀ D, H1 D = none → ∃ W : Nat → Nat → Hp → Prop, (∃ m, W 0 m (upd H1 D (.lst []))) ∧ ∀ i m H, W i m H →
      (J.stop i H ∧ Qd D H) ∨ (J.go i H ∧ ∃ Nx : Hp → Prop, (∀ H', Nx H' → ∃ m', m' < m ∧ W (i + 1) m' H') ∧ ∀ x H', J.yld i H x H' → g x (wipe σ vs) H' fun σ2 H2 => wipe σ2 vs = wipe σ vs ∧ tYes σ2 H2 fun b H3 =>
        if b = true then te σ2 H3 fun y H4 => ∃ acc, H4 D = some (.lst acc) ∧ acc.length < sizeLine ∧ Nx (upd H4 D (.lst (acc ++ [y]))) else Nx H3) :=
  lc_gen (S := At a) w (Dc a) (fun _ y _ => ∃ z, y = .int z ∧ p z) (Nat.lt_of_le_of_lt hn (by decide)) hd (fun H D o h d => d.upd_ne (hd.ne h)) (fun H k d => hw H ⟨k, d⟩) (fun _ _ _ _ h _ => h) (fun _ _ _ _ _ _ _ _ h => h) (fun D h z => hd.ne h z.symm)
    (fun i x H H' hi k d y R hR => turn i x H H' hi ⟨k, d⟩ y R fun z H4 k4 pz => hR _ _ k4.kp k4.dc ⟨z, rfl, pz⟩)
    (fun D H' ys hDn k d hy hl hp => by
      obtain ⟨zs, e, hz⟩ := ints_of hp
      exact fin D H' zs hDn ⟨k, d⟩ (by rw [hy, e]) (by rw [← hl, e]; simp) hz)
/-- pure, with a test: the ints of the turns that the test lets -/
theorem lc_filt (w : Walk J n Gw Y) (t : Nat → Bool) (f : Nat → Int) (hn : n ≤ 100000) (hw : ∀ H, Kp N0 H1 H → Gw H)
    (turn : ∀ i x H H', i < n → Kp N0 H1 H → Y i H x H' →
      g x (wipe σ vs) H' fun σ2 H2 => wipe σ2 vs = wipe σ vs ∧ (∀ R : Bool → Hp → Prop, (∀ H3, Kp N0 H H3 → R (t i) H3) → tt σ2 H2 R) ∧ (t i = true → ∀ H3, Kp N0 H H3 → ∀ R : VK, (∀ H4, Kp N0 H H4 → R (.int (f i)) H4) → te σ2 H3 R))
    (gm : ∀ x σ H (A B : L2.St → Hp → Prop), (∀ σ H, A σ H → B σ H) → g x σ H A → g x σ H B)
    (fin : ∀ D H', Kp N0 H1 H' → H' D = some (.lst ((((List.range n).filter t).map f).map V.int)) → Qd D H') :
    ∀ D, H1 D = none → ∃ W : Nat → Nat → Hp → Prop, (∃ m, W 0 m (upd H1 D (.lst []))) ∧ ∀ i m H, W i m H →
      (J.stop i H ∧ Qd D H) ∨ (J.go i H ∧ ∃ Nx : Hp → Prop, (∀ H', Nx H' → ∃ m', m' < m ∧ W (i + 1) m' H') ∧ ∀ x H', J.yld i H x H' → g x (wipe σ vs) H' fun σ2 H2 => wipe σ2 vs = wipe σ vs ∧ tt σ2 H2 fun b H3 =>
        if b = true then te σ2 H3 fun y H4 => ∃ acc, H4 D = some (.lst acc) ∧ acc.length < sizeLine ∧ Nx (upd H4 D (.lst (acc ++ [y]))) else Nx H3) := by
  intro D hDn
  refine ⟨fun i m H => m = n - i ∧ i ≤ n ∧ Kp N0 H1 H ∧ H D = some (.lst ((((List.range i).filter t).map f).map V.int)), ⟨n, by simp, Nat.zero_le _, .new hDn, upd_same⟩, ?_⟩
  rintro i m H ⟨rfl, hi, k, hy⟩
  have q := hw H k
  by_cases hlt : i < n
  · refine .inr ⟨w.goes i H hlt q, fun H' => Kp N0 H1 H' ∧ H' D = some (.lst ((((List.range (i + 1)).filter t).map f).map V.int)), fun H' p' => ⟨n - (i + 1), by omega, rfl, hlt, p'⟩, fun x H' y => ?_⟩
    refine gm _ _ _ _ _ (fun σ2 H2 h => ⟨h.1, h.2.1 _ fun H3 k3 => ?_⟩) (turn i x H H' hlt k (w.yields i H x H' hlt q y))
    by_cases ht : t i = true
    · rw [ht, if_pos rfl]
      refine h.2.2 ht H3 k3 _ fun H4 k4 => ?_
      have h4 := k4.keep _ _ (fun z => z) hy
      refine ⟨_, h4, ?_, .mut0 hDn (k.trans k4), ?_⟩
      · rw [List.length_map, List.length_map]
        have := List.length_filter_le t (List.range i)
        rw [List.length_range] at this
        exact Nat.lt_of_le_of_lt (Nat.le_trans this (by omega : i ≤ 100000)) (by decide)
      · rw [upd_same, List.range_succ, List.filter_append, List.filter_cons, if_pos ht]
        simp
    · have e : t i = false := by cases h : t i with | true => exact absurd h ht | false => rfl
      rw [e, if_neg (by decide)]
      refine ⟨k.trans k3, ?_⟩
      rw [k3.keep _ _ (fun z => z) hy, List.range_succ, List.filter_append, List.filter_cons, if_neg ht]
      simp
  · have e : i = n := by omega
    subst e
    exact .inl ⟨w.stops H q, fin D H k hy⟩
theorem gm_name {i : Nat} : ∀ x σ H (A B : L2.St → Hp → Prop), (∀ σ H, A σ H → B σ H) → gName i x σ H A → gName i x σ H B := fun _ _ _ _ _ h q => h _ _ q
end
theorem range_getD {α : Type} (f : Int → α) (ns : List Int) : (List.range ns.length).map (fun i => f (ns.getD i 0)) = ns.map f := by
  refine List.ext_getElem (by simp) fun i h1 h2 => ?_
  simp at h2
  simp [List.getD_eq_getElem?_getD, h2]
theorem range_zip {α : Type} (f : Int → Int → α) (ns ms : List Int) (n : Nat) (h : n = min ns.length ms.length) : (List.range n).map (fun i => f (ns.getD i 0) (ms.getD i 0)) = List.zipWith f ns ms := by
  refine List.ext_getElem (by simp [h]) fun i h1 h2 => ?_
  have hn : i < n := by simpa using h1
  have h3 : i < ns.length := by omega
  have h4 : i < ms.length := by omega
  simp [List.getD_eq_getElem?_getD, h3, h4]
theorem filt_getD (t : Int → Bool) (f : Int → Int) (ns : List Int) : ((List.range ns.length).filter fun i => t (ns.getD i 0)).map (fun i => f (ns.getD i 0)) = (ns.filter t).map f := by
  have h := range_getD (fun x => x) ns
  rw [List.map_id'] at h
  conv => rhs; rw [← h]
  rw [List.filter_map, List.map_map]
  rfl
end Vf
/-! ### defs and the end -/
namespace Vf
open PySem PySem.Spec PyProof.Rows L2
/-- a def of the module, as it stands behind the top -/
def Df (K : PySem.W.Frag) (mg : Str → Option Value) (x : Str) (st : Stmt) (ps : List Str) : Prop :=
  ∃ f fd, C8.Def K mg x st f fd ∧ ∀ us : List Value, us.length = ps.length → bindArgs fd ⟨us, []⟩ = pure (ps.zip us)
theorem df_mk {K : PySem.W.Frag} {h : Heap} {mg : Str → Option Value} (X : K.In h) (G : h.Ns mainGlobals mg) {x : Str} {st : Stmt} {ps : List Str} {f : Addr} {od an : Option Addr} {sl : Array (Option Value)} {oc kV dc pm cd ct : Value}
    (a : PySem.W.nsIn K mainGlobals x = some (some (.ref f)))
    (l : K.lookup f = some ⟨oc, od, .func (PySem.W.fnOf x x (C8.fnArgs st) (C8.fnBody st) (C8.fnScope st) .none kV dc pm an cd ct), sl⟩) (c : PySem.W.codeIn K cd x = true) (k : PySem.W.keepIn K (.ref f) = true)
    (hb : ∀ (kV doc pm : Value) (an : Option Addr) (cdv ct : Value) (us : List Value), us.length = ps.length → bindArgs (PySem.W.fnOf x x (C8.fnArgs st) (C8.fnBody st) (C8.fnScope st) .none kV doc pm an cdv ct) ⟨us, []⟩ = pure (ps.zip us)) :
    Df K mg x st ps :=
  ⟨f, _, ⟨⟨oc, od, .none, kV, dc, pm, an, cd, ct, sl, rfl, l, c⟩, PySem.W.mg_of X G a, k⟩, hb _ _ _ _ _ _⟩
theorem const_mk {K : PySem.W.Frag} {h : Heap} {mg : Str → Option Value} (X : K.In h) (G : h.Ns mainGlobals mg) {x : Str} {i : Int} {t : Tok} (a : PySem.W.nsIn K mainGlobals x = some (some (.int i t))) : ∃ u, mg x = some u ∧ RelV (.int i) u :=
  ⟨_, PySem.W.mg_of X G a, t, rfl⟩
theorem law_ok {P : Program} {w : World} {K : PySem.W.Frag} {mg : Str → Option Value} {fa : Addr} {k : Nat} {x : Str} {st : Stmt} {sp : Sp} (hmg : mg "law" = some (.ref fa)) (d : Df K mg "law" st [x])
    (h : ∀ (base : Heap) (f : Addr) (fd : FuncData), C8.Def K mg "law" st f fd → FnOk P w K mg base CX0 k f fd [x] sp) :
    ∃ fd : FuncData, (∀ (s : Shared) (u : Value), BindsTo s fd ⟨[u], []⟩ [(x, u)]) ∧ ∀ base : Heap, K.In base → base.Ns mainGlobals mg → FnOk P w K mg base CX0 k fa fd [x] sp := by
  obtain ⟨f, fd, D, hb⟩ := d
  have e := hmg.symm.trans D.mgf
  cases e
  exact ⟨fd, fun s u => .of_eq (hb [u] rfl), fun base _ _ => h base _ _ D⟩
theorem walk_law {l : PySem.W.OpenLaw} {k : Nat} {q : Program} {loose : List Str} {XP : (Str → Option Value) → Heap → Prop} {YP : World → Heap → Prop} {d : DefRec} {K : Params → PySem.W.Frag} {sp : PySem.W.Frag → Sp} {x : Str}
    (hn : l.most = some 63) (hdf : d.params.defaults = []) (hY : ∀ (w : World) (h : Heap), YP w h → (K w.params).In h)
    (F : ∀ (w : World) (mg : Str → Option Value) (fa : Addr) (h : Heap), (K w.params).In h → h.Ns mainGlobals mg → mg d.name = some (.ref fa) →
      ∃ fd : FuncData, (∀ (s : Shared) (u : Value), BindsTo s fd ⟨[u], []⟩ [(x, u)]) ∧ ∀ base : Heap, (K w.params).In base → base.Ns mainGlobals mg → FnOk l.prog w (K w.params) mg base CX0 k fa fd [x] (sp (K w.params)))
    (hsp : ∀ (K : PySem.W.Frag) (H : Hp) (a : Addr) (ns : List Int), ns.length ≤ 63 → SqL K H a (ns.map V.int) → sp K [.ref a] H (fun v _ => v = .bl true) fun _ _ _ => False)
    (hr : Room k callerA := by exact ⟨rfl, by decide, by decide⟩) :
    PySem.W.WalkO q loose XP YP l.row.toRowW d [] (fun f vs => PySem.call f vs) :=
  L2.walk_ofK (n := 63) (k := k) (x := x) (CX := CX0) (sp := sp) hn (by decide) hdf hr hY F (fun K H a ns h1 _ h3 => hsp K H a ns h1 h3) fun _ _ _ _ z => z
end Vf
namespace Vf
open PySem PySem.Spec PyProof.Rows L2
theorem int_at {ns : List Int} {i : Nat} (hi : i < ns.length) : (ns.map V.int)[i]? = some (.int (ns.getD i 0)) := by
  rw [List.getElem?_map, List.getElem?_eq_getElem hi, List.getD_eq_getElem?_getD, List.getElem?_eq_getElem hi]
  rfl
theorem two_at {xs ys : List V} {i : Nat} (hi : i < min xs.length ys.length) : ∃ x y, xs[i]? = some x ∧ ys[i]? = some y :=
  ⟨_, _, List.getElem?_eq_getElem (Nat.lt_of_lt_of_le hi (Nat.min_le_left _ _)), List.getElem?_eq_getElem (Nat.lt_of_lt_of_le hi (Nat.min_le_right _ _))⟩
theorem walk_zipT {K : PySem.W.Frag} {a b : Addr} {xs ys : List V} {n : Nat} (hn : n = min xs.length ys.length) : Walk (RZ.ItzT K a b) n (fun H => SqT K H a xs ∧ SqT K H b ys) (YPair (fun i => xs[i]?) (fun i => ys[i]?)) :=
  ⟨fun i _ hi q => have ⟨x, y, hx, hy⟩ := two_at (hn ▸ hi); ⟨xs, ys, x, y, q.1, q.2, hx, hy⟩, fun _ q => ⟨xs, ys, q.1, q.2, by omega⟩,
    fun _ _ _ _ _ q ⟨T, x, z, h1, h2, h3, at1, at2⟩ => ⟨T, x, z, h1, h2, h3, at1 xs q.1, at2 ys q.2⟩⟩
end Vf
namespace Vf
open PySem L2
theorem mod_lt64 {x y : Int} (h : 0 < y ∧ y < 2 ^ 64) : (x % y).natAbs < 2 ^ 64 := by
  have h1 := Int.emod_nonneg x (show y ≠ 0 by omega)
  have h2 := Int.emod_lt_of_pos x h.1
  omega
theorem lp {j : Int} (h : (0 : Int) < j) : 0 < j := h
theorem b2i_lt {b : Bool} : (if b = true then (1 : Int) else 0).natAbs < 2 ^ 64 := by cases b <;> decide
theorem pow_pos_ : (0 : Int) < ((10 : Int) ^ (60 : Int).toNat) ^ (10 : Int).toNat := by decide +kernel
end Vf
namespace Vf
open PySem L2
theorem sz_ {n : Nat} (h : n ≤ 100000) : n ≤ sizeLine := Nat.le_trans h (by decide)
end Vf
/-! ### rules whose new object is told by a name, and rules over the written part K by name -/
namespace Vf
open PySem PySem.Spec PyProof.Rows L2
@[irreducible] def rNewT (xs : List V) (H : Hp) (Q : VK) : Prop := xs.length ≤ sizeLine ∧ ∀ p, H p = none → Q (.ref p) (upd H p (.tup xs))
@[irreducible] def rNewL (xs : List V) (H : Hp) (Q : VK) : Prop := xs.length ≤ sizeLine ∧ ∀ p, H p = none → Q (.ref p) (upd H p (.lst xs))
def tTupN (t : TA) : TE := fun σ H Q => t σ H fun xs H1 => rNewT xs H1 Q
def tLstN (t : TA) : TE := fun σ H Q => t σ H fun xs H1 => rNewL xs H1 Q
@[irreducible] def rRgL (a b : Int) (H : Hp) (Q : VK) : Prop := RgOk a b ∧ ∀ q, H q = none → Q (.ref q) (upd H q (.lst (rgV a b)))
def tLstRgN (te : L2.St → Hp → (Int → Int → Hp → Prop) → Prop) : TE := fun σ H Q => te σ H fun a b H1 => rRgL a b H1 Q
@[irreducible] def rTupOf (K : PySem.W.Frag) (xs : List V) (H : Hp) (Q : VK) : Prop := ∃ p ys, xs = [.ref p] ∧ ((SqL K H p ys ∧ ∀ l, H l = none → Q (.ref l) (upd H l (.tup ys))) ∨ (SqT K H p ys ∧ Q (.ref p) H))
@[irreducible] def rListOf (K : PySem.W.Frag) (xs : List V) (H : Hp) (Q : VK) : Prop := ∃ p ys, xs = [.ref p] ∧ (SqL K H p ys ∨ SqT K H p ys) ∧ ∀ l, H l = none → Q (.ref l) (upd H l (.lst ys))
@[irreducible] def rLen (K : PySem.W.Frag) (xs : List V) (H : Hp) (Q : VK) : Prop := ∃ p ys, xs = [.ref p] ∧ (SqL K H p ys ∨ SqT K H p ys) ∧ Q (.int ys.length) H
@[irreducible] def rSortI (K : PySem.W.Frag) : List V → Hp → VK → Prop := rSorted K
@[irreducible] def rSlI (K : PySem.W.Frag) : V → Option Int → Option Int → Hp → VK → Prop := rSlA K
@[irreducible] def rSlLI (K : PySem.W.Frag) : V → Option Int → Option Int → Hp → VK → Prop := rSlL K
@[irreducible] def rCatI (K : PySem.W.Frag) : R2 := rCatA K
@[irreducible] def rCatLI : R2 := rCat
@[irreducible] def rRepLI : R2 := rRep
@[irreducible] def rEqI (K : PySem.W.Frag) : R2 := rEqD K
@[irreducible] def rNeI (K : PySem.W.Frag) : R2 := rNeD K
section
variable {X : Cx} {K : PySem.W.Frag} {f : Value} {g : Value → Value → Sem Value}
theorem opK (r : PySem.W.Frag → R2) (h : OpR X g (r X.K)) (e : X.K = K := by rfl) : OpR X g (r K) := by rw [← e]; exact h
theorem callK (r : PySem.W.Frag → List V → Hp → VK → Prop) (h : CallR X f (r X.K)) (e : X.K = K := by rfl) : CallR X f (r K) := by rw [← e]; exact h
theorem ixK (r : PySem.W.Frag → R2) (h : IxR X (r X.K)) (e : X.K = K := by rfl) : IxR X (r K) := by rw [← e]; exact h
theorem slK (r : PySem.W.Frag → V → Option Int → Option Int → Hp → VK → Prop) (h : L2.SlR X (r X.K)) (e : X.K = K := by rfl) : L2.SlR X (r K) := by rw [← e]; exact h
theorem op_catI : OpR X (binaryOp .Add) (rCatI X.K) := by unfold rCatI; exact op_catA
theorem op_catLI : OpR X (binaryOp .Add) rCatLI := by unfold rCatLI; exact op_cat
theorem op_repLI : OpR X (binaryOp .Mult) rRepLI := by unfold rRepLI; exact op_rep
theorem op_eqI (hu : X.A.units + 64 < cLine) : OpR X (compareOp .Eq) (rEqI X.K) := by unfold rEqI; exact op_eqD hu
theorem op_neI (hu : X.A.units + 64 < cLine) : OpR X (compareOp .NotEq) (rNeI X.K) := by unfold rNeI; exact op_neD hu
theorem sl_tupI : L2.SlR X (rSlI X.K) := by unfold rSlI; exact sl_tupA
theorem sl_lstI : L2.SlR X (rSlLI X.K) := by unfold rSlLI; exact sl_list
theorem call_lenI : CallR X (.builtin "len") (rLen X.K) := by unfold rLen; exact call_len_seq
theorem call_tupI : CallR X (.type "tuple") (rTupOf X.K) := by unfold rTupOf; exact call_tuple_of
theorem call_lstI : CallR X (.type "list") (rListOf X.K) := by unfold rListOf; exact call_list_of
theorem call_srtI : CallR X (.builtin "sorted") (rSortI X.K) := by unfold rSortI; exact cr_sorted
variable {es : List Expr} {x1 : Nat} {pos p : Pos} {t : TA} {e : Expr} {te : L2.St → Hp → (Int → Int → Hp → Prop) → Prop}
theorem pe_tupN (h : PA X es t) : PE X (.Tuple es x1 pos) (tTupN t) := by
  unfold tTupN rNewT
  exact pe_tup h
theorem pe_lstN (h : PA X es t) : PE X (.List es pos) (tLstN t) := by
  unfold tLstN rNewL
  exact pe_lst h
theorem pe_listRgN (hc : X.calm = true) (hg : Gl X "list") (hm : X.mg "list" = none) (he : PRg X e te) (na : starEach [e] X.env = (false, eval e X.env) :: starEach [] X.env := by rfl) : PE X (.Call (.Name "list" p) [e] [] pos) (tLstRgN te) := by
  unfold tLstRgN rRgL
  exact pe_listRg hc hg hm he na
end
section
variable {H : Hp} {K : PySem.W.Frag} {us : List V} {Q : VK} {p : Addr} {ys : List V} {ns : List Int} {a b : Int} {lo hi : Option Int}
theorem newT (hl : us.length ≤ sizeLine) (q : ∀ p H1, H p = none → Kp N0 H H1 → H1 p = some (.tup us) → Q (.ref p) H1) : rNewT us H Q := by
  unfold rNewT
  exact ⟨hl, fun p hp => q p _ hp (.new hp) upd_same⟩
theorem newL (hl : us.length ≤ sizeLine) (q : ∀ p H1, H p = none → Kp N0 H H1 → H1 p = some (.lst us) → Q (.ref p) H1) : rNewL us H Q := by
  unfold rNewL
  exact ⟨hl, fun p hp => q p _ hp (.new hp) upd_same⟩
theorem rgL (hr : RgOk a b) (q : ∀ p H1, H p = none → Kp N0 H H1 → H1 p = some (.lst (rgV a b)) → Q (.ref p) H1) : rRgL a b H Q := by
  unfold rRgL
  exact ⟨hr, fun p hp => q p _ hp (.new hp) upd_same⟩
/-- tuple(xs) of a list; of a tuple -/
theorem tupL (e : us = [.ref p]) (h : SqL K H p ys) (q : ∀ p H1, H p = none → Kp N0 H H1 → H1 p = some (.tup ys) → Q (.ref p) H1) : rTupOf K us H Q := by
  unfold rTupOf
  exact ⟨p, ys, e, .inl ⟨h, fun l hl => q l _ hl (.new hl) upd_same⟩⟩
theorem tupT (e : us = [.ref p]) (h : H p = some (.tup ys)) (q : Q (.ref p) H) : rTupOf K us H Q := by
  unfold rTupOf
  exact ⟨p, ys, e, .inr ⟨SqT.of h, q⟩⟩
theorem listL (e : us = [.ref p]) (h : SqL K H p ys ∨ SqT K H p ys) (q : ∀ l H1, H l = none → Kp N0 H H1 → H1 l = some (.lst ys) → Q (.ref l) H1) : rListOf K us H Q := by
  unfold rListOf
  exact ⟨p, ys, e, h, fun l hl => q l _ hl (.new hl) upd_same⟩
theorem sortL (e : us = [.ref p]) (h : SqL K H p (ns.map V.int)) (hl : ns.length < 64) (q : ∀ (ns' : List Int) l H1, ns'.Perm ns → ns'.Pairwise (· ≤ ·) → H l = none → Kp N0 H H1 → H1 l = some (.lst (ns'.map V.int)) → Q (.ref l) H1) : rSortI K us H Q := by
  unfold rSortI
  exact ⟨p, ns, e, h, hl, fun ns' l h1 h2 h3 => q ns' l _ h1 h2 h3 (.new h3) upd_same⟩
theorem lenT (e : us = [.ref p]) (h : H p = some (.tup ys)) (q : Q (.int ys.length) H) : rLen K us H Q := by
  unfold rLen
  exact ⟨p, ys, e, .inr (SqT.of h), q⟩
theorem lenL (e : us = [.ref p]) (h : SqL K H p ys) (q : Q (.int ys.length) H) : rLen K us H Q := by
  unfold rLen
  exact ⟨p, ys, e, .inl h, q⟩
variable {xs zs : List V} {x y : Addr} {k : Int}
theorem catL (h : H x = some (.lst xs)) (h2 : H y = some (.lst zs)) (hz : xs.length + zs.length ≤ sizeLine) (q : ∀ p H1, H p = none → Kp N0 H H1 → H1 p = some (.lst (xs ++ zs)) → Q (.ref p) H1) : rCatLI (.ref x) (.ref y) H Q := by
  unfold rCatLI
  exact ⟨x, y, xs, zs, rfl, rfl, h, h2, hz, fun p hp => q p _ hp (.new hp) upd_same⟩
theorem catT (h : H x = some (.tup xs)) (h2 : H y = some (.tup zs)) (hz : xs.length + zs.length ≤ sizeLine) (q : ∀ p H1, Kp N0 H H1 → H1 p = some (.tup (xs ++ zs)) → Q (.ref p) H1) : rCatI K (.ref x) (.ref y) H Q := by
  unfold rCatI
  exact cat_do h h2 hz q
theorem slT (h : H x = some (.tup xs)) (q : ∀ p H1, Kp N0 H H1 → H1 p = some (.tup (cutV xs lo hi)) → Q (.ref p) H1) : rSlI K (.ref x) lo hi H Q := by
  unfold rSlI
  exact sl_do h q
theorem slL (h : SqL K H x xs) (q : ∀ p H1, H p = none → Kp N0 H H1 → H1 p = some (.lst (cutV xs lo hi)) → Q (.ref p) H1) : rSlLI K (.ref x) lo hi H Q := by
  unfold rSlLI
  exact ⟨x, xs, rfl, h, fun p hp => q p _ hp (.new hp) upd_same⟩
end
theorem at_rowI {ns : List Int} {j : Int} (h0 : 0 ≤ j) (h : j.toNat < ns.length) : atI (ns.map V.int) j = some (.int (ns.getD j.toNat 0)) := by
  have := at_row h
  rw [Int.toNat_of_nonneg h0] at this
  exact this
end Vf

namespace Vf
open PySem PySem.Spec PyProof.Rows L2
theorem kp_sqL {H H1 : Hp} {K : PySem.W.Frag} {a : Addr} {xs : List V} (k : Kp N0 H H1) (h : SqL K H a xs) : SqL K H1 a xs := k.same.seq h
/-- what a fresh dice did is not seen -/
theorem kp_fresh {H H1 H2 : Hp} {p : Addr} (hp : H p = none) (k : Kp N0 H H1) (d : DR p H1 H2) : Kp N0 H H2 :=
  ⟨fun b o _ h => d.kp.keep _ _ (ne_of_none h hp) (k.keep _ _ (fun z => z) h), fun b xs h => d.kp.tup _ _ (k.tup _ _ h), fun b o u h => d.kp.frz _ _ _ (k.frz _ _ _ h), fun b h => k.live _ (d.kp.live _ h)⟩
theorem law_end {sp : PySem.W.Frag → Sp} (h : ∀ (K : PySem.W.Frag) (a : Addr) (ns : List Int) (H : Hp) (Q : VK) (E : XK), SqL K H a (ns.map V.int) → (∀ H', Q (.bl true) H') → sp K [.ref a] H Q E) (K : PySem.W.Frag) (H : Hp) (a : Addr) (ns : List Int) (_ : ns.length ≤ 63) (h2 : SqL K H a (ns.map V.int)) : sp K [.ref a] H (fun v _ => v = .bl true) fun _ _ _ => False :=
  h K a ns H _ _ h2 fun _ => rfl
end Vf

namespace Vf
open PySem L2
theorem iteNe {x y : V} {A B : Prop} (h : x = y) (b : B) : if (!decide (x = y)) = true then A else B := by
  rw [decide_eq_true h]
  exact iteF b
theorem iteEq {x y : V} {A B : Prop} (h : x = y) (a : A) : if decide (x = y) = true then A else B := by
  rw [decide_eq_true h]
  exact iteT a
theorem finEq {x y : V} {Q : VK} {H : Hp} (h : x = y) (q : Q (.bl true) H) : Q (.bl (decide (x = y))) H := by
  rw [decide_eq_true h]
  exact q
end Vf

theorem Vf.let_ {α β : Prop} (a : α) (h : α → β) : β := h a
/-! ### zip of a list and a tuple -/
namespace Vf
open PySem PySem.Spec PyProof.Rows L2
def ItzLT (K : PySem.W.Frag) (a b : Addr) : It :=
  ⟨fun i H => ∃ (xs ys : List V) (x y : V), SqL K H a xs ∧ SqT K H b ys ∧ xs[i]? = some x ∧ ys[i]? = some y,
    fun i H v H' => ∃ T x y, v = .ref T ∧ H T = none ∧ H' = upd H T (.tup [x, y]) ∧ (∀ xs, SqL K H a xs → xs[i]? = some x) ∧ ∀ ys, SqT K H b ys → ys[i]? = some y,
    fun i H => ∃ xs ys : List V, SqL K H a xs ∧ SqT K H b ys ∧ i = min xs.length ys.length⟩
def lt_tn (z TI TO i1 i2 a b : Addr) (i : Nat) (h : Heap) : Prop := IsZip h z TI TO .none ∧ IsTupOf2 h TI (.ref i1) (.ref i2) ∧ (∃ a1 a2, IsTupOf2 h TO a1 a2) ∧ h.IsListIter i1 a i ∧ h.IsTupleIter i2 b i
theorem lt_goes {prog : Program} {w : World} {A : Around} {elts : List Expr} {kk : Nat} {tpos : Pos} (hh : A.handled = none) {N a b : Addr} {xs ys : Array Value} (ha : a < N) (hb : b < N) :
    GoesN prog w A (.Tuple elts kk tpos) (N + 4) ((N + 4) :: (N + 2) :: (N + 3) :: ([N, a] ++ [N + 1, b])) [N + 4, N + 3, N, N + 1] (min xs.size ys.size)
      (fun i h₀ v h => ∃ T x y, v = .ref T ∧ h₀.objs.size ≤ T ∧ xs[i]? = some x ∧ ys[i]? = some y ∧ h.IsTuple T #[x, y])
      (fun i h => IsZip h (N + 4) (N + 2) (N + 3) .none ∧ IsTupOf2 h (N + 2) (.ref N) (.ref (N + 1)) ∧ (∃ a1 a2, IsTupOf2 h (N + 3) a1 a2) ∧ (h.IsListIter N a i ∧ h.IsList a xs) ∧ (h.IsTupleIter (N + 1) b i ∧ h.IsTuple b ys)) :=
  GoesN.zip2 (zip_sep2 (fp1 := [a]) (fp2 := [b]) (by simpa using ha) (by simpa using hb)) (Draws.list (A := A.in1) hh N a (Nat.ne_of_lt ha) xs) (Draws.tuple (A := A.in1) hh (N + 1) b (Nat.ne_of_lt (Nat.lt_succ_of_lt hb)) ys)
theorem five_of {c N : Addr} (m : c ∈ [N + 4, N + 2, N + 3, N, N + 1]) : c = N + 4 ∨ c = N + 2 ∨ c = N + 3 ∨ c = N ∨ c = N + 1 := by simpa using m
theorem five_of_four {c N : Addr} (m : c ∈ [N + 4, N + 3, N, N + 1]) : c ∈ [N + 4, N + 2, N + 3, N, N + 1] := by
  have e : c = N + 4 ∨ c = N + 3 ∨ c = N ∨ c = N + 1 := by simpa using m
  rcases e with e | e | e | e <;> simp [e]
theorem both_cells {X : Cx} {pins : List (Addr × Obj)} {σ : L2.St} {H : Hp} {s : Shared} {a b : Addr} {xs ys : List V} (I : Inv X pins σ H s) (hl : SqL X.K H a xs) (ht : SqT X.K H b ys) :
    ∃ us vs : List Value, Vals xs us ∧ Vals ys vs ∧ s.heap.IsList a us.toArray ∧ s.heap.IsTuple b vs.toArray ∧ a < s.heap.objs.size ∧ b < s.heap.objs.size :=
  have ⟨us, ru, pu, _⟩ := I.list hl
  have ⟨vs, rv, pv, _⟩ := I.tuple ht
  ⟨us, vs, ru, rv, pu.isList, pv, pu.lt, PyProof.Rows.IsTup.lt pv⟩
theorem turn_zipLT {P : Program} {w : World} {K : PySem.W.Frag} {elts : List Expr} {kk : Nat} {tpos : Pos} {a b N : Addr} (ha : a < N) (hb : b < N) :
    Turn P w K (.Tuple elts kk tpos) (ItzLT K a b) [N + 4, N + 2, N + 3, N, N + 1] (N + 4) (lt_tn (N + 4) (N + 2) (N + 3) N (N + 1) a b) where
  mem := List.mem_cons_self
  obj := fun _ _ ⟨cz, cI, ⟨_, _, cO⟩, ⟨l, cl, _, dl⟩, t, ct, _, dt⟩ c m => by
    rcases five_of m with rfl | rfl | rfl | rfl | rfl
    · exact ⟨_, cz, nofun⟩
    · exact ⟨_, cI, nofun⟩
    · exact ⟨_, cO, nofun⟩
    · exact ⟨l, cl, fun v q => nomatch dl.symm.trans q⟩
    · exact ⟨t, ct, fun v q => nomatch dt.symm.trans q⟩
  keep := fun _ _ _ ⟨cz, cI, ⟨_, _, cO⟩, cl, ct⟩ k =>
    ⟨k _ (by simp) _ cz, k _ (by simp) _ cI, ⟨_, _, k _ (by simp) _ cO⟩, cl.at (k _ (by simp)), ct.at (k _ (by simp))⟩
  item := fun X eP ew eK calm i pins s σ H E I free ⟨cz, cI, cO, cl, ct⟩ ⟨xs, ys, x, y, hl, ht, hx, hy⟩ => by
    subst eP ew eK
    obtain ⟨us, vs, ru, rv, atL, atT, _⟩ := both_cells I hl ht
    obtain ⟨u, hu, rx⟩ := ru.get hx
    obtain ⟨v, hv, ry⟩ := rv.get hy
    have inside : i < min us.toArray.size vs.toArray.size := Nat.lt_min.mpr ⟨by simpa using (List.getElem?_eq_some_iff.mp hu).1, by simpa using (List.getElem?_eq_some_iff.mp hv).1⟩
    refine (lt_goes (prog := X.prog) (w := X.w) (elts := elts) (kk := kk) (tpos := tpos) (I.ok.hd calm) ha hb).goes i s _ E inside ⟨cz, cI, cO, ⟨cl, atL⟩, ct, atT⟩ ?_
    rintro _ h' tk ⟨T, u', v', rfl, above, p, q, pair⟩ after same _
    have eu : u' = u := Option.some.inj (p.symm.trans (by simpa using hu))
    have ev : v' = v := Option.some.inj (q.symm.trans (by simpa using hv))
    subst eu ev
    have ok : ObjOk X.prog X.w (upd H T (.tup [x, y])) h' T (.tup [x, y]) := ⟨(by decide : 2 ≤ sizeLine), [u', v'], .cons rx (.cons ry .nil), pair⟩
    refine ⟨.ref T, _, I.turnedNew (t' := tk) same (fun c m => free c (five_of_four m)) above ok, rfl, ⟨T, x, y, rfl, I.hok.fresh above, rfl, ?_, ?_⟩, ⟨after.1, after.2.1, after.2.2.1, after.2.2.2.1.1, after.2.2.2.2.1⟩, fun c m => ?_⟩
    · intro zs h
      rwa [I.list_inj h hl]
    · intro zs h
      rwa [I.tuple_inj h ht]
    · have old : c < s.heap.objs.size := by
        rcases five_of m with rfl | rfl | rfl | rfl | rfl
        · exact Heap.lt_size cz
        · exact Heap.lt_size cI
        · exact Heap.lt_size cO.choose_spec.choose_spec
        · exact Heap.lt_size cl.choose_spec.1
        · exact Heap.lt_size ct.choose_spec.1
      rw [upd_ne (Nat.ne_of_lt (Nat.lt_of_lt_of_le old above))]
      exact (free c m).1
  done := fun X eP ew eK calm i pins s σ H E I free ⟨cz, cI, cO, cl, ct⟩ ⟨xs, ys, hl, ht, last⟩ => by
    subst eP ew eK
    obtain ⟨us, vs, ru, rv, atL, atT, _⟩ := both_cells I hl ht
    have last : i = min us.toArray.size vs.toArray.size := by rw [last, ru.length, rv.length, List.size_toArray, List.size_toArray]
    subst last
    exact (lt_goes (prog := X.prog) (w := X.w) (elts := elts) (kk := kk) (tpos := tpos) (I.ok.hd calm) ha hb).stops s _ E ⟨cz, cI, cO, ⟨cl, atL⟩, ct, atT⟩ fun h' tk same _ =>
      I.turnedL (t' := tk) same fun c m => free c (five_of_four m)
  self := fun _ _ _ _ _ st h => wpAny_pyIter_zip st.1 h
def iZipLT (K : PySem.W.Frag) (ta : TA) : TI := fun σ H R => ta σ H fun vs H1 => ∃ a b xs ys, vs = [.ref a, .ref b] ∧ SqL K H1 a xs ∧ SqT K H1 b ys ∧ R (ItzLT K a b) H1
theorem pi_zipLT {X : Cx} {e e2 : Expr} {ta : TA} {p pos tpos : Pos} {elts : List Expr} {kk : Nat} (hg : Gl X "zip") (hm : X.mg "zip" = none) (ha : PA X [e, e2] ta)
    (plain : starEach [e, e2] X.env = (false, eval e X.env) :: starEach [e2] X.env ∧ (backTo pos (starEach [e2] X.env)).any (·.1) = false := by exact ⟨rfl, rfl⟩) :
    PI X (.Tuple elts kk tpos) (.Call (.Name "zip" p) [e, e2] [] pos) (iZipLT X.K ta) := by
  refine .mk fun pins s σ H R I h => ?_
  have given := ha.run pos pins s σ H _ I h
  refine Call_ (ld_blt I hg hm PyProof.Rows.boot_zip (PyProof.Rows.callWith_type1 (thn given ?_) plain.1 plain.2))
  rintro _ s1 ⟨_, H1, I1, rel, a, b, xs, ys, rfl, hl, ht, q⟩
  obtain ⟨u, v, rfl, eu, ev⟩ := vals2 rel
  obtain rfl : u = Value.ref a := eu
  obtain rfl : v = Value.ref b := ev
  obtain ⟨us, vs, _, _, atL, atT, lowL, lowT⟩ := both_cells I1 hl ht
  refine zip_begins2 (begins_list a us.toArray) (begins_tuple b vs.toArray) atL atT fun h' cz cI cO cl ct _ same => wpAny_pyIter_zip cz ?_
  refine ⟨_, _, _, _, H1, rfl, I1.kept (t' := s1.toks) same, turn_zipLT lowL lowT, ⟨cz, cI, ⟨_, _, cO⟩, ⟨_, cl, rfl, rfl⟩, _, ct, rfl, rfl⟩, fun c m => ?_, q⟩
  have above : s1.heap.objs.size ≤ c := by rcases five_of m with rfl | rfl | rfl | rfl | rfl <;> first | exact Nat.le_refl _ | exact Nat.le_add_right _ _
  exact I1.fpOk above (I1.hok.fresh above)
theorem walk_zipLT {K : PySem.W.Frag} {a b : Addr} {xs ys : List V} {n : Nat} (hn : n = min xs.length ys.length) : Walk (ItzLT K a b) n (fun H => SqL K H a xs ∧ SqT K H b ys) (YPair (fun i => xs[i]?) (fun i => ys[i]?)) :=
  ⟨fun i _ hi q => have ⟨x, y, hx, hy⟩ := two_at (hn ▸ hi); ⟨xs, ys, x, y, q.1, q.2, hx, hy⟩, fun _ q => ⟨xs, ys, q.1, q.2, hn⟩,
    fun _ _ _ _ _ q ⟨T, x, z, h1, h2, h3, at1, at2⟩ => ⟨T, x, z, h1, h2, h3, at1 xs q.1, at2 ys q.2⟩⟩
end Vf
/-! ### tuple * int, from 0 on -/
namespace Vf
open PySem PySem.Spec PyProof.Rows L2
open PySem.AutoSeq1 (wpAny_loadPart')
theorem tmul_one (l : Addr) (items : Array Value) (n : Nat) (dd : Option Addr) (sl : Array (Option Value)) (u : Tok) :
    Meets (Builtin.«tuple.__mul__» ⟨[.ref l, .int 1 u], []⟩) (fun _ R s => s.heap.get? l = some { cls := .type "tuple", dict := dd, data := .seq items n, slots := sl } ∧ R (.ok (.ret (Value.ref l))) s) :=
  .of_wp fun prog w A R s h => by
    obtain ⟨hp, g, d, tk, os⟩ := s
    obtain ⟨hl, h⟩ := h
    have f1 := AutoSeq1.idx_int
    wp_walk using wpAny_loadPart' hl
    exact ⟨_, rfl, h⟩
theorem tmul_zero (l : Addr) (items : Array Value) (n : Nat) (dd : Option Addr) (sl : Array (Option Value)) (u : Tok) (hi : items.isEmpty = false) :
    Meets (Builtin.«tuple.__mul__» ⟨[.ref l, .int 0 u], []⟩) (fun _ R s => s.heap.get? l = some { cls := .type "tuple", dict := dd, data := .seq items n, slots := sl } ∧
      R (.ok (.ret (Value.ref s.heap.objs.size))) { s with heap := s.heap.push { cls := Value.type "tuple", data := Data.seq #[] }, toks := s.toks }) :=
  .of_wp fun prog w A R s h => by
    obtain ⟨hp, g, d, tk, os⟩ := s
    obtain ⟨hl, h⟩ := h
    have f1 := AutoSeq1.idx_int
    wp_walk using wpAny_loadPart' hl
    exact ⟨_, rfl, h⟩
def rRepA0 (K : PySem.W.Frag) : R2 := fun x y H Q => ∃ l k xs, x = .ref l ∧ y = .int k ∧ SqT K H l xs ∧ xs ≠ [] ∧ 0 ≤ k ∧ k ≤ 1000 ∧ xs.length ≤ 1000 ∧ (k = 1 → Q (.ref l) H) ∧ (k ≠ 1 → ∀ p, H p = none → Q (.ref p) (upd H p (.tup (List.replicate k.toNat xs).flatten)))
theorem op_repA0 {X : Cx} : OpR X (binaryOp .Mult) (rRepA0 X.K) := by
  intro pins s σ H x y v u Q I rx ry h
  obtain ⟨l, k, xs, rfl, rfl, hT, hne, h1, h2, hz, q1, q2⟩ := h
  by_cases hk : 2 ≤ k
  · exact op_repT pins s σ H _ _ v u Q I rx ry ⟨l, k, xs, rfl, rfl, hT, hne, hk, h2, hz, q2 (by omega)⟩
  · cases rx
    obtain ⟨t, rfl⟩ := ry
    obtain ⟨its, r, ⟨⟨cls, dd, data, sl⟩, ho, hc, n, hd⟩, hs⟩ := I.tuple hT
    simp only at hc hd
    subst hc hd
    rcases (show k = 0 ∨ k = 1 by omega) with rfl | rfl
    · have hi : its.toArray.isEmpty = false := by
        cases its with
        | nil =>
          cases r
          exact absurd rfl hne
        | cons _ _ => rfl
      refine wpAny_binaryOp_repeat_ref (T := "tuple") (U := "int") (by decide) ⟨_, ho, rfl⟩ (fun s' => typeIs_int s' 0 t) noFill_tuple_mul F.fills_int_mul F.slot_int_rmul repeat_tuple F.slot_int_index.lookup
        (call_meets F.slot_int_rmul (typeIs_int s 0 t) F.entry_int_rmul (F.args_int_rmul_2 _ _) (int_rmul_tuple 0 t l its.toArray n dd sl)
          ⟨ho, rfl, ⟨_, ho, rfl⟩, call_meets F.slot_tuple_mul ⟨_, ho, rfl⟩ F.entry_tuple_mul (F.args_tuple_mul_2 _ _) (tmul_zero l its.toArray n dd sl t hi) ⟨ho, ?_⟩⟩)
      exact ⟨.ref s.heap.objs.size, _, I.laid (t' := s.toks) (o := .tup []) (fun b ob q => Heap.get?_push_of_some _ q) (Nat.le_refl _) ⟨Nat.zero_le _, [], .nil, IsTup.new _ _⟩, rfl, q2 (by decide) _ (I.hok.fresh (Nat.le_refl _))⟩
    · refine wpAny_binaryOp_repeat_ref (T := "tuple") (U := "int") (by decide) ⟨_, ho, rfl⟩ (fun s' => typeIs_int s' 1 t) noFill_tuple_mul F.fills_int_mul F.slot_int_rmul repeat_tuple F.slot_int_index.lookup
        (call_meets F.slot_int_rmul (typeIs_int s 1 t) F.entry_int_rmul (F.args_int_rmul_2 _ _) (int_rmul_tuple 1 t l its.toArray n dd sl)
          ⟨ho, rfl, ⟨_, ho, rfl⟩, call_meets F.slot_tuple_mul ⟨_, ho, rfl⟩ F.entry_tuple_mul (F.args_tuple_mul_2 _ _) (tmul_one l its.toArray n dd sl t) ⟨ho, ?_⟩⟩)
      exact ⟨.ref l, _, I, rfl, q1 rfl⟩
@[irreducible] def rRepA (K : PySem.W.Frag) : R2 := rRepA0 K
theorem op_repA {X : Cx} : OpR X (binaryOp .Mult) (rRepA X.K) := by unfold rRepA; exact op_repA0
theorem rep_do {K : PySem.W.Frag} {H : Hp} {l : Addr} {k : Int} {xs : List V} {Q : VK} (h : H l = some (.tup xs)) (hne : xs ≠ []) (h1 : 0 ≤ k) (h2 : k ≤ 1000) (hz : xs.length ≤ 1000)
    (q : ∀ p H1, Kp N0 H H1 → H1 p = some (.tup (List.replicate k.toNat xs).flatten) → Q (.ref p) H1) : rRepA K (.ref l) (.int k) H Q := by
  unfold rRepA
  refine ⟨l, k, xs, rfl, rfl, SqT.of h, hne, h1, h2, hz, fun e => q l H (.refl _ _) ?_, fun _ p hp => q p _ (.new hp) upd_same⟩
  subst e
  rw [h]
  simp
theorem rep_one {i : Int} (k : Nat) : (List.replicate k [V.int i]).flatten = (List.replicate k i).map V.int := by
  induction k with
  | zero => rfl
  | succ k ih => rw [List.replicate_succ, List.flatten_cons, ih, List.replicate_succ]; rfl
end Vf
/-! ### t[::-1] of a tuple -/
namespace HT
open PySem PySem.Spec PyProof.Rows
section
variable {prog : Program} {w : World} {A : Around} {E : Value → Shared → Prop} {s : Shared}
theorem places_rev : ∀ n : Nat, Builtin.Slice.slicePlaces ((n : Int) - 1) (-1) (-1) = n
  | 0 => by decide
  | n + 1 => by
    unfold Builtin.Slice.slicePlaces
    rw [if_neg (show ¬ (-1 : Int) > 0 by decide), if_pos (show ((n + 1 : Nat) : Int) - 1 > -1 by omega)]
    simp
theorem sliceApplied_rev {sl : Addr} {vl vu vs : Value} {n : Nat} {Q : Int × Int × Nat → Shared → Prop} (hs : s.heap.IsSliceOf sl vl vu vs) (pl : IsPart vl none) (pu : IsPart vu none) (ps : IsPart vs (some (-1)))
    (h : Q ((n : Int) - 1, -1, n) s) : wpAny (model prog w) A (Builtin.Slice.sliceApplied (.ref sl) (pure (n : Int))) Q E s := by
  have ⟨ob, got, _, dat⟩ := hs
  have answer : wpAny (model prog w) A (do
      let (lo, hi) := Builtin.Slice.sliceAdjust none none (-1) (n : Int)
      pure (lo, (-1 : Int), Builtin.Slice.slicePlaces lo hi (-1))) Q E s := by
    rw [show Builtin.Slice.sliceAdjust none none (-1) (n : Int) = ((n : Int) - 1, -1) by first | rfl | simp [Builtin.Slice.sliceAdjust]]
    exact wpAny_pure (by rw [places_rev]; exact h)
  have fields : wpAny (model prog w) A (Builtin.Slice.sliceFields (.ref sl)) (fun r s' => r = (vl, vu, vs) ∧ s' = s) E s := by
    unfold Builtin.Slice.sliceFields
    exact wpAny_bind (wpAny_field got dat (x := vl) rfl (wpAny_bind (wpAny_field got dat (x := vu) rfl (wpAny_bind (wpAny_field got dat (x := vs) rfl (wpAny_pure ⟨rfl, rfl⟩))))))
  unfold Builtin.Slice.sliceApplied
  refine wpAny_bind (wpAny_mono fields (fun r s' e => ?_) fun _ _ x => x)
  obtain ⟨rfl, rfl⟩ := e
  exact wpAny_bind (slicePart_ ps (by
    rw [if_neg (by decide)]
    exact wpAny_bind (slicePart_ pl (wpAny_bind (slicePart_ pu (wpAny_bind (wpAny_pure answer)))))))
theorem pick_rev (xs : Array Value) : ((List.range xs.size).filterMap fun (m : Nat) => xs[((xs.size : Int) - 1 + (m : Int) * (-1)).toNat]?).toArray = xs.toList.reverse.toArray := by
  have e : (fun (m : Nat) => xs[((xs.size : Int) - 1 + (m : Int) * (-1)).toNat]?) = fun m => xs[xs.size - 1 - m]? := by
    funext m
    have : ((xs.size : Int) - 1 + (m : Int) * (-1)).toNat = xs.size - 1 - m := by omega
    rw [this]
  rw [e]
  have h := PySem.W.krv_all xs
  rw [← h, ← List.filterMap_reverse, ← PySem.W.krv_range, List.filterMap_map]
  rfl
theorem getItem_tuple_rev {t sl : Addr} {items : Array Value} {vl vu vs : Value} {Q : Value → Shared → Prop} (ht : IsTup s.heap t items) (hs : s.heap.IsSliceOf sl vl vu vs) (pl : IsPart vl none) (pu : IsPart vu none) (ps : IsPart vs (some (-1)))
    (h : Q (.ref s.heap.objs.size) { s with heap := s.heap.push { cls := .type "tuple", data := .seq items.toList.reverse.toArray } })
    (hsz : items.size ≤ sizeLine) : wpAny (model prog w) A (getItem (.ref t) (.ref sl)) Q E s := by
  have ⟨ob, got, cls, _⟩ := id hs
  have fits : sizeOk (.seq items.toList.reverse.toArray) := by simpa [sizeOk] using hsz
  have notAll : ¬ ((((items.size : Int) - 1) == 0 && (-1 : Int) == 1 && items.size == items.size) = true) := by simp
  have body : wpAny (model prog w) A.in1 (Builtin.«tuple.__getitem__» ⟨[.ref t, .ref sl], []⟩) (fun fin r => ∃ v, fin = .done (.ret v) ∧ Q v r) E s := by
    have isS : s.TypeIs (.ref sl) "slice" := ⟨ob, got, cls⟩
    refine wpAny_bind (wpAny_of_eq (a := ((Value.ref t, [Value.ref sl]) : Value × List Value)) rfl ?_)
    show wpAny (model prog w) A.in1 (Builtin.Tuple.tupleItemsOf (.ref t) >>= _) _ _ s
    refine wpAny_bind (tupleItemsOf_ ht (wpAny_bind (wpAny_typeOf isS ?_)))
    rw [if_pos (by decide)]
    refine wpAny_bind (sliceApplied_rev hs pl pu ps ?_)
    dsimp only
    rw [if_neg notAll, pick_rev]
    exact wpAny_bind (m := newObj _ _) (wpAny_newObj_type (wpAny_pure ⟨_, rfl, h⟩) fits)
  have asked := wpAny_call_entry (A := A) PyProof.Rows.slot_tuple_getitem ht.typeIs entry_tuple_getitem body (args_tuple_getitem _ _)
  unfold getItem
  exact wpAny_holding (wpAny_bind (wpAny_sequenceKey ht.typeIs (by decide) (wpAny_bind (wpAny_callSpecial?_slot (name := Str.ofString "__getitem__") ht.typeIs PyProof.Rows.slot_tuple_getitem (wpAny_mono asked (fun _ _ q => wpAny_pure q) fun _ _ e => e)))))
end
end HT
namespace Vf
open PySem PySem.Spec PyProof.Rows L2
@[irreducible] def rRevT (K : PySem.W.Frag) (x : V) (H : Hp) (Q : VK) : Prop := ∃ a xs, x = .ref a ∧ SqT K H a xs ∧ ∀ p, H p = none → Q (.ref p) (upd H p (.tup xs.reverse))
def tRevT (K : PySem.W.Frag) (te : TE) : TE := fun σ H Q => te σ H fun x H1 => rRevT K x H1 Q
theorem pe_revT {X : Cx} {e : Expr} {te : TE} {k : Nat} {p1 p2 p3 pos : Pos} (he : PE X e te) : PE X (.Subscript e (.Slice none none (some (.UnaryOp .USub (.Constant (.int 1) k p1) p2)) p3) pos) (tRevT X.K te) := by
  have back : PO X (some (.UnaryOp .USub (.Constant (.int 1) k p1) p2)) (tPart (tUn (rU fun i => .int (-i)) (tC (.int 1)))) := po_some (pe_un un_neg pe_int)
  have only {σ : L2.St} {H : Hp} : tPart (tUn (rU fun i => .int (-i)) (tC (.int 1))) σ H (fun o G => o = some (-1) ∧ G = H) := ⟨1, rfl, -1, rfl, rfl, rfl⟩
  unfold tRevT rRevT
  refine .mk fun pins s σ H Q I h => Subscript_ (thn (he.run pins s σ H _ I h) ?_)
  rintro _ s1 ⟨_, H1, I1, rel, a, xs, rfl, isT, q⟩
  cases rel
  refine wpAny_Slice (thn (po_none.run pins s1 σ H1 (fun o G => o = none ∧ G = H1) I1 ⟨rfl, rfl⟩) ?_)
  rintro lo s2 ⟨_, _, I2, noLo, rfl, rfl⟩
  refine thn (po_none.run pins s2 σ _ (fun o G => o = none ∧ G = _) I2 ⟨rfl, rfl⟩) ?_
  rintro hi s3 ⟨_, _, I3, noHi, rfl, rfl⟩
  refine thn (back.run pins s3 σ _ _ I3 only) ?_
  rintro by_ s4 ⟨_, _, I4, one, rfl, rfl⟩
  have I5 := I4.kept (h' := s4.heap.push { cls := .type "slice", data := .fields #[lo, hi, by_] }) (t' := s4.toks) fun b ob q => Heap.get?_push_of_some _ q
  have ⟨vs, rv, inT, few⟩ := I5.tuple isT
  have size : vs.toArray.size ≤ sizeLine := by rw [List.size_toArray, ← rv.length]; exact few
  refine tail_any (ops := [.ref a, .ref s4.heap.objs.size]) inT.typeIs (PyProof.Rows.slot_tuple_getitem.lookup) (HT.getItem_tuple_rev inT (Heap.IsSliceOf.new _ lo hi by_) noLo noHi one ?_ size) (by with_unfolding_all rfl)
  have laid : xs.reverse.length ≤ sizeLine := by simpa using few
  exact ⟨.ref _, _, I5.laid (t' := s4.toks) (o := .tup xs.reverse) (fun b ob q => Heap.get?_push_of_some _ q) (Nat.le_refl _) ⟨laid, _, rv.reverse, IsTup.new _ _⟩, rfl, q _ (I5.hok.fresh (Nat.le_refl _))⟩
theorem revT {K : PySem.W.Frag} {H : Hp} {a : Addr} {xs : List V} {Q : VK} (h : H a = some (.tup xs)) (q : ∀ p H1, H p = none → Kp N0 H H1 → H1 p = some (.tup xs.reverse) → Q (.ref p) H1) : rRevT K (.ref a) H Q := by
  unfold rRevT
  exact ⟨a, xs, rfl, SqT.of h, fun p hp => q p _ hp (.new hp) upd_same⟩
end Vf
/-! ### a walk over a list or a tuple; enumerate of a tuple -/
namespace Vf
open PySem PySem.Spec PyProof.Rows L2
def iSeq (K : PySem.W.Frag) (tl : TE) : TI := fun σ H R => tl σ H fun x H1 => ∃ a, x = .ref a ∧ (((∃ xs, SqL K H1 a xs) ∧ R (Itl K a) H1) ∨ ((∃ xs, SqT K H1 a xs) ∧ R (Itt K a) H1))
theorem pi_seq {X : Cx} {tg l : Expr} {tl : TE} (hl : PE X l tl) : PI X tg l (iSeq X.K tl) := by
  refine ⟨fun pins s σ H R I h => thn (hl.run pins s σ H _ I h) fun v s1 q0 => ?_⟩
  obtain ⟨x, H1, I1, r1, a, e, q⟩ := q0
  subst e
  cases r1
  have fr : ∀ b, b ∈ [s1.heap.objs.size] → s1.heap.objs.size ≤ b := fun b hb => by simp at hb; omega
  rcases q with ⟨⟨xs, hq⟩, q⟩ | ⟨⟨xs, hq⟩, q⟩
  · obtain ⟨its, rv, p, hz⟩ := I1.list hq
    refine wpAny_pyIter_list p.isList ⟨_, [s1.heap.objs.size], _, _, H1, rfl, I1.kept (t' := s1.toks) fun b o e => Heap.get?_push_of_some _ e, turn_list a _, ⟨_, Heap.get?_push_size _ rfl, rfl, rfl⟩, fun b hb => ?_, q⟩
    have le := fr b hb
    exact I1.fpOk le (I1.hok.fresh le)
  · obtain ⟨its, rv, p, hz⟩ := I1.tuple hq
    refine wpAny_pyIter_tuple (show s1.heap.IsTuple a its.toArray from p) ⟨_, [s1.heap.objs.size], _, _, H1, rfl, I1.kept (t' := s1.toks) fun b o e => Heap.get?_push_of_some _ e, turn_tuple a _, ⟨_, Heap.get?_push_size _ rfl, rfl, rfl⟩, fun b hb => ?_, q⟩
    have le := fr b hb
    exact I1.fpOk le (I1.hok.fresh le)
/-- the cells that enumerate(v) makes -/
def enN (n : Addr) : Obj := { cls := .type "enumerate", data := .fields #[.none, .bool false, .ref n, rawInt 0, .none, .none] }
theorem en_new {v : Value} {o : Obj} {Z : Heap → Prop} (B : Begins v o Z) :
    Meets (Builtin.«enumerate.__new__» ⟨[.type "enumerate", v], []⟩) (fun _ R s => Z s.heap ∧ R (.ok (.ret (.ref (s.heap.push o).objs.size))) { s with heap := (s.heap.push o).push (enN s.heap.objs.size) }) :=
  .of_wp fun prog w A R s h => by
    obtain ⟨hp, g, d, tk, os⟩ := s
    obtain ⟨z1, z2⟩ := h
    have z3 := sub_enumerate
    have z4 : ∀ {A' : Around} {E : Value → Shared → Prop} {Q : Value → Shared → Prop}, Q (.ref hp.objs.size) ⟨hp.push o, g, d, tk, os⟩ → wpAny (model prog w) A' (pyIter v) Q E ⟨hp, g, d, tk, os⟩ :=
      fun q => B.iter prog w _ _ ⟨hp, g, d, tk, os⟩ _ z1 q
    wp_walk using z4
    refine wpAny_stack_any fun st => wpAny_pure ?_
    split
    · rename_i c _ _ _ _ _
      cases (c == Value.type "enumerate")
      all_goals
        wp_walk using z4
        exact ⟨_, rfl, z2⟩
    · wp_walk using z4
      exact ⟨_, rfl, z2⟩
theorem en_begins {prog : Program} {w : World} {A : Around} {E : Value → Shared → Prop} {s : Shared} {v : Value} {o : Obj} {Z : Heap → Prop} {Q : Value → Shared → Prop} (B : Begins v o Z) (h1 : Z s.heap)
    (h : ∀ h', h'.get? (s.heap.objs.size + 1) = some (enN s.heap.objs.size) → h'.get? s.heap.objs.size = some o → (∀ b u, s.heap.get? b = some u → h'.get? b = some u) → Q (.ref (s.heap.objs.size + 1)) { s with heap := h' }) :
    wpAny (model prog w) A (call (.type "enumerate") [v]) Q E s := by
  refine callType_new F.called_enumerate (by decide) (F.typeCall_enumerate_1 _) (F.newCall_enumerate_1 _) (fun obj => F.args_object_init_2 obj _) F.entry_enumerate_new (en_new B) ⟨h1, ?_⟩
  have hz : (s.heap.push o).objs.size = s.heap.objs.size + 1 := Heap.size_push ..
  have he := Heap.get?_push_size (s.heap.push o) (o := enN s.heap.objs.size) rfl
  show _ ∧ _
  rw [hz] at he ⊢
  exact ⟨⟨_, he, rfl⟩, h _ he (Heap.get?_push_of_some _ (Heap.get?_push_size _ B.free)) fun b u x => Heap.get?_push_of_some _ (Heap.get?_push_of_some _ x)⟩
def IteT (K : PySem.W.Frag) (a : Addr) : It :=
  ⟨fun i H => ∃ (xs : List V) (x : V), SqT K H a xs ∧ xs[i]? = some x, fun i H v H' => ∃ T x, v = .ref T ∧ H T = none ∧ H' = upd H T (.tup [.int (i : Nat), x]) ∧ ∀ xs, SqT K H a xs → xs[i]? = some x,
    fun i H => ∃ xs : List V, SqT K H a xs ∧ i = xs.length⟩
theorem two_of {c e it : Addr} (m : c ∈ [e, it]) : c = e ∨ c = it := by simpa using m
/-- where the two cells of a walk with numbers stand, at the i-th turn -/
def EnSt (a e it : Addr) (i : Nat) (h : Heap) : Prop := (∃ old, IsEnum h e it ((i : Nat) : Int) old) ∧ h.IsTupleIter it a i ∧ e ≠ it ∧ a ≠ it ∧ e ≠ a
theorem EnSt.lt {a e it c : Addr} {i : Nat} {h : Heap} (st : EnSt a e it i h) (m : c ∈ [e, it]) : c < h.objs.size := by
  obtain ⟨⟨_, ce⟩, ⟨_, ci, _⟩, _⟩ := st
  rcases two_of m with rfl | rfl
  · exact Heap.lt_size ce
  · exact Heap.lt_size ci
theorem turn_enT {P : Program} {w : World} {K : PySem.W.Frag} {elts : List Expr} {kk : Nat} {tpos : Pos} (a e it : Addr) : Turn P w K (.Tuple elts kk tpos) (IteT K a) [e, it] e (EnSt a e it) where
  mem := List.mem_cons_self
  obj := fun _ _ ⟨⟨_, ce⟩, ⟨o, ci, _, d⟩, _⟩ c m => by
    rcases two_of m with rfl | rfl
    · exact ⟨_, ce, nofun⟩
    · exact ⟨o, ci, fun v q => nomatch d.symm.trans q⟩
  keep := fun _ _ _ ⟨⟨old, ce⟩, ci, apart⟩ k => ⟨⟨old, k e List.mem_cons_self _ ce⟩, ci.at (k it (by simp)), apart⟩
  item := fun X eP ew eK calm i pins s σ H E I free st ⟨xs, x, isT, hx⟩ => by
    subst eP ew eK
    have low := fun c (m : c ∈ [e, it]) => st.lt m
    obtain ⟨⟨old, ce⟩, ci, ne1, ne2, ne3⟩ := st
    obtain ⟨vs, rel, at_, _⟩ := I.tuple isT
    obtain ⟨v, hv, rv⟩ := rel.get hx
    have inside : i < vs.toArray.size := by simpa using (List.getElem?_eq_some_iff.mp hv).1
    refine wpAny_pyNext_enum_itemD (Draws.tuple (A := X.A.in1) (I.ok.hd calm) it a ne2 vs.toArray) ce ⟨ci, at_⟩ inside ne1 (by simp [ne1, ne3]) fun v' h' tk p own ci' pair _ same => ?_
    obtain rfl : v' = v := Option.some.inj (p.symm.trans (by simpa using hv))
    refine ⟨_, rfl, wpAny_letOwnedTupleGo_enum (s := { s with heap := h', toks := tk + 1 }) own fun h2 ce' sb => ?_⟩
    have kept (c : Addr) (o : Obj) (nm : c ∉ [e, it]) (q : s.heap.get? c = some o) : h2.get? c = some o := (sb.2 c fun z => nm (by simp [z])).trans (same c o (fun z => nm (by simp [z])) (fun z => nm (by simp [z])) q)
    have new : h2.get? s.heap.objs.size = _ := (sb.2 _ (Nat.ne_of_gt (low e List.mem_cons_self))).trans pair
    have ok : ObjOk X.prog X.w (upd H s.heap.objs.size (.tup [.int (i : Nat), x])) h2 s.heap.objs.size (.tup [.int (i : Nat), x]) :=
      ⟨(by decide : 2 ≤ sizeLine), [.int i tk, v'], .cons ⟨_, rfl⟩ (.cons rv .nil), _, new, rfl, _, rfl⟩
    refine ⟨.ref s.heap.objs.size, _, I.turnedNew kept free (Nat.le_refl _) ok, rfl, ⟨_, x, rfl, I.hok.fresh (Nat.le_refl _), rfl, fun ys hy => ?_⟩, ⟨⟨v', ?_⟩, ci'.1.at fun o q => (sb.2 it ne1.symm).trans q, ne1, ne2, ne3⟩, fun c m => ?_⟩
    · rwa [I.tuple_inj hy isT]
    · rwa [Int.natCast_succ]
    · rw [upd_ne (Nat.ne_of_lt (low c m))]
      exact (free c m).1
  done := fun X eP ew eK calm i pins s σ H E I free ⟨⟨old, ce⟩, ci, ne1, ne2, ne3⟩ ⟨xs, isT, last⟩ => by
    subst eP ew eK
    obtain ⟨vs, rel, at_, _⟩ := I.tuple isT
    obtain ⟨f0, f1, _, f3, f4, f5⟩ := free it (by simp)
    obtain rfl : i = vs.toArray.size := by rw [last, rel.length, List.size_toArray]
    exact wpAny_pyNext_enum_endD (Draws.tuple (A := X.A.in1) (I.ok.hd calm) it a ne2 vs.toArray) ce ⟨ci, at_⟩ fun _ eb => ⟨rfl, I.turned (t' := s.toks) eb f0 f1 f3 f4 f5⟩
  self := fun _ _ _ _ _ ⟨⟨_, ce⟩, _⟩ h => wpAny_pyIter_enum ce h
def iEnT (K : PySem.W.Frag) (ta : TA) : TI := fun σ H R => ta σ H fun vs H1 => ∃ a xs, vs = [.ref a] ∧ SqT K H1 a xs ∧ R (IteT K a) H1
theorem pi_enT {X : Cx} {e : Expr} {ta : TA} {p pos tpos : Pos} {elts : List Expr} {kk : Nat} (hg : Gl X "enumerate") (hm : X.mg "enumerate" = none) (ha : PA X [e] ta) (plain : starEach [e] X.env = [(false, eval e X.env)] := by rfl) :
    PI X (.Tuple elts kk tpos) (.Call (.Name "enumerate" p) [e] [] pos) (iEnT X.K ta) := by
  refine .mk fun pins s σ H R I h => ?_
  have given := ha.run pos pins s σ H _ I h
  refine Call_ (ld_blt I hg hm boot_enumerate (PyProof.Rows.callWith_type1 (thn given ?_) plain rfl))
  rintro _ s1 ⟨_, H1, I1, rel, a, xs, rfl, isT, q⟩
  obtain ⟨u, rfl, eu⟩ := vals1 rel
  obtain rfl : u = Value.ref a := eu
  obtain ⟨vs, _, at_, _⟩ := I1.tuple isT
  have low : a < s1.heap.objs.size := PyProof.Rows.IsTup.lt at_
  refine en_begins (begins_tuple a vs.toArray) at_ fun h' ce ci same => wpAny_pyIter_enum ce ?_
  have apart : s1.heap.objs.size + 1 ≠ s1.heap.objs.size ∧ a ≠ s1.heap.objs.size ∧ s1.heap.objs.size + 1 ≠ a := ⟨Nat.succ_ne_self _, Nat.ne_of_lt low, (Nat.ne_of_lt (Nat.lt_succ_of_lt low)).symm⟩
  refine ⟨_, _, _, _, H1, rfl, I1.kept (t' := s1.toks) same, turn_enT a (s1.heap.objs.size + 1) s1.heap.objs.size, ⟨⟨.none, ce⟩, ⟨_, ci, rfl, rfl⟩, apart⟩, fun c m => ?_, q⟩
  have above : s1.heap.objs.size ≤ c := by rcases two_of m with rfl | rfl <;> first | exact Nat.le_refl _ | exact Nat.le_add_right _ _
  exact I1.fpOk above (I1.hok.fresh above)
theorem walk_enT {K : PySem.W.Frag} {a : Addr} {xs : List V} : Walk (IteT K a) xs.length (fun H => SqT K H a xs) (YPair (fun i => some (.int (i : Nat))) (fun i => xs[i]?)) :=
  ⟨fun i _ hi q => ⟨xs, xs[i], q, List.getElem?_eq_getElem hi⟩, fun _ q => ⟨xs, q, rfl⟩, fun i _ _ _ _ q ⟨T, x, hv, hp, hH, at_⟩ => ⟨T, .int (i : Nat), x, hv, hp, hH, rfl, at_ xs q⟩⟩
end Vf
/-! ### a comprehension within a comprehension -/
namespace C8b
open PySem L2
def rl (env : Env) : Str × NameKind → Str × NameKind := fun (n, k) => if (k == NameKind.free && env.scope.kind == .function && env.kindOf n == some .cell) then (n, NameKind.cell) else (n, k)
theorem rl_two (env : Env) (n : Str) (k : NameKind) : rl env (n, k) = (n, .cell) ∨ rl env (n, k) = (n, k) := by
  unfold rl
  by_cases hc : (k == NameKind.free && env.scope.kind == .function && env.kindOf n == some .cell) = true
  · exact .inl (if_pos hc)
  · exact .inr (if_neg hc)
theorem rl_look {env : Env} : ∀ {names : List (Str × NameKind)} {x : Str}, (names.lookup x = some .cell ∨ names.lookup x = some .free) → ((names.map (rl env)).lookup x = some .cell ∨ (names.map (rl env)).lookup x = some .free)
  | [], _, h => by simp at h
  | (n, k) :: r, x, h => by
    have ih := @rl_look env r x
    rw [List.map_cons]
    rcases rl_two env n k with e | e <;> rw [e] <;> cases hx : x == n <;> simp only [List.lookup_cons, hx] at h ⊢
    · exact ih h
    · simp
    · exact ih h
    · exact h
theorem blk2 {N : List Str} {sc scope : Scope} {own : List (Str × Nat)} {env : Env} (h : BlkOk N sc scope own) : BlkOk N (relabel sc env) scope own :=
  ⟨h.kind, h.uniq, h.ix, fun y hy e => rl_look (h.free y hy e), h.own⟩
end C8b
/-! ### walks within a comprehension, the written part told by name -/
namespace Vf
open PySem PySem.Spec PyProof.Rows L2
section
variable {X : Cx} {K : PySem.W.Frag} {tg l e e2 : Expr} {tl : TE} {ta : TA} {p pos tpos : Pos} {elts : List Expr} {kk : Nat}
theorem pi_listK (hl : PE X l tl) (h : X.K = K := by rfl) : PI X tg l (iList K tl) := by rw [← h]; exact pi_list hl
theorem pi_tupK (hl : PE X l tl) (h : X.K = K := by rfl) : PI X tg l (iTup K tl) := by rw [← h]; exact pi_tup hl
theorem pi_seqK (hl : PE X l tl) (h : X.K = K := by rfl) : PI X tg l (iSeq K tl) := by rw [← h]; exact pi_seq hl
theorem pi_zipLTK (hg : Gl X "zip") (hm : X.mg "zip" = none) (ha : PA X [e, e2] ta) (hs : starEach [e, e2] X.env = (false, eval e X.env) :: starEach [e2] X.env := by rfl) (hpl : (backTo pos (starEach [e2] X.env)).any (·.1) = false := by rfl) (h : X.K = K := by rfl) :
    PI X (.Tuple elts kk tpos) (.Call (.Name "zip" p) [e, e2] [] pos) (iZipLT K ta) := by rw [← h]; exact pi_zipLT hg hm ha ⟨hs, hpl⟩
theorem pi_zipAK (hg : Gl X "zip") (hm : X.mg "zip" = none) (ha : PA X [e, e2] ta) (hs : starEach [e, e2] X.env = (false, eval e X.env) :: starEach [e2] X.env := by rfl) (hpl : (backTo pos (starEach [e2] X.env)).any (·.1) = false := by rfl) (h : X.K = K := by rfl) :
    PI X (.Tuple elts kk tpos) (.Call (.Name "zip" p) [e, e2] [] pos) (RZ.iZipA K ta) := by rw [← h]; exact RZ.pi_zipA hg hm ha hs hpl
theorem pi_zipK (hg : Gl X "zip") (hm : X.mg "zip" = none) (ha : PA X [e, e2] ta) (hs : starEach [e, e2] X.env = (false, eval e X.env) :: starEach [e2] X.env := by rfl) (hpl : (backTo pos (starEach [e2] X.env)).any (·.1) = false := by rfl) (h : X.K = K := by rfl) :
    PI X (.Tuple elts kk tpos) (.Call (.Name "zip" p) [e, e2] [] pos) (iZip K ta) := by rw [← h]; exact pi_zip hg hm ha hs hpl
end
end Vf
/-! ### rows as data: == and != -/
namespace Vf
open PySem PySem.Spec PyProof.Rows L2
def di (ns : List Int) : List PyData := ns.map PyData.int
theorem dpAll_ints {K : PySem.W.Frag} {H : Hp} : ∀ ns : List Int, DpAll K H (ns.map V.int) (di ns)
  | [] => .nil
  | n :: r => .cons (.int n) (dpAll_ints r)
theorem canLay_di : ∀ ns : List Int, PyData.canLayAll0 (di ns) = true
  | [] => by simp [di, PyData.canLayAll0]
  | n :: r => by
    have := canLay_di r
    simp only [di, List.map_cons, PyData.canLayAll0, PyData.canLay0, Bool.true_and] at this ⊢
    exact this
theorem depth_di : ∀ ns : List Int, PyData.depthAll (di ns) ≤ 2
  | [] => by simp [di, PyData.depthAll]
  | n :: r => by
    have := depth_di r
    simp only [di, List.map_cons, PyData.depthAll, PyData.depth] at this ⊢
    omega
theorem shaped_row (ns : List Int) : SeqAt.shaped (.tuple (di ns)) = true := by
  have h1 := canLay_di ns
  have h2 := depth_di ns
  unfold SeqAt.shaped
  rw [Bool.and_eq_true]
  exact ⟨by simpa [PyData.canLay0] using h1, decide_eq_true (by simp only [PyData.depth]; omega)⟩
theorem shaped_list (ns : List Int) : SeqAt.shaped (.list (di ns)) = true := by
  have h1 := canLay_di ns
  have h2 := depth_di ns
  unfold SeqAt.shaped
  rw [Bool.and_eq_true]
  exact ⟨by simpa [PyData.canLay0] using h1, decide_eq_true (by simp only [PyData.depth]; omega)⟩
def drs (rs : List (List Int)) : List PyData := rs.map fun ns => .tuple (di ns)
theorem canLay_drs : ∀ rs : List (List Int), PyData.canLayAll0 (drs rs) = true
  | [] => by simp [drs, PyData.canLayAll0]
  | n :: r => by
    have h1 := canLay_drs r
    have h2 := canLay_di n
    simp only [drs, List.map_cons, PyData.canLayAll0, PyData.canLay0, h2, Bool.true_and] at h1 ⊢
    exact h1
theorem depth_drs : ∀ rs : List (List Int), PyData.depthAll (drs rs) ≤ 5
  | [] => by simp [drs, PyData.depthAll]
  | n :: r => by
    have h1 := depth_drs r
    have h2 := depth_di n
    simp only [drs, List.map_cons, PyData.depthAll, PyData.depth] at h1 ⊢
    omega
theorem shaped_rows (rs : List (List Int)) : SeqAt.shaped (.list (drs rs)) = true := by
  have h1 := canLay_drs rs
  have h2 := depth_drs rs
  unfold SeqAt.shaped
  rw [Bool.and_eq_true]
  exact ⟨by simpa [PyData.canLay0] using h1, decide_eq_true (by simp only [PyData.depth]; omega)⟩
theorem shaped_rowsT (rs : List (List Int)) : SeqAt.shaped (.tuple (drs rs)) = true := by
  have h1 := canLay_drs rs
  have h2 := depth_drs rs
  unfold SeqAt.shaped
  rw [Bool.and_eq_true]
  exact ⟨by simpa [PyData.canLay0] using h1, decide_eq_true (by simp only [PyData.depth]; omega)⟩
section
variable {K : PySem.W.Frag} {H : Hp} {a b : Addr} {ns ms : List Int} {Q : VK}
theorem neRow (h1 : H a = some (.tup (ns.map V.int))) (h2 : H b = some (.tup (ns.map V.int))) (q : Q (.bl false) H) : rNeI K (.ref a) (.ref b) H Q := by
  unfold rNeI
  refine ⟨_, _, .tup (SqT.of h1) (dpAll_ints ns), .tup (SqT.of h2) (dpAll_ints ns), shaped_row ns, shaped_row ns, ?_⟩
  rw [SeqAt.eqv_refl _ (SeqAt.canLay_of_shaped (shaped_row ns))]
  exact q
theorem eqRow (h1 : H a = some (.tup (ns.map V.int))) (h2 : H b = some (.tup (ns.map V.int))) (q : Q (.bl true) H) : rEqI K (.ref a) (.ref b) H Q := by
  unfold rEqI
  refine ⟨_, _, .tup (SqT.of h1) (dpAll_ints ns), .tup (SqT.of h2) (dpAll_ints ns), shaped_row ns, shaped_row ns, ?_⟩
  rw [SeqAt.eqv_refl _ (SeqAt.canLay_of_shaped (shaped_row ns))]
  exact q
theorem eqIntsL (h1 : SqL K H a (ns.map V.int)) (h2 : SqL K H b (ns.map V.int)) (q : Q (.bl true) H) : rEqI K (.ref a) (.ref b) H Q := by
  unfold rEqI
  refine ⟨_, _, .lst h1 (dpAll_ints ns), .lst h2 (dpAll_ints ns), shaped_list ns, shaped_list ns, ?_⟩
  rw [SeqAt.eqv_refl _ (SeqAt.canLay_of_shaped (shaped_list ns))]
  exact q
/-- the places of rows -/
def Rws (H : Hp) : List V → List (List Int) → Prop
  | [], [] => True
  | v :: vs, r :: rs => (∃ p, v = .ref p ∧ H p = some (.tup (r.map V.int))) ∧ Rws H vs rs
  | _, _ => False
theorem Rws.kp {S : Addr → Prop} {H H1 : Hp} (k : Kp S H H1) : ∀ {vs : List V} {rs : List (List Int)}, Rws H vs rs → Rws H1 vs rs
  | [], [], _ => trivial
  | _ :: _, _ :: _, ⟨⟨p, e, h⟩, t⟩ => ⟨⟨p, e, k.tup _ _ h⟩, Rws.kp k t⟩
theorem Rws.len {H : Hp} : ∀ {vs : List V} {rs : List (List Int)}, Rws H vs rs → vs.length = rs.length
  | [], [], _ => rfl
  | _ :: _, _ :: _, ⟨_, t⟩ => by rw [List.length_cons, List.length_cons, Rws.len t]
theorem Rws.get {H : Hp} : ∀ {vs : List V} {rs : List (List Int)} {i : Nat} {v : V}, Rws H vs rs → vs[i]? = some v → ∃ p r, v = .ref p ∧ rs[i]? = some r ∧ H p = some (.tup (r.map V.int))
  | [], [], i, v, _, h => by simp at h
  | u :: vs, r :: rs, 0, v, ⟨⟨p, e, h⟩, t⟩, hv => by
    cases hv
    exact ⟨p, r, e, rfl, h⟩
  | u :: vs, r :: rs, i + 1, v, ⟨_, t⟩, hv => Rws.get (i := i) t (by simpa using hv)
theorem Rws.of {H : Hp} : ∀ {vs : List V} {rs : List (List Int)}, vs.length = rs.length → (∀ (i : Nat) (v : V) (r : List Int), vs[i]? = some v → rs[i]? = some r → ∃ p, v = .ref p ∧ H p = some (.tup (r.map V.int))) → Rws H vs rs
  | [], [], _, _ => trivial
  | [], _ :: _, h, _ => by simp at h
  | _ :: _, [], h, _ => by simp at h
  | v :: vs, r :: rs, h, f => ⟨f 0 v r rfl rfl, Rws.of (by simpa using h) fun i v r hv hr => f (i + 1) v r (by simpa using hv) (by simpa using hr)⟩
theorem Rws.dp {H : Hp} : ∀ {vs : List V} {rs : List (List Int)}, Rws H vs rs → DpAll K H vs (drs rs)
  | [], [], _ => .nil
  | _ :: _, r :: _, ⟨⟨p, e, h⟩, t⟩ => by
    subst e
    exact .cons (.tup (SqT.of h) (dpAll_ints r)) (Rws.dp t)
theorem Rws.app {H : Hp} : ∀ {vs ws : List V} {rs ss : List (List Int)}, Rws H vs rs → Rws H ws ss → Rws H (vs ++ ws) (rs ++ ss)
  | [], _, [], _, _, t => t
  | _ :: _, _, _ :: _, _, ⟨x, t⟩, u => ⟨x, Rws.app t u⟩
theorem eqRowsL {vs ws : List V} {rs : List (List Int)} (h1 : SqL K H a vs) (h2 : SqL K H b ws) (r1 : Rws H vs rs) (r2 : Rws H ws rs) (q : Q (.bl true) H) : rEqI K (.ref a) (.ref b) H Q := by
  unfold rEqI
  refine ⟨_, _, .lst h1 r1.dp, .lst h2 r2.dp, shaped_rows rs, shaped_rows rs, ?_⟩
  rw [SeqAt.eqv_refl _ (SeqAt.canLay_of_shaped (shaped_rows rs))]
  exact q
/-- xs != [], a list of ints -/
theorem neNil (h1 : SqL K H a (ns.map V.int)) (h2 : SqL K H b []) (q : Q (.bl (!ns.isEmpty)) H) : rNeI K (.ref a) (.ref b) H Q := by
  unfold rNeI
  refine ⟨_, _, .lst h1 (dpAll_ints ns), .lst (ds := []) h2 .nil, shaped_list ns, shaped_list [], ?_⟩
  have e : PyData.eqv (.list (di ns)) (.list []) = ns.isEmpty := by
    cases ns with
    | nil => simp [di, PyData.eqv, PyData.eqvAll]
    | cons n r => simp [di, PyData.eqv, PyData.eqvAll]
  rw [e]
  exact q
theorem repL {i : Int} {k : Int} (h : H a = some (.lst [.int i])) (h0 : 0 ≤ k) (h1 : k ≤ 1000) (q : ∀ p H1, H p = none → Kp N0 H H1 → H1 p = some (.lst ((List.replicate k.toNat i).map V.int)) → Q (.ref p) H1) : rRepLI (.ref a) (.int k) H Q := by
  unfold rRepLI
  refine ⟨a, k, [.int i], rfl, rfl, h, by omega, by omega, Nat.le_trans (by simp; omega : [V.int i].length * k.toNat ≤ 1000) (by decide), fun p hp => q p _ hp (.new hp) ?_⟩
  rw [upd_same, ← rep_one]
end
end Vf
namespace Vf
open PySem PySem.Spec PyProof.Rows L2
section
variable {J : It} {n : Nat} {Gw : Hp → Prop} {Y : Nat → Hp → V → Hp → Prop} {g : TG} {te : TE} {vs : List Nat} {σ : L2.St} {H1 : Hp} {Qd : Addr → Hp → Prop}
theorem rw_up {H : Hp} {p D : Addr} {r : List Int} {zs zs' : List V} (h : H p = some (.tup (r.map V.int))) (hd : H D = some (.lst zs)) : upd H D (.lst zs') p = some (.tup (r.map V.int)) := by
  rw [upd_ne (ne_of h hd (by intro z; cases z))]
  exact h
/-- pure: the items are rows, told by their place -/
theorem lc_rows (w : Walk J n Gw Y) (f : Nat → List Int) (hn : n ≤ 100000) (hw : ∀ H, Kp N0 H1 H → Gw H)
    (turn : ∀ i x H H', i < n → Kp N0 H1 H → Y i H x H' → ∀ R : VK, (∀ p H4, Kp N0 H H4 → H4 p = some (.tup ((f i).map V.int)) → R (.ref p) H4) → g x (wipe σ vs) H' fun σ2 H2 => wipe σ2 vs = wipe σ vs ∧ te σ2 H2 R)
    (fin : ∀ D H' ys, H1 D = none → Kp N0 H1 H' → H' D = some (.lst ys) → Rws H' ys ((List.range n).map f) → Qd D H') :
    ∀ D, H1 D = none → ∃ W : Nat → Nat → Hp → Prop, (∃ m, W 0 m (upd H1 D (.lst []))) ∧ ∀ i m H, W i m H →
      (J.stop i H ∧ Qd D H) ∨ (J.go i H ∧ ∃ Nx : Hp → Prop, (∀ H', Nx H' → ∃ m', m' < m ∧ W (i + 1) m' H') ∧ ∀ x H', J.yld i H x H' → g x (wipe σ vs) H' fun σ2 H2 => wipe σ2 vs = wipe σ vs ∧ tYes σ2 H2 fun b H3 =>
        if b = true then te σ2 H3 fun y H4 => ∃ acc, H4 D = some (.lst acc) ∧ acc.length < sizeLine ∧ Nx (upd H4 D (.lst (acc ++ [y]))) else Nx H3) :=
  lc_gen (S := N0) w (fun _ => True) (fun i y H => ∃ p, y = .ref p ∧ H p = some (.tup ((f i).map V.int))) (Nat.lt_of_le_of_lt hn (by decide)) trivial (fun _ _ _ _ _ => trivial) (fun H k _ => hw H k)
    (fun _ _ _ _ ⟨p, e, h⟩ k => ⟨p, e, k.tup _ _ h⟩) (fun _ _ _ _ _ _ _ hd ⟨p, e, h⟩ => ⟨p, e, rw_up h hd⟩) (fun _ _ z => z)
    (fun i x H H' hi k _ y R hR => turn i x H H' hi k y R fun p H4 k4 h4 => hR _ _ k4 trivial ⟨p, rfl, h4⟩)
    (fun D H' ys nD k _ hy hl hp => fin D H' ys nD k hy (Rws.of (by simp [hl]) fun i v r hv hr => by
      obtain ⟨p, e, h⟩ := hp i v hv
      rw [List.getElem?_map] at hr
      have hi : i < n := by rw [← hl]; exact (List.getElem?_eq_some_iff.mp hv).1
      rw [List.getElem?_range hi] at hr
      cases hr
      exact ⟨p, e, h⟩))
theorem rws_ex {H : Hp} {p : List Int → Prop} : ∀ {ys : List V}, (∀ (i : Nat) (y : V), ys[i]? = some y → ∃ q r, y = .ref q ∧ H q = some (.tup (r.map V.int)) ∧ p r) → ∃ rs : List (List Int), Rws H ys rs ∧ ∀ r ∈ rs, p r
  | [], _ => ⟨[], trivial, fun _ h => by simp at h⟩
  | y :: ys, h => by
    obtain ⟨rs, t, hp⟩ := rws_ex (ys := ys) fun i u hu => h (i + 1) u (by simpa using hu)
    obtain ⟨q, r, e, hq, pr⟩ := h 0 y (by simp)
    exact ⟨r :: rs, ⟨⟨q, e, hq⟩, t⟩, fun u hu => by
      rcases List.mem_cons.mp hu with rfl | hu
      · exact pr
      · exact hp u hu⟩
/-- with the dice: the items are rows of which p holds -/
theorem lc_rowsD {a : Addr} (w : Walk J n Gw Y) (p : List Int → Prop) (hn : n ≤ 100000) (hd : Dc a H1) (hw : ∀ H, DR a H1 H → Gw H)
    (turn : ∀ i x H H', i < n → DR a H1 H → Y i H x H' → ∀ R : VK, (∀ q r H4, DR a H H4 → H4 q = some (.tup (r.map V.int)) → p r → R (.ref q) H4) → g x (wipe σ vs) H' fun σ2 H2 => wipe σ2 vs = wipe σ vs ∧ te σ2 H2 R)
    (fin : ∀ D H' ys rs, H1 D = none → DR a H1 H' → H' D = some (.lst ys) → Rws H' ys rs → rs.length = n → (∀ r ∈ rs, p r) → Qd D H') :
    ∀ D, H1 D = none → ∃ W : Nat → Nat → Hp → Prop, (∃ m, W 0 m (upd H1 D (.lst []))) ∧ ∀ i m H, W i m H →
      (J.stop i H ∧ Qd D H) ∨ (J.go i H ∧ ∃ Nx : Hp → Prop, (∀ H', Nx H' → ∃ m', m' < m ∧ W (i + 1) m' H') ∧ ∀ x H', J.yld i H x H' → g x (wipe σ vs) H' fun σ2 H2 => wipe σ2 vs = wipe σ vs ∧ tYes σ2 H2 fun b H3 =>
        if b = true then te σ2 H3 fun y H4 => ∃ acc, H4 D = some (.lst acc) ∧ acc.length < sizeLine ∧ Nx (upd H4 D (.lst (acc ++ [y]))) else Nx H3) :=
  lc_gen (S := At a) w (Dc a) (fun _ y H => ∃ q r, y = .ref q ∧ H q = some (.tup (r.map V.int)) ∧ p r) (Nat.lt_of_le_of_lt hn (by decide)) hd (fun H D o h d => d.upd_ne (hd.ne h)) (fun H k d => hw H ⟨k, d⟩)
    (by rintro i y H H' ⟨q, r, e, h, pr⟩ k; exact ⟨q, r, e, k.tup _ _ h, pr⟩) (by rintro i y H D zs zs' _ hd ⟨q, r, e, h, pr⟩; exact ⟨q, r, e, rw_up h hd, pr⟩) (fun D h z => hd.ne h z.symm)
    (fun i x H H' hi k d y R hR => turn i x H H' hi ⟨k, d⟩ y R fun q r H4 k4 h4 pr => hR _ _ k4.kp k4.dc ⟨q, r, rfl, h4, pr⟩)
    (fun D H' ys hDn k d hy hl hp => by
      obtain ⟨rs, t, hz⟩ := rws_ex hp
      exact fin D H' ys rs hDn ⟨k, d⟩ hy t (by rw [← t.len, hl]) hz)
end
end Vf
namespace Vf
open PySem PySem.Spec PyProof.Rows L2
theorem walk_tupN {K : PySem.W.Frag} {a : Addr} {xs : List V} {n : Nat} (h : xs.length = n) : Walk (Itt K a) n (fun H => SqT K H a xs) (YAt xs) := by subst h; exact walk_tup
theorem walk_listN {K : PySem.W.Frag} {a : Addr} {xs : List V} {n : Nat} (h : xs.length = n) : Walk (Itl K a) n (fun H => SqL K H a xs) (YAt xs) := by subst h; exact walk_list
theorem walk_rangeN {lo : Int} {m n : Nat} (h : m = n) : Walk (Itr lo m) n (fun _ => True) (YFn fun i => .int (lo + (i : Int))) := by subst h; exact walk_range
end Vf
/-! ### tuples that may be the module's own: rows of its tables -/
namespace Vf
open PySem PySem.Spec PyProof.Rows L2
section
variable {H : Hp} {K : PySem.W.Frag} {us : List V} {Q : VK} {p x : Addr} {xs ys : List V} {lo hi : Option Int}
theorem tyS {a : Addr} (h : SqT K H a xs) : TyX K H (.ref a) (.type "tuple") := by
  rcases h with (h | ⟨o, h⟩) | ⟨o, _, _, h, c, _⟩
  · exact .base (.tup h)
  · exact .fTuple h
  · exact .kTuple h c
theorem lenS (e : us = [.ref p]) (h : SqT K H p ys) (q : Q (.int ys.length) H) : rLen K us H Q := by
  unfold rLen
  exact ⟨p, ys, e, .inr h, q⟩
theorem tupS (e : us = [.ref p]) (h : SqT K H p ys) (q : Q (.ref p) H) : rTupOf K us H Q := by
  unfold rTupOf
  exact ⟨p, ys, e, .inr ⟨h, q⟩⟩
theorem slS (h : SqT K H x xs) (nw : ¬ (HT.sIx xs.length 0 lo = 0 ∧ HT.sIx xs.length xs.length hi = xs.length)) (q : ∀ p H1, Kp N0 H H1 → H1 p = some (.tup (cutV xs lo hi)) → Q (.ref p) H1) : rSlI K (.ref x) lo hi H Q := by
  unfold rSlI
  exact ⟨x, xs, rfl, h, fun w => absurd w nw, fun _ => rd_new fun p H1 _ e h1 => q p H1 e h1⟩
theorem nw1 (h : 0 < xs.length) : ¬ (HT.sIx xs.length 0 (some 1) = 0 ∧ HT.sIx xs.length xs.length hi = xs.length) := by
  rintro ⟨w, _⟩
  rw [show (some (1 : Int)) = some ((1 : Nat) : Int) from rfl, HT.sIx_nat] at w
  omega
end
def RwK (K : PySem.W.Frag) (H : Hp) : List V → List (List Int) → Prop
  | [], [] => True
  | v :: vs, r :: rs => (∃ p, v = .ref p ∧ SqT K H p (r.map V.int)) ∧ RwK K H vs rs
  | _, _ => False
section
variable {K : PySem.W.Frag}
theorem RwK.of {H : Hp} : ∀ {vs : List V} {rs : List (List Int)}, Rws H vs rs → RwK K H vs rs
  | [], [], _ => trivial
  | _ :: _, _ :: _, ⟨⟨p, e, h⟩, t⟩ => ⟨⟨p, e, SqT.of h⟩, RwK.of t⟩
theorem RwK.kp {S : Addr → Prop} {H H1 : Hp} (k : Kp S H H1) : ∀ {vs : List V} {rs : List (List Int)}, RwK K H vs rs → RwK K H1 vs rs
  | [], [], _ => trivial
  | _ :: _, _ :: _, ⟨⟨p, e, h⟩, t⟩ => ⟨⟨p, e, k.sqT h⟩, RwK.kp k t⟩
theorem RwK.len {H : Hp} : ∀ {vs : List V} {rs : List (List Int)}, RwK K H vs rs → vs.length = rs.length
  | [], [], _ => rfl
  | _ :: _, _ :: _, ⟨_, t⟩ => by rw [List.length_cons, List.length_cons, RwK.len t]
theorem RwK.get {H : Hp} : ∀ {vs : List V} {rs : List (List Int)} {i : Nat} {v : V}, RwK K H vs rs → vs[i]? = some v → ∃ p r, v = .ref p ∧ rs[i]? = some r ∧ SqT K H p (r.map V.int)
  | [], [], _, _, _, h => by simp at h
  | _ :: _, r :: _, 0, _, ⟨⟨p, e, h⟩, _⟩, hv => by
    cases hv
    exact ⟨p, r, e, rfl, h⟩
  | _ :: _, _ :: _, i + 1, _, ⟨_, t⟩, hv => RwK.get (i := i) t (by simpa using hv)
theorem RwK.dp {H : Hp} : ∀ {vs : List V} {rs : List (List Int)}, RwK K H vs rs → DpAll K H vs (drs rs)
  | [], [], _ => .nil
  | _ :: _, r :: _, ⟨⟨p, e, h⟩, t⟩ => by
    subst e
    exact .cons (.tup h (dpAll_ints r)) (RwK.dp t)
theorem rwk_ex {H : Hp} : ∀ {ys : List V}, (∀ v ∈ ys, ∃ q r, v = .ref q ∧ SqT K H q (List.map V.int r)) → ∃ rs : List (List Int), RwK K H ys rs
  | [], _ => ⟨[], trivial⟩
  | y :: ys, h => by
    obtain ⟨rs, t⟩ := rwk_ex (ys := ys) fun v hv => h v (List.mem_cons_of_mem _ hv)
    obtain ⟨q, r, e, hq⟩ := h y List.mem_cons_self
    exact ⟨r :: rs, ⟨q, e, hq⟩, t⟩
end
end Vf
/-! ### a def whose last parameter has a default -/
namespace Vf
open PySem PySem.Spec PyProof.Rows L2
def Dfd (K : PySem.W.Frag) (mg : Str → Option Value) (x : Str) (st : Stmt) (ps : List Str) (dvs : List V) : Prop :=
  ∃ f fd ds, C8.Def K mg x st f fd ∧ Binds K fd ps ds ∧ Vals dvs ds
theorem dfd_mk {K : PySem.W.Frag} {h : Heap} {mg : Str → Option Value} (X : K.In h) (G : h.Ns mainGlobals mg) {x : Str} {st : Stmt} {ps : List Str} {f T : Addr} {od an : Option Addr} {sl : Array (Option Value)} {oc kV dc pm cd ct : Value} {o : Obj} {n : Nat} {i : Int} {u : Tok}
    (a : PySem.W.nsIn K mainGlobals x = some (some (.ref f)))
    (l : K.lookup f = some ⟨oc, od, .func (PySem.W.fnOf x x (C8.fnArgs st) (C8.fnBody st) (C8.fnScope st) (.ref T) kV dc pm an cd ct), sl⟩) (c : PySem.W.codeIn K cd x = true) (k : PySem.W.keepIn K (.ref f) = true)
    (t : K.lookup T = some o) (ot : o.data = .seq #[.int i u] n)
    (hb : ∀ (T : Addr) (kV doc pm : Value) (an : Option Addr) (cdv ct : Value) (us its : List Value), us.length + 1 = ps.length → its.length = 1 →
      ∃ k, bindArgs (PySem.W.fnOf x x (C8.fnArgs st) (C8.fnBody st) (C8.fnScope st) (.ref T) kV doc pm an cdv ct) ⟨us, []⟩ = seqItems? (.ref T) >>= k ∧ k (some its.toArray) = pure (ps.zip (us ++ its))) :
    Dfd K mg x st ps [.int i] := by
  refine ⟨f, _, [.int i u], ⟨⟨oc, od, .ref T, kV, dc, pm, an, cd, ct, sl, rfl, l, c⟩, PySem.W.mg_of X G a, k⟩, fun s us X hlen => ?_, .cons ⟨u, rfl⟩ .nil⟩
  obtain ⟨k, e1, e2⟩ := hb T kV dc pm an cd ct us [.int i u] (by rw [List.length_append] at hlen; exact hlen) rfl
  refine BindsTo.of_looks fun M => ?_
  rw [e1]
  exact looks_items X t ot (.of_pure e2)
/-- .. and every call gives all -/
theorem dfd_mk0 {K : PySem.W.Frag} {h : Heap} {mg : Str → Option Value} (X : K.In h) (G : h.Ns mainGlobals mg) {x : Str} {st : Stmt} {ps : List Str} {f T : Addr} {od an : Option Addr} {sl : Array (Option Value)} {oc kV dc pm cd ct : Value} {o : Obj} {n : Nat} {i : Int} {u : Tok}
    (a : PySem.W.nsIn K mainGlobals x = some (some (.ref f)))
    (l : K.lookup f = some ⟨oc, od, .func (PySem.W.fnOf x x (C8.fnArgs st) (C8.fnBody st) (C8.fnScope st) (.ref T) kV dc pm an cd ct), sl⟩) (c : PySem.W.codeIn K cd x = true) (k : PySem.W.keepIn K (.ref f) = true)
    (t : K.lookup T = some o) (ot : o.data = .seq #[.int i u] n)
    (hb : ∀ (T : Addr) (kV doc pm : Value) (an : Option Addr) (cdv ct : Value) (us its : List Value), us.length = ps.length → its.length = 1 →
      ∃ k, bindArgs (PySem.W.fnOf x x (C8.fnArgs st) (C8.fnBody st) (C8.fnScope st) (.ref T) kV doc pm an cdv ct) ⟨us, []⟩ = seqItems? (.ref T) >>= k ∧ k (some its.toArray) = pure (ps.zip us)) :
    Dfd K mg x st ps [] := by
  refine ⟨f, _, [], ⟨⟨oc, od, .ref T, kV, dc, pm, an, cd, ct, sl, rfl, l, c⟩, PySem.W.mg_of X G a, k⟩, fun s us X hlen => ?_, .nil⟩
  obtain ⟨k, e1, e2⟩ := hb T kV dc pm an cd ct us [.int i u] (by simpa using hlen) rfl
  refine BindsTo.of_looks fun M => ?_
  rw [e1, List.append_nil]
  exact looks_items X t ot (.of_pure e2)
end Vf
/-! ### sorted lists of tuples of ints, of any length -/
namespace Vf
open PySem PySem.W PyProof.Rows L2 Builtin
section
variable {prog : Program} {w : World} {A : Around} {s : Shared}
def ItupV (h : Heap) (v : Value) (ns : List Int) : Prop := ∃ (a : Addr) (o : Obj) (its : List Value) (n : Nat), v = .ref a ∧ h.get? a = some o ∧ o.cls = .type "tuple" ∧ o.data = .seq its.toArray n ∧ Vals (ns.map V.int) its
theorem ItupV.keeps {h h' : Heap} {v : Value} {ns : List Int} (x : ItupV h v ns) (k : ∀ b o, h.get? b = some o → o.cls = .type "tuple" → h'.get? b = some o) : ItupV h' v ns := by
  obtain ⟨a, o, its, n, e, g, c, d, r⟩ := x
  exact ⟨a, o, its, n, e, k _ _ g c, c, d, r⟩
theorem kat_ints {fin : Bool} {Q : Bool → Shared → Prop} : ∀ (ns ms : List Int) (us ws : List Value) (i : Nat), Vals (ns.map V.int) us → Vals (ms.map V.int) ws → fin = decide (ns.length < ms.length) → Q (HT.lexLt ns ms) s → KatLex prog w A true fin Q (us.zip ws) i s
  | [], ms, us, ws, i, r, r2, e, h => by
    cases r
    refine kat_nil ?_
    rw [e]
    cases ms with
    | nil => exact h
    | cons m ms => exact h
  | n :: ns, [], us, ws, i, r, r2, e, h => by
    cases r2
    rw [List.zip_nil_right]
    refine kat_nil ?_
    rw [e]
    exact h
  | n :: ns, m :: ms, us, ws, i, r, r2, e, h => by
    rw [List.map_cons] at r r2
    cases r with
    | cons h1 t1 =>
      cases r2 with
      | cons h2 t2 =>
        obtain ⟨a, rfl⟩ := h1
        obtain ⟨b, rfl⟩ := h2
        rw [List.zip_cons_cons]
        rw [HT.lexLt_cons] at h
        refine kat_cons (SeqAt.EqAt.int_int n a m b prog w _ _ ?_)
        refine kat_go (fun e1 => ?_) (fun e1 => ?_)
        · have ex : n = m := by simpa using e1
          rw [if_pos ex] at h
          exact kat_yes (kat_ints ns ms _ _ (i + 1) t1 t2 (by rw [e]; simp) h)
        · have ex : ¬ n = m := by simpa using e1
          rw [if_neg ex] at h
          exact kat_no (TS.oneLt_ints _ h)
theorem itup_cmp {vs : List Value} {k : Value → List Int} (hp : ∀ v ∈ vs, ItupV s.heap v (k v)) : SrtO.Cmp prog w A s (tuples' true) (fun p => p.1 ∈ vs) (SrtO.lt2 fun v u => HT.lexLt (k v) (k u)) := by
  intro p q hm hm'
  have h1 := hp _ hm
  have h2 := hp _ hm'
  show wpAny (model prog w) A (keyLt' (tuples' true) p.1 q.1) (fun r s' => s' = s ∧ r = HT.lexLt (k p.1) (k q.1)) (fun _ _ => False) s
  generalize k p.1 = ns at h1 ⊢
  generalize k q.1 = ms at h2 ⊢
  obtain ⟨a, o, its, n, e, ho, hc, hd, hv⟩ := h1
  obtain ⟨a', o', its', n', e', ho', hc', hd', hv'⟩ := h2
  rw [e, e']
  have l1 := hv.length
  have l2 := hv'.length
  rw [List.length_map] at l1 l2
  exact kat_lt ho hd ho' hd' (kat_ints ns ms its its' 0 hv hv' (by simp [l1, l2]) ⟨rfl, rfl⟩)
theorem itup_firsts {h : Heap} {k : Value → List Int} : ∀ {vs : List Value}, (∀ v ∈ vs, ItupV h v (k v) ∧ k v ≠ []) → ∃ fs, KatTups h vs fs ∧ fs.length = vs.length ∧ ∀ f ∈ fs, ∃ x t, f = Value.int x t
  | [], _ => ⟨[], .nil, rfl, fun _ h => by cases h⟩
  | v :: vs, hv => by
    obtain ⟨fs, t, l, hf⟩ := itup_firsts (vs := vs) fun u hu => hv u (List.mem_cons_of_mem _ hu)
    obtain ⟨⟨a, o, its, n, e, g, c, d, r⟩, ne⟩ := hv v List.mem_cons_self
    generalize k v = ns at r ne
    cases ns with
    | nil => exact absurd rfl ne
    | cons x ns =>
      rw [List.map_cons] at r
      cases r with
      | cons h1 t1 =>
        obtain ⟨u, rfl⟩ := h1
        subst e
        refine ⟨.int x u :: fs, KatTups.cons g c d (by simp) t, by simp [l], fun f hf' => ?_⟩
        rcases List.mem_cons.mp hf' with rfl | hf'
        · exact ⟨x, u, rfl⟩
        · exact hf f hf'
theorem itup_sortable {a : Addr} {vs : List Value} {k : Value → List Int} (h0 : 0 < vs.length) (hp : ∀ v ∈ vs, ItupV s.heap v (k v) ∧ k v ≠ []) (ha : ∀ o, s.heap.get? a = some o → o.cls ≠ .type "tuple") : SrtO.SortableO prog w A s a vs fun v u => HT.lexLt (k v) (k u) := by
  intro h' keep
  have hp' : ∀ v ∈ vs, ItupV h' v (k v) ∧ k v ≠ [] := fun v hm => ⟨(hp v hm).1.keeps fun b o e c => keep b o (fun z => by subst z; exact ha o e c) e, (hp v hm).2⟩
  obtain ⟨fs, h1, h2, h3⟩ := itup_firsts hp'
  refine ⟨tuples' true, fun Q E hq => ?_, itup_cmp fun v hv => (hp' v hv).1⟩
  refine kat_kind (T := .type "int") h1 (by omega) (fun f hm => ?_) (by rfl) ?_
  · obtain ⟨x, t, rfl⟩ := h3 f hm
    exact Looks.now
  · have e : (Value.type "int" != Value.type "tuple") = true := by first | decide +kernel | rfl | decide
    rw [e]
    exact hq
end
end Vf
namespace Vf
open PySem PySem.Spec PyProof.Rows L2
def vint : V → Int
  | .int i => i
  | _ => 0
def contA (H : Hp) (a : Addr) : List Int := match H a with
  | some (.tup vs) => vs.map vint
  | _ => []
theorem contA_of {H : Hp} {a : Addr} {ns : List Int} (h : H a = some (.tup (ns.map V.int))) : contA H a = ns := by
  unfold contA
  rw [h]
  show (ns.map V.int).map vint = ns
  rw [List.map_map]
  exact (List.map_congr_left fun _ _ => rfl).trans (List.map_id ns)
def LexS (b : Bool) (L : List (Addr × List Int)) : Prop := L.Pairwise fun x y => (if b = true then HT.lexLt x.2 y.2 else HT.lexLt y.2 x.2) = false
def rSortTup0 (K : PySem.W.Frag) (b : Bool) : List V → List V → Hp → VK → Prop := fun vs zs H Q => ∃ (a : Addr) (L : List (Addr × List Int)), vs = [.ref a] ∧ zs = (if b = true then [.bl true] else []) ∧ SqL K H a (L.map fun p => V.ref p.1) ∧ (∀ p ∈ L, H p.1 = some (.tup (p.2.map V.int)) ∧ p.2 ≠ []) ∧
  ∀ (L' : List (Addr × List Int)) (p : Addr), L'.Perm L → LexS b L' → H p = none → Q (.ref p) (upd H p (.lst (L'.map fun p => V.ref p.1)))
section
variable {X : Cx}
theorem sortTup_run {b : Bool} {kw : List (Str × Value)} {pins : List (Addr × Obj)} {s : Shared} {σ : L2.St} {H : Hp} {a : Addr} {L : List (Addr × List Int)} {Q : VK} (I : Inv X pins σ H s) (hs : SqL X.K H a (L.map fun p => V.ref p.1)) (hL : ∀ p ∈ L, H p.1 = some (.tup (p.2.map V.int)) ∧ p.2 ≠ [])
    (hk : ∀ a, Builtin.«list.sort» ⟨[.ref a], kw⟩ = Builtin.«list.sort» ⟨[.ref a], [(Str.ofString "reverse", .bool b)]⟩) (ha1 : argsOk "sorted" ⟨[.ref a], kw⟩) (ha2 : ∀ a, argsOk "list.sort" ⟨[a], kw⟩)
    (q : ∀ (L' : List (Addr × List Int)) (p : Addr), L'.Perm L → LexS b L' → H p = none → Q (.ref p) (upd H p (.lst (L'.map fun p => V.ref p.1)))) : wpAny (model X.prog X.w) X.A (call (.builtin "sorted") [.ref a] kw) (EP X pins σ Q) X.xe s := by
  obtain ⟨its, rv, hl, hz⟩ := I.list hs
  rw [show (L.map fun p => V.ref p.1) = (L.map (·.1)).map V.ref by rw [List.map_map]; rfl] at rv hz
  have ei := nts_of rv
  have cont : ∀ p ∈ L, contA H p.1 = p.2 := fun p hp => contA_of (hL p hp).1
  have hp : ∀ v ∈ its, ItupV s.heap v (contA H (adO v)) ∧ contA H (adO v) ≠ [] := fun v hv => by
    rw [ei] at hv
    obtain ⟨t, ht, rfl⟩ := List.mem_map.mp hv
    obtain ⟨p, hp, rfl⟩ := List.mem_map.mp ht
    rw [show adO (Value.ref p.1) = p.1 from rfl, cont p hp]
    obtain ⟨_, its2, r2, o, ho, hc, n, hd⟩ := I.hok _ _ (hL p hp).1
    exact ⟨⟨p.1, o, its2, n, rfl, ho, hc, hd, r2⟩, (hL p hp).2⟩
  refine SrtR.sorted_ordK hk ha1 ha2 (NtL.swo_lexL fun v => contA H (adO v)) hl.isList (by rw [← rv.length]; exact hz) (fun h2 h₁ a' ha kk => ?_) fun out h1 h2 => ?_
  · refine itup_sortable (s := { s with heap := h₁ }) (by omega) (fun v hv => ⟨(hp v hv).1.keeps fun b o e _ => (kk b o e).2, (hp v hv).2⟩) fun o e => ?_
    have e' : some o = some (seqObj "list" its.toArray 0) := e.symm.trans ha
    cases e'
    intro c
    exact absurd (Value.type.inj c) (by decide)
  · have hperm : out.Perm its := by
      refine h2.perm.trans ?_
      cases b with
      | false => exact .refl _
      | true => exact List.reverse_perm _
    generalize eo2 : (if b = true then out.reverse else out) = out2
    have ho2 : out2.Perm its := by
      rw [← eo2]
      cases b with
      | false => exact hperm
      | true => exact (List.reverse_perm _).trans hperm
    have hsrt : out2.Pairwise fun x y => (if b = true then HT.lexLt (contA H (adO x)) (contA H (adO y)) else HT.lexLt (contA H (adO y)) (contA H (adO x))) = false := by
      rw [← eo2]
      cases b with
      | false => exact h1
      | true =>
        show out.reverse.Pairwise _
        rw [List.pairwise_reverse]
        exact h1
    have eA : (if b = true then out.toArray.reverse else out.toArray) = out2.toArray := by
      rw [← eo2]
      cases b with
      | false => rfl
      | true =>
        show out.toArray.reverse = out.reverse.toArray
        apply Array.ext'
        rw [Array.toList_reverse]
    obtain ⟨ep, he'⟩ := PyProof.Rows.sortedAll_at s.heap its out2.toArray
    have hrefs : ∀ v ∈ out2, ∃ t, v = Value.ref t := fun v hv => by
      have hm := ho2.mem_iff.mp hv
      rw [ei] at hm
      obtain ⟨t, _, e⟩ := List.mem_map.mp hm
      exact ⟨t, e.symm⟩
    have eref := ref_map hrefs
    have hpa : (out2.map adO).Perm (L.map (·.1)) := by
      have p1 := ho2.map adO
      rw [ei, ad_map] at p1
      exact p1
    have hmem : ∀ t ∈ out2.map adO, H t = some (.tup ((contA H t).map V.int)) := fun t ht => by
      obtain ⟨p, hp', e⟩ := List.mem_map.mp (hpa.mem_iff.mp ht)
      rw [← e, cont p hp']
      exact (hL p hp').1
    have hLL : (((out2.map adO).map fun t => (t, contA H t))).Perm L := by
      have p2 := hpa.map fun t => (t, contA H t)
      rw [show (L.map (·.1)).map (fun t => (t, contA H t)) = L by
        rw [List.map_map]
        refine (List.map_congr_left fun p hp' => ?_).trans (List.map_id L)
        show (p.1, contA H p.1) = id p
        rw [cont p hp']
        rfl] at p2
      exact p2
    have evs : (((out2.map adO).map fun t => (t, contA H t)).map fun p => V.ref p.1) = (out2.map adO).map V.ref := by
      rw [List.map_map]
      rfl
    have hlen : ((out2.map adO).map V.ref).length ≤ sizeLine := by
      rw [List.length_map, hpa.length_eq]
      rw [List.length_map] at hz
      exact hz
    have rvo : Vals ((out2.map adO).map V.ref) out2 := by
      have z := of_nts (out2.map adO)
      rw [← eref] at z
      exact z
    have e0 : out2.toArray.toList = out2 := rfl
    rw [eA]
    refine ⟨.ref _, upd H (s.heap.objs.size + 1) (.lst ((out2.map adO).map V.ref)), I.laid (t' := s.toks) (fun _ _ => PyProof.Rows.sortedAll_old) (Nat.le_succ _) ⟨hlen, out2, ep, rvo, he'⟩, rfl, ?_⟩
    rw [← evs]
    refine q _ _ hLL ?_ (I.hok.fresh (Nat.le_succ _))
    unfold LexS
    rw [List.pairwise_map, List.pairwise_map]
    exact hsrt
theorem cr_sortTupRev : CallRK X (.builtin "sorted") [Str.ofString "reverse"] (rSortTup0 X.K true) := by
  intro pins s σ H vs zs us ws Q I r rz h
  obtain ⟨a, L, rfl, rfl, hs, hL, q⟩ := h
  obtain rfl := Vals.ref1 r
  obtain ⟨w1, rfl, e1⟩ := vals1 rz
  obtain rfl : w1 = Value.bool true := e1
  exact sortTup_run I hs hL (fun _ => rfl) (PyProof.Rows.args_sorted_rev _ _) (fun _ => PyProof.Rows.args_list_sort_rev _ _) q
end
end Vf
/-! ### tuple(range(a, b, c)); sorted tuples as a reading -/
namespace Vf
open PySem PySem.Spec PyProof.Rows L2
def RgV3 (i c : Int) (n : Nat) : List V := (List.range n).map fun k => V.int (i + (k : Nat) * c)
section
variable {X : Cx}
def PRg3 (X : Cx) (e : Expr) (t : L2.St → Hp → (Int → Int → Int → Hp → Prop) → Prop) : Prop :=
  ∀ (pins : List (Addr × Obj)) (s : Shared) (σ : L2.St) (H : Hp) (Q : Int → Int → Int → Hp → Prop), Inv X pins σ H s → t σ H Q →
    wpAny (model X.prog X.w) X.A (eval e X.env) (fun x s' => ∃ r a b c t u v H', x = .ref r ∧ IsRange s'.heap r a b c t u v ∧ Inv X pins σ H' s' ∧ Q a b c H') X.xe s
def tRg3 (ta : TA) : L2.St → Hp → (Int → Int → Int → Hp → Prop) → Prop := fun σ H Q => ta σ H fun vs H1 => ∃ i j c : Int, vs = [.int i, .int j, .int c] ∧ c ≠ 0 ∧ c.natAbs < 1073741824 ∧ Q i j c H1
theorem prg_3 {a b c : Expr} {ta : TA} {p pos : Pos} (hg : Gl X "range") (hm : X.mg "range" = none) (ha : PA X [a, b, c] ta)
    (hs : starEach [a, b, c] X.env = (false, eval a X.env) :: starEach [b, c] X.env := by rfl) (hpl : (backTo pos (starEach [b, c] X.env)).any (·.1) = false := by rfl) : PRg3 X (.Call (.Name "range" p) [a, b, c] [] pos) (tRg3 ta) := by
  intro pins s σ H Q I h
  refine Call_ (ld_blt I hg hm boot_range (PyProof.Rows.callWith_type1 (thn (ha.run pos pins s σ H _ I h) fun us s1 ⟨vs, H1, I1, r1, q1⟩ => ?_) hs hpl))
  obtain ⟨i, j, k, e, c0, c1, q⟩ := q1
  subst e
  cases r1 with
  | cons r rr =>
    cases rr with
    | cons r' rr =>
      cases rr with
      | cons r'' rr =>
        cases rr
        obtain ⟨t, rfl⟩ := r
        obtain ⟨t', rfl⟩ := r'
        obtain ⟨t'', rfl⟩ := r''
        refine call_range_3 c0 ?_ (.inl (PyProof.noPylong_small c1))
        exact ⟨_, i, j, k, _, _, _, H1, rfl, IsRange.new _ _ _ _ _ _ _, I1.kept fun b u e => Heap.get?_push_of_some _ e, q⟩
theorem vals_rg3 {a c : Int} {n : Nat} {acc : Array Value} (h : ItemsOf (fun i v => ∃ t, v = .int (a + i * c) t) acc n) : Vals (RgV3 a c n) acc.toList := by
  have e : acc.toList.length = n := by rw [Array.length_toList]; exact h.1
  unfold RgV3
  rw [← e]
  refine vals_of_get acc.toList _ fun j u hj => ?_
  obtain ⟨t, rfl⟩ := h.2 j u (by rw [← hj, Array.getElem?_toList])
  exact ⟨t, rfl⟩
def tTupRg3 (te : L2.St → Hp → (Int → Int → Int → Hp → Prop) → Prop) : TE := fun σ H Q => te σ H fun a b c H1 => ∃ n, RgC a b c n ∧ n ≤ 2 ^ 24 ∧ ∀ q, H1 q = none → Q (.ref q) (upd H1 q (.tup (RgV3 a c n)))
theorem pe_tupRg3 {e : Expr} {te : L2.St → Hp → (Int → Int → Int → Hp → Prop) → Prop} {p pos : Pos} (hc : X.calm = true) (hg : Gl X "tuple") (hm : X.mg "tuple" = none) (he : PRg3 X e te) (na : starEach [e] X.env = (false, eval e X.env) :: starEach [] X.env := by rfl) : PE X (.Call (.Name "tuple" p) [e] [] pos) (tTupRg3 te) := by
  refine ⟨fun pins s σ H Q I h => ?_⟩
  refine Call_ (ld_blt I hg hm boot_tuple (PyProof.Rows.callWith_type1 (args_cons (thn (he pins s σ H _ I h) fun x s1 ⟨r, a, b, c, t, u, v, H1, ex, hr, I1, n, ok, hn, q⟩ => args_nil ?_) na) na))
  subst ex
  refine call_tuple_range (n := n) (I1.ok.hd hc) hr ok.2.2.1 ok.2.2.2 hn fun h' tk acc hk hi => ?_
  have I2 : Inv X pins σ H1 { s1 with heap := h', toks := tk } := I1.kept hk
  refine ⟨.ref h'.objs.size, upd H1 h'.objs.size (.tup (RgV3 a c n)), I2.laid (t' := tk) (fun c o e => Heap.get?_push_of_some _ e) (Nat.le_refl _) (show ObjOk X.prog X.w _ _ _ (.tup (RgV3 a c n)) from ⟨?_, acc.toList, vals_rg3 hi, ?_⟩), rfl, q _ (I2.hok.fresh (Nat.le_refl _))⟩
  · unfold RgV3
    rw [List.length_map, List.length_range, sizeLine_eq]; omega
  · rw [Array.toArray_toList]; exact IsTup.new _ _
end
@[irreducible] def rSortTup (K : PySem.W.Frag) (b : Bool) : List V → List V → Hp → VK → Prop := rSortTup0 K b
section
variable {X : Cx} {K : PySem.W.Frag}
theorem cr_sortTR (h : X.K = K := by rfl) : CallRK X (.builtin "sorted") [Str.ofString "reverse"] (rSortTup K true) := by
  subst h
  unfold rSortTup
  exact cr_sortTupRev
end
theorem sortTR {K : PySem.W.Frag} {H : Hp} {p : Addr} {L : List (Addr × List Int)} {Q : VK} (h : SqL K H p (L.map fun p => V.ref p.1)) (hL : ∀ p ∈ L, H p.1 = some (.tup (p.2.map V.int)) ∧ p.2 ≠ [])
    (q : ∀ (L' : List (Addr × List Int)) (p : Addr) (H1 : Hp), L'.Perm L → LexS true L' → H p = none → Kp N0 H H1 → H1 p = some (.lst (L'.map fun p => V.ref p.1)) → Q (.ref p) H1) : rSortTup K true [.ref p] [.bl true] H Q := by
  unfold rSortTup rSortTup0
  exact ⟨p, L, rfl, rfl, h, hL, fun L' p' h1 h2 h3 => q L' p' _ h1 h2 h3 (.new h3) upd_same⟩
/-- rows and their places as pairs -/
theorem rws_pairs {H : Hp} : ∀ {vs : List V} {rs : List (List Int)}, Rws H vs rs → ∃ L : List (Addr × List Int), vs = L.map (fun p => V.ref p.1) ∧ rs = L.map (·.2) ∧ ∀ p ∈ L, H p.1 = some (.tup (p.2.map V.int))
  | [], [], _ => ⟨[], rfl, rfl, fun _ h => by cases h⟩
  | v :: vs, r :: rs, ⟨⟨p, e, h⟩, t⟩ => by
    obtain ⟨L, e1, e2, e3⟩ := rws_pairs t
    refine ⟨(p, r) :: L, by rw [List.map_cons, ← e1, e], by rw [List.map_cons, ← e2], fun x hx => ?_⟩
    rcases List.mem_cons.mp hx with rfl | hx
    · exact h
    · exact e3 x hx
end Vf
/-! ### falling walks of sorted rows, of at most eight points -/
namespace Vf
def sums : Nat → List Int → List Int
  | 0, _ => [0]
  | _ + 1, [] => []
  | k + 1, x :: m => sums (k + 1) m ++ (sums k m).map (fun v => x + v)
def ch : Nat → Nat → Nat
  | 0, _ => 1
  | _ + 1, 0 => 0
  | k + 1, n + 1 => ch (k + 1) n + ch k n
theorem sums_len : ∀ (m : List Int) (k : Nat), (sums k m).length = ch k m.length
  | [], 0 => rfl
  | [], _ + 1 => rfl
  | _ :: _, 0 => rfl
  | x :: m, k + 1 => by
    show (sums (k + 1) m ++ (sums k m).map fun v => x + v).length = ch (k + 1) m.length + ch k m.length
    rw [List.length_append, List.length_map, sums_len m (k + 1), sums_len m k]
theorem sums_perm {m m' : List Int} (h : m.Perm m') : ∀ k, (sums k m).Perm (sums k m') := by
  induction h with
  | nil => exact fun k => .refl _
  | cons x _ ih =>
    intro k
    cases k with
    | zero => exact .refl _
    | succ k => exact (ih (k + 1)).append ((ih k).map _)
  | swap x y l =>
    intro k
    cases k with
    | zero => exact .refl _
    | succ k =>
      cases k with
      | zero =>
        show ((sums 1 l ++ (sums 0 l).map fun v => x + v) ++ (sums 0 (x :: l)).map fun v => y + v).Perm ((sums 1 l ++ (sums 0 l).map fun v => y + v) ++ (sums 0 (y :: l)).map fun v => x + v)
        rw [List.append_assoc, List.append_assoc]
        exact List.Perm.append_left _ (by
          have z0 : ∀ m, sums 0 m = [0] := fun m => by cases m <;> rfl
          rw [z0, z0, z0]
          exact List.perm_append_comm)
      | succ j =>
        show ((sums (j + 2) l ++ (sums (j + 1) l).map fun v => x + v) ++ (sums (j + 1) l ++ (sums j l).map fun v => x + v).map fun v => y + v).Perm
          ((sums (j + 2) l ++ (sums (j + 1) l).map fun v => y + v) ++ (sums (j + 1) l ++ (sums j l).map fun v => y + v).map fun v => x + v)
        rw [List.map_append, List.map_append, List.map_map, List.map_map, List.append_assoc, List.append_assoc]
        have e : (sums j l).map ((fun v => y + v) ∘ fun v => x + v) = (sums j l).map ((fun v => x + v) ∘ fun v => y + v) := List.map_congr_left fun v _ => by
          show y + (x + v) = x + (y + v)
          omega
        rw [e]
        exact List.Perm.append_left _ (List.perm_append_comm_assoc _ _ _)
  | trans _ _ ih1 ih2 => exact fun k => (ih1 k).trans (ih2 k)
theorem sum_perm {m m' : List Int} (h : m.Perm m') : m.sum = m'.sum := by
  induction h with
  | nil => rfl
  | cons x _ ih => rw [List.sum_cons, List.sum_cons, ih]
  | swap x y l => simp only [List.sum_cons]; omega
  | trans _ _ ih1 ih2 => rw [ih1, ih2]
theorem sums_over : ∀ (m : List Int) (k : Nat), m.length < k → sums k m = []
  | [], k + 1, _ => rfl
  | x :: m, k + 1, h => by
    rw [List.length_cons] at h
    show sums (k + 1) m ++ (sums k m).map (fun v => x + v) = []
    rw [sums_over m (k + 1) (by omega), sums_over m k (by omega)]
    rfl
theorem sums_full : ∀ (m : List Int), sums m.length m = [m.sum]
  | [] => rfl
  | x :: m => by
    show sums (m.length + 1) m ++ (sums m.length m).map (fun v => x + v) = [(x :: m).sum]
    rw [sums_over m (m.length + 1) (by omega), sums_full m]
    rfl
theorem sums_one : ∀ (m : List Int) (v : Int), v ∈ sums 1 m → v ∈ m
  | [], v, h => by cases h
  | x :: m, v, h => by
    rcases List.mem_append.mp (show v ∈ sums 1 m ++ (sums 0 m).map (fun v => x + v) from h) with h | h
    · exact List.mem_cons_of_mem _ (sums_one m v h)
    · have : v = x + 0 := by simpa [sums] using h
      rw [this, Int.add_zero]
      exact List.mem_cons_self
/-- how many roots with a degree above 0 a row meets below 0 -/
def n0 (d : Int) (m : List Int) : Nat :=
  (sums 3 m).countP (fun v => decide (d < v)) + (sums 6 m).countP (fun v => decide (2 * d < v)) + (if m.length = 8 then m.countP (fun x => decide (3 * d < m.sum + x)) else 0)
theorem n0_perm {m m' : List Int} (d : Int) (h : m.Perm m') : n0 d m = n0 d m' := by
  unfold n0
  rw [(sums_perm h 3).countP_eq, (sums_perm h 6).countP_eq, h.length_eq, sum_perm h, h.countP_eq]
theorem n0_le {d : Int} {m : List Int} (h : m.length ≤ 8) : n0 d m ≤ 92 := by
  have h1 := List.countP_le_length (p := fun v => decide (d < v)) (l := sums 3 m)
  have h2 := List.countP_le_length (p := fun v => decide (2 * d < v)) (l := sums 6 m)
  have h3 := List.countP_le_length (p := fun x => decide (3 * d < m.sum + x)) (l := m)
  rw [sums_len] at h1 h2
  have c : ∀ n, n ≤ 8 → ch 3 n + ch 6 n + n ≤ 92 := by decide
  have := c m.length h
  unfold n0
  split <;> omega
theorem cnt_eq {l : List Int} {p q : Int → Bool} (h : ∀ v ∈ l, p v = q v) : l.countP p = l.countP q := List.countP_congr fun v hv => by rw [h v hv]
theorem cnt_no {l : List Int} {p : Int → Bool} (h : ∀ v ∈ l, p v = false) : l.countP p = 0 := List.countP_eq_zero.mpr fun v hv => by rw [h v hv]; decide
theorem dec_eq {a b c d : Int} (h : a < b ↔ c < d) : decide (a < b) = decide (c < d) := by
  by_cases e : a < b
  · rw [decide_eq_true e, decide_eq_true (h.mp e)]
  · rw [decide_eq_false e, decide_eq_false fun z => e (h.mpr z)]
theorem sums_c (k : Nat) (x : Int) (m : List Int) : sums (k + 1) (x :: m) = sums (k + 1) m ++ (sums k m).map (fun v => x + v) := rfl
theorem ite_d {p : Prop} [Decidable p] : (if decide p = true then 1 else 0 : Nat) = if p then 1 else 0 := by
  by_cases h : p <;> simp [h]
theorem n0_open (d a b c : Int) (o : List Int) : n0 d (a :: b :: c :: o) =
    (sums 3 o).countP (fun v => decide (d < v)) + ((sums 2 o).countP (fun v => decide (d < c + v)) + (sums 2 o).countP (fun v => decide (d < b + v)) + (sums 2 o).countP (fun v => decide (d < a + v))) +
    ((sums 1 o).countP (fun v => decide (d < b + (c + v))) + (sums 1 o).countP (fun v => decide (d < a + (c + v))) + (sums 1 o).countP (fun v => decide (d < a + (b + v)))) + (if d < a + (b + c) then 1 else 0) +
    ((sums 6 o).countP (fun v => decide (2 * d < v)) + ((sums 5 o).countP (fun v => decide (2 * d < c + v)) + (sums 5 o).countP (fun v => decide (2 * d < b + v)) + (sums 5 o).countP (fun v => decide (2 * d < a + v))) +
    ((sums 4 o).countP (fun v => decide (2 * d < b + (c + v))) + (sums 4 o).countP (fun v => decide (2 * d < a + (c + v))) + (sums 4 o).countP (fun v => decide (2 * d < a + (b + v)))) + (sums 3 o).countP (fun v => decide (2 * d < a + (b + (c + v))))) +
    (if o.length = 5 then (if 3 * d < a + (b + (c + o.sum)) + a then 1 else 0) + (if 3 * d < a + (b + (c + o.sum)) + b then 1 else 0) + (if 3 * d < a + (b + (c + o.sum)) + c then 1 else 0) + o.countP (fun x => decide (3 * d < a + (b + (c + o.sum)) + x)) else 0) := by
  unfold n0
  have c1 := fun x m => sums_c 0 x m
  have c2 := fun x m => sums_c 1 x m
  have c3 := fun x m => sums_c 2 x m
  have c4 := fun x m => sums_c 3 x m
  have c5 := fun x m => sums_c 4 x m
  have c6 := fun x m => sums_c 5 x m
  have z0 : ∀ m, sums 0 m = [0] := fun m => by cases m <;> rfl
  have t3 : (if (a :: b :: c :: o).length = 8 then (a :: b :: c :: o).countP (fun x => decide (3 * d < (a :: b :: c :: o).sum + x)) else 0) = (if o.length = 5 then (if 3 * d < a + (b + (c + o.sum)) + a then 1 else 0) + (if 3 * d < a + (b + (c + o.sum)) + b then 1 else 0) + (if 3 * d < a + (b + (c + o.sum)) + c then 1 else 0) + o.countP (fun x => decide (3 * d < a + (b + (c + o.sum)) + x)) else 0) := by
    have es : (a :: b :: c :: o).sum = a + (b + (c + o.sum)) := by simp only [List.sum_cons]
    rw [es]
    by_cases h5 : o.length = 5
    · rw [if_pos (by simp [h5]), if_pos h5]
      rw [List.countP_cons, List.countP_cons, List.countP_cons, ite_d, ite_d, ite_d]
      omega
    · rw [if_neg (by simp; omega), if_neg h5]
  rw [t3]
  generalize (if o.length = 5 then (if 3 * d < a + (b + (c + o.sum)) + a then 1 else 0) + (if 3 * d < a + (b + (c + o.sum)) + b then 1 else 0) + (if 3 * d < a + (b + (c + o.sum)) + c then 1 else 0) + o.countP (fun x => decide (3 * d < a + (b + (c + o.sum)) + x)) else 0) = T3
  simp only [c1, c2, c3, c4, c5, c6, z0, Nat.reduceAdd, List.countP_append, List.countP_map, List.countP_cons, List.countP_nil, List.map_append, List.map_map, List.map_cons, List.map_nil, Function.comp_def, Int.add_zero, Nat.zero_add, ite_d]
  omega
theorem n0_fall {d a b c g : Int} {o : List Int} (ho : o.length ≤ 5) (hs : ∀ x ∈ o, x ≤ c) (hab : b ≤ a) (hbc : c ≤ b) (h : d < a + b + c) (hg : g = d - a - b - c) : n0 (d + g) ((a + g) :: (b + g) :: (c + g) :: o) < n0 d (a :: b :: c :: o) := by
  rw [n0_open, n0_open]
  have s1 := sums_one o
  rw [if_pos (show d < a + (b + c) by omega), if_neg (show ¬ d + g < a + g + (b + g + (c + g)) by omega)]
  rw [cnt_eq (l := sums 3 o) (p := fun v => decide (d + g < v)) (q := fun v => decide (2 * d < a + (b + (c + v)))) (fun v _ => dec_eq (by omega))]
  rw [cnt_eq (l := sums 2 o) (p := fun v => decide (d + g < c + g + v)) (q := fun v => decide (d < c + v)) (fun v _ => dec_eq (by omega))]
  rw [cnt_eq (l := sums 2 o) (p := fun v => decide (d + g < b + g + v)) (q := fun v => decide (d < b + v)) (fun v _ => dec_eq (by omega))]
  rw [cnt_eq (l := sums 2 o) (p := fun v => decide (d + g < a + g + v)) (q := fun v => decide (d < a + v)) (fun v _ => dec_eq (by omega))]
  rw [cnt_no (l := sums 1 o) (p := fun v => decide (d + g < b + g + (c + g + v))) (fun v hv => decide_eq_false (by have := hs v (s1 v hv); omega))]
  rw [cnt_no (l := sums 1 o) (p := fun v => decide (d + g < a + g + (c + g + v))) (fun v hv => decide_eq_false (by have := hs v (s1 v hv); omega))]
  rw [cnt_no (l := sums 1 o) (p := fun v => decide (d + g < a + g + (b + g + v))) (fun v hv => decide_eq_false (by have := hs v (s1 v hv); omega))]
  rw [cnt_eq (l := sums 4 o) (p := fun v => decide (2 * (d + g) < b + g + (c + g + v))) (q := fun v => decide (2 * d < b + (c + v))) (fun v _ => dec_eq (by omega))]
  rw [cnt_eq (l := sums 4 o) (p := fun v => decide (2 * (d + g) < a + g + (c + g + v))) (q := fun v => decide (2 * d < a + (c + v))) (fun v _ => dec_eq (by omega))]
  rw [cnt_eq (l := sums 4 o) (p := fun v => decide (2 * (d + g) < a + g + (b + g + v))) (q := fun v => decide (2 * d < a + (b + v))) (fun v _ => dec_eq (by omega))]
  rw [cnt_eq (l := sums 3 o) (p := fun v => decide (2 * (d + g) < a + g + (b + g + (c + g + v)))) (q := fun v => decide (d < v)) (fun v _ => dec_eq (by omega))]
  rw [sums_over o 6 (by omega)]
  by_cases h5 : o.length = 5
  · rw [if_pos h5, if_pos h5]
    have e5 := sums_full o
    rw [h5] at e5
    rw [e5]
    rw [cnt_eq (l := o) (p := fun x => decide (3 * (d + g) < a + g + (b + g + (c + g + o.sum)) + x)) (q := fun x => decide (3 * d < a + (b + (c + o.sum)) + x)) (fun v _ => dec_eq (by omega))]
    simp only [List.countP_cons, List.countP_nil, decide_eq_true_eq]
    have t1 : (2 * (d + g) < c + g + o.sum) ↔ 3 * d < a + (b + (c + o.sum)) + c := by omega
    have t2 : (2 * (d + g) < b + g + o.sum) ↔ 3 * d < a + (b + (c + o.sum)) + b := by omega
    have t3 : (2 * (d + g) < a + g + o.sum) ↔ 3 * d < a + (b + (c + o.sum)) + a := by omega
    have t4 : (3 * (d + g) < a + g + (b + g + (c + g + o.sum)) + (a + g)) ↔ 2 * d < a + o.sum := by omega
    have t5 : (3 * (d + g) < a + g + (b + g + (c + g + o.sum)) + (b + g)) ↔ 2 * d < b + o.sum := by omega
    have t6 : (3 * (d + g) < a + g + (b + g + (c + g + o.sum)) + (c + g)) ↔ 2 * d < c + o.sum := by omega
    simp only [t1, t2, t3, t4, t5, t6]
    omega
  · rw [if_neg h5, if_neg h5, sums_over o 5 (by omega)]
    simp only [List.countP_nil]
    omega
/-- the numbers, falling -/
def sd (l : List Int) : List Int := l.mergeSort fun a b => decide (b ≤ a)
theorem sd_perm (l : List Int) : (sd l).Perm l := List.mergeSort_perm l _
theorem sd_pw (l : List Int) : (sd l).Pairwise fun a b => b ≤ a := by
  have h := List.pairwise_mergeSort (le := fun a b : Int => decide (b ≤ a)) (fun a b c h1 h2 => by
    have h1 := of_decide_eq_true h1
    have h2 := of_decide_eq_true h2
    exact decide_eq_true (by omega)) (fun a b => by
    by_cases e : b ≤ a
    · rw [decide_eq_true e]; rfl
    · rw [decide_eq_true (show a ≤ b by omega), Bool.or_true]) l
  exact h.imp fun h => of_decide_eq_true h
theorem pw_uniq : ∀ {l l' : List Int}, l.Perm l' → l.Pairwise (fun a b => b ≤ a) → l'.Pairwise (fun a b => b ≤ a) → l = l'
  | [], l', h, _, _ => by
    have := h.length_eq
    exact (List.length_eq_zero_iff.mp this.symm).symm
  | x :: l, [], h, _, _ => by
    have := h.length_eq
    simp at this
  | x :: l, y :: l', h, p1, p2 => by
    have e : x = y := by
      have hx : x ∈ y :: l' := h.mem_iff.mp List.mem_cons_self
      have hy : y ∈ x :: l := h.mem_iff.mpr List.mem_cons_self
      have a1 : x ≤ y := by
        rcases List.mem_cons.mp hx with e | hx
        · omega
        · exact (List.pairwise_cons.mp p2).1 x hx
      have a2 : y ≤ x := by
        rcases List.mem_cons.mp hy with e | hy
        · omega
        · exact (List.pairwise_cons.mp p1).1 y hy
      omega
    subst e
    rw [pw_uniq (List.Perm.cons_inv h) (List.pairwise_cons.mp p1).2 (List.pairwise_cons.mp p2).2]
theorem sd_uniq {l l' : List Int} (h : l'.Perm l) (p : l'.Pairwise fun a b => b ≤ a) : l' = sd l := pw_uniq (h.trans (sd_perm l).symm) p (sd_pw l)
theorem sd_len (l : List Int) : (sd l).length = l.length := (sd_perm l).length_eq
def Stnd (s : Int × List Int) : Prop := s.2.getD 0 0 + s.2.getD 1 0 + s.2.getD 2 0 ≤ s.1
instance (s : Int × List Int) : Decidable (Stnd s) := inferInstanceAs (Decidable (_ ≤ _))
def fstep (s : Int × List Int) : Int × List Int := match s.2 with
  | a :: b :: c :: o => if s.1 < a + b + c then (s.1 + (s.1 - a - b - c), sd ((a + (s.1 - a - b - c)) :: (b + (s.1 - a - b - c)) :: (c + (s.1 - a - b - c)) :: o)) else s
  | _ => s
def fl : Nat → Int × List Int → Int × List Int
  | 0, s => s
  | k + 1, s => fl k (fstep s)
structure Srt8 (s : Int × List Int) : Prop where
  pw : s.2.Pairwise fun a b => b ≤ a
  l3 : 3 ≤ s.2.length
  l8 : s.2.length ≤ 8
theorem three_of {m : List Int} (h : 3 ≤ m.length) : ∃ a b c o, m = a :: b :: c :: o := by
  match m, h with
  | a :: b :: c :: o, _ => exact ⟨a, b, c, o, rfl⟩
theorem fstep_stand {s : Int × List Int} (h3 : 3 ≤ s.2.length) (h : Stnd s) : fstep s = s := by
  obtain ⟨d, m⟩ := s
  obtain ⟨a, b, c, o, rfl⟩ := three_of h3
  have h' : a + b + c ≤ d := h
  show (if d < a + b + c then _ else (d, a :: b :: c :: o)) = _
  rw [if_neg (by omega)]
theorem fstep_fall {s : Int × List Int} (hs : Srt8 s) (h : ¬ Stnd s) : Srt8 (fstep s) ∧ n0 (fstep s).1 (fstep s).2 < n0 s.1 s.2 := by
  obtain ⟨d, m⟩ := s
  obtain ⟨pw, l3, l8⟩ := hs
  obtain ⟨a, b, c, o, rfl⟩ := three_of l3
  have h' : ¬ a + b + c ≤ d := h
  have e : fstep (d, a :: b :: c :: o) = (d + (d - a - b - c), sd ((a + (d - a - b - c)) :: (b + (d - a - b - c)) :: (c + (d - a - b - c)) :: o)) := by
    show (if d < a + b + c then _ else _) = _
    rw [if_pos (by omega)]
  rw [e]
  simp only [List.length_cons] at l8
  refine ⟨⟨sd_pw _, by rw [sd_len]; simp, by rw [sd_len]; simp; omega⟩, ?_⟩
  show n0 (d + (d - a - b - c)) (sd _) < n0 d (a :: b :: c :: o)
  rw [n0_perm _ (sd_perm _)]
  have p1 := List.pairwise_cons.mp pw
  have p2 := List.pairwise_cons.mp p1.2
  have p3 := List.pairwise_cons.mp p2.2
  exact n0_fall (by omega) (fun x hx => p3.1 x hx) (p1.1 b List.mem_cons_self) (p2.1 c List.mem_cons_self) (by omega) rfl
theorem fl_stand {s : Int × List Int} (h3 : 3 ≤ s.2.length) (h : Stnd s) : ∀ k, fl k s = s
  | 0 => rfl
  | k + 1 => by
    show fl k (fstep s) = s
    rw [fstep_stand h3 h, fl_stand h3 h k]
theorem fl_add (s : Int × List Int) : ∀ j k, fl (j + k) s = fl k (fl j s) := fun j => by
  induction j generalizing s with
  | zero => exact fun k => by rw [Nat.zero_add]; rfl
  | succ j ih =>
    intro k
    rw [show j + 1 + k = (j + k) + 1 by omega]
    exact ih (fstep s) k
theorem fl_succ (s : Int × List Int) (j : Nat) : fl (j + 1) s = fstep (fl j s) := by
  rw [fl_add s j 1]
  rfl
/-- where the walk of sorted numbers ends -/
def fend (s : Int × List Int) : Int × List Int := fl 100 s
theorem fend_of {s t : Int × List Int} {j : Nat} (hj : j ≤ 100) (e : t = fl j s) (h3 : 3 ≤ t.2.length) (h : Stnd t) : fend s = t := by
  unfold fend
  rw [show 100 = j + (100 - j) by omega, fl_add, ← e, fl_stand h3 h]
end Vf
/-! ### turns, whichever, keep where the walk of at most eight numbers ends -/
namespace Vf
theorem three3 {l : List Int} (h : l.length = 3) : ∃ x y z, l = [x, y, z] := by
  match l, h with
  | [a, b, c], _ => exact ⟨a, b, c, rfl⟩
def FS (d : Int) (l : List Int) : Int × List Int := fend (d, sd l)
theorem sd_same {l l' : List Int} (h : l.Perm l') : sd l = sd l' := sd_uniq ((sd_perm l).trans h) (sd_pw l)
theorem FS_perm {d : Int} {l l' : List Int} (h : l.Perm l') : FS d l = FS d l' := by
  unfold FS
  rw [sd_same h]
theorem fl_end : ∀ (k : Nat) (s : Int × List Int), Srt8 s → n0 s.1 s.2 ≤ k → Stnd (fl k s) ∧ Srt8 (fl k s)
  | 0, s, hs, h => by
    by_cases e : Stnd s
    · exact ⟨e, hs⟩
    · have := (fstep_fall hs e).2
      omega
  | k + 1, s, hs, h => by
    by_cases e : Stnd s
    · rw [fl_stand hs.l3 e]
      exact ⟨e, hs⟩
    · have := fstep_fall hs e
      exact fl_end k (fstep s) this.1 (by omega)
theorem fend_step {s : Int × List Int} (h : Srt8 s) : fend (fstep s) = fend s := by
  have h92 := n0_le (d := s.1) h.l8
  obtain ⟨e1, e2⟩ := fl_end 100 s h (by omega)
  show fl 100 (fstep s) = fl 100 s
  rw [show fl 100 (fstep s) = fl (100 + 1) s from rfl, fl_succ, fstep_stand e2.l3 e1]
theorem FS_top {d x y z g : Int} {w : List Int} (hx : ∀ v ∈ w, v ≤ x) (hy : ∀ v ∈ w, v ≤ y) (hz : ∀ v ∈ w, v ≤ z) (hl : w.length ≤ 5) (hg : g = d - x - y - z) (h0 : g < 0) :
    FS d (x :: y :: z :: w) = FS (d + g) ((x + g) :: (y + g) :: (z + g) :: w) := by
  have p3 := sd_perm [x, y, z]
  have q3 := sd_pw [x, y, z]
  obtain ⟨x', y', z', e3⟩ : ∃ x' y' z', sd [x, y, z] = [x', y', z'] := by
    exact three3 (sd_len [x, y, z])
  rw [e3] at p3 q3
  have hs3 : x' + y' + z' = x + y + z := by
    have := sum_perm p3
    simp only [List.sum_cons, List.sum_nil] at this
    omega
  have hsd : sd (x :: y :: z :: w) = x' :: y' :: z' :: sd w := by
    refine (sd_uniq (l' := [x', y', z'] ++ sd w) (p3.append (sd_perm w)) (List.pairwise_append.mpr ⟨q3, sd_pw w, fun u hu v hv => ?_⟩)).symm
    have hv := (sd_perm w).mem_iff.mp hv
    have hu := p3.mem_iff.mp hu
    simp only [List.mem_cons, List.not_mem_nil, or_false] at hu
    rcases hu with rfl | rfl | rfl
    · exact hx v hv
    · exact hy v hv
    · exact hz v hv
  have hS : Srt8 (d, x' :: y' :: z' :: sd w) := ⟨by
    show (x' :: y' :: z' :: sd w).Pairwise _
    rw [← hsd]
    exact sd_pw _, by simp, by simp only [List.length_cons, sd_len]; omega⟩
  have ef : fstep (d, x' :: y' :: z' :: sd w) = (d + g, sd ((x' + g) :: (y' + g) :: (z' + g) :: sd w)) := by
    have eg : d - x' - y' - z' = g := by omega
    show (if d < x' + y' + z' then _ else _) = _
    rw [if_pos (by omega), eg]
  unfold FS
  rw [hsd, ← fend_step hS, ef]
  rw [sd_same (l' := (x + g) :: (y + g) :: (z + g) :: w)]
  exact (p3.map (· + g)).append (sd_perm w)
def sqs (l : List Int) : Int := (l.map fun x => x * x).sum
def Inv (N f d : Int) (l : List Int) : Prop := d * d - sqs l = N ∧ 3 * d - l.sum = f
theorem sqs_cons (x : Int) (l : List Int) : sqs (x :: l) = x * x + sqs l := rfl
theorem Inv.perm {N f d : Int} {l l' : List Int} (h : Inv N f d l) (p : l.Perm l') : Inv N f d l' := by
  unfold Inv sqs at h ⊢
  rw [← sum_perm p, ← sum_perm (p.map fun x => x * x)]
  exact h
theorem Inv.turn {N f d a b c g : Int} {o : List Int} (h : Inv N f d (a :: b :: c :: o)) (hg : g = d - a - b - c) : Inv N f (d + g) ((a + g) :: (b + g) :: (c + g) :: o) := by
  obtain ⟨h1, h2⟩ := h
  simp only [sqs_cons, List.sum_cons] at h1 h2
  refine ⟨?_, ?_⟩
  · simp only [sqs_cons]
    generalize sqs o = S at h1
    subst hg
    grind
  · simp only [List.sum_cons]
    omega
theorem sq0 (x : Int) : 0 ≤ x * x := by
  rcases Int.le_total 0 x with h | h
  · exact Int.mul_nonneg h h
  · exact Int.mul_nonneg_of_nonpos_of_nonpos h h
theorem mix_le (x : Int) : ∀ l : List Int, 2 * (x * l.sum) ≤ (l.length : Int) * (x * x) + sqs l
  | [] => by simp [sqs]
  | y :: l => by
    have ih := mix_le x l
    have h := sq0 (x - y)
    rw [sqs_cons, List.sum_cons, List.length_cons]
    generalize sqs l = S at ih
    generalize l.sum = T at ih
    push_cast
    generalize (l.length : Int) = m at ih
    have e1 : x * (y + T) = x * y + x * T := Int.mul_add _ _ _
    have e2 : (m + 1) * (x * x) = m * (x * x) + x * x := by rw [Int.add_mul, Int.one_mul]
    have e3 : (x - y) * (x - y) = x * x - 2 * (x * y) + y * y := by grind
    omega
theorem cauchy : ∀ l : List Int, l.sum * l.sum ≤ (l.length : Int) * sqs l
  | [] => by simp [sqs]
  | x :: l => by
    have ih := cauchy l
    have h := mix_le x l
    rw [sqs_cons, List.sum_cons, List.length_cons]
    generalize sqs l = S at ih h
    generalize l.sum = T at ih h
    push_cast
    generalize (l.length : Int) = m at ih h
    have e1 : (x + T) * (x + T) = x * x + 2 * (x * T) + T * T := by grind
    have e2 : (m + 1) * (x * x + S) = m * (x * x) + m * S + x * x + S := by grind
    omega
theorem sqs0 : ∀ l : List Int, 0 ≤ sqs l
  | [] => by simp [sqs]
  | x :: l => by
    have := sqs0 l
    have := sq0 x
    rw [sqs_cons]
    omega
def low (N f : Int) : Int := 3 * f - (8 * (f * f) + 8 * (N * N) + 1)
theorem low_le {N f d : Int} {l : List Int} (h : Inv N f d l) (hl : l.length ≤ 8) : low N f ≤ d := by
  obtain ⟨h1, h2⟩ := h
  have c := cauchy l
  have s0 := sqs0 l
  have c8 : (l.length : Int) * sqs l ≤ 8 * sqs l := Int.mul_le_mul_of_nonneg_right (by omega) s0
  have es : sqs l = d * d - N := by omega
  have et : l.sum = 3 * d - f := by omega
  rw [es] at c8
  rw [es, et] at c
  unfold low
  have e1 : (3 * d - f) * (3 * d - f) = 9 * (d * d) - 6 * (d * f) + f * f := by grind
  have e2 : (d - 3 * f) * (d - 3 * f) = d * d - 6 * (d * f) + 9 * (f * f) := by grind
  have k : (d - 3 * f) * (d - 3 * f) ≤ 8 * (f * f) - 8 * N := by omega
  have nn : -N ≤ N * N := by
    have := sq0 (N + 1)
    have e : (N + 1) * (N + 1) = N * N + 2 * N + 1 := by grind
    have := sq0 N
    by_cases hN : 0 ≤ N
    · omega
    · have : 0 ≤ (-N - 1) * (-N) := Int.mul_nonneg (by omega) (by omega)
      have e4 : (-N - 1) * (-N) = N * N + N := by grind
      omega
  have f0 := sq0 f
  have n0' := sq0 N
  generalize hX : 8 * (f * f) + 8 * (N * N) + 1 = X at *
  by_cases hd : 3 * f - X ≤ d
  · exact hd
  · exfalso
    have hX1 : 1 ≤ X := by omega
    have hp : 0 ≤ (3 * f - d - X) * (3 * f - d + X) := Int.mul_nonneg (by omega) (by omega)
    have e5 : (3 * f - d - X) * (3 * f - d + X) = (d - 3 * f) * (d - 3 * f) - X * X := by grind
    have e6 : 0 ≤ (X - 1) * X := Int.mul_nonneg (by omega) (by omega)
    have e7 : (X - 1) * X = X * X - X := by grind
    omega
theorem FS_step {N f M : Int} (IH : ∀ (d a b c g : Int) (o : List Int), g = d - a - b - c → o.length ≤ 5 → Inv N f d (a :: b :: c :: o) → d < M → g < 0 → FS (d + g) ((a + g) :: (b + g) :: (c + g) :: o) = FS d (a :: b :: c :: o))
    {d a b c g : Int} {o : List Int} (hg : g = d - a - b - c) (hl : o.length ≤ 5) (hI : Inv N f d (a :: b :: c :: o)) (hM : d ≤ M) (h0 : g < 0) (hab : b ≤ a) (hbc : c ≤ b) (ho : o.Pairwise fun x y => y ≤ x) :
    FS (d + g) ((a + g) :: (b + g) :: (c + g) :: o) = FS d (a :: b :: c :: o) := by
  have hT := hI.turn hg
  by_cases h1 : ∀ v ∈ o, v ≤ c
  · exact (FS_top (fun v hv => by have := h1 v hv; omega) (fun v hv => by have := h1 v hv; omega) h1 hl hg h0).symm
  obtain ⟨p, w, rfl⟩ : ∃ p w, o = p :: w := by
    cases o with
    | nil => exact absurd (fun v hv => by cases hv) h1
    | cons p w => exact ⟨p, w, rfl⟩
  obtain ⟨hpw, how⟩ := List.pairwise_cons.mp ho
  have hpc : c < p := by
    by_cases h : c < p
    · exact h
    · refine absurd (fun v hv => ?_) h1
      rcases List.mem_cons.mp hv with rfl | hv
      · omega
      · have := hpw v hv
        omega
  by_cases h2 : ∀ v ∈ w, v ≤ b
  · have t := FS_top (d := d) (x := a) (y := b) (z := p) (g := g + (c - p)) (w := c :: w)
      (fun v hv => by
        rcases List.mem_cons.mp hv with rfl | hv
        · omega
        · have := h2 v hv; omega)
      (fun v hv => by
        rcases List.mem_cons.mp hv with rfl | hv
        · omega
        · exact h2 v hv)
      (fun v hv => by
        rcases List.mem_cons.mp hv with rfl | hv
        · omega
        · exact hpw v hv) hl (by omega) (by omega)
    have i := IH (d + g) (a + g) (b + g) p (c - p) ((c + g) :: w) (by omega) hl (hT.perm (((List.Perm.swap p (c + g) w).cons _).cons _)) (by omega) (by omega)
    rw [show d + g + (c - p) = d + (g + (c - p)) by omega, show a + g + (c - p) = a + (g + (c - p)) by omega, show b + g + (c - p) = b + (g + (c - p)) by omega, show p + (c - p) = c by omega, show c + g = p + (g + (c - p)) by omega] at i
    rw [FS_perm (l := (a + g) :: (b + g) :: (c + g) :: p :: w) (((List.Perm.swap p (c + g) w).cons _).cons _), show c + g = p + (g + (c - p)) by omega, ← i]
    rw [FS_perm (l := a :: b :: c :: p :: w) (((List.Perm.swap p c w).cons _).cons _), t]
    exact FS_perm (((List.Perm.swap _ _ w).cons _).cons _)
  obtain ⟨q, u, rfl⟩ : ∃ q u, w = q :: u := by
    cases w with
    | nil => exact absurd (fun v hv => by cases hv) h2
    | cons q u => exact ⟨q, u, rfl⟩
  obtain ⟨hqu, hou⟩ := List.pairwise_cons.mp how
  have hqp := hpw q List.mem_cons_self
  have hqb : b < q := by
    by_cases h : b < q
    · exact h
    · refine absurd (fun v hv => ?_) h2
      rcases List.mem_cons.mp hv with rfl | hv
      · omega
      · have := hqu v hv
        omega
  simp only [List.length_cons] at hl
  by_cases h3 : ∀ v ∈ u, v ≤ a
  · have pm : ∀ (x y z v t : Int), (x :: y :: z :: v :: t :: u).Perm (x :: v :: t :: y :: z :: u) := fun x y z v t => by
      refine List.Perm.cons _ ?_
      exact (List.perm_append_comm (l₁ := [y, z]) (l₂ := [v, t])).append_right u
    have t := FS_top (d := d) (x := a) (y := p) (z := q) (g := d - a - p - q) (w := b :: c :: u)
      (fun v hv => by
        simp only [List.mem_cons] at hv
        rcases hv with rfl | rfl | hv
        · omega
        · omega
        · exact h3 v hv)
      (fun v hv => by
        simp only [List.mem_cons] at hv
        rcases hv with rfl | rfl | hv
        · omega
        · omega
        · have := hqu v hv; omega)
      (fun v hv => by
        simp only [List.mem_cons] at hv
        rcases hv with rfl | rfl | hv
        · omega
        · omega
        · exact hqu v hv) (by simp only [List.length_cons]; omega) rfl (by omega)
    generalize hk : d - a - p - q = k at t
    have hTb := ((hI.perm (pm a b c p q)).turn hk.symm).perm (pm (a + k) (p + k) (q + k) b c)
    have i1 := IH (d + k) (a + k) b c g ((p + k) :: (q + k) :: u) (by omega) (by simp only [List.length_cons]; omega) hTb (by omega) h0
    have i2 := IH (d + g) (a + g) p q k ((b + g) :: (c + g) :: u) (by omega) (by simp only [List.length_cons]; omega) (hT.perm (pm _ _ _ _ _)) (by omega) (by omega)
    rw [FS_perm (pm a b c p q), t, FS_perm (pm (a + k) (p + k) (q + k) b c), ← i1, FS_perm (pm (a + g) (b + g) (c + g) p q), ← i2]
    rw [show d + k + g = d + g + k by omega, show a + k + g = a + g + k by omega]
    exact FS_perm (pm _ _ _ _ _)
  obtain ⟨r, v, rfl⟩ : ∃ r v, u = r :: v := by
    cases u with
    | nil => exact absurd (fun v hv => by cases hv) h3
    | cons r v => exact ⟨r, v, rfl⟩
  obtain ⟨hrv, _⟩ := List.pairwise_cons.mp hou
  have hrq := hqu r List.mem_cons_self
  have hra : a < r := by
    by_cases h : a < r
    · exact h
    · refine absurd (fun v hv => ?_) h3
      rcases List.mem_cons.mp hv with rfl | hv
      · omega
      · have := hrv v hv
        omega
  have pm : ∀ (x y z s t m : Int), (x :: y :: z :: s :: t :: m :: v).Perm (s :: t :: m :: x :: y :: z :: v) := fun x y z s t m =>
    (List.perm_append_comm (l₁ := [x, y, z]) (l₂ := [s, t, m])).append_right v
  have tv : ∀ u ∈ a :: b :: c :: v, u ≤ r := fun u hu => by
    simp only [List.mem_cons] at hu
    rcases hu with rfl | rfl | rfl | hu
    · omega
    · omega
    · omega
    · exact hrv u hu
  simp only [List.length_cons] at hl
  have t := FS_top (d := d) (x := p) (y := q) (z := r) (g := d - p - q - r) (w := a :: b :: c :: v) (fun u hu => by have := tv u hu; omega) (fun u hu => by have := tv u hu; omega) tv (by simp only [List.length_cons]; omega) rfl (by omega)
  generalize hk : d - p - q - r = k at t
  have I1 := ((hI.perm (pm a b c p q r)).turn hk.symm).perm (pm _ _ _ _ _ _)
  have i1 := IH (d + k) a b c (g + k) ((p + k) :: (q + k) :: (r + k) :: v) (by omega) (by simp only [List.length_cons]; omega) I1 (by omega) (by omega)
  have I2 := (I1.turn (g := g + k) (by omega)).perm (pm _ _ _ _ _ _)
  have i2 := IH (d + k + (g + k)) (p + k) (q + k) (r + k) g ((a + (g + k)) :: (b + (g + k)) :: (c + (g + k)) :: v) (by omega) (by simp only [List.length_cons]; omega) I2 (by omega) h0
  have J1 := hT.perm (pm _ _ _ _ _ _)
  have j1 := IH (d + g) p q r (g + k) ((a + g) :: (b + g) :: (c + g) :: v) (by omega) (by simp only [List.length_cons]; omega) J1 (by omega) (by omega)
  have J2 := (J1.turn (g := g + k) (by omega)).perm (pm _ _ _ _ _ _)
  have j2 := IH (d + g + (g + k)) (a + g) (b + g) (c + g) k ((p + (g + k)) :: (q + (g + k)) :: (r + (g + k)) :: v) (by omega) (by simp only [List.length_cons]; omega) J2 (by omega) (by omega)
  rw [FS_perm (pm a b c p q r), t, FS_perm (pm _ _ _ a b c), ← i1, FS_perm (pm _ _ _ (p + k) _ _), ← i2]
  rw [FS_perm (pm (a + g) _ _ _ _ _), ← j1, FS_perm (pm _ _ _ (a + g) _ _), ← j2]
  rw [show d + k + (g + k) + g = d + g + (g + k) + k by omega]
  simp only [show ∀ x : Int, x + k + g = x + (g + k) from fun x => by omega, show ∀ x : Int, x + g + k = x + (g + k) from fun x => by omega]
  exact FS_perm (pm _ _ _ _ _ _)
theorem FS_fall {N f : Int} : ∀ (k : Nat) (d a b c g : Int) (o : List Int), g = d - a - b - c → o.length ≤ 5 → Inv N f d (a :: b :: c :: o) → d < low N f + k → g < 0 → FS (d + g) ((a + g) :: (b + g) :: (c + g) :: o) = FS d (a :: b :: c :: o)
  | 0, d, a, b, c, g, o, hg, hl, hI, hd, h0 => by
    have := low_le hI (by simp only [List.length_cons]; omega)
    omega
  | k + 1, d, a, b, c, g, o, hg, hl, hI, hd, h0 => by
    have p3 := sd_perm [a, b, c]
    have q3 := sd_pw [a, b, c]
    obtain ⟨x, y, z, e3⟩ : ∃ x y z, sd [a, b, c] = [x, y, z] := by
      exact three3 (sd_len [a, b, c])
    rw [e3] at p3 q3
    have hs3 : x + y + z = a + b + c := by
      have := sum_perm p3
      simp only [List.sum_cons, List.sum_nil] at this
      omega
    have q1 := List.pairwise_cons.mp q3
    have q2 := List.pairwise_cons.mp q1.2
    have hp : (x :: y :: z :: sd o).Perm (a :: b :: c :: o) := p3.append (sd_perm o)
    have s := FS_step (N := N) (f := f) (M := low N f + k) (fun d a b c g o hg hl hI hd h0 => FS_fall k d a b c g o hg hl hI hd h0) (d := d) (a := x) (b := y) (c := z) (g := g) (o := sd o) (by omega) (by rw [sd_len]; exact hl) (hI.perm hp.symm) (by omega) h0 (q1.1 y List.mem_cons_self) (q2.1 z List.mem_cons_self) (sd_pw o)
    rw [FS_perm hp] at s
    rw [← s]
    exact FS_perm ((p3.map (· + g)).append (sd_perm o)).symm
theorem FS_turn {d a b c g : Int} {o : List Int} (hg : g = d - a - b - c) (hl : o.length ≤ 5) : FS (d + g) ((a + g) :: (b + g) :: (c + g) :: o) = FS d (a :: b :: c :: o) := by
  have fall : ∀ (d a b c g : Int), g = d - a - b - c → g < 0 → FS (d + g) ((a + g) :: (b + g) :: (c + g) :: o) = FS d (a :: b :: c :: o) := fun d a b c g hg h0 => by
    have hI : Inv (d * d - sqs (a :: b :: c :: o)) (3 * d - (a :: b :: c :: o).sum) d (a :: b :: c :: o) := ⟨rfl, rfl⟩
    have hlow := low_le hI (by simp only [List.length_cons]; omega)
    exact FS_fall ((d - low (d * d - sqs (a :: b :: c :: o)) (3 * d - (a :: b :: c :: o).sum)).toNat + 1) d a b c g o hg hl hI (by omega) h0
  rcases Int.lt_trichotomy g 0 with h | h | h
  · exact fall d a b c g hg h
  · subst h
    simp only [Int.add_zero]
  · have := fall (d + g) (a + g) (b + g) (c + g) (-g) (by omega) (by omega)
    simp only [show ∀ x : Int, x + g + -g = x from fun x => by omega] at this
    exact this.symm
end Vf

/-! ### set(list of ints), sorted(set) -/
namespace Vf
open PySem PySem.Spec PyProof.Rows L2
section
variable {P : Program} {w : World} {A : Around} {E : Value → Shared → Prop} {s : Shared}
/-- the set that `set.__new__` lays -/
abbrev bare (w : World) : Obj := { cls := .type "set", dict := none, data := .set #[] 0 (.fresh 0 0 (!w.params.followText "set-order")) }
/-- the heap with it -/
abbrev laid (w : World) (s : Shared) : Heap := s.heap.push (bare w)
theorem laid_at (w : World) (s : Shared) : (laid w s).get? s.heap.objs.size = some (bare w) := Heap.get?_push_size _ rfl
set_option maxRecDepth 100000 in
set_option maxHeartbeats 3200000 in
theorem setOfL {l : Addr} {xs : Array Value} (ns : List Int) {Q : Value → Shared → Prop} (none' : A.handled = none) (isl : s.heap.IsList l xs) (isi : IntsAre xs.toList ns) (few : ns.length + 1 < scanBound)
    (k : ∀ (g : Heap) (tk c : Nat), SetR w g s.heap.objs.size (fun j => decide (j ∈ ns)) c → c ≤ ns.length → (∀ b o, s.heap.get? b = some o → g.get? b = some o) → Q (.ref s.heap.objs.size) { s with heap := g, toks := tk }) :
    wpAny (model P w) A (call (.type "set") [.ref l]) Q E s := by
  have sz : xs.size = ns.length := by have q := IntsAre.length isi; rwa [Array.length_toList] at q
  obtain ⟨_, _, mro⟩ := F.called_set.mro
  have a1 := F.called_set.made; have a2 := F.called_set.sub
  have a3 := F.called_set.notType; have a4 := F.called_set.canCreate
  have a5 := F.typeCall_set_1 (.ref l)
  refine wpAny_call (codeAny_of_tree (wpAny_pure ⟨Code.quiet_builtin _ (by decide +kernel), codeAny_builtin F.entry_type_call ?_⟩))
  rw [Around.under_plain (weight_type_call_type "set" [.ref l] []) rfl]
  repeat (any_goals (first | assumption | wp_step))
  refine codeAny_mono (code_set_led1 (.ref l) (E := E) (Q₁ := fun obj t => obj = .ref s.heap.objs.size ∧ t = { s with heap := laid w s }) ⟨rfl, rfl⟩) fun r t hr => ?_
  cases r with
  | error e => exact hr
  | ok fl => cases fl with
    | ret obj =>
      obtain ⟨rfl, rfl⟩ := hr
      have ty : Shared.TypeIs { s with heap := laid w s } (.ref s.heap.objs.size) "set" := ⟨_, laid_at w s, rfl⟩
      have b1 := F.called_set.init.lookup; have b2 := F.called_set.init.bind (.ref s.heap.objs.size)
      repeat (any_goals (first | assumption | wp_step))
      refine codeAny_mono (codeAny_call_builtin (R := wants (fun r t => r = .none ∧ ∃ g tk c, t = { s with heap := g, toks := tk } ∧ SetR w g s.heap.objs.size (fun j => decide (j ∈ ns)) c ∧ c ≤ ns.length ∧ (∀ b o, s.heap.get? b = some o → g.get? b = some o)) E)
        F.called_set.init.plain F.entry_set_init (check_set_init_1 ty ?_)) fun r2 t2 hr2 => ?_
      · obtain ⟨⟨c0, d0, da, sl⟩, got, e1, n0, e2⟩ := isl
        simp only at e1 e2
        subst e1; subst e2
        have got1 : (laid w s).get? l = some { cls := .type "list", dict := d0, data := .seq xs n0, slots := sl } := Heap.get?_push_of_some _ got
        have il : (laid w s).IsList l xs := ⟨_, got1, rfl, n0, rfl⟩
        have c1 := F.sub_list_set; have c2 := F.sub_list_frozenset
        have c3 : (Value.type "list" == Value.type "dict") = false := by decide
        unfold Builtin.«set.__init__» noKeywords Builtin.Frozenset.updateFrom
        generalize hI : pyIter = I
        wp_walk
        subst hI
        refine wpAny_pyIter_list il (wpAny_bind (wpAny_runValue ?_))
        have lt : l < s.heap.objs.size := Heap.lt_size got
        have hz : (laid w s).objs.size = s.heap.objs.size + 1 := Heap.size_push ..
        have h3 : A.in1.in1.in1.handled = none := by simp [none']
        have ne : l ≠ (laid w s).objs.size := by rw [hz]; exact Nat.ne_of_lt (Nat.lt_succ_of_lt lt)
        have nm : s.heap.objs.size ∉ [(laid w s).objs.size, l] := by
          rw [hz]
          intro m
          rcases List.mem_cons.mp m with m | m
          · exact absurd m (Nat.ne_of_lt (Nat.lt_succ_self _))
          · exact absurd (List.mem_singleton.mp m) (Nat.ne_of_gt lt)
        have vals : ∀ (i : Nat) (v : Value), xs[i]? = some v → ∃ k t, ns[i]? = some k ∧ v = .int k t := fun i v hv => by
          have hi : i < ns.length := by rw [← sz]; exact (Array.getElem?_eq_some_iff.mp hv).1
          obtain ⟨t, e⟩ := IntsAre.int_at isi i v (by rw [Array.getElem?_toList]; exact hv)
          exact ⟨ns[i], t, List.getElem?_eq_getElem hi, by rw [e, List.getD_eq_getElem?_getD, List.getElem?_eq_getElem hi]; rfl⟩
        refine set_update_ints ((Walks.list h3 _ l ne xs).toS) s.heap.objs.size nm ns sz few vals (xs.size - 0) 0 _ (by omega) (Nat.zero_le _) ⟨⟨_, Heap.get?_push_size _ rfl, rfl, rfl⟩, il.push _⟩ ?first ?last
        case first => exact ⟨0, Nat.le_refl 0, setR_new_at (Heap.get?_push_of_some _ (laid_at w s))⟩
        case last =>
          rintro ⟨g, g2, d2, t2, o2⟩ c moved le R
          obtain rfl : g2 = s.gens := moved.gens
          obtain rfl : d2 = s.drawn := moved.drawn
          obtain rfl : o2 = s.os := moved.os
          show wpAny _ _ _ _ _ _
          refine wpAny_pure ?_
          show wpAny _ _ (ret Value.none) _ _ _
          refine wpAny_pure ⟨rfl, g, t2, c, rfl, R, by omega, fun b o e => moved.heap b o ?_ (Heap.get?_push_of_some _ (Heap.get?_push_of_some _ e))⟩
          have blt : b < s.heap.objs.size := Heap.lt_size e
          intro m
          rcases List.mem_cons.mp m with m | m
          · exact absurd m (Nat.ne_of_lt blt)
          · have m := List.mem_singleton.mp m
            rw [hz] at m
            exact absurd m (Nat.ne_of_lt (Nat.lt_succ_of_lt blt))
      · cases r2 with
        | error e => exact hr2
        | ok f2 => cases f2 with
          | ret v =>
            obtain ⟨rfl, g, tk, c, rfl, R, le, kp⟩ := hr2
            repeat (any_goals (first | assumption | wp_step))
            exact k g tk c R le kp
          | _ => exact False.elim hr2
    | _ => exact False.elim hr
end
section
variable {X : Cx}
/-- set(xs), xs a list of fewer than 64 ints -/
@[irreducible] def rSetL (K : PySem.W.Frag) (w : World) : List V → Hp → VK → Prop := fun vs H Q => ∃ (l : Addr) (ns : List Int), vs = [V.ref l] ∧ SqL K H l (ns.map V.int) ∧ ns.length < 64 ∧ ∀ (p : Addr) (c : Nat), c ≤ ns.length → H p = none → Q (.ref p) (upd H p (SetO w p (fun j => decide (j ∈ ns)) c))
theorem cr_setL (hc : X.calm = true) : CallR X (.type "set") (rSetL X.K X.w) := by
  unfold rSetL
  intro pins s σ H vs us Q I r h
  obtain ⟨l, ns, rfl, hl, few, q⟩ := h
  rw [Vals.ref1 r]
  obtain ⟨its, rv, pl, _⟩ := I.list hl
  refine setOfL (P := X.prog) (w := X.w) ns (I.ok.hd hc) pl.isList (by simpa using ints_of_vals rv) (by unfold scanBound; omega) fun g tk c R le kp => ?_
  exact ⟨.ref s.heap.objs.size, upd H s.heap.objs.size (SetO X.w s.heap.objs.size (fun j => decide (j ∈ ns)) c), I.laid (t' := tk) kp (Nat.le_refl _) (setO_new R), rfl, q _ c le (I.hok.fresh (Nat.le_refl _))⟩
end
/-- the least list of what a list holds -/
structure Dis (ns ms : List Int) : Prop where
  pw : ms.Pairwise (· < ·)
  mem : ∀ k, k ∈ ms ↔ k ∈ ns
theorem dis_pw : ∀ {ns ms : List Int}, Dis ns ms → (ns = ms ↔ ns.Pairwise (· < ·)) := by
  intro ns ms d
  refine ⟨fun e => e ▸ d.pw, fun p => ?_⟩
  have hp : ns.Perm ms := (List.perm_ext_iff_of_nodup (p.imp fun h => Int.ne_of_lt h) (d.pw.imp fun h => Int.ne_of_lt h)).mpr fun k => (d.mem k).symm
  exact hp.eq_of_pairwise (fun a b _ _ h1 h2 => by omega) p d.pw
section
variable {H : Hp} {K : PySem.W.Frag} {w : World} {us : List V} {Q : VK} {p : Addr} {ns : List Int}
theorem setL (e : us = [.ref p]) (h : SqL K H p (ns.map V.int)) (few : ns.length < 64) (q : ∀ (a : Addr) (c : Nat) (H1 : Hp), c ≤ ns.length → Kp N0 H H1 → H1 a = some (SetO w a (fun j => decide (j ∈ ns)) c) → Q (.ref a) H1) : rSetL K w us H Q := by
  unfold rSetL
  exact ⟨p, ns, e, h, few, fun a c le hn => q a c _ le (.new hn) upd_same⟩
theorem sortS {c : Nat} {q : Addr} (e : us = [.ref q]) (h : H q = some (SetO w q (fun j => decide (j ∈ ns)) c)) (few : c < 64) (qq : ∀ (a : Addr) (H1 : Hp) (ms : List Int), Dis ns ms → Kp N0 H H1 → H1 a = some (.lst (ms.map V.int)) → Q (.ref a) H1) : rSortedSet w us H Q := by
  exact ⟨q, _, c, e, h, few, fun ms a pw mem _ hn => qq a _ ms ⟨pw, fun k => by rw [mem k]; exact decide_eq_true_iff⟩ (.new hn) upd_same⟩
end
end Vf

/-! ### sorted(tuple of ints); `in` where the tuple holds texts and what is asked is anything -/
namespace Vf
open PySem PySem.Spec PyProof.Rows L2
section
variable {P : Program} {w : World} {A : Around} {E : Value → Shared → Prop} {s : Shared}
abbrev nil0 : Obj := seqObj "list" #[] 0
abbrev pour (s : Shared) (vs : List Value) : Heap := (s.heap.push nil0).update s.heap.objs.size (Obj.mapSeq (· ++ vs.toArray))
theorem pour_size (s : Shared) (vs : List Value) : (pour s vs).objs.size = s.heap.objs.size + 1 := by rw [Heap.size_update, size_push']
/-- a new list takes all that a tuple holds -/
theorem pourT {l : Addr} {vs : List Value} {Q : PySem.Fin → Shared → Prop} {out : Value} (t : s.heap.IsTuple l vs.toArray) (few : vs.length ≤ sizeLine) (q : Q (.done (.ret out)) { s with heap := pour s vs }) :
    wpAny (model P w) A (Builtin.List.listExtendWith (.ref s.heap.objs.size) (.ref l) out) Q E { s with heap := s.heap.push nil0 } := by
  obtain ⟨o, got, cls, n, dat⟩ := t
  have here : (s.heap.push nil0).get? l = some o := Heap.get?_push_of_some _ got
  have own : (s.heap.push nil0).get? s.heap.objs.size = some nil0 := Heap.get?_push_size _ rfl
  have kind : Shared.TypeIs { s with heap := s.heap.push nil0 } (.ref l) "tuple" := ⟨o, here, cls⟩
  unfold Builtin.List.listExtendWith
  refine wpAny_bind (wpAny_typeOf kind ?_)
  rw [if_pos (by simp)]
  refine wpAny_bind (listItems_at here dat (wpAny_bind (listItems_at (xs := #[]) (n := 0) own rfl ?_)))
  rw [if_neg (by simp)]
  exact wpAny_bind (listUpdate_at (xs := #[]) (n := 0) own rfl (wpAny_pure q) (Nat.zero_le _) (by simp; omega))
/-- what is walked of a tuple -/
theorem collectT {l : Addr} {vs : List Value} {Q : List Value → Shared → Prop} (t : s.heap.IsTuple l vs.toArray) (few : vs.length ≤ sizeLine) (q : Q vs { s with heap := pour s vs }) : wpAny (model P w) A (collect (.ref l)) Q E s := by
  have loaded {R : Obj → Shared → Prop} (q : R (Obj.mapSeq (· ++ vs.toArray) nil0) { s with heap := pour s vs }) : wpAny (model P w) A (load s.heap.objs.size) R E { s with heap := pour s vs } := wpAny_load (get?_update_seq (Heap.get?_push_size _ rfl) _) q
  have told : (#[] ++ vs.toArray : Array Value).toList = vs := by simp
  unfold collect
  refine wpAny_bind (wpAny_runValue (codeAny_builtin entry_proto_collect' (wpAny_bind (wpAny_newList (wpAny_pure ?_)))))
  refine ⟨Code.quiet_builtin _ (by decide +kernel), codeAny_builtin entry_list_iadd' (pourT t few ?_)⟩
  exact wpAny_bind (loaded (wpAny_pure (by rw [told]; exact q)))
theorem sortedTI {l : Addr} {vs : List Value} {ns : List Int} {Q : Value → Shared → Prop} (t : s.heap.IsTuple l vs.toArray) (isi : IntsAre vs ns) (few : vs.length < 64)
    (q : ∀ (out : Array Value) (ms : List Int), IntsAre out.toList ms → ms.Perm ns → ms.Pairwise (· ≤ ·) → Q (.ref (s.heap.objs.size + 1)) { s with heap := sortedAll s.heap vs out }) : wpAny (model P w) A (call (.builtin "sorted") [.ref l]) Q E s := by
  have fits : vs.length ≤ sizeLine := by rw [sizeLine_eq]; omega
  refine Calls.call_function_entry kind_sorted plain_sorted entry_sorted (args_sorted1 _) ?_
  unfold Builtin.«sorted»
  refine wpAny_bind (m := checkCount "sorted" 1 1 _) (wpAny_pure (wpAny_bind (collectT t fits (wpAny_bind (wpAny_newList ?_ fits)))))
  have at1 : ((pour s vs).push (seqObj "list" vs.toArray 0)).get? (s.heap.objs.size + 1) = some (seqObj "list" vs.toArray 0) := by rw [← pour_size s vs]; exact Heap.get?_push_size _ rfl
  show wpAny _ _ _ _ _ { s with heap := (pour s vs).push (seqObj "list" vs.toArray 0) }
  rw [pour_size]
  refine wpAny_bind (wpAny_holding (wpAny_call_entry slot_list_sort ⟨_, at1, rfl⟩ entry_list_sort (list_sort_tree at1 isi few fun out ms b1 b2 b3 => ⟨_, rfl, ?_⟩) (args_list_sort _)))
  exact wpAny_pure ⟨_, rfl, q out ms b1 b2 b3⟩
end
section
variable {X : Cx}
@[irreducible] def rSortTI (K : PySem.W.Frag) : List V → Hp → VK → Prop := fun vs H Q => ∃ (a : Addr) (ns : List Int), vs = [V.ref a] ∧ SqT K H a (ns.map V.int) ∧ ns.length < 64 ∧ ∀ (ms : List Int) (p : Addr), ms.Perm ns → ms.Pairwise (· ≤ ·) → H p = none → Q (.ref p) (upd H p (.lst (ms.map V.int)))
theorem call_srtTI : CallR X (.builtin "sorted") (rSortTI X.K) := by
  unfold rSortTI
  intro pins s σ H vs us Q I r h
  obtain ⟨a, ns, rfl, ht, few, q⟩ := h
  obtain ⟨its, rv, tup, _⟩ := I.tuple ht
  rw [Vals.ref1 r]
  have isi := rv.ints
  refine sortedTI tup isi (by rw [isi.length]; exact few) fun out ms b1 b2 b3 => ?_
  obtain ⟨ep, at2⟩ := sortedAll_at s.heap its out
  have fits : (ms.map V.int).length ≤ sizeLine := by rw [List.length_map, b2.length_eq, sizeLine_eq]; omega
  refine ⟨.ref _, upd H (s.heap.objs.size + 1) (.lst (ms.map V.int)), I.laid (t' := s.toks) (fun _ _ => sortedAll_old) (Nat.le_succ _) ⟨fits, out.toList, ep, vals_of_ints b1, at2⟩, rfl, ?_⟩
  exact q ms _ b2 b3 (I.hok.fresh (Nat.le_succ _))
/-- x not in a tuple, by data -/
@[irreducible] def rNotInT (K : PySem.W.Frag) : R2 := fun x y H Q => ∃ d ds, Dp K H x d ∧ Dp K H y (.tuple ds) ∧ SeqAt.shaped d = true ∧ PyData.canLayAll0 ds = true ∧ PyData.depthAll ds = 0 ∧ Q (.bl (!ds.any fun z => PyData.eqv z d)) H
theorem op_notInT (hu : X.A.units + 64 < cLine) : OpR X (compareOp .NotIn) (rNotInT X.K) := by
  unfold rNotInT
  intro pins s σ H x y v u Q I rx ry h
  obtain ⟨d, ds, hd, he, sd, lay, flat, q⟩ := h
  obtain ⟨_, r1⟩ := Dp.reads I d x v hd rx
  obtain ⟨_, r2⟩ := Dp.reads I (.tuple ds) y u he ry
  refine SeqAt.notIn_tuple_reads r2 r1 lay (SeqAt.canLay_of_shaped sd) (by rw [flat, Nat.zero_min]; omega) ⟨.bl _, H, I, rfl, q⟩
end
section
variable {H : Hp} {K : PySem.W.Frag} {us : List V} {Q : VK} {p : Addr} {ns : List Int}
theorem sortTI (e : us = [.ref p]) (h : H p = some (.tup (ns.map V.int))) (few : ns.length < 64) (q : ∀ (ms : List Int) l H1, ms.Perm ns → ms.Pairwise (· ≤ ·) → H l = none → Kp N0 H H1 → H1 l = some (.lst (ms.map V.int)) → Q (.ref l) H1) : rSortTI K us H Q := by
  unfold rSortTI
  exact ⟨p, ns, e, SqT.of h, few, fun ms l b1 b2 hn => q ms l _ b1 b2 hn (.new hn) upd_same⟩
end
end Vf
namespace K46
open PySem PySem.Spec PyProof.Rows L2 Vf
def TL : Int := 100000000000000000000000000000000000000000000000000000000000000000000000000000000000000000000000000000000000000000000000000000000000000000000000000000000000000000000000000000000000000000000000000000000
def topS (i : Nat) : Stmt := PySem.Challenge.pw_timesthrough_k46_whole_words_that_lead_o.main.body.getD i (.Pass ⟨0, 0, 0, 0⟩)
abbrev s_is_short : Stmt := topS 2
theorem sc_is_short : FnScope ["number"] ["number"] (C8.fnScope s_is_short) := C8.fnScope_by (by decide +kernel)
abbrev s_are_short : Stmt := topS 3
theorem sc_are_short : FnScope ["numbers", "number"] ["numbers"] (C8.fnScope s_are_short) := C8.fnScope_by (by decide +kernel)
abbrev s_is_integer : Stmt := topS 4
theorem sc_is_integer : FnScope ["value"] ["value"] (C8.fnScope s_is_integer) := C8.fnScope_by (by decide +kernel)
abbrev s_is_from_to : Stmt := topS 5
theorem sc_is_from_to : FnScope ["value", "least", "most"] ["value", "least", "most"] (C8.fnScope s_is_from_to) := C8.fnScope_by (by decide +kernel)
abbrev s_is_row : Stmt := topS 17
theorem sc_is_row : FnScope ["value", "entry"] ["value"] (C8.fnScope s_is_row) := C8.fnScope_by (by decide +kernel)
abbrev s_check_many : Stmt := topS 18
theorem sc_check_many : FnScope ["n", "most"] ["n", "most"] (C8.fnScope s_check_many) := C8.fnScope_by (by decide +kernel)
abbrev s_check_row : Stmt := topS 19
theorem sc_check_row : FnScope ["row"] ["row"] (C8.fnScope s_check_row) := C8.fnScope_by (by decide +kernel)
abbrev s_check_rows : Stmt := topS 20
theorem sc_check_rows : FnScope ["one", "other"] ["one", "other"] (C8.fnScope s_check_rows) := C8.fnScope_by (by decide +kernel)
abbrev s_check_few : Stmt := topS 21
theorem sc_check_few : FnScope ["row", "most"] ["row", "most"] (C8.fnScope s_check_few) := C8.fnScope_by (by decide +kernel)
abbrev s_short_row : Stmt := topS 22
theorem sc_short_row : FnScope ["entries"] ["entries"] (C8.fnScope s_short_row) := C8.fnScope_by (by decide +kernel)
abbrev s_is_word_p : Stmt := topS 26
theorem sc_is_word_p : FnScope ["n", "value"] ["n", "value"] (C8.fnScope s_is_word_p) := C8.fnScope_by (by decide +kernel)
abbrev s_is_move : Stmt := topS 27
theorem sc_is_move : FnScope ["n", "value", "name", "index", "low", "high"] ["n", "value"] (C8.fnScope s_is_move) := C8.fnScope_by (by decide +kernel)
abbrev s_do_move : Stmt := topS 28
theorem sc_do_move : FnScope ["entries", "move", "i", "j", "k", "change", "at"] ["entries", "move"] (C8.fnScope s_do_move) := C8.fnScope_by (by decide +kernel)
abbrev s_moved_far : Stmt := topS 29
theorem sc_moved_far : FnScope ["row", "word", "entries", "move"] ["row", "word"] (C8.fnScope s_moved_far) := C8.fnScope_by (by decide +kernel)
abbrev s_is_word : Stmt := topS 30
theorem sc_is_word : FnScope ["n", "value", "move"] ["n", "value"] (C8.fnScope s_is_word) := C8.fnScope_by (by decide +kernel)
abbrev s_shadow_row : Stmt := topS 36
theorem sc_shadow_row : FnScope ["n"] ["n"] (C8.fnScope s_shadow_row) := C8.fnScope_by (by decide +kernel)
abbrev s_settle : Stmt := topS 37
theorem sc_settle : FnScope ["row", "shadow", "degree", "shade", "ranked", "word", "change", "one", "one_shade", "i", "two", "two_shade", "j", "three", "three_shade", "k", "other", "turned", "rank"] ["row"] (C8.fnScope s_settle) := C8.fnScope_by (by decide +kernel)
abbrev s_is_clearly_far : Stmt := topS 38
theorem sc_is_clearly_far : FnScope ["row", "many", "numbers", "meetings", "i", "first", "j", "left", "below", "number", "meeting"] ["row"] (C8.fnScope s_is_clearly_far) := C8.fnScope_by (by decide +kernel)
abbrev s_ranked : Stmt := topS 39
theorem sc_ranked : FnScope ["entries", "shadow", "at"] ["entries", "shadow"] (C8.fnScope s_ranked) := C8.fnScope_by (by decide +kernel)
abbrev s_sorting_swaps : Stmt := topS 40
theorem sc_sorting_swaps : FnScope ["places", "there", "swaps", "at", "wanted", "found"] ["places"] (C8.fnScope s_sorting_swaps) := C8.fnScope_by (by decide +kernel)
abbrev s_led : Stmt := topS 42
theorem sc_led : FnScope ["one", "other", "word", "end", "other_word", "other_end"] ["one", "other"] (C8.fnScope s_led) := C8.fnScope_by (by decide +kernel)
abbrev s_does_lead : Stmt := topS 43
theorem sc_does_lead : FnScope ["one", "other", "value"] ["one", "other", "value"] (C8.fnScope s_does_lead) := C8.fnScope_by (by decide +kernel)
abbrev s_parting : Stmt := topS 44
theorem sc_parting : FnScope ["one", "other", "_", "end", "other_end"] ["one", "other"] (C8.fnScope s_parting) := C8.fnScope_by (by decide +kernel)
abbrev s_check_two : Stmt := topS 45
theorem sc_check_two : FnScope ["one", "other"] ["one", "other"] (C8.fnScope s_check_two) := C8.fnScope_by (by decide +kernel)
abbrev s_l_dice : Stmt := topS 47
theorem sc_l_dice : FnScope ["_law_script", "_law_at", "_law_cell", "_law_great", "_law_left", "_law_mixed_here"] ["_law_script", "_law_at"] (C8.fnScope s_l_dice) := C8.fnScope_by (by decide +kernel)
abbrev s_l_roll : Stmt := topS 48
theorem sc_l_roll : FnScope ["_law_dice_here", "_law_total", "_law_size", "_law_drawn", "_law_one", "_law_two"] ["_law_dice_here", "_law_total"] (C8.fnScope s_l_roll) := C8.fnScope_by (by decide +kernel)
abbrev s_l_one_of : Stmt := topS 49
theorem sc_l_one_of : FnScope ["_law_dice_here", "_law_items"] ["_law_dice_here", "_law_items"] (C8.fnScope s_l_one_of) := C8.fnScope_by (by decide +kernel)
abbrev s_l_mixed : Stmt := topS 50
theorem sc_l_mixed : FnScope ["_law_dice_here", "_law_items", "_law_left", "_law_found"] ["_law_dice_here", "_law_items"] (C8.fnScope s_l_mixed) := C8.fnScope_by (by decide +kernel)
abbrev s_l_times : Stmt := topS 51
theorem sc_l_times : FnScope ["_law_one", "_law_other_here", "_law_left", "_law_right_here"] ["_law_one", "_law_other_here"] (C8.fnScope s_l_times) := C8.fnScope_by (by decide +kernel)
abbrev s_l_cubic : Stmt := topS 52
theorem sc_l_cubic : FnScope ["_law_n"] ["_law_n"] (C8.fnScope s_l_cubic) := C8.fnScope_by (by decide +kernel)
abbrev s_l_point_row : Stmt := topS 54
theorem sc_l_point_row : FnScope ["_law_n", "_law_at", "_law_place"] ["_law_n", "_law_at"] (C8.fnScope s_l_point_row) := C8.fnScope_by (by decide +kernel)
abbrev s_l_sum : Stmt := topS 55
theorem sc_l_sum : FnScope ["_law_rows", "_law_numbers", "_law_found", "_law_row_here", "_law_number", "_law_one", "_law_other_here"] ["_law_rows", "_law_numbers"] (C8.fnScope s_l_sum) := C8.fnScope_by (by decide +kernel)
abbrev s_l_generators : Stmt := topS 56
theorem sc_l_generators : FnScope ["_law_n", "_law_found", "_law_size"] ["_law_n"] (C8.fnScope s_l_generators) := C8.fnScope_by (by decide +kernel)
abbrev s_l_standard : Stmt := topS 57
theorem sc_l_standard : FnScope ["_law_dice_here", "_law_n", "_law_most", "_law_rows", "_law_row_here", "_law_one"] ["_law_dice_here", "_law_n", "_law_most"] (C8.fnScope s_l_standard) := C8.fnScope_by (by decide +kernel)
abbrev s_l_small_row : Stmt := topS 58
theorem sc_l_small_row : FnScope ["_law_dice_here", "_law_n", "_law_most", "_law_least", "_law_numbers", "_law_at"] ["_law_dice_here", "_law_n", "_law_most"] (C8.fnScope s_l_small_row) := C8.fnScope_by (by decide +kernel)
abbrev s_l_full_row : Stmt := topS 59
theorem sc_l_full_row : FnScope ["_law_dice_here", "_law_n", "_law_most", "_law_word_here", "_law_points", "_law_numbers", "_law_at"] ["_law_dice_here", "_law_n", "_law_most"] (C8.fnScope s_l_full_row) := C8.fnScope_by (by decide +kernel)
abbrev s_l_row : Stmt := topS 60
theorem sc_l_row : FnScope ["_law_dice_here", "_law_n", "_law_most", "_law_way"] ["_law_dice_here", "_law_n", "_law_most"] (C8.fnScope s_l_row) := C8.fnScope_by (by decide +kernel)
abbrev s_l_great_row : Stmt := topS 61
theorem sc_l_great_row : FnScope ["_law_dice_here", "_law_n", "_law_figures", "_law_size", "_law_numbers", "_law_at", "_law_one"] ["_law_dice_here", "_law_n", "_law_figures"] (C8.fnScope s_l_great_row) := C8.fnScope_by (by decide +kernel)
abbrev s_l_word : Stmt := topS 62
theorem sc_l_word : FnScope ["_law_dice_here", "_law_n", "_law_most", "_law_found", "_law_turn", "_law_places", "_law_way"] ["_law_dice_here", "_law_n", "_law_most"] (C8.fnScope s_l_word) := C8.fnScope_by (by decide +kernel)
abbrev s_l_move : Stmt := topS 63
theorem sc_l_move : FnScope ["_law_row_here", "_law_move_here", "_law_found", "_law_more", "_law_at"] ["_law_row_here", "_law_move_here"] (C8.fnScope s_l_move) := C8.fnScope_by (by decide +kernel)
abbrev s_l_moved : Stmt := topS 64
theorem sc_l_moved : FnScope ["_law_row_here", "_law_word_here", "_law_move_here"] ["_law_row_here", "_law_word_here"] (C8.fnScope s_l_moved) := C8.fnScope_by (by decide +kernel)
abbrev s_l_settled : Stmt := topS 65
theorem sc_l_settled : FnScope ["_law_row_here", "_law_numbers", "_law_more", "_law_at"] ["_law_row_here"] (C8.fnScope s_l_settled) := C8.fnScope_by (by decide +kernel)
abbrev s_l_other : Stmt := topS 66
theorem sc_l_other : FnScope ["_law_dice_here", "_law_row_here", "_law_n", "_law_way", "_law_other_here", "_law_at"] ["_law_dice_here", "_law_row_here"] (C8.fnScope s_l_other) := C8.fnScope_by (by decide +kernel)
abbrev s_l_spoilt : Stmt := topS 67
theorem sc_l_spoilt : FnScope ["_law_dice_here", "_law_n", "_law_word_here", "_law_at", "_law_way", "_law_more", "_law_some"] ["_law_dice_here", "_law_n", "_law_word_here"] (C8.fnScope s_l_spoilt) := C8.fnScope_by (by decide +kernel)
abbrev s_l_is_word : Stmt := topS 68
theorem sc_l_is_word : FnScope ["_law_n", "_law_value", "_law_move_here", "_law_places", "_law_one"] ["_law_n", "_law_value"] (C8.fnScope s_l_is_word) := C8.fnScope_by (by decide +kernel)
abbrev s_l_right : Stmt := topS 69
theorem sc_l_right : FnScope ["_law_dice_here", "_law_n", "_law_row_here", "_law_other_here", "_law_ends", "_law_found", "_law_turn", "_law_value", "_law_due"] ["_law_dice_here"] (C8.fnScope s_l_right) := C8.fnScope_by (by decide +kernel)
abbrev s_law : Stmt := topS 70
theorem sc_law : FnScope ["_law_script", "_law_at"] ["_law_script"] (C8.fnScope s_law) := C8.fnScope_by (by decide +kernel)
structure Txt (K : PySem.W.Frag) (mg : Str → Option Value) : Prop where
  b_abs : mg "abs" = none
  b_all : mg "all" = none
  b_bool : mg "bool" = none
  b_enumerate : mg "enumerate" = none
  b_int : mg "int" = none
  b_isinstance : mg "isinstance" = none
  b_len : mg "len" = none
  b_list : mg "list" = none
  b_max : mg "max" = none
  b_min : mg "min" = none
  b_range : mg "range" = none
  b_set : mg "set" = none
  b_sorted : mg "sorted" = none
  b_sum : mg "sum" = none
  b_tuple : mg "tuple" = none
  b_zip : mg "zip" = none
  c_FEW_POINTS : ∃ u, mg "FEW_POINTS" = some u ∧ RelV (.int 9) u
  c_FINITE_POINTS : ∃ u, mg "FINITE_POINTS" = some u ∧ RelV (.int 8) u
  c_LEAST_POINTS : ∃ u, mg "LEAST_POINTS" = some u ∧ RelV (.int 3) u
  c_MAX_WORD : ∃ u, mg "MAX_WORD" = some u ∧ RelV (.int 2000) u
  c_MOST_POINTS : ∃ u, mg "MOST_POINTS" = some u ∧ RelV (.int 16) u
  c_MOST_TURNS : ∃ u, mg "MOST_TURNS" = some u ∧ RelV (.int 1900) u
  c_TOO_LONG : ∃ u, mg "_TOO_LONG" = some u ∧ RelV (.int TL) u
end K46
namespace K46
open PySem PySem.Spec PyProof.Rows L2 Vf
section
variable {P : Program} {w : World} {K : PySem.W.Frag} {mg : Str → Option Value} {base : Heap}
/-! ### rows of ints, their products -/
def Sh (x : Int) : Prop := -TL < x ∧ x < TL
def Row (ns : List Int) : Prop := 4 ≤ ns.length ∧ ns.length ≤ 17 ∧ ∀ x ∈ ns, Sh x
theorem TL_lt : TL.natAbs < 2 ^ 700 := by decide +kernel
theorem Sh.lt {x : Int} (h : Sh x) : x.natAbs < 2 ^ 700 := by
  have := TL_lt
  obtain ⟨a, b⟩ := h
  omega
theorem Sh.le {x : Int} (h : Sh x) : x.natAbs ≤ TL.natAbs := by
  obtain ⟨a, b⟩ := h
  omega
theorem TL2_lt : 2 * TL.natAbs < 2 ^ 700 := by decide +kernel
theorem Row.sh {ns : List Int} (h : Row ns) (i : Nat) (hi : i < ns.length) : Sh (ns.getD i 0) := by
  rw [List.getD_eq_getElem?_getD, List.getElem?_eq_getElem hi]
  exact h.2.2 _ (List.getElem_mem hi)
theorem wide_sh {x y : Int} (hx : x.natAbs < 2 ^ 700) (hy : y.natAbs < 2 ^ 700) : CMulE x y := wmul hx hy (by decide) (by decide) (by decide)
theorem wide_2 {x : Int} : CDivW x 2 := wide_div (b := 2) (by decide) (by decide) (by decide) (by decide)
def dot (ns ms : List Int) : Int := ns.getD 0 0 * ms.getD 0 0 - (List.zipWith (· * ·) (ns.drop 1) (ms.drop 1)).sum
def cub (ns : List Int) : Int := 3 * ns.getD 0 0 - (ns.drop 1).sum
def cntg (ns : List Int) : Int := (dot ns ns + cub ns) / 2 + 1
def gen (ns : List Int) : Int := (dot ns ns - cub ns) / 2 + 1
def terms (ns : List Int) : Int := if ns.getD 0 0 < 0 then 0 else (ns.getD 0 0 + 1) * (ns.getD 0 0 + 2) / 2
def conds (ns : List Int) : Int := (((ns.drop 1).filter fun m => decide (0 < m)).map fun m => m * (m + 1) / 2).sum
def sp_is_short : Sp := fun vs H Q _ => ∃ i : Int, vs = [.int i] ∧ Sh i ∧ Q (.bl true) H
theorem ok_is_short (T : Txt K mg) (D : Df K mg "is_short" s_is_short ["number"]) : C8.Cal P w K mg base 1 "is_short" (sp_is_short) [] := by
  obtain ⟨f, fd, D, hb⟩ := D
  refine C8.cal0 D (.all hb) .nil sc_is_short (fun vs H Q E h => ?_) (fun cdv A outer s H vs Q E hr h => ?_)
  · obtain ⟨i, rfl, _⟩ := h; rfl
  · obtain ⟨i, rfl, hi, q⟩ := h
    refine ⟨_, (pss_one (ps_ret (pe_chain op_lt op_lt (pe_un un_neg (C8.pe_gc (by rfl) T.c_TOO_LONG)) (pv 0) (C8.pe_gc (by rfl) T.c_TOO_LONG)))), ?_⟩
    refine ⟨_, rfl, _, rfl, _, _, rfl, rfl, _, rfl, ?_⟩
    rw [decide_eq_true hi.1]
    refine iteT ⟨_, _, rfl, rfl, ?_⟩
    show Q (V.bl (decide (i < TL))) H
    rw [decide_eq_true hi.2]
    exact q
def sp_is_integer : Sp := fun vs H Q _ => (∃ i : Int, vs = [.int i] ∧ Sh i ∧ Q (.bl true) H) ∨ ∃ b, vs = [.bl b] ∧ Q (.bl false) H
theorem ok_is_integer (T : Txt K mg) (D : Df K mg "is_integer" s_is_integer ["value"]) (c_is_short : C8.Cal P w K mg base 1 "is_short" (sp_is_short) []) : C8.Cal P w K mg base 2 "is_integer" (sp_is_integer) [] := by
  obtain ⟨f, fd, D, hb⟩ := D
  refine C8.cal0 D (.all hb) .nil sc_is_integer (fun vs H Q E h => ?_) (fun cdv A outer s H vs Q E hr h => ?_)
  · rcases h with ⟨i, rfl, _⟩ | ⟨b, rfl, _⟩ <;> rfl
  · rcases h with ⟨i, rfl, hi, q⟩ | ⟨b, rfl, q⟩
    case inr =>
      refine ⟨_, (pss_one (ps_ret (pe_and (pe_callB (callK (K := K) rIsi call_isi) (by rfl) T.b_isinstance (by decide +kernel) (pa_cons (pv 0) (pa_cons (pe_bltn (v := .ty "int") (by rfl) T.b_int (by decide +kernel) rfl) pa_nil))) (pe_and (pe_not (pe_callB (callK (K := K) rIsi call_isi) (by rfl) T.b_isinstance (by decide +kernel) (pa_cons (pv 0) (pa_cons (pe_bltn (v := .ty "bool") (by rfl) T.b_bool (by decide +kernel) rfl) pa_nil)))) (pe_one (C8.pe_c c_is_short hr (by decide) (by rfl) (pa_cons (pv 0) pa_nil))))))), ?_⟩
      refine ⟨_, rfl, _, _, _, _, true, rfl, .ty _, .base (.bl b), kit_ty (by decide +kernel), true, rfl, iteT ?_⟩
      refine ⟨_, rfl, _, _, _, _, true, rfl, .ty _, .base (.bl b), kit_ty (by decide +kernel), true, rfl, false, rfl, iteF ?_⟩
      exact q
    refine ⟨_, (pss_one (ps_ret (pe_and (pe_callB (callK (K := K) rIsi call_isi) (by rfl) T.b_isinstance (by decide +kernel) (pa_cons (pv 0) (pa_cons (pe_bltn (v := .ty "int") (by rfl) T.b_int (by decide +kernel) rfl) pa_nil))) (pe_and (pe_not (pe_callB (callK (K := K) rIsi call_isi) (by rfl) T.b_isinstance (by decide +kernel) (pa_cons (pv 0) (pa_cons (pe_bltn (v := .ty "bool") (by rfl) T.b_bool (by decide +kernel) rfl) pa_nil)))) (pe_one (C8.pe_c c_is_short hr (by decide) (by rfl) (pa_cons (pv 0) pa_nil))))))), ?_⟩
    refine ⟨_, rfl, _, _, _, _, true, rfl, .ty _, .base (.int i), kit_ty (by decide +kernel), true, rfl, iteT ?_⟩
    refine ⟨_, rfl, _, _, _, _, false, rfl, .ty _, .base (.int i), kit_ty (by decide +kernel), false, rfl, true, rfl, iteT ?_⟩
    exact ⟨_, rfl, i, rfl, hi, q⟩
def sp_is_row (K : PySem.W.Frag) : Sp := fun vs H Q _ => ∃ a ns, vs = [.ref a] ∧ SqT K H a (ns.map V.int) ∧ Row ns ∧ ∀ H', Kp N0 H H' → Q (.bl true) H'
theorem ok_is_row (T : Txt K mg) (D : Df K mg "is_row" s_is_row ["value"]) (c_is_integer : C8.Cal P w K mg base 2 "is_integer" (sp_is_integer) []) : C8.Cal P w K mg base 3 "is_row" (sp_is_row K) [] := by
  obtain ⟨f, fd, D, hb⟩ := D
  refine C8.cal0 D (.all hb) .nil sc_is_row (fun vs H Q E h => ?_) (fun cdv A outer s H vs Q E hr h => ?_)
  · obtain ⟨i, ns, rfl, _⟩ := h; rfl
  · obtain ⟨a, ns, rfl, ht, hr1, q⟩ := h
    refine ⟨_, (pss_cons (ps_if (PW.pt (pw_or (pt_not (pt_val (pe_callB (callK (K := K) rIsi call_isi) (by rfl) T.b_isinstance (by decide +kernel) (pa_cons (pv 0) (pa_cons (pe_bltn (v := .ty "tuple") (by rfl) T.b_tuple (by decide +kernel) rfl) pa_nil))))) (pw_or1 (pt_not (pt_chain op_lt op_le (C8.pe_gc (by rfl) T.c_LEAST_POINTS) (pe_callB (callK (K := K) Vf.rLen call_lenI) (by rfl) T.b_len (by decide +kernel) (pa_cons (pv 0) pa_nil)) (pe_op op_add (C8.pe_gc (by rfl) T.c_MOST_POINTS) pe_int)))))) (pss_one (ps_ret pe_bl)) pss_nil)
      (pss_one (ps_ret (pe_callB (callK (K := K) rAll (cr_all rfl)) (by rfl) T.b_all (by decide +kernel) (pa_cons (pe_lc (own := [("entry", 1)]) (g := gName 1) rfl sc_is_row.nd (pi_tup (pv 0)) (C8b.blk (N := ["value", "entry"]) (sc := C8.fnScope s_is_row) (by decide +kernel)) (fun _ _ _ _ _ => (pg_name (i := 1) sc_is_row.nd rfl (Or.inl rfl))) (fun _ _ _ _ _ => pts_nil) (fun _ _ _ _ _ => (C8.pe_c c_is_integer hr (by decide) (by rfl) (pa_cons (pv 1) pa_nil)))) pa_nil))))), ?_⟩
    refine ⟨_, rfl, _, _, _, _, true, rfl, .ty _, tyS ht, kit_ty (by decide +kernel), true, rfl, iteF ?_⟩
    refine ⟨_, rfl, lenS rfl ht ⟨_, _, rfl, rfl, _, rfl, ?_⟩⟩
    rw [decide_eq_true (by rw [List.length_map]; have := hr1.1; omega)]
    refine iteT ⟨_, _, rfl, rfl, _, _, rfl, rfl, _, rfl, ?_⟩
    rw [decide_eq_true (by rw [List.length_map]; have := hr1.2.1; omega)]
    refine iteF ?_
    refine ⟨_, rfl, _, rfl, ⟨_, ht⟩, ?_⟩
    refine lc_bools walk_tup (fun _ => true) (by rw [List.length_map]; have := hr1.2.1; omega) (fun H' k => k.sqT ht) ?_ ?_
    · rintro i x H1 H2 hi k ⟨rfl, hx⟩ R hR
      rw [List.length_map] at hi
      have e : x = .int (ns.getD i 0) := by
        rw [List.getElem?_map, List.getElem?_eq_getElem hi] at hx
        rw [← Option.some.inj hx, List.getD_eq_getElem?_getD, List.getElem?_eq_getElem hi]
        rfl
      subst e
      exact ⟨rfl, _, rfl, .inl ⟨_, rfl, hr1.sh i hi, hR _ (.refl _ _)⟩⟩
    · intro D H1 k h1
      refine ⟨D, _, rfl, SqL.of h1, ?_⟩
      rw [show (List.map (fun _ => true) (List.range (ns.map V.int).length)).all id = true by simp]
      exact q _ k
def sp_check_row (K : PySem.W.Frag) : Sp := fun vs H Q _ => ∃ a ns, vs = [.ref a] ∧ SqT K H a (ns.map V.int) ∧ Row ns ∧ ∀ H', Kp N0 H H' → Q .non H'
theorem ok_check_row (T : Txt K mg) (D : Df K mg "check_row" s_check_row ["row"]) (c_is_row : C8.Cal P w K mg base 3 "is_row" (sp_is_row K) []) : C8.Cal P w K mg base 4 "check_row" (sp_check_row K) [] := by
  obtain ⟨f, fd, D, hb⟩ := D
  refine C8.cal0 D (.all hb) .nil sc_check_row (fun vs H Q E h => ?_) (fun cdv A outer s H vs Q E hr h => ?_)
  · obtain ⟨i, ns, rfl, _⟩ := h; rfl
  · obtain ⟨a, ns, rfl, ht, hr1, q⟩ := h
    refine ⟨_, (pss_one (ps_if (pt_not (pt_val (C8.pe_c c_is_row hr (by decide) (by rfl) (pa_cons (pv 0) pa_nil)))) (pss_one ps_never) pss_nil)), ?_⟩
    exact ⟨_, rfl, _, _, rfl, ht, hr1, fun H1 k => ⟨true, rfl, iteF (q _ k)⟩⟩
theorem dot_all {ns ms : List Int} (h1 : 0 < ns.length) (h2 : 0 < ms.length) : 2 * ns.getD 0 0 * ms.getD 0 0 - (List.zipWith (· * ·) ns ms).sum = dot ns ms := by
  match ns, ms, h1, h2 with
  | x :: ns, y :: ms, _, _ =>
    show 2 * x * y - (x * y + (List.zipWith (· * ·) ns ms).sum) = x * y - (List.zipWith (· * ·) ns ms).sum
    generalize (List.zipWith (· * ·) ns ms).sum = z
    grind
def sp_product_of (K : PySem.W.Frag) : Sp := fun vs H Q _ => ∃ a b ns ms, vs = [.ref a, .ref b] ∧ SqT K H a (ns.map V.int) ∧ SqT K H b (ms.map V.int) ∧ Row ns ∧ Row ms ∧ ms.length = ns.length ∧ ∀ H', Kp N0 H H' → Q (.int (dot ns ms)) H'
def sp_product_with_cubic (K : PySem.W.Frag) : Sp := fun vs H Q _ => ∃ a ns, vs = [.ref a] ∧ SqT K H a (ns.map V.int) ∧ Row ns ∧ ∀ H', Kp N0 H H' → Q (.int (cub ns)) H'
def sp_counting_of (K : PySem.W.Frag) : Sp := fun vs H Q _ => ∃ a ns, vs = [.ref a] ∧ H a = some (.tup (ns.map V.int)) ∧ Row ns ∧ ∀ H', Kp N0 H H' → Q (.int (cntg ns)) H'
def sp_counting (K : PySem.W.Frag) : Sp := fun vs H Q _ => ∃ a ns, vs = [.ref a] ∧ H a = some (.tup (ns.map V.int)) ∧ Row ns ∧ ∀ H', Kp N0 H H' → Q (.int (cntg ns)) H'
def sp_genus (K : PySem.W.Frag) : Sp := fun vs H Q _ => ∃ a ns, vs = [.ref a] ∧ H a = some (.tup (ns.map V.int)) ∧ Row ns ∧ ∀ H', Kp N0 H H' → Q (.int (gen ns)) H'
/-! ### the dice -/
def sp_l_dice (K : PySem.W.Frag) : Sp := fun vs H Q _ => ∃ (a : Addr) (ns : List Int) (i : Nat), vs = [.ref a, .int i] ∧ SqL K H a (ns.map V.int) ∧ i ≤ 100 ∧ ∀ p H', H p = none → Kp N0 H H' → Dc p H' → Q (.ref p) H'
theorem ok_l_dice (T : Txt K mg) (D : Df K mg "_law_dice" s_l_dice ["_law_script", "_law_at"]) : C8.Cal P w K mg base 1 "_law_dice" (sp_l_dice K) [] := by
  obtain ⟨f, fd, D, hb⟩ := D
  refine C8.cal0 D (.all hb) .nil sc_l_dice (fun vs H Q E h => ?_) (fun cdv A outer s H vs Q E hr h => ?_)
  · obtain ⟨_, _, _, rfl, _⟩ := h; rfl
  · obtain ⟨a, ns, i, rfl, ha, hi, q⟩ := h
    refine ⟨_, (pss_cons (ps_set (i := 2) sc_l_dice.nd rfl (Or.inl rfl) (pe_op op_add (pe_op op_mulE pe_int (pv 1)) pe_int))
      (pss_cons (ps_if (pt_cmpR op_lt (pv 1) (pe_callB (callK (K := K) Vf.rLen call_lenI) (by rfl) T.b_len (by decide +kernel) (pa_cons (pv 0) pa_nil)) (nomark _)) (pss_one (ps_set (i := 2) sc_l_dice.nd rfl (Or.inl rfl) (pe_ix (ixK (K := K) rIxL ix_list) (pv 0) (pv 1) (fun _ _ => rfl)))) pss_nil)
      (pss_cons (ps_set (i := 3) sc_l_dice.nd rfl (Or.inl rfl) (pe_op op_mod (pe_callTy call_int1 (by rfl) T.b_int (by decide +kernel) (pa_cons (pe_callB call_abs (by rfl) T.b_abs (by decide +kernel) (pa_cons (pv 2) pa_nil)) pa_nil)) (pe_op op_powW (pe_op op_powW pe_int pe_int) pe_int)))
      (pss_cons (ps_set (i := 4) sc_l_dice.nd rfl (Or.inl rfl) (pe_op op_fdivW (pv 3) (pe_op op_powW pe_int pe_int)))
      (pss_cons (ps_set (i := 5) sc_l_dice.nd rfl (Or.inl rfl) (pe_op op_add (pe_op op_add (pe_op op_add (pe_op op_mulE (pe_op op_mod (pv 3) pe_int) pe_int) (pe_op op_mulE pe_int (pv 1))) (pe_op op_mulE pe_int (pe_callTy call_int1 (by rfl) T.b_int (by decide +kernel) (pa_cons (pe_cmpR op_lt (pv 2) pe_int (nomark _)) pa_nil)))) pe_int))
      (pss_one (ps_ret (pe_lstN (pa_cons (pv 4) (pa_cons (pe_op op_mod (pv 5) pe_int) (pa_cons pe_int pa_nil))))))))))), ?_⟩
    have hw : ∀ {n : Int}, n.natAbs ≤ 100 → n.natAbs < 2 ^ 64 := fun h => Nat.lt_of_le_of_lt h (by decide)
    refine ⟨_, rfl, _, _, rfl, rfl, wmul (a := 64) (b := 64) (by decide) (hw (by omega)) (by decide) (by decide) (by decide), _, _, rfl, rfl, ?_⟩
    refine ⟨_, rfl, _, rfl, lenL rfl ha ⟨_, _, rfl, rfl, _, rfl, ?_⟩⟩
    refine ite2 (fun c => ?_) (fun c => ?_)
    · have hc : i < ns.length := by
        have := of_decide_eq_true c
        rw [List.length_map] at this
        omega
      refine ⟨_, rfl, _, rfl, a, _, _, _, rfl, rfl, ha, at_row hc, ?_⟩
      refine ⟨_, rfl, _, rfl, .inl ⟨_, rfl, ?_⟩⟩
      refine ⟨_, _, rfl, rfl, ⟨by decide, by decide⟩, _, _, rfl, rfl, ⟨by decide, by decide +kernel⟩, _, _, rfl, rfl, pow_pos_, ?_⟩
      refine ⟨_, rfl, _, _, rfl, rfl, ⟨by decide, by decide⟩, _, _, rfl, rfl, wide_div (b := 64) (by decide) (by decide) (by decide) (by decide), ?_⟩
      refine ⟨_, rfl, _, _, rfl, rfl, lp (by decide), _, _, rfl, rfl, wmul (a := 64) (b := 64) (mod_lt64 (by decide)) (by decide) (by decide) (by decide) (by decide), ?_⟩
      refine ⟨_, rfl, _, _, rfl, rfl, wmul (a := 64) (b := 64) (by decide) (hw (by omega)) (by decide) (by decide) (by decide), _, _, rfl, rfl, ?_⟩
      refine ⟨_, rfl, _, _, rfl, rfl, .inr ⟨_, rfl, _, _, rfl, rfl, wmul (a := 64) (b := 64) (by decide) b2i_lt (by decide) (by decide) (by decide), _, _, rfl, rfl, _, _, rfl, rfl, ?_⟩⟩
      refine ⟨_, rfl, _, rfl, _, _, rfl, rfl, lp (by decide), newL (sz_ (by simp)) fun p H1 n1 k1 h1 => q p H1 n1 k1 ⟨_, _, _, h1⟩⟩
    · refine ⟨_, rfl, _, rfl, .inl ⟨_, rfl, ?_⟩⟩
      refine ⟨_, _, rfl, rfl, ⟨by decide, by decide⟩, _, _, rfl, rfl, ⟨by decide, by decide +kernel⟩, _, _, rfl, rfl, pow_pos_, ?_⟩
      refine ⟨_, rfl, _, _, rfl, rfl, ⟨by decide, by decide⟩, _, _, rfl, rfl, wide_div (b := 64) (by decide) (by decide) (by decide) (by decide), ?_⟩
      refine ⟨_, rfl, _, _, rfl, rfl, lp (by decide), _, _, rfl, rfl, wmul (a := 64) (b := 64) (mod_lt64 (by decide)) (by decide) (by decide) (by decide) (by decide), ?_⟩
      refine ⟨_, rfl, _, _, rfl, rfl, wmul (a := 64) (b := 64) (by decide) (hw (by omega)) (by decide) (by decide) (by decide), _, _, rfl, rfl, ?_⟩
      refine ⟨_, rfl, _, _, rfl, rfl, .inr ⟨_, rfl, _, _, rfl, rfl, wmul (a := 64) (b := 64) (by decide) b2i_lt (by decide) (by decide) (by decide), _, _, rfl, rfl, _, _, rfl, rfl, ?_⟩⟩
      refine ⟨_, rfl, _, rfl, _, _, rfl, rfl, lp (by decide), newL (sz_ (by simp)) fun p H1 n1 k1 h1 => q p H1 n1 k1 ⟨_, _, _, h1⟩⟩
def sp_l_roll : Sp := fun vs H Q _ => ∃ (a : Addr) (n : Int), vs = [.ref a, .int n] ∧ Dc a H ∧ 0 < n ∧ n.natAbs < 2 ^ 700 ∧ ∀ r H', 0 ≤ r → r < n → DR a H H' → Q (.int r) H'
theorem ok_l_roll (T : Txt K mg) (D : Df K mg "_law_roll" s_l_roll ["_law_dice_here", "_law_total"]) : C8.Cal P w K mg base 1 "_law_roll" (sp_l_roll) [] := by
  obtain ⟨f, fd, D, hb⟩ := D
  refine C8.cal0 D (.all hb) .nil sc_l_roll (fun vs H Q E h => ?_) (fun cdv A outer s H vs Q E hr h => ?_)
  · obtain ⟨_, _, rfl, _⟩ := h; rfl
  · obtain ⟨a, n, rfl, ⟨l, m, c, hd⟩, h0, hn, q⟩ := h
    refine ⟨_, (pss_cons (ps_set (i := 2) sc_l_roll.nd rfl (Or.inl rfl) (pe_callTy call_int1 (by rfl) T.b_int (by decide +kernel) (pa_cons (pv 1) pa_nil)))
      (pss_cons (ps_if (pt_cmpR op_gt (pe_ix (ixK (K := K) rIxL ix_list) (pv 0) pe_int (fun _ _ => rfl)) pe_int (nomark _)) (pss_cons (ps_set (i := 3) sc_l_roll.nd rfl (Or.inl rfl) (pe_op op_mod (pe_ix (ixK (K := K) rIxL ix_list) (pv 0) pe_int (fun _ _ => rfl)) (pv 2)))
      (pss_cons (ps_asg (pe_op op_fdivW (pe_ix (ixK (K := K) rIxL ix_list) (pv 0) pe_int (fun _ _ => rfl)) (pv 2)) (pg_sub (pv 0) pe_int set_list))
      (pss_one (ps_ret (pe_callTy call_int1 (by rfl) T.b_int (by decide +kernel) (pa_cons (pv 3) pa_nil)))))) pss_nil)
      (pss_cons (ps_asg (pe_op op_add (pe_ix (ixK (K := K) rIxL ix_list) (pv 0) pe_int (fun _ _ => rfl)) pe_int) (pg_sub (pv 0) pe_int set_list))
      (pss_cons (ps_set (i := 4) sc_l_roll.nd rfl (Or.inl rfl) (pe_op op_mod (pe_op op_add (pe_ix (ixK (K := K) rIxL ix_list) (pv 0) pe_int (fun _ _ => rfl)) (pe_op op_mulE pe_int (pe_ix (ixK (K := K) rIxL ix_list) (pv 0) pe_int (fun _ _ => rfl)))) pe_int))
      (pss_cons (ps_set (i := 5) sc_l_roll.nd rfl (Or.inl rfl) (pe_op op_add (pe_op op_mulE (pe_op op_mod (pe_op op_mulE (pv 4) (pv 4)) pe_int) (pv 4)) (pe_op op_mulE pe_int (pe_ix (ixK (K := K) rIxL ix_list) (pv 0) pe_int (fun _ _ => rfl)))))
      (pss_cons (ps_set (i := 5) sc_l_roll.nd rfl (Or.inl rfl) (pe_op op_mod (pv 5) pe_int))
      (pss_one (ps_ret (pe_callTy call_int1 (by rfl) T.b_int (by decide +kernel) (pa_cons (pe_op op_mod (pe_op op_fdivW (pv 5) pe_int) (pv 2)) pa_nil)))))))))), ?_⟩
    refine ⟨_, rfl, .inl ⟨_, rfl, ?_⟩⟩
    refine ⟨_, rfl, a, _, _, _, rfl, rfl, SqL.of hd, rfl, _, _, rfl, rfl, _, rfl, ?_⟩
    refine ite2 (fun _ => ?_) (fun _ => ?_)
    · refine ⟨_, rfl, a, _, _, _, rfl, rfl, SqL.of hd, rfl, _, rfl, _, _, rfl, rfl, h0, ?_⟩
      refine ⟨_, rfl, a, _, _, _, rfl, rfl, SqL.of hd, rfl, _, rfl, _, _, rfl, rfl, wide_div h0 hn (by decide) (by decide), ?_⟩
      refine ⟨_, rfl, a, _, _, 0, rfl, rfl, hd, rfl, ?_⟩
      exact ⟨_, rfl, .inl ⟨_, rfl, q _ _ (Int.emod_nonneg _ (by omega)) (Int.emod_lt_of_pos _ h0) ⟨.mut rfl hd, _, _, _, upd_same⟩⟩⟩
    · refine ⟨_, rfl, a, _, _, _, rfl, rfl, SqL.of hd, rfl, _, _, rfl, rfl, ?_⟩
      refine ⟨_, rfl, a, _, _, 2, rfl, rfl, hd, rfl, ?_⟩
      have hd1 : upd H a (.lst [.int l, .int m, .int (c + 1)]) a = some (.lst [.int l, .int m, .int (c + 1)]) := upd_same
      have k1 : DR a H (upd H a (.lst [.int l, .int m, .int (c + 1)])) := ⟨.mut rfl hd, _, _, _, upd_same⟩
      refine ⟨_, rfl, a, _, _, _, rfl, rfl, SqL.of hd1, rfl, _, rfl, a, _, _, _, rfl, rfl, SqL.of hd1, rfl, _, _, rfl, rfl, mulX_left (by decide), _, _, rfl, rfl, _, _, rfl, rfl, lp (by decide), ?_⟩
      refine ⟨_, rfl, _, rfl, _, _, rfl, rfl, wmul (a := 64) (b := 64) (mod_lt64 (by decide)) (mod_lt64 (by decide)) (by decide) (by decide) (by decide), _, _, rfl, rfl, lp (by decide), _, rfl, _, _, rfl, rfl, wmul (a := 64) (b := 64) (mod_lt64 (by decide)) (mod_lt64 (by decide)) (by decide) (by decide) (by decide), _, rfl, a, _, _, _, rfl, rfl, SqL.of hd1, rfl, _, _, rfl, rfl, mulX_left (by decide), _, _, rfl, rfl, ?_⟩
      refine ⟨_, rfl, _, _, rfl, rfl, lp (by decide), ?_⟩
      exact ⟨_, rfl, _, _, rfl, rfl, wide_div (b := 64) (by decide) (by decide) (by decide) (by decide), _, rfl, _, _, rfl, rfl, h0, .inl ⟨_, rfl, q _ _ (Int.emod_nonneg _ (by omega)) (Int.emod_lt_of_pos _ h0) k1⟩⟩

/-! ### more of rows -/
def sp_is_from_to : Sp := fun vs H Q _ => (∃ i l m : Int, vs = [.int i, .int l, .int m] ∧ Sh i ∧ l ≤ i ∧ i ≤ m ∧ Q (.bl true) H) ∨ (∃ i l m : Int, vs = [.int i, .int l, .int m] ∧ Sh i ∧ l ≤ i ∧ m < i ∧ Q (.bl false) H) ∨ ∃ (b : Bool) (l m : Int), vs = [.bl b, .int l, .int m] ∧ Q (.bl false) H
theorem ok_is_from_to (T : Txt K mg) (D : Df K mg "is_from_to" s_is_from_to ["value", "least", "most"]) (c_is_integer : C8.Cal P w K mg base 2 "is_integer" (sp_is_integer) []) : C8.Cal P w K mg base 3 "is_from_to" (sp_is_from_to) [] := by
  obtain ⟨f, fd, D, hb⟩ := D
  refine C8.cal0 D (.all hb) .nil sc_is_from_to (fun vs H Q E h => ?_) (fun cdv A outer s H vs Q E hr h => ?_)
  · rcases h with ⟨_, _, _, rfl, _⟩ | ⟨_, _, _, rfl, _⟩ | ⟨_, _, _, rfl, _⟩ <;> rfl
  · rcases h with ⟨i, l, m, rfl, hi, h1, h2, q⟩ | ⟨i, l, m, rfl, hi, h1, h2, q⟩ | ⟨b, l, m, rfl, q⟩
    case inr.inr =>
      refine ⟨_, (pss_one (ps_ret (pe_and (C8.pe_c c_is_integer hr (by decide) (by rfl) (pa_cons (pv 0) pa_nil)) (pe_one (pe_chain op_le op_le (pv 1) (pv 0) (pv 2)))))), ?_⟩
      exact ⟨_, rfl, .inr ⟨b, rfl, false, rfl, iteF q⟩⟩
    case inr.inl =>
      refine ⟨_, (pss_one (ps_ret (pe_and (C8.pe_c c_is_integer hr (by decide) (by rfl) (pa_cons (pv 0) pa_nil)) (pe_one (pe_chain op_le op_le (pv 1) (pv 0) (pv 2)))))), ?_⟩
      refine ⟨_, rfl, .inl ⟨_, rfl, hi, true, rfl, iteT ?_⟩⟩
      refine ⟨_, rfl, _, rfl, _, _, rfl, rfl, _, rfl, ?_⟩
      rw [decide_eq_true h1]
      refine iteT ⟨_, rfl, _, _, rfl, rfl, ?_⟩
      show Q (V.bl (decide (i ≤ m))) H
      rw [decide_eq_false (by omega)]
      exact q
    refine ⟨_, (pss_one (ps_ret (pe_and (C8.pe_c c_is_integer hr (by decide) (by rfl) (pa_cons (pv 0) pa_nil)) (pe_one (pe_chain op_le op_le (pv 1) (pv 0) (pv 2)))))), ?_⟩
    refine ⟨_, rfl, .inl ⟨_, rfl, hi, true, rfl, iteT ?_⟩⟩
    refine ⟨_, rfl, _, rfl, _, _, rfl, rfl, _, rfl, ?_⟩
    rw [decide_eq_true h1]
    refine iteT ⟨_, rfl, _, _, rfl, rfl, ?_⟩
    show Q (V.bl (decide (i ≤ m))) H
    rw [decide_eq_true h2]
    exact q
theorem sh_small {i : Int} (h0 : -(10 ^ 60) ≤ i) (h1 : i ≤ 10 ^ 60) : Sh i := by
  have : (10 : Int) ^ 60 < TL := by decide +kernel
  exact ⟨by omega, by omega⟩
def sp_check_many : Sp := fun vs H Q _ => ∃ (n : Nat), vs = [.int n, .int 16] ∧ 3 ≤ n ∧ n ≤ 16 ∧ Q .non H
theorem ok_check_many (T : Txt K mg) (D : Df K mg "check_many" s_check_many ["n", "most"]) (c_is_from_to : C8.Cal P w K mg base 3 "is_from_to" (sp_is_from_to) []) : C8.Cal P w K mg base 4 "check_many" (sp_check_many) [] := by
  obtain ⟨f, fd, D, hb⟩ := D
  refine C8.cal0 D (.all hb) .nil sc_check_many (fun vs H Q E h => ?_) (fun cdv A outer s H vs Q E hr h => ?_)
  · obtain ⟨_, rfl, _⟩ := h; rfl
  · obtain ⟨n, rfl, h1, h2, q⟩ := h
    refine ⟨_, (pss_one (ps_if (pt_not (pt_val (C8.pe_c c_is_from_to hr (by decide) (by rfl) (pa_cons (pv 0) (pa_cons (C8.pe_gc (by rfl) T.c_LEAST_POINTS) (pa_cons (pv 1) pa_nil)))))) (pss_one ps_never) pss_nil)), ?_⟩
    exact ⟨_, rfl, _, rfl, .inl ⟨_, _, _, rfl, sh_small (by omega) (by omega), by omega, by omega, true, rfl, iteF q⟩⟩
def crow (n : Nat) : List Int := 3 :: List.replicate n 1
def lrow (n : Nat) : List Int := 1 :: List.replicate n 0
def prow (n i : Nat) : List Int := 0 :: (List.range n).map fun j => 0 - (if j = i then 1 else 0)
def sp_cubic (K : PySem.W.Frag) : Sp := fun vs H Q _ => ∃ (n : Nat), vs = [.int n] ∧ 3 ≤ n ∧ n ≤ 16 ∧ ∀ p H', Kp N0 H H' → H' p = some (.tup ((crow n).map V.int)) → Q (.ref p) H'
def sp_line_row (K : PySem.W.Frag) : Sp := fun vs H Q _ => ∃ (n : Nat), vs = [.int n] ∧ 3 ≤ n ∧ n ≤ 16 ∧ ∀ p H', Kp N0 H H' → H' p = some (.tup ((lrow n).map V.int)) → Q (.ref p) H'
theorem prow_eq (n i : Nat) (h : i < n) : List.replicate (i + 1) 0 ++ [(-1 : Int)] ++ List.replicate (n - 1 - i) 0 = prow n i := by
  unfold prow
  refine List.ext_getElem (by simp; omega) fun j h1 h2 => ?_
  cases j with
  | zero => simp [List.replicate_succ]
  | succ j =>
    simp only [List.getElem_cons_succ, List.getElem_map, List.getElem_range]
    by_cases e : j = i
    · subst e
      simp [List.getElem_append]
    · rw [if_neg e]
      by_cases lt : j < i
      · simp [List.getElem_append, lt]
      · obtain ⟨k, rfl⟩ : ∃ k, j = i + 1 + k := ⟨j - (i + 1), by omega⟩
        have e2 : ¬ i + 1 + k + 1 < i + 1 + 1 := by omega
        rw [List.getElem_append_right (by simp)]
        simp
def sp_point_row (K : PySem.W.Frag) : Sp := fun vs H Q _ => ∃ (n i : Nat), vs = [.int n, .int i] ∧ 3 ≤ n ∧ n ≤ 16 ∧ i < n ∧ ∀ p H', Kp N0 H H' → H' p = some (.tup ((prow n i).map V.int)) → Q (.ref p) H'
def sp_check_rows (K : PySem.W.Frag) : Sp := fun vs H Q _ => ∃ a b ns ms, vs = [.ref a, .ref b] ∧ H a = some (.tup (ns.map V.int)) ∧ H b = some (.tup (ms.map V.int)) ∧ Row ns ∧ Row ms ∧ ms.length = ns.length ∧ ∀ H', Kp N0 H H' → Q .non H'
theorem ok_check_rows (T : Txt K mg) (D : Df K mg "check_rows" s_check_rows ["one", "other"]) (c_check_row : C8.Cal P w K mg base 4 "check_row" (sp_check_row K) []) : C8.Cal P w K mg base 5 "check_rows" (sp_check_rows K) [] := by
  obtain ⟨f, fd, D, hb⟩ := D
  refine C8.cal0 D (.all hb) .nil sc_check_rows (fun vs H Q E h => ?_) (fun cdv A outer s H vs Q E hr h => ?_)
  · obtain ⟨_, _, _, _, rfl, _⟩ := h; rfl
  · obtain ⟨a, b, ns, ms, rfl, ha, hb, ra, rb, hl, q⟩ := h
    refine ⟨_, (pss_cons (ps_expr (C8.pe_c c_check_row hr (by decide) (by rfl) (pa_cons (pv 0) pa_nil)))
      (pss_cons (ps_expr (C8.pe_c c_check_row hr (by decide) (by rfl) (pa_cons (pv 1) pa_nil)))
      (pss_one (ps_if (pt_cmpR op_ne (pe_callB (callK (K := K) Vf.rLen call_lenI) (by rfl) T.b_len (by decide +kernel) (pa_cons (pv 0) pa_nil)) (pe_callB (callK (K := K) Vf.rLen call_lenI) (by rfl) T.b_len (by decide +kernel) (pa_cons (pv 1) pa_nil)) (nomark _)) (pss_one ps_never) pss_nil)))), ?_⟩
    refine ⟨_, rfl, _, _, rfl, (SqT.of ha), ra, fun H1 k1 => ⟨_, rfl, _, _, rfl, (SqT.of (k1.tup _ _ hb)), rb, fun H2 k2 => ?_⟩⟩
    have k := k1.trans k2
    refine ⟨_, rfl, lenT rfl (k.tup _ _ ha) ⟨_, rfl, lenT rfl (k.tup _ _ hb) ⟨rfl, _, rfl, iteNe ?_ (q _ k)⟩⟩⟩
    simp [hl]
def sp_product (K : PySem.W.Frag) : Sp := fun vs H Q _ => ∃ a b ns ms, vs = [.ref a, .ref b] ∧ H a = some (.tup (ns.map V.int)) ∧ H b = some (.tup (ms.map V.int)) ∧ Row ns ∧ Row ms ∧ ms.length = ns.length ∧ ∀ H', Kp N0 H H' → Q (.int (dot ns ms)) H'
def sp_square (K : PySem.W.Frag) : Sp := fun vs H Q _ => ∃ a ns, vs = [.ref a] ∧ H a = some (.tup (ns.map V.int)) ∧ Row ns ∧ ∀ H', Kp N0 H H' → Q (.int (dot ns ns)) H'
def sp_with_cubic (K : PySem.W.Frag) : Sp := fun vs H Q _ => ∃ a ns, vs = [.ref a] ∧ H a = some (.tup (ns.map V.int)) ∧ Row ns ∧ ∀ H', Kp N0 H H' → Q (.int (cub ns)) H'
def AllSh (ns : List Int) : Prop := ∀ x ∈ ns, Sh x
def sp_are_short (K : PySem.W.Frag) : Sp := fun vs H Q _ => ∃ a ns, vs = [.ref a] ∧ (H a = some (.lst (ns.map V.int)) ∨ H a = some (.tup (ns.map V.int))) ∧ AllSh ns ∧ ns.length ≤ 100 ∧ ∀ H', Kp N0 H H' → Q (.bl true) H'
theorem ok_are_short (T : Txt K mg) (D : Df K mg "are_short" s_are_short ["numbers"]) (c_is_short : C8.Cal P w K mg base 1 "is_short" (sp_is_short) []) : C8.Cal P w K mg base 2 "are_short" (sp_are_short K) [] := by
  obtain ⟨f, fd, D, hb⟩ := D
  refine C8.cal0 D (.all hb) .nil sc_are_short (fun vs H Q E h => ?_) (fun cdv A outer s H vs Q E hr h => ?_)
  · obtain ⟨_, _, rfl, _⟩ := h; rfl
  · obtain ⟨a, ns, rfl, ha, hs, hl, q⟩ := h
    refine ⟨_, (pss_one (ps_ret (pe_callB (callK (K := K) rAll (cr_all rfl)) (by rfl) T.b_all (by decide +kernel) (pa_cons (pe_lc (own := [("number", 1)]) (g := gName 1) rfl sc_are_short.nd (pi_seq (pv 0)) (C8b.blk (N := ["numbers", "number"]) (sc := C8.fnScope s_are_short) (by decide +kernel)) (fun _ _ _ _ _ => (pg_name (i := 1) sc_are_short.nd rfl (Or.inl rfl))) (fun _ _ _ _ _ => pts_nil) (fun _ _ _ _ _ => (C8.pe_c c_is_short hr (by decide) (by rfl) (pa_cons (pv 1) pa_nil)))) pa_nil)))), ?_⟩
    have fin : ∀ D H1, Kp N0 H H1 → H1 D = some (.lst (((List.range (ns.map V.int).length).map fun _ => true).map V.bl)) → rAll K [V.ref D] H1 Q := by
      intro D H1 k h1
      refine ⟨D, _, rfl, SqL.of h1, ?_⟩
      rw [show (List.map (fun _ => true) (List.range (ns.map V.int).length)).all id = true by simp]
      exact q _ k
    have sh : ∀ i, i < ns.length → Sh (ns.getD i 0) := fun i hi => by
      rw [List.getD_eq_getElem?_getD, List.getElem?_eq_getElem hi]
      exact hs _ (List.getElem_mem hi)
    rcases ha with ha | ha
    · refine ⟨_, rfl, _, rfl, .inl ⟨⟨_, SqL.of ha⟩, ?_⟩⟩
      refine lc_bools walk_list (fun _ => true) (by simp; omega) (fun H' k => SqL.of (k.keep _ _ (fun z => z) ha)) ?_ ?_
      · rintro i x H1 H2 hi k ⟨rfl, hx⟩ R hR
        rw [List.length_map] at hi
        rw [int_at hi] at hx
        cases hx
        exact ⟨rfl, _, rfl, _, rfl, sh i hi, hR _ (.refl _ _)⟩
      · exact fin
    · refine ⟨_, rfl, _, rfl, .inr ⟨⟨_, SqT.of ha⟩, ?_⟩⟩
      refine lc_bools walk_tup (fun _ => true) (by simp; omega) (fun H' k => SqT.of (k.tup _ _ ha)) ?_ ?_
      · rintro i x H1 H2 hi k ⟨rfl, hx⟩ R hR
        rw [List.length_map] at hi
        rw [int_at hi] at hx
        cases hx
        exact ⟨rfl, _, rfl, _, rfl, sh i hi, hR _ (.refl _ _)⟩
      · exact fin
def sp_short_row (K : PySem.W.Frag) : Sp := fun vs H Q _ => ∃ a ns, vs = [.ref a] ∧ (H a = some (.lst (ns.map V.int)) ∨ H a = some (.tup (ns.map V.int))) ∧ AllSh ns ∧ ns.length ≤ 100 ∧ ∀ p H', Kp N0 H H' → H' p = some (.tup (ns.map V.int)) → Q (.ref p) H'
theorem ok_short_row (T : Txt K mg) (D : Df K mg "short_row" s_short_row ["entries"]) (c_are_short : C8.Cal P w K mg base 2 "are_short" (sp_are_short K) []) : C8.Cal P w K mg base 3 "short_row" (sp_short_row K) [] := by
  obtain ⟨f, fd, D, hb⟩ := D
  refine C8.cal0 D (.all hb) .nil sc_short_row (fun vs H Q E h => ?_) (fun cdv A outer s H vs Q E hr h => ?_)
  · obtain ⟨_, _, rfl, _⟩ := h; rfl
  · obtain ⟨a, ns, rfl, ha, hs, hl, q⟩ := h
    refine ⟨_, (pss_cons (ps_if (pt_not (pt_val (C8.pe_c c_are_short hr (by decide) (by rfl) (pa_cons (pv 0) pa_nil)))) (pss_one ps_never) pss_nil)
      (pss_one (ps_ret (pe_callTy (callK (K := K) rTupOf call_tupI) (by rfl) T.b_tuple (by decide +kernel) (pa_cons (pv 0) pa_nil))))), ?_⟩
    refine ⟨_, rfl, _, _, rfl, ha, hs, hl, fun H1 k1 => ⟨true, rfl, iteF ?_⟩⟩
    rcases ha with ha | ha
    · exact ⟨_, rfl, tupL rfl (SqL.of (k1.keep _ _ (fun z => z) ha)) fun p H2 _ k2 hp => q _ _ (k1.trans k2) hp⟩
    · exact ⟨_, rfl, tupT rfl (k1.tup _ _ ha) (q _ _ k1 (k1.tup _ _ ha))⟩
def sp_plus_times (K : PySem.W.Frag) : Sp := fun vs H Q _ => ∃ a b c ns ms, vs = [.ref a, .int c, .ref b] ∧ H a = some (.tup (ns.map V.int)) ∧ H b = some (.tup (ms.map V.int)) ∧ c.natAbs < 2 ^ 700 ∧ (∀ y ∈ ms, y.natAbs < 2 ^ 700) ∧ ns.length ≤ 100 ∧
  ∀ p H', Kp N0 H H' → H' p = some (.tup ((List.zipWith (fun x y => x + c * y) ns ms).map V.int)) → Q (.ref p) H'
def sp_added (K : PySem.W.Frag) : Sp := fun vs H Q _ => ∃ a b ns ms, vs = [.ref a, .ref b] ∧ H a = some (.tup (ns.map V.int)) ∧ H b = some (.tup (ms.map V.int)) ∧ Row ns ∧ Row ms ∧ ms.length = ns.length ∧ AllSh (List.zipWith (· + ·) ns ms) ∧
  ∀ p H', Kp N0 H H' → H' p = some (.tup ((List.zipWith (· + ·) ns ms).map V.int)) → Q (.ref p) H'
theorem zip_one (ns ms : List Int) : List.zipWith (fun x y => x + 1 * y) ns ms = List.zipWith (· + ·) ns ms := by
  congr 1
  funext x y
  rw [Int.one_mul]
theorem zip_neg (ns ms : List Int) : List.zipWith (fun x y => x + -1 * y) ns ms = List.zipWith (· - ·) ns ms := by
  congr 1
  funext x y
  omega
theorem row_w {ns : List Int} (h : Row ns) : ∀ y ∈ ns, y.natAbs < 2 ^ 700 := fun y hy => (h.2.2 y hy).lt
def sp_less (K : PySem.W.Frag) : Sp := fun vs H Q _ => ∃ a b ns ms, vs = [.ref a, .ref b] ∧ H a = some (.tup (ns.map V.int)) ∧ H b = some (.tup (ms.map V.int)) ∧ Row ns ∧ Row ms ∧ ms.length = ns.length ∧ AllSh (List.zipWith (· - ·) ns ms) ∧
  ∀ p H', Kp N0 H H' → H' p = some (.tup ((List.zipWith (· - ·) ns ms).map V.int)) → Q (.ref p) H'
def sp_multiplied (K : PySem.W.Frag) : Sp := fun vs H Q _ => ∃ (c : Int) (a : Addr) (ns : List Int), vs = [.int c, .ref a] ∧ H a = some (.tup (ns.map V.int)) ∧ Sh c ∧ Row ns ∧ AllSh (ns.map (c * ·)) ∧
  ∀ p H', Kp N0 H H' → H' p = some (.tup ((ns.map (c * ·)).map V.int)) → Q (.ref p) H'
/-! ### what the laws draw -/
def Lim (b : Int) (ns : List Int) : Prop := 4 ≤ ns.length ∧ ns.length ≤ 17 ∧ ∀ x ∈ ns, -b ≤ x ∧ x ≤ b
theorem Lim.row {b : Int} {ns : List Int} (h : Lim b ns) (hb : b < TL) : Row ns := ⟨h.1, h.2.1, fun x hx => by
  have := h.2.2 x hx
  exact ⟨by omega, by omega⟩⟩
theorem Lim.at {b : Int} {ns : List Int} (h : Lim b ns) {i : Nat} (hi : i < ns.length) : -b ≤ ns.getD i 0 ∧ ns.getD i 0 ≤ b := by
  rw [List.getD_eq_getElem?_getD, List.getElem?_eq_getElem hi]
  exact h.2.2 _ (List.getElem_mem hi)
theorem Lim.mono {b c : Int} {ns : List Int} (h : Lim b ns) (hc : b ≤ c) : Lim c ns := ⟨h.1, h.2.1, fun x hx => by
  have := h.2.2 x hx
  exact ⟨by omega, by omega⟩⟩
def sp_one_v (K : PySem.W.Frag) : List V → Hp → VK → Prop := fun vs H Q => ∃ (a l : Addr) (xs : List V), vs = [.ref a, .ref l] ∧ Dc a H ∧ SqL K H l xs ∧ (∀ H', DR a H H' → SqL K H' l xs) ∧ 0 < xs.length ∧ xs.length ≤ 1000 ∧ ∀ i H', i < xs.length → DR a H H' → ∃ v, xs[i]? = some v ∧ Q v H'
def sp_l_one_of (K : PySem.W.Frag) : Sp := fun vs H Q _ => (∃ (a l : Addr) (ns : List Int), vs = [.ref a, .ref l] ∧ Dc a H ∧ SqL K H l (ns.map V.int) ∧ (∀ H', DR a H H' → SqL K H' l (ns.map V.int)) ∧ 0 < ns.length ∧ ns.length ≤ 1000 ∧ ∀ z H', z ∈ ns → DR a H H' → Q (.int z) H') ∨ sp_one_v K vs H Q
theorem ok_l_one_of (T : Txt K mg) (D : Df K mg "_law_one_of" s_l_one_of ["_law_dice_here", "_law_items"]) (c_l_roll : C8.Cal P w K mg base 1 "_law_roll" (sp_l_roll) []) : C8.Cal P w K mg base 2 "_law_one_of" (sp_l_one_of K) [] := by
  obtain ⟨f, fd, D, hb⟩ := D
  refine C8.cal0 D (.all hb) .nil sc_l_one_of (fun vs H Q E h => ?_) (fun cdv A outer s H vs Q E hr h => ?_)
  · rcases h with ⟨_, _, _, rfl, _⟩ | ⟨_, _, _, rfl, _⟩ <;> rfl
  · have h : sp_one_v K vs H Q := by
      rcases h with ⟨a, l, ns, rfl, hd, hl, hl2, h0, h1, q⟩ | h
      · exact ⟨a, l, ns.map V.int, rfl, hd, hl, hl2, by simpa using h0, by simpa using h1, fun i H' hi d => ⟨_, int_at (by simpa using hi), q _ _ (by
          rw [List.length_map] at hi
          rw [List.getD_eq_getElem?_getD, List.getElem?_eq_getElem hi]
          exact List.getElem_mem _) d⟩⟩
      · exact h
    obtain ⟨a, l, xs, rfl, hd, hl, hl2, h0, h1, q⟩ := h
    refine ⟨_, (pss_one (ps_ret (pe_ix (ixK (K := K) rIxL ix_list) (pv 1) (C8.pe_c c_l_roll hr (by decide) (by rfl) (pa_cons (pv 0) (pa_cons (pe_callB (callK (K := K) Vf.rLen call_lenI) (by rfl) T.b_len (by decide +kernel) (pa_cons (pv 1) pa_nil)) pa_nil))) (fun _ _ => rfl)))), ?_⟩
    refine ⟨_, rfl, _, rfl, _, rfl, lenL rfl hl ⟨_, _, rfl, hd, by omega, ?_, fun r H1 r0 r1 d1 => ?_⟩⟩
    · exact Nat.lt_of_le_of_lt (by omega : ((xs.length : Nat) : Int).natAbs ≤ 1000) (by decide)
    · obtain ⟨v, hv, qv⟩ := q r.toNat H1 (by omega) d1
      have hat := atI_nat hv
      rw [Int.toNat_of_nonneg r0] at hat
      exact ixL_do (hl2 H1 d1) hat qv
def sp_l_mixed (K : PySem.W.Frag) : Sp := fun vs H Q _ => ∃ (a l : Addr) (ns : List Int), vs = [.ref a, .ref l] ∧ Dc a H ∧ (SqL K H l (ns.map V.int) ∨ SqT K H l (ns.map V.int)) ∧ ns.length ≤ 1000 ∧
  ∀ p H' (ms : List Int), H p = none → DR a H H' → H' p = some (.lst (ms.map V.int)) → ms.Perm ns → Q (.ref p) H'
theorem perm_pop {A : List Int} {k : Nat} {x : Int} (h : A[k]? = some x) : (x :: A.eraseIdx k).Perm A := by
  induction A generalizing k with
  | nil => simp at h
  | cons y r ih =>
    cases k with
    | zero =>
      cases h
      exact .refl _
    | succ k => exact (List.Perm.swap y x _).trans ((ih (k := k) (by simpa using h)).cons y)
theorem map_erase {α β : Type} (f : α → β) : ∀ (l : List α) (k : Nat), (l.map f).eraseIdx k = (l.eraseIdx k).map f
  | [], _ => rfl
  | _ :: _, 0 => rfl
  | x :: l, k + 1 => by
    show f x :: (l.map f).eraseIdx k = f x :: (l.eraseIdx k).map f
    rw [map_erase f l k]
theorem seq_nat {i n : Nat} (h : i < n) : seqIndex? (i : Int) n = some i := by
  obtain ⟨j, h1, h2, _⟩ := atI_get (xs := (List.range n)) (i := (i : Int)) (v := i) (atI_nat (by rw [List.getElem?_range h]))
  rw [List.length_range] at h1
  have : j = i := by
    have hj : j < n := by
      have := (List.getElem?_eq_some_iff.mp h2).1
      rwa [List.length_range] at this
    rw [List.getElem?_range hj] at h2
    exact Option.some.inj h2
  rw [h1, this]
def mixW (a l p1 p2 : Addr) (ns : List Int) (H : Hp) (m : Nat) (σ : L2.St) (H' : Hp) : Prop := ∃ (A B : List Int), σ = [some (.ref a), some (.ref l), some (.ref p1), some (.ref p2)] ∧ m = A.length ∧ DR a H H' ∧ H' p1 = some (.lst (A.map V.int)) ∧ H' p2 = some (.lst (B.map V.int)) ∧ (B ++ A).Perm ns
theorem ok_l_mixed (T : Txt K mg) (D : Df K mg "_law_mixed" s_l_mixed ["_law_dice_here", "_law_items"]) (c_l_roll : C8.Cal P w K mg base 1 "_law_roll" (sp_l_roll) []) : C8.Cal P w K mg base 2 "_law_mixed" (sp_l_mixed K) [] := by
  obtain ⟨f, fd, D, hb⟩ := D
  refine C8.cal0 D (.all hb) .nil sc_l_mixed (fun vs H Q E h => ?_) (fun cdv A outer s H vs Q E hr h => ?_)
  · obtain ⟨_, _, _, rfl, _⟩ := h; rfl
  · obtain ⟨a, l, ns, rfl, hd, hl, h1, q⟩ := h
    refine ⟨_, (pss_cons (ps_par (i := 2) (j := 3) (by rfl) sc_l_mixed.nd rfl rfl (by decide) rfl rfl (pa_cons (pe_callTy (callK (K := K) rListOf call_lstI) (by rfl) T.b_list (by decide +kernel) (pa_cons (pv 1) pa_nil)) (pa_cons (pe_lstN pa_nil) pa_nil)) (by rfl))
      (pss_cons (ps_while PassesOwn.never (pt_cmpR (opK (K := K) rNeI (op_neI hr.units)) (pv 2) (pe_lstN pa_nil) (nomark _)) (pss_one (ps_expr (pe_bm PySem.F.plainAttrs_list PySem.F.slot_list_append PySem.F.type_list_append mt_append (pv 3) (pa_cons (pe_bm PySem.F.plainAttrs_list PySem.F.slot_list_pop PySem.F.type_list_pop mt_popAt (pv 2) (pa_cons (C8.pe_c c_l_roll hr (by decide) (by rfl) (pa_cons (pv 0) (pa_cons (pe_callB (callK (K := K) Vf.rLen call_lenI) (by rfl) T.b_len (by decide +kernel) (pa_cons (pv 2) pa_nil)) pa_nil))) pa_nil)) pa_nil)))))
      (pss_one (ps_ret (pv 3))))), ?_⟩
    refine ⟨_, rfl, listL rfl hl fun p1 H1 n1 k1 hp1 => newL (sz_ (by simp)) fun p2 H2 n2 k2 hp2 => ⟨_, _, rfl, ?_⟩⟩
    have n2' : H p2 = none := k1.live _ n2
    have hne : p1 ≠ p2 := ne_of_none hp1 n2
    have fin : mixW a l p1 p2 ns H ns.length [some (.ref a), some (.ref l), some (.ref p1), some (.ref p2)] H2 := ⟨ns, [], rfl, rfl, .of hd (k1.trans k2), k2.keep _ _ (fun z => z) hp1, hp2, .refl _⟩
    refine ⟨mixW a l p1 p2 ns H, ⟨_, fin⟩, ?_⟩
    rintro m σ H3 ⟨A, B, rfl, rfl, d3, hA, hB, hperm⟩
    refine ⟨_, rfl, newL (sz_ (by simp)) fun p4 H4 n4 k4 hp4 => neNil (SqL.of (k4.keep _ _ (fun z => z) hA)) (SqL.of hp4) ⟨_, rfl, ?_⟩⟩
    have d4 := d3.trans (.of d3.dc k4)
    have hA4 := k4.keep _ _ (fun z => z) hA
    have hB4 := k4.keep _ _ (fun z => z) hB
    have hlen : (B ++ A).length ≤ 1000 := by rw [hperm.length_eq]; exact h1
    rw [List.length_append] at hlen
    cases A with
    | nil =>
      refine iteF ?_
      exact ⟨_, rfl, q _ _ _ n2' d4 hB4 (by simpa using hperm)⟩
    | cons x A =>
      refine iteT ⟨fun σ' H' => ∃ m', m' < (x :: A).length ∧ mixW a l p1 p2 ns H m' σ' H', fun σ' H' z => z, ?_⟩
      refine ⟨_, rfl, .inl ⟨rfl, _, SqL.of hB4⟩, _, rfl, .inl ⟨rfl, _, SqL.of hA4⟩, _, rfl, _, rfl, lenL rfl (SqL.of hA4) ⟨_, _, rfl, d4.dc, by simp, ?_, fun r H5 r0 r1 d5 => ?_⟩⟩
      · rw [List.length_map]
        exact Nat.lt_of_le_of_lt (by omega : (((x :: A).length : Nat) : Int).natAbs ≤ 1000) (by decide)
      · rw [List.length_map] at r1
        have rl : r.toNat < (x :: A).length := by omega
        have np1 : p1 ≠ a := fun z => hd.ne n1 z.symm
        have np2 : p2 ≠ a := fun z => hd.ne n2' z.symm
        have hA5 := d5.lst np1 hA4
        have hB5 := d5.lst np2 hB4
        have e1 : seqIndex? r ((x :: A).map V.int).length = some r.toNat := by
          have := seq_nat (i := r.toNat) (n := ((x :: A).map V.int).length) (by rw [List.length_map]; exact rl)
          rw [Int.toNat_of_nonneg r0] at this
          exact this
        refine ⟨p1, _, _, r.toNat, .int ((x :: A).getD r.toNat 0), rfl, rfl, hA5, by omega, by omega, e1, int_at rl, ?_⟩
        have hB6 : upd H5 p1 (.lst (((x :: A).map V.int).eraseIdx r.toNat)) p2 = some (.lst (B.map V.int)) := by rw [upd_ne hne.symm]; exact hB5
        refine ⟨p2, _, _, rfl, rfl, hB6, Nat.lt_of_le_of_lt (by rw [List.length_map]; omega : (B.map V.int).length ≤ 1000) (by decide), ?_⟩
        have hg : (x :: A)[r.toNat]? = some ((x :: A).getD r.toNat 0) := by rw [List.getD_eq_getElem?_getD, List.getElem?_eq_getElem rl]; rfl
        have hp := perm_pop hg
        have lenE : ((x :: A).eraseIdx r.toNat).length = A.length := by
          have := hp.length_eq
          simp only [List.length_cons] at this
          omega
        refine ⟨((x :: A).eraseIdx r.toNat).length, by rw [lenE]; simp, (x :: A).eraseIdx r.toNat, B ++ [(x :: A).getD r.toNat 0], rfl, rfl, ⟨.mut0 n2' (.mut0 n1 (d4.kp.trans d5.kp)), (d5.dc.upd_ne np1.symm).upd_ne np2.symm⟩, ?_, ?_, ?_⟩
        · rw [upd_ne hne, upd_same, map_erase]
        · rw [upd_same, List.map_append]
          rfl
        · rw [List.append_assoc]
          exact (List.Perm.append_left B hp).trans hperm

def sp_l_times (K : PySem.W.Frag) : Sp := fun vs H Q _ => ∃ a b ns ms, vs = [.ref a, .ref b] ∧ H a = some (.tup (ns.map V.int)) ∧ H b = some (.tup (ms.map V.int)) ∧ Row ns ∧ Row ms ∧ ms.length = ns.length ∧ ∀ H', Kp N0 H H' → Q (.int (dot ns ms)) H'
theorem ok_l_times (T : Txt K mg) (D : Df K mg "_law_times" s_l_times ["_law_one", "_law_other_here"]) : C8.Cal P w K mg base 1 "_law_times" (sp_l_times K) [] := by
  obtain ⟨f, fd, D, hb⟩ := D
  refine C8.cal0 D (.all hb) .nil sc_l_times (fun vs H Q E h => ?_) (fun cdv A outer s H vs Q E hr h => ?_)
  · obtain ⟨_, _, _, _, rfl, _⟩ := h; rfl
  · obtain ⟨a, b, ns, ms, rfl, ha, hb, ra, rb, hl, q⟩ := h
    refine ⟨_, (pss_one (ps_ret (pe_op op_sub (pe_op op_mulE (pe_ix (ixK (K := K) rIxT ix_tup) (pv 0) pe_int (fun _ _ => rfl)) (pe_ix (ixK (K := K) rIxT ix_tup) (pv 1) pe_int (fun _ _ => rfl))) (pe_callB (callK (K := K) rSum (cr_sum rfl)) (by rfl) T.b_sum (by decide +kernel) (pa_cons (pe_lc (own := [("_law_left", 2), ("_law_right_here", 3)]) (g := gTup K 2 (gCons (gName 2) (gCons (gName 3) gNil))) rfl sc_l_times.nd (RZ.pi_zipA (by rfl) T.b_zip (pa_cons (pe_slice (slK (K := K) rSlI sl_tupI) (pv 0) (po_some pe_int) po_none) (pa_cons (pe_slice (slK (K := K) rSlI sl_tupI) (pv 1) (po_some pe_int) po_none) pa_nil))) (C8b.blk (N := ["_law_one", "_law_other_here", "_law_left", "_law_right_here"]) (sc := C8.fnScope s_l_times) (by decide +kernel)) (fun _ _ _ _ _ => (pg_tup rfl (pgs_cons (pg_name (i := 2) sc_l_times.nd rfl (Or.inl rfl)) (pgs_cons (pg_name (i := 3) sc_l_times.nd rfl (Or.inl rfl)) pgs_nil)))) (fun _ _ _ _ _ => pts_nil) (fun _ _ _ _ _ => (pe_op op_mulE (pv 2) (pv 3)))) pa_nil))))), ?_⟩
    have l1 := ra.1
    have l2 := ra.2.1
    refine ⟨_, rfl, _, _, _, _, rfl, rfl, SqT.of ha, at_row0 (by omega), _, rfl, _, _, _, _, rfl, rfl, SqT.of hb, at_row0 (by omega), _, _, rfl, rfl, wide_sh (ra.sh 0 (by omega)).lt (rb.sh 0 (by omega)).lt, ?_⟩
    refine ⟨_, rfl, _, rfl, slT ha fun p H1 k1 hp => ?_⟩
    refine ⟨_, rfl, _, rfl, slT (k1.tup _ _ hb) fun p2 H2 k2 hp2 => ?_⟩
    have hp' := k2.tup _ _ hp
    rw [cut_1] at hp' hp2
    refine ⟨_, _, _, _, rfl, .inr ⟨SqT.of hp', SqT.of hp2, ?_⟩⟩
    refine lc_ints (walk_zipT rfl) (fun i => (ns.drop 1).getD i 0 * (ms.drop 1).getD i 0) (by simp; omega) (fun H' k => ⟨SqT.of (k.tup _ _ hp'), SqT.of (k.tup _ _ hp2)⟩) ?_ ?_
    · rintro i x H3 H4 hi k3 ⟨T, x1, x2, rfl, hT, rfl, e1, e2⟩ R hR
      have hi1 : i < (ns.drop 1).length := by simp at hi ⊢; omega
      have hi2 : i < (ms.drop 1).length := by simp at hi ⊢; omega
      obtain rfl : x1 = _ := (Option.some.inj ((int_at hi1).symm.trans e1)).symm
      obtain rfl : x2 = _ := (Option.some.inj ((int_at hi2).symm.trans e2)).symm
      refine ⟨T, _, rfl, SqT.of upd_same, rfl, _, _, rfl, _, _, rfl, rfl, rfl, _, rfl, _, rfl, _, _, rfl, rfl, wide_sh ?_ ?_, hR _ (.new hT)⟩
      · rw [List.getD_eq_getElem?_getD, List.getElem?_drop, ← List.getD_eq_getElem?_getD]
        exact (ra.sh _ (by simp at hi1; omega)).lt
      · rw [List.getD_eq_getElem?_getD, List.getElem?_drop, ← List.getD_eq_getElem?_getD]
        exact (rb.sh _ (by simp at hi2; omega)).lt
    · intro D H3 k3 h3
      rw [range_zip (· * ·) (ns.drop 1) (ms.drop 1) _ (by simp)] at h3
      exact ⟨D, _, rfl, SqL.of h3, _, _, rfl, rfl, q _ ((k1.trans k2).trans k3)⟩
def sp_l_cubic (K : PySem.W.Frag) : Sp := fun vs H Q _ => ∃ (n : Nat), vs = [.int n] ∧ 3 ≤ n ∧ n ≤ 16 ∧ ∀ p H', Kp N0 H H' → H' p = some (.tup ((crow n).map V.int)) → Q (.ref p) H'
theorem ok_l_cubic (T : Txt K mg) (D : Df K mg "_law_cubic" s_l_cubic ["_law_n"]) : C8.Cal P w K mg base 1 "_law_cubic" (sp_l_cubic K) [] := by
  obtain ⟨f, fd, D, hb⟩ := D
  refine C8.cal0 D (.all hb) .nil sc_l_cubic (fun vs H Q E h => ?_) (fun cdv A outer s H vs Q E hr h => ?_)
  · obtain ⟨_, rfl, _⟩ := h; rfl
  · obtain ⟨n, rfl, h1, h2, q⟩ := h
    refine ⟨_, (pss_one (ps_ret (pe_op (opK (K := K) rCatI op_catI) (pe_tupN (pa_cons pe_int pa_nil)) (pe_op (opK (K := K) rRepA op_repA) (pe_tupN (pa_cons pe_int pa_nil)) (pv 0))))), ?_⟩
    refine newT (sz_ (by simp)) fun p1 H1 _ k1 hp1 => ?_
    refine newT (sz_ (by simp)) fun p2 H2 _ k2 hp2 => ?_
    refine ⟨_, rfl, rep_do hp2 (by simp) (by omega) (by omega) (by simp) fun p3 H3 k3 hp3 => ?_⟩
    rw [rep_one] at hp3
    refine catT (k3.tup _ _ (k2.tup _ _ hp1)) hp3 (sz_ (by simp; omega)) fun p4 H4 k4 hp4 => ?_
    exact q _ _ (((k1.trans k2).trans k3).trans k4) hp4
theorem crow_row {n : Nat} (h1 : 3 ≤ n) (h2 : n ≤ 16) : Row (crow n) := by
  refine ⟨by simp [crow]; omega, by simp [crow]; omega, fun x hx => ?_⟩
  have : x = 3 ∨ x = 1 := by
    rcases List.mem_cons.mp hx with rfl | hx
    · exact .inl rfl
    · exact .inr (List.eq_of_mem_replicate hx)
  rcases this with rfl | rfl <;> exact sh_small (by decide) (by decide)
theorem dot_crow {ns : List Int} {n : Nat} (h : ns.length = n + 1) : dot ns (crow n) = cub ns := by
  obtain ⟨d, ms, rfl⟩ : ∃ d ms, ns = d :: ms := by
    cases ns with
    | nil => simp at h
    | cons d ms => exact ⟨d, ms, rfl⟩
  show d * 3 - (List.zipWith (· * ·) ms (List.replicate n 1)).sum = 3 * d - ms.sum
  have e : ∀ (ms : List Int) (n : Nat), ms.length = n → List.zipWith (· * ·) ms (List.replicate n 1) = ms := by
    intro ms
    induction ms with
    | nil => intro n _; simp
    | cons x r ih =>
      intro n hn
      cases n with
      | zero => simp at hn
      | succ n =>
        rw [List.replicate_succ, List.zipWith_cons_cons, ih n (by simpa using hn), Int.mul_one]
  rw [e ms n (by simpa using h)]
  omega
def sp_l_counting (K : PySem.W.Frag) : Sp := fun vs H Q _ => ∃ a ns, vs = [.ref a] ∧ H a = some (.tup (ns.map V.int)) ∧ Row ns ∧ ∀ H', Kp N0 H H' → Q (.int (cntg ns)) H'
/-! ### rows that are drawn -/
def sp_l_point_row (K : PySem.W.Frag) : Sp := fun vs H Q _ => ∃ (n i : Nat), vs = [.int n, .int i] ∧ n ≤ 16 ∧ ∀ p H', Kp N0 H H' → H' p = some (.tup ((prow n i).map V.int)) → Q (.ref p) H'
theorem ok_l_point_row (T : Txt K mg) (D : Df K mg "_law_point_row" s_l_point_row ["_law_n", "_law_at"]) : C8.Cal P w K mg base 1 "_law_point_row" (sp_l_point_row K) [] := by
  obtain ⟨f, fd, D, hb⟩ := D
  refine C8.cal0 D (.all hb) .nil sc_l_point_row (fun vs H Q E h => ?_) (fun cdv A outer s H vs Q E hr h => ?_)
  · obtain ⟨_, _, rfl, _⟩ := h; rfl
  · obtain ⟨n, i, rfl, h2, q⟩ := h
    refine ⟨_, (pss_one (ps_ret (pe_callTy (callK (K := K) rTupOf call_tupI) (by rfl) T.b_tuple (by decide +kernel) (pa_cons (pe_op op_catLI (pe_lstN (pa_cons pe_int pa_nil)) (pe_lc (own := [("_law_place", 2)]) (g := gName 2) rfl sc_l_point_row.nd (pi_range1 (by rfl) T.b_range (pa_cons (pv 0) pa_nil)) (C8b.blk (N := ["_law_n", "_law_at", "_law_place"]) (sc := C8.fnScope s_l_point_row) (by decide +kernel)) (fun _ _ _ _ _ => (pg_name (i := 2) sc_l_point_row.nd rfl (Or.inl rfl))) (fun _ _ _ _ _ => pts_nil) (fun _ _ _ _ _ => (pe_op op_sub pe_int (pe_callTy call_int1 (by rfl) T.b_int (by decide +kernel) (pa_cons (pe_cmpR op_eq (pv 2) (pv 1) (nomark _)) pa_nil)))))) pa_nil)))), ?_⟩
    refine newL (sz_ (by simp)) fun p1 H1 n1 k1 hp1 => ?_
    refine ⟨_, rfl, _, rfl, by omega, by omega, ?_⟩
    refine lc_ints walk_range (fun j => 0 - (if j = i then 1 else 0)) (by omega) (fun _ _ => trivial) ?_ ?_
    · rintro j x H3 H4 hj k ⟨rfl, rfl⟩ R hR
      refine ⟨rfl, _, rfl, _, rfl, rfl, .inr ⟨_, rfl, _, _, rfl, rfl, ?_⟩⟩
      have e : (if decide (V.int (0 + (j : Int)) = V.int (i : Int)) = true then (1 : Int) else 0) = if j = i then 1 else 0 := by
        by_cases e : j = i
        · subst e
          rw [if_pos rfl, if_pos (decide_eq_true (by rw [Int.zero_add]))]
        · rw [if_neg e, if_neg (fun z => e (by have := V.int.inj (of_decide_eq_true z); omega))]
      show R (V.int (0 - (if decide (V.int (0 + (j : Int)) = V.int (i : Int)) = true then (1 : Int) else 0))) _
      rw [e]
      exact hR _ (.refl _ _)
    · intro D H3 k3 h3
      refine catL (k3.keep _ _ (fun z => z) hp1) h3 (sz_ (by simp; omega)) fun p4 H4 _ k4 hp4 => ?_
      refine tupL rfl (SqL.of hp4) fun p5 H5 _ k5 hp5 => q _ _ (((k1.trans k3).trans k4).trans k5) hp5
def sumr : List Int → List (List Int) → List Int → List Int
  | acc, r :: rs, n :: ns => sumr (List.zipWith (fun x y => x + n * y) acc r) rs ns
  | acc, _, _ => acc
theorem sumr_take (acc : List Int) (rs : List (List Int)) (ns : List Int) (i : Nat) (r : List Int) (n : Int) (h1 : rs[i]? = some r) (h2 : ns[i]? = some n) :
    sumr acc (rs.take (i + 1)) (ns.take (i + 1)) = List.zipWith (fun x y => x + n * y) (sumr acc (rs.take i) (ns.take i)) r := by
  induction i generalizing acc rs ns with
  | zero =>
    cases rs with
    | nil => simp at h1
    | cons r' rs =>
      cases ns with
      | nil => simp at h2
      | cons n' ns =>
        cases h1
        cases h2
        simp [sumr]
  | succ i ih =>
    cases rs with
    | nil => simp at h1
    | cons r' rs =>
      cases ns with
      | nil => simp at h2
      | cons n' ns =>
        simp only [List.take_succ_cons, sumr]
        exact ih _ rs ns (by simpa using h1) (by simpa using h2)
theorem sumr_len (acc : List Int) (rs : List (List Int)) (ns : List Int) (h : ∀ r ∈ rs, r.length = acc.length) : (sumr acc rs ns).length = acc.length := by
  induction rs generalizing acc ns with
  | nil => cases ns <;> rfl
  | cons r rs ih =>
    cases ns with
    | nil => rfl
    | cons n ns =>
      have h0 := h r List.mem_cons_self
      have e : (List.zipWith (fun x y => x + n * y) acc r).length = acc.length := by simp [h0]
      show (sumr _ rs ns).length = _
      rw [ih _ ns (fun r' hr' => by rw [e]; exact h r' (List.mem_cons_of_mem _ hr')), e]
def W700 (ns : List Int) : Prop := ∀ x ∈ ns, x.natAbs < 2 ^ 700
theorem W700.at {ns : List Int} (h : W700 ns) {i : Nat} (hi : i < ns.length) : (ns.getD i 0).natAbs < 2 ^ 700 := by
  rw [List.getD_eq_getElem?_getD, List.getElem?_eq_getElem hi]
  exact h _ (List.getElem_mem hi)
def sp_l_sum (K : PySem.W.Frag) : Sp := fun vs H Q _ => ∃ (a b : Addr) (ws : List V) (rs : List (List Int)) (ns : List Int) (L : Nat), vs = [.ref a, .ref b] ∧ H a = some (.lst ws) ∧ RwK K H ws rs ∧ H b = some (.lst (ns.map V.int)) ∧ rs.length = ns.length ∧ 0 < rs.length ∧ rs.length ≤ 100 ∧ L ≤ 100 ∧
  (∀ r ∈ rs, r.length = L ∧ W700 r) ∧ W700 ns ∧ ∀ p H', Kp N0 H H' → H' p = some (.tup ((sumr (List.replicate L 0) rs ns).map V.int)) → Q (.ref p) H'
theorem ok_l_sum (T : Txt K mg) (D : Df K mg "_law_sum" s_l_sum ["_law_rows", "_law_numbers"]) : C8.Cal P w K mg base 1 "_law_sum" (sp_l_sum K) [] := by
  obtain ⟨f, fd, D, hb⟩ := D
  refine C8.cal0 D (.all hb) .nil sc_l_sum (fun vs H Q E h => ?_) (fun cdv A outer s H vs Q E hr h => ?_)
  · obtain ⟨_, _, _, _, _, _, rfl, _⟩ := h; rfl
  · obtain ⟨a, b, ws, rs, ns, L, rfl, ha, hw, hb, hl, h0, h1, hL, hr2, hn2, q⟩ := h
    refine ⟨_, (pss_cons (ps_set (i := 2) sc_l_sum.nd rfl (Or.inl rfl) (pe_op op_repLI (pe_lstN (pa_cons pe_int pa_nil)) (pe_callB (callK (K := K) Vf.rLen call_lenI) (by rfl) T.b_len (by decide +kernel) (pa_cons (pe_ix (ixK (K := K) rIxL ix_list) (pv 0) pe_int (fun _ _ => rfl)) pa_nil))))
      (pss_cons (ps_for PassesOwn.never rfl (pi_zip (by rfl) T.b_zip (pa_cons (pv 0) (pa_cons (pv 1) pa_nil))) (pg_tup rfl (pgs_cons (pg_name (i := 3) sc_l_sum.nd rfl (Or.inl rfl)) (pgs_cons (pg_name (i := 4) sc_l_sum.nd rfl (Or.inr rfl)) pgs_nil))) (pss_one (ps_setLc (i := 2) (own := [("_law_one", 5), ("_law_other_here", 6)]) (g := gTup K 2 (gCons (gName 5) (gCons (gName 6) gNil))) rfl sc_l_sum.nd rfl rfl (sw_true rfl rfl rfl (by decide +kernel)) (pi_zipLT (by rfl) T.b_zip (pa_cons (pv 2) (pa_cons (pv 3) pa_nil))) (C8b.blk (N := ["_law_rows", "_law_numbers", "_law_found", "_law_row_here", "_law_number", "_law_one", "_law_other_here"]) (sc := C8.fnScope s_l_sum) (by decide +kernel)) (fun _ _ _ _ _ => (pg_tup rfl (pgs_cons (pg_name (i := 5) sc_l_sum.nd rfl (Or.inl rfl)) (pgs_cons (pg_name (i := 6) sc_l_sum.nd rfl (Or.inl rfl)) pgs_nil)))) (fun _ _ _ _ _ => pts_nil) (fun _ _ _ _ _ => (pe_op op_add (pv 5) (pe_op op_mulE (pv 4) (pv 6)))))))
      (pss_one (ps_ret (pe_callTy (callK (K := K) rTupOf call_tupI) (by rfl) T.b_tuple (by decide +kernel) (pa_cons (pv 2) pa_nil)))))), ?_⟩
    refine newL (sz_ (by simp)) fun p1 H1 n1 k1 hp1 => ?_
    have ha1 := k1.keep _ _ (fun z => z) ha
    have hw1 := hw.kp k1
    have hwl := hw.len
    obtain ⟨v0, hv0⟩ : ∃ v, ws[0]? = some v := ⟨ws[0]'(by omega), by rw [List.getElem?_eq_getElem]⟩
    obtain ⟨p0, r0, rfl, hr0, hp0⟩ := hw1.get hv0
    refine ⟨_, rfl, a, _, _, _, rfl, rfl, SqL.of ha1, atI_nat (j := 0) hv0, lenS rfl hp0 ?_⟩
    have hr0L := (hr2 r0 (List.mem_of_getElem? hr0)).1
    refine repL hp1 (by omega) (by rw [List.length_map]; omega) fun p2 H2 n2 k2 hp2 => ?_
    have e0 : ((List.replicate (((r0.map V.int).length : Nat) : Int).toNat (0 : Int))) = List.replicate L 0 := by
      rw [List.length_map, hr0L]
      rfl
    rw [e0] at hp2
    have k02 := k1.trans k2
    have ha2 := k02.keep _ _ (fun z => z) ha
    have hb2 := k02.keep _ _ (fun z => z) hb
    refine ⟨_, rfl, _, rfl, a, b, _, _, rfl, SqL.of ha2, SqL.of hb2, ?_⟩
    refine for_it (n := ns.length) (walk_zip (K := K) (a := a) (b := b) (xs := ws) (ys := ns.map V.int) (by simp; omega)) (fun i σ H' => ∃ p v3 v4 v5 v6, σ = [some (.ref a), some (.ref b), some (.ref p), v3, v4, v5, v6] ∧ Kp N0 H H' ∧ H' p = some (.lst ((sumr (List.replicate L 0) (rs.take i) (ns.take i)).map V.int)))
      ⟨p2, _, _, _, _, rfl, k02, by simpa [sumr] using hp2⟩ (fun i σ H' _ ⟨_, _, _, _, _, _, k, _⟩ => ⟨SqL.of (k.keep _ _ (fun z => z) ha), SqL.of (k.keep _ _ (fun z => z) hb)⟩) ?_ ?_
    · rintro i x σ H3 H4 hi ⟨p, v3, v4, v5, v6, rfl, k3, hp3⟩ ⟨T, x1, x2, rfl, hT, rfl, e1, e2⟩
      have k3' : Kp N0 H3 (upd H3 T (.tup [x1, x2])) := .new hT
      obtain ⟨pr, r, rfl, hr, hpr⟩ := (hw.kp (k3.trans k3')).get e1
      obtain rfl : x2 = _ := (Option.some.inj ((int_at (ns := ns) hi).symm.trans e2)).symm
      have hn : ns[i]? = some (ns.getD i 0) := by rw [List.getD_eq_getElem?_getD, List.getElem?_eq_getElem hi]; rfl
      have hrL := hr2 r (List.mem_of_getElem? hr)
      refine ⟨T, _, rfl, SqT.of upd_same, rfl, _, _, rfl, _, _, rfl, rfl, ?_⟩
      have hp4 := k3'.keep _ _ (fun z => z) hp3
      have hsl : (sumr (List.replicate L 0) (rs.take i) (ns.take i)).length = L := by
        rw [sumr_len _ _ _ fun r' hr' => by rw [(hr2 r' (List.mem_of_mem_take hr')).1]; simp]
        simp
      refine ⟨_, rfl, _, rfl, p, pr, _, _, rfl, SqL.of hp4, hpr, ?_⟩
      refine lc_ints (walk_zipLT rfl) (fun j => (sumr (List.replicate L 0) (rs.take i) (ns.take i)).getD j 0 + ns.getD i 0 * r.getD j 0) (by simp; omega) (fun H' k => ⟨SqL.of (k.keep _ _ (fun z => z) hp4), k.sqT hpr⟩) ?_ ?_
      · rintro j x H5 H6 hj k5 ⟨T2, y1, y2, rfl, hT2, rfl, f1, f2⟩ R hR
        have hj1 : j < (sumr (List.replicate L 0) (rs.take i) (ns.take i)).length := by simp at hj; omega
        have hj2 : j < r.length := by simp at hj; omega
        obtain rfl : y1 = _ := (Option.some.inj ((int_at hj1).symm.trans f1)).symm
        obtain rfl : y2 = _ := (Option.some.inj ((int_at hj2).symm.trans f2)).symm
        exact ⟨T2, _, rfl, SqT.of upd_same, rfl, _, _, rfl, _, _, rfl, rfl, rfl, _, rfl, _, rfl, _, rfl, _, _, rfl, rfl, wide_sh (hn2.at hi) (hrL.2.at hj2), _, _, rfl, rfl, hR _ (.new hT2)⟩
      · intro D H5 k5 h5
        rw [range_zip (fun x y => x + ns.getD i 0 * y) _ r _ (by simp), ← sumr_take _ _ _ _ _ _ hr hn] at h5
        exact ⟨D, _, _, _, _, rfl, (k3.trans k3').trans k5, h5⟩
    · rintro σ H3 ⟨p, v3, v4, v5, v6, rfl, k3, hp3⟩
      rw [List.take_of_length_le (by omega), List.take_of_length_le (by omega)] at hp3
      exact ⟨_, rfl, tupL rfl (SqL.of hp3) fun p4 H4 _ k4 hp4 => q _ _ (k3.trans k4) hp4⟩
def GenR (n : Nat) (r : List Int) : Prop := r.length = n + 1 ∧ ∀ x ∈ r, 0 ≤ x ∧ x ≤ 3
theorem gen_of {n : Nat} {xs ys zs : List Int} (hx : ∀ x ∈ xs, 0 ≤ x ∧ x ≤ 3) (i j : Int) (hi : 0 ≤ i ∧ i ≤ 3) (hj : 0 ≤ j ∧ j ≤ 3) (hy : ∀ y ∈ ys, y = i) (hz : ∀ z ∈ zs, z = j) (hl : xs.length + ys.length + zs.length = n + 1) : GenR n (xs ++ ys ++ zs) := by
  refine ⟨by simp; omega, fun x h => ?_⟩
  rcases List.mem_append.mp h with h | h
  · rcases List.mem_append.mp h with h | h
    · exact hx x h
    · rw [hy x h]; exact hi
  · rw [hz x h]; exact hj
def sp_l_generators (K : PySem.W.Frag) : Sp := fun vs H Q _ => ∃ (n : Nat), vs = [.int n] ∧ 3 ≤ n ∧ n ≤ 16 ∧ ∀ p H' ws rs, H p = none → Kp N0 H H' → H' p = some (.lst ws) → Rws H' ws rs → rs.length = n + 1 → (∀ r ∈ rs, GenR n r) → Q (.ref p) H'
theorem ok_l_generators (T : Txt K mg) (D : Df K mg "_law_generators" s_l_generators ["_law_n"]) : C8.Cal P w K mg base 1 "_law_generators" (sp_l_generators K) [] := by
  obtain ⟨f, fd, D, hb⟩ := D
  refine C8.cal0 D (.all hb) .nil sc_l_generators (fun vs H Q E h => ?_) (fun cdv A outer s H vs Q E hr h => ?_)
  · obtain ⟨_, rfl, _⟩ := h; rfl
  · obtain ⟨n, rfl, h1, h2, q⟩ := h
    refine ⟨_, (pss_cons (ps_set (i := 1) sc_l_generators.nd rfl (Or.inl rfl) (pe_lstN (pa_cons (pe_op (opK (K := K) rCatI op_catI) (pe_tupN (pa_cons pe_int pa_nil)) (pe_op (opK (K := K) rRepA op_repA) (pe_tupN (pa_cons pe_int pa_nil)) (pv 0))) (pa_cons (pe_op (opK (K := K) rCatI op_catI) (pe_tupN (pa_cons pe_int (pa_cons pe_int pa_nil))) (pe_op (opK (K := K) rRepA op_repA) (pe_tupN (pa_cons pe_int pa_nil)) (pe_op op_sub (pv 0) pe_int))) (pa_cons (pe_op (opK (K := K) rCatI op_catI) (pe_tupN (pa_cons pe_int (pa_cons pe_int (pa_cons pe_int pa_nil)))) (pe_op (opK (K := K) rRepA op_repA) (pe_tupN (pa_cons pe_int pa_nil)) (pe_op op_sub (pv 0) pe_int))) pa_nil)))))
      (pss_one (ps_ret (pe_op op_catLI (pv 1) (pe_lc (own := [("_law_size", 2)]) (g := gName 2) rfl sc_l_generators.nd (pi_range2 (by rfl) T.b_range (pa_cons pe_int (pa_cons (pe_op op_add (pv 0) pe_int) pa_nil))) (C8b.blk (N := ["_law_n", "_law_found", "_law_size"]) (sc := C8.fnScope s_l_generators) (by decide +kernel)) (fun _ _ _ _ _ => (pg_name (i := 2) sc_l_generators.nd rfl (Or.inl rfl))) (fun _ _ _ _ _ => pts_nil) (fun _ _ _ _ _ => (pe_op (opK (K := K) rCatI op_catI) (pe_op (opK (K := K) rCatI op_catI) (pe_tupN (pa_cons pe_int pa_nil)) (pe_op (opK (K := K) rRepA op_repA) (pe_tupN (pa_cons pe_int pa_nil)) (pv 2))) (pe_op (opK (K := K) rRepA op_repA) (pe_tupN (pa_cons pe_int pa_nil)) (pe_op op_sub (pv 0) (pv 2)))))))))), ?_⟩
    refine newT (sz_ (by simp)) fun p1 H1 _ k1 hp1 => newT (sz_ (by simp)) fun p2 H2 _ k2 hp2 => ?_
    refine ⟨_, rfl, rep_do hp2 (by simp) (by omega) (by omega) (by simp) fun p3 H3 k3 hp3 => ?_⟩
    rw [rep_one] at hp3
    refine catT ((k2.trans k3).tup _ _ hp1) hp3 (sz_ (by simp; omega)) fun p4 H4 k4 hp4 => ?_
    refine newT (sz_ (by simp)) fun q1 I1 _ l1 hq1 => newT (sz_ (by simp)) fun q2 I2 _ l2 hq2 => ?_
    refine ⟨_, rfl, _, _, rfl, rfl, rep_do hq2 (by simp) (by omega) (by omega) (by simp) fun q3 I3 l3 hq3 => ?_⟩
    rw [rep_one] at hq3
    refine catT ((l2.trans l3).tup _ _ hq1) hq3 (sz_ (by simp; omega)) fun q4 I4 l4 hq4 => ?_
    refine newT (sz_ (by simp)) fun s1 J1 _ m1 hs1 => newT (sz_ (by simp)) fun s2 J2 _ m2 hs2 => ?_
    refine ⟨_, rfl, _, _, rfl, rfl, rep_do hs2 (by simp) (by omega) (by omega) (by simp) fun s3 J3 m3 hs3 => ?_⟩
    rw [rep_one] at hs3
    refine catT ((m2.trans m3).tup _ _ hs1) hs3 (sz_ (by simp; omega)) fun s4 J4 m4 hs4 => ?_
    refine newL (sz_ (by simp)) fun t1 L1 _ o1 ht1 => ?_
    have kJ : Kp N0 J4 L1 := o1
    have kI : Kp N0 I4 L1 := ((((m1.trans m2).trans m3).trans m4)).trans o1
    have kH : Kp N0 H4 L1 := ((((l1.trans l2).trans l3).trans l4)).trans kI
    have k0 : Kp N0 H L1 := (((k1.trans k2).trans k3).trans k4).trans kH
    refine ⟨_, rfl, _, rfl, _, _, rfl, rfl, _, _, rfl, ⟨by omega, by omega, by omega, by omega⟩, ?_⟩
    refine lc_rows (n := (((n : Int) + 1) - 3).toNat) walk_range (fun i => [3] ++ List.replicate (3 + i) 1 ++ List.replicate (n - (3 + i)) 0) (by omega) (fun _ _ => trivial) ?_ ?_
    · rintro i x H5 H6 hi k ⟨rfl, rfl⟩ R hR
      refine ⟨rfl, ?_⟩
      refine newT (sz_ (by simp)) fun p5 H5' _ k5 hp5 => newT (sz_ (by simp)) fun p6 H6' _ k6 hp6 => ?_
      refine ⟨_, rfl, rep_do hp6 (by simp) (by omega) (by omega) (by simp) fun p7 H7 k7 hp7 => ?_⟩
      rw [rep_one] at hp7
      refine catT ((k6.trans k7).tup _ _ hp5) hp7 (sz_ (by simp; omega)) fun p8 H8 k8 hp8 => ?_
      refine newT (sz_ (by simp)) fun p9 H9 _ k9 hp9 => ?_
      refine ⟨_, rfl, _, rfl, _, _, rfl, rfl, rep_do hp9 (by simp) (by omega) (by omega) (by simp) fun p10 H10 k10 hp10 => ?_⟩
      rw [rep_one] at hp10
      refine catT ((k9.trans k10).tup _ _ hp8) hp10 (sz_ (by simp; omega)) fun p11 H11 k11 hp11 => ?_
      refine hR _ _ (((((k5.trans k6).trans k7).trans k8).trans k9).trans (k10.trans k11)) ?_
      rw [hp11, show ((3 : Int) + (i : Int)).toNat = 3 + i by omega, show ((n : Int) - (3 + (i : Int))).toNat = n - (3 + i) by omega]
      simp
    · intro D L2 ys _ k2' hD hys
      have ht2 := k2'.keep _ _ (fun z => z) ht1
      refine catL ht2 hD (sz_ (by simp [hys.len]; omega)) fun p5 H5 n5 k5 hp5 => ?_
      have kk := k2'.trans k5
      refine q _ _ _ ([[1] ++ List.replicate n 0 ++ [], [1, 1] ++ List.replicate (n - 1) 0 ++ [], [2, 1, 1] ++ List.replicate (n - 2) 0 ++ []] ++ (List.range (((n : Int) + 1) - 3).toNat).map fun i => [3] ++ List.replicate (3 + i) 1 ++ List.replicate (n - (3 + i)) 0)
        (k0.live _ (k2'.live _ n5)) (k0.trans kk) hp5 (Rws.app ⟨⟨p4, rfl, ?_⟩, ⟨q4, rfl, ?_⟩, ⟨s4, rfl, ?_⟩, trivial⟩ (hys.kp k5)) (by simp; omega) fun r hr => ?_
      · rw [(kH.trans kk).tup _ _ hp4]
        simp
      · rw [(kI.trans kk).tup _ _ hq4, show ((n : Int) - 1).toNat = n - 1 by omega]
        simp
      · rw [(kJ.trans kk).tup _ _ hs4, show ((n : Int) - 2).toNat = n - 2 by omega]
        simp
      · rcases List.mem_append.mp hr with hr | hr
        · simp only [List.mem_cons, List.not_mem_nil, or_false] at hr
          rcases hr with rfl | rfl | rfl
          · exact gen_of (by simp) 0 0 (by decide) (by decide) (fun y hy => List.eq_of_mem_replicate hy) (by simp) (by simp; omega)
          · exact gen_of (by simp) 0 0 (by decide) (by decide) (fun y hy => List.eq_of_mem_replicate hy) (by simp) (by simp; omega)
          · exact gen_of (by simp) 0 0 (by decide) (by decide) (fun y hy => List.eq_of_mem_replicate hy) (by simp) (by simp; omega)
        · obtain ⟨i, hi, rfl⟩ := List.mem_map.mp hr
          have := List.mem_range.mp hi
          exact gen_of (by simp) 1 0 (by decide) (by decide) (fun y hy => List.eq_of_mem_replicate hy) (fun y hy => List.eq_of_mem_replicate hy) (by simp; omega)
theorem sumr_gen (n : Nat) (M : Int) (hM : 0 ≤ M) : ∀ (acc : List Int) (rs : List (List Int)) (ns : List Int) (b : Int), (∀ x ∈ acc, 0 ≤ x ∧ x ≤ b) → (∀ r ∈ rs, GenR n r) → (∀ z ∈ ns, 0 ≤ z ∧ z ≤ M) → ∀ x ∈ sumr acc rs ns, 0 ≤ x ∧ x ≤ b + 3 * M * rs.length
  | acc, [], ns, b, ha, _, _ => by
    cases ns <;> (intro x hx; have := ha x hx; simp; exact this)
  | acc, r :: rs, [], b, ha, _, _ => by
    intro x hx
    have h1 := ha x hx
    have h2 : 0 ≤ 3 * M * ((r :: rs).length : Int) := Int.mul_nonneg (by omega) (by omega)
    exact ⟨h1.1, by omega⟩
  | acc, r :: rs, m :: ns, b, ha, hr, hn => by
    intro x hx
    have ih := sumr_gen n M hM (List.zipWith (fun x y => x + m * y) acc r) rs ns (b + 3 * M) (fun u hu => by
      obtain ⟨i, hi, e⟩ := List.mem_iff_getElem.mp hu
      rw [List.getElem_zipWith] at e
      rw [List.length_zipWith] at hi
      have h1 := ha _ (List.getElem_mem (show i < acc.length by omega))
      have h2 := (hr r List.mem_cons_self).2 _ (List.getElem_mem (show i < r.length by omega))
      have h3 := hn m List.mem_cons_self
      have h4 : 0 ≤ m * r[i]'(by omega) := Int.mul_nonneg h3.1 h2.1
      have h5 : m * r[i]'(by omega) ≤ M * 3 := Int.mul_le_mul h3.2 h2.2 h2.1 hM
      omega) (fun r' h' => hr r' (List.mem_cons_of_mem _ h')) (fun z hz => hn z (List.mem_cons_of_mem _ hz)) x hx
    have e : 3 * M * ((r :: rs).length : Int) = 3 * M * (rs.length : Int) + 3 * M := by
      rw [List.length_cons]
      push_cast
      rw [Int.mul_add, Int.mul_one]
    omega
theorem w_small {ns : List Int} (h : ∀ x ∈ ns, -(10 ^ 90) ≤ x ∧ x ≤ 10 ^ 90) : W700 ns := fun x hx => by
  have := h x hx
  have e : ((10 : Int) ^ 90).natAbs < 2 ^ 700 := by decide +kernel
  omega
theorem sq_lst_dr {a p : Addr} {H H' : Hp} {K : PySem.W.Frag} {xs : List V} (n : p ≠ a) (h : H p = some (.lst xs)) (d : DR a H H') : SqL K H' p xs := SqL.of (d.lst n h)
def sp_l_standard (K : PySem.W.Frag) : Sp := fun vs H Q _ => ∃ (a : Addr) (n m : Nat), vs = [.ref a, .int n, .int m] ∧ Dc a H ∧ 3 ≤ n ∧ n ≤ 16 ∧ m ≤ 100 ∧ ∀ p H' (ns : List Int), DR a H H' → H' p = some (.tup (ns.map V.int)) → ns.length = n + 1 → (∀ x ∈ ns, 0 ≤ x ∧ x ≤ 10000) → Q (.ref p) H'
theorem ok_l_standard (T : Txt K mg) (D : Df K mg "_law_standard" s_l_standard ["_law_dice_here", "_law_n", "_law_most"]) (c_l_generators : C8.Cal P w K mg base 1 "_law_generators" (sp_l_generators K) []) (c_l_sum : C8.Cal P w K mg base 1 "_law_sum" (sp_l_sum K) []) (c_l_roll : C8.Cal P w K mg base 1 "_law_roll" (sp_l_roll) []) (c_l_mixed : C8.Cal P w K mg base 2 "_law_mixed" (sp_l_mixed K) []) : C8.Cal P w K mg base 3 "_law_standard" (sp_l_standard K) [] := by
  obtain ⟨f, fd, D, hb⟩ := D
  refine C8.cal0 D (.all hb) .nil sc_l_standard (fun vs H Q E h => ?_) (fun cdv A outer s H vs Q E hr h => ?_)
  · obtain ⟨_, _, _, rfl, _⟩ := h; rfl
  · obtain ⟨a, n, m, rfl, hd, h1, h2, hm, q⟩ := h
    refine ⟨_, (pss_cons (ps_set (i := 3) sc_l_standard.nd rfl (Or.inl rfl) (C8.pe_c c_l_generators hr (by decide) (by rfl) (pa_cons (pv 1) pa_nil)))
      (pss_cons (ps_set (i := 4) sc_l_standard.nd rfl (Or.inl rfl) (C8.pe_c c_l_sum hr (by decide) (by rfl) (pa_cons (pv 3) (pa_cons (pe_lc (own := [("_law_one", 5)]) (g := gName 5) rfl sc_l_standard.nd (pi_list (pv 3)) (C8b.blk (N := ["_law_dice_here", "_law_n", "_law_most", "_law_rows", "_law_row_here", "_law_one"]) (sc := C8.fnScope s_l_standard) (by decide +kernel)) (fun _ _ _ _ _ => (pg_name (i := 5) sc_l_standard.nd rfl (Or.inl rfl))) (fun _ _ _ _ _ => pts_nil) (fun _ _ _ _ _ => (pe_op op_mulE (C8.pe_c c_l_roll hr (by decide) (by rfl) (pa_cons (pv 0) (pa_cons (pe_op op_add (pv 2) pe_int) pa_nil))) (pe_callTy call_int1 (by rfl) T.b_int (by decide +kernel) (pa_cons (pe_cmpR op_eq (C8.pe_c c_l_roll hr (by decide) (by rfl) (pa_cons (pv 0) (pa_cons pe_int pa_nil))) pe_int (nomark _)) pa_nil))))) pa_nil))))
      (pss_one (ps_ret (pe_op (opK (K := K) rCatI op_catI) (pe_tupN (pa_cons (pe_ix (ixK (K := K) rIxT ix_tup) (pv 4) pe_int (fun _ _ => rfl)) pa_nil)) (pe_callTy (callK (K := K) rTupOf call_tupI) (by rfl) T.b_tuple (by decide +kernel) (pa_cons (C8.pe_c c_l_mixed hr (by decide) (by rfl) (pa_cons (pv 0) (pa_cons (pe_slice (slK (K := K) rSlI sl_tupI) (pv 4) (po_some pe_int) po_none) pa_nil))) pa_nil))))))), ?_⟩
    refine ⟨_, rfl, n, rfl, h1, h2, fun p1 H1 ws rs n1 k1 hp1 hw hrl hg => ?_⟩
    have d1 : DR a H H1 := .of hd k1
    have np : p1 ≠ a := fun z => hd.ne n1 z.symm
    refine ⟨_, rfl, _, rfl, p1, rfl, ⟨_, SqL.of hp1⟩, ?_⟩
    refine lc_draws (a := a) (walk_list (xs := ws)) (fun z => 0 ≤ z ∧ z ≤ m) (by rw [hw.len]; omega) d1.dc (fun H' d => sq_lst_dr np hp1 d) ?_ ?_
    · rintro i x H2 H3 hi d2 ⟨rfl, hx⟩ R hR
      refine ⟨rfl, _, rfl, _, rfl, _, _, rfl, rfl, _, _, rfl, d2.dc, by omega, Nat.lt_of_le_of_lt (by omega : ((m : Int) + 1).natAbs ≤ 101) (by decide), fun r H4 r0 r1 d4 => ?_⟩
      refine ⟨_, rfl, _, _, rfl, d4.dc, by decide, by decide, fun r' H5 _ _ d5 => ⟨rfl, .inr ⟨_, rfl, _, _, rfl, rfl, mulX_right (by split <;> decide), hR _ _ (d4.trans d5) ?_⟩⟩⟩
      split
      · rw [Int.mul_one]; omega
      · rw [Int.mul_zero]; omega
    · intro D H2 zs nD d2 hD hzl hz
      have hwl := hw.len
      have hp12 := d2.lst np hp1
      refine ⟨p1, D, ws, rs, zs, n + 1, rfl, hp12, .of (hw.kp d2.kp), hD, by omega, by omega, by omega, by omega, fun r hr => ⟨(hg r hr).1, w_small fun x hx => ?_⟩, w_small fun x hx => ?_, fun p3 H3 k3 hp3 => ?_⟩
      · have := (hg r hr).2 x hx
        omega
      · have := hz x hx
        omega
      have hb := sumr_gen n m (by omega) (List.replicate (n + 1) 0) rs zs 0 (fun x hx => by rw [List.eq_of_mem_replicate hx]; omega) hg hz
      have hsl : (sumr (List.replicate (n + 1) 0) rs zs).length = n + 1 := by
        rw [sumr_len _ _ _ fun r' hr' => by rw [(hg r' hr').1]; simp]
        simp
      generalize sumr (List.replicate (n + 1) 0) rs zs = ss at hp3 hb hsl
      have hb' : ∀ x ∈ ss, 0 ≤ x ∧ x ≤ 10000 := fun x hx => by
        have h3 := hb x hx
        have h4 : 3 * (m : Int) * (rs.length : Int) ≤ 300 * 17 := Int.mul_le_mul (by omega) (by omega) (by omega) (by omega)
        omega
      have d3 : DR a H H3 := (d1.trans d2).trans (.of d2.dc k3)
      refine ⟨_, rfl, _, _, _, _, rfl, rfl, SqT.of hp3, at_row0 (by omega), newT (sz_ (by simp)) fun p4 H4 _ k4 hp4 => ?_⟩
      have d4 := d3.trans (.of d3.dc k4)
      refine ⟨_, rfl, _, rfl, _, rfl, slT (k4.tup _ _ hp3) fun p5 H5 k5 hp5 => ?_⟩
      rw [cut_1] at hp5
      have d5 := d4.trans (.of d4.dc k5)
      refine ⟨a, p5, ss.drop 1, rfl, d5.dc, .inr (SqT.of hp5), by simp; omega, fun p6 H6 ms _ d6 hp6 hperm => ?_⟩
      refine tupL rfl (SqL.of hp6) fun p7 H7 _ k7 hp7 => ?_
      have hp4' := k7.tup _ _ (d6.kp.tup _ _ (k5.tup _ _ hp4))
      refine catT (xs := [V.int (ss.getD 0 0)]) hp4' hp7 (sz_ (by have := hperm.length_eq; simp at this ⊢; omega)) fun p8 H8 k8 hp8 => ?_
      refine q p8 H8 (ss.getD 0 0 :: ms) ((d5.trans d6).trans (.of d6.dc (k7.trans k8))) hp8 (by have := hperm.length_eq; simp at this ⊢; omega) fun x hx => ?_
      rcases List.mem_cons.mp hx with rfl | hx
      · rw [List.getD_eq_getElem?_getD, List.getElem?_eq_getElem (show 0 < ss.length by omega)]
        exact hb' _ (List.getElem_mem _)
      · exact hb' x (List.mem_of_mem_drop (hperm.mem_iff.mp hx))
def sp_l_small_row (K : PySem.W.Frag) : Sp := fun vs H Q _ => ∃ (a : Addr) (n m : Nat), vs = [.ref a, .int n, .int m] ∧ Dc a H ∧ 3 ≤ n ∧ n ≤ 16 ∧ m ≤ 1000 ∧ ∀ p H' (ns : List Int), DR a H H' → H' p = some (.tup (ns.map V.int)) → ns.length = n + 1 → (∀ x ∈ ns, -10000 ≤ x ∧ x ≤ 10000) → Q (.ref p) H'
theorem nb {x : Int} (h : -100000 ≤ x ∧ x ≤ 100000) : x.natAbs < 2 ^ 700 := Nat.lt_of_le_of_lt (by omega : x.natAbs ≤ 100000) (by decide)
theorem ok_l_small_row (T : Txt K mg) (D : Df K mg "_law_small_row" s_l_small_row ["_law_dice_here", "_law_n", "_law_most"]) (c_l_one_of : C8.Cal P w K mg base 2 "_law_one_of" (sp_l_one_of K) []) (c_l_roll : C8.Cal P w K mg base 1 "_law_roll" (sp_l_roll) []) : C8.Cal P w K mg base 3 "_law_small_row" (sp_l_small_row K) [] := by
  obtain ⟨f, fd, D, hb⟩ := D
  refine C8.cal0 D (.all hb) .nil sc_l_small_row (fun vs H Q E h => ?_) (fun cdv A outer s H vs Q E hr h => ?_)
  · obtain ⟨_, _, _, rfl, _⟩ := h; rfl
  · obtain ⟨a, n, m, rfl, hd, h1, h2, hm, q⟩ := h
    refine ⟨_, (pss_cons (ps_set (i := 3) sc_l_small_row.nd rfl (Or.inr rfl) (C8.pe_c c_l_one_of hr (by decide) (by rfl) (pa_cons (pv 0) (pa_cons (pe_lstN (pa_cons pe_int (pa_cons pe_int (pa_cons (pe_un un_neg pe_int) (pa_cons (pe_un un_neg pe_int) pa_nil))))) pa_nil))))
      (pss_cons (ps_setLc (i := 4) (own := [("_law_at", 5)]) (g := gName 5) rfl sc_l_small_row.nd rfl rfl (sw_true rfl rfl rfl (by decide +kernel)) (pi_range1 (by rfl) T.b_range (pa_cons (pv 1) pa_nil)) (C8b.blk (N := ["_law_dice_here", "_law_n", "_law_most", "_law_least", "_law_numbers", "_law_at"]) (sc := C8.fnScope s_l_small_row) (by decide +kernel)) (fun _ _ _ _ _ => (pg_name (i := 5) sc_l_small_row.nd rfl (Or.inl rfl))) (fun _ _ _ _ _ => pts_nil) (fun _ _ _ _ _ => (pe_op op_add (pv 3) (C8.pe_c c_l_roll hr (by decide) (by rfl) (pa_cons (pv 0) (pa_cons (pe_op op_add (pe_op op_sub (pv 2) (pv 3)) pe_int) pa_nil))))))
      (pss_one (ps_ret (pe_op (opK (K := K) rCatI op_catI) (pe_tupN (pa_cons (pe_op op_add (C8.pe_c c_l_one_of hr (by decide) (by rfl) (pa_cons (pv 0) (pa_cons (pe_lstN (pa_cons (pe_un un_neg pe_int) (pa_cons pe_int (pa_cons pe_int (pa_cons pe_int pa_nil))))) pa_nil))) (C8.pe_c c_l_roll hr (by decide) (by rfl) (pa_cons (pv 0) (pa_cons (pe_op op_add (pe_op op_mulE pe_int (pv 2)) pe_int) pa_nil)))) pa_nil)) (pe_callTy (callK (K := K) rTupOf call_tupI) (by rfl) T.b_tuple (by decide +kernel) (pa_cons (pv 4) pa_nil))))))), ?_⟩
    refine ⟨_, rfl, _, rfl, _, rfl, newL (sz_ (by simp)) fun p1 H1 n1 k1 hp1 => ?_⟩
    have d1 : DR a H H1 := .of hd k1
    refine .inl ⟨a, p1, [0, 0, -1, -2], rfl, d1.dc, SqL.of hp1, fun H' d => sq_lst_dr (fun z => hd.ne n1 z.symm) hp1 d, by decide, by decide, fun le H2 hle d2 => ?_⟩
    have hle : -2 ≤ le ∧ le ≤ 0 := by
      simp only [List.mem_cons, List.not_mem_nil, or_false] at hle
      omega
    refine ⟨_, rfl, _, rfl, by omega, by omega, ?_⟩
    refine lc_draws (a := a) walk_range (fun z => -10000 ≤ z ∧ z ≤ 10000) (by omega) d2.dc (fun _ _ => trivial) ?_ ?_
    · rintro i x H3 H4 hi d3 ⟨rfl, rfl⟩ R hR
      exact ⟨rfl, _, rfl, _, rfl, _, rfl, _, rfl, _, _, rfl, rfl, _, _, rfl, rfl, _, _, rfl, d3.dc, by omega, nb (by omega), fun r H5 r0 r1 d5 => ⟨_, _, rfl, rfl, hR _ _ d5 ⟨by omega, by omega⟩⟩⟩
    · intro D H3 zs nD d3 hD hzl hz
      refine ⟨_, rfl, _, rfl, newL (sz_ (by simp)) fun p4 H4 n4 k4 hp4 => ?_⟩
      have hDa : D ≠ a := fun z => d2.dc.ne nD z.symm
      have hp4a : p4 ≠ a := fun z => d3.dc.ne n4 z.symm
      have d4 : DR a H3 H4 := .of d3.dc k4
      have hD4 := d4.lst hDa hD
      refine .inl ⟨a, p4, [-1, 0, 1, 2], rfl, d4.dc, SqL.of hp4, fun H' d => sq_lst_dr hp4a hp4 d, by decide, by decide, fun dg H5 hdg d5 => ?_⟩
      have hdg : -1 ≤ dg ∧ dg ≤ 2 := by
        simp only [List.mem_cons, List.not_mem_nil, or_false] at hdg
        omega
      refine ⟨_, rfl, _, rfl, _, _, rfl, rfl, mulX_left (by decide), _, _, rfl, rfl, _, _, rfl, d5.dc, by omega, nb (by omega), fun r H6 r0 r1 d6 => ⟨_, _, rfl, rfl, newT (sz_ (by simp)) fun p7 H7 _ k7 hp7 => ?_⟩⟩
      have hD7 := (DR.of d6.dc k7).lst hDa (d6.lst hDa (d5.lst hDa hD4))
      refine ⟨_, rfl, tupL rfl (SqL.of hD7) fun p8 H8 _ k8 hp8 => ?_⟩
      refine catT (xs := [V.int (dg + r)]) (k8.tup _ _ hp7) hp8 (sz_ (by simp; omega)) fun p9 H9 k9 hp9 => ?_
      refine q p9 H9 ((dg + r) :: zs) ((((((d1.trans d2).trans d3).trans d4).trans d5).trans d6).trans (.of d6.dc (k7.trans (k8.trans k9)))) hp9 (by simp; omega) fun x hx => ?_
      rcases List.mem_cons.mp hx with rfl | hx
      · omega
      · exact hz x hx
def sp_l_great_row (K : PySem.W.Frag) : Sp := fun vs H Q _ => ∃ (a : Addr) (n : Nat) (f : Int), vs = [.ref a, .int n, .int f] ∧ Dc a H ∧ 3 ≤ n ∧ n ≤ 16 ∧ ∀ p H' (ns : List Int), DR a H H' → H' p = some (.tup (ns.map V.int)) → ns.length = n + 1 → (∀ x ∈ ns, -(10 ^ 60) ≤ x ∧ x ≤ 10 ^ 60) → Q (.ref p) H'
theorem ok_l_great_row (T : Txt K mg) (D : Df K mg "_law_great_row" s_l_great_row ["_law_dice_here", "_law_n", "_law_figures"]) (c_l_roll : C8.Cal P w K mg base 1 "_law_roll" (sp_l_roll) []) (c_l_one_of : C8.Cal P w K mg base 2 "_law_one_of" (sp_l_one_of K) []) : C8.Cal P w K mg base 3 "_law_great_row" (sp_l_great_row K) [] := by
  obtain ⟨f, fd, D, hb⟩ := D
  refine C8.cal0 D (.all hb) .nil sc_l_great_row (fun vs H Q E h => ?_) (fun cdv A outer s H vs Q E hr h => ?_)
  · obtain ⟨_, _, _, rfl, _⟩ := h; rfl
  · obtain ⟨a, n, f0, rfl, hd, h1, h2, q⟩ := h
    refine ⟨_, (pss_cons (ps_set (i := 3) sc_l_great_row.nd rfl (Or.inr rfl) (pe_ifExp (pt_cmpR op_ge (pv 2) pe_int (nomark _)) (pe_op op_powW pe_int pe_int) (pe_op op_powW pe_int pe_int)))
      (pss_cons (ps_setLc (i := 4) (own := [("_law_at", 5)]) (g := gName 5) rfl sc_l_great_row.nd rfl rfl (sw_true rfl rfl rfl (by decide +kernel)) (pi_range1 (by rfl) T.b_range (pa_cons (pe_op op_add (pv 1) pe_int) pa_nil)) (C8b.blk (N := ["_law_dice_here", "_law_n", "_law_figures", "_law_size", "_law_numbers", "_law_at", "_law_one"]) (sc := C8.fnScope s_l_great_row) (by decide +kernel)) (fun _ _ _ _ _ => (pg_name (i := 5) sc_l_great_row.nd rfl (Or.inl rfl))) (fun _ _ _ _ _ => pts_nil) (fun _ _ _ _ _ => (pe_op op_add (pe_op op_mulE (C8.pe_c c_l_roll hr (by decide) (by rfl) (pa_cons (pv 0) (pa_cons (pe_op op_powW pe_int pe_int) pa_nil))) (pe_op op_fdivW (pv 3) (pe_op op_powW pe_int pe_int))) (C8.pe_c c_l_roll hr (by decide) (by rfl) (pa_cons (pv 0) (pa_cons (pe_op op_powW pe_int pe_int) pa_nil))))))
      (pss_cons (ps_asg (pe_op op_mulE (pe_ix (ixK (K := K) rIxL ix_list) (pv 4) pe_int (fun _ _ => rfl)) (C8.pe_c c_l_one_of hr (by decide) (by rfl) (pa_cons (pv 0) (pa_cons (pe_lstN (pa_cons pe_int (pa_cons pe_int (pa_cons pe_int (pa_cons pe_int pa_nil))))) pa_nil)))) (pg_sub (pv 4) pe_int set_list))
      (pss_one (ps_ret (pe_callTy (callK (K := K) rTupOf call_tupI) (by rfl) T.b_tuple (by decide +kernel) (pa_cons (pe_lc (own := [("_law_one", 6)]) (g := gName 6) rfl sc_l_great_row.nd (pi_list (pv 4)) (C8b.blk (N := ["_law_dice_here", "_law_n", "_law_figures", "_law_size", "_law_numbers", "_law_at", "_law_one"]) (sc := C8.fnScope s_l_great_row) (by decide +kernel)) (fun _ _ _ _ _ => (pg_name (i := 6) sc_l_great_row.nd rfl (Or.inl rfl))) (fun _ _ _ _ _ => pts_nil) (fun _ _ _ _ _ => (pe_ifExp (pt_cmpR op_gt (C8.pe_c c_l_roll hr (by decide) (by rfl) (pa_cons (pv 0) (pa_cons pe_int pa_nil))) pe_int (nomark _)) (pv 6) (pe_op op_sub pe_int (pv 6))))) pa_nil))))))), ?_⟩
    have e9 : ((10 : Int) ^ (9 : Int).toNat) = 1000000000 := by decide
    refine ⟨_, rfl, _, _, rfl, rfl, _, rfl, ite2 (fun _ => ⟨_, _, rfl, rfl, ⟨by decide, by decide⟩, ?_⟩) (fun _ => ⟨_, _, rfl, rfl, ⟨by decide, by decide⟩, ?_⟩)⟩
    · refine ⟨_, rfl, _, _, rfl, rfl, _, rfl, by omega, by omega, ?_⟩
      refine lc_draws (a := a) walk_range (fun z => 0 ≤ z ∧ z ≤ 10 ^ 52) (by omega) hd (fun _ _ => trivial) ?_ ?_
      · rintro i x H3 H4 hi d3 ⟨rfl, rfl⟩ R hR
        refine ⟨rfl, _, rfl, _, _, rfl, rfl, ⟨by decide, by decide⟩, _, _, rfl, d3.dc, by decide, by decide, fun r H5 r0 r1 d5 => ?_⟩
        rw [e9] at r1
        refine ⟨_, rfl, _, _, rfl, rfl, ⟨by decide, by decide⟩, _, _, rfl, rfl, wide_div (b := 64) (by decide) (by decide) (by decide) (by decide), _, _, rfl, rfl, mulX_left (by omega), ?_⟩
        refine ⟨_, rfl, _, _, rfl, rfl, ⟨by decide, by decide⟩, _, _, rfl, d5.dc, by decide, by decide, fun r' H6 r2 r3 d6 => ?_⟩
        rw [e9] at r3
        refine ⟨_, _, rfl, rfl, hR _ _ (d5.trans d6) ?_⟩
        rw [show ((10 : Int) ^ (50 : Int).toNat) / (10 : Int) ^ (9 : Int).toNat = 100000000000000000000000000000000000000000 by decide +kernel, show ((10 : Int) ^ 52) = 10000000000000000000000000000000000000000000000000000 by decide]
        omega
      · intro D H3 zs nD d3 hD hzl hz
        have hDa : D ≠ a := fun z => hd.ne nD z.symm
        refine ⟨_, rfl, D, _, _, _, rfl, rfl, SqL.of hD, at_row0 (by omega), ?_⟩
        refine ⟨_, rfl, newL (sz_ (by simp)) fun p4 H4 n4 k4 hp4 => ?_⟩
        have d4 : DR a H3 H4 := .of d3.dc k4
        have hp4a : p4 ≠ a := fun z => d3.dc.ne n4 z.symm
        refine .inl ⟨a, p4, [1, 2, 3, 3], rfl, d4.dc, SqL.of hp4, fun H' d => sq_lst_dr hp4a hp4 d, by decide, by decide, fun c H5 hc d5 => ?_⟩
        have hc : 1 ≤ c ∧ c ≤ 3 := by
          simp only [List.mem_cons, List.not_mem_nil, or_false] at hc
          omega
        have hD5 := d5.lst hDa (d4.lst hDa hD)
        refine ⟨_, _, rfl, rfl, mulX_right (by omega), ?_⟩
        refine ⟨_, rfl, D, _, _, 0, rfl, rfl, hD5, Evl.ixN_nat (j := 0) (by rw [List.length_map]; omega), ?_⟩
        have hz0 : 0 ≤ zs.getD 0 0 ∧ zs.getD 0 0 ≤ 10 ^ 52 := by
          rw [List.getD_eq_getElem?_getD, List.getElem?_eq_getElem (show 0 < zs.length by omega)]
          exact hz _ (List.getElem_mem _)
        have hH6 : upd H5 D (.lst ((zs.map V.int).set 0 (V.int (zs.getD 0 0 * c)))) D = some (.lst ((zs.set 0 (zs.getD 0 0 * c)).map V.int)) := by rw [upd_same, List.map_set]
        have d6 : DR a H (upd H5 D (.lst ((zs.map V.int).set 0 (V.int (zs.getD 0 0 * c))))) := ⟨.mut0 nD ((d3.trans d4).trans d5).kp, d5.dc.upd_ne hDa.symm⟩
        generalize upd H5 D (.lst ((zs.map V.int).set 0 (V.int (zs.getD 0 0 * c)))) = H6 at hH6 d6
        have hb : ∀ z ∈ zs.set 0 (zs.getD 0 0 * c), 0 ≤ z ∧ z ≤ 3 * 10 ^ 52 := by
          intro z hz'
          rcases List.mem_or_eq_of_mem_set hz' with hz' | rfl
          · have := hz z hz'
            omega
          · have h3 : 0 ≤ zs.getD 0 0 * c := Int.mul_nonneg hz0.1 (by omega)
            have h4 : zs.getD 0 0 * c ≤ 10 ^ 52 * 3 := Int.mul_le_mul hz0.2 hc.2 (by omega) (by decide)
            omega
        have hln : (zs.set 0 (zs.getD 0 0 * c)).length = n + 1 := by rw [List.length_set]; omega
        generalize zs.set 0 (zs.getD 0 0 * c) = ws at hH6 hb hln
        refine ⟨_, rfl, D, rfl, ⟨_, SqL.of hH6⟩, ?_⟩
        refine lc_draws (a := a) (walk_list (xs := ws.map V.int)) (fun z => -(10 ^ 60) ≤ z ∧ z ≤ 10 ^ 60) (by simp; omega) d6.dc (fun H' d => sq_lst_dr hDa hH6 d) ?_ ?_
        · rintro i x H7 H8 hi d7 ⟨rfl, hx⟩ R hR
          rw [List.length_map] at hi
          rw [int_at hi] at hx
          cases hx
          have hwi : 0 ≤ ws.getD i 0 ∧ ws.getD i 0 ≤ 3 * 10 ^ 52 := by
            rw [List.getD_eq_getElem?_getD, List.getElem?_eq_getElem hi]
            exact hb _ (List.getElem_mem hi)
          have e1 : (3 : Int) * 10 ^ 52 ≤ 10 ^ 60 := by decide
          refine ⟨rfl, _, rfl, _, _, rfl, d7.dc, by decide, by decide, fun r H9 _ _ d9 => ⟨_, _, rfl, rfl, _, rfl, ite2 (fun _ => ⟨_, rfl, hR _ _ d9 ⟨by omega, by omega⟩⟩) (fun _ => ⟨_, rfl, _, _, rfl, rfl, hR _ _ d9 ⟨by omega, by omega⟩⟩)⟩⟩
        · intro D2 H7 us _ d7 h7 hul hub
          refine tupL rfl (SqL.of h7) fun p8 H8 _ k8 hp8 => ?_
          exact q p8 H8 us ((d6.trans d7).trans (.of d7.dc k8)) hp8 (by rw [hul, List.length_map]; exact hln) hub
    · refine ⟨_, rfl, _, _, rfl, rfl, _, rfl, by omega, by omega, ?_⟩
      refine lc_draws (a := a) walk_range (fun z => 0 ≤ z ∧ z ≤ 10 ^ 52) (by omega) hd (fun _ _ => trivial) ?_ ?_
      · rintro i x H3 H4 hi d3 ⟨rfl, rfl⟩ R hR
        refine ⟨rfl, _, rfl, _, _, rfl, rfl, ⟨by decide, by decide⟩, _, _, rfl, d3.dc, by decide, by decide, fun r H5 r0 r1 d5 => ?_⟩
        rw [e9] at r1
        refine ⟨_, rfl, _, _, rfl, rfl, ⟨by decide, by decide⟩, _, _, rfl, rfl, wide_div (b := 64) (by decide) (by decide) (by decide) (by decide), _, _, rfl, rfl, mulX_left (by omega), ?_⟩
        refine ⟨_, rfl, _, _, rfl, rfl, ⟨by decide, by decide⟩, _, _, rfl, d5.dc, by decide, by decide, fun r' H6 r2 r3 d6 => ?_⟩
        rw [e9] at r3
        refine ⟨_, _, rfl, rfl, hR _ _ (d5.trans d6) ?_⟩
        rw [show ((10 : Int) ^ (9 : Int).toNat) / (10 : Int) ^ (9 : Int).toNat = 1 by decide +kernel, show ((10 : Int) ^ 52) = 10000000000000000000000000000000000000000000000000000 by decide]
        omega
      · intro D H3 zs nD d3 hD hzl hz
        have hDa : D ≠ a := fun z => hd.ne nD z.symm
        refine ⟨_, rfl, D, _, _, _, rfl, rfl, SqL.of hD, at_row0 (by omega), ?_⟩
        refine ⟨_, rfl, newL (sz_ (by simp)) fun p4 H4 n4 k4 hp4 => ?_⟩
        have d4 : DR a H3 H4 := .of d3.dc k4
        have hp4a : p4 ≠ a := fun z => d3.dc.ne n4 z.symm
        refine .inl ⟨a, p4, [1, 2, 3, 3], rfl, d4.dc, SqL.of hp4, fun H' d => sq_lst_dr hp4a hp4 d, by decide, by decide, fun c H5 hc d5 => ?_⟩
        have hc : 1 ≤ c ∧ c ≤ 3 := by
          simp only [List.mem_cons, List.not_mem_nil, or_false] at hc
          omega
        have hD5 := d5.lst hDa (d4.lst hDa hD)
        refine ⟨_, _, rfl, rfl, mulX_right (by omega), ?_⟩
        refine ⟨_, rfl, D, _, _, 0, rfl, rfl, hD5, Evl.ixN_nat (j := 0) (by rw [List.length_map]; omega), ?_⟩
        have hz0 : 0 ≤ zs.getD 0 0 ∧ zs.getD 0 0 ≤ 10 ^ 52 := by
          rw [List.getD_eq_getElem?_getD, List.getElem?_eq_getElem (show 0 < zs.length by omega)]
          exact hz _ (List.getElem_mem _)
        have hH6 : upd H5 D (.lst ((zs.map V.int).set 0 (V.int (zs.getD 0 0 * c)))) D = some (.lst ((zs.set 0 (zs.getD 0 0 * c)).map V.int)) := by rw [upd_same, List.map_set]
        have d6 : DR a H (upd H5 D (.lst ((zs.map V.int).set 0 (V.int (zs.getD 0 0 * c))))) := ⟨.mut0 nD ((d3.trans d4).trans d5).kp, d5.dc.upd_ne hDa.symm⟩
        generalize upd H5 D (.lst ((zs.map V.int).set 0 (V.int (zs.getD 0 0 * c)))) = H6 at hH6 d6
        have hb : ∀ z ∈ zs.set 0 (zs.getD 0 0 * c), 0 ≤ z ∧ z ≤ 3 * 10 ^ 52 := by
          intro z hz'
          rcases List.mem_or_eq_of_mem_set hz' with hz' | rfl
          · have := hz z hz'
            omega
          · have h3 : 0 ≤ zs.getD 0 0 * c := Int.mul_nonneg hz0.1 (by omega)
            have h4 : zs.getD 0 0 * c ≤ 10 ^ 52 * 3 := Int.mul_le_mul hz0.2 hc.2 (by omega) (by decide)
            omega
        have hln : (zs.set 0 (zs.getD 0 0 * c)).length = n + 1 := by rw [List.length_set]; omega
        generalize zs.set 0 (zs.getD 0 0 * c) = ws at hH6 hb hln
        refine ⟨_, rfl, D, rfl, ⟨_, SqL.of hH6⟩, ?_⟩
        refine lc_draws (a := a) (walk_list (xs := ws.map V.int)) (fun z => -(10 ^ 60) ≤ z ∧ z ≤ 10 ^ 60) (by simp; omega) d6.dc (fun H' d => sq_lst_dr hDa hH6 d) ?_ ?_
        · rintro i x H7 H8 hi d7 ⟨rfl, hx⟩ R hR
          rw [List.length_map] at hi
          rw [int_at hi] at hx
          cases hx
          have hwi : 0 ≤ ws.getD i 0 ∧ ws.getD i 0 ≤ 3 * 10 ^ 52 := by
            rw [List.getD_eq_getElem?_getD, List.getElem?_eq_getElem hi]
            exact hb _ (List.getElem_mem hi)
          have e1 : (3 : Int) * 10 ^ 52 ≤ 10 ^ 60 := by decide
          refine ⟨rfl, _, rfl, _, _, rfl, d7.dc, by decide, by decide, fun r H9 _ _ d9 => ⟨_, _, rfl, rfl, _, rfl, ite2 (fun _ => ⟨_, rfl, hR _ _ d9 ⟨by omega, by omega⟩⟩) (fun _ => ⟨_, rfl, _, _, rfl, rfl, hR _ _ d9 ⟨by omega, by omega⟩⟩)⟩⟩
        · intro D2 H7 us _ d7 h7 hul hub
          refine tupL rfl (SqL.of h7) fun p8 H8 _ k8 hp8 => ?_
          exact q p8 H8 us ((d6.trans d7).trans (.of d7.dc k8)) hp8 (by rw [hul, List.length_map]; exact hln) hub

/-! ### moves and words -/
inductive Mv where | sw (i j : Nat) | tn (i j k : Nat)
def Mv.val : Mv → List V
  | .sw i j => [.str "swap", .int i, .int j]
  | .tn i j k => [.str "turn", .int i, .int j, .int k]
def MvOk (n : Nat) : Mv → Prop
  | .sw i j => i < j ∧ j < n
  | .tn i j k => i < j ∧ j < k ∧ k < n
def act (r : List Int) : Mv → List Int
  | .sw i j => (r.set (1 + i) (r.getD (1 + j) 0)).set (1 + j) (r.getD (1 + i) 0)
  | .tn i j k =>
    let c := r.getD 0 0 - r.getD (1 + i) 0 - r.getD (1 + j) 0 - r.getD (1 + k) 0
    (((r.set 0 (r.getD 0 0 + c)).set (1 + i) (r.getD (1 + i) 0 + c)).set (1 + j) (r.getD (1 + j) 0 + c)).set (1 + k) (r.getD (1 + k) 0 + c)
def acts (r : List Int) (ms : List Mv) : List Int := ms.foldl act r
theorem act_len (r : List Int) (m : Mv) : (act r m).length = r.length := by
  cases m <;> simp [act]
theorem acts_len (r : List Int) (ms : List Mv) : (acts r ms).length = r.length := by
  induction ms generalizing r with
  | nil => rfl
  | cons m ms ih =>
    show (acts (act r m) ms).length = _
    rw [ih, act_len]
theorem mem_getD {r : List Int} {b : Int} (h : ∀ x ∈ r, -b ≤ x ∧ x ≤ b) (hb : 0 ≤ b) (i : Nat) : -b ≤ r.getD i 0 ∧ r.getD i 0 ≤ b := by
  by_cases hi : i < r.length
  · rw [List.getD_eq_getElem?_getD, List.getElem?_eq_getElem hi]
    exact h _ (List.getElem_mem hi)
  · rw [List.getD_eq_getElem?_getD, List.getElem?_eq_none (by omega)]
    exact ⟨by simp; omega, by simpa using hb⟩
theorem act_lim {r : List Int} {b : Int} (m : Mv) (h : ∀ x ∈ r, -b ≤ x ∧ x ≤ b) (hb : 0 ≤ b) : ∀ x ∈ act r m, -(5 * b) ≤ x ∧ x ≤ 5 * b := by
  intro x hx
  have g := mem_getD h hb
  cases m with
  | sw i j =>
    rcases List.mem_or_eq_of_mem_set hx with hx | rfl
    · rcases List.mem_or_eq_of_mem_set hx with hx | rfl
      · have := h x hx
        omega
      · have := g (1 + j)
        omega
    · have := g (1 + i)
      omega
  | tn i j k =>
    have g0 := g 0
    have g1 := g (1 + i)
    have g2 := g (1 + j)
    have g3 := g (1 + k)
    rcases List.mem_or_eq_of_mem_set hx with hx | rfl
    · rcases List.mem_or_eq_of_mem_set hx with hx | rfl
      · rcases List.mem_or_eq_of_mem_set hx with hx | rfl
        · rcases List.mem_or_eq_of_mem_set hx with hx | rfl
          · have := h x hx
            omega
          · omega
        · omega
      · omega
    · omega
theorem acts_lim (ms : List Mv) : ∀ {r : List Int} {b : Int}, (∀ x ∈ r, -b ≤ x ∧ x ≤ b) → 0 ≤ b → ∀ x ∈ acts r ms, -(5 ^ ms.length * b) ≤ x ∧ x ≤ 5 ^ ms.length * b := by
  induction ms with
  | nil =>
    intro r b h _ x hx
    have := h x hx
    simpa using this
  | cons m ms ih =>
    intro r b h hb x hx
    have := ih (act_lim m h hb) (by omega) x hx
    rw [List.length_cons, Int.pow_succ, Int.mul_assoc]
    exact this
/-- a move, a word as they stand -/
def Mvs (H : Hp) : List V → List Mv → Prop
  | [], [] => True
  | v :: vs, m :: ms => (∃ p, v = .ref p ∧ H p = some (.tup m.val)) ∧ Mvs H vs ms
  | _, _ => False
theorem Mvs.kp {S : Addr → Prop} {H H1 : Hp} (k : Kp S H H1) : ∀ {vs : List V} {ms : List Mv}, Mvs H vs ms → Mvs H1 vs ms
  | [], [], _ => trivial
  | _ :: _, _ :: _, ⟨⟨p, e, h⟩, t⟩ => ⟨⟨p, e, k.tup _ _ h⟩, Mvs.kp k t⟩
theorem Mvs.len {H : Hp} : ∀ {vs : List V} {ms : List Mv}, Mvs H vs ms → vs.length = ms.length
  | [], [], _ => rfl
  | _ :: _, _ :: _, ⟨_, t⟩ => by rw [List.length_cons, List.length_cons, Mvs.len t]
theorem Mvs.get {H : Hp} : ∀ {vs : List V} {ms : List Mv} {i : Nat} {v : V}, Mvs H vs ms → vs[i]? = some v → ∃ p m, v = .ref p ∧ ms[i]? = some m ∧ H p = some (.tup m.val)
  | [], [], i, v, _, h => by simp at h
  | u :: vs, r :: rs, 0, v, ⟨⟨p, e, h⟩, t⟩, hv => by
    cases hv
    exact ⟨p, r, e, rfl, h⟩
  | u :: vs, r :: rs, i + 1, v, ⟨_, t⟩, hv => Mvs.get (i := i) t (by simpa using hv)
theorem Mvs.app {H : Hp} : ∀ {vs ws : List V} {rs ss : List Mv}, Mvs H vs rs → Mvs H ws ss → Mvs H (vs ++ ws) (rs ++ ss)
  | [], _, [], _, _, t => t
  | _ :: _, _, _ :: _, _, ⟨x, t⟩, u => ⟨x, Mvs.app t u⟩
theorem Mvs.upd {H : Hp} {D : Addr} {zs zs' : List V} (hd : H D = some (.lst zs)) : ∀ {vs : List V} {ms : List Mv}, Mvs H vs ms → Mvs (upd H D (.lst zs')) vs ms
  | [], [], _ => trivial
  | _ :: _, _ :: _, ⟨⟨p, e, h⟩, t⟩ => ⟨⟨p, e, by rw [upd_ne (ne_of h hd (by intro z; cases z))]; exact h⟩, Mvs.upd hd t⟩
def Wd (H : Hp) (p : Addr) (ms : List Mv) : Prop := ∃ vs, H p = some (.tup vs) ∧ Mvs H vs ms
theorem Wd.kp {S : Addr → Prop} {H H1 : Hp} {p : Addr} {ms : List Mv} (k : Kp S H H1) (h : Wd H p ms) : Wd H1 p ms := by
  obtain ⟨vs, h1, h2⟩ := h
  exact ⟨vs, k.tup _ _ h1, h2.kp k⟩
def sp_l_word (K : PySem.W.Frag) : Sp := fun vs H Q _ => ∃ (a : Addr) (n m : Nat), vs = [.ref a, .int n, .int m] ∧ Dc a H ∧ 3 ≤ n ∧ n ≤ 16 ∧ m ≤ 100 ∧ ∀ p H' (ms : List Mv), DR a H H' → Wd H' p ms → ms.length ≤ m → (∀ x ∈ ms, MvOk n x) → Q (.ref p) H'
theorem three {n : Nat} {xs ys : List Int} (hn : 3 ≤ n) (h1 : xs.Perm ((List.range n).map fun i : Nat => 0 + (i : Int))) (h2 : ys.Perm (xs.take 3)) (h3 : ys.Pairwise (· ≤ ·)) : ∃ i j k : Nat, ys = [(i : Int), (j : Int), (k : Int)] ∧ i < j ∧ j < k ∧ k < n := by
  have nd : ((List.range n).map fun i : Nat => 0 + (i : Int)).Nodup := by
    have := List.nodup_range (n := n)
    exact List.Pairwise.map _ (fun a b h e => h (by omega)) this
  have nd2 : xs.Nodup := h1.nodup_iff.mpr nd
  have nd3 : (xs.take 3).Nodup := (List.take_sublist 3 xs).nodup nd2
  have nd4 : ys.Nodup := h2.nodup_iff.mpr nd3
  have hl : ys.length = 3 := by
    rw [h2.length_eq, List.length_take, h1.length_eq]
    simp
    omega
  have hm : ∀ y ∈ ys, ∃ i : Nat, y = (i : Int) ∧ i < n := by
    intro y hy
    have := h1.mem_iff.mp (List.mem_of_mem_take (h2.mem_iff.mp hy))
    obtain ⟨i, hi, rfl⟩ := List.mem_map.mp this
    exact ⟨i, by omega, List.mem_range.mp hi⟩
  match ys, hl with
  | [a, b, c], _ =>
    obtain ⟨i, rfl, hi⟩ := hm a (by simp)
    obtain ⟨j, rfl, hj⟩ := hm b (by simp)
    obtain ⟨k, rfl, hk⟩ := hm c (by simp)
    simp only [List.pairwise_cons, List.mem_cons, List.not_mem_nil, or_false, forall_eq_or_imp, forall_eq] at h3
    simp only [List.nodup_cons, List.mem_cons, List.not_mem_nil, or_false, not_or] at nd4
    exact ⟨i, j, k, rfl, by omega, by omega, hk⟩
theorem rgV_0 (n : Nat) : rgV 0 (n : Int) = ((List.range n).map fun i : Nat => 0 + (i : Int)).map V.int := by
  unfold rgV
  rw [List.map_map, show ((n : Int) - 0).toNat = n by omega]
  rfl
theorem ok_l_word (T : Txt K mg) (D : Df K mg "_law_word" s_l_word ["_law_dice_here", "_law_n", "_law_most"]) (c_l_roll : C8.Cal P w K mg base 1 "_law_roll" (sp_l_roll) []) (c_l_mixed : C8.Cal P w K mg base 2 "_law_mixed" (sp_l_mixed K) []) : C8.Cal P w K mg base 3 "_law_word" (sp_l_word K) [] := by
  obtain ⟨f, fd, D, hb⟩ := D
  refine C8.cal0 D (.all hb) .nil sc_l_word (fun vs H Q E h => ?_) (fun cdv A outer s H vs Q E hr h => ?_)
  · obtain ⟨_, _, _, rfl, _⟩ := h; rfl
  · obtain ⟨a, n, m, rfl, hd, h1, h2, hm, q⟩ := h
    refine ⟨_, (pss_cons (ps_set (i := 3) sc_l_word.nd rfl (Or.inl rfl) (pe_lstN pa_nil))
      (pss_cons (ps_for PassesOwn.never rfl (pi_range1 (by rfl) T.b_range (pa_cons (C8.pe_c c_l_roll hr (by decide) (by rfl) (pa_cons (pv 0) (pa_cons (pe_op op_add (pv 2) pe_int) pa_nil))) pa_nil)) (pg_name (i := 4) sc_l_word.nd rfl (Or.inl rfl)) (pss_cons (ps_set (i := 5) sc_l_word.nd rfl (Or.inl rfl) (pe_callB (callK (K := K) rSortI call_srtI) (by rfl) T.b_sorted (by decide +kernel) (pa_cons (pe_slice (slK (K := K) rSlLI sl_lstI) (C8.pe_c c_l_mixed hr (by decide) (by rfl) (pa_cons (pv 0) (pa_cons (pe_listRgN rfl (by rfl) T.b_list (prg_1 (by rfl) T.b_range (pv 1))) pa_nil))) po_none (po_some pe_int)) pa_nil)))
      (pss_cons (ps_set (i := 6) sc_l_word.nd rfl (Or.inl rfl) (C8.pe_c c_l_roll hr (by decide) (by rfl) (pa_cons (pv 0) (pa_cons pe_int pa_nil))))
      (pss_one (ps_expr (pe_bm PySem.F.plainAttrs_list PySem.F.slot_list_append PySem.F.type_list_append mt_append (pv 3) (pa_cons (pe_ifExp (pt_cmpR op_eq (pv 6) pe_int (nomark _)) (pe_tupN (pa_cons pe_str (pa_cons (pe_ix (ixK (K := K) rIxL ix_list) (pv 5) pe_int (fun _ _ => rfl)) (pa_cons (pe_ix (ixK (K := K) rIxL ix_list) (pv 5) pe_int (fun _ _ => rfl)) pa_nil)))) (pe_tupN (pa_cons pe_str (pa_cons (pe_ix (ixK (K := K) rIxL ix_list) (pv 5) pe_int (fun _ _ => rfl)) (pa_cons (pe_ix (ixK (K := K) rIxL ix_list) (pv 5) pe_int (fun _ _ => rfl)) (pa_cons (pe_ix (ixK (K := K) rIxL ix_list) (pv 5) pe_int (fun _ _ => rfl)) pa_nil)))))) pa_nil)))))))
      (pss_one (ps_ret (pe_callTy (callK (K := K) rTupOf call_tupI) (by rfl) T.b_tuple (by decide +kernel) (pa_cons (pv 3) pa_nil)))))), ?_⟩
    refine newL (sz_ (by simp)) fun p1 H1 n1 k1 hp1 => ?_
    have d1 : DR a H H1 := .of hd k1
    have np : p1 ≠ a := fun z => hd.ne n1 z.symm
    refine ⟨_, rfl, _, rfl, _, _, rfl, rfl, _, _, rfl, d1.dc, by omega, nb (by omega), fun r H2 r0 r1 d2 => ⟨_, rfl, by omega, by omega, ?_⟩⟩
    refine for_it (n := r.toNat) walk_range (fun i σ H' => ∃ v4 v5 v6 ws ms, σ = [some (.ref a), some (.int n), some (.int m), some (.ref p1), v4, v5, v6] ∧ DR a H H' ∧ H' p1 = some (.lst ws) ∧ Mvs H' ws ms ∧ ms.length = i ∧ ∀ x ∈ ms, MvOk n x)
      ⟨_, _, _, [], [], rfl, d1.trans d2, d2.lst np hp1, trivial, rfl, by simp⟩ (fun _ _ _ _ _ => trivial) ?_ ?_
    · rintro i x σ H3' H3 hi ⟨v4, v5, v6, ws, ms, rfl, d3, hw3, hm3, hml, hok⟩ ⟨rfl, rfl⟩
      refine ⟨_, rfl, _, rfl, _, rfl, rgL ⟨by omega, by omega, by omega, by omega, by omega⟩ fun p4 H4 n4 k4 hp4 => ?_⟩
      rw [rgV_0] at hp4
      have d4 := d3.trans (.of d3.dc k4)
      refine ⟨a, p4, _, rfl, d4.dc, .inl (SqL.of hp4), by simp; omega, fun p5 H5 us n5 d5 hp5 hperm => ?_⟩
      have hul : us.length = n := by rw [hperm.length_eq]; simp
      refine ⟨_, rfl, slL (SqL.of hp5) fun p6 H6 n6 k6 hp6 => ?_⟩
      rw [show (some (3 : Int)) = some ((3 : Nat) : Int) from rfl, cut_to, ← List.map_take] at hp6
      refine sortL rfl (SqL.of hp6) (by simp; omega) fun ys p7 H7 hperm2 hpw n7 k7 hp7 => ?_
      obtain ⟨i1, j1, k1', rfl, hij, hjk, hkn⟩ := three h1 hperm hperm2 hpw
      have d7 := (d4.trans d5).trans (.of d5.dc (k6.trans k7))
      refine ⟨_, rfl, _, _, rfl, d7.dc, by decide, by decide, fun w8 H8 _ _ d8 => ?_⟩
      have hp7a : p7 ≠ a := fun z => d5.dc.ne (k6.live _ n7) z.symm
      have hp78 := d8.lst hp7a hp7
      have hw8 := d8.lst np (k7.keep _ _ (fun z => z) (k6.keep _ _ (fun z => z) (d5.lst np (k4.keep _ _ (fun z => z) hw3))))
      have d8' := d7.trans d8
      have k38 : Kp (At a) H3 H8 := ((k4.up.trans d5.kp).trans (k6.trans k7).up).trans d8.kp
      have hm8 := hm3.kp k38
      have fin : ∀ (m' : Mv) (p9 : Addr) (H9 : Hp), Kp N0 H8 H9 → H9 p9 = some (.tup m'.val) → MvOk n m' → ∃ v4' v5' v6' ws' ms', [some (V.ref a), some (.int n), some (.int m), some (.ref p1), some (.int (0 + (i : Int))), some (.ref p7), some (.int w8)] = [some (.ref a), some (.int n), some (.int m), some (.ref p1), v4', v5', v6'] ∧ DR a H (upd H9 p1 (.lst (ws ++ [.ref p9]))) ∧ upd H9 p1 (.lst (ws ++ [.ref p9])) p1 = some (.lst ws') ∧ Mvs (upd H9 p1 (.lst (ws ++ [.ref p9]))) ws' ms' ∧ ms'.length = i + 1 ∧ ∀ x ∈ ms', MvOk n x := by
        intro m' p9 H9 k9 hp9 hm'
        have hw9 := k9.keep _ _ (fun z => z) hw8
        refine ⟨_, _, _, ws ++ [.ref p9], ms ++ [m'], rfl, ⟨.mut0 n1 (d8'.kp.trans k9.up), (d8.dc.kp k9).upd_ne np.symm⟩, upd_same, Mvs.app (Mvs.upd hw9 (hm8.kp k9)) ⟨⟨p9, rfl, ?_⟩, trivial⟩, by simp [hml], fun x hx => ?_⟩
        · rw [upd_ne (ne_of hp9 hw9 (by intro z; cases z))]
          exact hp9
        · rcases List.mem_append.mp hx with hx | hx
          · exact hok x hx
          · simp only [List.mem_cons, List.not_mem_nil, or_false] at hx
            rw [hx]; exact hm'
      have hsz : ws.length < sizeLine := Nat.lt_of_le_of_lt (by rw [hm3.len, hml]; omega : ws.length ≤ 1000) (by decide)
      refine ⟨_, rfl, .inl ⟨rfl, _, SqL.of hw8⟩, _, rfl, rfl, _, rfl, ite2 (fun _ => ?_) (fun _ => ?_)⟩
      · refine ⟨_, rfl, p7, _, _, _, rfl, rfl, SqL.of hp78, rfl, _, rfl, p7, _, _, _, rfl, rfl, SqL.of hp78, rfl, newT (sz_ (by simp)) fun p9 H9 _ k9 hp9 => ?_⟩
        exact ⟨p1, _, _, rfl, rfl, k9.keep _ _ (fun z => z) hw8, hsz, fin (.sw i1 j1) p9 H9 k9 hp9 ⟨hij, by omega⟩⟩
      · refine ⟨_, rfl, p7, _, _, _, rfl, rfl, SqL.of hp78, rfl, _, rfl, p7, _, _, _, rfl, rfl, SqL.of hp78, rfl, _, rfl, p7, _, _, _, rfl, rfl, SqL.of hp78, rfl, newT (sz_ (by simp)) fun p9 H9 _ k9 hp9 => ?_⟩
        exact ⟨p1, _, _, rfl, rfl, k9.keep _ _ (fun z => z) hw8, hsz, fin (.tn i1 j1 k1') p9 H9 k9 hp9 ⟨hij, hjk, hkn⟩⟩
    · rintro σ H3 ⟨v4, v5, v6, ws, ms, rfl, d3, hw3, hm3, hml, hok⟩
      refine ⟨_, rfl, tupL rfl (SqL.of hw3) fun p4 H4 _ k4 hp4 => ?_⟩
      exact q p4 H4 ms (d3.trans (.of d3.dc k4)) ⟨ws, hp4, hm3.kp k4⟩ (by omega) hok

def sp_l_move (K : PySem.W.Frag) : Sp := fun vs H Q _ => ∃ (a b : Addr) (ns : List Int) (m : Mv) (n : Nat), vs = [.ref a, .ref b] ∧ H a = some (.tup (ns.map V.int)) ∧ H b = some (.tup m.val) ∧ MvOk n m ∧ ns.length = n + 1 ∧ n ≤ 100 ∧ ∀ p H', Kp N0 H H' → H' p = some (.tup ((act ns m).map V.int)) → Q (.ref p) H'
theorem at1 {ns : List Int} {j : Nat} (h : 1 + j < ns.length) : atI (ns.map V.int) (1 + (j : Int)) = some (.int (ns.getD (1 + j) 0)) := by
  have := at_row (ns := ns) (j := 1 + j) h
  rw [show (((1 + j : Nat)) : Int) = 1 + (j : Int) by omega] at this
  exact this
theorem ix1 {n j : Nat} (h : 1 + j < n) : ixN n (1 + (j : Int)) = some (1 + j) := by
  have := Evl.ixN_nat (n := n) (j := 1 + j) h
  rw [show (((1 + j : Nat)) : Int) = 1 + (j : Int) by omega] at this
  exact this
def bump (c : Int) (l : List Int) (x : Nat) : List Int := l.set x (l.getD x 0 + c)
theorem bump_len (c : Int) (l : List Int) (x : Nat) : (bump c l x).length = l.length := by simp [bump]
theorem act_bump (r : List Int) (i j k : Nat) (h1 : i < j) (h2 : j < k) (c : Int) (hc : c = r.getD 0 0 - r.getD (1 + i) 0 - r.getD (1 + j) 0 - r.getD (1 + k) 0) :
    bump c (bump c (bump c (bump c r 0) (1 + i)) (1 + j)) (1 + k) = act r (.tn i j k) := by
  have g : ∀ (l : List Int) (x y : Nat) (v : Int), x ≠ y → (l.set x v).getD y 0 = l.getD y 0 := by
    intro l x y v h
    rw [List.getD_eq_getElem?_getD, List.getD_eq_getElem?_getD, List.getElem?_set_ne h]
  subst hc
  unfold bump act
  simp only
  rw [g _ 0 (1 + i) _ (by omega), g _ (1 + i) (1 + j) _ (by omega), g _ 0 (1 + j) _ (by omega), g _ (1 + j) (1 + k) _ (by omega), g _ (1 + i) (1 + k) _ (by omega), g _ 0 (1 + k) _ (by omega)]
theorem ok_l_move (T : Txt K mg) (D : Df K mg "_law_move" s_l_move ["_law_row_here", "_law_move_here"]) : C8.Cal P w K mg base 1 "_law_move" (sp_l_move K) [] := by
  obtain ⟨f, fd, D, hb⟩ := D
  refine C8.cal0 D (.all hb) .nil sc_l_move (fun vs H Q E h => ?_) (fun cdv A outer s H vs Q E hr h => ?_)
  · obtain ⟨_, _, _, _, _, rfl, _⟩ := h; rfl
  · obtain ⟨a, b, ns, m, n, rfl, ha, hb, hok, hl, hn, q⟩ := h
    refine ⟨_, (pss_cons (ps_set (i := 2) sc_l_move.nd rfl (Or.inl rfl) (pe_callTy (callK (K := K) rListOf call_lstI) (by rfl) T.b_list (by decide +kernel) (pa_cons (pv 0) pa_nil)))
      (pss_cons (ps_if (pt_cmpR op_eq (pe_ix (ixK (K := K) rIxT ix_tup) (pv 1) pe_int (fun _ _ => rfl)) pe_str (nomark _)) (pss_cons (ps_asg (pe_tupN (pa_cons (pe_ix (ixK (K := K) rIxT ix_tup) (pv 0) (pe_op op_add pe_int (pe_ix (ixK (K := K) rIxT ix_tup) (pv 1) pe_int (fun _ _ => rfl))) (fun _ _ => rfl)) (pa_cons (pe_ix (ixK (K := K) rIxT ix_tup) (pv 0) (pe_op op_add pe_int (pe_ix (ixK (K := K) rIxT ix_tup) (pv 1) pe_int (fun _ _ => rfl))) (fun _ _ => rfl)) pa_nil))) (pg_tup rfl (pgs_cons (pg_sub (pv 2) (pe_op op_add pe_int (pe_ix (ixK (K := K) rIxT ix_tup) (pv 1) pe_int (fun _ _ => rfl))) set_list) (pgs_cons (pg_sub (pv 2) (pe_op op_add pe_int (pe_ix (ixK (K := K) rIxT ix_tup) (pv 1) pe_int (fun _ _ => rfl))) set_list) pgs_nil))))
      (pss_one (ps_ret (pe_callTy (callK (K := K) rTupOf call_tupI) (by rfl) T.b_tuple (by decide +kernel) (pa_cons (pv 2) pa_nil))))) pss_nil)
      (pss_cons (ps_set (i := 3) sc_l_move.nd rfl (Or.inl rfl) (pe_op op_sub (pe_op op_sub (pe_op op_sub (pe_ix (ixK (K := K) rIxT ix_tup) (pv 0) pe_int (fun _ _ => rfl)) (pe_ix (ixK (K := K) rIxT ix_tup) (pv 0) (pe_op op_add pe_int (pe_ix (ixK (K := K) rIxT ix_tup) (pv 1) pe_int (fun _ _ => rfl))) (fun _ _ => rfl))) (pe_ix (ixK (K := K) rIxT ix_tup) (pv 0) (pe_op op_add pe_int (pe_ix (ixK (K := K) rIxT ix_tup) (pv 1) pe_int (fun _ _ => rfl))) (fun _ _ => rfl))) (pe_ix (ixK (K := K) rIxT ix_tup) (pv 0) (pe_op op_add pe_int (pe_ix (ixK (K := K) rIxT ix_tup) (pv 1) pe_int (fun _ _ => rfl))) (fun _ _ => rfl))))
      (pss_cons (ps_for PassesOwn.never rfl (pi_tup (pe_tupN (pa_cons pe_int (pa_cons (pe_op op_add pe_int (pe_ix (ixK (K := K) rIxT ix_tup) (pv 1) pe_int (fun _ _ => rfl))) (pa_cons (pe_op op_add pe_int (pe_ix (ixK (K := K) rIxT ix_tup) (pv 1) pe_int (fun _ _ => rfl))) (pa_cons (pe_op op_add pe_int (pe_ix (ixK (K := K) rIxT ix_tup) (pv 1) pe_int (fun _ _ => rfl))) pa_nil)))))) (pg_name (i := 4) sc_l_move.nd rfl (Or.inl rfl)) (pss_one (ps_asg (pe_op op_add (pe_ix (ixK (K := K) rIxL ix_list) (pv 2) (pv 4) (fun _ _ => rfl)) (pv 3)) (pg_sub (pv 2) (pv 4) set_list))))
      (pss_one (ps_ret (pe_callTy (callK (K := K) rTupOf call_tupI) (by rfl) T.b_tuple (by decide +kernel) (pa_cons (pv 2) pa_nil)))))))), ?_⟩
    refine ⟨_, rfl, listL rfl (.inr (SqT.of ha)) fun p1 H1 n1 k1 hp1 => ?_⟩
    have ha1 := k1.tup _ _ ha
    have hb1 := k1.tup _ _ hb
    cases m with
    | sw i j =>
      obtain ⟨o1, o2⟩ := hok
      refine ⟨_, rfl, b, _, _, _, rfl, rfl, SqT.of hb1, rfl, rfl, _, rfl, ?_⟩
      refine iteEq rfl ?_
      refine ⟨_, rfl, _, rfl, b, _, _, _, rfl, rfl, SqT.of hb1, rfl, _, _, rfl, rfl, a, _, _, _, rfl, rfl, SqT.of ha1, at1 (by omega), ?_⟩
      refine ⟨_, rfl, _, rfl, b, _, _, _, rfl, rfl, SqT.of hb1, rfl, _, _, rfl, rfl, a, _, _, _, rfl, rfl, SqT.of ha1, at1 (by omega), newT (sz_ (by simp)) fun p2 H2 _ k2 hp2 => ?_⟩
      have hb2 := k2.tup _ _ hb1
      have hp12 := k2.keep _ _ (fun z => z) hp1
      refine ⟨p2, _, rfl, SqT.of hp2, rfl, _, _, rfl, ?_⟩
      refine ⟨_, rfl, _, rfl, b, _, _, _, rfl, rfl, SqT.of hb2, rfl, _, _, rfl, rfl, p1, _, _, _, rfl, rfl, hp12, ix1 (by rw [List.length_map]; omega), ?_⟩
      have kk : Kp N0 H (upd H2 p1 (.lst ((ns.map V.int).set (1 + i) (V.int (ns.getD (1 + j) 0))))) := .mut0 n1 (k1.trans k2)
      have hb3 : upd H2 p1 (.lst ((ns.map V.int).set (1 + i) (V.int (ns.getD (1 + j) 0)))) b = some (.tup (Mv.val (.sw i j))) := kk.tup _ _ hb
      have hp13 : upd H2 p1 (.lst ((ns.map V.int).set (1 + i) (V.int (ns.getD (1 + j) 0)))) p1 = some (.lst ((ns.map V.int).set (1 + i) (V.int (ns.getD (1 + j) 0)))) := upd_same
      generalize upd H2 p1 (.lst ((ns.map V.int).set (1 + i) (V.int (ns.getD (1 + j) 0)))) = H3 at kk hb3 hp13
      refine ⟨_, _, rfl, _, rfl, _, rfl, b, _, _, _, rfl, rfl, SqT.of hb3, rfl, _, _, rfl, rfl, p1, _, _, _, rfl, rfl, hp13, ix1 (by rw [List.length_set, List.length_map]; omega), rfl, ?_⟩
      have hp14 : upd H3 p1 (.lst (((ns.map V.int).set (1 + i) (V.int (ns.getD (1 + j) 0))).set (1 + j) (V.int (ns.getD (1 + i) 0)))) p1 = some (.lst ((act ns (.sw i j)).map V.int)) := by
        rw [upd_same, ← List.map_set, ← List.map_set]
        rfl
      refine ⟨_, rfl, tupL rfl (SqL.of hp14) fun p5 H5 _ k5 hp5 => q _ _ (Kp.trans (.mut0 n1 kk) k5) hp5⟩
    | tn i j k =>
      obtain ⟨o1, o2, o3⟩ := hok
      refine ⟨_, rfl, b, _, _, _, rfl, rfl, SqT.of hb1, rfl, rfl, _, rfl, ?_⟩
      have e : decide (V.str "turn" = V.str "swap") = false := by decide
      refine (show ∀ {A B : Prop}, B → (if decide (V.str "turn" = V.str "swap") = true then A else B) from fun h => by rw [e]; exact iteF h) ?_
      refine ⟨_, rfl, a, _, _, _, rfl, rfl, SqT.of ha1, at_row0 (by omega), _, rfl, _, rfl, b, _, _, _, rfl, rfl, SqT.of hb1, rfl, _, _, rfl, rfl, a, _, _, _, rfl, rfl, SqT.of ha1, at1 (by omega), _, _, rfl, rfl, ?_⟩
      refine ⟨_, rfl, _, rfl, b, _, _, _, rfl, rfl, SqT.of hb1, rfl, _, _, rfl, rfl, a, _, _, _, rfl, rfl, SqT.of ha1, at1 (by omega), _, _, rfl, rfl, ?_⟩
      refine ⟨_, rfl, _, rfl, b, _, _, _, rfl, rfl, SqT.of hb1, rfl, _, _, rfl, rfl, a, _, _, _, rfl, rfl, SqT.of ha1, at1 (by omega), _, _, rfl, rfl, ?_⟩
      refine ⟨_, rfl, b, _, _, _, rfl, rfl, SqT.of hb1, rfl, _, _, rfl, rfl, _, rfl, b, _, _, _, rfl, rfl, SqT.of hb1, rfl, _, _, rfl, rfl, _, rfl, b, _, _, _, rfl, rfl, SqT.of hb1, rfl, _, _, rfl, rfl, newT (sz_ (by simp)) fun T H2 _ k2 hT => ?_⟩
      refine ⟨_, rfl, ⟨_, SqT.of hT⟩, ?_⟩
      have hp12 := k2.keep _ _ (fun z => z) hp1
      have main : ∀ (c : Int), c = ns.getD 0 0 - ns.getD (1 + i) 0 - ns.getD (1 + j) 0 - ns.getD (1 + k) 0 → ∀ i2 : Nat, i2 ≤ 4 → ([0, 1 + i, 1 + j, 1 + k].take i2).foldl (bump c) ns = ([0, 1 + i, 1 + j, 1 + k].take i2).foldl (bump c) ns := fun _ _ _ _ => rfl
      generalize hc : ns.getD 0 0 - ns.getD (1 + i) 0 - ns.getD (1 + j) 0 - ns.getD (1 + k) 0 = c
      have lenF : ∀ (l : List Nat) (r : List Int), (l.foldl (bump c) r).length = r.length := by
        intro l
        induction l with
        | nil => intro r; rfl
        | cons x l ih => intro r; show (l.foldl (bump c) (bump c r x)).length = _; rw [ih, bump_len]
      refine for_it (n := 4) (walk_tup (K := K) (a := T) (xs := [V.int 0, V.int (1 + (i : Int)), V.int (1 + (j : Int)), V.int (1 + (k : Int))])) (fun t σ H' => ∃ v4, σ = [some (.ref a), some (.ref b), some (.ref p1), some (.int c), v4] ∧ Kp N0 H H' ∧ H' T = some (.tup [V.int 0, V.int (1 + (i : Int)), V.int (1 + (j : Int)), V.int (1 + (k : Int))]) ∧ H' p1 = some (.lst ((([0, 1 + i, 1 + j, 1 + k].take t).foldl (bump c) ns).map V.int)))
        ⟨none, by rw [← hc]; rfl, k1.trans k2, hT, hp12⟩ (fun _ _ H' _ ⟨_, _, _, z, _⟩ => SqT.of z) ?_ ?_
      · rintro t x σ H3' H3 ht ⟨v4, rfl, k3, hT3, hp3⟩ ⟨rfl, hx⟩
        obtain ⟨y, hy, rfl, hyl, hyt⟩ : ∃ y : Nat, [0, 1 + i, 1 + j, 1 + k][t]? = some y ∧ x = .int (y : Int) ∧ y < ns.length ∧ [0, 1 + i, 1 + j, 1 + k].take (t + 1) = [0, 1 + i, 1 + j, 1 + k].take t ++ [y] := by
          rcases t with _ | _ | _ | _ | t
          · cases hx; exact ⟨0, rfl, rfl, by omega, rfl⟩
          · cases hx; exact ⟨1 + i, rfl, congrArg V.int (by omega), by omega, rfl⟩
          · cases hx; exact ⟨1 + j, rfl, congrArg V.int (by omega), by omega, rfl⟩
          · cases hx; exact ⟨1 + k, rfl, congrArg V.int (by omega), by omega, rfl⟩
          · omega
        have hlen := lenF ([0, 1 + i, 1 + j, 1 + k].take t) ns
        refine ⟨_, rfl, _, rfl, p1, _, _, _, rfl, rfl, SqL.of hp3, at_row (by rw [hlen]; exact hyl), _, rfl, _, _, rfl, rfl, ?_⟩
        refine ⟨_, rfl, _, rfl, p1, _, _, y, rfl, rfl, hp3, Evl.ixN_nat (by rw [List.length_map, hlen]; exact hyl), ?_⟩
        refine ⟨_, rfl, .mut0 n1 k3, ?_, ?_⟩
        · rw [upd_ne (ne_of hT3 hp3 (by intro z; cases z))]
          exact hT3
        · rw [upd_same, hyt, List.foldl_append, ← List.map_set]
          rfl
      · rintro σ H3 ⟨v4, rfl, k3, hT3, hp3⟩
        refine ⟨_, rfl, tupL rfl (SqL.of hp3) fun p5 H5 _ k5 hp5 => q _ _ (k3.trans k5) ?_⟩
        rw [hp5, ← act_bump ns i j k o1 o2 c hc.symm]
        rfl
def sp_l_moved (K : PySem.W.Frag) : Sp := fun vs H Q _ => ∃ (a b : Addr) (ns : List Int) (ms : List Mv) (n : Nat), vs = [.ref a, .ref b] ∧ H a = some (.tup (ns.map V.int)) ∧ Wd H b ms ∧ (∀ m ∈ ms, MvOk n m) ∧ ns.length = n + 1 ∧ n ≤ 100 ∧ ∀ p H', Kp N0 H H' → H' p = some (.tup ((acts ns ms).map V.int)) → Q (.ref p) H'
theorem acts_take (ns : List Int) (ms : List Mv) (i : Nat) (m : Mv) (h : ms[i]? = some m) : acts ns (ms.take (i + 1)) = act (acts ns (ms.take i)) m := by
  unfold acts
  rw [List.take_add_one, h]
  simp
theorem ok_l_moved (T : Txt K mg) (D : Df K mg "_law_moved" s_l_moved ["_law_row_here", "_law_word_here"]) (c_l_move : C8.Cal P w K mg base 1 "_law_move" (sp_l_move K) []) : C8.Cal P w K mg base 2 "_law_moved" (sp_l_moved K) [] := by
  obtain ⟨f, fd, D, hb⟩ := D
  refine C8.cal0 D (.all hb) .nil sc_l_moved (fun vs H Q E h => ?_) (fun cdv A outer s H vs Q E hr h => ?_)
  · obtain ⟨_, _, _, _, _, rfl, _⟩ := h; rfl
  · obtain ⟨a, b, ns, ms, n, rfl, ha, ⟨ws, hb, hms⟩, hok, hl, hn, q⟩ := h
    refine ⟨_, (pss_cons (ps_for PassesOwn.never rfl (pi_tup (pv 1)) (pg_name (i := 2) sc_l_moved.nd rfl (Or.inl rfl)) (pss_one (ps_set (i := 0) sc_l_moved.nd rfl (Or.inl rfl) (C8.pe_c c_l_move hr (by decide) (by rfl) (pa_cons (pv 0) (pa_cons (pv 2) pa_nil))))))
      (pss_one (ps_ret (pv 0)))), ?_⟩
    refine ⟨_, rfl, b, rfl, ⟨_, SqT.of hb⟩, ?_⟩
    refine for_it (n := ws.length) (walk_tup (K := K) (a := b) (xs := ws)) (fun t σ H' => ∃ p v2, σ = [some (.ref p), some (.ref b), v2] ∧ Kp N0 H H' ∧ H' p = some (.tup ((acts ns (ms.take t)).map V.int))) ⟨a, none, rfl, .refl _ _, ha⟩ (fun _ _ H' _ ⟨_, _, _, k, _⟩ => SqT.of (k.tup _ _ hb)) ?_ ?_
    · rintro t x σ H3' H3 ht ⟨p, v2, rfl, k3, hp3⟩ ⟨rfl, hx⟩
      obtain ⟨pm, m, rfl, hm, hpm⟩ := (hms.kp k3).get hx
      refine ⟨_, rfl, _, rfl, p, pm, _, m, n, rfl, hp3, hpm, hok m (List.mem_of_getElem? hm), by rw [acts_len]; exact hl, hn, fun p4 H4 k4 hp4 => ?_⟩
      exact ⟨p4, _, rfl, k3.trans k4, by rw [hp4, acts_take ns ms t m hm]⟩
    · rintro σ H3 ⟨p, v2, rfl, k3, hp3⟩
      rw [hms.len, List.take_length] at hp3
      exact ⟨_, rfl, q _ _ k3 hp3⟩
def LimN (n : Nat) (b : Int) (ns : List Int) : Prop := ns.length = n + 1 ∧ ∀ x ∈ ns, -b ≤ x ∧ x ≤ b
def sp_l_full_row (K : PySem.W.Frag) : Sp := fun vs H Q _ => ∃ (a : Addr) (n m : Nat), vs = [.ref a, .int n, .int m] ∧ Dc a H ∧ 3 ≤ n ∧ n ≤ 16 ∧ m ≤ 100 ∧ ∀ p H' (ns : List Int), DR a H H' → H' p = some (.tup (ns.map V.int)) → LimN n (10 ^ 30) ns → Q (.ref p) H'
theorem sumr_abs (n : Nat) : ∀ (rs : List (List Int)) (ns : List Int) (acc : List Int) (b : Int), (∀ x ∈ acc, -b ≤ x ∧ x ≤ b) → (∀ r ∈ rs, ∀ x ∈ r, -1 ≤ x ∧ x ≤ 1) → (∀ z ∈ ns, -10 ≤ z ∧ z ≤ 10) → 0 ≤ b → ∀ x ∈ sumr acc rs ns, -(b + 10 * rs.length) ≤ x ∧ x ≤ b + 10 * rs.length
  | [], ns, acc, b, ha, _, _, _ => by
    cases ns <;> (intro x hx; have := ha x hx; simp; exact this)
  | r :: rs, [], acc, b, ha, _, _, hb => by
    intro x hx
    have h1 := ha x hx
    simp only [List.length_cons]
    omega
  | r :: rs, m :: ns, acc, b, ha, hr, hn, hb => by
    intro x hx
    have ih := sumr_abs n rs ns (List.zipWith (fun x y => x + m * y) acc r) (b + 10) (fun u hu => by
      obtain ⟨i, hi, e⟩ := List.mem_iff_getElem.mp hu
      rw [List.getElem_zipWith] at e
      rw [List.length_zipWith] at hi
      have h1 := ha _ (List.getElem_mem (show i < acc.length by omega))
      have h2 := hr r List.mem_cons_self _ (List.getElem_mem (show i < r.length by omega))
      have h3 := hn m List.mem_cons_self
      rcases (show r[i]'(by omega) = -1 ∨ r[i]'(by omega) = 0 ∨ r[i]'(by omega) = 1 by omega) with e3 | e3 | e3 <;> rw [e3] at e <;> omega) (fun r' h' => hr r' (List.mem_cons_of_mem _ h')) (fun z hz => hn z (List.mem_cons_of_mem _ hz)) (by omega) x hx
    simp only [List.length_cons]
    push_cast
    omega
theorem prow_ent {n i : Nat} : ∀ x ∈ prow n i, -1 ≤ x ∧ x ≤ 1 := by
  intro x hx
  rcases List.mem_cons.mp hx with rfl | hx
  · omega
  · obtain ⟨j, _, rfl⟩ := List.mem_map.mp hx
    split <;> omega
theorem prow_len {n i : Nat} : (prow n i).length = n + 1 := by simp [prow]
theorem pow5 {k m : Nat} (h : k ≤ m) : (5 : Int) ^ k ≤ 5 ^ m := by
  have := Nat.pow_le_pow_right (show 0 < 5 by decide) h
  exact_mod_cast this
theorem ok_l_full_row (T : Txt K mg) (D : Df K mg "_law_full_row" s_l_full_row ["_law_dice_here", "_law_n", "_law_most"]) (c_l_word : C8.Cal P w K mg base 3 "_law_word" (sp_l_word K) []) (c_l_point_row : C8.Cal P w K mg base 1 "_law_point_row" (sp_l_point_row K) []) (c_l_roll : C8.Cal P w K mg base 1 "_law_roll" (sp_l_roll) []) (c_l_moved : C8.Cal P w K mg base 2 "_law_moved" (sp_l_moved K) []) (c_l_sum : C8.Cal P w K mg base 1 "_law_sum" (sp_l_sum K) []) (c_l_standard : C8.Cal P w K mg base 3 "_law_standard" (sp_l_standard K) []) : C8.Cal P w K mg base 4 "_law_full_row" (sp_l_full_row K) [] := by
  obtain ⟨f, fd, D, hb⟩ := D
  refine C8.cal0 D (.all hb) .nil sc_l_full_row (fun vs H Q E h => ?_) (fun cdv A outer s H vs Q E hr h => ?_)
  · obtain ⟨_, _, _, rfl, _⟩ := h; rfl
  · obtain ⟨a, n, m, rfl, hd, h1, h2, hm, q⟩ := h
    refine ⟨_, (pss_cons (ps_set (i := 3) sc_l_full_row.nd rfl (Or.inl rfl) (C8.pe_c c_l_word hr (by decide) (by rfl) (pa_cons (pv 0) (pa_cons (pv 1) (pa_cons pe_int pa_nil)))))
      (pss_cons (ps_setLc (i := 4) (own := [("_law_at", 6)]) (g := gName 6) rfl sc_l_full_row.nd rfl rfl (sw_true rfl rfl rfl (by decide +kernel)) (pi_range1 (by rfl) T.b_range (pa_cons (pv 1) pa_nil)) (C8b.blk (N := ["_law_dice_here", "_law_n", "_law_most", "_law_word_here", "_law_points", "_law_numbers", "_law_at"]) (sc := C8.fnScope s_l_full_row) (by decide +kernel)) (fun _ _ _ _ _ => (pg_name (i := 6) sc_l_full_row.nd rfl (Or.inl rfl))) (fun _ _ _ _ _ => pts_nil) (fun _ _ _ _ _ => (C8.pe_c c_l_point_row hr (by decide) (by rfl) (pa_cons (pv 1) (pa_cons (pv 6) pa_nil)))))
      (pss_cons (ps_setLc (i := 5) (own := [("_law_at", 6)]) (g := gName 6) rfl sc_l_full_row.nd rfl rfl (sw_true rfl rfl rfl (by decide +kernel)) (pi_list (pv 4)) (C8b.blk (N := ["_law_dice_here", "_law_n", "_law_most", "_law_word_here", "_law_points", "_law_numbers", "_law_at"]) (sc := C8.fnScope s_l_full_row) (by decide +kernel)) (fun _ _ _ _ _ => (pg_name (i := 6) sc_l_full_row.nd rfl (Or.inl rfl))) (fun _ _ _ _ _ => pts_nil) (fun _ _ _ _ _ => (pe_op op_mulE (C8.pe_c c_l_roll hr (by decide) (by rfl) (pa_cons (pv 0) (pa_cons pe_int pa_nil))) (pe_callTy call_int1 (by rfl) T.b_int (by decide +kernel) (pa_cons (pe_cmpR op_eq (C8.pe_c c_l_roll hr (by decide) (by rfl) (pa_cons (pv 0) (pa_cons pe_int pa_nil))) pe_int (nomark _)) pa_nil)))))
      (pss_one (ps_ret (C8.pe_c c_l_moved hr (by decide) (by rfl) (pa_cons (C8.pe_c c_l_sum hr (by decide) (by rfl) (pa_cons (pe_op op_catLI (pe_lstN (pa_cons (C8.pe_c c_l_standard hr (by decide) (by rfl) (pa_cons (pv 0) (pa_cons (pv 1) (pa_cons (pv 2) pa_nil)))) pa_nil)) (pv 4)) (pa_cons (pe_op op_catLI (pe_lstN (pa_cons pe_int pa_nil)) (pv 5)) pa_nil))) (pa_cons (pv 3) pa_nil)))))))), ?_⟩
    refine ⟨_, rfl, _, rfl, a, n, 6, rfl, hd, h1, h2, by decide, fun pw H1 ms d1 hw hml hok => ?_⟩
    refine ⟨_, rfl, _, rfl, by omega, by omega, ?_⟩
    refine lc_rows walk_range (fun i => prow n i) (by omega) (fun _ _ => trivial) ?_ ?_
    · rintro i x H3' H3 hi k ⟨rfl, rfl⟩ R hR
      exact ⟨rfl, _, rfl, _, rfl, n, i, by simp, h2, fun p H4 k4 hp => hR _ _ k4 hp⟩
    · intro D1 H2 ys nD1 k2 hD1 hys
      have hD1a : D1 ≠ a := fun z => d1.dc.ne nD1 z.symm
      have hyl := hys.len
      rw [List.length_map, List.length_range] at hyl
      have d2 : DR a H1 H2 := .of d1.dc k2
      refine ⟨_, rfl, D1, rfl, ⟨_, SqL.of hD1⟩, ?_⟩
      refine lc_draws (a := a) (walk_list (xs := ys)) (fun z => 0 ≤ z ∧ z ≤ 2) (by omega) d2.dc (fun H' d => sq_lst_dr hD1a hD1 d) ?_ ?_
      · rintro i x H3' H3 hi d3 ⟨rfl, hx⟩ R hR
        refine ⟨rfl, _, rfl, _, _, rfl, d3.dc, by decide, by decide, fun r1 H4 r10 r11 d4 => ?_⟩
        refine ⟨_, rfl, _, _, rfl, d4.dc, by decide, by decide, fun r2 H5 _ _ d5 => ⟨rfl, .inr ⟨_, rfl, _, _, rfl, rfl, mulX_right (by split <;> decide), hR _ _ (d4.trans d5) ?_⟩⟩⟩
        split
        · rw [Int.mul_one]; omega
        · rw [Int.mul_zero]; omega
      · intro D2 H3 zs nD2 d3 hD2 hzl hz
        have hD13 := d3.lst hD1a hD1
        have hD2a : D2 ≠ a := fun z => d2.dc.ne nD2 z.symm
        refine ⟨_, rfl, _, rfl, _, rfl, a, n, m, rfl, d3.dc, h1, h2, hm, fun p4 H4 ss d4 hp4 hsl hsb => ?_⟩
        have hD14 := d4.lst hD1a hD13
        have hD24 := d4.lst hD2a hD2
        refine newL (sz_ (by simp)) fun p5 H5 n5 k5 hp5 => ⟨_, rfl, ?_⟩
        refine catL hp5 (k5.keep _ _ (fun z => z) hD14) (sz_ (by simp; omega)) fun p6 H6 n6 k6 hp6 => ?_
        refine newL (sz_ (by simp)) fun p7 H7 n7 k7 hp7 => ⟨_, rfl, ?_⟩
        have k47 := (k5.trans k6).trans k7
        refine catL hp7 (k47.keep _ _ (fun z => z) hD24) (sz_ (by simp; omega)) fun p8 H8 n8 k8 hp8 => ?_
        have k48 := k47.trans k8
        have d8 : DR a H1 H8 := ((d2.trans d3).trans d4).trans (.of d4.dc k48)
        have hp68 := k8.keep _ _ (fun z => z) (k7.keep _ _ (fun z => z) hp6)
        have hrs : Rws H8 ([V.ref p4] ++ ys) ([ss] ++ (List.range (n : Int).toNat).map fun i => prow n i) := Rws.app ⟨⟨p4, rfl, k48.tup _ _ hp4⟩, trivial⟩ (((hys.kp d3.kp).kp d4.kp).kp k48)
        have hrl : ((List.range (n : Int).toNat).map fun i => prow n i).length = n := by simp
        have hrm : ∀ r ∈ (List.range (n : Int).toNat).map (fun i => prow n i), r.length = n + 1 ∧ ∀ x ∈ r, -1 ≤ x ∧ x ≤ 1 := fun r hr => by
          obtain ⟨i, _, rfl⟩ := List.mem_map.mp hr
          exact ⟨prow_len, prow_ent⟩
        generalize (List.range (n : Int).toNat).map (fun i => prow n i) = ps at hrs hrl hrm
        have hzs : zs.length = n := by omega
        refine ⟨p6, p8, [V.ref p4] ++ ys, [ss] ++ ps, 1 :: zs, n + 1, rfl, hp68, .of hrs, hp8, by simp; omega, by simp, by simp; omega, by omega, fun r hr => ?_, w_small fun x hx => ?_, fun p9 H9 k9 hp9 => ?_⟩
        · rcases List.mem_cons.mp hr with rfl | hr
          · exact ⟨hsl, w_small fun x hx => by have := hsb x hx; omega⟩
          · exact ⟨(hrm r hr).1, w_small fun x hx => by have := (hrm r hr).2 x hx; omega⟩
        · rcases List.mem_cons.mp hx with rfl | hx
          · omega
          · have := hz x hx
            omega
        have hb0 : ∀ x ∈ List.zipWith (fun x y => x + 1 * y) (List.replicate (n + 1) 0) ss, -10000 ≤ x ∧ x ≤ 10000 := fun u hu => by
          obtain ⟨i, hi, e⟩ := List.mem_iff_getElem.mp hu
          rw [List.getElem_zipWith] at e
          rw [List.length_zipWith] at hi
          have h3 := hsb _ (List.getElem_mem (show i < ss.length by omega))
          rw [List.getElem_replicate] at e
          omega
        have hb := sumr_abs n ps zs _ 10000 hb0 (fun r hr => (hrm r hr).2) (fun z hz' => by have := hz z hz'; omega) (by omega)
        have hsl : (sumr (List.replicate (n + 1) 0) ([ss] ++ ps) (1 :: zs)).length = n + 1 := by
          rw [sumr_len _ _ _ fun r' hr' => by
            rcases List.mem_cons.mp hr' with rfl | hr'
            · rw [hsl]; simp
            · rw [(hrm r' hr').1]; simp]
          simp
        have hb : ∀ x ∈ sumr (List.replicate (n + 1) 0) ([ss] ++ ps) (1 :: zs), -20000 ≤ x ∧ x ≤ 20000 := fun x hx => by
          have := hb x hx
          omega
        generalize sumr (List.replicate (n + 1) 0) ([ss] ++ ps) (1 :: zs) = us at hp9 hb hsl
        refine ⟨_, rfl, p9, pw, us, ms, n, rfl, hp9, (hw.kp d8.kp).kp k9, hok, hsl, by omega, fun p10 H10 k10 hp10 => ?_⟩
        refine q p10 H10 _ ((d1.trans d8).trans (.of d8.dc (k9.trans k10))) hp10 ⟨by rw [acts_len, hsl], fun x hx => ?_⟩
        have h3 := acts_lim ms hb (by omega) x hx
        have h4 := pow5 hml
        have e5 : (5 : Int) ^ 6 = 15625 := by decide
        rw [e5] at h4
        have e6 : (10 : Int) ^ 30 = 1000000000000000000000000000000 := by decide
        rw [e6]
        generalize (5 : Int) ^ ms.length = z at h3 h4
        omega
def sp_l_row (K : PySem.W.Frag) : Sp := fun vs H Q _ => ∃ (a : Addr) (n m : Nat), vs = [.ref a, .int n, .int m] ∧ Dc a H ∧ 3 ≤ n ∧ n ≤ 16 ∧ m ≤ 100 ∧ ∀ p H' (ns : List Int), DR a H H' → H' p = some (.tup (ns.map V.int)) → LimN n (10 ^ 30) ns → Q (.ref p) H'
theorem ok_l_row (T : Txt K mg) (D : Df K mg "_law_row" s_l_row ["_law_dice_here", "_law_n", "_law_most"]) (c_l_roll : C8.Cal P w K mg base 1 "_law_roll" (sp_l_roll) []) (c_l_full_row : C8.Cal P w K mg base 4 "_law_full_row" (sp_l_full_row K) []) (c_l_small_row : C8.Cal P w K mg base 3 "_law_small_row" (sp_l_small_row K) []) (c_l_moved : C8.Cal P w K mg base 2 "_law_moved" (sp_l_moved K) []) (c_l_standard : C8.Cal P w K mg base 3 "_law_standard" (sp_l_standard K) []) (c_l_word : C8.Cal P w K mg base 3 "_law_word" (sp_l_word K) []) : C8.Cal P w K mg base 5 "_law_row" (sp_l_row K) [] := by
  obtain ⟨f, fd, D, hb⟩ := D
  refine C8.cal0 D (.all hb) .nil sc_l_row (fun vs H Q E h => ?_) (fun cdv A outer s H vs Q E hr h => ?_)
  · obtain ⟨_, _, _, rfl, _⟩ := h; rfl
  · obtain ⟨a, n, m, rfl, hd, h1, h2, hm, q⟩ := h
    refine ⟨_, (pss_cons (ps_set (i := 3) sc_l_row.nd rfl (Or.inl rfl) (C8.pe_c c_l_roll hr (by decide) (by rfl) (pa_cons (pv 0) (pa_cons pe_int pa_nil))))
      (pss_cons (ps_if (pt_cmpR op_lt (pv 3) pe_int (nomark _)) (pss_one (ps_ret (C8.pe_c c_l_full_row hr (by decide) (by rfl) (pa_cons (pv 0) (pa_cons (pv 1) (pa_cons (pv 2) pa_nil)))))) pss_nil)
      (pss_one (ps_ret (pe_ifExp (pt_cmpR op_lt (pv 3) pe_int (nomark _)) (C8.pe_c c_l_small_row hr (by decide) (by rfl) (pa_cons (pv 0) (pa_cons (pv 1) (pa_cons (pe_op op_mulE pe_int (pv 2)) pa_nil)))) (C8.pe_c c_l_moved hr (by decide) (by rfl) (pa_cons (C8.pe_c c_l_standard hr (by decide) (by rfl) (pa_cons (pv 0) (pa_cons (pv 1) (pa_cons (pv 2) pa_nil)))) (pa_cons (C8.pe_c c_l_word hr (by decide) (by rfl) (pa_cons (pv 0) (pa_cons (pv 1) (pa_cons pe_int pa_nil)))) pa_nil)))))))), ?_⟩
    have e30 : (10 : Int) ^ 30 = 1000000000000000000000000000000 := by decide
    refine ⟨_, rfl, _, _, rfl, hd, by decide, by decide, fun r H1 _ _ d1 => ?_⟩
    refine ⟨_, rfl, _, _, rfl, rfl, _, rfl, ite2 (fun _ => ?_) (fun _ => ?_)⟩
    · exact ⟨_, rfl, _, rfl, _, rfl, a, n, m, rfl, d1.dc, h1, h2, hm, fun p H2 ns d2 hp hl => q p H2 ns (d1.trans d2) hp hl⟩
    · refine ⟨_, rfl, _, _, rfl, rfl, _, rfl, ite2 (fun _ => ?_) (fun _ => ?_)⟩
      · refine ⟨_, rfl, _, rfl, _, rfl, _, _, rfl, rfl, mulX_left (by decide), a, n, 3 * m, by simp, d1.dc, h1, h2, by omega, fun p H2 ns d2 hp hl hb => q p H2 ns (d1.trans d2) hp ⟨hl, fun x hx => ?_⟩⟩
        have := hb x hx
        omega
      · refine ⟨_, rfl, _, rfl, _, rfl, a, n, m, rfl, d1.dc, h1, h2, hm, fun p H2 ss d2 hp hsl hsb => ?_⟩
        refine ⟨_, rfl, _, rfl, a, n, 5, rfl, d2.dc, h1, h2, by decide, fun pw H3 ms d3 hw hml hok => ?_⟩
        refine ⟨p, pw, ss, ms, n, rfl, d3.kp.tup _ _ hp, hw, hok, hsl, by omega, fun p4 H4 k4 hp4 => ?_⟩
        refine q p4 H4 _ ((d1.trans d2).trans (d3.trans (.of d3.dc k4))) hp4 ⟨by rw [acts_len, hsl], fun x hx => ?_⟩
        have h3 := acts_lim ms (b := 10000) (fun x hx => by have := hsb x hx; omega) (by omega) x hx
        have h4 := pow5 hml
        have e5 : (5 : Int) ^ 5 = 3125 := by decide
        rw [e5] at h4
        rw [e30]
        generalize (5 : Int) ^ ms.length = z at h3 h4
        omega
def sp_l_any_row (K : PySem.W.Frag) : Sp := fun vs H Q _ => ∃ (a : Addr) (n : Nat), vs = [.ref a, .int n] ∧ Dc a H ∧ 3 ≤ n ∧ n ≤ 16 ∧ ∀ p H' (ns : List Int), DR a H H' → H' p = some (.tup (ns.map V.int)) → LimN n (10 ^ 60) ns → Q (.ref p) H'
/-! ### the mathematics of products -/
theorem big_lt : (10 : Int) ^ 60 < TL := by decide +kernel
theorem LimN.row {n : Nat} {b : Int} {r : List Int} (h : LimN n b r) (h1 : 3 ≤ n) (h2 : n ≤ 16) (hb : b < TL) : Row r := ⟨by have := h.1; omega, by have := h.1; omega, fun x hx => by
  have := h.2 x hx
  exact ⟨by omega, by omega⟩⟩
theorem limN_add {n : Nat} {b c : Int} {r s : List Int} (h : LimN n b r) (g : LimN n c s) : LimN n (b + c) (List.zipWith (· + ·) r s) := by
  have l1 := h.1
  have l2 := g.1
  refine ⟨by simp; omega, fun x hx => ?_⟩
  obtain ⟨i, hi, e⟩ := List.mem_iff_getElem.mp hx
  rw [List.getElem_zipWith] at e
  rw [List.length_zipWith] at hi
  have h3 := h.2 _ (List.getElem_mem (show i < r.length by omega))
  have h4 := g.2 _ (List.getElem_mem (show i < s.length by omega))
  omega
theorem abs_mul {a b x y : Int} (hx : -a ≤ x ∧ x ≤ a) (hy : -b ≤ y ∧ y ≤ b) : -(a * b) ≤ x * y ∧ x * y ≤ a * b := by
  have h1 : (x * y).natAbs ≤ a.toNat * b.toNat := by
    rw [Int.natAbs_mul]
    exact Nat.mul_le_mul (by omega) (by omega)
  have h2 : ((a.toNat * b.toNat : Nat) : Int) = a * b := by
    rw [Int.natCast_mul, Int.toNat_of_nonneg (by omega), Int.toNat_of_nonneg (by omega)]
  omega
theorem limN_mul {n : Nat} {b k c : Int} {r : List Int} (h : LimN n b r) (hc : -k ≤ c ∧ c ≤ k) : LimN n (k * b) (r.map (c * ·)) := by
  refine ⟨by rw [List.length_map]; exact h.1, fun x hx => ?_⟩
  obtain ⟨y, hy, rfl⟩ := List.mem_map.mp hx
  exact abs_mul hc (h.2 y hy)
theorem zw_comm (a b : List Int) : List.zipWith (· * ·) a b = List.zipWith (· * ·) b a := by
  induction a generalizing b with
  | nil => simp
  | cons x a ih =>
    cases b with
    | nil => rfl
    | cons y b => rw [List.zipWith_cons_cons, List.zipWith_cons_cons, ih, Int.mul_comm]
theorem dot_comm (r s : List Int) : dot r s = dot s r := by
  unfold dot
  rw [zw_comm, Int.mul_comm]
theorem zw_add (a b c : List Int) (h : b.length = a.length) : (List.zipWith (· * ·) (List.zipWith (· + ·) a b) c).sum = (List.zipWith (· * ·) a c).sum + (List.zipWith (· * ·) b c).sum := by
  induction a generalizing b c with
  | nil =>
    cases b with
    | nil => simp
    | cons y b => simp at h
  | cons x a ih =>
    cases b with
    | nil => simp at h
    | cons y b =>
      cases c with
      | nil => simp
      | cons z c =>
        simp only [List.zipWith_cons_cons, List.sum_cons]
        rw [ih b c (by simpa using h), Int.add_mul]
        omega
theorem cons_of {n : Nat} {r : List Int} (h : r.length = n + 1) : ∃ d m, r = d :: m ∧ m.length = n := by
  cases r with
  | nil => simp at h
  | cons d m => exact ⟨d, m, rfl, by simpa using h⟩
theorem dot_add {n : Nat} {r s t : List Int} (hr : r.length = n + 1) (hs : s.length = n + 1) : dot (List.zipWith (· + ·) r s) t = dot r t + dot s t := by
  obtain ⟨d, m, rfl, hm⟩ := cons_of hr
  obtain ⟨e, k, rfl, hk⟩ := cons_of hs
  show (d + e) * t.getD 0 0 - (List.zipWith (· * ·) (List.zipWith (· + ·) m k) (t.drop 1)).sum = (d * t.getD 0 0 - (List.zipWith (· * ·) m (t.drop 1)).sum) + (e * t.getD 0 0 - (List.zipWith (· * ·) k (t.drop 1)).sum)
  rw [zw_add _ _ _ (by omega), Int.add_mul]
  omega
theorem zw_mul (c : Int) (a b : List Int) : (List.zipWith (· * ·) (a.map (c * ·)) b).sum = c * (List.zipWith (· * ·) a b).sum := by
  induction a generalizing b with
  | nil => simp
  | cons x a ih =>
    cases b with
    | nil => simp
    | cons y b =>
      simp only [List.map_cons, List.zipWith_cons_cons, List.sum_cons]
      rw [ih, Int.mul_add, Int.mul_assoc]
theorem dot_mul {n : Nat} {r t : List Int} (c : Int) (hr : r.length = n + 1) : dot (r.map (c * ·)) t = c * dot r t := by
  obtain ⟨d, m, rfl, hm⟩ := cons_of hr
  show (c * d) * t.getD 0 0 - (List.zipWith (· * ·) (m.map (c * ·)) (t.drop 1)).sum = c * (d * t.getD 0 0 - (List.zipWith (· * ·) m (t.drop 1)).sum)
  rw [zw_mul, Int.mul_sub, Int.mul_assoc]
theorem sum_zadd (a b : List Int) (h : b.length = a.length) : (List.zipWith (· + ·) a b).sum = a.sum + b.sum := by
  induction a generalizing b with
  | nil =>
    cases b with
    | nil => simp
    | cons y b => simp at h
  | cons x a ih =>
    cases b with
    | nil => simp at h
    | cons y b =>
      simp only [List.zipWith_cons_cons, List.sum_cons]
      rw [ih b (by simpa using h)]
      omega
theorem cub_add {n : Nat} {r s : List Int} (hr : r.length = n + 1) (hs : s.length = n + 1) : cub (List.zipWith (· + ·) r s) = cub r + cub s := by
  obtain ⟨d, m, rfl, hm⟩ := cons_of hr
  obtain ⟨e, k, rfl, hk⟩ := cons_of hs
  show 3 * (d + e) - (List.zipWith (· + ·) m k).sum = (3 * d - m.sum) + (3 * e - k.sum)
  rw [sum_zadd _ _ (by omega)]
  omega
theorem sum_mul (c : Int) (a : List Int) : (a.map (c * ·)).sum = c * a.sum := by
  induction a with
  | nil => simp
  | cons x a ih => rw [List.map_cons, List.sum_cons, ih, List.sum_cons, Int.mul_add]
theorem cub_mul {n : Nat} {r : List Int} (c : Int) (hr : r.length = n + 1) : cub (r.map (c * ·)) = c * cub r := by
  obtain ⟨d, m, rfl, hm⟩ := cons_of hr
  show 3 * (c * d) - (m.map (c * ·)).sum = c * (3 * d - m.sum)
  rw [sum_mul, Int.mul_sub, ← Int.mul_assoc, ← Int.mul_assoc, Int.mul_comm 3 c]
theorem sq_par (x : Int) : (x * x) % 2 = x % 2 := by
  rcases (show x % 2 = 0 ∨ x % 2 = 1 by omega) with h | h <;> rw [Int.mul_emod, h] <;> rfl
theorem zw_par (m : List Int) : (List.zipWith (· * ·) m m).sum % 2 = m.sum % 2 := by
  induction m with
  | nil => rfl
  | cons x m ih =>
    simp only [List.zipWith_cons_cons, List.sum_cons]
    have := sq_par x
    omega
theorem par {n : Nat} {r : List Int} (hr : r.length = n + 1) : (dot r r + cub r) % 2 = 0 := by
  obtain ⟨d, m, rfl, hm⟩ := cons_of hr
  show (d * d - (List.zipWith (· * ·) m m).sum + (3 * d - m.sum)) % 2 = 0
  have h1 := sq_par d
  have h2 := zw_par m
  omega
theorem two_cntg {n : Nat} {r : List Int} (hr : r.length = n + 1) : 2 * cntg r = dot r r + cub r + 2 := by
  have := par hr
  unfold cntg
  omega
theorem two_gen {n : Nat} {r : List Int} (hr : r.length = n + 1) : 2 * gen r = dot r r - cub r + 2 := by
  have := par hr
  unfold gen
  omega
theorem dot_both {n : Nat} {r s : List Int} (hr : r.length = n + 1) (hs : s.length = n + 1) : dot (List.zipWith (· + ·) r s) (List.zipWith (· + ·) r s) = dot r r + dot s s + 2 * dot r s := by
  rw [dot_add hr hs, dot_comm r, dot_comm s, dot_add hr hs, dot_add hr hs, dot_comm s r]
  omega
theorem len_add {n : Nat} {r s : List Int} (hr : r.length = n + 1) (hs : s.length = n + 1) : (List.zipWith (· + ·) r s).length = n + 1 := by simp; omega
theorem cntg_both {n : Nat} {r s : List Int} (hr : r.length = n + 1) (hs : s.length = n + 1) : cntg (List.zipWith (· + ·) r s) = cntg r + cntg s + dot r s - 1 := by
  have h1 := two_cntg (len_add hr hs)
  have h2 := two_cntg hr
  have h3 := two_cntg hs
  rw [dot_both hr hs, cub_add hr hs] at h1
  omega
theorem gen_both {n : Nat} {r s : List Int} (hr : r.length = n + 1) (hs : s.length = n + 1) : gen (List.zipWith (· + ·) r s) = gen r + gen s + dot r s - 1 := by
  have h1 := two_gen (len_add hr hs)
  have h2 := two_gen hr
  have h3 := two_gen hs
  rw [dot_both hr hs, cub_add hr hs] at h1
  omega
theorem dot_cc {n : Nat} {r : List Int} (c : Int) (hr : r.length = n + 1) : dot (r.map (c * ·)) (r.map (c * ·)) = c * c * dot r r := by
  rw [dot_mul c hr, dot_comm r, dot_mul c hr, Int.mul_assoc]
theorem cntg_more {n : Nat} {r : List Int} (c : Int) (hr : r.length = n + 1) : 2 * cntg (r.map (c * ·)) = c * c * dot r r + c * cub r + 2 := by
  rw [two_cntg (n := n) (by rw [List.length_map, hr]), dot_cc c hr, cub_mul c hr]
theorem gen_more {n : Nat} {r : List Int} (c : Int) (hr : r.length = n + 1) : cntg (r.map (c * ·)) - gen (r.map (c * ·)) = c * cub r := by
  have h1 := two_cntg (n := n) (r := r.map (c * ·)) (by rw [List.length_map, hr])
  have h2 := two_gen (n := n) (r := r.map (c * ·)) (by rw [List.length_map, hr])
  rw [cub_mul c hr] at h1 h2
  omega
theorem sub_add (r s : List Int) (h : s.length = r.length) : List.zipWith (· - ·) (List.zipWith (· + ·) r s) s = r := by
  refine List.ext_getElem (by simp; omega) fun i h1 h2 => ?_
  rw [List.getElem_zipWith, List.getElem_zipWith]
  omega
theorem sub_self (r : List Int) : List.zipWith (· - ·) r r = List.replicate r.length 0 := by
  refine List.ext_getElem (by simp) fun i h1 h2 => ?_
  simp
theorem zw_zero (m : List Int) (n : Nat) : (List.zipWith (· * ·) m (List.replicate n 0)).sum = 0 := by
  induction m generalizing n with
  | nil => simp
  | cons x m ih =>
    cases n with
    | zero => simp
    | succ n =>
      rw [List.replicate_succ, List.zipWith_cons_cons, List.sum_cons, ih]
      simp
theorem dot_lrow {n : Nat} (r : List Int) : dot r (lrow n) = r.getD 0 0 := by
  show r.getD 0 0 * 1 - (List.zipWith (· * ·) (r.drop 1) (List.replicate n 0)).sum = _
  rw [zw_zero]
  omega
theorem zw_pt (m : List Int) (i k : Nat) : (List.zipWith (· * ·) m ((List.range m.length).map fun j => 0 - (if k + j = i then (1 : Int) else 0))).sum = if k ≤ i then 0 - m.getD (i - k) 0 else 0 := by
  induction m generalizing k with
  | nil => simp
  | cons x m ih =>
    rw [List.length_cons, List.range_succ_eq_map, List.map_cons, List.map_map, List.zipWith_cons_cons, List.sum_cons]
    have e : ((fun j => 0 - (if k + j = i then (1 : Int) else 0)) ∘ Nat.succ) = fun j => 0 - (if (k + 1) + j = i then (1 : Int) else 0) := by
      funext j
      show 0 - (if k + (j + 1) = i then (1 : Int) else 0) = _
      rw [show k + (j + 1) = k + 1 + j by omega]
    rw [e, ih (k + 1)]
    by_cases h : k = i
    · subst h
      simp
      rw [if_neg (by omega)]
      omega
    · rw [if_neg (by omega)]
      by_cases h2 : k ≤ i
      · rw [if_pos (by omega), if_pos h2, show i - k = (i - (k + 1)) + 1 by omega]
        simp
      · rw [if_neg (by omega), if_neg h2]
        simp
theorem dot_prow {n i : Nat} {r : List Int} (hr : r.length = n + 1) : dot r (prow n i) = r.getD (1 + i) 0 := by
  obtain ⟨d, m, rfl, rfl⟩ := cons_of hr
  show d * 0 - (List.zipWith (· * ·) m ((List.range m.length).map fun j => 0 - (if j = i then (1 : Int) else 0))).sum = _
  have := zw_pt m i 0
  simp only [Nat.zero_add] at this
  rw [this, if_pos (by omega), show 1 + i = i + 1 by omega]
  show d * 0 - (0 - m.getD i 0) = m.getD i 0
  omega
theorem lrow_row {n : Nat} (h1 : 3 ≤ n) (h2 : n ≤ 16) : Row (lrow n) := by
  refine ⟨by simp [lrow]; omega, by simp [lrow]; omega, fun x hx => ?_⟩
  rcases List.mem_cons.mp hx with rfl | hx
  · exact sh_small (by decide) (by decide)
  · rw [List.eq_of_mem_replicate hx]
    exact sh_small (by decide) (by decide)
theorem prow_row {n i : Nat} (h1 : 3 ≤ n) (h2 : n ≤ 16) : Row (prow n i) := by
  refine ⟨by rw [prow_len]; omega, by rw [prow_len]; omega, fun x hx => ?_⟩
  have := prow_ent x hx
  exact sh_small (by omega) (by omega)
theorem zw_lim (p k : Int) : ∀ (a b : List Int), (∀ x ∈ a, -p ≤ x ∧ x ≤ p) → (∀ y ∈ b, -k ≤ y ∧ y ≤ k) → -((a.length : Int) * (p * k)) ≤ (List.zipWith (· * ·) a b).sum ∧ (0 ≤ p * k → (List.zipWith (· * ·) a b).sum ≤ (a.length : Int) * (p * k)) ∧ (0 ≤ p * k → -((a.length : Int) * (p * k)) ≤ (List.zipWith (· * ·) a b).sum) ∨ p * k < 0
  | [], b, _, _ => by simp
  | x :: a, [], _, _ => by
    by_cases h : p * k < 0
    · exact .inr h
    · have : 0 ≤ ((x :: a).length : Int) * (p * k) := Int.mul_nonneg (by omega) (by omega)
      refine .inl ⟨?_, fun _ => ?_, fun _ => ?_⟩ <;> simp <;> simp at this <;> omega
  | x :: a, y :: b, ha, hb => by
    rcases zw_lim p k a b (fun z hz => ha z (List.mem_cons_of_mem _ hz)) (fun z hz => hb z (List.mem_cons_of_mem _ hz)) with ih | ih
    · have h := abs_mul (ha x List.mem_cons_self) (hb y List.mem_cons_self)
      have h0 : 0 ≤ p * k := by omega
      have i1 := ih.1
      have i2 := ih.2.1 h0
      have e : (((x :: a).length : Nat) : Int) * (p * k) = (a.length : Int) * (p * k) + p * k := by
        rw [List.length_cons]
        push_cast
        rw [Int.add_mul, Int.one_mul]
      rw [e, List.zipWith_cons_cons, List.sum_cons]
      exact .inl ⟨by omega, fun _ => by omega, fun _ => by omega⟩
    · exact .inr ih
theorem dot_w {n : Nat} {r t : List Int} (hr : LimN n (10 ^ 60) r) (ht : LimN n (10 ^ 60) t) (h2 : n ≤ 16) : (dot r t).natAbs < 2 ^ 700 := by
  obtain ⟨d, m, rfl, hm⟩ := cons_of hr.1
  obtain ⟨e, k, rfl, hk⟩ := cons_of ht.1
  show (d * e - (List.zipWith (· * ·) m k).sum).natAbs < 2 ^ 700
  have e0 : (10 : Int) ^ 60 * 10 ^ 60 = 10 ^ 120 := by decide +kernel
  have h := abs_mul (hr.2 d List.mem_cons_self) (ht.2 e List.mem_cons_self)
  have z := zw_lim (10 ^ 60) (10 ^ 60) m k (fun x hx => hr.2 x (List.mem_cons_of_mem _ hx)) (fun x hx => ht.2 x (List.mem_cons_of_mem _ hx))
  rw [e0] at h z
  have p0 : (0 : Int) ≤ 10 ^ 120 := by decide +kernel
  rcases z with z | z
  · have z1 := z.1
    have z2 := z.2.1 p0
    have h3 : (m.length : Int) * 10 ^ 120 ≤ 16 * 10 ^ 120 := Int.mul_le_mul_of_nonneg_right (by omega) p0
    have h4 : ((17 : Int) * 10 ^ 120).natAbs < 2 ^ 700 := by decide +kernel
    omega
  · omega
theorem sum_lim (p : Int) : ∀ a : List Int, (∀ x ∈ a, -p ≤ x ∧ x ≤ p) → -((a.length : Int) * p) ≤ a.sum ∧ a.sum ≤ (a.length : Int) * p
  | [], _ => by simp
  | x :: a, h => by
    have ih := sum_lim p a fun z hz => h z (List.mem_cons_of_mem _ hz)
    have h1 := h x List.mem_cons_self
    have e : (((x :: a).length : Nat) : Int) * p = (a.length : Int) * p + p := by
      rw [List.length_cons]
      push_cast
      rw [Int.add_mul, Int.one_mul]
    rw [e, List.sum_cons]
    omega
theorem cub_w {n : Nat} {r : List Int} (hr : LimN n (10 ^ 60) r) (h2 : n ≤ 16) : (cub r).natAbs < 2 ^ 700 := by
  obtain ⟨d, m, rfl, hm⟩ := cons_of hr.1
  show (3 * d - m.sum).natAbs < 2 ^ 700
  have h := hr.2 d List.mem_cons_self
  have z := sum_lim (10 ^ 60) m (fun x hx => hr.2 x (List.mem_cons_of_mem _ hx))
  have p0 : (0 : Int) ≤ 10 ^ 60 := by decide +kernel
  have h3 : (m.length : Int) * 10 ^ 60 ≤ 16 * 10 ^ 60 := Int.mul_le_mul_of_nonneg_right (by omega) p0
  have h4 : ((19 : Int) * 10 ^ 60).natAbs < 2 ^ 700 := by decide +kernel
  omega
theorem cc_w {c : Int} (hc : -(10 ^ 41) ≤ c ∧ c ≤ 10 ^ 41) : (c * c).natAbs < 2 ^ 700 := by
  have h := abs_mul hc hc
  have h4 : ((10 : Int) ^ 41 * 10 ^ 41).natAbs < 2 ^ 700 := by decide +kernel
  omega
theorem drop_range {n : Nat} {r : List Int} (hr : r.length = n + 1) : (List.range n).map (fun i => r.getD (1 + i) 0) = r.drop 1 := by
  refine List.ext_getElem (by simp; omega) fun i h1 h2 => ?_
  simp at h1
  have e : 1 + i = i + 1 := by omega
  simp [List.getD_eq_getElem?_getD, e, show i + 1 < r.length by omega]

/-! ### what moves keep -/
theorem zsum_set (a b : List Int) (i : Nat) (x y : Int) (h1 : i < a.length) (h2 : i < b.length) : (List.zipWith (· * ·) (a.set i x) (b.set i y)).sum = (List.zipWith (· * ·) a b).sum - a.getD i 0 * b.getD i 0 + x * y := by
  induction a generalizing b i with
  | nil => simp at h1
  | cons u a ih =>
    cases b with
    | nil => simp at h2
    | cons v b =>
      cases i with
      | zero =>
        show x * y + (List.zipWith (· * ·) a b).sum = u * v + (List.zipWith (· * ·) a b).sum - u * v + x * y
        omega
      | succ i =>
        have := ih b i (by simpa using h1) (by simpa using h2)
        show u * v + (List.zipWith (· * ·) (a.set i x) (b.set i y)).sum = u * v + (List.zipWith (· * ·) a b).sum - a.getD i 0 * b.getD i 0 + x * y
        omega
theorem sum_set (a : List Int) (i : Nat) (x : Int) (h : i < a.length) : (a.set i x).sum = a.sum - a.getD i 0 + x := by
  induction a generalizing i with
  | nil => simp at h
  | cons u a ih =>
    cases i with
    | zero =>
      show x + a.sum = u + a.sum - u + x
      omega
    | succ i =>
      have := ih i (by simpa using h)
      show u + (a.set i x).sum = u + a.sum - a.getD i 0 + x
      omega
theorem getD_set_ne (l : List Int) (i j : Nat) (v : Int) (h : i ≠ j) : (l.set i v).getD j 0 = l.getD j 0 := by
  rw [List.getD_eq_getElem?_getD, List.getD_eq_getElem?_getD, List.getElem?_set_ne h]
theorem getD_set_eq (l : List Int) (i : Nat) (v : Int) (h : i < l.length) : (l.set i v).getD i 0 = v := by
  rw [List.getD_eq_getElem?_getD, List.getElem?_set_self h]
  rfl
theorem act_sw (d : Int) (m : List Int) (i j : Nat) : act (d :: m) (.sw i j) = d :: (m.set i (m.getD j 0)).set j (m.getD i 0) := by
  show ((d :: m).set (1 + i) ((d :: m).getD (1 + j) 0)).set (1 + j) ((d :: m).getD (1 + i) 0) = _
  rw [show 1 + i = i + 1 by omega, show 1 + j = j + 1 by omega]
  rfl
theorem act_tn (d : Int) (m : List Int) (i j k : Nat) (c : Int) (hc : c = d - m.getD i 0 - m.getD j 0 - m.getD k 0) : act (d :: m) (.tn i j k) = (d + c) :: ((m.set i (m.getD i 0 + c)).set j (m.getD j 0 + c)).set k (m.getD k 0 + c) := by
  subst hc
  unfold act
  simp only
  rw [show 1 + i = i + 1 by omega, show 1 + j = j + 1 by omega, show 1 + k = k + 1 by omega]
  rfl
theorem dot_cons (d f : Int) (a b : List Int) : dot (d :: a) (f :: b) = d * f - (List.zipWith (· * ·) a b).sum := rfl
theorem dot_act {n : Nat} {r s : List Int} (m : Mv) (h : MvOk n m) (hr : r.length = n + 1) (hs : s.length = n + 1) : dot (act r m) (act s m) = dot r s := by
  obtain ⟨d, a, rfl, ha⟩ := cons_of hr
  obtain ⟨f, b, rfl, hb⟩ := cons_of hs
  cases m with
  | sw i j =>
    obtain ⟨h1, h2⟩ := h
    rw [act_sw, act_sw, dot_cons, dot_cons]
    rw [zsum_set _ _ _ _ _ (by rw [List.length_set]; omega) (by rw [List.length_set]; omega), zsum_set _ _ _ _ _ (by omega) (by omega), getD_set_ne _ _ _ _ (by omega), getD_set_ne _ _ _ _ (by omega)]
    omega
  | tn i j k =>
    obtain ⟨h1, h2, h3⟩ := h
    generalize hc : d - a.getD i 0 - a.getD j 0 - a.getD k 0 = c
    generalize he : f - b.getD i 0 - b.getD j 0 - b.getD k 0 = e
    rw [act_tn _ _ _ _ _ c hc.symm, act_tn _ _ _ _ _ e he.symm, dot_cons, dot_cons]
    rw [zsum_set _ _ _ _ _ (by rw [List.length_set, List.length_set]; omega) (by rw [List.length_set, List.length_set]; omega), zsum_set _ _ _ _ _ (by rw [List.length_set]; omega) (by rw [List.length_set]; omega), zsum_set _ _ _ _ _ (by omega) (by omega)]
    rw [getD_set_ne _ _ k _ (show j ≠ k by omega), getD_set_ne _ _ k _ (show i ≠ k by omega), getD_set_ne _ _ j _ (show i ≠ j by omega)]
    rw [getD_set_ne _ _ k _ (show j ≠ k by omega), getD_set_ne _ _ k _ (show i ≠ k by omega), getD_set_ne _ _ j _ (show i ≠ j by omega)]
    have e1 : c * e = d * e - a.getD i 0 * e - a.getD j 0 * e - a.getD k 0 * e := by rw [← hc, Int.sub_mul, Int.sub_mul, Int.sub_mul]
    have e2 : c * e = c * f - c * b.getD i 0 - c * b.getD j 0 - c * b.getD k 0 := by rw [← he, Int.mul_sub, Int.mul_sub, Int.mul_sub]
    simp only [Int.add_mul, Int.mul_add]
    omega
theorem cub_act {n : Nat} {r : List Int} (m : Mv) (h : MvOk n m) (hr : r.length = n + 1) : cub (act r m) = cub r := by
  obtain ⟨d, a, rfl, ha⟩ := cons_of hr
  cases m with
  | sw i j =>
    obtain ⟨h1, h2⟩ := h
    rw [act_sw]
    show 3 * d - (List.set _ _ _).sum = 3 * d - a.sum
    rw [sum_set _ _ _ (by rw [List.length_set]; omega), sum_set _ _ _ (by omega), getD_set_ne _ _ _ _ (by omega)]
    omega
  | tn i j k =>
    obtain ⟨h1, h2, h3⟩ := h
    generalize hc : d - a.getD i 0 - a.getD j 0 - a.getD k 0 = c
    rw [act_tn _ _ _ _ _ c hc.symm]
    show 3 * (d + c) - (List.set _ _ _).sum = 3 * d - a.sum
    rw [sum_set _ _ _ (by rw [List.length_set, List.length_set]; omega), sum_set _ _ _ (by rw [List.length_set]; omega), sum_set _ _ _ (by omega), getD_set_ne _ _ k _ (show j ≠ k by omega), getD_set_ne _ _ k _ (show i ≠ k by omega), getD_set_ne _ _ j _ (show i ≠ j by omega)]
    omega
theorem act_act {n : Nat} {r : List Int} (m : Mv) (h : MvOk n m) (hr : r.length = n + 1) : act (act r m) m = r := by
  obtain ⟨d, a, rfl, ha⟩ := cons_of hr
  cases m with
  | sw i j =>
    obtain ⟨h1, h2⟩ := h
    rw [act_sw, act_sw]
    congr 1
    rw [getD_set_eq _ j _ (by rw [List.length_set]; omega), getD_set_ne _ j i _ (by omega), getD_set_eq _ i _ (by omega)]
    refine List.ext_getElem (by simp) fun k k1 k2 => ?_
    simp only [List.getElem_set]
    by_cases e1 : j = k
    · subst e1
      rw [if_pos rfl, List.getD_eq_getElem?_getD, List.getElem?_eq_getElem k2]
      rfl
    · by_cases e2 : i = k
      · subst e2
        rw [if_neg e1, if_pos rfl, List.getD_eq_getElem?_getD, List.getElem?_eq_getElem k2]
        rfl
      · rw [if_neg e1, if_neg e2, if_neg e1, if_neg e2]
  | tn i j k =>
    obtain ⟨h1, h2, h3⟩ := h
    generalize hc : d - a.getD i 0 - a.getD j 0 - a.getD k 0 = c
    rw [act_tn _ _ _ _ _ c hc.symm]
    generalize hb : ((a.set i (a.getD i 0 + c)).set j (a.getD j 0 + c)).set k (a.getD k 0 + c) = b
    have bi : b.getD i 0 = a.getD i 0 + c := by rw [← hb, getD_set_ne _ k i _ (by omega), getD_set_ne _ j i _ (by omega), getD_set_eq _ i _ (by omega)]
    have bj : b.getD j 0 = a.getD j 0 + c := by rw [← hb, getD_set_ne _ k j _ (by omega), getD_set_eq _ j _ (by rw [List.length_set]; omega)]
    have bk : b.getD k 0 = a.getD k 0 + c := by rw [← hb, getD_set_eq _ k _ (by rw [List.length_set, List.length_set]; omega)]
    rw [act_tn _ b i j k (-c) (by omega), bi, bj, bk, show d + c + -c = d by omega, show a.getD i 0 + c + -c = a.getD i 0 by omega, show a.getD j 0 + c + -c = a.getD j 0 by omega, show a.getD k 0 + c + -c = a.getD k 0 by omega]
    congr 1
    refine List.ext_getElem (by rw [← hb]; simp) fun q q1 q2 => ?_
    have ga : ∀ x, x = q → a.getD x 0 = a[q] := fun x hx => by
      subst hx
      rw [List.getD_eq_getElem?_getD, List.getElem?_eq_getElem q2]
      rfl
    simp only [List.getElem_set, ← hb]
    by_cases e1 : k = q
    · rw [if_pos e1]
      exact ga k e1
    · by_cases e2 : j = q
      · rw [if_neg e1, if_pos e2]
        exact ga j e2
      · by_cases e3 : i = q
        · rw [if_neg e1, if_neg e2, if_pos e3]
          exact ga i e3
        · rw [if_neg e1, if_neg e2, if_neg e3, if_neg e1, if_neg e2, if_neg e3]
theorem acts_append (r : List Int) (ms ws : List Mv) : acts r (ms ++ ws) = acts (acts r ms) ws := by
  unfold acts
  rw [List.foldl_append]
theorem dot_acts {n : Nat} (ms : List Mv) : ∀ {r s : List Int}, (∀ m ∈ ms, MvOk n m) → r.length = n + 1 → s.length = n + 1 → dot (acts r ms) (acts s ms) = dot r s := by
  induction ms with
  | nil => intro r s _ _ _; rfl
  | cons m ms ih =>
    intro r s h hr hs
    show dot (acts (act r m) ms) (acts (act s m) ms) = _
    rw [ih (fun x hx => h x (List.mem_cons_of_mem _ hx)) (by rw [act_len, hr]) (by rw [act_len, hs]), dot_act m (h m List.mem_cons_self) hr hs]
theorem cub_acts {n : Nat} (ms : List Mv) : ∀ {r : List Int}, (∀ m ∈ ms, MvOk n m) → r.length = n + 1 → cub (acts r ms) = cub r := by
  induction ms with
  | nil => intro r _ _; rfl
  | cons m ms ih =>
    intro r h hr
    show cub (acts (act r m) ms) = _
    rw [ih (fun x hx => h x (List.mem_cons_of_mem _ hx)) (by rw [act_len, hr]), cub_act m (h m List.mem_cons_self) hr]
theorem cntg_acts {n : Nat} (ms : List Mv) {r : List Int} (h : ∀ m ∈ ms, MvOk n m) (hr : r.length = n + 1) : cntg (acts r ms) = cntg r := by
  unfold cntg
  rw [dot_acts ms h hr hr, cub_acts ms h hr]
theorem acts_back {n : Nat} (ms : List Mv) : ∀ {r : List Int}, (∀ m ∈ ms, MvOk n m) → r.length = n + 1 → acts (acts r ms) ms.reverse = r := by
  induction ms with
  | nil => intro r _ _; rfl
  | cons m ms ih =>
    intro r h hr
    rw [List.reverse_cons, acts_append]
    show acts (acts (acts (act r m) ms) ms.reverse) [m] = r
    rw [ih (fun x hx => h x (List.mem_cons_of_mem _ hx)) (by rw [act_len, hr])]
    exact act_act m (h m List.mem_cons_self) hr
theorem acts_fore {n : Nat} (ms : List Mv) {r : List Int} (h : ∀ m ∈ ms, MvOk n m) (hr : r.length = n + 1) : acts r (ms.reverse ++ ms) = r := by
  rw [acts_append]
  have := acts_back ms.reverse (n := n) (r := r) (fun m hm => h m (List.mem_reverse.mp hm)) hr
  rw [List.reverse_reverse] at this
  exact this
theorem far_lt : (10 : Int) ^ 80 < TL := by decide +kernel
theorem acts_limN {n : Nat} {r : List Int} {ms : List Mv} (h : LimN n (10 ^ 60) r) (hl : ms.length ≤ 28) : LimN n (10 ^ 80) (acts r ms) := by
  refine ⟨by rw [acts_len, h.1], fun x hx => ?_⟩
  have h3 := acts_lim ms h.2 (by decide) x hx
  have h4 := pow5 hl
  have h5 : (5 : Int) ^ ms.length * 10 ^ 60 ≤ 5 ^ 28 * 10 ^ 60 := Int.mul_le_mul_of_nonneg_right h4 (by decide)
  have h6 : (5 : Int) ^ 28 * 10 ^ 60 ≤ 10 ^ 80 := by decide +kernel
  omega

/-! ### words as data, and the program's moves -/
def Mv.idx : Mv → List Int
  | .sw i j => [(i : Int), (j : Int)]
  | .tn i j k => [(i : Int), (j : Int), (k : Int)]
def Mv.nm : Mv → Str
  | .sw _ _ => "swap"
  | .tn _ _ _ => "turn"
theorem Mv.val_eq (m : Mv) : m.val = V.str m.nm :: m.idx.map V.int := by cases m <;> rfl
theorem val_cut1 (m : Mv) : cutV m.val (some 1) none = m.idx.map V.int := by
  rw [show (some (1 : Int)) = some ((1 : Nat) : Int) from rfl, cut_from]
  cases m <;> rfl
theorem val_cut2 (m : Mv) : cutV m.val (some 2) none = (m.idx.drop 1).map V.int := by
  rw [show (some (2 : Int)) = some ((2 : Nat) : Int) from rfl, cut_from]
  cases m <;> rfl
def Mv.dt (m : Mv) : PyData := .tuple (.str m.nm :: di m.idx)
theorem Mv.dp {H : Hp} {p : Addr} {m : Mv} (h : H p = some (.tup m.val)) : Dp K H (.ref p) m.dt := by
  rw [Mv.val_eq] at h
  exact .tup (SqT.of h) (.cons (.str _) (dpAll_ints _))
def dms (ms : List Mv) : List PyData := ms.map Mv.dt
theorem Mvs.dp {H : Hp} : ∀ {vs : List V} {ms : List Mv}, Mvs H vs ms → DpAll K H vs (dms ms)
  | [], [], _ => .nil
  | _ :: _, _ :: _, ⟨⟨p, e, h⟩, t⟩ => by
    subst e
    exact .cons (Mv.dp h) (Mvs.dp t)
theorem canLay_mv (m : Mv) : m.dt.canLay0 = true := by
  have h1 := canLay_di m.idx
  have h2 : PyData.strOk m.nm = true := by
    cases m with
    | sw i j => exact (by decide +kernel : PyData.strOk "swap" = true)
    | tn i j k => exact (by decide +kernel : PyData.strOk "turn" = true)
  simp only [Mv.dt, PyData.canLay0, PyData.canLayAll0, h1, h2, Bool.and_true]
theorem canLay_dms : ∀ ms : List Mv, PyData.canLayAll0 (dms ms) = true
  | [] => by simp [dms, PyData.canLayAll0]
  | m :: r => by
    have h1 := canLay_dms r
    have h2 := canLay_mv m
    simp only [dms, List.map_cons, PyData.canLayAll0, h2, Bool.true_and] at h1 ⊢
    exact h1
theorem depth_dms : ∀ ms : List Mv, PyData.depthAll (dms ms) ≤ 6
  | [] => by simp [dms, PyData.depthAll]
  | m :: r => by
    have h1 := depth_dms r
    have h2 := depth_di m.idx
    simp only [dms, Mv.dt, List.map_cons, PyData.depthAll, PyData.depth] at h1 ⊢
    omega
theorem shaped_word (ms : List Mv) : SeqAt.shaped (.tuple (dms ms)) = true := by
  have h1 := canLay_dms ms
  have h2 := depth_dms ms
  unfold SeqAt.shaped
  rw [Bool.and_eq_true]
  exact ⟨by simpa [PyData.canLay0] using h1, decide_eq_true (by simp only [PyData.depth]; omega)⟩
theorem neWord {H : Hp} {a b : Addr} {ms : List Mv} {Q : VK} (h1 : Wd H a ms) (h2 : Wd H b ms) (q : Q (.bl false) H) : rNeI K (.ref a) (.ref b) H Q := by
  obtain ⟨vs, h1, m1⟩ := h1
  obtain ⟨ws, h2, m2⟩ := h2
  unfold rNeI
  refine ⟨_, _, .tup (SqT.of h1) m1.dp, .tup (SqT.of h2) m2.dp, shaped_word ms, shaped_word ms, ?_⟩
  rw [SeqAt.eqv_refl _ (SeqAt.canLay_of_shaped (shaped_word ms))]
  exact q
theorem Mvs.rev {H : Hp} : ∀ {vs : List V} {ms : List Mv}, Mvs H vs ms → Mvs H vs.reverse ms.reverse
  | [], [], _ => trivial
  | v :: vs, m :: ms, ⟨x, t⟩ => by
    rw [List.reverse_cons, List.reverse_cons]
    exact Mvs.app (Mvs.rev t) ⟨x, trivial⟩
theorem idx_ok {n : Nat} {m : Mv} (h : MvOk n m) : (∀ x ∈ m.idx, 0 ≤ x ∧ x ≤ (n : Int) - 1) ∧ ∀ i, 1 + i < m.idx.length → m.idx.getD i 0 < m.idx.getD (1 + i) 0 := by
  cases m with
  | sw i j =>
    obtain ⟨h1, h2⟩ := h
    refine ⟨fun x hx => ?_, fun t ht => ?_⟩
    · simp only [Mv.idx, List.mem_cons, List.not_mem_nil, or_false] at hx
      omega
    · simp only [Mv.idx, List.length_cons, List.length_nil] at ht
      have : t = 0 := by omega
      subst this
      show (i : Int) < (j : Int)
      omega
  | tn i j k =>
    obtain ⟨h1, h2, h3⟩ := h
    refine ⟨fun x hx => ?_, fun t ht => ?_⟩
    · simp only [Mv.idx, List.mem_cons, List.not_mem_nil, or_false] at hx
      omega
    · simp only [Mv.idx, List.length_cons, List.length_nil] at ht
      rcases (show t = 0 ∨ t = 1 by omega) with rfl | rfl
      · show (i : Int) < (j : Int)
        omega
      · show (j : Int) < (k : Int)
        omega
theorem idx_len (m : Mv) : m.idx.length ≤ 3 := by cases m <;> simp [Mv.idx]
theorem iteNo {x y : V} {A B : Prop} (h : x ≠ y) (b : B) : if decide (x = y) = true then A else B := by
  rw [decide_eq_false h]
  exact iteF b
/-- what stands in a spoilt word's last place -/
def BadM (n : Nat) (H : Hp) (v : V) : Prop := v = .non ∨ (∃ p vs ms, v = .ref p ∧ H p = some (.tup vs) ∧ Mvs H vs ms) ∨ (∃ p, v = .ref p ∧ H p = some (.tup [.str "swap", .int 1, .int 0])) ∨
  (∃ p, v = .ref p ∧ H p = some (.tup [.str "turn", .int 0, .int 1, .int n])) ∨ (∃ p, v = .ref p ∧ H p = some (.tup [.str "off", .int 0])) ∨ ∃ p, v = .ref p ∧ H p = some (.tup [.str "swap", .bl true, .int 2])
theorem BadM.kp {S : Addr → Prop} {n : Nat} {H H1 : Hp} {v : V} (k : Kp S H H1) (h : BadM n H v) : BadM n H1 v := by
  rcases h with h | ⟨p, vs, ms, e, h, m⟩ | ⟨p, e, h⟩ | ⟨p, e, h⟩ | ⟨p, e, h⟩ | ⟨p, e, h⟩
  · exact .inl h
  · exact .inr (.inl ⟨p, vs, ms, e, k.tup _ _ h, m.kp k⟩)
  · exact .inr (.inr (.inl ⟨p, e, k.tup _ _ h⟩))
  · exact .inr (.inr (.inr (.inl ⟨p, e, k.tup _ _ h⟩)))
  · exact .inr (.inr (.inr (.inr (.inl ⟨p, e, k.tup _ _ h⟩))))
  · exact .inr (.inr (.inr (.inr (.inr ⟨p, e, k.tup _ _ h⟩))))
theorem shaped_str {x : Str} (h : PyData.strOk x = true) : SeqAt.shaped (.str x) = true := by
  unfold SeqAt.shaped
  rw [Bool.and_eq_true]
  exact ⟨by simpa [PyData.canLay0] using h, by simp [PyData.depth]⟩
theorem shaped_mv (m : Mv) : SeqAt.shaped m.dt = true := by
  have h1 := canLay_mv m
  have h2 := depth_di m.idx
  unfold SeqAt.shaped
  rw [Bool.and_eq_true]
  exact ⟨h1, decide_eq_true (by simp only [Mv.dt, PyData.depth, PyData.depthAll]; omega)⟩
theorem iteFB {b : Bool} {A B : Prop} (h : b = false) (x : B) : if b = true then A else B := by
  rw [h]
  exact iteF x
theorem iteTB {b : Bool} {A B : Prop} (h : b = true) (x : A) : if b = true then A else B := by
  rw [h]
  exact iteT x
theorem ok_sw : PyData.strOk "swap" = true := by decide +kernel
theorem ok_tn : PyData.strOk "turn" = true := by decide +kernel
theorem neSS {x y : Str} {H : Hp} {Q : VK} (hx : PyData.strOk x = true) (hy : PyData.strOk y = true) (q : Q (.bl (!(x == y))) H) : rNeI K (.str x) (.str y) H Q := by
  unfold rNeI
  refine ⟨_, _, .str x, .str y, shaped_str hx, shaped_str hy, ?_⟩
  rw [show PyData.eqv (.str x) (.str y) = (x == y) by rw [PyData.eqv]]
  exact q
theorem neMS {p : Addr} {m : Mv} {y : Str} {H : Hp} {Q : VK} (hp : H p = some (.tup m.val)) (hy : PyData.strOk y = true) (q : Q (.bl true) H) : rNeI K (.ref p) (.str y) H Q := by
  unfold rNeI
  refine ⟨_, _, Mv.dp hp, .str y, shaped_mv m, shaped_str hy, ?_⟩
  rw [show PyData.eqv m.dt (.str y) = false by unfold Mv.dt; rw [PyData.eqv] <;> simp]
  exact q
def sp_is_move (K : PySem.W.Frag) : Sp := fun vs H Q _ => ∃ (n : Nat) (v : V), vs = [.int n, v] ∧ n ≤ 16 ∧ ((∃ p m, v = .ref p ∧ H p = some (.tup m.val) ∧ MvOk n m ∧ ∀ H', Kp N0 H H' → Q (.bl true) H') ∨ (3 ≤ n ∧ BadM n H v ∧ ∀ H', Kp N0 H H' → Q (.bl false) H'))
theorem ok_is_move (T : Txt K mg) (D : Df K mg "is_move" s_is_move ["n", "value"]) (c_is_from_to : C8.Cal P w K mg base 3 "is_from_to" (sp_is_from_to) []) : C8.Cal P w K mg base 4 "is_move" (sp_is_move K) [] := by
  obtain ⟨f, fd, D, hb⟩ := D
  refine C8.cal0 D (.all hb) .nil sc_is_move (fun vs H Q E h => ?_) (fun cdv A outer s H vs Q E hr h => ?_)
  · obtain ⟨_, _, rfl, _⟩ := h; rfl
  · obtain ⟨n, v, rfl, hn, h⟩ := h
    refine ⟨_, (pss_cons (ps_if (PW.pt (pw_or (pt_not (pt_val (pe_callB (callK (K := K) rIsi call_isi) (by rfl) T.b_isinstance (by decide +kernel) (pa_cons (pv 1) (pa_cons (pe_bltn (v := .ty "tuple") (by rfl) T.b_tuple (by decide +kernel) rfl) pa_nil))))) (pw_or1 (pt_cmpR op_notIn_seq (pe_callB (callK (K := K) Vf.rLen call_lenI) (by rfl) T.b_len (by decide +kernel) (pa_cons (pv 1) pa_nil)) (pe_tupN (pa_cons pe_int (pa_cons pe_int pa_nil))) rfl)))) (pss_one (ps_ret pe_bl)) pss_nil)
      (pss_cons (ps_set (i := 2) sc_is_move.nd rfl (Or.inl rfl) (pe_ifExp (pt_cmpR op_eq (pe_callB (callK (K := K) Vf.rLen call_lenI) (by rfl) T.b_len (by decide +kernel) (pa_cons (pv 1) pa_nil)) pe_int (nomark _)) pe_str pe_str))
      (pss_cons (ps_if (PW.pt (pw_or (pt_cmpR (opK (K := K) rNeI (op_neI hr.units)) (pe_ix (ixK (K := K) rIxT ix_tup) (pv 1) pe_int (fun _ _ => rfl)) (pv 2) (nomark _)) (pw_or1 (pt_not (pt_val (pe_callB (callK (K := K) rAll (cr_all rfl)) (by rfl) T.b_all (by decide +kernel) (pa_cons (pe_lc (own := [("index", 3)]) (g := gName 3) rfl sc_is_move.nd (pi_tup (pe_slice (slK (K := K) rSlI sl_tupI) (pv 1) (po_some pe_int) po_none)) (C8b.blk (N := ["n", "value", "name", "index", "low", "high"]) (sc := C8.fnScope s_is_move) (by decide +kernel)) (fun _ _ _ _ _ => (pg_name (i := 3) sc_is_move.nd rfl (Or.inl rfl))) (fun _ _ _ _ _ => pts_nil) (fun _ _ _ _ _ => (C8.pe_c c_is_from_to hr (by decide) (by rfl) (pa_cons (pv 3) (pa_cons pe_int (pa_cons (pe_op op_sub (pv 0) pe_int) pa_nil)))))) pa_nil))))))) (pss_one (ps_ret pe_bl)) pss_nil)
      (pss_one (ps_ret (pe_callB (callK (K := K) rAll (cr_all rfl)) (by rfl) T.b_all (by decide +kernel) (pa_cons (pe_lc (own := [("low", 4), ("high", 5)]) (g := gTup K 2 (gCons (gName 4) (gCons (gName 5) gNil))) rfl sc_is_move.nd (RZ.pi_zipA (by rfl) T.b_zip (pa_cons (pe_slice (slK (K := K) rSlI sl_tupI) (pv 1) (po_some pe_int) po_none) (pa_cons (pe_slice (slK (K := K) rSlI sl_tupI) (pv 1) (po_some pe_int) po_none) pa_nil))) (C8b.blk (N := ["n", "value", "name", "index", "low", "high"]) (sc := C8.fnScope s_is_move) (by decide +kernel)) (fun _ _ _ _ _ => (pg_tup rfl (pgs_cons (pg_name (i := 4) sc_is_move.nd rfl (Or.inl rfl)) (pgs_cons (pg_name (i := 5) sc_is_move.nd rfl (Or.inl rfl)) pgs_nil)))) (fun _ _ _ _ _ => pts_nil) (fun _ _ _ _ _ => (pe_cmpR op_lt (pv 4) (pv 5) (nomark _)))) pa_nil))))))), ?_⟩
    rcases h with ⟨p, m, rfl, hp, hok, q⟩ | ⟨hn3, hbad, q⟩
    case inr =>
      have hno : ∀ (p : Addr) (xs : List V), H p = some (.tup xs) → (xs.length ≠ 3 ∧ xs.length ≠ 4) → True := fun _ _ _ _ => trivial
      rcases hbad with rfl | ⟨p, vs, ms, rfl, hp, hms⟩ | ⟨p, rfl, hp⟩ | ⟨p, rfl, hp⟩ | ⟨p, rfl, hp⟩ | ⟨p, rfl, hp⟩
      · refine ⟨_, rfl, _, _, _, _, false, rfl, .ty _, .base .non, kit_ty (by decide +kernel), false, rfl, iteT ?_⟩
        exact q _ (.refl _ _)
      · refine ⟨_, rfl, _, _, _, _, true, rfl, .ty _, tyT hp, kit_ty (by decide +kernel), true, rfl, iteF ?_⟩
        refine ⟨_, rfl, lenT rfl hp (newT (sz_ (by simp)) fun p1 H1 _ k1 hp1 => ?_)⟩
        have h1 := k1.tup _ _ hp
        by_cases h3 : vs.length = 3 ∨ vs.length = 4
        case neg =>
          refine ⟨p1, _, rfl, .inr (SqT.of hp1), rfl, rfl, true, ?_, iteT (q _ k1)⟩
          have e3 : ¬ ((vs.length : Nat) : Int) = 3 := by omega
          have e4 : ¬ ((vs.length : Nat) : Int) = 4 := by omega
          generalize ((vs.length : Nat) : Int) = z at e3 e4
          simp [inV, eqV]
          omega
        refine ⟨p1, _, rfl, .inr (SqT.of hp1), rfl, rfl, false, by rcases h3 with h3 | h3 <;> rw [h3] <;> rfl, iteF ?_⟩
        refine ⟨_, rfl, lenT rfl h1 ⟨rfl, _, rfl, ?_⟩⟩
        obtain ⟨m0, ms', p0, vs', rfl, rfl, hp0⟩ : ∃ m0 ms' p0 vs', ms = m0 :: ms' ∧ vs = .ref p0 :: vs' ∧ H p0 = some (.tup m0.val) := by
          match vs, ms, hms, h3 with
          | x :: vs', m0 :: ms', ⟨⟨p0, e, h0⟩, _⟩, _ => exact ⟨m0, ms', p0, vs', rfl, by rw [e], h0⟩
          | [], _, _, h3 => simp at h3
        have hp01 := k1.tup _ _ hp0
        rcases h3 with h3 | h3
        · refine iteEq (by rw [h3]; rfl) ?_
          exact ⟨_, rfl, p, _, _, _, rfl, rfl, SqT.of h1, atI_nat (j := 0) rfl, _, rfl, neMS hp01 ok_sw ⟨_, rfl, iteTB rfl (q _ k1)⟩⟩
        · refine iteNo (by rw [h3]; decide) ?_
          exact ⟨_, rfl, p, _, _, _, rfl, rfl, SqT.of h1, atI_nat (j := 0) rfl, _, rfl, neMS hp01 ok_tn ⟨_, rfl, iteTB rfl (q _ k1)⟩⟩
      · refine ⟨_, rfl, _, _, _, _, true, rfl, .ty _, tyT hp, kit_ty (by decide +kernel), true, rfl, iteF ?_⟩
        refine ⟨_, rfl, lenT rfl hp (newT (sz_ (by simp)) fun p1 H1 _ k1 hp1 => ?_)⟩
        have h1 := k1.tup _ _ hp
        refine ⟨p1, _, rfl, .inr (SqT.of hp1), rfl, rfl, false, rfl, iteF ?_⟩
        refine ⟨_, rfl, lenT rfl h1 ⟨rfl, _, rfl, iteEq rfl ?_⟩⟩
        refine ⟨_, rfl, p, _, _, _, rfl, rfl, SqT.of h1, rfl, _, rfl, neSS ok_sw ok_sw ⟨_, rfl, iteFB (by decide +kernel) ?_⟩⟩
        refine ⟨_, rfl, _, rfl, slT h1 fun p2 H2 k2 hp2 => ?_⟩
        rw [show (some (1 : Int)) = some ((1 : Nat) : Int) from rfl, cut_from] at hp2
        have hp2 : H2 p2 = some (.tup [.int 1, .int 0]) := hp2
        refine ⟨_, rfl, ⟨_, SqT.of hp2⟩, ?_⟩
        refine lc_bools walk_tup (fun _ => true) (by simp) (fun H' k => SqT.of (k.tup _ _ hp2)) ?_ ?_
        · rintro t x H3 H4 hi k ⟨rfl, hx⟩ R hR
          rcases t with _ | _ | t
          · cases hx
            exact ⟨rfl, _, rfl, _, rfl, _, _, rfl, rfl, .inl ⟨_, _, _, rfl, sh_small (by omega) (by omega), by omega, by omega, hR _ (.refl _ _)⟩⟩
          · cases hx
            exact ⟨rfl, _, rfl, _, rfl, _, _, rfl, rfl, .inl ⟨_, _, _, rfl, sh_small (by omega) (by omega), by omega, by omega, hR _ (.refl _ _)⟩⟩
          · simp at hx
        intro D2 H3 k3 h3
        refine ⟨D2, _, rfl, SqL.of h3, ?_⟩
        refine ⟨_, rfl, iteF ?_⟩
        have h4 := (k2.trans k3).tup _ _ h1
        refine ⟨_, rfl, _, rfl, slT h4 fun p5 H5 k5 hp5 => ?_⟩
        refine ⟨_, rfl, _, rfl, slT (k5.tup _ _ h4) fun p6 H6 k6 hp6 => ?_⟩
        have hp5 := k6.tup _ _ hp5
        rw [show (some (1 : Int)) = some ((1 : Nat) : Int) from rfl, cut_from] at hp5
        rw [show (some (2 : Int)) = some ((2 : Nat) : Int) from rfl, cut_from] at hp6
        have hp5 : H6 p5 = some (.tup [.int 1, .int 0]) := hp5
        have hp6 : H6 p6 = some (.tup [.int 0]) := hp6
        refine ⟨_, _, _, _, rfl, .inr ⟨SqT.of hp5, SqT.of hp6, ?_⟩⟩
        refine lc_bools (walk_zipT rfl) (fun _ => false) (by simp) (fun H' k => ⟨SqT.of (k.tup _ _ hp5), SqT.of (k.tup _ _ hp6)⟩) ?_ ?_
        · rintro t x H7 H8 hi k7 ⟨T, x1, x2, rfl, hT, rfl, e1, e2⟩ R hR
          obtain rfl : t = 0 := by simpa using hi
          cases e1
          cases e2
          refine ⟨T, _, rfl, SqT.of upd_same, rfl, _, _, rfl, _, _, rfl, rfl, rfl, _, rfl, _, rfl, _, _, rfl, rfl, ?_⟩
          exact hR _ (.new hT)
        intro D9 H9 k9 h9
        refine ⟨D9, _, rfl, SqL.of h9, ?_⟩
        exact q _ (k1.trans ((k2.trans k3).trans ((k5.trans k6).trans k9)))
      · refine ⟨_, rfl, _, _, _, _, true, rfl, .ty _, tyT hp, kit_ty (by decide +kernel), true, rfl, iteF ?_⟩
        refine ⟨_, rfl, lenT rfl hp (newT (sz_ (by simp)) fun p1 H1 _ k1 hp1 => ?_)⟩
        have h1 := k1.tup _ _ hp
        refine ⟨p1, _, rfl, .inr (SqT.of hp1), rfl, rfl, false, rfl, iteF ?_⟩
        refine ⟨_, rfl, lenT rfl h1 ⟨rfl, _, rfl, iteNo (fun z => absurd (V.int.inj z) (by show ¬ ((4 : Int) = 3); decide)) ?_⟩⟩
        refine ⟨_, rfl, p, _, _, _, rfl, rfl, SqT.of h1, rfl, _, rfl, neSS ok_tn ok_tn ⟨_, rfl, iteFB (by decide +kernel) ?_⟩⟩
        refine ⟨_, rfl, _, rfl, slT h1 fun p2 H2 k2 hp2 => ?_⟩
        rw [show (some (1 : Int)) = some ((1 : Nat) : Int) from rfl, cut_from] at hp2
        have hp2 : H2 p2 = some (.tup [.int 0, .int 1, .int n]) := hp2
        refine ⟨_, rfl, ⟨_, SqT.of hp2⟩, ?_⟩
        refine lc_bools walk_tup (fun t => decide (t < 2)) (by simp) (fun H' k => SqT.of (k.tup _ _ hp2)) ?_ ?_
        · rintro t x H3 H4 hi k ⟨rfl, hx⟩ R hR
          rcases t with _ | _ | _ | t
          · cases hx
            exact ⟨rfl, _, rfl, _, rfl, _, _, rfl, rfl, .inl ⟨_, _, _, rfl, sh_small (by omega) (by omega), by omega, by omega, hR _ (.refl _ _)⟩⟩
          · cases hx
            exact ⟨rfl, _, rfl, _, rfl, _, _, rfl, rfl, .inl ⟨_, _, _, rfl, sh_small (by omega) (by omega), by omega, by omega, hR _ (.refl _ _)⟩⟩
          · cases hx
            exact ⟨rfl, _, rfl, _, rfl, _, _, rfl, rfl, .inr (.inl ⟨_, _, _, rfl, sh_small (by omega) (by omega), by omega, by omega, hR _ (.refl _ _)⟩)⟩
          · simp at hx
        intro D2 H3 k3 h3
        refine ⟨D2, _, rfl, SqL.of h3, ?_⟩
        exact ⟨_, rfl, iteT (q _ (k1.trans (k2.trans k3)))⟩
      · refine ⟨_, rfl, _, _, _, _, true, rfl, .ty _, tyT hp, kit_ty (by decide +kernel), true, rfl, iteF ?_⟩
        refine ⟨_, rfl, lenT rfl hp (newT (sz_ (by simp)) fun p1 H1 _ k1 hp1 => ?_)⟩
        have h1 := k1.tup _ _ hp
        exact ⟨p1, _, rfl, .inr (SqT.of hp1), rfl, rfl, true, rfl, iteT (q _ k1)⟩
      · refine ⟨_, rfl, _, _, _, _, true, rfl, .ty _, tyT hp, kit_ty (by decide +kernel), true, rfl, iteF ?_⟩
        refine ⟨_, rfl, lenT rfl hp (newT (sz_ (by simp)) fun p1 H1 _ k1 hp1 => ?_)⟩
        have h1 := k1.tup _ _ hp
        refine ⟨p1, _, rfl, .inr (SqT.of hp1), rfl, rfl, false, rfl, iteF ?_⟩
        refine ⟨_, rfl, lenT rfl h1 ⟨rfl, _, rfl, iteEq rfl ?_⟩⟩
        refine ⟨_, rfl, p, _, _, _, rfl, rfl, SqT.of h1, rfl, _, rfl, neSS ok_sw ok_sw ⟨_, rfl, iteFB (by decide +kernel) ?_⟩⟩
        refine ⟨_, rfl, _, rfl, slT h1 fun p2 H2 k2 hp2 => ?_⟩
        rw [show (some (1 : Int)) = some ((1 : Nat) : Int) from rfl, cut_from] at hp2
        have hp2 : H2 p2 = some (.tup [.bl true, .int 2]) := hp2
        refine ⟨_, rfl, ⟨_, SqT.of hp2⟩, ?_⟩
        refine lc_bools walk_tup (fun t => decide (t = 1)) (by simp) (fun H' k => SqT.of (k.tup _ _ hp2)) ?_ ?_
        · rintro t x H3 H4 hi k ⟨rfl, hx⟩ R hR
          rcases t with _ | _ | t
          · cases hx
            exact ⟨rfl, _, rfl, _, rfl, _, _, rfl, rfl, .inr (.inr ⟨_, _, _, rfl, hR _ (.refl _ _)⟩)⟩
          · cases hx
            exact ⟨rfl, _, rfl, _, rfl, _, _, rfl, rfl, .inl ⟨_, _, _, rfl, sh_small (by omega) (by omega), by omega, by omega, hR _ (.refl _ _)⟩⟩
          · simp at hx
        intro D2 H3 k3 h3
        refine ⟨D2, _, rfl, SqL.of h3, ?_⟩
        exact ⟨_, rfl, iteT (q _ (k1.trans (k2.trans k3)))⟩
    refine ⟨_, rfl, _, _, _, _, true, rfl, .ty _, tyT hp, kit_ty (by decide +kernel), true, rfl, iteF ?_⟩
    refine ⟨_, rfl, lenT rfl hp ?_⟩
    have main : ∀ H1, Kp N0 H H1 → ∀ (σ : L2.St), True := fun _ _ _ => trivial
    obtain ⟨i1, i2⟩ := idx_ok hok
    have il := idx_len m
    have hcut1 := val_cut1 m
    have hcut2 := val_cut2 m
    refine newT (sz_ (by simp)) fun p1 H1 _ k1 hp1 => ?_
    refine ⟨p1, _, rfl, .inr (SqT.of hp1), rfl, rfl, false, by cases m <;> rfl, iteF ?_⟩
    have h1 := k1.tup _ _ hp
    refine ⟨_, rfl, lenT rfl h1 ⟨rfl, _, rfl, ?_⟩⟩
    cases m with
    | sw i j =>
      refine iteEq rfl ?_
      refine ⟨_, rfl, p, _, _, _, rfl, rfl, SqT.of h1, rfl, _, rfl, neSS (by first | exact ok_sw | exact ok_tn) (by first | exact ok_sw | exact ok_tn) ⟨_, rfl, iteFB (by decide +kernel) ?_⟩⟩
      refine ⟨_, rfl, _, rfl, slT h1 fun p2 H2 k2 hp2 => ?_⟩
      rw [hcut1] at hp2
      refine ⟨_, rfl, ⟨_, SqT.of hp2⟩, ?_⟩
      refine lc_bools walk_tup (fun _ => true) (by rw [List.length_map]; omega) (fun H' k => SqT.of (k.tup _ _ hp2)) ?_ ?_
      · rintro t x H3 H4 hi k ⟨rfl, hx⟩ R hR
        rw [List.length_map] at hi
        rw [int_at hi] at hx
        cases hx
        have hb := i1 _ (List.getElem_mem hi)
        rw [show (Mv.idx _)[t] = (Mv.idx _).getD t 0 by rw [List.getD_eq_getElem?_getD, List.getElem?_eq_getElem hi]; rfl] at hb
        exact ⟨rfl, _, rfl, _, rfl, _, _, rfl, rfl, .inl ⟨_, _, _, rfl, sh_small (by omega) (by omega), hb.1, hb.2, hR _ (.refl _ _)⟩⟩
      intro D2 H3 k3 h3
      refine ⟨D2, _, rfl, SqL.of h3, ?_⟩
      rw [show (List.map (fun _ => true) (List.range (List.map V.int _).length)).all id = true by simp]
      refine ⟨_, rfl, iteF ?_⟩
      have h4 := (k2.trans k3).tup _ _ h1
      refine ⟨_, rfl, _, rfl, slT h4 fun p5 H5 k5 hp5 => ?_⟩
      refine ⟨_, rfl, _, rfl, slT (k5.tup _ _ h4) fun p6 H6 k6 hp6 => ?_⟩
      have hp5 := k6.tup _ _ hp5
      rw [hcut1] at hp5
      rw [hcut2] at hp6
      refine ⟨_, _, _, _, rfl, .inr ⟨SqT.of hp5, SqT.of hp6, ?_⟩⟩
      refine lc_bools (walk_zipT rfl) (fun _ => true) (by simp only [List.length_map, List.length_drop]; omega) (fun H' k => ⟨SqT.of (k.tup _ _ hp5), SqT.of (k.tup _ _ hp6)⟩) ?_ ?_
      · rintro t x H7 H8 hi k7 ⟨T, x1, x2, rfl, hT, rfl, e1, e2⟩ R hR
        simp only [List.length_map, List.length_drop] at hi
        have hi1 : t < (Mv.sw i j).idx.length := by omega
        have hi2 : t < ((Mv.sw i j).idx.drop 1).length := by rw [List.length_drop]; omega
        obtain rfl : x1 = _ := (Option.some.inj ((int_at hi1).symm.trans e1)).symm
        obtain rfl : x2 = _ := (Option.some.inj ((int_at hi2).symm.trans e2)).symm
        have hlt := i2 t (by omega)
        rw [show ∀ l : List Int, l.getD (1 + t) 0 = (l.drop 1).getD t 0 from fun l => by rw [List.getD_eq_getElem?_getD, List.getD_eq_getElem?_getD, List.getElem?_drop]] at hlt
        refine ⟨T, _, rfl, SqT.of upd_same, rfl, _, _, rfl, _, _, rfl, rfl, rfl, _, rfl, _, rfl, _, _, rfl, rfl, ?_⟩
        show R (V.bl (decide (_ < _))) _
        rw [decide_eq_true hlt]
        exact hR _ (.new hT)
      intro D9 H9 k9 h9
      refine ⟨D9, _, rfl, SqL.of h9, ?_⟩
      rw [show (List.map (fun _ => true) (List.range (min (List.map V.int _).length (List.map V.int _).length))).all id = true by simp]
      exact q _ (k1.trans ((k2.trans k3).trans ((k5.trans k6).trans k9)))
    | tn i j k =>
      refine iteNo (fun z => absurd (V.int.inj z) (by show ¬ ((4 : Int) = 3); decide)) ?_
      refine ⟨_, rfl, p, _, _, _, rfl, rfl, SqT.of h1, rfl, _, rfl, neSS (by first | exact ok_sw | exact ok_tn) (by first | exact ok_sw | exact ok_tn) ⟨_, rfl, iteFB (by decide +kernel) ?_⟩⟩
      refine ⟨_, rfl, _, rfl, slT h1 fun p2 H2 k2 hp2 => ?_⟩
      rw [hcut1] at hp2
      refine ⟨_, rfl, ⟨_, SqT.of hp2⟩, ?_⟩
      refine lc_bools walk_tup (fun _ => true) (by rw [List.length_map]; omega) (fun H' k => SqT.of (k.tup _ _ hp2)) ?_ ?_
      · rintro t x H3 H4 hi k ⟨rfl, hx⟩ R hR
        rw [List.length_map] at hi
        rw [int_at hi] at hx
        cases hx
        have hb := i1 _ (List.getElem_mem hi)
        rw [show (Mv.idx _)[t] = (Mv.idx _).getD t 0 by rw [List.getD_eq_getElem?_getD, List.getElem?_eq_getElem hi]; rfl] at hb
        exact ⟨rfl, _, rfl, _, rfl, _, _, rfl, rfl, .inl ⟨_, _, _, rfl, sh_small (by omega) (by omega), hb.1, hb.2, hR _ (.refl _ _)⟩⟩
      intro D2 H3 k3 h3
      refine ⟨D2, _, rfl, SqL.of h3, ?_⟩
      rw [show (List.map (fun _ => true) (List.range (List.map V.int _).length)).all id = true by simp]
      refine ⟨_, rfl, iteF ?_⟩
      have h4 := (k2.trans k3).tup _ _ h1
      refine ⟨_, rfl, _, rfl, slT h4 fun p5 H5 k5 hp5 => ?_⟩
      refine ⟨_, rfl, _, rfl, slT (k5.tup _ _ h4) fun p6 H6 k6 hp6 => ?_⟩
      have hp5 := k6.tup _ _ hp5
      rw [hcut1] at hp5
      rw [hcut2] at hp6
      refine ⟨_, _, _, _, rfl, .inr ⟨SqT.of hp5, SqT.of hp6, ?_⟩⟩
      refine lc_bools (walk_zipT rfl) (fun _ => true) (by simp only [List.length_map, List.length_drop]; omega) (fun H' k => ⟨SqT.of (k.tup _ _ hp5), SqT.of (k.tup _ _ hp6)⟩) ?_ ?_
      · rintro t x H7 H8 hi k7 ⟨T, x1, x2, rfl, hT, rfl, e1, e2⟩ R hR
        simp only [List.length_map, List.length_drop] at hi
        have hi1 : t < (Mv.tn i j k).idx.length := by omega
        have hi2 : t < ((Mv.tn i j k).idx.drop 1).length := by rw [List.length_drop]; omega
        obtain rfl : x1 = _ := (Option.some.inj ((int_at hi1).symm.trans e1)).symm
        obtain rfl : x2 = _ := (Option.some.inj ((int_at hi2).symm.trans e2)).symm
        have hlt := i2 t (by omega)
        rw [show ∀ l : List Int, l.getD (1 + t) 0 = (l.drop 1).getD t 0 from fun l => by rw [List.getD_eq_getElem?_getD, List.getD_eq_getElem?_getD, List.getElem?_drop]] at hlt
        refine ⟨T, _, rfl, SqT.of upd_same, rfl, _, _, rfl, _, _, rfl, rfl, rfl, _, rfl, _, rfl, _, _, rfl, rfl, ?_⟩
        show R (V.bl (decide (_ < _))) _
        rw [decide_eq_true hlt]
        exact hR _ (.new hT)
      intro D9 H9 k9 h9
      refine ⟨D9, _, rfl, SqL.of h9, ?_⟩
      rw [show (List.map (fun _ => true) (List.range (min (List.map V.int _).length (List.map V.int _).length))).all id = true by simp]
      exact q _ (k1.trans ((k2.trans k3).trans ((k5.trans k6).trans k9)))
def sp_do_move (K : PySem.W.Frag) : Sp := fun vs H Q _ => ∃ (e p : Addr) (r : List Int) (m : Mv) (n : Nat), vs = [.ref e, .ref p] ∧ H e = some (.lst (r.map V.int)) ∧ H p = some (.tup m.val) ∧ MvOk n m ∧ r.length = n + 1 ∧ n ≤ 100 ∧ ∀ H', Kp (At e) H H' → H' e = some (.lst ((act r m).map V.int)) → Q .non H'
theorem at2 {ns : List Int} {j : Nat} (h : 1 + j < ns.length) : atI (ns.map V.int) ((j : Int) + 1) = some (.int (ns.getD (1 + j) 0)) := by
  have := at_row (ns := ns) (j := 1 + j) h
  rw [show (((1 + j : Nat)) : Int) = (j : Int) + 1 by omega] at this
  exact this
theorem ix2 {n j : Nat} (h : 1 + j < n) : ixN n ((j : Int) + 1) = some (1 + j) := by
  have := Evl.ixN_nat (n := n) (j := 1 + j) h
  rw [show (((1 + j : Nat)) : Int) = (j : Int) + 1 by omega] at this
  exact this
theorem ok_do_move (T : Txt K mg) (D : Df K mg "do_move" s_do_move ["entries", "move"]) : C8.Cal P w K mg base 1 "do_move" (sp_do_move K) [] := by
  obtain ⟨f, fd, D, hb⟩ := D
  refine C8.cal0 D (.all hb) .nil sc_do_move (fun vs H Q E h => ?_) (fun cdv A outer s H vs Q E hr h => ?_)
  · obtain ⟨_, _, _, _, _, rfl, _⟩ := h; rfl
  · obtain ⟨e, p, r, m, n, rfl, he, hp, hok, hl, hn, q⟩ := h
    refine ⟨_, (pss_one (ps_if (pt_cmpR op_eq (pe_ix (ixK (K := K) rIxT ix_tup) (pv 1) pe_int (fun _ _ => rfl)) pe_str (nomark _)) (pss_cons (ps_par (i := 2) (j := 3) (by rfl) sc_do_move.nd rfl rfl (by decide) rfl rfl (pa_cons (pe_op op_add (pe_ix (ixK (K := K) rIxT ix_tup) (pv 1) pe_int (fun _ _ => rfl)) pe_int) (pa_cons (pe_op op_add (pe_ix (ixK (K := K) rIxT ix_tup) (pv 1) pe_int (fun _ _ => rfl)) pe_int) pa_nil)) (by rfl))
      (pss_one (ps_asg (pe_tupN (pa_cons (pe_ix (ixK (K := K) rIxL ix_list) (pv 0) (pv 3) (fun _ _ => rfl)) (pa_cons (pe_ix (ixK (K := K) rIxL ix_list) (pv 0) (pv 2) (fun _ _ => rfl)) pa_nil))) (pg_tup rfl (pgs_cons (pg_sub (pv 0) (pv 2) set_list) (pgs_cons (pg_sub (pv 0) (pv 3) set_list) pgs_nil)))))) (pss_cons (ps_par3 (i := 2) (j := 3) (l := 4) (by rfl) sc_do_move.nd rfl rfl rfl (by decide) (by decide) (by decide) rfl rfl rfl (pa_cons (pe_op op_add (pe_ix (ixK (K := K) rIxT ix_tup) (pv 1) pe_int (fun _ _ => rfl)) pe_int) (pa_cons (pe_op op_add (pe_ix (ixK (K := K) rIxT ix_tup) (pv 1) pe_int (fun _ _ => rfl)) pe_int) (pa_cons (pe_op op_add (pe_ix (ixK (K := K) rIxT ix_tup) (pv 1) pe_int (fun _ _ => rfl)) pe_int) pa_nil))) (by rfl))
      (pss_cons (ps_set (i := 5) sc_do_move.nd rfl (Or.inl rfl) (pe_op op_sub (pe_op op_sub (pe_op op_sub (pe_ix (ixK (K := K) rIxL ix_list) (pv 0) pe_int (fun _ _ => rfl)) (pe_ix (ixK (K := K) rIxL ix_list) (pv 0) (pv 2) (fun _ _ => rfl))) (pe_ix (ixK (K := K) rIxL ix_list) (pv 0) (pv 3) (fun _ _ => rfl))) (pe_ix (ixK (K := K) rIxL ix_list) (pv 0) (pv 4) (fun _ _ => rfl))))
      (pss_one (ps_for PassesOwn.never rfl (pi_tup (pe_tupN (pa_cons pe_int (pa_cons (pv 2) (pa_cons (pv 3) (pa_cons (pv 4) pa_nil)))))) (pg_name (i := 6) sc_do_move.nd rfl (Or.inl rfl)) (pss_one (ps_asg (pe_op op_add (pe_ix (ixK (K := K) rIxL ix_list) (pv 0) (pv 6) (fun _ _ => rfl)) (pv 5)) (pg_sub (pv 0) (pv 6) set_list))))))))), ?_⟩
    cases m with
    | sw i j =>
      obtain ⟨o1, o2⟩ := hok
      refine ⟨_, rfl, p, _, _, _, rfl, rfl, SqT.of hp, rfl, rfl, _, rfl, iteEq rfl ?_⟩
      refine ⟨_, rfl, p, _, _, _, rfl, rfl, SqT.of hp, rfl, _, _, rfl, rfl, _, rfl, p, _, _, _, rfl, rfl, SqT.of hp, rfl, _, _, rfl, rfl, _, _, rfl, ?_⟩
      refine ⟨_, rfl, _, rfl, e, _, _, _, rfl, rfl, SqL.of he, at2 (by omega), _, rfl, _, rfl, e, _, _, _, rfl, rfl, SqL.of he, at2 (by omega), newT (sz_ (by simp)) fun p2 H2 _ k2 hp2 => ?_⟩
      have he2 := k2.keep _ _ (fun z => z) he
      refine ⟨p2, _, rfl, SqT.of hp2, rfl, _, _, rfl, ?_⟩
      refine ⟨_, rfl, _, rfl, e, _, _, _, rfl, rfl, he2, ix2 (by rw [List.length_map]; omega), ?_⟩
      have kk : Kp (At e) H (upd H2 e (.lst ((r.map V.int).set (1 + i) (V.int (r.getD (1 + j) 0))))) := k2.up.trans (.mut rfl he2)
      have he3 : upd H2 e (.lst ((r.map V.int).set (1 + i) (V.int (r.getD (1 + j) 0)))) e = some (.lst ((r.map V.int).set (1 + i) (V.int (r.getD (1 + j) 0)))) := upd_same
      generalize upd H2 e (.lst ((r.map V.int).set (1 + i) (V.int (r.getD (1 + j) 0)))) = H3 at kk he3
      refine ⟨_, _, rfl, _, rfl, _, rfl, e, _, _, _, rfl, rfl, he3, ix2 (by rw [List.length_set, List.length_map]; omega), rfl, ?_⟩
      refine q _ (kk.trans (.mut rfl he3)) ?_
      rw [upd_same, ← List.map_set, ← List.map_set]
      rfl
    | tn i j k =>
      obtain ⟨o1, o2, o3⟩ := hok
      refine ⟨_, rfl, p, _, _, _, rfl, rfl, SqT.of hp, rfl, rfl, _, rfl, ?_⟩
      have e0 : decide (V.str "turn" = V.str "swap") = false := by decide
      refine (show ∀ {A B : Prop}, B → (if decide (V.str "turn" = V.str "swap") = true then A else B) from fun h => by rw [e0]; exact iteF h) ?_
      refine ⟨_, rfl, p, _, _, _, rfl, rfl, SqT.of hp, rfl, _, _, rfl, rfl, _, rfl, p, _, _, _, rfl, rfl, SqT.of hp, rfl, _, _, rfl, rfl, _, rfl, p, _, _, _, rfl, rfl, SqT.of hp, rfl, _, _, rfl, rfl, _, _, _, rfl, ?_⟩
      refine ⟨_, rfl, e, _, _, _, rfl, rfl, SqL.of he, at_row0 (by omega), _, rfl, _, rfl, e, _, _, _, rfl, rfl, SqL.of he, at2 (by omega), _, _, rfl, rfl, ?_⟩
      refine ⟨_, rfl, _, rfl, e, _, _, _, rfl, rfl, SqL.of he, at2 (by omega), _, _, rfl, rfl, ?_⟩
      refine ⟨_, rfl, _, rfl, e, _, _, _, rfl, rfl, SqL.of he, at2 (by omega), _, _, rfl, rfl, ?_⟩
      refine ⟨_, rfl, _, rfl, _, rfl, newT (sz_ (by simp)) fun T H2 _ k2 hT => ?_⟩
      refine ⟨_, rfl, ⟨_, SqT.of hT⟩, ?_⟩
      have he2 := k2.keep _ _ (fun z => z) he
      generalize hc : r.getD 0 0 - r.getD (1 + i) 0 - r.getD (1 + j) 0 - r.getD (1 + k) 0 = c
      have lenF : ∀ (l : List Nat) (r : List Int), (l.foldl (bump c) r).length = r.length := by
        intro l
        induction l with
        | nil => intro r; rfl
        | cons x l ih => intro r; show (l.foldl (bump c) (bump c r x)).length = _; rw [ih, bump_len]
      refine for_it (n := 4) (walk_tup (K := K) (a := T) (xs := [V.int 0, V.int ((i : Int) + 1), V.int ((j : Int) + 1), V.int ((k : Int) + 1)])) (fun t σ H' => ∃ v6, σ = [some (.ref e), some (.ref p), some (.int ((i : Int) + 1)), some (.int ((j : Int) + 1)), some (.int ((k : Int) + 1)), some (.int c), v6] ∧ Kp (At e) H H' ∧ H' T = some (.tup [V.int 0, V.int ((i : Int) + 1), V.int ((j : Int) + 1), V.int ((k : Int) + 1)]) ∧ H' e = some (.lst ((([0, 1 + i, 1 + j, 1 + k].take t).foldl (bump c) r).map V.int)))
        ⟨none, by rw [← hc]; rfl, k2.up, hT, he2⟩ (fun _ _ H' _ ⟨_, _, _, z, _⟩ => SqT.of z) ?_ ?_
      · rintro t x σ H3' H3 ht ⟨v6, rfl, k3, hT3, he3⟩ ⟨rfl, hx⟩
        obtain ⟨y, hy, rfl, hyl, hyt⟩ : ∃ y : Nat, [0, 1 + i, 1 + j, 1 + k][t]? = some y ∧ x = .int (y : Int) ∧ y < r.length ∧ [0, 1 + i, 1 + j, 1 + k].take (t + 1) = [0, 1 + i, 1 + j, 1 + k].take t ++ [y] := by
          rcases t with _ | _ | _ | _ | t
          · cases hx; exact ⟨0, rfl, rfl, by omega, rfl⟩
          · cases hx; exact ⟨1 + i, rfl, congrArg V.int (by omega), by omega, rfl⟩
          · cases hx; exact ⟨1 + j, rfl, congrArg V.int (by omega), by omega, rfl⟩
          · cases hx; exact ⟨1 + k, rfl, congrArg V.int (by omega), by omega, rfl⟩
          · omega
        have hlen := lenF ([0, 1 + i, 1 + j, 1 + k].take t) r
        refine ⟨_, rfl, _, rfl, e, _, _, _, rfl, rfl, SqL.of he3, at_row (by rw [hlen]; exact hyl), _, rfl, _, _, rfl, rfl, ?_⟩
        refine ⟨_, rfl, _, rfl, e, _, _, y, rfl, rfl, he3, Evl.ixN_nat (by rw [List.length_map, hlen]; exact hyl), ?_⟩
        refine ⟨_, rfl, k3.trans (.mut rfl he3), ?_, ?_⟩
        · rw [upd_ne (ne_of hT3 he3 (by intro z; cases z))]
          exact hT3
        · rw [upd_same, hyt, List.foldl_append, ← List.map_set]
          rfl
      · rintro σ H3 ⟨v6, rfl, k3, hT3, he3⟩
        refine q _ k3 ?_
        rw [he3, ← act_bump r i j k o1 o2 c hc.symm]
        rfl
/-- what a list that H did not know suffered is not seen -/
theorem kp_at {H H1 H2 : Hp} {p : Addr} (hp : H p = none) (k : Kp N0 H H1) (d : Kp (At p) H1 H2) : Kp N0 H H2 :=
  ⟨fun b o _ h => d.keep _ _ (ne_of_none h hp) (k.keep _ _ (fun z => z) h), fun b xs h => d.tup _ _ (k.tup _ _ h), fun b o u h => d.frz _ _ _ (k.frz _ _ _ h), fun b h => k.live _ (d.live _ h)⟩
def sp_moved_far (K : PySem.W.Frag) : Sp := fun vs H Q _ => ∃ (a b : Addr) (r : List Int) (ms : List Mv) (n : Nat), vs = [.ref a, .ref b] ∧ SqT K H a (r.map V.int) ∧ Wd H b ms ∧ (∀ m ∈ ms, MvOk n m) ∧ r.length = n + 1 ∧ n ≤ 100 ∧ ∀ p H', H p = none → Kp N0 H H' → H' p = some (.lst ((acts r ms).map V.int)) → Q (.ref p) H'
theorem ok_moved_far (T : Txt K mg) (D : Df K mg "moved_far" s_moved_far ["row", "word"]) (c_do_move : C8.Cal P w K mg base 1 "do_move" (sp_do_move K) []) : C8.Cal P w K mg base 2 "moved_far" (sp_moved_far K) [] := by
  obtain ⟨f, fd, D, hb⟩ := D
  refine C8.cal0 D (.all hb) .nil sc_moved_far (fun vs H Q E h => ?_) (fun cdv A outer s H vs Q E hr h => ?_)
  · obtain ⟨_, _, _, _, _, rfl, _⟩ := h; rfl
  · obtain ⟨a, b, r, ms, n, rfl, ha, ⟨ws, hb, hms⟩, hok, hl, hn, q⟩ := h
    refine ⟨_, (pss_cons (ps_set (i := 2) sc_moved_far.nd rfl (Or.inl rfl) (pe_callTy (callK (K := K) rListOf call_lstI) (by rfl) T.b_list (by decide +kernel) (pa_cons (pv 0) pa_nil)))
      (pss_cons (ps_for PassesOwn.never rfl (pi_tup (pv 1)) (pg_name (i := 3) sc_moved_far.nd rfl (Or.inl rfl)) (pss_one (ps_expr (C8.pe_c c_do_move hr (by decide) (by rfl) (pa_cons (pv 2) (pa_cons (pv 3) pa_nil))))))
      (pss_one (ps_ret (pv 2))))), ?_⟩
    refine ⟨_, rfl, listL rfl (.inr ha) fun D1 H1 nD k1 hD1 => ?_⟩
    refine ⟨_, rfl, b, rfl, ⟨_, SqT.of (k1.tup _ _ hb)⟩, ?_⟩
    refine for_it (n := ws.length) (walk_tup (K := K) (a := b) (xs := ws)) (fun t σ H' => ∃ v3, σ = [some (.ref a), some (.ref b), some (.ref D1), v3] ∧ Kp N0 H H' ∧ H' D1 = some (.lst ((acts r (ms.take t)).map V.int))) ⟨none, rfl, k1, hD1⟩ (fun _ _ H' _ ⟨_, _, k, _⟩ => SqT.of (k.tup _ _ hb)) ?_ ?_
    · rintro t x σ H3' H3 ht ⟨v3, rfl, k3, hp3⟩ ⟨rfl, hx⟩
      obtain ⟨pm, m, rfl, hm, hpm⟩ := (hms.kp k3).get hx
      refine ⟨_, rfl, _, rfl, D1, pm, _, m, n, rfl, hp3, hpm, hok m (List.mem_of_getElem? hm), by rw [acts_len]; exact hl, hn, fun H4 k4 hp4 => ?_⟩
      exact ⟨_, rfl, kp_at nD k3 k4, by rw [hp4, acts_take r ms t m hm]⟩
    · rintro σ H3 ⟨v3, rfl, k3, hp3⟩
      rw [hms.len, List.take_length] at hp3
      exact ⟨_, rfl, q _ _ nD k3 hp3⟩
/-- what no word is -/
def BadW (n : Nat) (H : Hp) (v : V) : Prop := v = .non ∨ v = .int 5 ∨ v = .str "word" ∨ (∃ p vs, v = .ref p ∧ H p = some (.lst vs)) ∨ (∃ p ks, v = .ref p ∧ H p = some (.dK ks)) ∨
  ∃ p vs x ms, v = .ref p ∧ H p = some (.tup (vs ++ [x])) ∧ Mvs H vs ms ∧ (∀ m ∈ ms, MvOk n m) ∧ ms.length ≤ 900 ∧ BadM n H x
theorem BadW.kp {n : Nat} {H H1 : Hp} {v : V} (k : Kp N0 H H1) (h : BadW n H v) : BadW n H1 v := by
  rcases h with h | h | h | ⟨p, vs, e, h⟩ | ⟨p, ks, e, h⟩ | ⟨p, vs, x, ms, e, h, m, r1, r2, r3⟩
  · exact .inl h
  · exact .inr (.inl h)
  · exact .inr (.inr (.inl h))
  · exact .inr (.inr (.inr (.inl ⟨p, vs, e, k.keep _ _ (fun z => z) h⟩)))
  · exact .inr (.inr (.inr (.inr (.inl ⟨p, ks, e, k.keep _ _ (fun z => z) h⟩))))
  · exact .inr (.inr (.inr (.inr (.inr ⟨p, vs, x, ms, e, k.tup _ _ h, m.kp k, r1, r2, r3.kp k⟩))))
def sp_is_word (K : PySem.W.Frag) : Sp := fun vs H Q _ => ∃ (n : Nat) (v : V), vs = [.int n, v] ∧ n ≤ 16 ∧ ((∃ p ms, v = .ref p ∧ Wd H p ms ∧ (∀ m ∈ ms, MvOk n m) ∧ ms.length ≤ 1000 ∧ ∀ H', Kp N0 H H' → Q (.bl true) H') ∨ (3 ≤ n ∧ BadW n H v ∧ ∀ H', Kp N0 H H' → Q (.bl false) H'))
theorem ok_is_word (T : Txt K mg) (D : Df K mg "_is_word" s_is_word ["n", "value"]) (c_is_move : C8.Cal P w K mg base 4 "is_move" (sp_is_move K) []) : C8.Cal P w K mg base 5 "_is_word" (sp_is_word K) [] := by
  obtain ⟨f, fd, D, hb⟩ := D
  refine C8.cal0 D (.all hb) .nil sc_is_word (fun vs H Q E h => ?_) (fun cdv A outer s H vs Q E hr h => ?_)
  · obtain ⟨_, _, rfl, _⟩ := h; rfl
  · obtain ⟨n, v, rfl, hn, h⟩ := h
    refine ⟨_, (pss_cons (ps_if (PW.pt (pw_or (pt_not (pt_val (pe_callB (callK (K := K) rIsi call_isi) (by rfl) T.b_isinstance (by decide +kernel) (pa_cons (pv 1) (pa_cons (pe_bltn (v := .ty "tuple") (by rfl) T.b_tuple (by decide +kernel) rfl) pa_nil))))) (pw_or1 (pt_cmpR op_gt (pe_callB (callK (K := K) Vf.rLen call_lenI) (by rfl) T.b_len (by decide +kernel) (pa_cons (pv 1) pa_nil)) (C8.pe_gc (by rfl) T.c_MAX_WORD) (nomark _))))) (pss_one (ps_ret pe_bl)) pss_nil)
      (pss_one (ps_ret (pe_callB (callK (K := K) rAll (cr_all rfl)) (by rfl) T.b_all (by decide +kernel) (pa_cons (pe_lc (own := [("move", 2)]) (g := gName 2) rfl sc_is_word.nd (pi_tup (pv 1)) (C8b.blk (N := ["n", "value", "move"]) (sc := C8.fnScope s_is_word) (by decide +kernel)) (fun _ _ _ _ _ => (pg_name (i := 2) sc_is_word.nd rfl (Or.inl rfl))) (fun _ _ _ _ _ => pts_nil) (fun _ _ _ _ _ => (C8.pe_c c_is_move hr (by decide) (by rfl) (pa_cons (pv 0) (pa_cons (pv 2) pa_nil))))) pa_nil))))), ?_⟩
    rcases h with ⟨p, ms, rfl, ⟨ws, hp, hms⟩, hok, hl, q⟩ | ⟨hn3, hbad, q⟩
    case inr =>
      rcases hbad with rfl | rfl | rfl | ⟨p, vs, rfl, hp⟩ | ⟨p, ks, rfl, hp⟩ | ⟨p, ws, x0, ms, rfl, hp, hms, hok, hl, hx0⟩
      · exact ⟨_, rfl, _, _, _, _, false, rfl, .ty _, .base .non, kit_ty (by decide +kernel), false, rfl, iteT (q _ (.refl _ _))⟩
      · exact ⟨_, rfl, _, _, _, _, false, rfl, .ty _, .base (.int 5), kit_ty (by decide +kernel), false, rfl, iteT (q _ (.refl _ _))⟩
      · exact ⟨_, rfl, _, _, _, _, false, rfl, .ty _, .base (.str _), kit_ty (by decide +kernel), false, rfl, iteT (q _ (.refl _ _))⟩
      · exact ⟨_, rfl, _, _, _, _, false, rfl, .ty _, .base (.lst hp), kit_ty (by decide +kernel), false, rfl, iteT (q _ (.refl _ _))⟩
      · exact ⟨_, rfl, _, _, _, _, false, rfl, .ty _, .base (.dK hp), kit_ty (by decide +kernel), false, rfl, iteT (q _ (.refl _ _))⟩
      have hwl := hms.len
      have hwl2 : (ws ++ [x0]).length = ws.length + 1 := by simp
      refine ⟨_, rfl, _, _, _, _, true, rfl, .ty _, tyT hp, kit_ty (by decide +kernel), true, rfl, iteF ?_⟩
      refine ⟨_, rfl, lenT rfl hp ⟨_, _, rfl, rfl, _, rfl, ?_⟩⟩
      rw [decide_eq_false (by omega)]
      refine iteF ⟨_, rfl, _, rfl, ⟨_, SqT.of hp⟩, ?_⟩
      refine lc_bools (walk_tup (xs := ws ++ [x0])) (fun t => decide (t < ws.length)) (by omega) (fun H' k => SqT.of (k.tup _ _ hp)) ?_ ?_
      · rintro i x H1 H2 hi k ⟨rfl, hx⟩ R hR
        by_cases hlt : i < ws.length
        · rw [List.getElem?_append_left hlt] at hx
          obtain ⟨pm, m, rfl, hm, hpm⟩ := (hms.kp k).get hx
          rw [decide_eq_true hlt] at hR
          exact ⟨rfl, _, rfl, _, rfl, n, _, rfl, hn, .inl ⟨pm, m, rfl, hpm, hok m (List.mem_of_getElem? hm), fun H3 k3 => hR _ k3⟩⟩
        · obtain rfl : i = ws.length := by omega
          rw [List.getElem?_append_right (Nat.le_refl _), Nat.sub_self] at hx
          cases hx
          rw [decide_eq_false hlt] at hR
          exact ⟨rfl, _, rfl, _, rfl, n, _, rfl, hn, .inr ⟨hn3, hx0.kp k, fun H3 k3 => hR _ k3⟩⟩
      · intro D H1 k h1
        refine ⟨D, _, rfl, SqL.of h1, ?_⟩
        rw [show (List.map (fun t => decide (t < ws.length)) (List.range (ws ++ [x0]).length)).all id = false by rw [hwl2, List.range_succ]; simp]
        exact q _ k
    have hwl := hms.len
    refine ⟨_, rfl, _, _, _, _, true, rfl, .ty _, tyT hp, kit_ty (by decide +kernel), true, rfl, iteF ?_⟩
    refine ⟨_, rfl, lenT rfl hp ⟨_, _, rfl, rfl, _, rfl, ?_⟩⟩
    rw [decide_eq_false (by omega)]
    refine iteF ⟨_, rfl, _, rfl, ⟨_, SqT.of hp⟩, ?_⟩
    refine lc_bools (walk_tup (xs := ws)) (fun _ => true) (by omega) (fun H' k => SqT.of (k.tup _ _ hp)) ?_ ?_
    · rintro i x H1 H2 hi k ⟨rfl, hx⟩ R hR
      obtain ⟨pm, m, rfl, hm, hpm⟩ := (hms.kp k).get hx
      exact ⟨rfl, _, rfl, _, rfl, n, _, rfl, hn, .inl ⟨pm, m, rfl, hpm, hok m (List.mem_of_getElem? hm), fun H3 k3 => hR _ k3⟩⟩
    · intro D H1 k h1
      refine ⟨D, _, rfl, SqL.of h1, ?_⟩
      rw [show (List.map (fun _ => true) (List.range ws.length)).all id = true by simp]
      exact q _ k
def sp_is_word_p (K : PySem.W.Frag) : Sp := fun vs H Q _ => ∃ (n : Nat) (v : V), vs = [.int n, v] ∧ 3 ≤ n ∧ n ≤ 16 ∧ ((∃ p ms, v = .ref p ∧ Wd H p ms ∧ (∀ m ∈ ms, MvOk n m) ∧ ms.length ≤ 1000 ∧ ∀ H', Kp N0 H H' → Q (.bl true) H') ∨ (BadW n H v ∧ ∀ H', Kp N0 H H' → Q (.bl false) H'))
theorem ok_is_word_p (T : Txt K mg) (D : Df K mg "is_word" s_is_word_p ["n", "value"]) (c_check_many : C8.Cal P w K mg base 4 "check_many" (sp_check_many) []) (c_is_word : C8.Cal P w K mg base 5 "_is_word" (sp_is_word K) []) : C8.Cal P w K mg base 6 "is_word" (sp_is_word_p K) [] := by
  obtain ⟨f, fd, D, hb⟩ := D
  refine C8.cal0 D (.all hb) .nil sc_is_word_p (fun vs H Q E h => ?_) (fun cdv A outer s H vs Q E hr h => ?_)
  · obtain ⟨_, _, rfl, _⟩ := h; rfl
  · obtain ⟨n, v, rfl, h1, h2, h⟩ := h
    refine ⟨_, (pss_cons (ps_expr (C8.pe_c c_check_many hr (by decide) (by rfl) (pa_cons (pv 0) (pa_cons (C8.pe_gc (by rfl) T.c_MOST_POINTS) pa_nil))))
      (pss_one (ps_ret (C8.pe_c c_is_word hr (by decide) (by rfl) (pa_cons (pv 0) (pa_cons (pv 1) pa_nil)))))), ?_⟩
    refine ⟨_, rfl, n, rfl, h1, h2, _, rfl, _, rfl, n, v, rfl, h2, ?_⟩
    rcases h with h | h
    · exact .inl h
    · exact .inr ⟨h1, h⟩
def sp_check_word (K : PySem.W.Frag) : Sp := fun vs H Q _ => ∃ (n : Nat) (p : Addr) (ms : List Mv), vs = [.int n, .ref p] ∧ Wd H p ms ∧ (∀ m ∈ ms, MvOk n m) ∧ ms.length ≤ 1000 ∧ n ≤ 16 ∧ ∀ H', Kp N0 H H' → Q .non H'
theorem MvOk.up {n k : Nat} {m : Mv} (h : MvOk n m) (hk : n ≤ k) : MvOk k m := by
  cases m with
  | sw i j => exact ⟨h.1, by have := h.2; omega⟩
  | tn i j l => exact ⟨h.1, h.2.1, by have := h.2.2; omega⟩
def sp_undone (K : PySem.W.Frag) : Sp := fun vs H Q _ => ∃ (p : Addr) (ms : List Mv), vs = [.ref p] ∧ Wd H p ms ∧ (∀ m ∈ ms, MvOk 16 m) ∧ ms.length ≤ 1000 ∧ ∀ p' H', Kp N0 H H' → Wd H' p' ms.reverse → Q (.ref p') H'
def sp_moved (K : PySem.W.Frag) : Sp := fun vs H Q _ => ∃ (a b : Addr) (r : List Int) (ms : List Mv) (n : Nat), vs = [.ref a, .ref b] ∧ SqT K H a (r.map V.int) ∧ Wd H b ms ∧ (∀ m ∈ ms, MvOk n m) ∧ r.length = n + 1 ∧ n ≤ 16 ∧ ms.length ≤ 1000 ∧ Row r ∧ AllSh (acts r ms) ∧ ∀ p H', Kp N0 H H' → H' p = some (.tup ((acts r ms).map V.int)) → Q (.ref p) H'
/-! ### the order of the points by their numbers; swaps that bring it about -/
def nvl (e : List Int) (x : Nat) : Int := e.getD (1 + x) 0
def nls (pl : List Nat) : List V := pl.map fun x => V.int (x : Nat)
theorem drop_nvl {n : Nat} {e : List Int} (h : e.length = n + 1) : (List.range n).map (nvl e) = e.drop 1 := drop_range h
theorem lex_head {a b : Int} {l m : List Int} (h : HT.lexLt (a :: l) (b :: m) = false) : b ≤ a := by
  rw [HT.lexLt_cons] at h
  by_cases e : a = b
  · omega
  · rw [if_neg e] at h
    have := of_decide_eq_false h
    omega
theorem bound_of {n : Nat} {pl : List Nat} (h : pl.Perm (List.range n)) : ∀ x ∈ pl, x < n := fun x hx => List.mem_range.mp (h.mem_iff.mp hx)
theorem len_of {n : Nat} {pl : List Nat} (h : pl.Perm (List.range n)) : pl.length = n := by rw [h.length_eq, List.length_range]
def sp_shadow_row (K : PySem.W.Frag) : Sp := fun vs H Q _ => ∃ (n : Nat), vs = [.int n] ∧ n ≤ 100 ∧ ∀ p H' (sh : List Int), Kp N0 H H' → H' p = some (.tup (sh.map V.int)) → sh.length = n + 1 → Q (.ref p) H'
theorem ok_shadow_row (T : Txt K mg) (D : Df K mg "shadow_row" s_shadow_row ["n"]) : C8.Cal P w K mg base 1 "shadow_row" (sp_shadow_row K) [] := by
  obtain ⟨f, fd, D, hb⟩ := D
  refine C8.cal0 D (.all hb) .nil sc_shadow_row (fun vs H Q E h => ?_) (fun cdv A outer s H vs Q E hr h => ?_)
  · obtain ⟨_, rfl, _⟩ := h; rfl
  · obtain ⟨n, rfl, hn, q⟩ := h
    refine ⟨_, (pss_one (ps_ret (pe_op (opK (K := K) rCatI op_catI) (pe_tupN (pa_cons (pe_op op_mulE pe_int (pv 0)) pa_nil)) (pe_tupRg3 rfl (by rfl) T.b_tuple (prg_3 (by rfl) T.b_range (pa_cons (pv 0) (pa_cons pe_int (pa_cons (pe_un un_neg pe_int) pa_nil)))))))), ?_⟩
    refine ⟨_, rfl, _, _, rfl, rfl, mulX_left (by decide), newT (sz_ (by simp)) fun p1 H1 _ k1 hp1 => ?_⟩
    refine ⟨_, rfl, _, rfl, _, _, _, rfl, by decide, by decide, n, ?_, by omega, fun p2 hp2n => ?_⟩
    · have := RgC.neg (i := (n : Int)) (j := 0) (by omega) (by omega) (by omega) (by omega)
      rw [show ((n : Int) - 0).toNat = n by omega] at this
      exact this
    have k2 : Kp N0 H1 (upd H1 p2 (.tup (RgV3 (n : Int) (-1) n))) := .new hp2n
    have hp2 : upd H1 p2 (.tup (RgV3 (n : Int) (-1) n)) p2 = some (.tup (RgV3 (n : Int) (-1) n)) := upd_same
    generalize upd H1 p2 (.tup (RgV3 (n : Int) (-1) n)) = H2 at k2 hp2
    refine catT (k2.tup _ _ hp1) hp2 (sz_ (by simp [RgV3]; omega)) fun p3 H3 k3 hp3 => ?_
    refine q p3 H3 ((3 * (n : Int)) :: (List.range n).map fun k : Nat => (n : Int) + (k : Nat) * -1) ((k1.trans k2).trans k3) ?_ (by simp)
    rw [hp3]
    unfold RgV3
    rw [List.map_cons, List.map_map]
    rfl
/-- what the walk ranks: the number, a shade, the place -/
def tri (e : List Int) (s : Nat → Int) (i : Nat) : List Int := [nvl e i, s i, (i : Int)]
theorem pairs_rws {H : Hp} {L : List (Addr × List Int)} (h : ∀ p ∈ L, H p.1 = some (.tup (p.2.map V.int))) : Rws H (L.map fun p => V.ref p.1) (L.map (·.2)) := by
  refine Rws.of (by simp) fun i v r hv hr => ?_
  rw [List.getElem?_map] at hv hr
  obtain ⟨x, hx, rfl⟩ := Option.map_eq_some_iff.mp hv
  obtain ⟨y, hy, rfl⟩ := Option.map_eq_some_iff.mp hr
  obtain rfl : x = y := Option.some.inj (hx.symm.trans hy)
  exact ⟨x.1, rfl, h x (List.mem_of_getElem? hx)⟩
theorem sort_tri {H : Hp} {p : Addr} {us : List V} {pl0 : List Nat} {e : List Int} {s : Nat → Int} {n : Nat} {Q : VK} (h : H p = some (.lst us)) (hr : Rws H us (pl0.map (tri e s))) (hp : pl0.Perm (List.range n))
    (q : ∀ (p' : Addr) (H1 : Hp) (us' : List V) (pl : List Nat), H p' = none → Kp N0 H H1 → H1 p' = some (.lst us') → Rws H1 us' (pl.map (tri e s)) → pl.Perm (List.range n) → (pl.map (nvl e)).Pairwise (fun a b => b ≤ a) → Q (.ref p') H1) : rSortTup K true [.ref p] [.bl true] H Q := by
  obtain ⟨L, rfl, hL2, hL⟩ := rws_pairs hr
  refine sortTR (SqL.of h) (fun x hx => ⟨hL x hx, fun z => ?_⟩) fun L' p' H1 hperm hsrt np k hp' => ?_
  · have : x.2 ∈ pl0.map (tri e s) := by
      rw [hL2]
      exact List.mem_map.mpr ⟨x, hx, rfl⟩
    obtain ⟨i, _, e1⟩ := List.mem_map.mp this
    rw [← e1] at z
    cases z
  have key : ∀ x ∈ L', x.2 = tri e s (x.2.getD 2 0).toNat := fun x hx => by
    have : x.2 ∈ pl0.map (tri e s) := by
      rw [hL2]
      exact List.mem_map.mpr ⟨x, hperm.mem_iff.mp hx, rfl⟩
    obtain ⟨i, _, e1⟩ := List.mem_map.mp this
    rw [← e1]
    show tri e s i = tri e s ((i : Int)).toNat
    rw [Int.toNat_natCast]
  have em : L'.map (·.2) = (L'.map fun x => (x.2.getD 2 0).toNat).map (tri e s) := by
    rw [List.map_map]
    exact List.map_congr_left key
  refine q p' H1 (L'.map fun x => V.ref x.1) (L'.map fun x => (x.2.getD 2 0).toNat) np k hp' ?_ ?_ ?_
  · rw [← em]
    exact pairs_rws fun x hx => k.tup _ _ (hL x (hperm.mem_iff.mp hx))
  · refine (hperm.map fun x => (x.2.getD 2 0).toNat).trans ?_
    rw [show (L.map fun x => (x.2.getD 2 0).toNat) = (L.map (·.2)).map fun r => (r.getD 2 0).toNat by rw [List.map_map]; rfl, ← hL2, List.map_map]
    rw [show pl0.map ((fun r : List Int => (r.getD 2 0).toNat) ∘ tri e s) = pl0 from (List.map_congr_left fun i _ => Int.toNat_natCast i).trans (List.map_id _)]
    exact hp
  · rw [List.map_map, List.pairwise_map]
    refine List.Pairwise.imp_of_mem (fun {x y} hx hy hxy => ?_) hsrt
    rw [key x hx, key y hy] at hxy
    exact lex_head (if_pos rfl ▸ hxy)
def sp_ranked (K : PySem.W.Frag) : Sp := fun vs H Q _ => ∃ (pe ps : Addr) (e sh : List Int) (n : Nat), vs = [.ref pe, .ref ps] ∧ H pe = some (.tup (e.map V.int)) ∧ H ps = some (.tup (sh.map V.int)) ∧ e.length = n + 1 ∧ sh.length = n + 1 ∧ n ≤ 100 ∧
  ∀ p H' us (pl : List Nat), H p = none → Kp N0 H H' → H' p = some (.lst us) → Rws H' us (pl.map (tri e (nvl sh))) → pl.Perm (List.range n) → (pl.map (nvl e)).Pairwise (fun a b => b ≤ a) → Q (.ref p) H'
theorem ok_ranked (T : Txt K mg) (D : Df K mg "_ranked" s_ranked ["entries", "shadow"]) : C8.Cal P w K mg base 1 "_ranked" (sp_ranked K) [] := by
  obtain ⟨f, fd, D, hb⟩ := D
  refine C8.cal0 D (.all hb) .nil sc_ranked (fun vs H Q E h => ?_) (fun cdv A outer s H vs Q E hr h => ?_)
  · obtain ⟨_, _, _, _, _, rfl, _⟩ := h; rfl
  · obtain ⟨pe, ps, e, sh, n, rfl, he, hs, hel, hsl, hn, q⟩ := h
    refine ⟨_, (pss_one (ps_ret (pe_callBK (cr_sortTR (K := K)) (by rfl) T.b_sorted (by decide +kernel) (pa_cons (pe_lc (own := [("at", 2)]) (g := gName 2) rfl sc_ranked.nd (pi_range2 (by rfl) T.b_range (pa_cons pe_int (pa_cons (pe_callB (callK (K := K) Vf.rLen call_lenI) (by rfl) T.b_len (by decide +kernel) (pa_cons (pv 0) pa_nil)) pa_nil))) (C8b.blk (N := ["entries", "shadow", "at"]) (sc := C8.fnScope s_ranked) (by decide +kernel)) (fun _ _ _ _ _ => (pg_name (i := 2) sc_ranked.nd rfl (Or.inl rfl))) (fun _ _ _ _ _ => pts_nil) (fun _ _ _ _ _ => (pe_tupN (pa_cons (pe_ix (ixK (K := K) rIxT ix_tup) (pv 0) (pv 2) (fun _ _ => rfl)) (pa_cons (pe_ix (ixK (K := K) rIxT ix_tup) (pv 1) (pv 2) (fun _ _ => rfl)) (pa_cons (pe_op op_sub (pv 2) pe_int) pa_nil)))))) pa_nil) (pk_cons pe_bl pk_nil)))), ?_⟩
    refine ⟨_, rfl, lenT rfl he ⟨_, _, rfl, ⟨by decide, by decide, by rw [List.length_map]; omega, by rw [List.length_map]; omega⟩, ?_⟩⟩
    refine lc_rows (walk_rangeN (by rw [List.length_map]; omega)) (n := n) (fun i => tri e (nvl sh) i) (by omega) (fun _ _ => trivial) ?_ ?_
    · rintro i x H1' H1 hi k ⟨rfl, rfl⟩ R hR
      refine ⟨rfl, _, rfl, _, rfl, pe, _, _, _, rfl, rfl, SqT.of (k.tup _ _ he), at1 (ns := e) (j := i) (by omega), ?_⟩
      refine ⟨_, rfl, _, rfl, ps, _, _, _, rfl, rfl, SqT.of (k.tup _ _ hs), at1 (ns := sh) (j := i) (by omega), ?_⟩
      refine ⟨_, rfl, _, _, rfl, rfl, newT (sz_ (by simp)) fun p2 H2 _ k2 hp2 => hR _ _ k2 ?_⟩
      rw [hp2]
      show some (HO.tup [V.int _, V.int _, V.int (1 + (i : Int) - 1)]) = _
      rw [show 1 + (i : Int) - 1 = (i : Int) by omega]
      rfl
    intro D H1 ys nD k1 hD hys
    exact sort_tri hD hys (.refl _) fun p' H2 us' pl np k2 hp' hr' hperm pw => q p' H2 us' pl (k1.live _ np) (k1.trans k2) hp' hr' hperm pw

theorem flat_nls (pl : List Nat) : (nls pl).all flatV = true := by
  unfold nls
  rw [List.all_map]
  exact List.all_eq_true.mpr fun _ _ => rfl
theorem nls_get {pl : List Nat} {i x : Nat} (h : pl[i]? = some x) : (nls pl)[i]? = some (.int (x : Nat)) := by
  unfold nls
  rw [List.getElem?_map, h]
  rfl
theorem nls_len (pl : List Nat) : (nls pl).length = pl.length := by simp [nls]
theorem nls_at {pl : List Nat} {i x : Nat} (h : pl[i]? = some x) : atI (nls pl) (i : Int) = some (.int (x : Nat)) := atI_nat (nls_get h)
theorem nls_set (pl : List Nat) (i x : Nat) : (nls pl).set i (.int (x : Nat)) = nls (pl.set i x) := by
  unfold nls
  rw [List.map_set]
theorem set_map {α β : Type} (f : α → β) (l : List α) (i : Nat) (x : α) : (l.map f).set i (f x) = (l.set i x).map f := by rw [List.map_set]
/-- rows, their numbers put in an order -/
def arr (r : List Int) (th : List Nat) : List Int := r.getD 0 0 :: th.map (nvl r)
theorem arr_range {n : Nat} {r : List Int} (h : r.length = n + 1) : arr r (List.range n) = r := by
  unfold arr
  rw [drop_nvl h]
  obtain ⟨d, m, rfl, _⟩ := cons_of h
  rfl
theorem arr_swap {r : List Int} {th : List Nat} {i j : Nat} (hi : i < th.length) (hj : j < th.length) : act (arr r th) (.sw i j) = arr r ((th.set i (th.getD j 0)).set j (th.getD i 0)) := by
  unfold arr
  rw [act_sw]
  have g : ∀ k, k < th.length → (th.map (nvl r)).getD k 0 = nvl r (th.getD k 0) := fun k hk => by
    rw [List.getD_eq_getElem?_getD, List.getElem?_map, List.getElem?_eq_getElem hk, List.getD_eq_getElem?_getD, List.getElem?_eq_getElem hk]
    rfl
  rw [g i hi, g j hj, set_map, set_map]
theorem walk_enL {K : PySem.W.Frag} {a : Addr} {xs : List V} : Walk (Ite K a) xs.length (fun H => SqL K H a xs) (YPair (fun i => some (.int (i : Nat))) (fun i => xs[i]?)) := by
  refine ⟨fun i _ hi q => ⟨xs, xs[i], q, by simp [hi]⟩, fun _ q => ⟨xs, q, Nat.le_refl _⟩, fun i H v H' _ q y => ?_⟩
  obtain ⟨T, x, h1, h2, h3, h4⟩ := y
  exact ⟨T, .int (i : Nat), x, h1, h2, h3, rfl, h4 xs q⟩
theorem rw_mv {H : Hp} {p D : Addr} {m : Mv} {zs zs' : List V} (h : H p = some (.tup m.val)) (hd : H D = some (.lst zs)) : upd H D (.lst zs') p = some (.tup m.val) := by
  rw [upd_ne (ne_of h hd (by intro z; cases z))]
  exact h
theorem iteNeI {x y : Int} {A B : Prop} (h1 : x ≠ y → A) (h2 : x = y → B) : if (!decide (V.int x = V.int y)) = true then A else B := by
  by_cases e : x = y
  · rw [decide_eq_true (congrArg V.int e)]
    exact iteF (h2 e)
  · rw [decide_eq_false fun z => e (V.int.inj z)]
    exact iteT (h1 e)
theorem rg_nls (n : Nat) : rgV 0 (n : Int) = nls (List.range n) := by
  unfold rgV nls
  rw [show ((n : Int) - 0).toNat = n by omega]
  refine List.map_congr_left fun i _ => ?_
  rw [Int.zero_add]
/-- an order of the points on the way -/
structure Thr (n : Nat) (pl th : List Nat) (i : Nat) : Prop where
  len : th.length = n
  nd : th.Nodup
  all : ∀ x, x < n → x ∈ th
  same : th.take i = pl.take i
theorem Thr.at {n i : Nat} {pl th : List Nat} (t : Thr n pl th i) (hl : pl.length = n) {k : Nat} (hk : k < i) (hi : i ≤ n) : th.getD k 0 = pl.getD k 0 := by
  have e := congrArg (fun l : List Nat => l.getD k 0) t.same
  simp only [List.getD_eq_getElem?_getD, List.getElem?_take_of_lt hk] at e
  rw [List.getD_eq_getElem?_getD, List.getD_eq_getElem?_getD]
  exact e
theorem getD_get {th : List Nat} {i : Nat} (h : i < th.length) : th[i]? = some (th.getD i 0) := by
  rw [List.getD_eq_getElem?_getD, List.getElem?_eq_getElem h]
  rfl
theorem nd_inj {th : List Nat} (nd : th.Nodup) {i j : Nat} (hi : i < th.length) (hj : j < th.length) (e : th.getD i 0 = th.getD j 0) : i = j := by
  rw [List.getD_eq_getElem?_getD, List.getElem?_eq_getElem hi, List.getD_eq_getElem?_getD, List.getElem?_eq_getElem hj] at e
  have e : th[i] = th[j] := e
  have h := List.pairwise_iff_getElem.mp nd
  by_cases h1 : i < j
  · exact absurd e (h i j hi hj h1)
  · by_cases h2 : j < i
    · exact absurd e.symm (h j i hj hi h2)
    · omega
theorem Thr.find {n i : Nat} {pl th : List Nat} (t : Thr n pl th i) (hl : pl.length = n) (nd : pl.Nodup) (lt : ∀ x ∈ pl, x < n) (hi : i < n) : ∃ j, j < n ∧ i ≤ j ∧ th.getD j 0 = pl.getD i 0 ∧ ∀ m, m < j → th.getD m 0 ≠ pl.getD i 0 := by
  have hw : pl.getD i 0 < n := lt _ (by
    rw [List.getD_eq_getElem?_getD, List.getElem?_eq_getElem (show i < pl.length by omega)]
    exact List.getElem_mem _)
  obtain ⟨j, hj, e⟩ := List.mem_iff_getElem.mp (t.all _ hw)
  have hjn : j < n := by rw [← t.len]; exact hj
  have ej : th.getD j 0 = pl.getD i 0 := by
    rw [List.getD_eq_getElem?_getD, List.getElem?_eq_getElem hj]
    exact e
  refine ⟨j, hjn, ?_, ej, fun m hm z => ?_⟩
  · by_cases h : i ≤ j
    · exact h
    · have h1 := t.at hl (show j < i by omega) (by omega)
      have := nd_inj nd (show i < pl.length by omega) (show j < pl.length by omega) (by rw [← ej, h1])
      omega
  · have := nd_inj t.nd (show m < th.length by rw [t.len]; omega) hj (by rw [z, ej])
    omega
theorem Thr.step {n i j : Nat} {pl th : List Nat} (t : Thr n pl th i) (hl : pl.length = n) (hi : i < n) (hj : j < n) (hij : i ≤ j) (e : th.getD j 0 = pl.getD i 0) : Thr n pl ((th.set i (th.getD j 0)).set j (th.getD i 0)) (i + 1) := by
  have hit : i < th.length := by rw [t.len]; exact hi
  have hjt : j < th.length := by rw [t.len]; exact hj
  have key : ∀ k, k < n → ((th.set i (th.getD j 0)).set j (th.getD i 0)).getD k 0 = th.getD (if k = j then i else if k = i then j else k) 0 := fun k hk => by
    rw [List.getD_eq_getElem?_getD, List.getElem?_set, List.length_set]
    by_cases h1 : j = k
    · subst h1
      rw [if_pos rfl, if_pos hjt, if_pos rfl]
      rfl
    · rw [if_neg h1, List.getElem?_set, if_neg (Ne.symm h1)]
      by_cases h2 : i = k
      · subst h2
        rw [if_pos rfl, if_pos hit, if_pos rfl]
        rfl
      · rw [if_neg h2, if_neg (Ne.symm h2), List.getD_eq_getElem?_getD]
  have hln : ((th.set i (th.getD j 0)).set j (th.getD i 0)).length = n := by rw [List.length_set, List.length_set, t.len]
  generalize (th.set i (th.getD j 0)).set j (th.getD i 0) = tt at key hln
  have sg : ∀ k, k < n → (if k = j then i else if k = i then j else k) < n := fun k hk => by split <;> (try split) <;> omega
  refine ⟨hln, ?_, fun x hx => ?_, ?_⟩
  · refine List.pairwise_iff_getElem.mpr fun a b ha hb hab z => ?_
    rw [hln] at ha hb
    have ga : tt.getD a 0 = tt.getD b 0 := by
      rw [List.getD_eq_getElem?_getD, List.getElem?_eq_getElem (by rw [hln]; exact ha), List.getD_eq_getElem?_getD, List.getElem?_eq_getElem (by rw [hln]; exact hb)]
      exact z
    rw [key a ha, key b hb] at ga
    have := nd_inj t.nd (by rw [t.len]; exact sg a ha) (by rw [t.len]; exact sg b hb) ga
    revert this
    split <;> split <;> (try split) <;> (try split) <;> omega
  · obtain ⟨k, hk, ek⟩ := List.mem_iff_getElem.mp (t.all x hx)
    rw [t.len] at hk
    have h2 : tt.getD (if k = j then i else if k = i then j else k) 0 = x := by
      rw [key _ (sg k hk)]
      have : (if (if k = j then i else if k = i then j else k) = j then i else if (if k = j then i else if k = i then j else k) = i then j else (if k = j then i else if k = i then j else k)) = k := by
        by_cases h1 : k = j
        · subst h1
          by_cases h3 : i = k
          · simp [h3]
          · simp [h3]
        · by_cases h3 : k = i
          · subst h3
            simp [h1]
          · simp [h1, h3]
      rw [this, List.getD_eq_getElem?_getD, List.getElem?_eq_getElem (by rw [t.len]; exact hk)]
      exact ek
    rw [← h2, List.getD_eq_getElem?_getD, List.getElem?_eq_getElem (by rw [hln]; exact sg k hk)]
    exact List.getElem_mem _
  · refine List.ext_getElem? fun k => ?_
    by_cases hk : k < i + 1
    · rw [List.getElem?_take_of_lt hk, List.getElem?_take_of_lt hk, getD_get (show k < tt.length by omega), getD_get (show k < pl.length by omega), key k (by omega)]
      by_cases h1 : k = i
      · subst h1
        by_cases h2 : k = j
        · subst h2
          rw [if_pos rfl, e]
        · rw [if_neg h2, if_pos rfl, e]
      · rw [if_neg (by omega), if_neg h1, t.at hl (by omega) (by omega)]
    · rw [List.getElem?_eq_none (by simp; omega), List.getElem?_eq_none (by simp; omega)]
def sp_sorting_swaps (K : PySem.W.Frag) : Sp := fun vs H Q _ => ∃ (pp : Addr) (pl : List Nat) (n : Nat), vs = [.ref pp] ∧ H pp = some (.lst (nls pl)) ∧ pl.Perm (List.range n) ∧ n ≤ 100 ∧
  ∀ p H' vs (ws : List Mv), H p = none → Kp N0 H H' → H' p = some (.lst vs) → Mvs H' vs ws → (∀ m ∈ ws, MvOk n m) → ws.length ≤ n → (∀ r : List Int, r.length = n + 1 → acts r ws = arr r pl) → Q (.ref p) H'
theorem ok_sorting_swaps (T : Txt K mg) (D : Df K mg "_sorting_swaps" s_sorting_swaps ["places"]) : C8.Cal P w K mg base 1 "_sorting_swaps" (sp_sorting_swaps K) [] := by
  obtain ⟨f, fd, D, hb⟩ := D
  refine C8.cal0 D (.all hb) .nil sc_sorting_swaps (fun vs H Q E h => ?_) (fun cdv A outer s H vs Q E hr h => ?_)
  · obtain ⟨_, _, _, rfl, _⟩ := h; rfl
  · obtain ⟨pp, pl, n, rfl, hp, hperm, hn, q⟩ := h
    refine ⟨_, (pss_cons (ps_set (i := 1) sc_sorting_swaps.nd rfl (Or.inl rfl) (pe_listRgN rfl (by rfl) T.b_list (prg_1 (by rfl) T.b_range (pe_callB (callK (K := K) Vf.rLen call_lenI) (by rfl) T.b_len (by decide +kernel) (pa_cons (pv 0) pa_nil)))))
      (pss_cons (ps_set (i := 2) sc_sorting_swaps.nd rfl (Or.inl rfl) (pe_lstN pa_nil))
      (pss_cons (ps_for PassesOwn.never rfl (pi_enum (by rfl) T.b_enumerate (pa_cons (pv 0) pa_nil)) (pg_tup rfl (pgs_cons (pg_name (i := 3) sc_sorting_swaps.nd rfl (Or.inl rfl)) (pgs_cons (pg_name (i := 4) sc_sorting_swaps.nd rfl (Or.inl rfl)) pgs_nil))) (pss_cons (ps_set (i := 5) sc_sorting_swaps.nd rfl (Or.inl rfl) (pe_bm PySem.F.plainAttrs_list PySem.F.slot_list_index PySem.F.type_list_index mt_index (pv 1) (pa_cons (pv 4) pa_nil)))
      (pss_one (ps_if (pt_cmpR op_ne (pv 5) (pv 3) (nomark _)) (pss_cons (ps_expr (pe_bm PySem.F.plainAttrs_list PySem.F.slot_list_append PySem.F.type_list_append mt_append (pv 2) (pa_cons (pe_tupN (pa_cons pe_str (pa_cons (pv 3) (pa_cons (pv 5) pa_nil)))) pa_nil)))
      (pss_one (ps_asg (pe_tupN (pa_cons (pe_ix (ixK (K := K) rIxL ix_list) (pv 1) (pv 5) (fun _ _ => rfl)) (pa_cons (pe_ix (ixK (K := K) rIxL ix_list) (pv 1) (pv 3) (fun _ _ => rfl)) pa_nil))) (pg_tup rfl (pgs_cons (pg_sub (pv 1) (pv 3) set_list) (pgs_cons (pg_sub (pv 1) (pv 5) set_list) pgs_nil)))))) pss_nil))))
      (pss_one (ps_ret (pv 2)))))), ?_⟩
    have hlen := len_of hperm
    have hlt := bound_of hperm
    have hnd : pl.Nodup := hperm.nodup_iff.mpr List.nodup_range
    refine ⟨_, rfl, lenL rfl (SqL.of hp) ⟨_, rfl, rgL ⟨by decide, by decide, by rw [nls_len]; omega, by rw [nls_len]; omega, by rw [nls_len]; omega⟩ fun p1 H1 n1 k1 hp1 => ?_⟩⟩
    rw [nls_len, hlen, rg_nls] at hp1
    refine newL (sz_ (by simp)) fun p2 H2 n2 k2 hp2 => ?_
    have k02 := k1.trans k2
    have hp12 := k2.keep _ _ (fun z => z) hp1
    have n2' : H p2 = none := k1.live _ n2
    have ne12 : p1 ≠ p2 := ne_of_none hp1 n2
    refine ⟨_, rfl, pp, _, rfl, SqL.of (k02.keep _ _ (fun z => z) hp), ?_⟩
    refine for_it (n := n) (by rw [← hlen, ← nls_len]; exact walk_enL (xs := nls pl)) (fun i σ H' => ∃ v3 v4 v5 th vs ws, σ = [some (.ref pp), some (.ref p1), some (.ref p2), v3, v4, v5] ∧ Kp N0 H H' ∧ H' p1 = some (.lst (nls th)) ∧ Thr n pl th i ∧ H' p2 = some (.lst vs) ∧ Mvs H' vs ws ∧ (∀ m ∈ ws, MvOk n m) ∧ ws.length ≤ i ∧ ∀ r : List Int, r.length = n + 1 → acts r ws = arr r th)
      ⟨_, _, _, List.range n, [], [], rfl, k02, hp12, ⟨List.length_range, List.nodup_range, fun x hx => List.mem_range.mpr hx, by simp⟩, hp2, trivial, (by intro _ h; cases h), Nat.le_refl _, fun r hr => (arr_range hr).symm⟩
      (fun _ _ _ _ ⟨_, _, _, _, _, _, _, k, _⟩ => SqL.of (k.keep _ _ (fun z => z) hp)) ?_ ?_
    · rintro i x σ H3 H3' hi ⟨v3, v4, v5, th, vs, ws, rfl, k3, hth, T3, hvs, hms, hok, hwl, hact⟩ ⟨T, x1, x2, rfl, hT, rfl, e1, e2⟩
      have k3' : Kp N0 H3 (upd H3 T (.tup [x1, x2])) := .new hT
      obtain rfl : x1 = _ := (Option.some.inj e1).symm
      have e2 : (nls pl)[i]? = some x2 := e2
      rw [nls_get (getD_get (show i < pl.length by omega))] at e2
      cases e2
      obtain ⟨j, hj, hij, ej, hfirst⟩ := T3.find hlen hnd hlt hi
      refine ⟨T, _, rfl, SqT.of upd_same, rfl, _, _, rfl, _, _, rfl, rfl, ?_⟩
      have hth' := k3'.keep _ _ (fun z => z) hth
      have hvs' := k3'.keep _ _ (fun z => z) hvs
      have hms' := hms.kp k3'
      have kk := k3.trans k3'
      have tl := T3.len
      generalize upd H3 T (.tup [V.int (i : Nat), V.int ((pl.getD i 0 : Nat) : Int)]) = H4 at k3' hth' hvs' hms' kk
      have gj := nls_get (getD_get (show j < th.length by omega))
      refine ⟨_, rfl, .inl ⟨rfl, _, SqL.of hth'⟩, _, rfl, p1, _, _, j, _, rfl, rfl, SqL.of hth', rfl, flat_nls th, gj, ?_, ?_, ?_⟩
      · rw [ej]
        simp [eqV]
      · intro m z' hm hz
        rw [nls_get (getD_get (show m < th.length by omega))] at hz
        cases hz
        have h7 := hfirst m hm
        generalize th.getD m 0 = w1 at h7 ⊢
        generalize pl.getD i 0 = w2 at h7 ⊢
        simp [eqV]
        omega
      refine ⟨_, rfl, _, rfl, rfl, _, rfl, iteNeI (fun z => ?_) (fun z => ?_)⟩
      · have hlt' : i < j := by omega
        have hsz : vs.length < sizeLine := Nat.lt_of_le_of_lt (by rw [hms.len]; omega : vs.length ≤ 1000) (by decide)
        refine ⟨_, rfl, .inl ⟨rfl, _, SqL.of hvs'⟩, _, rfl, _, rfl, newT (sz_ (by simp)) fun p5 H5 _ k5 hp5 => ?_⟩
        have hvs5 := k5.keep _ _ (fun z => z) hvs'
        refine ⟨p2, _, _, rfl, rfl, hvs5, hsz, ?_⟩
        have hp5' := rw_mv (zs' := vs ++ [.ref p5]) (m := .sw i j) hp5 hvs5
        have hms6 : Mvs (upd H5 p2 (.lst (vs ++ [.ref p5]))) (vs ++ [.ref p5]) (ws ++ [.sw i j]) := Mvs.app (Mvs.upd hvs5 (hms'.kp k5)) ⟨⟨p5, rfl, hp5'⟩, trivial⟩
        have hvs6 : upd H5 p2 (.lst (vs ++ [.ref p5])) p2 = some (.lst (vs ++ [.ref p5])) := upd_same
        have hth6 : upd H5 p2 (.lst (vs ++ [.ref p5])) p1 = some (.lst (nls th)) := by
          rw [upd_ne ne12]
          exact k5.keep _ _ (fun z => z) hth'
        have k06 : Kp N0 H (upd H5 p2 (.lst (vs ++ [.ref p5]))) := .mut0 n2' (kk.trans k5)
        generalize upd H5 p2 (.lst (vs ++ [.ref p5])) = H6 at hms6 hvs6 hth6 k06
        refine ⟨_, rfl, _, rfl, p1, _, _, _, rfl, rfl, SqL.of hth6, atI_nat gj, _, rfl, _, rfl, p1, _, _, _, rfl, rfl, SqL.of hth6, atI_nat (nls_get (getD_get (show i < th.length by omega))), newT (sz_ (by simp)) fun p7 H7 _ k7 hp7 => ?_⟩
        have hth7 := k7.keep _ _ (fun z => z) hth6
        have hvs7 := k7.keep _ _ (fun z => z) hvs6
        refine ⟨p7, _, rfl, SqT.of hp7, rfl, _, _, rfl, ?_⟩
        refine ⟨_, rfl, _, rfl, p1, _, _, i, rfl, rfl, hth7, Evl.ixN_nat (by rw [nls_len]; omega), ?_⟩
        have h8 : upd H7 p1 (.lst ((nls th).set i (.int ((th.getD j 0 : Nat) : Int)))) p1 = some (.lst (nls (th.set i (th.getD j 0)))) := by rw [upd_same, nls_set]
        have hv8 : upd H7 p1 (.lst ((nls th).set i (.int ((th.getD j 0 : Nat) : Int)))) p2 = some (.lst (vs ++ [.ref p5])) := by rw [upd_ne ne12.symm]; exact hvs7
        have hm8 := Mvs.upd (zs' := (nls th).set i (.int ((th.getD j 0 : Nat) : Int))) hth7 (hms6.kp k7)
        have k08 : Kp N0 H (upd H7 p1 (.lst ((nls th).set i (.int ((th.getD j 0 : Nat) : Int))))) := .mut0 n1 (k06.trans k7)
        generalize upd H7 p1 (.lst ((nls th).set i (.int ((th.getD j 0 : Nat) : Int)))) = H8 at h8 hv8 hm8 k08
        refine ⟨_, _, rfl, _, rfl, _, rfl, p1, _, _, j, rfl, rfl, h8, Evl.ixN_nat (by rw [nls_len, List.length_set]; omega), rfl, ?_⟩
        have h9 : upd H8 p1 (.lst ((nls (th.set i (th.getD j 0))).set j (.int ((th.getD i 0 : Nat) : Int)))) p1 = some (.lst (nls ((th.set i (th.getD j 0)).set j (th.getD i 0)))) := by rw [upd_same, nls_set]
        have hv9 : upd H8 p1 (.lst ((nls (th.set i (th.getD j 0))).set j (.int ((th.getD i 0 : Nat) : Int)))) p2 = some (.lst (vs ++ [.ref p5])) := by rw [upd_ne ne12.symm]; exact hv8
        have hm9 := Mvs.upd (zs' := (nls (th.set i (th.getD j 0))).set j (.int ((th.getD i 0 : Nat) : Int))) h8 hm8
        refine ⟨_, _, _, _, _, _, rfl, .mut0 n1 k08, h9, T3.step hlen hi hj hij ej, hv9, hm9, fun m hm => ?_, by simp; omega, fun r hr => ?_⟩
        · rcases List.mem_append.mp hm with hm | hm
          · exact hok m hm
          · simp only [List.mem_cons, List.not_mem_nil, or_false] at hm
            subst hm
            exact ⟨hlt', hj⟩
        · rw [acts_append, hact r hr]
          exact arr_swap (by omega) (by omega)
      · have eij : i = j := by omega
        subst eij
        have st := T3.step hlen hi hj hij ej
        rw [show (th.set i (th.getD i 0)).set i (th.getD i 0) = th by
          refine List.ext_getElem? fun k => ?_
          rw [List.getElem?_set, List.getElem?_set, List.length_set]
          by_cases h : i = k
          · subst h
            rw [if_pos rfl, if_pos (by omega), getD_get (by omega)]
          · rw [if_neg h, if_neg h]] at st
        exact ⟨_, _, _, th, vs, ws, rfl, kk, hth', st, hvs', hms', hok, by omega, hact⟩
    · rintro σ H3 ⟨v3, v4, v5, th, vs, ws, rfl, k3, hth, T3, hvs, hms, hok, hwl, hact⟩
      have e : th = pl := by
        have := T3.same
        rwa [List.take_of_length_le (by rw [T3.len]; exact Nat.le_refl _), List.take_of_length_le (by rw [hlen]; exact Nat.le_refl _)] at this
      subst e
      exact ⟨_, rfl, q p2 H3 vs ws n2' k3 hvs hms hok hwl hact⟩

/-! ### settle -/
def st0 (r : List Int) : Int × List Int := (r.getD 0 0, sd (r.drop 1))
def settledOf (r : List Int) : List Int := (fend (st0 r)).1 :: (fend (st0 r)).2
theorem sd_congr {l l' : List Int} (h : l.Perm l') : sd l = sd l' := sd_uniq ((sd_perm l).trans h) (sd_pw l)
theorem st_of {n : Nat} {e : List Int} {pl : List Nat} (h : e.length = n + 1) (hp : pl.Perm (List.range n)) (pw : (pl.map (nvl e)).Pairwise fun a b => b ≤ a) : st0 e = (e.getD 0 0, pl.map (nvl e)) := by
  have hperm : (pl.map (nvl e)).Perm (e.drop 1) := by
    have := hp.map (nvl e)
    rwa [drop_nvl h] at this
  unfold st0
  rw [← sd_uniq hperm pw]
theorem srt_of {n : Nat} {e : List Int} (h : e.length = n + 1) (h1 : 3 ≤ n) (h2 : n ≤ 8) : Srt8 (st0 e) := ⟨sd_pw _, by show 3 ≤ (sd (e.drop 1)).length; rw [sd_len, List.length_drop]; omega, by show (sd (e.drop 1)).length ≤ 8; rw [sd_len, List.length_drop]; omega⟩
theorem nvl_tn {n : Nat} {e : List Int} {i j k : Nat} (h : e.length = n + 1) (hij : i < j) (hjk : j < k) (hk : k < n) (x : Nat) (hx : x < n) :
    nvl (act e (.tn i j k)) x = if x = i ∨ x = j ∨ x = k then nvl e x + (e.getD 0 0 - nvl e i - nvl e j - nvl e k) else nvl e x := by
  unfold nvl act
  dsimp only
  simp only [List.getD_eq_getElem?_getD (i := 1 + x), List.getElem?_set, List.length_set]
  by_cases h1 : x = k
  · subst h1
    rw [if_pos rfl, if_pos (by omega), if_pos (by omega)]
    rfl
  · rw [if_neg (by omega)]
    by_cases h2 : x = j
    · subst h2
      rw [if_pos rfl, if_pos (by omega), if_pos (by omega)]
      rfl
    · rw [if_neg (by omega)]
      by_cases h3 : x = i
      · subst h3
        rw [if_pos rfl, if_pos (by omega), if_pos (by omega)]
        rfl
      · rw [if_neg (by omega), if_neg (by omega), if_neg (by omega)]
theorem act0_tn {n : Nat} {e : List Int} {i j k : Nat} (h : e.length = n + 1) : (act e (.tn i j k)).getD 0 0 = e.getD 0 0 + (e.getD 0 0 - nvl e i - nvl e j - nvl e k) := by
  unfold nvl act
  dsimp only
  simp only [List.getD_eq_getElem?_getD (i := 0), List.getElem?_set, List.length_set]
  have hpos : 0 < e.length := by omega
  repeat (first | rw [if_neg (by omega)] | rw [if_pos hpos] | rw [if_pos rfl])
  rfl
theorem st_step {n : Nat} {e : List Int} {x y z i j k : Nat} {rest : List Nat} (h : e.length = n + 1) (hp : (x :: y :: z :: rest).Perm (List.range n)) (pw : ((x :: y :: z :: rest).map (nvl e)).Pairwise fun a b => b ≤ a)
    (hij : i < j) (hjk : j < k) (hk : k < n) (hm : ∀ t : Nat, (t = i ∨ t = j ∨ t = k) ↔ (t = x ∨ t = y ∨ t = z)) (hsum : nvl e i + nvl e j + nvl e k = nvl e x + nvl e y + nvl e z) (hlt : e.getD 0 0 < nvl e x + nvl e y + nvl e z) : st0 (act e (.tn i j k)) = fstep (st0 e) := by
  have nd : (x :: y :: z :: rest).Nodup := hp.nodup_iff.mpr List.nodup_range
  have lt := bound_of hp
  rw [st_of h hp pw]
  have ef : fstep (e.getD 0 0, (x :: y :: z :: rest).map (nvl e)) = (e.getD 0 0 + (e.getD 0 0 - nvl e x - nvl e y - nvl e z), sd ((nvl e x + (e.getD 0 0 - nvl e x - nvl e y - nvl e z)) :: (nvl e y + (e.getD 0 0 - nvl e x - nvl e y - nvl e z)) :: (nvl e z + (e.getD 0 0 - nvl e x - nvl e y - nvl e z)) :: rest.map (nvl e))) := by
    show (if e.getD 0 0 < nvl e x + nvl e y + nvl e z then _ else _) = _
    rw [if_pos hlt]
  rw [ef]
  unfold st0
  have eg : e.getD 0 0 - nvl e i - nvl e j - nvl e k = e.getD 0 0 - nvl e x - nvl e y - nvl e z := by omega
  have hl : (act e (.tn i j k)).length = n + 1 := by rw [act_len, h]
  rw [act0_tn h, eg]
  congr 1
  refine sd_congr ?_
  have p1 := (hp.map (nvl (act e (.tn i j k)))).symm
  rw [drop_nvl hl] at p1
  refine p1.trans (List.Perm.of_eq ?_)
  have hv := fun t ht => nvl_tn h hij hjk hk t ht
  have nd1 := List.pairwise_cons.mp nd
  have nd2 := List.pairwise_cons.mp nd1.2
  have nd3 := List.pairwise_cons.mp nd2.2
  rw [List.map_cons, List.map_cons, List.map_cons, hv x (lt x (by simp)), hv y (lt y (by simp)), hv z (lt z (by simp)), if_pos ((hm x).mpr (by simp)), if_pos ((hm y).mpr (by simp)), if_pos ((hm z).mpr (by simp)), eg]
  congr 3
  refine List.map_congr_left fun t ht => ?_
  rw [hv t (lt t (by simp [ht])), if_neg]
  intro c
  have a1 := nd1.1 t (by simp [ht])
  have a2 := nd2.1 t (by simp [ht])
  have a3 := nd3.1 t ht
  rcases (hm t).mp c with rfl | rfl | rfl
  · exact a1 rfl
  · exact a2 rfl
  · exact a3 rfl
theorem threeN {n : Nat} {pl : List Nat} (h : 3 ≤ n) (hp : pl.Perm (List.range n)) : ∃ x y z rest, pl = x :: y :: z :: rest := by
  have := len_of hp
  match pl, this with
  | x :: y :: z :: rest, _ => exact ⟨x, y, z, rest, rfl⟩
  | [], e => exact absurd (show 0 = n from e) (by omega)
  | [_], e => exact absurd (show 1 = n from e) (by omega)
  | [_, _], e => exact absurd (show 2 = n from e) (by omega)
theorem tripN {n x y z i j k : Nat} (h : ([(i : Int), (j : Int), (k : Int)] : List Int).Perm [(x : Int), (y : Int), (z : Int)]) : ∀ t : Nat, (t = i ∨ t = j ∨ t = k) ↔ (t = x ∨ t = y ∨ t = z) := fun t => by
  have := h.mem_iff (a := (t : Int))
  simp only [List.mem_cons, List.not_mem_nil, or_false] at this
  omega
/-- the words of the walk -/
theorem nls_ints (pl : List Nat) : nls pl = (pl.map fun x : Nat => (x : Int)).map V.int := by
  unfold nls
  rw [List.map_map]
  rfl
theorem perm_ints {n : Nat} {pl : List Nat} (h : pl.Perm (List.range n)) : (pl.map fun x : Nat => (x : Int)).Perm ((List.range n).map fun i : Nat => 0 + (i : Int)) :=
  (h.map _).trans (List.Perm.of_eq (List.map_congr_left fun i _ => (Int.zero_add _).symm))
theorem arr_V {n : Nat} {e : List Int} {pl : List Nat} (h : pl.length = n) : [V.int (e.getD 0 0)] ++ ((List.range n).map fun t => nvl e (pl.getD t 0)).map V.int = (arr e pl).map V.int := by
  have : (List.range n).map (fun t => nvl e (pl.getD t 0)) = pl.map (nvl e) := by
    refine List.ext_getElem (by simp [h]) fun i h1 h2 => ?_
    have hi : i < pl.length := by simpa using h2
    rw [List.getElem_map, List.getElem_map, List.getElem_range, List.getD_eq_getElem?_getD, List.getElem?_eq_getElem hi]
    rfl
  rw [this]
  rfl
theorem settled_arr {k : Nat} {r e : List Int} {x y z : Nat} {rest : List Nat} (hk : k ≤ 100) (hf : fl k (st0 r) = st0 e) (ee : st0 e = (e.getD 0 0, (x :: y :: z :: rest).map (nvl e))) (hc : ¬ e.getD 0 0 < nvl e x + nvl e y + nvl e z) : settledOf r = arr e (x :: y :: z :: rest) := by
  unfold settledOf
  rw [fend_of hk hf.symm (by rw [ee]; simp) (by rw [ee]; show nvl e x + nvl e y + nvl e z ≤ e.getD 0 0; omega), ee]
  rfl
theorem sett_next {n k : Nat} {r e : List Int} {x y z i j l : Nat} {rest : List Nat} (h : e.length = n + 1) (h1 : 3 ≤ n) (h2 : n ≤ 8) (hp : (x :: y :: z :: rest).Perm (List.range n)) (pw : ((x :: y :: z :: rest).map (nvl e)).Pairwise fun a b => b ≤ a)
    (hij : i < j) (hjk : j < l) (hk : l < n) (hm : ∀ t : Nat, (t = i ∨ t = j ∨ t = l) ↔ (t = x ∨ t = y ∨ t = z)) (hsum : nvl e i + nvl e j + nvl e l = nvl e x + nvl e y + nvl e z) (hc : e.getD 0 0 < nvl e x + nvl e y + nvl e z)
    (hf : fl k (st0 r) = st0 e) : fl (k + 1) (st0 r) = st0 (act e (.tn i j l)) ∧ n0 (st0 (act e (.tn i j l))).1 (st0 (act e (.tn i j l))).2 < n0 (st0 e).1 (st0 e).2 := by
  have es := st_step h hp pw hij hjk hk hm hsum hc
  have hns : ¬ Stnd (st0 e) := by
    rw [st_of h hp pw]
    show ¬ (nvl e x + nvl e y + nvl e z ≤ e.getD 0 0)
    omega
  have := fstep_fall (srt_of h h1 h2) hns
  rw [fl_succ, hf, es]
  exact ⟨rfl, this.2⟩
theorem trip_sum {n x y z i j k : Nat} {e : List Int} (h : ([(i : Int), (j : Int), (k : Int)] : List Int).Perm [(x : Int), (y : Int), (z : Int)]) : nvl e i + nvl e j + nvl e k = nvl e x + nvl e y + nvl e z := by
  have p := (h.map fun t => nvl e t.toNat)
  have := sum_perm p
  simp only [List.map_cons, List.map_nil, List.sum_cons, List.sum_nil, Int.toNat_natCast] at this
  omega
def tr3 (x y z : Nat) (f : Nat → Int) (c : Int) (t : Nat) : Int := if t = x ∨ t = y ∨ t = z then f t + c else f t
structure Sett (H H' : Hp) (pr pw : Addr) (n : Nat) (r e : List Int) (s : Nat → Int) (us vs : List V) (ms : List Mv) (pl : List Nat) : Prop where
  kp : Kp N0 H H'
  hr : H' pr = some (.lst us)
  rk : Rws H' us (pl.map (tri e s))
  hw : H' pw = some (.lst vs)
  hm : Mvs H' vs ms
  le : e.length = n + 1
  ok : ∀ m ∈ ms, MvOk n m
  act : acts r ms = e
  perm : pl.Perm (List.range n)
  pw : (pl.map (nvl e)).Pairwise fun a b => b ≤ a
  fl : fl ms.length (st0 r) = st0 e
  bd : ms.length + n0 (st0 e).1 (st0 e).2 ≤ 92
def chg (e : List Int) (pl : List Nat) : Int := e.getD 0 0 - nvl e (pl.getD 0 0) - nvl e (pl.getD 1 0) - nvl e (pl.getD 2 0)
/-- the first three that are ranked -/
theorem rk3 {H : Hp} {us : List V} {e : List Int} {s : Nat → Int} {x y z : Nat} {rest : List Nat} (h : Rws H us ((x :: y :: z :: rest).map (tri e s))) :
    ∃ p q o ur, us = .ref p :: .ref q :: .ref o :: ur ∧ H p = some (.tup [.int (nvl e x), .int (s x), .int (x : Nat)]) ∧ H q = some (.tup [.int (nvl e y), .int (s y), .int (y : Nat)]) ∧ H o = some (.tup [.int (nvl e z), .int (s z), .int (z : Nat)]) ∧ Rws H ur (rest.map (tri e s)) := by
  match us, h with
  | _ :: _ :: _ :: ur, ⟨⟨p, e1, h1⟩, ⟨q, e2, h2⟩, ⟨o, e3, h3⟩, t⟩ =>
    subst e1 e2 e3
    exact ⟨p, q, o, ur, rfl, h1, h2, h3, t⟩
def SInv (a p0 pwd : Addr) (H : Hp) (n : Nat) (r : List Int) (m : Nat) (σ : L2.St) (H' : Hp) : Prop := ∃ (pr : Addr) (sg : Int) (v7 v8 v9 v10 v11 v12 v13 v14 v15 v16 v17 v18 : Option V) (e : List Int) (s : Nat → Int) (us vs : List V) (ms : List Mv) (pl : List Nat),
  σ = [some (.ref a), some (.ref p0), some (.int (e.getD 0 0)), some (.int sg), some (.ref pr), some (.ref pwd), some (.int (chg e pl)), v7, v8, v9, v10, v11, v12, v13, v14, v15, v16, v17, v18] ∧ m = n0 (st0 e).1 (st0 e).2 ∧ H pr = none ∧ Sett H H' pr pwd n r e s us vs ms pl
theorem rws_upd {H : Hp} {D : Addr} {zs zs' : List V} (hd : H D = some (.lst zs)) : ∀ {vs : List V} {rs : List (List Int)}, Rws H vs rs → Rws (upd H D (.lst zs')) vs rs
  | [], [], _ => trivial
  | _ :: _, _ :: _, ⟨⟨p, e, h⟩, t⟩ => ⟨⟨p, e, rw_up h hd⟩, rws_upd hd t⟩
theorem nls_range {n : Nat} {pl : List Nat} (h : pl.length = n) : ((List.range n).map fun t => ((pl.getD t 0 : Nat) : Int)).map V.int = nls pl := by
  unfold nls
  rw [List.map_map]
  refine List.ext_getElem (by simp [h]) fun i h1 h2 => ?_
  have hi : i < pl.length := by simpa using h2
  rw [List.getElem_map, List.getElem_map, List.getElem_range]
  show V.int ((pl.getD i 0 : Nat) : Int) = _
  rw [List.getD_eq_getElem?_getD, List.getElem?_eq_getElem hi]
  rfl
theorem no_turn {H : Hp} {t : Addr} {x y z : Int} {vs : List V} {ms : List Mv} {ur : List V} (hm : Mvs H vs ms) (h : H t = some (.tup [.int x, .int y, .int z])) (e : vs = .ref t :: ur) : False := by
  obtain ⟨p, m, e0, _, hp⟩ := hm.get (i := 0) (v := .ref t) (by rw [e]; rfl)
  cases e0
  rw [h] at hp
  have := HO.tup.inj (Option.some.inj hp)
  cases m <;> cases this
def sp_is_clearly_far : Sp := fun _ _ _ _ => False
theorem ok_is_clearly_far (T : Txt K mg) (D : Df K mg "_is_clearly_far" s_is_clearly_far ["row"]) : C8.Cal P w K mg base 1 "_is_clearly_far" (sp_is_clearly_far) [] := by
  obtain ⟨f, fd, D, hb⟩ := D
  refine C8.cal0 D (.all hb) .nil sc_is_clearly_far (fun vs H Q E h => ?_) (fun cdv A outer s H vs Q E hr h => ?_)
  · exact h.elim
  · exact h.elim
def sp_settle (K : PySem.W.Frag) : Sp := fun vs H Q _ => ∃ (a : Addr) (r : List Int) (n : Nat), vs = [.ref a] ∧ H a = some (.tup (r.map V.int)) ∧ r.length = n + 1 ∧ 3 ≤ n ∧ n ≤ 8 ∧
  ∀ p pw pd H' (ms : List Mv), Kp N0 H H' → H' p = some (.tup [.ref pw, .ref pd]) → Wd H' pw ms → (∀ m ∈ ms, MvOk n m) → ms.length ≤ 100 → acts r ms = settledOf r → H' pd = some (.tup ((settledOf r).map V.int)) → Q (.ref p) H'
theorem ok_settle (T : Txt K mg) (D : Df K mg "settle" s_settle ["row"]) (c_is_clearly_far : C8.Cal P w K mg base 1 "_is_clearly_far" (sp_is_clearly_far) []) (c_shadow_row : C8.Cal P w K mg base 1 "shadow_row" (sp_shadow_row K) []) (c_ranked : C8.Cal P w K mg base 1 "_ranked" (sp_ranked K) []) (c_sorting_swaps : C8.Cal P w K mg base 1 "_sorting_swaps" (sp_sorting_swaps K) []) : C8.Cal P w K mg base 2 "settle" (sp_settle K) [] := by
  obtain ⟨f, fd, D, hb⟩ := D
  refine C8.cal0 D (.all hb) .nil sc_settle (fun vs H Q E h => ?_) (fun cdv A outer s H vs Q E hr h => ?_)
  · obtain ⟨_, _, _, rfl, _⟩ := h; rfl
  · obtain ⟨a, r, n, rfl, ha, hl, h1, h2, q⟩ := h
    refine ⟨_, (pss_cons (ps_if (PW.pt (pw_and (pt_cmpR op_eq (pe_callB (callK (K := K) Vf.rLen call_lenI) (by rfl) T.b_len (by decide +kernel) (pa_cons (pv 0) pa_nil)) (pe_op op_add (C8.pe_gc (by rfl) T.c_FEW_POINTS) pe_int) (nomark _)) (pw_and1 (pt_val (C8.pe_c c_is_clearly_far hr (by decide) (by rfl) (pa_cons (pv 0) pa_nil)))))) (pss_one ps_never) pss_nil)
      (pss_cons (ps_set (i := 1) sc_settle.nd rfl (Or.inl rfl) (C8.pe_c c_shadow_row hr (by decide) (by rfl) (pa_cons (pe_op op_sub (pe_callB (callK (K := K) Vf.rLen call_lenI) (by rfl) T.b_len (by decide +kernel) (pa_cons (pv 0) pa_nil)) pe_int) pa_nil)))
      (pss_cons (ps_par (i := 2) (j := 3) (by rfl) sc_settle.nd rfl rfl (by decide) rfl rfl (pa_cons (pe_ix (ixK (K := K) rIxT ix_tup) (pv 0) pe_int (fun _ _ => rfl)) (pa_cons (pe_ix (ixK (K := K) rIxT ix_tup) (pv 1) pe_int (fun _ _ => rfl)) pa_nil)) (by rfl))
      (pss_cons (ps_set (i := 4) sc_settle.nd rfl (Or.inl rfl) (C8.pe_c c_ranked hr (by decide) (by rfl) (pa_cons (pv 0) (pa_cons (pv 1) pa_nil))))
      (pss_cons (ps_set (i := 5) sc_settle.nd rfl (Or.inl rfl) (pe_lstN pa_nil))
      (pss_cons (ps_set (i := 6) sc_settle.nd rfl (Or.inl rfl) (pe_op op_sub (pe_op op_sub (pe_op op_sub (pv 2) (pe_ix (ixK (K := K) rIxT ix_tup) (pe_ix (ixK (K := K) rIxL ix_list) (pv 4) pe_int (fun _ _ => rfl)) pe_int (fun _ _ => rfl))) (pe_ix (ixK (K := K) rIxT ix_tup) (pe_ix (ixK (K := K) rIxL ix_list) (pv 4) pe_int (fun _ _ => rfl)) pe_int (fun _ _ => rfl))) (pe_ix (ixK (K := K) rIxT ix_tup) (pe_ix (ixK (K := K) rIxL ix_list) (pv 4) pe_int (fun _ _ => rfl)) pe_int (fun _ _ => rfl))))
      (pss_cons (ps_while PassesOwn.never (pt_cmpR op_lt (pv 6) pe_int (nomark _)) (pss_cons (ps_if (pt_cmpR op_eq (pe_callB (callK (K := K) Vf.rLen call_lenI) (by rfl) T.b_len (by decide +kernel) (pa_cons (pv 5) pa_nil)) (C8.pe_gc (by rfl) T.c_MOST_TURNS) (nomark _)) (pss_one ps_never) pss_nil)
      (pss_cons (ps_asg (pe_slice (slK (K := K) rSlLI sl_lstI) (pv 4) po_none (po_some pe_int)) (pg_lst rfl (pgs_cons (pg_tup rfl (pgs_cons (pg_name (i := 7) sc_settle.nd rfl (Or.inl rfl)) (pgs_cons (pg_name (i := 8) sc_settle.nd rfl (Or.inl rfl)) (pgs_cons (pg_name (i := 9) sc_settle.nd rfl (Or.inl rfl)) pgs_nil)))) (pgs_cons (pg_tup rfl (pgs_cons (pg_name (i := 10) sc_settle.nd rfl (Or.inl rfl)) (pgs_cons (pg_name (i := 11) sc_settle.nd rfl (Or.inl rfl)) (pgs_cons (pg_name (i := 12) sc_settle.nd rfl (Or.inl rfl)) pgs_nil)))) (pgs_cons (pg_tup rfl (pgs_cons (pg_name (i := 13) sc_settle.nd rfl (Or.inl rfl)) (pgs_cons (pg_name (i := 14) sc_settle.nd rfl (Or.inl rfl)) (pgs_cons (pg_name (i := 15) sc_settle.nd rfl (Or.inl rfl)) pgs_nil)))) pgs_nil)))))
      (pss_cons (ps_set (i := 16) sc_settle.nd rfl (Or.inl rfl) (pe_op op_sub (pe_op op_sub (pe_op op_sub (pv 3) (pv 8)) (pv 11)) (pv 14)))
      (pss_cons (ps_expr (pe_bm PySem.F.plainAttrs_list PySem.F.slot_list_append PySem.F.type_list_append mt_append (pv 5) (pa_cons (pe_op (opK (K := K) rCatI op_catI) (pe_tupN (pa_cons pe_str pa_nil)) (pe_callTy (callK (K := K) rTupOf call_tupI) (by rfl) T.b_tuple (by decide +kernel) (pa_cons (pe_callB (callK (K := K) rSortI call_srtI) (by rfl) T.b_sorted (by decide +kernel) (pa_cons (pe_lstN (pa_cons (pv 9) (pa_cons (pv 12) (pa_cons (pv 15) pa_nil)))) pa_nil)) pa_nil))) pa_nil)))
      (pss_cons (ps_set (i := 17) sc_settle.nd rfl (Or.inl rfl) (pe_lstN (pa_cons (pe_tupN (pa_cons (pe_op op_add (pv 7) (pv 6)) (pa_cons (pe_op op_add (pv 8) (pv 16)) (pa_cons (pv 9) pa_nil)))) (pa_cons (pe_tupN (pa_cons (pe_op op_add (pv 10) (pv 6)) (pa_cons (pe_op op_add (pv 11) (pv 16)) (pa_cons (pv 12) pa_nil)))) (pa_cons (pe_tupN (pa_cons (pe_op op_add (pv 13) (pv 6)) (pa_cons (pe_op op_add (pv 14) (pv 16)) (pa_cons (pv 15) pa_nil)))) pa_nil)))))
      (pss_cons (ps_set (i := 4) sc_settle.nd rfl (Or.inl rfl) (pe_callBK (cr_sortTR (K := K)) (by rfl) T.b_sorted (by decide +kernel) (pa_cons (pe_op op_catLI (pv 17) (pe_slice (slK (K := K) rSlLI sl_lstI) (pv 4) (po_some pe_int) po_none)) pa_nil) (pk_cons pe_bl pk_nil)))
      (pss_cons (ps_par (i := 2) (j := 3) (by rfl) sc_settle.nd rfl rfl (by decide) rfl rfl (pa_cons (pe_op op_add (pv 2) (pv 6)) (pa_cons (pe_op op_add (pv 3) (pv 16)) pa_nil)) (by rfl))
      (pss_one (ps_set (i := 6) sc_settle.nd rfl (Or.inl rfl) (pe_op op_sub (pe_op op_sub (pe_op op_sub (pv 2) (pe_ix (ixK (K := K) rIxT ix_tup) (pe_ix (ixK (K := K) rIxL ix_list) (pv 4) pe_int (fun _ _ => rfl)) pe_int (fun _ _ => rfl))) (pe_ix (ixK (K := K) rIxT ix_tup) (pe_ix (ixK (K := K) rIxL ix_list) (pv 4) pe_int (fun _ _ => rfl)) pe_int (fun _ _ => rfl))) (pe_ix (ixK (K := K) rIxT ix_tup) (pe_ix (ixK (K := K) rIxL ix_list) (pv 4) pe_int (fun _ _ => rfl)) pe_int (fun _ _ => rfl)))))))))))))
      (pss_cons (ps_expr (pe_bm PySem.F.plainAttrs_list PySem.F.slot_list_extend PySem.F.type_list_extend mt_extend (pv 5) (pa_cons (C8.pe_c c_sorting_swaps hr (by decide) (by rfl) (pa_cons (pe_lc (own := [("rank", 18)]) (g := gName 18) rfl sc_settle.nd (pi_list (pv 4)) (C8b.blk (N := ["row", "shadow", "degree", "shade", "ranked", "word", "change", "one", "one_shade", "i", "two", "two_shade", "j", "three", "three_shade", "k", "other", "turned", "rank"]) (sc := C8.fnScope s_settle) (by decide +kernel)) (fun _ _ _ _ _ => (pg_name (i := 18) sc_settle.nd rfl (Or.inl rfl))) (fun _ _ _ _ _ => pts_nil) (fun _ _ _ _ _ => (pe_ix (ixK (K := K) rIxT ix_tup) (pv 18) pe_int (fun _ _ => rfl)))) pa_nil)) pa_nil)))
      (pss_one (ps_ret (pe_tupN (pa_cons (pe_callTy (callK (K := K) rTupOf call_tupI) (by rfl) T.b_tuple (by decide +kernel) (pa_cons (pv 5) pa_nil)) (pa_cons (pe_op (opK (K := K) rCatI op_catI) (pe_tupN (pa_cons (pv 2) pa_nil)) (pe_callTy (callK (K := K) rTupOf call_tupI) (by rfl) T.b_tuple (by decide +kernel) (pa_cons (pe_lc (own := [("rank", 18)]) (g := gName 18) rfl sc_settle.nd (pi_list (pv 4)) (C8b.blk (N := ["row", "shadow", "degree", "shade", "ranked", "word", "change", "one", "one_shade", "i", "two", "two_shade", "j", "three", "three_shade", "k", "other", "turned", "rank"]) (sc := C8.fnScope s_settle) (by decide +kernel)) (fun _ _ _ _ _ => (pg_name (i := 18) sc_settle.nd rfl (Or.inl rfl))) (fun _ _ _ _ _ => pts_nil) (fun _ _ _ _ _ => (pe_ix (ixK (K := K) rIxT ix_tup) (pv 18) pe_int (fun _ _ => rfl)))) pa_nil))) pa_nil))))))))))))), ?_⟩
    refine ⟨_, rfl, lenT rfl ha ⟨_, _, rfl, rfl, rfl, _, rfl, iteNo (fun z => ?_) ?_⟩⟩
    · have := V.int.inj z
      rw [List.length_map] at this
      omega
    refine ⟨_, rfl, lenT rfl ha ⟨_, _, rfl, rfl, ?_⟩⟩
    dsimp only
    rw [show (((r.map V.int).length : Nat) : Int) - 1 = (n : Int) by rw [List.length_map]; omega]
    refine ⟨n, rfl, by omega, fun p0 H1 sh k1 hs hsl => ?_⟩
    have ha1 := k1.tup _ _ ha
    refine ⟨_, rfl, a, _, _, _, rfl, rfl, SqT.of ha1, at_row0 (by omega), _, rfl, p0, _, _, _, rfl, rfl, SqT.of hs, at_row0 (by omega), ?_⟩
    refine ⟨_, _, rfl, _, rfl, _, rfl, a, p0, r, sh, n, rfl, ha1, hs, hl, hsl, by omega, fun pr H2 us pl npr k2 hpr rk perm pw => ?_⟩
    refine newL (sz_ (by simp)) fun pwd H3 n3 k3 hw => ?_
    have k03 := (k1.trans k2).trans k3
    have z1 : H pr = none := k1.live _ npr
    have z2 : H pwd = none := (k1.trans k2).live _ n3
    have S0 : Sett H H3 pr pwd n r r (nvl sh) us [] [] pl := ⟨k03, k3.keep _ _ (fun z => z) hpr, rk.kp k3, hw, trivial, hl, (by intro _ hm; cases hm), rfl, perm, pw, rfl, by
      have := n0_le (d := (st0 r).1) (srt_of hl h1 h2).l8
      simp only [List.length_nil]
      omega⟩
    clear hpr rk hw k1 k2 k3 k03 hs ha1
    obtain ⟨x, y, z, rest, rfl⟩ := threeN h1 perm
    obtain ⟨t1, t2, t3, ur, rfl, ht1, ht2, ht3, _⟩ := rk3 S0.rk
    refine ⟨_, rfl, _, rfl, pr, _, _, _, rfl, rfl, SqL.of S0.hr, atI_nat (j := 0) rfl, t1, _, _, _, rfl, rfl, SqT.of ht1, rfl, _, _, rfl, rfl, ?_⟩
    refine ⟨_, rfl, pr, _, _, _, rfl, rfl, SqL.of S0.hr, atI_nat (j := 1) rfl, t2, _, _, _, rfl, rfl, SqT.of ht2, rfl, _, _, rfl, rfl, ?_⟩
    refine ⟨_, rfl, pr, _, _, _, rfl, rfl, SqL.of S0.hr, atI_nat (j := 2) rfl, t3, _, _, _, rfl, rfl, SqT.of ht3, rfl, _, _, rfl, rfl, ?_⟩
    refine ⟨SInv a p0 pwd H n r, ⟨_, pr, _, _, _, _, _, _, _, _, _, _, _, _, _, r, nvl sh, _, [], [], _, rfl, rfl, z1, S0⟩, ?_⟩
    clear ht1 ht2 ht3 perm pw S0 z1
    rintro m σ H6 ⟨pr, sg, v7, v8, v9, v10, v11, v12, v13, v14, v15, v16, v17, v18, e, s, us, vs, ms, pl, rfl, rfl, zr, S⟩
    obtain ⟨x, y, z, rest, rfl⟩ := threeN h1 S.perm
    have lt := bound_of S.perm
    have hx := lt x (by simp)
    have hy := lt y (by simp)
    have hz := lt z (by simp)
    have ee := st_of S.le S.perm S.pw
    have lel := S.le
    have hplen := len_of S.perm
    obtain ⟨t1, t2, t3, ur, rfl, ht1, ht2, ht3, hur⟩ := rk3 S.rk
    have ech : chg e (x :: y :: z :: rest) = e.getD 0 0 - nvl e x - nvl e y - nvl e z := rfl
    rw [ech]
    refine ⟨_, rfl, _, _, rfl, rfl, _, rfl, ?_⟩
    by_cases hc : e.getD 0 0 < nvl e x + nvl e y + nvl e z
    case neg =>
      rw [decide_eq_false (by omega)]
      refine iteF ?_
      have hul := S.rk.len
      rw [List.length_map, hplen] at hul
      refine ⟨_, rfl, .inl ⟨rfl, _, SqL.of S.hw⟩, ?_⟩
      generalize hpl : x :: y :: z :: rest = pl at *
      generalize hus : V.ref t1 :: V.ref t2 :: V.ref t3 :: ur = us at *
      refine ⟨_, rfl, pr, rfl, ⟨_, SqL.of S.hr⟩, ?_⟩
      refine lc_ints (walk_listN (n := n) (xs := us) hul) (fun t => ((pl.getD t 0 : Nat) : Int)) (by omega) (fun H' k => SqL.of (k.keep _ _ (fun z => z) S.hr)) ?_ ?_
      · rintro t xv HC' HC ht kC ⟨rfl, hxv⟩ R hR
        obtain ⟨pt, tr, rfl, htr, hpt⟩ := (S.rk.kp kC).get hxv
        rw [List.getElem?_map, getD_get (th := pl) (by omega)] at htr
        cases htr
        exact ⟨rfl, _, rfl, _, _, _, _, rfl, rfl, SqT.of hpt, at_row (ns := tri e s (pl.getD t 0)) (j := 2) (by decide : 2 < 3), hR _ (.refl _ _)⟩
      intro D7 H7 k7 hD7
      rw [nls_range hplen] at hD7
      have hw7 := k7.keep _ _ (fun z => z) S.hw
      refine ⟨D7, _, n, rfl, hD7, S.perm, by omega, fun p9 H9 vs9 ws9 n9 k9 hp9 hm9 hok9 hl9 hact9 => ?_⟩
      have k79 := k7.trans k9
      have hw9 := k9.keep _ _ (fun z => z) hw7
      have hvl := S.hm.len
      have hvl9 := hm9.len
      have hbd := S.bd
      have hsz : vs.length + vs9.length ≤ sizeLine := Nat.le_of_lt (Nat.lt_of_le_of_lt (by omega : vs.length + vs9.length ≤ 1000) (by decide))
      refine ⟨pwd, p9, _, _, rfl, rfl, hw9, hp9, hsz, ?_⟩
      have hwX : upd H9 pwd (.lst (vs ++ vs9)) pwd = some (.lst (vs ++ vs9)) := upd_same
      have nepp : pr ≠ pwd := fun z => by
        have a1 := S.hr
        rw [z, S.hw, ← hus] at a1
        exact no_turn S.hm ht1 (HO.lst.inj (Option.some.inj a1))
      have hrX : upd H9 pwd (.lst (vs ++ vs9)) pr = some (.lst us) := by
        rw [upd_ne nepp]
        exact k79.keep _ _ (fun z => z) S.hr
      have rkX : Rws (upd H9 pwd (.lst (vs ++ vs9))) us (pl.map (tri e s)) := rws_upd hw9 (S.rk.kp k79)
      have hmX : Mvs (upd H9 pwd (.lst (vs ++ vs9))) (vs ++ vs9) (ms ++ ws9) := Mvs.app (Mvs.upd hw9 (S.hm.kp k79)) (Mvs.upd hw9 hm9)
      have k0X : Kp N0 H (upd H9 pwd (.lst (vs ++ vs9))) := .mut0 z2 (S.kp.trans k79)
      generalize upd H9 pwd (.lst (vs ++ vs9)) = HX at hwX hrX rkX hmX k0X
      refine ⟨_, rfl, tupL rfl (SqL.of hwX) fun pA HA nA kA hpA => ?_⟩
      refine ⟨_, rfl, newT (sz_ (by simp)) fun pB HB nB kB hpB => ?_⟩
      have kAB := kA.trans kB
      refine ⟨_, rfl, pr, rfl, ⟨_, SqL.of (kAB.keep _ _ (fun z => z) hrX)⟩, ?_⟩
      refine lc_ints (walk_listN (n := n) (xs := us) hul) (fun t => nvl e (pl.getD t 0)) (by omega) (fun H' k => SqL.of (k.keep _ _ (fun z => z) (kAB.keep _ _ (fun z => z) hrX))) ?_ ?_
      · rintro t xv HC' HC ht kC ⟨rfl, hxv⟩ R hR
        obtain ⟨pt, tr, rfl, htr, hpt⟩ := (rkX.kp (kAB.trans kC)).get hxv
        rw [List.getElem?_map, getD_get (th := pl) (by omega)] at htr
        cases htr
        exact ⟨rfl, _, rfl, _, _, _, _, rfl, rfl, SqT.of hpt, at_row (ns := tri e s (pl.getD t 0)) (j := 0) (by decide : 0 < 3), hR _ (.refl _ _)⟩
      intro DD HD kD hDD
      refine tupL rfl (SqL.of hDD) fun pE HE nE kE hpE => catT ((kD.trans kE).tup _ _ hpB) hpE (sz_ (by simp; omega)) fun pF HF kF hpF => newT (sz_ (by simp)) fun pG HG nG kG hpG => ?_
      rw [arr_V hplen] at hpF
      have hset : settledOf r = arr e pl := by
        rw [← hpl] at ee ⊢
        exact settled_arr (by omega) S.fl ee hc
      have kAF := (((kB.trans kD).trans kE).trans kF)
      refine q pG pA pF HG (ms ++ ws9) ((k0X.trans kA).trans (kAF.trans kG)) hpG ⟨_, (kAF.trans kG).tup _ _ hpA, hmX.kp (kA.trans (kAF.trans kG))⟩ ?_ (by rw [List.length_append]; omega) ?_ ?_
      · intro m hm
        rcases List.mem_append.mp hm with hm | hm
        · exact S.ok m hm
        · exact hok9 m hm
      · rw [acts_append, S.act, hact9 e S.le, hset]
      · rw [hset]
        exact kG.tup _ _ hpF
    rw [decide_eq_true (by omega)]
    refine iteT ⟨fun σ' H' => ∃ m', m' < n0 (st0 e).1 (st0 e).2 ∧ SInv a p0 pwd H n r m' σ' H', fun σ' H' z => z, ?_⟩
    refine ⟨_, rfl, lenL rfl (SqL.of S.hw) ⟨rfl, _, rfl, iteNo (fun z => ?_) ?_⟩⟩
    · have := V.int.inj z
      have h5 := S.hm.len
      have := S.bd
      omega
    refine ⟨_, rfl, _, rfl, slL (SqL.of S.hr) fun q1 G1 _ g1 hq1 => ?_⟩
    rw [show (some (3 : Int)) = some ((3 : Nat) : Int) from rfl, cut_to] at hq1
    have hq1 : G1 q1 = some (.lst [.ref t1, .ref t2, .ref t3]) := hq1
    refine ⟨q1, _, rfl, SqL.of hq1, rfl, _, _, rfl, t1, _, rfl, SqT.of (g1.tup _ _ ht1), rfl, _, _, rfl, _, _, rfl, _, _, rfl, rfl, _, _, rfl, t2, _, rfl, SqT.of (g1.tup _ _ ht2), rfl, _, _, rfl, _, _, rfl, _, _, rfl, rfl, _, _, rfl, t3, _, rfl, SqT.of (g1.tup _ _ ht3), rfl, _, _, rfl, _, _, rfl, _, _, rfl, rfl, rfl, ?_⟩
    refine ⟨_, rfl, _, rfl, _, _, rfl, rfl, _, rfl, _, _, rfl, rfl, _, rfl, _, _, rfl, rfl, ?_⟩
    refine ⟨_, rfl, .inl ⟨rfl, _, SqL.of (g1.keep _ _ (fun z => z) S.hw)⟩, newT (sz_ (by simp)) fun q2 G2 _ g2 hq2 => ?_⟩
    refine ⟨_, rfl, _, rfl, _, rfl, newL (sz_ (by simp)) fun q3 G3 _ g3 hq3 => ?_⟩
    have hq3 : G3 q3 = some (.lst (([x, y, z].map fun t : Nat => (t : Int)).map V.int)) := hq3
    refine sortL rfl (SqL.of hq3) (by simp) fun ys q4 G4 hperm2 hpw2 _ g4 hq4 => ?_
    obtain ⟨i, j, l, rfl, hij, hjk, hln⟩ := three (xs := (x :: y :: z :: rest).map fun t : Nat => (t : Int)) h1 (perm_ints S.perm) hperm2 hpw2
    refine tupL rfl (SqL.of hq4) fun q5 G5 _ g5 hq5 => catT (((g3.trans g4).trans g5).tup _ _ hq2) hq5 (sz_ (by simp)) fun q6 G6 g6 hq6 => ?_
    have hq6 : G6 q6 = some (.tup (Mv.tn i j l).val) := hq6
    have g26 := (((g2.trans g3).trans g4).trans g5).trans g6
    have g16 := g1.trans g26
    have hm3 := tripN (n := n) hperm2
    have hs3 := trip_sum (n := n) (e := e) hperm2
    obtain ⟨nf, nlt⟩ := sett_next S.le h1 h2 S.perm S.pw hij hjk hln hm3 hs3 hc S.fl
    have hok : MvOk n (.tn i j l) := ⟨hij, hjk, hln⟩
    have hw6 := g16.keep _ _ (fun z => z) S.hw
    have hvl := S.hm.len
    have hbd := S.bd
    have hsz : vs.length < sizeLine := Nat.lt_of_le_of_lt (by omega : vs.length ≤ 1000) (by decide)
    refine ⟨pwd, _, _, rfl, rfl, hw6, hsz, ?_⟩
    have nepp : pr ≠ pwd := fun z => by
      have a1 := S.hr
      rw [z, S.hw] at a1
      exact no_turn S.hm ht1 (HO.lst.inj (Option.some.inj a1))
    have K7 : Kp N0 H (upd G6 pwd (.lst (vs ++ [.ref q6]))) := .mut0 z2 (S.kp.trans g16)
    have hw7 : upd G6 pwd (.lst (vs ++ [.ref q6])) pwd = some (.lst (vs ++ [.ref q6])) := upd_same
    have hr7 : upd G6 pwd (.lst (vs ++ [.ref q6])) pr = some (.lst (.ref t1 :: .ref t2 :: .ref t3 :: ur)) := by
      rw [upd_ne nepp]
      exact g16.keep _ _ (fun z => z) S.hr
    have hm7 : Mvs (upd G6 pwd (.lst (vs ++ [.ref q6]))) (vs ++ [.ref q6]) (ms ++ [.tn i j l]) := Mvs.app (Mvs.upd hw6 (S.hm.kp g16)) ⟨⟨q6, rfl, rw_mv (m := .tn i j l) hq6 hw6⟩, trivial⟩
    have ur7 : Rws (upd G6 pwd (.lst (vs ++ [.ref q6]))) ur (rest.map (tri e s)) := rws_upd hw6 (hur.kp g16)
    generalize upd G6 pwd (.lst (vs ++ [.ref q6])) = G7 at K7 hw7 hr7 hm7 ur7
    clear hq1 hq2 hq3 hq4 hq5 hq6 g1 g2 g3 g4 g5 g6 g26 g16 hw6
    refine ⟨_, rfl, _, rfl, _, _, rfl, rfl, _, rfl, _, rfl, _, _, rfl, rfl, _, rfl, newT (sz_ (by simp)) fun u1 M1 _ m1 hu1 => ?_⟩
    refine ⟨_, rfl, _, rfl, _, _, rfl, rfl, _, rfl, _, rfl, _, _, rfl, rfl, _, rfl, newT (sz_ (by simp)) fun u2 M2 _ m2 hu2 => ?_⟩
    refine ⟨_, rfl, _, rfl, _, _, rfl, rfl, _, rfl, _, rfl, _, _, rfl, rfl, _, rfl, newT (sz_ (by simp)) fun u3 M3 _ m3 hu3 => ?_⟩
    refine newL (sz_ (by simp)) fun u4 M4 _ m4 hu4 => ?_
    have m14 := ((m1.trans m2).trans m3).trans m4
    refine ⟨_, rfl, _, rfl, _, rfl, slL (SqL.of (m14.keep _ _ (fun z => z) hr7)) fun u5 M5 _ m5 hu5 => ?_⟩
    rw [show (some (3 : Int)) = some ((3 : Nat) : Int) from rfl, cut_from] at hu5
    have hu5 : M5 u5 = some (.lst ur) := hu5
    have url := hur.len
    have rl : rest.length ≤ 8 := by simp at hplen; omega
    rw [List.length_map] at url
    refine catL (m5.keep _ _ (fun z => z) hu4) hu5 (sz_ (by simp; omega)) fun u6 M6 n6 m6 hu6 => ?_
    have hu6 : M6 u6 = some (.lst (.ref u1 :: .ref u2 :: .ref u3 :: ur)) := hu6
    have m16 := (m14.trans m5).trans m6
    generalize hoth : sg - s x - s y - s z = oth at *
    have ed : e.getD 0 0 + (e.getD 0 0 - nvl e x - nvl e y - nvl e z) = (act e (.tn i j l)).getD 0 0 := by
      rw [act0_tn lel]
      omega
    have hv := fun t ht => nvl_tn (e := e) lel hij hjk hln t ht
    have up3 : ∀ t, t < n → (t = x ∨ t = y ∨ t = z) → tri (act e (.tn i j l)) (tr3 x y z s oth) t = [nvl e t + (e.getD 0 0 - nvl e x - nvl e y - nvl e z), s t + oth, (t : Int)] := fun t ht hxyz => by
      unfold tri tr3
      rw [hv t ht, if_pos ((hm3 t).mpr hxyz), if_pos hxyz, show e.getD 0 0 - nvl e i - nvl e j - nvl e l = e.getD 0 0 - nvl e x - nvl e y - nvl e z by omega]
    have nd : (x :: y :: z :: rest).Nodup := S.perm.nodup_iff.mpr List.nodup_range
    have nd1 := List.pairwise_cons.mp nd
    have nd2 := List.pairwise_cons.mp nd1.2
    have nd3 := List.pairwise_cons.mp nd2.2
    have off3 : ∀ t ∈ rest, tri (act e (.tn i j l)) (tr3 x y z s oth) t = tri e s t := fun t ht => by
      have hno : ¬ (t = x ∨ t = y ∨ t = z) := by
        intro c
        rcases c with rfl | rfl | rfl
        · exact nd1.1 t (by simp [ht]) rfl
        · exact nd2.1 t (by simp [ht]) rfl
        · exact nd3.1 t ht rfl
      unfold tri tr3
      rw [hv t (lt t (by simp [ht])), if_neg (fun c => hno ((hm3 t).mp c)), if_neg hno]
    have rk6 : Rws M6 (.ref u1 :: .ref u2 :: .ref u3 :: ur) ((x :: y :: z :: rest).map (tri (act e (.tn i j l)) (tr3 x y z s oth))) := by
      rw [List.map_cons, List.map_cons, List.map_cons, up3 x hx (by simp), up3 y hy (by simp), up3 z hz (by simp), List.map_congr_left off3]
      exact ⟨⟨u1, rfl, ((((m2.trans m3).trans m4).trans m5).trans m6).tup _ _ hu1⟩, ⟨u2, rfl, (((m3.trans m4).trans m5).trans m6).tup _ _ hu2⟩, ⟨u3, rfl, ((m4.trans m5).trans m6).tup _ _ hu3⟩, ur7.kp m16⟩
    refine sort_tri hu6 rk6 S.perm fun pr' M7 us' pl' npr' m7 hpr' rk' perm' pw' => ?_
    refine ⟨_, rfl, _, rfl, _, _, rfl, rfl, _, rfl, _, rfl, _, _, rfl, rfl, .int ((act e (.tn i j l)).getD 0 0), .int (sg + (sg - s x - s y - s z)), ?_, ?_⟩
    · show [V.int (_ + _), V.int _] = _
      rw [ed]
    obtain ⟨x', y', z', rest', rfl⟩ := threeN h1 perm'
    have K17 := K7.trans (m16.trans m7)
    have S' : Sett H M7 pr' pwd n r (act e (.tn i j l)) (tr3 x y z s oth) us' (vs ++ [.ref q6]) (ms ++ [.tn i j l]) (x' :: y' :: z' :: rest') := by
      refine ⟨K17, hpr', rk', (m16.trans m7).keep _ _ (fun z => z) hw7, hm7.kp (m16.trans m7), by rw [act_len, lel], ?_, ?_, perm', pw', ?_, ?_⟩
      · intro m hm
        rcases List.mem_append.mp hm with hm | hm
        · exact S.ok m hm
        · rw [List.mem_singleton.mp hm]
          exact hok
      · rw [acts_append, S.act]
        rfl
      · rw [List.length_append]
        exact nf
      · rw [List.length_append]
        show ms.length + 1 + _ ≤ 92
        omega
    obtain ⟨t1', t2', t3', ur', rfl, ht1', ht2', ht3', _⟩ := rk3 S'.rk
    refine ⟨_, rfl, _, rfl, pr', _, _, _, rfl, rfl, SqL.of S'.hr, atI_nat (j := 0) rfl, t1', _, _, _, rfl, rfl, SqT.of ht1', rfl, _, _, rfl, rfl, ?_⟩
    refine ⟨_, rfl, pr', _, _, _, rfl, rfl, SqL.of S'.hr, atI_nat (j := 1) rfl, t2', _, _, _, rfl, rfl, SqT.of ht2', rfl, _, _, rfl, rfl, ?_⟩
    refine ⟨_, rfl, pr', _, _, _, rfl, rfl, SqL.of S'.hr, atI_nat (j := 2) rfl, t3', _, _, _, rfl, rfl, SqT.of ht3', rfl, _, _, rfl, rfl, ?_⟩
    exact ⟨_, nlt, pr', _, _, _, _, _, _, _, _, _, _, _, _, _, _, _, _, _, _, _, rfl, rfl, (K7.trans m16).live _ npr', S'⟩

/-! ### led, does_lead, parting -/
theorem eqvAll_di : ∀ a b : List Int, PyData.eqvAll (di a) (di b) = decide (a = b)
  | [], [] => by simp [di, PyData.eqvAll]
  | [], _ :: _ => by simp [di, PyData.eqvAll]
  | _ :: _, [] => by simp [di, PyData.eqvAll]
  | x :: a, y :: b => by
    have h := eqvAll_di a b
    simp only [di, List.map_cons, PyData.eqvAll, PyData.eqv] at h ⊢
    rw [h]
    by_cases e : x = y <;> by_cases e2 : a = b <;> simp [e, e2]
theorem shaped_tup (ns : List Int) : SeqAt.shaped (.tuple (di ns)) = true := by
  have h1 := shaped_list ns
  unfold SeqAt.shaped at h1 ⊢
  simpa [PyData.canLay0, PyData.depth] using h1
theorem eqTups {H : Hp} {a b : Addr} {ns ms : List Int} {Q : VK} (h1 : H a = some (.tup (ns.map V.int))) (h2 : H b = some (.tup (ms.map V.int))) (q : Q (.bl (decide (ns = ms))) H) : rEqI K (.ref a) (.ref b) H Q := by
  unfold rEqI
  refine ⟨_, _, .tup (SqT.of h1) (dpAll_ints ns), .tup (SqT.of h2) (dpAll_ints ms), shaped_tup ns, shaped_tup ms, ?_⟩
  rw [show PyData.eqv (.tuple (di ns)) (.tuple (di ms)) = decide (ns = ms) by rw [PyData.eqv, eqvAll_di]]
  exact q
theorem pow5N {a b : Nat} (h : a ≤ b) : (5 : Int) ^ a ≤ 5 ^ b := by
  have := Nat.pow_le_pow_right (n := 5) (by decide) h
  exact_mod_cast this
theorem far100 : (5 : Int) ^ 100 * 10 ^ 80 < TL := by decide +kernel
theorem set_sh {n : Nat} {r : List Int} {ms : List Mv} (h : LimN n (10 ^ 80) r) (hl : ms.length ≤ 100) (e : acts r ms = settledOf r) : AllSh (settledOf r) := fun x hx => by
  rw [← e] at hx
  have h3 := acts_lim ms h.2 (by decide) x hx
  have h5 : (5 : Int) ^ ms.length * 10 ^ 80 ≤ 5 ^ 100 * 10 ^ 80 := Int.mul_le_mul_of_nonneg_right (pow5N hl) (by decide)
  have := far100
  exact ⟨by omega, by omega⟩
theorem set_len {n : Nat} {r : List Int} {ms : List Mv} (h : r.length = n + 1) (e : acts r ms = settledOf r) : (settledOf r).length = n + 1 := by rw [← e, acts_len, h]
def sp_check_few (K : PySem.W.Frag) : Sp := fun vs H Q _ => ∃ a ns, vs = [.ref a, .int 8] ∧ H a = some (.tup (ns.map V.int)) ∧ Row ns ∧ ns.length ≤ 9 ∧ ∀ H', Kp N0 H H' → Q .non H'
theorem ok_check_few (T : Txt K mg) (D : Dfd K mg "check_few" s_check_few ["row", "most"] []) (c_check_row : C8.Cal P w K mg base 4 "check_row" (sp_check_row K) []) : C8.Cal P w K mg base 5 "check_few" (sp_check_few K) [] := by
  obtain ⟨f, fd, ds, D, hb, hv⟩ := D
  refine C8.cal0 D hb hv sc_check_few (fun vs H Q E h => ?_) (fun cdv A outer s H vs Q E hr h => ?_)
  · obtain ⟨_, _, rfl, _⟩ := h; rfl
  · obtain ⟨a, ns, rfl, ha, hr1, hl, q⟩ := h
    refine ⟨_, (pss_cons (ps_expr (C8.pe_c c_check_row hr (by decide) (by rfl) (pa_cons (pv 0) pa_nil)))
      (pss_one (ps_if (pt_cmpR op_gt (pe_callB (callK (K := K) Vf.rLen call_lenI) (by rfl) T.b_len (by decide +kernel) (pa_cons (pv 0) pa_nil)) (pe_op op_add (pv 1) pe_int) (nomark _)) (pss_one ps_never) pss_nil))), ?_⟩
    refine ⟨_, rfl, _, _, rfl, SqT.of ha, hr1, fun H1 k1 => ⟨_, rfl, lenT rfl (k1.tup _ _ ha) ⟨_, rfl, _, _, rfl, rfl, _, _, rfl, rfl, _, rfl, ?_⟩⟩⟩
    rw [decide_eq_false (by rw [List.length_map]; omega)]
    exact iteF (q _ k1)
def sp_check_two (K : PySem.W.Frag) : Sp := fun vs H Q _ => ∃ a b ns ms, vs = [.ref a, .ref b] ∧ H a = some (.tup (ns.map V.int)) ∧ H b = some (.tup (ms.map V.int)) ∧ Row ns ∧ Row ms ∧ ms.length = ns.length ∧ ns.length ≤ 9 ∧ ∀ H', Kp N0 H H' → Q .non H'
theorem ok_check_two (T : Txt K mg) (D : Df K mg "_check_two" s_check_two ["one", "other"]) (c_check_few : C8.Cal P w K mg base 5 "check_few" (sp_check_few K) []) (c_check_rows : C8.Cal P w K mg base 5 "check_rows" (sp_check_rows K) []) : C8.Cal P w K mg base 6 "_check_two" (sp_check_two K) [] := by
  obtain ⟨f, fd, D, hb⟩ := D
  refine C8.cal0 D (.all hb) .nil sc_check_two (fun vs H Q E h => ?_) (fun cdv A outer s H vs Q E hr h => ?_)
  · obtain ⟨_, _, _, _, rfl, _⟩ := h; rfl
  · obtain ⟨a, b, ns, ms, rfl, ha, hb, ra, rb, hl, h9, q⟩ := h
    refine ⟨_, (pss_cons (ps_expr (C8.pe_c c_check_few hr (by decide) (by rfl) (pa_cons (pv 0) (pa_cons (C8.pe_gc (by rfl) T.c_FINITE_POINTS) pa_nil))))
      (pss_one (ps_expr (C8.pe_c c_check_rows hr (by decide) (by rfl) (pa_cons (pv 0) (pa_cons (pv 1) pa_nil)))))), ?_⟩
    refine ⟨_, rfl, a, ns, rfl, ha, ra, h9, fun H1 k1 => ?_⟩
    exact ⟨_, rfl, _, rfl, _, _, _, _, rfl, k1.tup _ _ ha, k1.tup _ _ hb, ra, rb, hl, fun H2 k2 => q _ (k1.trans k2)⟩
def sp_led (K : PySem.W.Frag) : Sp := fun vs H Q _ => ∃ (a b : Addr) (r s : List Int) (n : Nat), vs = [.ref a, .ref b] ∧ H a = some (.tup (r.map V.int)) ∧ H b = some (.tup (s.map V.int)) ∧ LimN n (10 ^ 80) r ∧ LimN n (10 ^ 80) s ∧ 3 ≤ n ∧ n ≤ 8 ∧
  ∀ v H', Kp N0 H H' → ((settledOf r = settledOf s ∧ ∃ p ms, v = .ref p ∧ Wd H' p ms ∧ (∀ m ∈ ms, MvOk n m) ∧ ms.length ≤ 200 ∧ acts r ms = s) ∨ (settledOf r ≠ settledOf s ∧ v = .non)) → Q v H'
theorem ok_led (T : Txt K mg) (D : Df K mg "led" s_led ["one", "other"]) (c_check_two : C8.Cal P w K mg base 6 "_check_two" (sp_check_two K) []) (c_settle : C8.Cal P w K mg base 2 "settle" (sp_settle K) []) : C8.Cal P w K mg base 7 "led" (sp_led K) [] := by
  obtain ⟨f, fd, D, hb⟩ := D
  refine C8.cal0 D (.all hb) .nil sc_led (fun vs H Q E h => ?_) (fun cdv A outer s H vs Q E hr h => ?_)
  · obtain ⟨_, _, _, _, _, rfl, _⟩ := h; rfl
  · obtain ⟨a, b, r, s, n, rfl, ha, hb, hr1, hs, h1, h2, q⟩ := h
    refine ⟨_, (pss_cons (ps_expr (C8.pe_c c_check_two hr (by decide) (by rfl) (pa_cons (pv 0) (pa_cons (pv 1) pa_nil))))
      (pss_cons (ps_asg (C8.pe_c c_settle hr (by decide) (by rfl) (pa_cons (pv 0) pa_nil)) (pg_tup rfl (pgs_cons (pg_name (i := 2) sc_led.nd rfl (Or.inl rfl)) (pgs_cons (pg_name (i := 3) sc_led.nd rfl (Or.inl rfl)) pgs_nil))))
      (pss_cons (ps_asg (C8.pe_c c_settle hr (by decide) (by rfl) (pa_cons (pv 1) pa_nil)) (pg_tup rfl (pgs_cons (pg_name (i := 4) sc_led.nd rfl (Or.inl rfl)) (pgs_cons (pg_name (i := 5) sc_led.nd rfl (Or.inl rfl)) pgs_nil))))
      (pss_one (ps_ret (pe_ifExp (pt_cmpR (opK (K := K) rEqI (op_eqI hr.units)) (pv 3) (pv 5) (nomark _)) (pe_op (opK (K := K) rCatI op_catI) (pv 2) (pe_revT (pv 4))) pe_non)))))), ?_⟩
    have far := far_lt
    have rr := hr1.row h1 (by omega) far
    have rs := hs.row h1 (by omega) far
    have lr := hr1.1
    have ls := hs.1
    refine ⟨_, rfl, _, rfl, a, b, r, s, rfl, ha, hb, rr, rs, by omega, by omega, fun H1 k1 => ?_⟩
    refine ⟨_, rfl, a, r, n, rfl, k1.tup _ _ ha, lr, h1, h2, fun p2 pw pd H2 ms k2 hp2 hw ok1 l1 e1 hd => ?_⟩
    refine ⟨p2, _, rfl, SqT.of hp2, rfl, _, _, rfl, _, _, rfl, rfl, ?_⟩
    refine ⟨_, rfl, b, s, n, rfl, (k1.trans k2).tup _ _ hb, ls, h1, h2, fun p3 pw3 pd3 H3 ks k3 hp3 hw3 ok3 l3 e3 hd3 => ?_⟩
    refine ⟨p3, _, rfl, SqT.of hp3, rfl, _, _, rfl, _, _, rfl, rfl, ?_⟩
    refine ⟨_, rfl, _, rfl, eqTups (k3.tup _ _ hd) hd3 ⟨_, rfl, ?_⟩⟩
    have k13 := (k1.trans k2).trans k3
    by_cases e : settledOf r = settledOf s
    · rw [decide_eq_true e]
      refine iteT ?_
      obtain ⟨ws3, hws3, mws3⟩ := hw3
      refine ⟨_, rfl, _, rfl, revT hws3 fun p4 H4 _ k4 hws => ?_⟩
      have mws := (mws3.kp k4).rev
      obtain ⟨vs, hvs, mvs⟩ := hw.kp (k3.trans k4)
      have vl := mvs.len
      have wl := mws.len
      rw [List.length_reverse (as := ks)] at wl
      refine catT hvs hws (sz_ (by omega)) fun p5 H5 k5 hp5 => ?_
      refine q (.ref p5) H5 ((k13.trans k4).trans k5) (.inl ⟨e, p5, ms ++ ks.reverse, rfl, ⟨_, hp5, Mvs.app (mvs.kp k5) (mws.kp k5)⟩, fun m hm => ?_, by rw [List.length_append, List.length_reverse]; omega, ?_⟩)
      · rcases List.mem_append.mp hm with hm | hm
        · exact ok1 m hm
        · exact ok3 m (List.mem_reverse.mp hm)
      · rw [acts_append, e1, e, ← e3, acts_back ks ok3 ls]
    · rw [decide_eq_false e]
      refine iteF ?_
      exact q .non H3 k13 (.inr ⟨e, rfl⟩)
def sp_parting (K : PySem.W.Frag) : Sp := fun vs H Q _ => ∃ (a b : Addr) (r s : List Int) (n : Nat), vs = [.ref a, .ref b] ∧ H a = some (.tup (r.map V.int)) ∧ H b = some (.tup (s.map V.int)) ∧ LimN n (10 ^ 80) r ∧ LimN n (10 ^ 80) s ∧ 3 ≤ n ∧ n ≤ 8 ∧
  ∀ v H', Kp N0 H H' → ((settledOf r = settledOf s ∧ v = .non) ∨ (settledOf r ≠ settledOf s ∧ ∃ p p1 p2, v = .ref p ∧ H' p = some (.tup [.ref p1, .ref p2]) ∧ H' p1 = some (.tup ((settledOf r).map V.int)) ∧ H' p2 = some (.tup ((settledOf s).map V.int)))) → Q v H'
theorem ok_parting (T : Txt K mg) (D : Df K mg "parting" s_parting ["one", "other"]) (c_check_two : C8.Cal P w K mg base 6 "_check_two" (sp_check_two K) []) (c_settle : C8.Cal P w K mg base 2 "settle" (sp_settle K) []) (c_short_row : C8.Cal P w K mg base 3 "short_row" (sp_short_row K) []) : C8.Cal P w K mg base 7 "parting" (sp_parting K) [] := by
  obtain ⟨f, fd, D, hb⟩ := D
  refine C8.cal0 D (.all hb) .nil sc_parting (fun vs H Q E h => ?_) (fun cdv A outer s H vs Q E hr h => ?_)
  · obtain ⟨_, _, _, _, _, rfl, _⟩ := h; rfl
  · obtain ⟨a, b, r, s, n, rfl, ha, hb, hr1, hs, h1, h2, q⟩ := h
    refine ⟨_, (pss_cons (ps_expr (C8.pe_c c_check_two hr (by decide) (by rfl) (pa_cons (pv 0) (pa_cons (pv 1) pa_nil))))
      (pss_cons (ps_asg (C8.pe_c c_settle hr (by decide) (by rfl) (pa_cons (pv 0) pa_nil)) (pg_tup rfl (pgs_cons (pg_name (i := 2) sc_parting.nd rfl (Or.inl rfl)) (pgs_cons (pg_name (i := 3) sc_parting.nd rfl (Or.inl rfl)) pgs_nil))))
      (pss_cons (ps_asg (C8.pe_c c_settle hr (by decide) (by rfl) (pa_cons (pv 1) pa_nil)) (pg_tup rfl (pgs_cons (pg_name (i := 2) sc_parting.nd rfl (Or.inl rfl)) (pgs_cons (pg_name (i := 4) sc_parting.nd rfl (Or.inl rfl)) pgs_nil))))
      (pss_one (ps_ret (pe_ifExp (pt_cmpR (opK (K := K) rEqI (op_eqI hr.units)) (pv 3) (pv 4) (nomark _)) pe_non (pe_tupN (pa_cons (C8.pe_c c_short_row hr (by decide) (by rfl) (pa_cons (pv 3) pa_nil)) (pa_cons (C8.pe_c c_short_row hr (by decide) (by rfl) (pa_cons (pv 4) pa_nil)) pa_nil))))))))), ?_⟩
    have far := far_lt
    have rr := hr1.row h1 (by omega) far
    have rs := hs.row h1 (by omega) far
    have lr := hr1.1
    have ls := hs.1
    refine ⟨_, rfl, _, rfl, a, b, r, s, rfl, ha, hb, rr, rs, by omega, by omega, fun H1 k1 => ?_⟩
    refine ⟨_, rfl, a, r, n, rfl, k1.tup _ _ ha, lr, h1, h2, fun p2 pw pd H2 ms k2 hp2 hw ok1 l1 e1 hd => ?_⟩
    refine ⟨p2, _, rfl, SqT.of hp2, rfl, _, _, rfl, _, _, rfl, rfl, ?_⟩
    refine ⟨_, rfl, b, s, n, rfl, (k1.trans k2).tup _ _ hb, ls, h1, h2, fun p3 pw3 pd3 H3 ks k3 hp3 hw3 ok3 l3 e3 hd3 => ?_⟩
    refine ⟨p3, _, rfl, SqT.of hp3, rfl, _, _, rfl, _, _, rfl, rfl, ?_⟩
    refine ⟨_, rfl, _, rfl, eqTups (k3.tup _ _ hd) hd3 ⟨_, rfl, ?_⟩⟩
    have k13 := (k1.trans k2).trans k3
    by_cases e : settledOf r = settledOf s
    · rw [decide_eq_true e]
      refine iteT ?_
      exact q .non H3 k13 (.inl ⟨e, rfl⟩)
    · rw [decide_eq_false e]
      refine iteF ?_
      have sr := set_len lr e1
      have ss := set_len ls e3
      refine ⟨_, rfl, pd, _, rfl, .inr (k3.tup _ _ hd), set_sh hr1 l1 e1, by omega, fun p4 H4 k4 hp4 => ?_⟩
      refine ⟨_, rfl, pd3, _, rfl, .inr (k4.tup _ _ hd3), set_sh hs l3 e3, by omega, fun p5 H5 k5 hp5 => ?_⟩
      refine newT (sz_ (by simp)) fun p6 H6 _ k6 hp6 => ?_
      exact q (.ref p6) H6 (((k13.trans k4).trans k5).trans k6) (.inr ⟨e, p6, p4, p5, rfl, hp6, (k5.trans k6).tup _ _ hp4, k6.tup _ _ hp5⟩)
def sp_does_lead (K : PySem.W.Frag) : Sp := fun vs H Q _ => ∃ (a b : Addr) (r s : List Int) (n : Nat) (v : V), vs = [.ref a, .ref b, v] ∧ H a = some (.tup (r.map V.int)) ∧ H b = some (.tup (s.map V.int)) ∧ LimN n (10 ^ 80) r ∧ LimN n (10 ^ 80) s ∧ 3 ≤ n ∧ n ≤ 8 ∧
  ((∃ p ms, v = .ref p ∧ Wd H p ms ∧ (∀ m ∈ ms, MvOk n m) ∧ ms.length ≤ 1000 ∧ ∀ H', Kp N0 H H' → Q (.bl (decide (acts r ms = s))) H') ∨ (BadW n H v ∧ ∀ H', Kp N0 H H' → Q (.bl false) H'))
theorem ok_does_lead (T : Txt K mg) (D : Df K mg "does_lead" s_does_lead ["one", "other", "value"]) (c_check_two : C8.Cal P w K mg base 6 "_check_two" (sp_check_two K) []) (c_is_word_p : C8.Cal P w K mg base 6 "is_word" (sp_is_word_p K) []) (c_moved_far : C8.Cal P w K mg base 2 "moved_far" (sp_moved_far K) []) : C8.Cal P w K mg base 7 "does_lead" (sp_does_lead K) [] := by
  obtain ⟨f, fd, D, hb⟩ := D
  refine C8.cal0 D (.all hb) .nil sc_does_lead (fun vs H Q E h => ?_) (fun cdv A outer s H vs Q E hr h => ?_)
  · obtain ⟨_, _, _, _, _, _, rfl, _⟩ := h; rfl
  · obtain ⟨a, b, r, s, n, v, rfl, ha, hb, hr1, hs, h1, h2, h⟩ := h
    refine ⟨_, (pss_cons (ps_expr (C8.pe_c c_check_two hr (by decide) (by rfl) (pa_cons (pv 0) (pa_cons (pv 1) pa_nil))))
      (pss_one (ps_ret (pe_and (C8.pe_c c_is_word_p hr (by decide) (by rfl) (pa_cons (pe_op op_sub (pe_callB (callK (K := K) Vf.rLen call_lenI) (by rfl) T.b_len (by decide +kernel) (pa_cons (pv 0) pa_nil)) pe_int) (pa_cons (pv 2) pa_nil))) (pe_one (pe_cmpR (opK (K := K) rEqI (op_eqI hr.units)) (pe_callTy (callK (K := K) rTupOf call_tupI) (by rfl) T.b_tuple (by decide +kernel) (pa_cons (C8.pe_c c_moved_far hr (by decide) (by rfl) (pa_cons (pv 0) (pa_cons (pv 2) pa_nil))) pa_nil)) (pv 1) (nomark _))))))), ?_⟩
    have far := far_lt
    have rr := hr1.row h1 (by omega) far
    have rs := hs.row h1 (by omega) far
    have lr := hr1.1
    have ls := hs.1
    refine ⟨_, rfl, _, rfl, a, b, r, s, rfl, ha, hb, rr, rs, by omega, by omega, fun H1 k1 => ?_⟩
    have ha1 := k1.tup _ _ ha
    refine ⟨_, rfl, lenT rfl ha1 ⟨_, _, rfl, rfl, _, rfl, ?_⟩⟩
    dsimp only
    rw [show (((r.map V.int).length : Nat) : Int) - 1 = (n : Int) by rw [List.length_map]; omega]
    refine ⟨n, v, rfl, h1, by omega, ?_⟩
    rcases h with ⟨p, ms, rfl, hw, ok, hl, q⟩ | ⟨bad, q⟩
    · refine .inl ⟨p, ms, rfl, hw.kp k1, ok, hl, fun H2 k2 => ⟨true, rfl, iteT ?_⟩⟩
      refine ⟨_, rfl, _, rfl, a, p, r, ms, n, rfl, SqT.of (k2.tup _ _ ha1), hw.kp (k1.trans k2), ok, lr, by omega, fun p3 H3 n3 k3 hp3 => ?_⟩
      refine tupL rfl (SqL.of hp3) fun p4 H4 _ k4 hp4 => ⟨_, rfl, eqTups hp4 (((k1.trans k2).trans (k3.trans k4)).tup _ _ hb) ?_⟩
      exact q _ ((k1.trans k2).trans (k3.trans k4))
    · exact .inr ⟨bad.kp k1, fun H2 k2 => ⟨false, rfl, iteF (q _ (k1.trans k2))⟩⟩

/-! ### the law's own settled row -/
def lst2 (s : Int × List Int) : List Int := s.1 :: s.2
theorem sd_rev {ms l : List Int} (h : ms.Perm l) (p : ms.Pairwise (· ≤ ·)) : ms.reverse = sd l := sd_uniq ((List.reverse_perm ms).trans h) (List.pairwise_reverse.mpr p)
theorem lst2_of {d : Int} {ms l : List Int} (h : ms.Perm l) (p : ms.Pairwise (· ≤ ·)) : [V.int d] ++ (ms.map V.int).reverse = (lst2 (d, sd l)).map V.int := by
  unfold lst2
  rw [← sd_rev h p, List.map_cons, List.map_reverse]
  rfl
def more4 (g : Int) (l : List Int) : List Int := (List.range l.length).map fun t => l.getD t 0 + g * (if decide ((t : Int) < 4) = true then 1 else 0)
theorem more4_eq (g d x y z : Int) (o : List Int) : more4 g (d :: x :: y :: z :: o) = (d + g) :: (x + g) :: (y + g) :: (z + g) :: o := by
  unfold more4
  refine List.ext_getElem (by simp) fun i h1 h2 => ?_
  rw [List.getElem_map, List.getElem_range]
  match i with
  | 0 => show d + g * (if decide (((0 : Nat) : Int) < 4) = true then 1 else 0) = d + g; rw [if_pos (by decide)]; omega
  | 1 => show x + g * (if decide (((1 : Nat) : Int) < 4) = true then 1 else 0) = x + g; rw [if_pos (by decide)]; omega
  | 2 => show y + g * (if decide (((2 : Nat) : Int) < 4) = true then 1 else 0) = y + g; rw [if_pos (by decide)]; omega
  | 3 => show z + g * (if decide (((3 : Nat) : Int) < 4) = true then 1 else 0) = z + g; rw [if_pos (by decide)]; omega
  | i + 4 =>
    have hi : i < o.length := by simpa using h2
    rw [if_neg (by simp; omega)]
    show (d :: x :: y :: z :: o).getD (i + 4) 0 + g * 0 = o[i]
    rw [List.getD_eq_getElem?_getD]
    show (o[i]?).getD 0 + g * 0 = o[i]
    rw [List.getElem?_eq_getElem hi]
    show o[i] + g * 0 = o[i]
    omega
structure Sls (H H' : Hp) (pn : Addr) (n k : Nat) (r : List Int) (s : Int × List Int) : Prop where
  kp : Kp N0 H H'
  hn : H' pn = some (.lst ((lst2 s).map V.int))
  fl : s = fl k (st0 r)
  srt : Srt8 s
  len : s.2.length = n
  bd : k + n0 s.1 s.2 ≤ 92
def sp_l_settled (K : PySem.W.Frag) : Sp := fun vs H Q _ => ∃ (a : Addr) (r : List Int) (n : Nat), vs = [.ref a] ∧ H a = some (.tup (r.map V.int)) ∧ LimN n (10 ^ 80) r ∧ 3 ≤ n ∧ n ≤ 8 ∧ ∀ p H', Kp N0 H H' → H' p = some (.tup ((settledOf r).map V.int)) → Q (.ref p) H'
theorem ok_l_settled (T : Txt K mg) (D : Df K mg "_law_settled" s_l_settled ["_law_row_here"]) (c_l_times : C8.Cal P w K mg base 1 "_law_times" (sp_l_times K) []) (c_l_cubic : C8.Cal P w K mg base 1 "_law_cubic" (sp_l_cubic K) []) : C8.Cal P w K mg base 2 "_law_settled" (sp_l_settled K) [] := by
  obtain ⟨f, fd, D, hb⟩ := D
  refine C8.cal0 D (.all hb) .nil sc_l_settled (fun vs H Q E h => ?_) (fun cdv A outer s H vs Q E hr h => ?_)
  · obtain ⟨_, _, _, rfl, _⟩ := h; rfl
  · obtain ⟨a, r, n, rfl, ha, hr1, h1, h2, q⟩ := h
    refine ⟨_, (pss_cons (ps_if (PW.pt (pw_and (pt_cmpR op_eq (pe_callB (callK (K := K) Vf.rLen call_lenI) (by rfl) T.b_len (by decide +kernel) (pa_cons (pv 0) pa_nil)) pe_int (nomark _)) (pw_and1 (pt_cmpR op_le (C8.pe_c c_l_times hr (by decide) (by rfl) (pa_cons (pv 0) (pa_cons (C8.pe_c c_l_cubic hr (by decide) (by rfl) (pa_cons pe_int pa_nil)) pa_nil))) pe_int (nomark _))))) (pss_one (ps_ret pe_non)) pss_nil)
      (pss_cons (ps_set (i := 1) sc_l_settled.nd rfl (Or.inr rfl) (pe_op op_catLI (pe_lstN (pa_cons (pe_ix (ixK (K := K) rIxT ix_tup) (pv 0) pe_int (fun _ _ => rfl)) pa_nil)) (pe_revL (pe_callB (callK (K := K) rSortTI call_srtTI) (by rfl) T.b_sorted (by decide +kernel) (pa_cons (pe_slice (slK (K := K) rSlI sl_tupI) (pv 0) (po_some pe_int) po_none) pa_nil)))))
      (pss_cons (ps_while PassesOwn.never (pt_cmpR op_lt (pe_ix (ixK (K := K) rIxL ix_list) (pv 1) pe_int (fun _ _ => rfl)) (pe_op op_add (pe_op op_add (pe_ix (ixK (K := K) rIxL ix_list) (pv 1) pe_int (fun _ _ => rfl)) (pe_ix (ixK (K := K) rIxL ix_list) (pv 1) pe_int (fun _ _ => rfl))) (pe_ix (ixK (K := K) rIxL ix_list) (pv 1) pe_int (fun _ _ => rfl))) (nomark _)) (pss_cons (ps_set (i := 2) sc_l_settled.nd rfl (Or.inr rfl) (pe_op op_sub (pe_op op_sub (pe_op op_sub (pe_ix (ixK (K := K) rIxL ix_list) (pv 1) pe_int (fun _ _ => rfl)) (pe_ix (ixK (K := K) rIxL ix_list) (pv 1) pe_int (fun _ _ => rfl))) (pe_ix (ixK (K := K) rIxL ix_list) (pv 1) pe_int (fun _ _ => rfl))) (pe_ix (ixK (K := K) rIxL ix_list) (pv 1) pe_int (fun _ _ => rfl))))
      (pss_cons (ps_set (i := 1) sc_l_settled.nd rfl (Or.inr rfl) (pe_lc (own := [("_law_at", 3)]) (g := gName 3) rfl sc_l_settled.nd (pi_range1 (by rfl) T.b_range (pa_cons (pe_callB (callK (K := K) Vf.rLen call_lenI) (by rfl) T.b_len (by decide +kernel) (pa_cons (pv 1) pa_nil)) pa_nil)) (C8b.blk (N := ["_law_row_here", "_law_numbers", "_law_more", "_law_at"]) (sc := C8.fnScope s_l_settled) (by decide +kernel)) (fun _ _ _ _ _ => (pg_name (i := 3) sc_l_settled.nd rfl (Or.inl rfl))) (fun _ _ _ _ _ => pts_nil) (fun _ _ _ _ _ => (pe_op op_add (pe_ix (ixK (K := K) rIxL ix_list) (pv 1) (pv 3) (fun _ _ => rfl)) (pe_op op_mulE (pv 2) (pe_callTy call_int1 (by rfl) T.b_int (by decide +kernel) (pa_cons (pe_cmpR op_lt (pv 3) pe_int (nomark _)) pa_nil)))))))
      (pss_one (ps_set (i := 1) sc_l_settled.nd rfl (Or.inr rfl) (pe_op op_catLI (pe_lstN (pa_cons (pe_ix (ixK (K := K) rIxL ix_list) (pv 1) pe_int (fun _ _ => rfl)) pa_nil)) (pe_revL (pe_callB (callK (K := K) rSortI call_srtI) (by rfl) T.b_sorted (by decide +kernel) (pa_cons (pe_slice (slK (K := K) rSlLI sl_lstI) (pv 1) (po_some pe_int) po_none) pa_nil)))))))))
      (pss_one (ps_ret (pe_callTy (callK (K := K) rTupOf call_tupI) (by rfl) T.b_tuple (by decide +kernel) (pa_cons (pv 1) pa_nil))))))), ?_⟩
    have hl := hr1.1
    refine ⟨_, rfl, lenT rfl ha ⟨rfl, _, rfl, iteNo (fun z => ?_) (iteF ?_)⟩⟩
    · have z := V.int.inj z
      rw [List.length_map] at z
      omega
    refine ⟨_, rfl, a, _, _, _, rfl, rfl, SqT.of ha, at_row0 (by omega), newL (sz_ (by simp)) fun p1 H1 n1 k1 hp1 => ?_⟩
    refine ⟨_, rfl, _, rfl, slT (k1.tup _ _ ha) fun p2 H2 k2 hp2 => ?_⟩
    rw [cut_1] at hp2
    refine sortTI rfl hp2 (by simp; omega) fun ms p3 H3 pm pw n3 k3 hp3 => ?_
    refine ⟨p3, _, rfl, SqL.of hp3, fun p4 n4 => ?_⟩
    have k4 : Kp N0 H3 (upd H3 p4 (.lst (ms.map V.int).reverse)) := .new n4
    have hp4 : upd H3 p4 (.lst (ms.map V.int).reverse) p4 = some (.lst (ms.map V.int).reverse) := upd_same
    generalize upd H3 p4 (.lst (ms.map V.int).reverse) = H4 at k4 hp4
    have msl := pm.length_eq
    rw [List.length_drop] at msl
    refine catL (((k2.trans k3).trans k4).keep _ _ (fun z => z) hp1) hp4 (sz_ (by simp; omega)) fun p5 H5 n5 k5 hp5 => ?_
    rw [lst2_of pm pw] at hp5
    have S0 : Sls H H5 p5 n 0 r (st0 r) := ⟨((((k1.trans k2).trans k3).trans k4).trans k5), hp5, rfl, srt_of hl h1 h2, by show (sd (r.drop 1)).length = n; rw [sd_len, List.length_drop]; omega, by
      have := n0_le (d := (st0 r).1) (srt_of hl h1 h2).l8
      omega⟩
    refine ⟨fun m σ H' => ∃ pn v2 v3 s k, σ = [some (.ref a), some (.ref pn), v2, v3] ∧ m = n0 s.1 s.2 ∧ Sls H H' pn n k r s, ⟨_, p5, _, _, st0 r, 0, rfl, rfl, S0⟩, ?_⟩
    rintro m σ H6 ⟨pn, v2, v3, s, k, rfl, rfl, S⟩
    obtain ⟨d, mm⟩ := s
    obtain ⟨x, y, z, o, rfl⟩ := three_of S.srt.l3
    have hn : H6 pn = some (.lst ((d :: x :: y :: z :: o).map V.int)) := S.hn
    have ln : o.length + 3 = n := S.len
    refine ⟨_, rfl, pn, _, _, _, rfl, rfl, SqL.of hn, at_row0 (by simp), _, rfl, pn, _, _, _, rfl, rfl, SqL.of hn, at_row (j := 1) (by simp), _, rfl, pn, _, _, _, rfl, rfl, SqL.of hn, at_row (j := 2) (by simp), _, _, rfl, rfl, _, rfl, pn, _, _, _, rfl, rfl, SqL.of hn, at_row (j := 3) (by simp), _, _, rfl, rfl, _, _, rfl, rfl, _, rfl, ?_⟩
    by_cases hc : d < x + y + z
    case neg =>
      refine iteFB (decide_eq_false hc) ?_
      refine ⟨_, rfl, tupL rfl (SqL.of hn) fun p7 H7 _ k7 hp7 => ?_⟩
      refine q p7 H7 (S.kp.trans k7) ?_
      have hset : settledOf r = lst2 (d, x :: y :: z :: o) := by
        unfold settledOf
        have := S.bd
        rw [fend_of (by omega) S.fl S.srt.l3 (by show x + y + z ≤ d; omega)]
        rfl
      rw [hset]
      exact hp7
    refine iteTB (decide_eq_true hc) ⟨fun σ' H' => ∃ m', m' < n0 d (x :: y :: z :: o) ∧ ∃ pn v2 v3 s k, σ' = [some (.ref a), some (.ref pn), v2, v3] ∧ m' = n0 s.1 s.2 ∧ Sls H H' pn n k r s, fun σ' H' z => z, ?_⟩
    refine ⟨_, rfl, pn, _, _, _, rfl, rfl, SqL.of hn, at_row0 (by simp), _, rfl, pn, _, _, _, rfl, rfl, SqL.of hn, at_row (j := 1) (by simp), _, _, rfl, rfl, _, rfl, pn, _, _, _, rfl, rfl, SqL.of hn, at_row (j := 2) (by simp), _, _, rfl, rfl, _, rfl, pn, _, _, _, rfl, rfl, SqL.of hn, at_row (j := 3) (by simp), _, _, rfl, rfl, ?_⟩
    dsimp only
    rw [show (d :: x :: y :: z :: o).getD 0 0 - (d :: x :: y :: z :: o).getD 1 0 - (d :: x :: y :: z :: o).getD 2 0 - (d :: x :: y :: z :: o).getD 3 0 = d - x - y - z from rfl]
    generalize hg : d - x - y - z = g
    refine ⟨_, rfl, lenL rfl (SqL.of hn) ⟨_, rfl, by simp only [List.length_map]; omega, by simp only [List.length_map, List.length_cons]; omega, ?_⟩⟩
    refine lc_ints walk_range (fun t => (d :: x :: y :: z :: o).getD t 0 + g * (if decide ((t : Int) < 4) = true then 1 else 0)) (by simp only [List.length_map, List.length_cons]; omega) (fun _ _ => trivial) ?_ ?_
    · rintro t xv H8' H8 ht k8 ⟨rfl, rfl⟩ R hR
      dsimp only
      rw [Int.zero_add]
      have ht' : t < (d :: x :: y :: z :: o).length := by
        simp only [List.length_map] at ht
        omega
      refine ⟨rfl, _, rfl, _, rfl, pn, _, _, _, rfl, rfl, SqL.of (k8.keep _ _ (fun z => z) hn), at_row (ns := d :: x :: y :: z :: o) (j := t) ht', _, rfl, _, rfl, _, _, rfl, rfl, .inr ⟨_, rfl, _, _, rfl, rfl, mulX_right (by split <;> decide), _, _, rfl, rfl, hR _ (.refl _ _)⟩⟩
    intro D9 H9 k9 hD9
    have e9 : ((List.range ((((d :: x :: y :: z :: o).map V.int).length : Nat) : Int).toNat).map fun t => (d :: x :: y :: z :: o).getD t 0 + g * (if decide ((t : Int) < 4) = true then 1 else 0)) = (d + g) :: (x + g) :: (y + g) :: (z + g) :: o := by
      rw [← more4_eq]
      unfold more4
      rw [List.length_map]
      rfl
    rw [e9] at hD9
    refine ⟨_, rfl, D9, _, _, _, rfl, rfl, SqL.of hD9, at_row0 (by simp), newL (sz_ (by simp)) fun pA HA nA kA hpA => ?_⟩
    refine ⟨_, rfl, _, rfl, slL (SqL.of (kA.keep _ _ (fun z => z) hD9)) fun pB HB nB kB hpB => ?_⟩
    rw [cut_1] at hpB
    refine sortL rfl (SqL.of hpB) (by simp; omega) fun ls pC HC pm2 pw2 nC kC hpC => ?_
    refine ⟨pC, _, rfl, SqL.of hpC, fun pD nD => ?_⟩
    have kD : Kp N0 HC (upd HC pD (.lst (ls.map V.int).reverse)) := .new nD
    have hpD : upd HC pD (.lst (ls.map V.int).reverse) pD = some (.lst (ls.map V.int).reverse) := upd_same
    generalize upd HC pD (.lst (ls.map V.int).reverse) = HD at kD hpD
    have lsl := pm2.length_eq
    simp only [List.length_drop, List.length_cons] at lsl
    refine catL (((kB.trans kC).trans kD).keep _ _ (fun z => z) hpA) hpD (sz_ (by simp; omega)) fun pE HE nE kE hpE => ?_
    rw [lst2_of pm2 pw2] at hpE
    have hns : ¬ Stnd (d, x :: y :: z :: o) := by
      show ¬ (x + y + z ≤ d)
      omega
    have es : fstep (d, x :: y :: z :: o) = (d + g, sd ((x + g) :: (y + g) :: (z + g) :: o)) := by
      show (if d < x + y + z then _ else _) = _
      rw [if_pos hc, hg]
    obtain ⟨f1, f2⟩ := fstep_fall S.srt hns
    rw [es] at f1 f2
    have hbd := S.bd
    have hfl := S.fl
    refine ⟨_, f2, pE, _, _, (d + g, sd ((x + g) :: (y + g) :: (z + g) :: o)), k + 1, rfl, rfl, S.kp.trans (((((k9.trans kA).trans kB).trans kC).trans kD).trans kE), hpE, by rw [fl_succ, ← hfl, es], f1, ?_, ?_⟩
    · show (sd _).length = n
      rw [sd_len]
      simp only [List.length_cons]
      omega
    · have f2' : n0 (d + g) (sd ((x + g) :: (y + g) :: (z + g) :: o)) < n0 d (x :: y :: z :: o) := f2
      have hbd' : k + n0 d (x :: y :: z :: o) ≤ 92 := hbd
      show k + 1 + n0 (d + g) (sd ((x + g) :: (y + g) :: (z + g) :: o)) ≤ 92
      omega

/-! ### the law's own word -/
def IntM (H : Hp) (x : V) (nm : Str) (ix : List Int) : Prop := ∃ p, x = .ref p ∧ H p = some (.tup (V.str nm :: ix.map V.int)) ∧ ((nm = "swap" ∧ ix.length = 2) ∨ (nm = "turn" ∧ ix.length = 3))
-- comprehension with a test, items of any kind
theorem lc_filtV {J : It} {n : Nat} {Gw : Hp → Prop} {Y : Nat → Hp → V → Hp → Prop} {g : TG} {tt : TT} {te : TE} {vs : List Nat} {σ : L2.St} {H1 : Hp} {Qd : Addr → Hp → Prop} (w : Walk J n Gw Y) (t : Nat → Bool) (f : Nat → V) (hn : n ≤ 100000) (hw : ∀ H, Kp N0 H1 H → Gw H)
    (turn : ∀ i x H H', i < n → Kp N0 H1 H → Y i H x H' →
      g x (wipe σ vs) H' fun σ2 H2 => wipe σ2 vs = wipe σ vs ∧ (∀ R : Bool → Hp → Prop, (∀ H3, Kp N0 H H3 → R (t i) H3) → tt σ2 H2 R) ∧ (t i = true → ∀ H3, Kp N0 H H3 → ∀ R : VK, (∀ H4, Kp N0 H H4 → R (f i) H4) → te σ2 H3 R))
    (gm : ∀ x σ H (A B : L2.St → Hp → Prop), (∀ σ H, A σ H → B σ H) → g x σ H A → g x σ H B)
    (fin : ∀ D H', Kp N0 H1 H' → H' D = some (.lst (((List.range n).filter t).map f)) → Qd D H') :
    ∀ D, H1 D = none → ∃ W : Nat → Nat → Hp → Prop, (∃ m, W 0 m (upd H1 D (.lst []))) ∧ ∀ i m H, W i m H →
      (J.stop i H ∧ Qd D H) ∨ (J.go i H ∧ ∃ Nx : Hp → Prop, (∀ H', Nx H' → ∃ m', m' < m ∧ W (i + 1) m' H') ∧ ∀ x H', J.yld i H x H' → g x (wipe σ vs) H' fun σ2 H2 => wipe σ2 vs = wipe σ vs ∧ tt σ2 H2 fun b H3 =>
        if b = true then te σ2 H3 fun y H4 => ∃ acc, H4 D = some (.lst acc) ∧ acc.length < sizeLine ∧ Nx (upd H4 D (.lst (acc ++ [y]))) else Nx H3) := by
  intro D hDn
  refine ⟨fun i m H => m = n - i ∧ i ≤ n ∧ Kp N0 H1 H ∧ H D = some (.lst (((List.range i).filter t).map f)), ⟨n, by simp, Nat.zero_le _, .new hDn, upd_same⟩, ?_⟩
  rintro i m H ⟨rfl, hi, k, hy⟩
  have q := hw H k
  by_cases hlt : i < n
  · refine .inr ⟨w.goes i H hlt q, fun H' => Kp N0 H1 H' ∧ H' D = some (.lst (((List.range (i + 1)).filter t).map f)), fun H' p' => ⟨n - (i + 1), by omega, rfl, hlt, p'⟩, fun x H' y => ?_⟩
    refine gm _ _ _ _ _ (fun σ2 H2 h => ⟨h.1, h.2.1 _ fun H3 k3 => ?_⟩) (turn i x H H' hlt k (w.yields i H x H' hlt q y))
    by_cases ht : t i = true
    · rw [ht, if_pos rfl]
      refine h.2.2 ht H3 k3 _ fun H4 k4 => ?_
      have h4 := k4.keep _ _ (fun z => z) hy
      refine ⟨_, h4, ?_, .mut0 hDn (k.trans k4), ?_⟩
      · rw [List.length_map]
        have := List.length_filter_le t (List.range i)
        rw [List.length_range] at this
        exact Nat.lt_of_le_of_lt (Nat.le_trans this (by omega : i ≤ 100000)) (by decide)
      · rw [upd_same, List.range_succ, List.filter_append, List.filter_cons, if_pos ht]
        simp
    · have e : t i = false := by cases h : t i with | true => exact absurd h ht | false => rfl
      rw [e, if_neg (by decide)]
      refine ⟨k.trans k3, ?_⟩
      rw [k3.keep _ _ (fun z => z) hy, List.range_succ, List.filter_append, List.filter_cons, if_neg ht]
      simp
  · have e : i = n := by omega
    subst e
    exact .inl ⟨w.stops H q, fin D H k hy⟩
theorem neInts {H : Hp} {a b : Addr} {ns ms : List Int} {Q : VK} (h1 : SqL K H a (ns.map V.int)) (h2 : SqL K H b (ms.map V.int)) (q : Q (.bl (!decide (ns = ms))) H) : rNeI K (.ref a) (.ref b) H Q := by
  unfold rNeI
  refine ⟨_, _, .lst h1 (dpAll_ints ns), .lst h2 (dpAll_ints ms), shaped_list ns, shaped_list ms, ?_⟩
  rw [show PyData.eqv (.list (di ns)) (.list (di ms)) = decide (ns = ms) by rw [PyData.eqv, eqvAll_di]]
  exact q
theorem neTrue {H : Hp} {a b : Addr} {Q : VK} (h1 : SqL K H a [.bl true]) (h2 : SqL K H b []) (q : Q (.bl true) H) : rNeI K (.ref a) (.ref b) H Q := by
  unfold rNeI
  refine ⟨.list [.bool true], .list [], .lst h1 (.cons (.bl _) .nil), .lst (ds := []) h2 .nil, by decide +kernel, by decide +kernel, ?_⟩
  rw [show PyData.eqv (.list [.bool true]) (.list []) = false by simp [PyData.eqv, PyData.eqvAll]]
  exact q
def lastI (ix : List Int) : Int := ix.getD (ix.length - 1) 0
def Oky (n : Nat) (ix : List Int) : Prop := ix.Pairwise (· < ·) ∧ 0 ≤ ix.getD 0 0 ∧ lastI ix < n
theorem mv_oky {n : Nat} {m : Mv} (h : MvOk n m) : Oky n m.idx := by
  cases m with
  | sw i j =>
    obtain ⟨a, b⟩ := h
    refine ⟨by simp [Mv.idx]; omega, by show (0 : Int) ≤ i; omega, by show (j : Int) < n; omega⟩
  | tn i j k =>
    obtain ⟨a, b, c⟩ := h
    refine ⟨by simp [Mv.idx]; omega, by show (0 : Int) ≤ i; omega, by show (k : Int) < n; omega⟩
theorem mv_int {H : Hp} {p : Addr} {m : Mv} (h : H p = some (.tup m.val)) : IntM H (.ref p) m.nm m.idx := by
  refine ⟨p, rfl, by rw [← Mv.val_eq]; exact h, ?_⟩
  cases m with
  | sw i j => exact .inl ⟨rfl, rfl⟩
  | tn i j k => exact .inr ⟨rfl, rfl⟩
def Sim (n : Nat) (H : Hp) (v : V) : Prop := v = .non ∨ (∃ p vs ms, v = .ref p ∧ H p = some (.tup vs) ∧ Mvs H vs ms) ∨ (∃ p, v = .ref p ∧ H p = some (.tup [.str "off", .int 0])) ∨ ∃ p, v = .ref p ∧ H p = some (.tup [.str "swap", .bl true, .int 2])
theorem badM_cases {n : Nat} {H : Hp} {v : V} (h : BadM n H v) : Sim n H v ∨ ∃ nm ix, IntM H v nm ix ∧ ¬ Oky n ix := by
  rcases h with h | h | ⟨p, e, h⟩ | ⟨p, e, h⟩ | h | h
  · exact .inl (.inl h)
  · exact .inl (.inr (.inl h))
  · exact .inr ⟨"swap", [1, 0], ⟨p, e, h, .inl ⟨rfl, rfl⟩⟩, fun z => by have := z.1; simp at this⟩
  · exact .inr ⟨"turn", [0, 1, (n : Int)], ⟨p, e, h, .inr ⟨rfl, rfl⟩⟩, fun z => by have := z.2.2; exact absurd this (by show ¬ ((n : Int) < n); omega)⟩
  · exact .inl (.inr (.inr (.inl h)))
  · exact .inl (.inr (.inr (.inr h)))
theorem eqEmp {H : Hp} {p q : Addr} {xs : List V} {ds : List PyData} {Q : VK} (h1 : H p = some (.tup xs)) (hd : DpAll K H xs ds) (sh : SeqAt.shaped (.tuple ds) = true) (h2 : H q = some (.tup [])) (k : Q (.bl ds.isEmpty) H) : rEqI K (.ref p) (.ref q) H Q := by
  unfold rEqI
  refine ⟨_, _, .tup (SqT.of h1) hd, .tup (ds := []) (SqT.of h2) .nil, sh, shaped_row [], ?_⟩
  rw [show PyData.eqv (.tuple ds) (.tuple []) = ds.isEmpty by cases ds <;> simp [PyData.eqv, PyData.eqvAll]]
  exact k
def twoD : List PyData := [.str "swap", .str "turn"]
theorem inST {H : Hp} {x : V} {q : Addr} {d : PyData} {Q : VK} (hx : Dp K H x d) (sh : SeqAt.shaped d = true) (hy : H q = some (.tup [.str "swap", .str "turn"])) (k : Q (.bl (!twoD.any fun z => PyData.eqv z d)) H) : rNotInT K x (.ref q) H Q := by
  unfold rNotInT
  refine ⟨d, twoD, hx, .tup (SqT.of hy) (.cons (.str _) (.cons (.str _) .nil)), sh, ?_, by simp [twoD, PyData.depthAll, PyData.depth], k⟩
  simp only [twoD, PyData.canLayAll0, PyData.canLay0, ok_sw, ok_tn, Bool.and_self]
theorem two_str (nm : Str) : (!twoD.any fun z => PyData.eqv z (.str nm)) = !("swap" == nm || "turn" == nm) := by simp [twoD, PyData.eqv]
theorem two_tup (ds : List PyData) : (!twoD.any fun z => PyData.eqv z (.tuple ds)) = true := by simp [twoD, PyData.eqv]
theorem shaped_nm {nm : Str} (ok : PyData.strOk nm = true) (ix : List Int) : SeqAt.shaped (.tuple (.str nm :: di ix)) = true := by
  have h1 := canLay_di ix
  have h2 := depth_di ix
  unfold SeqAt.shaped
  rw [Bool.and_eq_true]
  refine ⟨by simp only [PyData.canLay0, PyData.canLayAll0, ok, h1, Bool.and_true], decide_eq_true (by simp only [PyData.depth, PyData.depthAll]; omega)⟩
theorem ok_off : PyData.strOk "off" = true := by decide +kernel
def sp_l_is_word (K : PySem.W.Frag) : Sp := fun vs H Q _ => ∃ (n : Nat) (v : V), vs = [.int n, v] ∧ 3 ≤ n ∧ n ≤ 16 ∧ ((∃ p ms, v = .ref p ∧ Wd H p ms ∧ (∀ m ∈ ms, MvOk n m) ∧ ms.length ≤ 1000 ∧ ∀ H', Kp N0 H H' → Q (.bl true) H') ∨ (BadW n H v ∧ ∀ H', Kp N0 H H' → Q (.bl false) H'))
theorem ok_l_is_word (T : Txt K mg) (D : Df K mg "_law_is_word" s_l_is_word ["_law_n", "_law_value"]) : C8.Cal P w K mg base 1 "_law_is_word" (sp_l_is_word K) [] := by
  obtain ⟨f, fd, D, hb⟩ := D
  refine C8.cal0 D (.all hb) .nil sc_l_is_word (fun vs H Q E h => ?_) (fun cdv A outer s H vs Q E hr h => ?_)
  · obtain ⟨_, _, rfl, _⟩ := h; rfl
  · obtain ⟨n, v, rfl, h1, h2, h⟩ := h
    refine ⟨_, (pss_cons (ps_if (PW.pt (pw_or (pt_not (pt_val (pe_callB (callK (K := K) rIsi call_isi) (by rfl) T.b_isinstance (by decide +kernel) (pa_cons (pv 1) (pa_cons (pe_bltn (v := .ty "tuple") (by rfl) T.b_tuple (by decide +kernel) rfl) pa_nil))))) (pw_or1 (pt_cmpR op_gt (pe_callB (callK (K := K) Vf.rLen call_lenI) (by rfl) T.b_len (by decide +kernel) (pa_cons (pv 1) pa_nil)) pe_int (nomark _))))) (pss_one (ps_ret pe_bl)) pss_nil)
      (pss_cons (ps_for PassesOwn.never rfl (pi_tup (pv 1)) (pg_name (i := 2) sc_l_is_word.nd rfl (Or.inl rfl)) (pss_cons (ps_if (PW.pt (pw_or (pt_not (pt_val (pe_callB (callK (K := K) rIsi call_isi) (by rfl) T.b_isinstance (by decide +kernel) (pa_cons (pv 2) (pa_cons (pe_bltn (v := .ty "tuple") (by rfl) T.b_tuple (by decide +kernel) rfl) pa_nil))))) (pw_or (pt_cmpR (opK (K := K) rEqI (op_eqI hr.units)) (pv 2) (pe_tupN pa_nil) (nomark _)) (pw_or1 (pt_cmpR (opK (K := K) rNotInT (op_notInT hr.units)) (pe_ix (ixK (K := K) rIxT ix_tup) (pv 2) pe_int (fun _ _ => rfl)) (pe_tupN (pa_cons pe_str (pa_cons pe_str pa_nil))) rfl))))) (pss_one (ps_ret pe_bl)) pss_nil)
      (pss_cons (ps_set (i := 3) sc_l_is_word.nd rfl (Or.inl rfl) (pe_callTy (callK (K := K) rListOf call_lstI) (by rfl) T.b_list (by decide +kernel) (pa_cons (pe_slice (slK (K := K) rSlI sl_tupI) (pv 2) (po_some pe_int) po_none) pa_nil)))
      (pss_cons (ps_if (pt_cmpR (opK (K := K) rNeI (op_neI hr.units)) (pe_lc (own := [("_law_one", 4)]) (g := gName 4) rfl sc_l_is_word.nd (pi_list (pv 3)) (C8b.blk (N := ["_law_n", "_law_value", "_law_move_here", "_law_places", "_law_one"]) (sc := C8.fnScope s_l_is_word) (by decide +kernel)) (fun _ _ _ _ _ => (pg_name (i := 4) sc_l_is_word.nd rfl (Or.inl rfl))) (fun _ _ _ _ _ => (pts_one (PW.pt (pw_or (pt_val (pe_callB (callK (K := K) rIsi call_isi) (by rfl) T.b_isinstance (by decide +kernel) (pa_cons (pv 4) (pa_cons (pe_bltn (v := .ty "bool") (by rfl) T.b_bool (by decide +kernel) rfl) pa_nil)))) (pw_or1 (pt_not (pt_val (pe_callB (callK (K := K) rIsi call_isi) (by rfl) T.b_isinstance (by decide +kernel) (pa_cons (pv 4) (pa_cons (pe_bltn (v := .ty "int") (by rfl) T.b_int (by decide +kernel) rfl) pa_nil)))))))))) (fun _ _ _ _ _ => (pv 4))) (pe_lstN pa_nil) (nomark _)) (pss_one (ps_ret pe_bl)) pss_nil)
      (pss_cons (ps_if (PW.pt (pw_or (pt_cmpR op_ne (pe_callB (callK (K := K) Vf.rLen call_lenI) (by rfl) T.b_len (by decide +kernel) (pa_cons (pv 3) pa_nil)) (pe_ifExp (pt_cmpR op_eq (pe_ix (ixK (K := K) rIxT ix_tup) (pv 2) pe_int (fun _ _ => rfl)) pe_str (nomark _)) pe_int pe_int) (nomark _)) (pw_or1 (pt_cmpR (opK (K := K) rNeI (op_neI hr.units)) (pv 3) (pe_callB (cr_sortedSet rfl) (by rfl) T.b_sorted (by decide +kernel) (pa_cons (pe_callTy (cr_setL rfl) (by rfl) T.b_set (by decide +kernel) (pa_cons (pv 3) pa_nil)) pa_nil)) (nomark _))))) (pss_one (ps_ret pe_bl)) pss_nil)
      (pss_one (ps_if (PW.pt (pw_or (pt_cmpR op_lt (pe_ix (ixK (K := K) rIxL ix_list) (pv 3) pe_int (fun _ _ => rfl)) pe_int (nomark _)) (pw_or1 (pt_cmpR op_ge (pe_ix (ixK (K := K) rIxL ix_list) (pv 3) (pe_un un_neg pe_int) (fun _ _ => rfl)) (pv 0) (nomark _))))) (pss_one (ps_ret pe_bl)) pss_nil)))))))
      (pss_one (ps_ret pe_bl)))), ?_⟩
    have key : ((v = .non ∨ v = .int 5 ∨ v = .str "word" ∨ (∃ p vs, v = .ref p ∧ H p = some (.lst vs)) ∨ (∃ p ks, v = .ref p ∧ H p = some (.dK ks))) ∧ ∀ H', Kp N0 H H' → Q (.bl false) H') ∨
        ∃ p ws ms tl, v = .ref p ∧ H p = some (.tup (ws ++ tl)) ∧ Mvs H ws ms ∧ (∀ m ∈ ms, MvOk n m) ∧ ms.length ≤ 1000 ∧ ((tl = [] ∧ ∀ H', Kp N0 H H' → Q (.bl true) H') ∨ (∃ x, tl = [x] ∧ BadM n H x ∧ ∀ H', Kp N0 H H' → Q (.bl false) H')) := by
      rcases h with ⟨p, ms, rfl, ⟨ws, hp, hm⟩, ok, hl, q⟩ | ⟨b, q⟩
      · exact .inr ⟨p, ws, ms, [], rfl, by rw [List.append_nil]; exact hp, hm, ok, hl, .inl ⟨rfl, q⟩⟩
      · rcases b with b | b | b | b | b | ⟨p, ws, x, ms, rfl, hp, hm, ok, hl, hx⟩
        · exact .inl ⟨.inl b, q⟩
        · exact .inl ⟨.inr (.inl b), q⟩
        · exact .inl ⟨.inr (.inr (.inl b)), q⟩
        · exact .inl ⟨.inr (.inr (.inr (.inl b))), q⟩
        · exact .inl ⟨.inr (.inr (.inr (.inr b))), q⟩
        · exact .inr ⟨p, ws, ms, [x], rfl, hp, hm, ok, by omega, .inr ⟨x, rfl, hx, q⟩⟩
    clear h
    rcases key with ⟨hv, q⟩ | ⟨p, ws, ms, tl, rfl, hp, hms, hok, hl, hq⟩
    · rcases hv with rfl | rfl | rfl | ⟨p, vs, rfl, hp⟩ | ⟨p, ks, rfl, hp⟩
      · exact ⟨_, rfl, _, _, _, _, false, rfl, .ty _, .base .non, kit_ty (by decide +kernel), false, rfl, iteT (q _ (.refl _ _))⟩
      · exact ⟨_, rfl, _, _, _, _, false, rfl, .ty _, .base (.int 5), kit_ty (by decide +kernel), false, rfl, iteT (q _ (.refl _ _))⟩
      · exact ⟨_, rfl, _, _, _, _, false, rfl, .ty _, .base (.str _), kit_ty (by decide +kernel), false, rfl, iteT (q _ (.refl _ _))⟩
      · exact ⟨_, rfl, _, _, _, _, false, rfl, .ty _, .base (.lst hp), kit_ty (by decide +kernel), false, rfl, iteT (q _ (.refl _ _))⟩
      · exact ⟨_, rfl, _, _, _, _, false, rfl, .ty _, .base (.dK hp), kit_ty (by decide +kernel), false, rfl, iteT (q _ (.refl _ _))⟩
    have hwl := hms.len
    have htl : tl.length ≤ 1 := by
      rcases hq with ⟨rfl, _⟩ | ⟨x, rfl, _⟩ <;> simp
    have hul : (ws ++ tl).length = ws.length + tl.length := List.length_append
    refine ⟨_, rfl, _, _, _, _, true, rfl, .ty _, tyT hp, kit_ty (by decide +kernel), true, rfl, iteF ?_⟩
    refine ⟨_, rfl, lenT rfl hp ⟨_, _, rfl, rfl, _, rfl, ?_⟩⟩
    rw [decide_eq_false (by omega)]
    refine iteF ⟨_, rfl, p, rfl, ⟨_, SqT.of hp⟩, ?_⟩
    refine for_it (n := (ws ++ tl).length) (walk_tup (K := K) (a := p) (xs := ws ++ tl)) (fun t σ H' => ∃ v2 v3 v4, σ = [some (.int n), some (.ref p), v2, v3, v4] ∧ Kp N0 H H' ∧ t ≤ ws.length) ⟨_, _, _, rfl, .refl _ _, Nat.zero_le _⟩ (fun _ _ H' _ ⟨_, _, _, _, k, _⟩ => SqT.of (k.tup _ _ hp)) ?_ ?_
    · rintro t x σ H3' H3 ht ⟨v2, v3, v4, rfl, k3, htw⟩ ⟨rfl, hx⟩
      have item : (Sim n H x ∧ ∀ H', Kp N0 H H' → Q (.bl false) H') ∨ ∃ nm ix, IntM H x nm ix ∧ ((Oky n ix ∧ t < ws.length) ∨ (¬ Oky n ix ∧ ∀ H', Kp N0 H H' → Q (.bl false) H')) := by
        by_cases hlt : t < ws.length
        · rw [List.getElem?_append_left hlt] at hx
          obtain ⟨pm, m, rfl, hm, hpm⟩ := hms.get hx
          exact .inr ⟨_, _, mv_int hpm, .inl ⟨mv_oky (hok m (List.mem_of_getElem? hm)), hlt⟩⟩
        · obtain rfl : t = ws.length := by omega
          rcases hq with ⟨rfl, _⟩ | ⟨x0, rfl, hb, q⟩
          · simp at ht
          rw [List.getElem?_append_right (Nat.le_refl _), Nat.sub_self] at hx
          cases hx
          rcases badM_cases hb with hb | ⟨nm, ix, h5, h6⟩
          · exact .inl ⟨hb, q⟩
          · exact .inr ⟨nm, ix, h5, .inr ⟨h6, q⟩⟩
      clear hx hq
      rcases item with ⟨hs, q⟩ | ⟨nm, ix, ⟨px, rfl, hpx, hnm⟩, hdec⟩
      · rcases hs with rfl | ⟨px, vs, ms', rfl, hpx, hm'⟩ | ⟨px, rfl, hpx⟩ | ⟨px, rfl, hpx⟩
        · exact ⟨_, rfl, _, _, _, _, false, rfl, .ty _, .base .non, kit_ty (by decide +kernel), false, rfl, iteT (q _ k3)⟩
        · have hpx3 := k3.tup _ _ hpx
          have hm3 := hm'.kp k3
          refine ⟨_, rfl, _, _, _, _, true, rfl, .ty _, tyT hpx3, kit_ty (by decide +kernel), true, rfl, iteF ?_⟩
          refine ⟨_, rfl, newT (sz_ (by simp)) fun q1 G1 _ j1 hq1 => eqEmp (j1.tup _ _ hpx3) (hm3.kp j1).dp (shaped_word ms') hq1 ⟨_, rfl, ?_⟩⟩
          by_cases he : (dms ms').isEmpty = true
          · exact iteTB he (q _ (k3.trans j1))
          refine iteFB (by simpa using he) ?_
          obtain ⟨m0, ms0, p0, vs0, rfl, rfl, hp0⟩ : ∃ m0 ms0 p0 vs0, ms' = m0 :: ms0 ∧ vs = .ref p0 :: vs0 ∧ H3 p0 = some (.tup m0.val) := by
            match vs, ms', hm3, he with
            | y :: vs', m0 :: ms0, ⟨⟨p0, e, h0⟩, _⟩, _ => exact ⟨m0, ms0, p0, vs', rfl, by rw [e], h0⟩
            | [], [], _, he => exact absurd rfl he
          refine ⟨_, rfl, px, _, _, _, rfl, rfl, SqT.of (j1.tup _ _ hpx3), atI_nat (j := 0) rfl, newT (sz_ (by simp)) fun q2 G2 _ j2 hq2 => inST (Mv.dp ((j1.trans j2).tup _ _ hp0)) (shaped_mv m0) hq2 ⟨_, rfl, iteTB (two_tup _) (q _ ((k3.trans j1).trans j2))⟩⟩
        · have hpx3 := k3.tup _ _ hpx
          refine ⟨_, rfl, _, _, _, _, true, rfl, .ty _, tyT hpx3, kit_ty (by decide +kernel), true, rfl, iteF ?_⟩
          refine ⟨_, rfl, newT (sz_ (by simp)) fun q1 G1 _ j1 hq1 => eqEmp (j1.tup _ _ hpx3) (.cons (.str _) (dpAll_ints [0])) (shaped_nm ok_off [0]) hq1 ⟨_, rfl, iteFB rfl ?_⟩⟩
          exact ⟨_, rfl, px, _, _, _, rfl, rfl, SqT.of (j1.tup _ _ hpx3), rfl, newT (sz_ (by simp)) fun q2 G2 _ j2 hq2 => inST (.str "off") (shaped_str ok_off) hq2 ⟨_, rfl, iteTB (by rw [two_str]; decide +kernel) (q _ ((k3.trans j1).trans j2))⟩⟩
        · have hpx3 := k3.tup _ _ hpx
          refine ⟨_, rfl, _, _, _, _, true, rfl, .ty _, tyT hpx3, kit_ty (by decide +kernel), true, rfl, iteF ?_⟩
          refine ⟨_, rfl, newT (sz_ (by simp)) fun q1 G1 _ j1 hq1 => eqEmp (ds := [.str "swap", .bool true, .int 2]) (j1.tup _ _ hpx3) (.cons (.str _) (.cons (.bl _) (.cons (.int _) .nil))) (by decide +kernel) hq1 ⟨_, rfl, iteFB rfl ?_⟩⟩
          refine ⟨_, rfl, px, _, _, _, rfl, rfl, SqT.of (j1.tup _ _ hpx3), rfl, newT (sz_ (by simp)) fun q2 G2 _ j2 hq2 => inST (.str "swap") (shaped_str ok_sw) hq2 ⟨_, rfl, iteFB (by rw [two_str]; decide +kernel) ?_⟩⟩
          refine ⟨_, rfl, _, rfl, slT ((j1.trans j2).tup _ _ hpx3) fun q3 G3 j3 hq3 => ?_⟩
          rw [show (some (1 : Int)) = some ((1 : Nat) : Int) from rfl, cut_from] at hq3
          have hq3 : G3 q3 = some (.tup [.bl true, .int 2]) := hq3
          refine listL rfl (.inr (SqT.of hq3)) fun q4 G4 n4 j4 hq4 => ?_
          refine ⟨_, rfl, q4, rfl, ⟨_, SqL.of hq4⟩, ?_⟩
          refine lc_filtV (walk_list (xs := [.bl true, .int 2])) (fun t => decide (t = 0)) (fun _ => .bl true) (by simp) (fun H' k => SqL.of (k.keep _ _ (fun z => z) hq4)) ?_ gm_name ?_
          · rintro i xx G5' G5 hi k5 ⟨rfl, hxx⟩
            rcases i with _ | _ | i
            · cases hxx
              refine ⟨rfl, fun R hR => ⟨_, rfl, _, _, _, _, true, rfl, .ty _, .base (.bl _), kit_ty (by decide +kernel), true, rfl, iteT (hR _ (.refl _ _))⟩, fun _ G6 k6 R hR => ⟨_, rfl, hR _ k6⟩⟩
            · cases hxx
              refine ⟨rfl, fun R hR => ⟨_, rfl, _, _, _, _, false, rfl, .ty _, .base (.int _), kit_ty (by decide +kernel), false, rfl, iteF ⟨_, rfl, _, _, _, _, true, rfl, .ty _, .base (.int _), kit_ty (by decide +kernel), true, rfl, hR _ (.refl _ _)⟩⟩, fun z => by simp at z⟩
            · simp at hxx
          intro D5 G5 j5 hD5
          exact newL (sz_ (by simp)) fun q6 G6 _ j6 hq6 => neTrue (SqL.of (j6.keep _ _ (fun z => z) hD5)) (SqL.of hq6) ⟨_, rfl, iteTB rfl (q _ (((((k3.trans j1).trans j2).trans j3).trans j4).trans (j5.trans j6)))⟩
      have hpx3 := k3.tup _ _ hpx
      have okn : PyData.strOk nm = true := by rcases hnm with ⟨rfl, _⟩ | ⟨rfl, _⟩; exact ok_sw; exact ok_tn
      have inn : ("swap" == nm || "turn" == nm) = true := by rcases hnm with ⟨rfl, _⟩ | ⟨rfl, _⟩ <;> decide +kernel
      refine ⟨_, rfl, _, _, _, _, true, rfl, .ty _, tyT hpx3, kit_ty (by decide +kernel), true, rfl, iteF ?_⟩
      refine ⟨_, rfl, newT (sz_ (by simp)) fun q1 G1 _ j1 hq1 => eqEmp (j1.tup _ _ hpx3) (.cons (.str _) (dpAll_ints ix)) (shaped_nm okn ix) hq1 ⟨_, rfl, iteFB rfl ?_⟩⟩
      refine ⟨_, rfl, px, _, _, _, rfl, rfl, SqT.of (j1.tup _ _ hpx3), atI_nat (j := 0) rfl, newT (sz_ (by simp)) fun q2 G2 _ j2 hq2 => inST (.str nm) (shaped_str okn) hq2 ⟨_, rfl, iteFB (by rw [two_str, inn]; rfl) ?_⟩⟩
      refine ⟨_, rfl, _, rfl, slT ((j1.trans j2).tup _ _ hpx3) fun q3 G3 j3 hq3 => ?_⟩
      rw [show (some (1 : Int)) = some ((1 : Nat) : Int) from rfl, cut_from] at hq3
      have hq3 : G3 q3 = some (.tup (ix.map V.int)) := hq3
      refine listL rfl (.inr (SqT.of hq3)) fun q4 G4 n4 j4 hq4 => ?_
      have k4 := (((k3.trans j1).trans j2).trans j3).trans j4
      refine ⟨_, rfl, q4, rfl, ⟨_, SqL.of hq4⟩, ?_⟩
      refine lc_filtV (walk_list (xs := ix.map V.int)) (fun _ => false) (fun _ => .non) (by rw [List.length_map]; rcases hnm with ⟨_, h⟩ | ⟨_, h⟩ <;> omega) (fun H' k => SqL.of (k.keep _ _ (fun z => z) hq4)) ?_ gm_name ?_
      · rintro i xx G5' G5 hi k5 ⟨rfl, hxx⟩
        rw [List.length_map] at hi
        rw [int_at hi] at hxx
        cases hxx
        exact ⟨rfl, fun R hR => ⟨_, rfl, _, _, _, _, false, rfl, .ty _, .base (.int _), kit_ty (by decide +kernel), false, rfl, iteF ⟨_, rfl, _, _, _, _, true, rfl, .ty _, .base (.int _), kit_ty (by decide +kernel), true, rfl, hR _ (.refl _ _)⟩⟩, fun z => by cases z⟩
      intro D5 G5 j5 hD5
      rw [List.filter_eq_nil_iff.mpr (fun _ _ z => by cases z)] at hD5
      have hD5 : G5 D5 = some (.lst (([] : List Int).map V.int)) := hD5
      refine newL (sz_ (by simp)) fun q6 G6 _ j6 hq6 => neNil (SqL.of (j6.keep _ _ (fun z => z) hD5)) (SqL.of hq6) ⟨_, rfl, iteFB rfl ?_⟩
      have k6 := k4.trans (j5.trans j6)
      have hq6 := (j5.trans j6).keep _ _ (fun z => z) hq4
      have hpx6 := ((((j1.trans j2).trans j3).trans j4).trans (j5.trans j6)).tup _ _ hpx3
      have hlen : ix.length < 64 := by rcases hnm with ⟨_, h⟩ | ⟨_, h⟩ <;> omega
      have hat0 : atI (ix.map V.int) 0 = some (.int (ix.getD 0 0)) := at_row0 (by rcases hnm with ⟨_, h⟩ | ⟨_, h⟩ <;> omega)
      have hatl : atI (ix.map V.int) (-1) = some (.int (lastI ix)) := by
        match ix, hnm with
        | [i, j], _ => rfl
        | [i, j, k], _ => rfl
        | [], h => simp at h
        | [_], h => simp at h
        | _ :: _ :: _ :: _ :: _, h => simp at h
      rcases hnm with ⟨rfl, hln⟩ | ⟨rfl, hln⟩
      · refine ⟨_, rfl, lenL rfl (SqL.of hq6) ⟨_, rfl, px, _, _, _, rfl, rfl, SqT.of hpx6, atI_nat (j := 0) rfl, rfl, _, rfl, iteEq rfl ⟨rfl, _, rfl, iteNe (by rw [List.length_map, hln]; rfl) ?_⟩⟩⟩
        refine ⟨_, rfl, _, rfl, setL rfl (SqL.of hq6) hlen fun q7 c G7 cl j7 hq7 => ?_⟩
        dsimp only [tNil]
        refine sortS rfl hq7 (by omega) fun q8 G8 ls dis j8 hq8 => ?_
        have hq68 := (j7.trans j8).keep _ _ (fun z => z) hq6
        have k8 := k6.trans (j7.trans j8)
        refine neInts (SqL.of hq68) (SqL.of hq8) ⟨_, rfl, ?_⟩
        by_cases hpw : ix.Pairwise (· < ·)
        case neg =>
          rcases hdec with ⟨hd, _⟩ | ⟨_, qf⟩
          · exact absurd hd.1 hpw
          · exact iteTB (by rw [decide_eq_false fun z => hpw ((dis_pw dis).mp z)]; rfl) (qf _ k8)
        refine iteFB (by rw [decide_eq_true ((dis_pw dis).mpr hpw)]; rfl) ?_
        refine ⟨_, rfl, q4, _, _, _, rfl, rfl, SqL.of hq68, hat0, _, _, rfl, rfl, _, rfl, ?_⟩
        by_cases h00 : ix.getD 0 0 < 0
        · rcases hdec with ⟨hd, _⟩ | ⟨_, qf⟩
          · exact absurd hd.2.1 (by omega)
          · exact iteTB (decide_eq_true h00) (qf _ k8)
        refine iteFB (decide_eq_false h00) ?_
        refine ⟨_, rfl, _, rfl, q4, _, _, _, rfl, rfl, SqL.of hq68, hatl, _, rfl, _, _, rfl, rfl, _, rfl, ?_⟩
        by_cases hll : (n : Int) ≤ lastI ix
        · rcases hdec with ⟨hd, _⟩ | ⟨_, qf⟩
          · exact absurd hd.2.2 (by omega)
          · exact iteTB (decide_eq_true hll) (qf _ k8)
        refine iteFB (decide_eq_false hll) ?_
        rcases hdec with ⟨_, hlt⟩ | ⟨hd, _⟩
        · exact ⟨_, _, _, rfl, k8, hlt⟩
        · exact absurd ⟨hpw, by omega, by omega⟩ hd
      · refine ⟨_, rfl, lenL rfl (SqL.of hq6) ⟨_, rfl, px, _, _, _, rfl, rfl, SqT.of hpx6, atI_nat (j := 0) rfl, rfl, _, rfl, iteNo (by decide) ⟨rfl, _, rfl, iteNe (by rw [List.length_map, hln]; rfl) ?_⟩⟩⟩
        refine ⟨_, rfl, _, rfl, setL rfl (SqL.of hq6) hlen fun q7 c G7 cl j7 hq7 => ?_⟩
        dsimp only [tNil]
        refine sortS rfl hq7 (by omega) fun q8 G8 ls dis j8 hq8 => ?_
        have hq68 := (j7.trans j8).keep _ _ (fun z => z) hq6
        have k8 := k6.trans (j7.trans j8)
        refine neInts (SqL.of hq68) (SqL.of hq8) ⟨_, rfl, ?_⟩
        by_cases hpw : ix.Pairwise (· < ·)
        case neg =>
          rcases hdec with ⟨hd, _⟩ | ⟨_, qf⟩
          · exact absurd hd.1 hpw
          · exact iteTB (by rw [decide_eq_false fun z => hpw ((dis_pw dis).mp z)]; rfl) (qf _ k8)
        refine iteFB (by rw [decide_eq_true ((dis_pw dis).mpr hpw)]; rfl) ?_
        refine ⟨_, rfl, q4, _, _, _, rfl, rfl, SqL.of hq68, hat0, _, _, rfl, rfl, _, rfl, ?_⟩
        by_cases h00 : ix.getD 0 0 < 0
        · rcases hdec with ⟨hd, _⟩ | ⟨_, qf⟩
          · exact absurd hd.2.1 (by omega)
          · exact iteTB (decide_eq_true h00) (qf _ k8)
        refine iteFB (decide_eq_false h00) ?_
        refine ⟨_, rfl, _, rfl, q4, _, _, _, rfl, rfl, SqL.of hq68, hatl, _, rfl, _, _, rfl, rfl, _, rfl, ?_⟩
        by_cases hll : (n : Int) ≤ lastI ix
        · rcases hdec with ⟨hd, _⟩ | ⟨_, qf⟩
          · exact absurd hd.2.2 (by omega)
          · exact iteTB (decide_eq_true hll) (qf _ k8)
        refine iteFB (decide_eq_false hll) ?_
        rcases hdec with ⟨_, hlt⟩ | ⟨hd, _⟩
        · exact ⟨_, _, _, rfl, k8, hlt⟩
        · exact absurd ⟨hpw, by omega, by omega⟩ hd
    · rintro σ H3 ⟨v2, v3, v4, rfl, k3, htw⟩
      rcases hq with ⟨rfl, q⟩ | ⟨x, rfl, _, q⟩
      · exact q _ k3
      · exact absurd htw (by simp)

/-! ### the other row, the spoilt word -/
theorem far9 : (5 : Int) ^ 9 * 10 ^ 60 + 2 ≤ 10 ^ 80 := by decide
theorem LimN.mono {n : Nat} {b c : Int} {ns : List Int} (h : LimN n b ns) (hc : b ≤ c) : LimN n c ns := ⟨h.1, fun x hx => by
  have := h.2 x hx
  exact ⟨by omega, by omega⟩⟩
theorem lim_moved {n : Nat} {r : List Int} {ms : List Mv} (h : LimN n (10 ^ 60) r) (hl : ms.length ≤ 9) : LimN n (5 ^ 9 * 10 ^ 60) (acts r ms) := ⟨by rw [acts_len]; exact h.1, fun x hx => by
  have h3 := acts_lim ms h.2 (by decide) x hx
  have h5 : (5 : Int) ^ ms.length * 10 ^ 60 ≤ 5 ^ 9 * 10 ^ 60 := Int.mul_le_mul_of_nonneg_right (pow5N hl) (by decide)
  exact ⟨by omega, by omega⟩⟩
theorem getD_mem' {ns : List Int} {i : Nat} (h : i < ns.length) : ns.getD i 0 ∈ ns := by
  rw [List.getD_eq_getElem?_getD, List.getElem?_eq_getElem h]
  exact List.getElem_mem h
def sp_l_other (K : PySem.W.Frag) : Sp := fun vs H Q _ => ∃ (a b : Addr) (r : List Int) (n : Nat), vs = [.ref a, .ref b] ∧ Dc a H ∧ H b = some (.tup (r.map V.int)) ∧ LimN n (10 ^ 60) r ∧ 3 ≤ n ∧ n ≤ 8 ∧ ∀ p H' (s : List Int), DR a H H' → H' p = some (.tup (s.map V.int)) → LimN n (10 ^ 80) s → Q (.ref p) H'
theorem ok_l_other (T : Txt K mg) (D : Df K mg "_law_other" s_l_other ["_law_dice_here", "_law_row_here"]) (c_l_roll : C8.Cal P w K mg base 1 "_law_roll" (sp_l_roll) []) (c_l_moved : C8.Cal P w K mg base 2 "_law_moved" (sp_l_moved K) []) (c_l_word : C8.Cal P w K mg base 3 "_law_word" (sp_l_word K) []) (c_l_one_of : C8.Cal P w K mg base 2 "_law_one_of" (sp_l_one_of K) []) (c_l_row : C8.Cal P w K mg base 5 "_law_row" (sp_l_row K) []) : C8.Cal P w K mg base 6 "_law_other" (sp_l_other K) [] := by
  obtain ⟨f, fd, D, hb⟩ := D
  refine C8.cal0 D (.all hb) .nil sc_l_other (fun vs H Q E h => ?_) (fun cdv A outer s H vs Q E hr h => ?_)
  · obtain ⟨_, _, _, _, rfl, _⟩ := h; rfl
  · obtain ⟨a, b, r, n, rfl, hd, hb, hr1, h1, h2, q⟩ := h
    refine ⟨_, (pss_cons (ps_par (i := 2) (j := 3) (by rfl) sc_l_other.nd rfl rfl (by decide) rfl rfl (pa_cons (pe_op op_sub (pe_callB (callK (K := K) Vf.rLen call_lenI) (by rfl) T.b_len (by decide +kernel) (pa_cons (pv 1) pa_nil)) pe_int) (pa_cons (C8.pe_c c_l_roll hr (by decide) (by rfl) (pa_cons (pv 0) (pa_cons pe_int pa_nil))) pa_nil)) (by rfl))
      (pss_cons (ps_set (i := 4) sc_l_other.nd rfl (Or.inl rfl) (C8.pe_c c_l_moved hr (by decide) (by rfl) (pa_cons (pv 1) (pa_cons (C8.pe_c c_l_word hr (by decide) (by rfl) (pa_cons (pv 0) (pa_cons (pv 2) (pa_cons pe_int pa_nil)))) pa_nil))))
      (pss_cons (ps_if (pt_cmpR op_lt (pv 3) pe_int (nomark _)) (pss_one (ps_ret (pv 4))) pss_nil)
      (pss_cons (ps_if (pt_cmpR op_eq (pv 3) pe_int (nomark _)) (pss_cons (ps_set (i := 5) sc_l_other.nd rfl (Or.inl rfl) (C8.pe_c c_l_roll hr (by decide) (by rfl) (pa_cons (pv 0) (pa_cons (pe_op op_add (pv 2) pe_int) pa_nil))))
      (pss_one (ps_ret (pe_op (opK (K := K) rCatI op_catI) (pe_op (opK (K := K) rCatI op_catI) (pe_slice (slK (K := K) rSlI sl_tupI) (pv 4) po_none (po_some (pv 5))) (pe_tupN (pa_cons (pe_op op_add (pe_ix (ixK (K := K) rIxT ix_tup) (pv 4) (pv 5) (fun _ _ => rfl)) (C8.pe_c c_l_one_of hr (by decide) (by rfl) (pa_cons (pv 0) (pa_cons (pe_lstN (pa_cons pe_int (pa_cons (pe_un un_neg pe_int) pa_nil))) pa_nil)))) pa_nil))) (pe_slice (slK (K := K) rSlI sl_tupI) (pv 4) (po_some (pe_op op_add (pv 5) pe_int)) po_none))))) pss_nil)
      (pss_one (ps_ret (C8.pe_c c_l_row hr (by decide) (by rfl) (pa_cons (pv 0) (pa_cons (pv 2) (pa_cons pe_int pa_nil)))))))))), ?_⟩
    have hl := hr1.1
    refine ⟨_, rfl, lenT rfl hb ⟨_, _, rfl, rfl, ?_⟩⟩
    dsimp only
    rw [show (((r.map V.int).length : Nat) : Int) - 1 = (n : Int) by rw [List.length_map]; omega]
    refine ⟨_, rfl, _, _, rfl, hd, by decide, by decide, fun w1 H1 _ _ d1 => ⟨_, _, rfl, ?_⟩⟩
    refine ⟨_, rfl, _, rfl, _, rfl, a, n, 9, rfl, d1.dc, h1, by omega, by decide, fun pw H2 ms d2 hw hml hok => ?_⟩
    have hb2 := d2.kp.tup _ _ (d1.kp.tup _ _ hb)
    refine ⟨b, pw, r, ms, n, rfl, hb2, hw, hok, hl, by omega, fun p3 H3 k3 hp3 => ?_⟩
    have d3 : DR a H H3 := (d1.trans d2).trans (.of d2.dc k3)
    have hs := lim_moved hr1 hml
    have hsl := hs.1
    generalize acts r ms = s at hp3 hs hsl
    refine ⟨_, rfl, _, _, rfl, rfl, _, rfl, ite2 (fun _ => ?_) (fun _ => ?_)⟩
    · exact ⟨_, rfl, q p3 H3 s d3 hp3 (hs.mono (by decide))⟩
    refine ⟨_, rfl, rfl, _, rfl, ite2 (fun _ => ?_) (fun _ => ?_)⟩
    · refine ⟨_, rfl, _, rfl, _, _, rfl, rfl, _, _, rfl, d3.dc, by omega, ?_, fun t H4 t0 t1 d4 => ?_⟩
      · exact Nat.lt_of_le_of_lt (by omega : ((n : Int) + 1).natAbs ≤ 100) (by decide)
      obtain ⟨j, rfl⟩ := Int.eq_ofNat_of_zero_le t0
      have hjl : j < s.length := by omega
      have hp4 := d4.kp.tup _ _ hp3
      refine ⟨_, rfl, _, rfl, _, rfl, slT hp4 fun p5 H5 k5 hp5 => ?_⟩
      rw [cut_to, ← List.map_take] at hp5
      refine ⟨_, rfl, _, rfl, p3, _, _, _, rfl, rfl, SqT.of (k5.tup _ _ hp4), at_row hjl, ?_⟩
      have d5 : DR a H H5 := (d3.trans d4).trans (.of d4.dc k5)
      refine ⟨_, rfl, _, rfl, newL (sz_ (by simp)) fun p6 H6 n6 k6 hp6 => ?_⟩
      have d6 := d5.trans (.of d5.dc k6)
      have n6a : p6 ≠ a := fun z => d5.dc.ne n6 z.symm
      refine .inl ⟨a, p6, [1, -1], rfl, d6.dc, SqL.of hp6, fun H' d => sq_lst_dr (xs := [V.int 1, V.int (-1)]) n6a hp6 d, by decide, by decide, fun z H7 hz d7 => ?_⟩
      have hz2 : z = 1 ∨ z = -1 := by simpa using hz
      refine ⟨_, _, rfl, rfl, newT (sz_ (by simp)) fun p8 H8 _ k8 hp8 => ?_⟩
      have hp58 := k8.tup _ _ (d7.kp.tup _ _ (k6.tup _ _ hp5))
      refine catT hp58 hp8 (sz_ (by simp; omega)) fun p9 H9 k9 hp9 => ?_
      have d9 := (d6.trans d7).trans (.of d7.dc (k8.trans k9))
      refine ⟨_, rfl, _, rfl, _, _, rfl, rfl, _, rfl, slT (((k8.trans k9)).tup _ _ (d7.kp.tup _ _ (k6.tup _ _ (k5.tup _ _ hp4)))) fun p10 H10 k10 hp10 => ?_⟩
      rw [show ((j : Int) + 1) = ((j + 1 : Nat) : Int) by omega, cut_from, ← List.map_drop] at hp10
      refine catT (k10.tup _ _ hp9) hp10 (sz_ (by simp; omega)) fun p11 H11 k11 hp11 => ?_
      have e : (s.take j).map V.int ++ [V.int (s.getD j 0 + z)] ++ (s.drop (j + 1)).map V.int = (s.take j ++ [s.getD j 0 + z] ++ s.drop (j + 1)).map V.int := by simp
      refine q p11 H11 _ (d9.trans (.of d9.dc (k10.trans k11))) (by rw [hp11, e]) ⟨by simp; omega, fun x hx => ?_⟩
      have hm := hs.2 (s.getD j 0) (getD_mem' hjl)
      have hb9 := far9
      rcases List.mem_append.mp hx with hx | hx
      · rcases List.mem_append.mp hx with hx | hx
        · have := hs.2 x (List.mem_of_mem_take hx)
          omega
        · simp only [List.mem_cons, List.not_mem_nil, or_false] at hx
          subst hx
          omega
      · have := hs.2 x (List.mem_of_mem_drop hx)
        omega
    · refine ⟨_, rfl, _, rfl, a, n, 3, rfl, d3.dc, h1, by omega, by decide, fun p4 H4 ns d4 hp4 hl4 => ?_⟩
      exact q p4 H4 ns (d3.trans d4) hp4 (hl4.mono (by decide))
theorem Mvs.cut {H : Hp} : ∀ {vs : List V} {ms : List Mv} (k : Nat), Mvs H vs ms → Mvs H (vs.take k) (ms.take k)
  | [], [], k, _ => by simp [Mvs]
  | _ :: _, _ :: _, 0, _ => trivial
  | _ :: _, _ :: _, k + 1, ⟨x, t⟩ => ⟨x, Mvs.cut k t⟩
theorem Mvs.drp {H : Hp} : ∀ {vs : List V} {ms : List Mv} (k : Nat), Mvs H vs ms → Mvs H (vs.drop k) (ms.drop k)
  | [], [], k, _ => by simp [Mvs]
  | _ :: _, _ :: _, 0, h => h
  | _ :: _, _ :: _, k + 1, ⟨_, t⟩ => Mvs.drp k t
def sp_l_spoilt (K : PySem.W.Frag) : Sp := fun vs H Q _ => ∃ (a b : Addr) (n : Nat) (ms : List Mv), vs = [.ref a, .int n, .ref b] ∧ Dc a H ∧ Wd H b ms ∧ (∀ m ∈ ms, MvOk n m) ∧ ms.length ≤ 200 ∧ 3 ≤ n ∧ n ≤ 16 ∧
  ∀ v H', DR a H H' → ((∃ p ks, v = .ref p ∧ Wd H' p ks ∧ (∀ m ∈ ks, MvOk n m) ∧ ks.length ≤ 1000) ∨ BadW n H' v) → Q v H'
theorem ok_l_spoilt (T : Txt K mg) (D : Df K mg "_law_spoilt" s_l_spoilt ["_law_dice_here", "_law_n", "_law_word_here"]) (c_l_roll : C8.Cal P w K mg base 1 "_law_roll" (sp_l_roll) []) (c_l_one_of : C8.Cal P w K mg base 2 "_law_one_of" (sp_l_one_of K) []) : C8.Cal P w K mg base 3 "_law_spoilt" (sp_l_spoilt K) [] := by
  obtain ⟨f, fd, D, hb⟩ := D
  refine C8.cal0 D (.all hb) .nil sc_l_spoilt (fun vs H Q E h => ?_) (fun cdv A outer s H vs Q E hr h => ?_)
  · obtain ⟨_, _, _, _, rfl, _⟩ := h; rfl
  · obtain ⟨a, b, n, ms, rfl, hd, ⟨us, hb, hm⟩, hok, hl, h1, h2, q⟩ := h
    refine ⟨_, (pss_cons (ps_par (i := 3) (j := 4) (by rfl) sc_l_spoilt.nd rfl rfl (by decide) rfl rfl (pa_cons (C8.pe_c c_l_roll hr (by decide) (by rfl) (pa_cons (pv 0) (pa_cons (pe_op op_add (pe_callB (callK (K := K) Vf.rLen call_lenI) (by rfl) T.b_len (by decide +kernel) (pa_cons (pv 2) pa_nil)) pe_int) pa_nil))) (pa_cons (C8.pe_c c_l_roll hr (by decide) (by rfl) (pa_cons (pv 0) (pa_cons pe_int pa_nil))) pa_nil)) (by rfl))
      (pss_cons (ps_set (i := 5) sc_l_spoilt.nd rfl (Or.inl rfl) (C8.pe_c c_l_one_of hr (by decide) (by rfl) (pa_cons (pv 0) (pa_cons (pe_lstN (pa_cons (pe_tupN (pa_cons pe_str (pa_cons pe_int (pa_cons pe_int pa_nil)))) (pa_cons (pe_tupN (pa_cons pe_str (pa_cons pe_int (pa_cons pe_int (pa_cons pe_int pa_nil))))) (pa_cons (pe_tupN (pa_cons pe_str (pa_cons (pe_op op_sub (pv 1) pe_int) (pa_cons (pe_op op_sub (pv 1) pe_int) pa_nil)))) (pa_cons (pe_tupN (pa_cons pe_str (pa_cons pe_int (pa_cons pe_int (pa_cons (pe_op op_sub (pv 1) pe_int) pa_nil))))) pa_nil))))) pa_nil))))
      (pss_cons (ps_if (pt_cmpR op_eq (pv 4) pe_int (nomark _)) (pss_one (ps_ret (pe_op (opK (K := K) rCatI op_catI) (pe_slice (slK (K := K) rSlI sl_tupI) (pv 2) po_none (po_some (pv 3))) (pe_slice (slK (K := K) rSlI sl_tupI) (pv 2) (po_some (pe_op op_add (pv 3) pe_int)) po_none)))) pss_nil)
      (pss_cons (ps_if (pt_cmpR op_lt (pv 4) pe_int (nomark _)) (pss_one (ps_ret (pe_op (opK (K := K) rCatI op_catI) (pe_op (opK (K := K) rCatI op_catI) (pe_slice (slK (K := K) rSlI sl_tupI) (pv 2) po_none (po_some (pv 3))) (pe_tupN (pa_cons (pv 5) pa_nil))) (pe_slice (slK (K := K) rSlI sl_tupI) (pv 2) (po_some (pv 3)) po_none)))) pss_nil)
      (pss_cons (ps_if (pt_cmpR op_eq (pv 4) pe_int (nomark _)) (pss_one (ps_ret (pe_revT (pv 2)))) pss_nil)
      (pss_cons (ps_if (pt_cmpR op_eq (pv 4) pe_int (nomark _)) (pss_one (ps_ret (pe_op (opK (K := K) rCatI op_catI) (pe_op (opK (K := K) rCatI op_catI) (pe_slice (slK (K := K) rSlI sl_tupI) (pv 2) po_none (po_some (pv 3))) (pe_tupN (pa_cons (pv 5) (pa_cons (pv 5) pa_nil)))) (pe_slice (slK (K := K) rSlI sl_tupI) (pv 2) (po_some (pv 3)) po_none)))) pss_nil)
      (pss_cons (ps_set (i := 6) sc_l_spoilt.nd rfl (Or.inl rfl) (pe_lstN (pa_cons pe_non (pa_cons (pe_callTy (callK (K := K) rListOf call_lstI) (by rfl) T.b_list (by decide +kernel) (pa_cons (pv 2) pa_nil)) (pa_cons pe_int (pa_cons pe_str (pa_cons (pe_op (opK (K := K) rCatI op_catI) (pv 2) (pe_tupN (pa_cons (pe_tupN (pa_cons pe_str (pa_cons pe_int (pa_cons pe_int pa_nil)))) pa_nil))) (pa_cons (pe_op (opK (K := K) rCatI op_catI) (pv 2) (pe_tupN (pa_cons (pe_tupN (pa_cons pe_str (pa_cons pe_int (pa_cons pe_int (pa_cons (pv 1) pa_nil))))) pa_nil))) (pa_cons (pe_op (opK (K := K) rCatI op_catI) (pv 2) (pe_tupN (pa_cons (pe_tupN pa_nil) pa_nil))) (pa_cons (pe_op (opK (K := K) rCatI op_catI) (pv 2) (pe_tupN (pa_cons pe_non pa_nil))) pa_nil))))))))))
      (pss_one (ps_ret (C8.pe_c c_l_one_of hr (by decide) (by rfl) (pa_cons (pv 0) (pa_cons (pe_op op_catLI (pv 6) (pe_lstN (pa_cons (pe_op (opK (K := K) rCatI op_catI) (pv 2) (pe_tupN (pa_cons (pe_tupN (pa_cons pe_str (pa_cons pe_int pa_nil))) pa_nil))) (pa_cons (pe_op (opK (K := K) rCatI op_catI) (pv 2) (pe_tupN (pa_cons (pe_tupN (pa_cons pe_str (pa_cons pe_bl (pa_cons pe_int pa_nil)))) pa_nil))) (pa_cons pe_dnewK (pa_cons (pe_tupN (pa_cons (pv 2) pa_nil)) pa_nil)))))) pa_nil)))))))))))), ?_⟩
    have ul := hm.len
    refine ⟨_, rfl, _, rfl, lenT rfl hb ⟨_, _, rfl, rfl, _, _, rfl, hd, by omega, Nat.lt_of_le_of_lt (by omega : ((us.length : Int) + 1).natAbs ≤ 1000) (by decide), fun t H1 t0 t1 d1 => ?_⟩⟩
    refine ⟨_, rfl, _, _, rfl, d1.dc, by decide, by decide, fun w2 H2 _ _ d2 => ⟨_, _, rfl, ?_⟩⟩
    obtain ⟨j, rfl⟩ := Int.eq_ofNat_of_zero_le t0
    have hjl : j ≤ us.length := by omega
    refine ⟨_, rfl, newT (sz_ (by simp)) fun q1 G1 m1 g1 hq1 => newT (sz_ (by simp)) fun q2 G2 m2 g2 hq2 => ?_⟩
    refine ⟨_, rfl, _, _, rfl, rfl, _, rfl, _, _, rfl, rfl, newT (sz_ (by simp)) fun q3 G3 m3 g3 hq3 => ?_⟩
    refine ⟨_, rfl, _, _, rfl, rfl, newT (sz_ (by simp)) fun q4 G4 m4 g4 hq4 => newL (sz_ (by simp)) fun q5 G5 m5 g5 hq5 => ?_⟩
    have g15 := (((g1.trans g2).trans g3).trans g4).trans g5
    have dg : DR a H G5 := (d1.trans d2).trans (.of d2.dc g15)
    have m5a : q5 ≠ a := fun z => ((d1.trans d2).trans (.of d2.dc (((g1.trans g2).trans g3).trans g4))).dc.ne m5 z.symm
    refine .inr ⟨a, q5, _, rfl, dg.dc, SqL.of hq5, fun H' d => sq_lst_dr m5a hq5 d, by simp, by simp, fun i H6 hi d6 => ?_⟩
    have pick : ∃ pm m, [V.ref q1, .ref q2, .ref q3, .ref q4][i]? = some (.ref pm) ∧ H6 pm = some (.tup (Mv.val m)) ∧ MvOk n m := by
      rcases i with _ | _ | _ | _ | i
      · exact ⟨q1, .sw 0 1, rfl, d6.kp.tup _ _ ((((g2.trans g3).trans g4).trans g5).tup _ _ hq1), by omega, by omega⟩
      · exact ⟨q2, .tn 0 1 2, rfl, d6.kp.tup _ _ (((g3.trans g4).trans g5).tup _ _ hq2), by omega, by omega, by omega⟩
      · refine ⟨q3, .sw (n - 2) (n - 1), rfl, ?_, by omega, by omega⟩
        rw [d6.kp.tup _ _ ((g4.trans g5).tup _ _ hq3)]
        show some (HO.tup [V.str _, V.int ((n : Int) - 2), V.int ((n : Int) - 1)]) = some (HO.tup [V.str _, V.int ((n - 2 : Nat) : Int), V.int ((n - 1 : Nat) : Int)])
        rw [show (n : Int) - 1 = ((n - 1 : Nat) : Int) by omega, show (n : Int) - 2 = ((n - 2 : Nat) : Int) by omega]
      · refine ⟨q4, .tn 0 1 (n - 1), rfl, ?_, by omega, by omega, by omega⟩
        rw [d6.kp.tup _ _ (g5.tup _ _ hq4)]
        show some (HO.tup [V.str _, V.int 0, V.int 1, V.int ((n : Int) - 1)]) = some (HO.tup [V.str _, V.int ((0 : Nat) : Int), V.int ((1 : Nat) : Int), V.int ((n - 1 : Nat) : Int)])
        rw [show (n : Int) - 1 = ((n - 1 : Nat) : Int) by omega]
        rfl
      · exact absurd hi (by simp)
    obtain ⟨pm, m, hpi, hpm, mok⟩ := pick
    have d06 := dg.trans d6
    have hb6 := d06.kp.tup _ _ hb
    have hm6 := hm.kp d06.kp
    clear hq1 hq2 hq3 hq4 hq5 g1 g2 g3 g4 g5 g15 dg d6 d1 d2 m1 m2 m3 m4 m5
    refine ⟨_, hpi, ?_⟩
    refine ⟨_, rfl, rfl, _, rfl, ite2 (fun _ => ?_) (fun _ => ?_)⟩
    · refine ⟨_, rfl, _, rfl, _, rfl, slT hb6 fun p7 H7 k7 hp7 => ?_⟩
      rw [cut_to] at hp7
      refine ⟨_, rfl, _, rfl, _, _, rfl, rfl, _, rfl, slT (k7.tup _ _ hb6) fun p8 H8 k8 hp8 => ?_⟩
      rw [show ((j : Int) + 1) = ((j + 1 : Nat) : Int) by omega, cut_from] at hp8
      refine catT (k8.tup _ _ hp7) hp8 (sz_ (by simp; omega)) fun p9 H9 k9 hp9 => ?_
      have k69 := (k7.trans k8).trans k9
      refine q _ H9 (d06.trans (.of d06.dc k69)) (.inl ⟨p9, ms.take j ++ ms.drop (j + 1), rfl, ⟨_, hp9, Mvs.app ((hm6.kp k69).cut j) ((hm6.kp k69).drp (j + 1))⟩, fun m hm => ?_, by simp; omega⟩)
      rcases List.mem_append.mp hm with hm | hm
      · exact hok m (List.mem_of_mem_take hm)
      · exact hok m (List.mem_of_mem_drop hm)
    refine ⟨_, rfl, _, _, rfl, rfl, _, rfl, ite2 (fun _ => ?_) (fun _ => ?_)⟩
    · refine ⟨_, rfl, _, rfl, _, rfl, slT hb6 fun p7 H7 k7 hp7 => ?_⟩
      rw [cut_to] at hp7
      refine ⟨_, rfl, newT (sz_ (by simp)) fun p8 H8 _ k8 hp8 => ?_⟩
      refine catT (k8.tup _ _ hp7) hp8 (sz_ (by simp; omega)) fun p9 H9 k9 hp9 => ?_
      have k69 := (k7.trans k8).trans k9
      refine ⟨_, rfl, _, rfl, _, rfl, slT (k69.tup _ _ hb6) fun p10 H10 k10 hp10 => ?_⟩
      rw [cut_from] at hp10
      refine catT (k10.tup _ _ hp9) hp10 (sz_ (by simp; omega)) fun p11 H11 k11 hp11 => ?_
      have k611 := k69.trans (k10.trans k11)
      refine q _ H11 (d06.trans (.of d06.dc k611)) (.inl ⟨p11, ms.take j ++ [m] ++ ms.drop j, rfl, ⟨_, hp11, Mvs.app (Mvs.app ((hm6.kp k611).cut j) ⟨⟨pm, rfl, k611.tup _ _ hpm⟩, trivial⟩) ((hm6.kp k611).drp j)⟩, fun m' hm => ?_, by simp; omega⟩)
      rcases List.mem_append.mp hm with hm | hm
      · rcases List.mem_append.mp hm with hm | hm
        · exact hok m' (List.mem_of_mem_take hm)
        · simp only [List.mem_cons, List.not_mem_nil, or_false] at hm
          subst hm
          exact mok
      · exact hok m' (List.mem_of_mem_drop hm)
    refine ⟨_, rfl, rfl, _, rfl, ite2 (fun _ => ?_) (fun _ => ?_)⟩
    · refine ⟨_, rfl, revT hb6 fun p7 H7 _ k7 hp7 => ?_⟩
      exact q _ H7 (d06.trans (.of d06.dc k7)) (.inl ⟨p7, ms.reverse, rfl, ⟨_, hp7, (hm6.kp k7).rev⟩, fun m' hm => hok m' (List.mem_reverse.mp hm), by simp; omega⟩)
    refine ⟨_, rfl, rfl, _, rfl, ite2 (fun _ => ?_) (fun _ => ?_)⟩
    · refine ⟨_, rfl, _, rfl, _, rfl, slT hb6 fun p7 H7 k7 hp7 => ?_⟩
      rw [cut_to] at hp7
      refine ⟨_, rfl, _, rfl, newT (sz_ (by simp)) fun p8 H8 _ k8 hp8 => ?_⟩
      refine catT (k8.tup _ _ hp7) hp8 (sz_ (by simp; omega)) fun p9 H9 k9 hp9 => ?_
      have k69 := (k7.trans k8).trans k9
      refine ⟨_, rfl, _, rfl, _, rfl, slT (k69.tup _ _ hb6) fun p10 H10 k10 hp10 => ?_⟩
      rw [cut_from] at hp10
      refine catT (k10.tup _ _ hp9) hp10 (sz_ (by simp; omega)) fun p11 H11 k11 hp11 => ?_
      have k611 := k69.trans (k10.trans k11)
      refine q _ H11 (d06.trans (.of d06.dc k611)) (.inl ⟨p11, ms.take j ++ [m, m] ++ ms.drop j, rfl, ⟨_, hp11, Mvs.app (Mvs.app ((hm6.kp k611).cut j) ⟨⟨pm, rfl, k611.tup _ _ hpm⟩, ⟨pm, rfl, k611.tup _ _ hpm⟩, trivial⟩) ((hm6.kp k611).drp j)⟩, fun m' hm => ?_, by simp; omega⟩)
      rcases List.mem_append.mp hm with hm | hm
      · rcases List.mem_append.mp hm with hm | hm
        · exact hok m' (List.mem_of_mem_take hm)
        · simp only [List.mem_cons, List.not_mem_nil, or_false, or_self] at hm
          subst hm
          exact mok
      · exact hok m' (List.mem_of_mem_drop hm)
    clear hpi hpm mok
    refine ⟨_, rfl, listL rfl (.inr (SqT.of hb6)) fun s1 G1 ns1 g1 hs1 => ?_⟩
    refine ⟨_, rfl, newT (sz_ (by simp)) fun a1 G2 _ g2 ha1 => newT (sz_ (by simp)) fun a2 G3 _ g3 ha2 => ?_⟩
    refine catT (((g1.trans g2).trans g3).tup _ _ hb6) ha2 (sz_ (by simp; omega)) fun s2 G4 g4 hs2 => ?_
    have j4 := ((g1.trans g2).trans g3).trans g4
    have ja1 := (g3.trans g4)
    refine ⟨_, rfl, _, rfl, newT (sz_ (by simp)) fun a3 G5 _ g5 ha3 => newT (sz_ (by simp)) fun a4 G6 _ g6 ha4 => ?_⟩
    have j6 := (j4.trans g5).trans g6
    refine catT (j6.tup _ _ hb6) ha4 (sz_ (by simp; omega)) fun s3 G7 g7 hs3 => ?_
    have j7 := j6.trans g7
    refine ⟨_, rfl, newT (sz_ (by simp)) fun a5 G8 _ g8 ha5 => newT (sz_ (by simp)) fun a6 G9 _ g9 ha6 => ?_⟩
    have j9 := (j7.trans g8).trans g9
    refine catT (j9.tup _ _ hb6) ha6 (sz_ (by simp; omega)) fun s4 G10 g10 hs4 => ?_
    have j10 := j9.trans g10
    refine ⟨_, rfl, newT (sz_ (by simp)) fun a7 G11 _ g11 ha7 => ?_⟩
    have j11 := j10.trans g11
    refine catT (j11.tup _ _ hb6) ha7 (sz_ (by simp; omega)) fun s5 G12 g12 hs5 => ?_
    have j12 := j11.trans g12
    refine newL (sz_ (by simp)) fun s6 G13 _ g13 hs6 => ?_
    have j13 := j12.trans g13
    refine ⟨_, rfl, _, rfl, _, rfl, newT (sz_ (by simp)) fun b1 G14 _ g14 hb1 => newT (sz_ (by simp)) fun b2 G15 _ g15 hb2 => ?_⟩
    have j15 := (j13.trans g14).trans g15
    refine catT (j15.tup _ _ hb6) hb2 (sz_ (by simp; omega)) fun c1 G16 g16 hc1 => ?_
    have j16 := j15.trans g16
    refine ⟨_, rfl, newT (sz_ (by simp)) fun b3 G17 _ g17 hb3 => newT (sz_ (by simp)) fun b4 G18 _ g18 hb4 => ?_⟩
    have j18 := (j16.trans g17).trans g18
    refine catT (j18.tup _ _ hb6) hb4 (sz_ (by simp; omega)) fun c2 G19 g19 hc2 => ?_
    have j19 := j18.trans g19
    intro dd nd
    have g20 : Kp N0 G19 (upd G19 dd (.dK [])) := .new nd
    have hdd : upd G19 dd (.dK []) dd = some (.dK []) := upd_same
    generalize upd G19 dd (.dK []) = G20 at g20 hdd
    have j20 := j19.trans g20
    refine ⟨_, rfl, newT (sz_ (by simp)) fun c3 G21 _ g21 hc3 => ?_⟩
    have j21 := j20.trans g21
    refine newL (sz_ (by simp)) fun c4 G22 _ g22 hc4 => ?_
    have j22 := j21.trans g22
    have k1322 : Kp N0 G13 G22 := ((g14.trans g15).trans g16).trans (((g17.trans g18).trans g19).trans ((g20.trans g21).trans g22))
    refine catL (k1322.keep _ _ (fun z => z) hs6) hc4 (sz_ (by simp)) fun c5 G23 m23 g23 hc5 => ?_
    have d23 := d06.trans (.of d06.dc (j22.trans g23))
    have m5a : c5 ≠ a := fun z => (d06.trans (.of d06.dc j22)).dc.ne m23 z.symm
    refine .inr ⟨a, c5, _, rfl, d23.dc, SqL.of hc5, fun H' d => sq_lst_dr m5a hc5 d, by simp, by simp, fun i H24 hi d24 => ?_⟩
    have j23 := j22.trans g23
    have m24 : Mvs H24 us ms := (hm6.kp j23).kp d24.kp
    have b24 : H24 b = some (.tup us) := d24.kp.tup _ _ (j23.tup _ _ hb6)
    have t22 := g23
    have t21 := g22.trans t22
    have t20 := g21.trans t21
    have t19 := g20.trans t20
    have t18 := g19.trans t19
    have t17 := g18.trans t18
    have t16 := g17.trans t17
    have t15 := g16.trans t16
    have t14 := g15.trans t15
    have t13 := g14.trans t14
    have t12 := g13.trans t13
    have t11 := g12.trans t12
    have t10 := g11.trans t11
    have t9 := g10.trans t10
    have t8 := g9.trans t9
    have t7 := g8.trans t8
    have t6 := g7.trans t7
    have t5 := g6.trans t6
    have t4 := g5.trans t5
    have t3 := g4.trans t4
    have t2 := g3.trans t3
    have t1 := g2.trans t2
    have dF := d23.trans d24
    have s1a : s1 ≠ a := fun z => d06.dc.ne ns1 z.symm
    have dda : dd ≠ a := fun z => (d06.trans (.of d06.dc j19)).dc.ne nd z.symm
    have fs1 : H24 s1 = some (.lst us) := d24.lst s1a (t1.keep _ _ (fun z => z) hs1)
    have fdd : H24 dd = some (.dK []) := d24.kp.keep _ _ dda (t20.keep _ _ (fun z => z) hdd)
    have bad : ∀ p x, H24 p = some (.tup (us ++ [x])) → BadM n H24 x → BadW n H24 (.ref p) := fun p x h1 h2 => .inr (.inr (.inr (.inr (.inr ⟨p, us, x, ms, rfl, h1, m24, hok, by omega, h2⟩))))
    have tt : ∀ {p xs}, G23 p = some (.tup xs) → H24 p = some (.tup xs) := fun h => d24.kp.tup _ _ h
    rcases i with _ | _ | _ | _ | _ | _ | _ | _ | _ | _ | _ | _ | i
    · exact ⟨_, rfl, q _ _ dF (.inr (.inl rfl))⟩
    · exact ⟨_, rfl, q _ _ dF (.inr (.inr (.inr (.inr (.inl ⟨s1, us, rfl, fs1⟩)))))⟩
    · exact ⟨_, rfl, q _ _ dF (.inr (.inr (.inl rfl)))⟩
    · exact ⟨_, rfl, q _ _ dF (.inr (.inr (.inr (.inl rfl))))⟩
    · exact ⟨_, rfl, q _ _ dF (.inr (bad s2 _ (tt (t4.tup _ _ hs2)) (.inr (.inr (.inl ⟨a1, rfl, tt (t2.tup _ _ ha1)⟩)))))⟩
    · exact ⟨_, rfl, q _ _ dF (.inr (bad s3 _ (tt (t7.tup _ _ hs3)) (.inr (.inr (.inr (.inl ⟨a3, rfl, tt (t5.tup _ _ ha3)⟩))))))⟩
    · exact ⟨_, rfl, q _ _ dF (.inr (bad s4 _ (tt (t10.tup _ _ hs4)) (.inr (.inl ⟨a5, [], [], rfl, tt (t8.tup _ _ ha5), trivial⟩))))⟩
    · exact ⟨_, rfl, q _ _ dF (.inr (bad s5 _ (tt (t12.tup _ _ hs5)) (.inl rfl)))⟩
    · exact ⟨_, rfl, q _ _ dF (.inr (bad c1 _ (tt (t16.tup _ _ hc1)) (.inr (.inr (.inr (.inr (.inl ⟨b1, rfl, tt (t14.tup _ _ hb1)⟩)))))))⟩
    · exact ⟨_, rfl, q _ _ dF (.inr (bad c2 _ (tt (t19.tup _ _ hc2)) (.inr (.inr (.inr (.inr (.inr ⟨b3, rfl, tt (t17.tup _ _ hb3)⟩)))))))⟩
    · exact ⟨_, rfl, q _ _ dF (.inr (.inr (.inr (.inr (.inr (.inl ⟨dd, [], rfl, fdd⟩))))))⟩
    · exact ⟨_, rfl, q _ _ dF (.inr (.inr (.inr (.inr (.inr (.inr ⟨c3, [], _, [], rfl, tt (t21.tup _ _ hc3), trivial, fun _ z => absurd z (by simp), by simp, .inr (.inl ⟨b, us, ms, rfl, b24, m24⟩)⟩))))))⟩
    · exact absurd hi (by simp)

/-! ### words keep the settled row -/
theorem trip_perm {n i j k : Nat} (hij : i < j) (hjk : j < k) (hk : k < n) : ∃ o : List Nat, (i :: j :: k :: o).Perm (List.range n) ∧ i ∉ o ∧ j ∉ o ∧ k ∉ o := by
  have nd := List.nodup_range (n := n)
  have p1 := List.perm_cons_erase (List.mem_range.mpr (show i < n by omega))
  have p2 := List.perm_cons_erase (a := j) (l := (List.range n).erase i) ((List.mem_erase_of_ne (by omega)).mpr (List.mem_range.mpr (by omega)))
  have p3 := List.perm_cons_erase (a := k) (l := ((List.range n).erase i).erase j) ((List.mem_erase_of_ne (by omega)).mpr ((List.mem_erase_of_ne (by omega)).mpr (List.mem_range.mpr (by omega))))
  have hp := (p1.trans ((p2.trans (p3.cons j)).cons i)).symm
  refine ⟨_, hp, ?_⟩
  have nd3 := hp.nodup_iff.mpr nd
  have a1 := List.nodup_cons.mp nd3
  have a2 := List.nodup_cons.mp a1.2
  have a3 := List.nodup_cons.mp a2.2
  exact ⟨fun z => a1.1 (by simp [z]), fun z => a2.1 (by simp [z]), a3.1⟩
theorem pair_perm {n i j : Nat} (hij : i < j) (hj : j < n) : ∃ o : List Nat, (i :: j :: o).Perm (List.range n) ∧ i ∉ o ∧ j ∉ o := by
  have nd := List.nodup_range (n := n)
  have p1 := List.perm_cons_erase (List.mem_range.mpr (show i < n by omega))
  have p2 := List.perm_cons_erase (a := j) (l := (List.range n).erase i) ((List.mem_erase_of_ne (by omega)).mpr (List.mem_range.mpr (by omega)))
  have hp := (p1.trans (p2.cons i)).symm
  refine ⟨_, hp, ?_⟩
  have nd3 := hp.nodup_iff.mpr nd
  have a1 := List.nodup_cons.mp nd3
  have a2 := List.nodup_cons.mp a1.2
  exact ⟨fun z => a1.1 (by simp [z]), a2.1⟩
theorem nvl_sw {n : Nat} {e : List Int} {i j : Nat} (h : e.length = n + 1) (hij : i < j) (hj : j < n) (x : Nat) (hx : x < n) : nvl (act e (.sw i j)) x = if x = j then nvl e i else if x = i then nvl e j else nvl e x := by
  unfold nvl act
  dsimp only
  simp only [List.getD_eq_getElem?_getD (i := 1 + x), List.getElem?_set, List.length_set]
  by_cases h1 : x = j
  · subst h1
    rw [if_pos rfl, if_pos (by omega), if_pos rfl]
    rfl
  · rw [if_neg (by omega), if_neg h1]
    by_cases h2 : x = i
    · subst h2
      rw [if_pos rfl, if_pos (by omega), if_pos rfl]
      rfl
    · rw [if_neg (by omega), if_neg h2]
theorem settled_FS (r : List Int) : settledOf r = (FS (r.getD 0 0) (r.drop 1)).1 :: (FS (r.getD 0 0) (r.drop 1)).2 := rfl
theorem settled_act {n : Nat} {r : List Int} {m : Mv} (h : r.length = n + 1) (h2 : n ≤ 8) (ok : MvOk n m) : settledOf (act r m) = settledOf r := by
  have hl : (act r m).length = n + 1 := by rw [act_len, h]
  rw [settled_FS, settled_FS, ← drop_nvl h, ← drop_nvl hl]
  cases m with
  | sw i j =>
    obtain ⟨hij, hj⟩ := ok
    obtain ⟨o, hp, ni, nj⟩ := pair_perm hij hj
    have e0 : (act r (.sw i j)).getD 0 0 = r.getD 0 0 := by
      unfold act
      dsimp only
      simp only [List.getD_eq_getElem?_getD (i := 0), List.getElem?_set, List.length_set]
      rw [if_neg (by omega), if_neg (by omega)]
    have lt := bound_of hp
    have hv := fun x hx => nvl_sw h hij hj x hx
    rw [e0, FS_perm (hp.map (nvl (act r (.sw i j)))).symm, FS_perm (hp.map (nvl r)).symm]
    rw [List.map_cons, List.map_cons, List.map_cons, List.map_cons, hv i (by omega), hv j hj, if_neg (by omega), if_pos rfl, if_pos rfl]
    rw [show o.map (nvl (act r (.sw i j))) = o.map (nvl r) from List.map_congr_left fun t ht => by rw [hv t (lt t (by simp [ht])), if_neg (show ¬ t = j from fun z => nj (z ▸ ht)), if_neg (show ¬ t = i from fun z => ni (z ▸ ht))]]
    rw [FS_perm (List.Perm.swap (nvl r i) (nvl r j) _)]
  | tn i j k =>
    obtain ⟨hij, hjk, hk⟩ := ok
    obtain ⟨o, hp, ni, nj, nk⟩ := trip_perm hij hjk hk
    have lt := bound_of hp
    have hv := fun x hx => nvl_tn h hij hjk hk x hx
    rw [act0_tn h, FS_perm (hp.map (nvl (act r (.tn i j k)))).symm, FS_perm (hp.map (nvl r)).symm]
    simp only [List.map_cons]
    rw [hv i (by omega), hv j (by omega), hv k hk, if_pos (.inl rfl), if_pos (.inr (.inl rfl)), if_pos (.inr (.inr rfl))]
    rw [show o.map (nvl (act r (.tn i j k))) = o.map (nvl r) from List.map_congr_left fun t ht => by rw [hv t (lt t (by simp [ht])), if_neg (by rintro (rfl | rfl | rfl); exact ni ht; exact nj ht; exact nk ht)]]
    have ol := len_of hp
    simp only [List.length_cons] at ol
    rw [FS_turn rfl (by rw [List.length_map]; omega)]
theorem settled_acts {n : Nat} (h2 : n ≤ 8) : ∀ (ms : List Mv) (r : List Int), r.length = n + 1 → (∀ m ∈ ms, MvOk n m) → settledOf (acts r ms) = settledOf r
  | [], r, _, _ => rfl
  | m :: ms, r, h, ok => by
    show settledOf (acts (act r m) ms) = settledOf r
    rw [settled_acts h2 ms (act r m) (by rw [act_len, h]) fun x hx => ok x (List.mem_cons_of_mem _ hx), settled_act h h2 (ok m List.mem_cons_self)]

/-! ### the law's cell -/
theorem neNN {H : Hp} {Q : VK} (q : Q (.bl false) H) : rNeI K .non .non H Q := by
  unfold rNeI
  refine ⟨_, _, .non, .non, by decide +kernel, by decide +kernel, ?_⟩
  rw [show PyData.eqv .none .none = true by simp [PyData.eqv]]
  exact q
theorem neRowsT {H : Hp} {a b : Addr} {vs ws : List V} {rs : List (List Int)} {Q : VK} (h1 : H a = some (.tup vs)) (h2 : H b = some (.tup ws)) (r1 : Rws H vs rs) (r2 : Rws H ws rs) (q : Q (.bl false) H) : rNeI K (.ref a) (.ref b) H Q := by
  unfold rNeI
  refine ⟨_, _, .tup (SqT.of h1) r1.dp, .tup (SqT.of h2) r2.dp, shaped_rowsT rs, shaped_rowsT rs, ?_⟩
  rw [SeqAt.eqv_refl _ (SeqAt.canLay_of_shaped (shaped_rowsT rs))]
  exact q
def sp_l_right (K : PySem.W.Frag) : Sp := fun vs H Q _ => ∃ (a : Addr), vs = [.ref a] ∧ Dc a H ∧ ∀ H', DR a H H' → Q (.bl true) H'
theorem ok_l_right (T : Txt K mg) (D : Df K mg "_law_right" s_l_right ["_law_dice_here"]) (c_l_roll : C8.Cal P w K mg base 1 "_law_roll" (sp_l_roll) []) (c_l_row : C8.Cal P w K mg base 5 "_law_row" (sp_l_row K) []) (c_l_great_row : C8.Cal P w K mg base 3 "_law_great_row" (sp_l_great_row K) []) (c_l_other : C8.Cal P w K mg base 6 "_law_other" (sp_l_other K) []) (c_l_settled : C8.Cal P w K mg base 2 "_law_settled" (sp_l_settled K) []) (c_led : C8.Cal P w K mg base 7 "led" (sp_led K) []) (c_parting : C8.Cal P w K mg base 7 "parting" (sp_parting K) []) (c_does_lead : C8.Cal P w K mg base 7 "does_lead" (sp_does_lead K) []) (c_l_word : C8.Cal P w K mg base 3 "_law_word" (sp_l_word K) []) (c_l_is_word : C8.Cal P w K mg base 1 "_law_is_word" (sp_l_is_word K) []) (c_l_moved : C8.Cal P w K mg base 2 "_law_moved" (sp_l_moved K) []) (c_l_spoilt : C8.Cal P w K mg base 3 "_law_spoilt" (sp_l_spoilt K) []) : C8.Cal P w K mg base 8 "_law_right" (sp_l_right K) [] := by
  obtain ⟨f, fd, D, hb⟩ := D
  refine C8.cal0 D (.all hb) .nil sc_l_right (fun vs H Q E h => ?_) (fun cdv A outer s H vs Q E hr h => ?_)
  · obtain ⟨_, rfl, _⟩ := h; rfl
  · obtain ⟨a, rfl, hd, q⟩ := h
    refine ⟨_, (pss_cons (ps_set (i := 1) sc_l_right.nd rfl (Or.inl rfl) (pe_op op_add pe_int (C8.pe_c c_l_roll hr (by decide) (by rfl) (pa_cons (pv 0) (pa_cons pe_int pa_nil)))))
      (pss_cons (ps_set (i := 2) sc_l_right.nd rfl (Or.inl rfl) (pe_ifExp (pt_cmpR op_gt (C8.pe_c c_l_roll hr (by decide) (by rfl) (pa_cons (pv 0) (pa_cons pe_int pa_nil))) pe_int (nomark _)) (C8.pe_c c_l_row hr (by decide) (by rfl) (pa_cons (pv 0) (pa_cons (pv 1) (pa_cons pe_int pa_nil)))) (C8.pe_c c_l_great_row hr (by decide) (by rfl) (pa_cons (pv 0) (pa_cons (pv 1) (pa_cons pe_int pa_nil))))))
      (pss_cons (ps_set (i := 3) sc_l_right.nd rfl (Or.inl rfl) (C8.pe_c c_l_other hr (by decide) (by rfl) (pa_cons (pv 0) (pa_cons (pv 2) pa_nil))))
      (pss_cons (ps_par (i := 4) (j := 5) (by rfl) sc_l_right.nd rfl rfl (by decide) rfl rfl (pa_cons (pe_tupN (pa_cons (C8.pe_c c_l_settled hr (by decide) (by rfl) (pa_cons (pv 2) pa_nil)) (pa_cons (C8.pe_c c_l_settled hr (by decide) (by rfl) (pa_cons (pv 3) pa_nil)) pa_nil))) (pa_cons (C8.pe_c c_led hr (by decide) (by rfl) (pa_cons (pv 2) (pa_cons (pv 3) pa_nil))) pa_nil)) (by rfl))
      (pss_cons (ps_if (pt_cmpR op_ne (pe_cmpR op_notN (pv 5) pe_non (nomark _)) (pe_cmpR (opK (K := K) rEqI (op_eqI hr.units)) (pe_ix (ixK (K := K) rIxT ix_tup) (pv 4) pe_int (fun _ _ => rfl)) (pe_ix (ixK (K := K) rIxT ix_tup) (pv 4) pe_int (fun _ _ => rfl)) (nomark _)) (nomark _)) (pss_one (ps_ret pe_bl)) pss_nil)
      (pss_cons (ps_if (pt_cmpR (opK (K := K) rNeI (op_neI hr.units)) (C8.pe_c c_parting hr (by decide) (by rfl) (pa_cons (pv 2) (pa_cons (pv 3) pa_nil))) (pe_ifExp (pt_cmpR (opK (K := K) rEqI (op_eqI hr.units)) (pe_ix (ixK (K := K) rIxT ix_tup) (pv 4) pe_int (fun _ _ => rfl)) (pe_ix (ixK (K := K) rIxT ix_tup) (pv 4) pe_int (fun _ _ => rfl)) (nomark _)) pe_non (pv 4)) (nomark _)) (pss_one (ps_ret pe_bl)) pss_nil)
      (pss_cons (ps_if (pt_cmpR op_isN (pv 5) pe_non (nomark _)) (pss_one (ps_ret (pe_and (pe_not (C8.pe_c c_does_lead hr (by decide) (by rfl) (pa_cons (pv 2) (pa_cons (pv 3) (pa_cons (pe_tupN pa_nil) pa_nil))))) (pe_one (pe_not (C8.pe_c c_does_lead hr (by decide) (by rfl) (pa_cons (pv 2) (pa_cons (pv 3) (pa_cons (C8.pe_c c_l_word hr (by decide) (by rfl) (pa_cons (pv 0) (pa_cons (pv 1) (pa_cons pe_int pa_nil)))) pa_nil))))))))) pss_nil)
      (pss_cons (ps_if (PW.pt (pw_or (pt_not (pt_val (C8.pe_c c_l_is_word hr (by decide) (by rfl) (pa_cons (pv 1) (pa_cons (pv 5) pa_nil))))) (pw_or (pt_cmpR (opK (K := K) rNeI (op_neI hr.units)) (C8.pe_c c_l_moved hr (by decide) (by rfl) (pa_cons (pv 2) (pa_cons (pv 5) pa_nil))) (pv 3) (nomark _)) (pw_or1 (pt_not (pt_val (C8.pe_c c_does_lead hr (by decide) (by rfl) (pa_cons (pv 2) (pa_cons (pv 3) (pa_cons (pv 5) pa_nil)))))))))) (pss_one (ps_ret pe_bl)) pss_nil)
      (pss_cons (ps_for PassesOwn.never rfl (pi_range1 (by rfl) T.b_range (pa_cons pe_int pa_nil)) (pg_name (i := 6) sc_l_right.nd rfl (Or.inl rfl)) (pss_cons (ps_set (i := 7) sc_l_right.nd rfl (Or.inl rfl) (C8.pe_c c_l_spoilt hr (by decide) (by rfl) (pa_cons (pv 0) (pa_cons (pv 1) (pa_cons (pv 5) pa_nil)))))
      (pss_cons (ps_set (i := 8) sc_l_right.nd rfl (Or.inl rfl) (pe_and (C8.pe_c c_l_is_word hr (by decide) (by rfl) (pa_cons (pv 1) (pa_cons (pv 7) pa_nil))) (pe_one (pe_cmpR (opK (K := K) rEqI (op_eqI hr.units)) (C8.pe_c c_l_moved hr (by decide) (by rfl) (pa_cons (pv 2) (pa_cons (pv 7) pa_nil))) (pv 3) (nomark _)))))
      (pss_one (ps_if (pt_cmpR op_ne (C8.pe_c c_does_lead hr (by decide) (by rfl) (pa_cons (pv 2) (pa_cons (pv 3) (pa_cons (pv 7) pa_nil)))) (pv 8) (nomark _)) (pss_one (ps_ret pe_bl)) pss_nil)))))
      (pss_one (ps_ret pe_bl))))))))))), ?_⟩
    refine ⟨_, rfl, _, _, rfl, hd, by decide, by decide, fun z H1 r0 r1 d1 => ?_⟩
    obtain ⟨n, en, n1, n2⟩ : ∃ n : Nat, 3 + z = (n : Int) ∧ 3 ≤ n ∧ n ≤ 8 := ⟨(3 + z).toNat, by omega, by omega, by omega⟩
    refine ⟨_, _, rfl, rfl, ?_⟩
    dsimp only
    rw [en]
    refine ⟨_, rfl, _, _, rfl, d1.dc, by decide, by decide, fun z2 H2 _ _ d2 => ⟨_, _, rfl, rfl, _, rfl, ite2 (fun _ => ?_) (fun _ => ?_)⟩⟩
    refine ⟨_, rfl, _, rfl, a, n, 4, rfl, d2.dc, n1, by omega, by decide, fun p3 H3 r d3 hp3 lr => ?_⟩
    have hr1 : LimN n (10 ^ 60) r := lr.mono (by decide)
    clear lr
    rotate_left
    refine ⟨_, rfl, _, rfl, a, n, 50, rfl, d2.dc, n1, by omega, fun p3 H3 r d3 hp3 ll lb => ?_⟩
    have hr1 : LimN n (10 ^ 60) r := ⟨ll, lb⟩
    clear ll lb
    all_goals
      have d03 := (d1.trans d2).trans d3
      clear d1 d2 d3
      refine ⟨_, rfl, _, rfl, a, p3, r, n, rfl, d03.dc, hp3, hr1, n1, n2, fun p4 H4 s d4 hp4 hs => ?_⟩
      have hr80 : LimN n (10 ^ 80) r := hr1.mono (by decide)
      have hp34 := d4.kp.tup _ _ hp3
      refine ⟨_, rfl, p3, r, n, rfl, hp34, hr80, n1, n2, fun p5 H5 k5 hp5 => ?_⟩
      refine ⟨_, rfl, p4, s, n, rfl, k5.tup _ _ hp4, hs, n1, n2, fun p6 H6 k6 hp6 => ?_⟩
      refine newT (sz_ (by simp)) fun p7 H7 _ k7 hp7 => ?_
      have k47 := (k5.trans k6).trans k7
      refine ⟨_, rfl, _, rfl, p3, p4, r, s, n, rfl, k47.tup _ _ hp34, k47.tup _ _ hp4, hr80, hs, n1, n2, fun v8 H8 k8 hv8 => ⟨_, _, rfl, ?_⟩⟩
      have k48 := k47.trans k8
      have d8 : DR a H H8 := (d03.trans d4).trans (.of d4.dc k48)
      have h3 := k48.tup _ _ hp34
      have h4 := k48.tup _ _ hp4
      have h5 := ((k6.trans k7).trans k8).tup _ _ hp5
      have h6 := (k7.trans k8).tup _ _ hp6
      have h7 := k8.tup _ _ hp7
      clear hp3 hp34 hp4 hp5 hp6 hp7 k5 k6 k7 k47 k8 k48 d4 d03
      have lr := hr1.1
      have ls := hs.1
      have ok16 : ∀ {m : Mv}, MvOk n m → True := fun _ => trivial
      rcases hv8 with ⟨e, p8, ms, rfl, hw, ok, hml, eacts⟩ | ⟨e, rfl⟩
      · refine ⟨_, rfl, rfl, _, rfl, _, _, _, _, rfl, rfl, SqT.of h7, rfl, _, rfl, _, _, _, _, rfl, rfl, SqT.of h7, rfl, eqTups h5 h6 ⟨rfl, _, rfl, iteNe (by rw [decide_eq_true e]; rfl) ?_⟩⟩
        refine ⟨_, rfl, _, rfl, p3, p4, r, s, n, rfl, h3, h4, hr80, hs, n1, n2, fun v9 H9 k9 hv9 => ?_⟩
        rcases hv9 with ⟨_, rfl⟩ | ⟨z, _⟩
        case inr => exact absurd e z
        have h79 := k9.tup _ _ h7
        refine ⟨_, rfl, _, _, _, _, rfl, rfl, SqT.of h79, rfl, _, rfl, _, _, _, _, rfl, rfl, SqT.of h79, rfl, eqTups (k9.tup _ _ h5) (k9.tup _ _ h6) ⟨_, rfl, iteTB (decide_eq_true e) (neNN ⟨_, rfl, iteFB rfl ?_⟩)⟩⟩
        refine ⟨_, rfl, rfl, _, rfl, iteNo (fun z => by cases z) ?_⟩
        have h39 := k9.tup _ _ h3
        have h49 := k9.tup _ _ h4
        have hw9 := hw.kp k9
        refine ⟨_, rfl, _, rfl, n, _, rfl, n1, by omega, .inl ⟨p8, ms, rfl, hw9, ok, by omega, fun H10 k10 => ⟨true, rfl, iteF ?_⟩⟩⟩
        have h310 := k10.tup _ _ h39
        have h410 := k10.tup _ _ h49
        refine ⟨_, rfl, _, rfl, p3, p8, r, ms, n, rfl, h310, hw9.kp k10, ok, lr, by omega, fun p11 H11 k11 hp11 => ?_⟩
        rw [eacts] at hp11
        refine ⟨_, rfl, neRow hp11 (k11.tup _ _ h410) ⟨_, rfl, iteFB rfl ?_⟩⟩
        have k1011 := k10.trans k11
        refine ⟨_, rfl, _, rfl, _, rfl, p3, p4, r, s, n, _, rfl, k11.tup _ _ h310, k11.tup _ _ h410, hr80, hs, n1, n2, .inl ⟨p8, ms, rfl, hw9.kp k1011, ok, by omega, fun H12 k12 => ?_⟩⟩
        rw [decide_eq_true eacts]
        refine ⟨true, rfl, iteF ?_⟩
        have k912 := (k9.trans k1011).trans k12
        have d12 := d8.trans (.of d8.dc k912)
        have h312 := k912.tup _ _ h3
        have h412 := k912.tup _ _ h4
        have hw12 := hw.kp k912
        clear h3 h4 h5 h6 h7 h79 h39 h49 hw hw9 h310 h410 hp11
        refine ⟨_, rfl, by decide, by decide, ?_⟩
        refine for_it (n := 4) walk_range (fun t σ H' => ∃ v6 v7 v8, σ = [some (.ref a), some (.int n), some (.ref p3), some (.ref p4), some (.ref p7), some (.ref p8), v6, v7, v8] ∧ DR a H12 H') ⟨_, _, _, rfl, .refl d12.dc⟩ (fun _ _ _ _ _ => trivial) ?_ ?_
        · rintro t xx σ H13' H13 ht ⟨v6, v7, v8, rfl, d13⟩ ⟨rfl, rfl⟩
          have h313 := d13.kp.tup _ _ h312
          have h413 := d13.kp.tup _ _ h412
          refine ⟨_, rfl, _, rfl, _, rfl, a, p8, n, ms, rfl, d13.dc, hw12.kp d13.kp, ok, hml, n1, by omega, fun v14 H14 d14 hv14 => ?_⟩
          have h314 := d14.kp.tup _ _ h313
          have h414 := d14.kp.tup _ _ h413
          rcases hv14 with ⟨p14, ks, rfl, hw14, ok14, hl14⟩ | bad
          · refine ⟨_, rfl, _, rfl, n, _, rfl, n1, by omega, .inl ⟨p14, ks, rfl, hw14, ok14, hl14, fun H15 k15 => ⟨true, rfl, iteT ?_⟩⟩⟩
            refine ⟨_, rfl, _, rfl, p3, p14, r, ks, n, rfl, k15.tup _ _ h314, hw14.kp k15, ok14, lr, by omega, fun p16 H16 k16 hp16 => ⟨_, rfl, eqTups hp16 ((k15.trans k16).tup _ _ h414) ?_⟩⟩
            have k1416 := k15.trans k16
            refine ⟨_, rfl, _, rfl, _, rfl, p3, p4, r, s, n, _, rfl, k1416.tup _ _ h314, k1416.tup _ _ h414, hr80, hs, n1, n2, .inl ⟨p14, ks, rfl, hw14.kp k1416, ok14, hl14, fun H17 k17 => ?_⟩⟩
            exact ⟨_, rfl, rfl, _, rfl, iteNe rfl ⟨_, _, _, rfl, (d13.trans d14).trans (.of d14.dc (k1416.trans k17))⟩⟩
          · refine ⟨_, rfl, _, rfl, n, _, rfl, n1, by omega, .inr ⟨bad, fun H15 k15 => ⟨false, rfl, iteF ?_⟩⟩⟩
            refine ⟨_, rfl, _, rfl, _, rfl, p3, p4, r, s, n, _, rfl, k15.tup _ _ h314, k15.tup _ _ h414, hr80, hs, n1, n2, .inr ⟨bad.kp k15, fun H17 k17 => ?_⟩⟩
            exact ⟨_, rfl, rfl, _, rfl, iteNe rfl ⟨_, _, _, rfl, (d13.trans d14).trans (.of d14.dc (k15.trans k17))⟩⟩
        · rintro σ H13 ⟨v6, v7, v8, rfl, d13⟩
          exact q _ (d12.trans d13)
      · refine ⟨_, rfl, rfl, _, rfl, _, _, _, _, rfl, rfl, SqT.of h7, rfl, _, rfl, _, _, _, _, rfl, rfl, SqT.of h7, rfl, eqTups h5 h6 ⟨rfl, _, rfl, iteNe (by rw [decide_eq_false e]; rfl) ?_⟩⟩
        refine ⟨_, rfl, _, rfl, p3, p4, r, s, n, rfl, h3, h4, hr80, hs, n1, n2, fun v9 H9 k9 hv9 => ?_⟩
        rcases hv9 with ⟨z, _⟩ | ⟨_, p9, q1, q2, rfl, hp9, hq1, hq2⟩
        · exact absurd z e
        have h79 := k9.tup _ _ h7
        refine ⟨_, rfl, _, _, _, _, rfl, rfl, SqT.of h79, rfl, _, rfl, _, _, _, _, rfl, rfl, SqT.of h79, rfl, eqTups (k9.tup _ _ h5) (k9.tup _ _ h6) ⟨_, rfl, iteFB (decide_eq_false e) ⟨_, rfl, neRowsT (rs := [settledOf r, settledOf s]) hp9 h79 ⟨⟨q1, rfl, hq1⟩, ⟨q2, rfl, hq2⟩, trivial⟩ ⟨⟨p5, rfl, k9.tup _ _ h5⟩, ⟨p6, rfl, k9.tup _ _ h6⟩, trivial⟩ ⟨_, rfl, iteFB rfl ?_⟩⟩⟩⟩
        refine ⟨_, rfl, rfl, _, rfl, iteEq rfl ?_⟩
        have nolead : ∀ ws : List Mv, (∀ m ∈ ws, MvOk n m) → ¬ acts r ws = s := fun ws hws z => e (by rw [← z, settled_acts n2 ws r lr hws])
        refine ⟨_, rfl, _, rfl, newT (sz_ (by simp)) fun p10 H10 _ k10 hp10 => ?_⟩
        have k810 := k9.trans k10
        refine ⟨p3, p4, r, s, n, _, rfl, k810.tup _ _ h3, k810.tup _ _ h4, hr80, hs, n1, n2, .inl ⟨p10, [], rfl, ⟨[], hp10, trivial⟩, fun _ z => absurd z (by simp), by simp, fun H11 k11 => ?_⟩⟩
        rw [decide_eq_false (nolead [] (fun _ z => absurd z (by simp)))]
        refine ⟨false, rfl, true, rfl, iteT ?_⟩
        have d11 := d8.trans (.of d8.dc (k810.trans k11))
        refine ⟨_, rfl, _, rfl, _, rfl, _, rfl, a, n, 5, rfl, d11.dc, n1, by omega, by decide, fun p12 H12 ws d12 hw12 hl12 hok12 => ?_⟩
        have k11' := k810.trans k11
        refine ⟨p3, p4, r, s, n, _, rfl, d12.kp.tup _ _ (k11'.tup _ _ h3), d12.kp.tup _ _ (k11'.tup _ _ h4), hr80, hs, n1, n2, .inl ⟨p12, ws, rfl, hw12, hok12, by omega, fun H13 k13 => ?_⟩⟩
        rw [decide_eq_false (nolead ws hok12)]
        exact ⟨false, rfl, q _ ((d11.trans d12).trans (.of d12.dc k13))⟩
def sp_law (K : PySem.W.Frag) : Sp := fun vs H Q _ => ∃ (a : Addr) (ns : List Int), vs = [.ref a] ∧ SqL K H a (ns.map V.int) ∧ ∀ H', Q (.bl true) H'
theorem ok_law {f : Addr} {fd : FuncData} (T : Txt K mg) (D : C8.Def K mg "law" s_law f fd) (c_l_right : C8.Cal P w K mg base 8 "_law_right" (sp_l_right K) []) (c_l_dice : C8.Cal P w K mg base 1 "_law_dice" (sp_l_dice K) []) : FnOk P w K mg base CX0 9 f fd ["_law_script"] (sp_law K) := by
  refine C8.fn0 D.fn sc_law (fun vs H Q E h => ?_) (fun cdv A outer s H vs Q E hr h => ?_)
  · obtain ⟨_, _, rfl, _⟩ := h; rfl
  · obtain ⟨a, ns, rfl, ha, q⟩ := h
    refine ⟨_, (pss_cons (ps_for PassesOwn.never rfl (pi_range1 (by rfl) T.b_range (pa_cons (pe_callB (call_max2 rfl) (by rfl) T.b_max (by decide +kernel) (pa_cons pe_int (pa_cons (pe_callB (call_min2 rfl) (by rfl) T.b_min (by decide +kernel) (pa_cons pe_int (pa_cons (pe_callB (callK (K := K) Vf.rLen call_lenI) (by rfl) T.b_len (by decide +kernel) (pa_cons (pv 0) pa_nil)) pa_nil))) pa_nil))) pa_nil)) (pg_name (i := 1) sc_law.nd rfl (Or.inl rfl)) (pss_one (ps_if (pt_not (pt_val (C8.pe_c c_l_right hr (by decide) (by rfl) (pa_cons (C8.pe_c c_l_dice hr (by decide) (by rfl) (pa_cons (pv 0) (pa_cons (pv 1) pa_nil))) pa_nil)))) (pss_one (ps_ret pe_bl)) pss_nil)))
      (pss_one (ps_ret pe_bl))), ?_⟩
    refine ⟨_, rfl, lenL rfl ha ⟨_, _, rfl, _, _, rfl, ?_⟩⟩
    generalize hm : (if (if ((List.map V.int ns).length : Int) < 6 then ((List.map V.int ns).length : Int) else 6) > 1 then (if ((List.map V.int ns).length : Int) < 6 then ((List.map V.int ns).length : Int) else 6) else 1) = m
    have m1 : 1 ≤ m ∧ m ≤ 6 := by
      rw [← hm]
      split <;> split <;> omega
    refine ⟨_, rfl, by omega, by omega, ?_⟩
    refine for_it (n := m.toNat) walk_range (fun i σ H' => ∃ v1, σ = [some (.ref a), v1] ∧ Kp N0 H H') ⟨_, rfl, .refl _ _⟩ (fun _ _ _ _ _ => trivial) ?_ ?_
    · rintro i x σ H2 H2' hi ⟨v1, rfl, k2⟩ ⟨rfl, rfl⟩
      refine ⟨_, rfl, _, rfl, a, ns, i, by simp, kp_sqL k2 ha, by omega, fun p H3 hp k3 hd => ?_⟩
      refine ⟨p, rfl, hd, fun H4 d4 => ⟨_, rfl, iteF ⟨_, rfl, ?_⟩⟩⟩
      exact k2.trans (kp_fresh hp k3 d4)
    · rintro σ H2 ⟨v1, rfl, k2⟩
      exact q _

end
theorem all_ok {P : Program} {w : World} {K : PySem.W.Frag} {mg : Str → Option Value} {base : Heap} (T : Txt K mg) (d_is_short : Df K mg "is_short" s_is_short ["number"]) (d_are_short : Df K mg "are_short" s_are_short ["numbers"]) (d_is_integer : Df K mg "is_integer" s_is_integer ["value"]) (d_is_from_to : Df K mg "is_from_to" s_is_from_to ["value", "least", "most"]) (d_is_row : Df K mg "is_row" s_is_row ["value"]) (d_check_many : Df K mg "check_many" s_check_many ["n", "most"]) (d_check_row : Df K mg "check_row" s_check_row ["row"]) (d_check_rows : Df K mg "check_rows" s_check_rows ["one", "other"]) (d_check_few : Dfd K mg "check_few" s_check_few ["row", "most"] []) (d_short_row : Df K mg "short_row" s_short_row ["entries"]) (d_is_word_p : Df K mg "is_word" s_is_word_p ["n", "value"]) (d_is_move : Df K mg "is_move" s_is_move ["n", "value"]) (d_do_move : Df K mg "do_move" s_do_move ["entries", "move"]) (d_moved_far : Df K mg "moved_far" s_moved_far ["row", "word"]) (d_is_word : Df K mg "_is_word" s_is_word ["n", "value"]) (d_shadow_row : Df K mg "shadow_row" s_shadow_row ["n"]) (d_settle : Df K mg "settle" s_settle ["row"]) (d_is_clearly_far : Df K mg "_is_clearly_far" s_is_clearly_far ["row"]) (d_ranked : Df K mg "_ranked" s_ranked ["entries", "shadow"]) (d_sorting_swaps : Df K mg "_sorting_swaps" s_sorting_swaps ["places"]) (d_led : Df K mg "led" s_led ["one", "other"]) (d_does_lead : Df K mg "does_lead" s_does_lead ["one", "other", "value"]) (d_parting : Df K mg "parting" s_parting ["one", "other"]) (d_check_two : Df K mg "_check_two" s_check_two ["one", "other"]) (d_l_dice : Df K mg "_law_dice" s_l_dice ["_law_script", "_law_at"]) (d_l_roll : Df K mg "_law_roll" s_l_roll ["_law_dice_here", "_law_total"]) (d_l_one_of : Df K mg "_law_one_of" s_l_one_of ["_law_dice_here", "_law_items"]) (d_l_mixed : Df K mg "_law_mixed" s_l_mixed ["_law_dice_here", "_law_items"]) (d_l_times : Df K mg "_law_times" s_l_times ["_law_one", "_law_other_here"]) (d_l_cubic : Df K mg "_law_cubic" s_l_cubic ["_law_n"]) (d_l_point_row : Df K mg "_law_point_row" s_l_point_row ["_law_n", "_law_at"]) (d_l_sum : Df K mg "_law_sum" s_l_sum ["_law_rows", "_law_numbers"]) (d_l_generators : Df K mg "_law_generators" s_l_generators ["_law_n"]) (d_l_standard : Df K mg "_law_standard" s_l_standard ["_law_dice_here", "_law_n", "_law_most"]) (d_l_small_row : Df K mg "_law_small_row" s_l_small_row ["_law_dice_here", "_law_n", "_law_most"]) (d_l_full_row : Df K mg "_law_full_row" s_l_full_row ["_law_dice_here", "_law_n", "_law_most"]) (d_l_row : Df K mg "_law_row" s_l_row ["_law_dice_here", "_law_n", "_law_most"]) (d_l_great_row : Df K mg "_law_great_row" s_l_great_row ["_law_dice_here", "_law_n", "_law_figures"]) (d_l_word : Df K mg "_law_word" s_l_word ["_law_dice_here", "_law_n", "_law_most"]) (d_l_move : Df K mg "_law_move" s_l_move ["_law_row_here", "_law_move_here"]) (d_l_moved : Df K mg "_law_moved" s_l_moved ["_law_row_here", "_law_word_here"]) (d_l_settled : Df K mg "_law_settled" s_l_settled ["_law_row_here"]) (d_l_other : Df K mg "_law_other" s_l_other ["_law_dice_here", "_law_row_here"]) (d_l_spoilt : Df K mg "_law_spoilt" s_l_spoilt ["_law_dice_here", "_law_n", "_law_word_here"]) (d_l_is_word : Df K mg "_law_is_word" s_l_is_word ["_law_n", "_law_value"]) (d_l_right : Df K mg "_law_right" s_l_right ["_law_dice_here"]) {f : Addr} {fd : FuncData} (d_law : C8.Def K mg "law" s_law f fd) : FnOk P w K mg base CX0 9 f fd ["_law_script"] (sp_law K) := by
  have c_is_short := ok_is_short (P := P) (w := w) (base := base) T d_is_short 
  have c_do_move := ok_do_move (P := P) (w := w) (base := base) T d_do_move 
  have c_shadow_row := ok_shadow_row (P := P) (w := w) (base := base) T d_shadow_row 
  have c_is_clearly_far := ok_is_clearly_far (P := P) (w := w) (base := base) T d_is_clearly_far 
  have c_ranked := ok_ranked (P := P) (w := w) (base := base) T d_ranked 
  have c_sorting_swaps := ok_sorting_swaps (P := P) (w := w) (base := base) T d_sorting_swaps 
  have c_l_dice := ok_l_dice (P := P) (w := w) (base := base) T d_l_dice 
  have c_l_roll := ok_l_roll (P := P) (w := w) (base := base) T d_l_roll 
  have c_l_times := ok_l_times (P := P) (w := w) (base := base) T d_l_times 
  have c_l_cubic := ok_l_cubic (P := P) (w := w) (base := base) T d_l_cubic 
  have c_l_point_row := ok_l_point_row (P := P) (w := w) (base := base) T d_l_point_row 
  have c_l_sum := ok_l_sum (P := P) (w := w) (base := base) T d_l_sum 
  have c_l_generators := ok_l_generators (P := P) (w := w) (base := base) T d_l_generators 
  have c_l_move := ok_l_move (P := P) (w := w) (base := base) T d_l_move 
  have c_l_is_word := ok_l_is_word (P := P) (w := w) (base := base) T d_l_is_word 
  have c_are_short := ok_are_short (P := P) (w := w) (base := base) T d_are_short c_is_short
  have c_is_integer := ok_is_integer (P := P) (w := w) (base := base) T d_is_integer c_is_short
  have c_moved_far := ok_moved_far (P := P) (w := w) (base := base) T d_moved_far c_do_move
  have c_settle := ok_settle (P := P) (w := w) (base := base) T d_settle c_is_clearly_far c_shadow_row c_ranked c_sorting_swaps
  have c_l_one_of := ok_l_one_of (P := P) (w := w) (base := base) T d_l_one_of c_l_roll
  have c_l_mixed := ok_l_mixed (P := P) (w := w) (base := base) T d_l_mixed c_l_roll
  have c_l_moved := ok_l_moved (P := P) (w := w) (base := base) T d_l_moved c_l_move
  have c_l_settled := ok_l_settled (P := P) (w := w) (base := base) T d_l_settled c_l_times c_l_cubic
  have c_is_from_to := ok_is_from_to (P := P) (w := w) (base := base) T d_is_from_to c_is_integer
  have c_is_row := ok_is_row (P := P) (w := w) (base := base) T d_is_row c_is_integer
  have c_short_row := ok_short_row (P := P) (w := w) (base := base) T d_short_row c_are_short
  have c_l_standard := ok_l_standard (P := P) (w := w) (base := base) T d_l_standard c_l_generators c_l_sum c_l_roll c_l_mixed
  have c_l_small_row := ok_l_small_row (P := P) (w := w) (base := base) T d_l_small_row c_l_one_of c_l_roll
  have c_l_great_row := ok_l_great_row (P := P) (w := w) (base := base) T d_l_great_row c_l_roll c_l_one_of
  have c_l_word := ok_l_word (P := P) (w := w) (base := base) T d_l_word c_l_roll c_l_mixed
  have c_l_spoilt := ok_l_spoilt (P := P) (w := w) (base := base) T d_l_spoilt c_l_roll c_l_one_of
  have c_check_many := ok_check_many (P := P) (w := w) (base := base) T d_check_many c_is_from_to
  have c_check_row := ok_check_row (P := P) (w := w) (base := base) T d_check_row c_is_row
  have c_is_move := ok_is_move (P := P) (w := w) (base := base) T d_is_move c_is_from_to
  have c_l_full_row := ok_l_full_row (P := P) (w := w) (base := base) T d_l_full_row c_l_word c_l_point_row c_l_roll c_l_moved c_l_sum c_l_standard
  have c_check_rows := ok_check_rows (P := P) (w := w) (base := base) T d_check_rows c_check_row
  have c_check_few := ok_check_few (P := P) (w := w) (base := base) T d_check_few c_check_row
  have c_is_word := ok_is_word (P := P) (w := w) (base := base) T d_is_word c_is_move
  have c_l_row := ok_l_row (P := P) (w := w) (base := base) T d_l_row c_l_roll c_l_full_row c_l_small_row c_l_moved c_l_standard c_l_word
  have c_is_word_p := ok_is_word_p (P := P) (w := w) (base := base) T d_is_word_p c_check_many c_is_word
  have c_check_two := ok_check_two (P := P) (w := w) (base := base) T d_check_two c_check_few c_check_rows
  have c_l_other := ok_l_other (P := P) (w := w) (base := base) T d_l_other c_l_roll c_l_moved c_l_word c_l_one_of c_l_row
  have c_led := ok_led (P := P) (w := w) (base := base) T d_led c_check_two c_settle
  have c_does_lead := ok_does_lead (P := P) (w := w) (base := base) T d_does_lead c_check_two c_is_word_p c_moved_far
  have c_parting := ok_parting (P := P) (w := w) (base := base) T d_parting c_check_two c_settle c_short_row
  have c_l_right := ok_l_right (P := P) (w := w) (base := base) T d_l_right c_l_roll c_l_row c_l_great_row c_l_other c_l_settled c_led c_parting c_does_lead c_l_word c_l_is_word c_l_moved c_l_spoilt
  exact ok_law T d_law c_l_right c_l_dice
theorem law_end (K : PySem.W.Frag) (H : Hp) (a : Addr) (ns : List Int) (h1 : ns.length ≤ 63) (h2 : SqL K H a (ns.map V.int)) : sp_law K [.ref a] H (fun v _ => v = .bl true) fun _ _ _ => False :=
  Vf.law_end (sp := sp_law) (fun K a ns H Q E h q => ⟨a, ns, rfl, h, q⟩) K H a ns h1 h2
end K46
open PySem PySem.W PyProof.Rows in
set_option maxRecDepth 100000 in
set_option maxHeartbeats 0 in
theorem PySem.Challenge.cw_timesthrough_k46_whole_words_that_lead_o_holds : PySem.Challenge.rw_timesthrough_k46_whole_words_that_lead_o.Holds := by
  w_on; o_law; k_head; (case hw => w_witness2)
  k_fill
  refine Vf.walk_law (l := PySem.Challenge.rw_timesthrough_k46_whole_words_that_lead_o) (x := "_law_script") (k := 9) (sp := K46.sp_law) rfl rfl (fun w h Y => PySem.W.kIn_of Y) ?F (fun K H a ns h1 h2 => K46.law_end K H a ns h1 h2)
  case F =>
    intro w mg fa h KX G hmg
    refine' Vf.let_ (Vf.df_mk (x := "is_short") (st := K46.s_is_short) (ps := ["number"]) KX G ?a ?l ?c ?k (fun _ _ _ _ _ _ us hl => match us, hl with | [_], _ => rfl)) (fun d_is_short => ?_)
    (case a => k_is)
    (case l => k_is)
    (case c => k_is)
    (case k => k_is)
    refine' Vf.let_ (Vf.df_mk (x := "are_short") (st := K46.s_are_short) (ps := ["numbers"]) KX G ?a ?l ?c ?k (fun _ _ _ _ _ _ us hl => match us, hl with | [_], _ => rfl)) (fun d_are_short => ?_)
    (case a => k_is)
    (case l => k_is)
    (case c => k_is)
    (case k => k_is)
    refine' Vf.let_ (Vf.df_mk (x := "is_integer") (st := K46.s_is_integer) (ps := ["value"]) KX G ?a ?l ?c ?k (fun _ _ _ _ _ _ us hl => match us, hl with | [_], _ => rfl)) (fun d_is_integer => ?_)
    (case a => k_is)
    (case l => k_is)
    (case c => k_is)
    (case k => k_is)
    refine' Vf.let_ (Vf.df_mk (x := "is_from_to") (st := K46.s_is_from_to) (ps := ["value", "least", "most"]) KX G ?a ?l ?c ?k (fun _ _ _ _ _ _ us hl => match us, hl with | [_, _, _], _ => rfl)) (fun d_is_from_to => ?_)
    (case a => k_is)
    (case l => k_is)
    (case c => k_is)
    (case k => k_is)
    refine' Vf.let_ (Vf.df_mk (x := "is_row") (st := K46.s_is_row) (ps := ["value"]) KX G ?a ?l ?c ?k (fun _ _ _ _ _ _ us hl => match us, hl with | [_], _ => rfl)) (fun d_is_row => ?_)
    (case a => k_is)
    (case l => k_is)
    (case c => k_is)
    (case k => k_is)
    refine' Vf.let_ (Vf.df_mk (x := "check_many") (st := K46.s_check_many) (ps := ["n", "most"]) KX G ?a ?l ?c ?k (fun _ _ _ _ _ _ us hl => match us, hl with | [_, _], _ => rfl)) (fun d_check_many => ?_)
    (case a => k_is)
    (case l => k_is)
    (case c => k_is)
    (case k => k_is)
    refine' Vf.let_ (Vf.df_mk (x := "check_row") (st := K46.s_check_row) (ps := ["row"]) KX G ?a ?l ?c ?k (fun _ _ _ _ _ _ us hl => match us, hl with | [_], _ => rfl)) (fun d_check_row => ?_)
    (case a => k_is)
    (case l => k_is)
    (case c => k_is)
    (case k => k_is)
    refine' Vf.let_ (Vf.df_mk (x := "check_rows") (st := K46.s_check_rows) (ps := ["one", "other"]) KX G ?a ?l ?c ?k (fun _ _ _ _ _ _ us hl => match us, hl with | [_, _], _ => rfl)) (fun d_check_rows => ?_)
    (case a => k_is)
    (case l => k_is)
    (case c => k_is)
    (case k => k_is)
    refine' Vf.let_ (Vf.dfd_mk0 (x := "check_few") (st := K46.s_check_few) (ps := ["row", "most"]) KX G ?a ?l ?c ?k ?t ?ot (fun _ _ _ _ _ _ _ us its hl hi => match us, its, hl, hi with | [_, _], [_], _, _ => ⟨_, rfl, rfl⟩)) (fun d_check_few => ?_)
    (case a => k_is)
    (case l => k_is)
    (case c => k_is)
    (case k => k_is)
    (case t => k_is)
    (case ot => rfl)
    refine' Vf.let_ (Vf.df_mk (x := "short_row") (st := K46.s_short_row) (ps := ["entries"]) KX G ?a ?l ?c ?k (fun _ _ _ _ _ _ us hl => match us, hl with | [_], _ => rfl)) (fun d_short_row => ?_)
    (case a => k_is)
    (case l => k_is)
    (case c => k_is)
    (case k => k_is)
    refine' Vf.let_ (Vf.df_mk (x := "is_word") (st := K46.s_is_word_p) (ps := ["n", "value"]) KX G ?a ?l ?c ?k (fun _ _ _ _ _ _ us hl => match us, hl with | [_, _], _ => rfl)) (fun d_is_word_p => ?_)
    (case a => k_is)
    (case l => k_is)
    (case c => k_is)
    (case k => k_is)
    refine' Vf.let_ (Vf.df_mk (x := "is_move") (st := K46.s_is_move) (ps := ["n", "value"]) KX G ?a ?l ?c ?k (fun _ _ _ _ _ _ us hl => match us, hl with | [_, _], _ => rfl)) (fun d_is_move => ?_)
    (case a => k_is)
    (case l => k_is)
    (case c => k_is)
    (case k => k_is)
    refine' Vf.let_ (Vf.df_mk (x := "do_move") (st := K46.s_do_move) (ps := ["entries", "move"]) KX G ?a ?l ?c ?k (fun _ _ _ _ _ _ us hl => match us, hl with | [_, _], _ => rfl)) (fun d_do_move => ?_)
    (case a => k_is)
    (case l => k_is)
    (case c => k_is)
    (case k => k_is)
    refine' Vf.let_ (Vf.df_mk (x := "moved_far") (st := K46.s_moved_far) (ps := ["row", "word"]) KX G ?a ?l ?c ?k (fun _ _ _ _ _ _ us hl => match us, hl with | [_, _], _ => rfl)) (fun d_moved_far => ?_)
    (case a => k_is)
    (case l => k_is)
    (case c => k_is)
    (case k => k_is)
    refine' Vf.let_ (Vf.df_mk (x := "_is_word") (st := K46.s_is_word) (ps := ["n", "value"]) KX G ?a ?l ?c ?k (fun _ _ _ _ _ _ us hl => match us, hl with | [_, _], _ => rfl)) (fun d_is_word => ?_)
    (case a => k_is)
    (case l => k_is)
    (case c => k_is)
    (case k => k_is)
    refine' Vf.let_ (Vf.df_mk (x := "shadow_row") (st := K46.s_shadow_row) (ps := ["n"]) KX G ?a ?l ?c ?k (fun _ _ _ _ _ _ us hl => match us, hl with | [_], _ => rfl)) (fun d_shadow_row => ?_)
    (case a => k_is)
    (case l => k_is)
    (case c => k_is)
    (case k => k_is)
    refine' Vf.let_ (Vf.df_mk (x := "settle") (st := K46.s_settle) (ps := ["row"]) KX G ?a ?l ?c ?k (fun _ _ _ _ _ _ us hl => match us, hl with | [_], _ => rfl)) (fun d_settle => ?_)
    (case a => k_is)
    (case l => k_is)
    (case c => k_is)
    (case k => k_is)
    refine' Vf.let_ (Vf.df_mk (x := "_is_clearly_far") (st := K46.s_is_clearly_far) (ps := ["row"]) KX G ?a ?l ?c ?k (fun _ _ _ _ _ _ us hl => match us, hl with | [_], _ => rfl)) (fun d_is_clearly_far => ?_)
    (case a => k_is)
    (case l => k_is)
    (case c => k_is)
    (case k => k_is)
    refine' Vf.let_ (Vf.df_mk (x := "_ranked") (st := K46.s_ranked) (ps := ["entries", "shadow"]) KX G ?a ?l ?c ?k (fun _ _ _ _ _ _ us hl => match us, hl with | [_, _], _ => rfl)) (fun d_ranked => ?_)
    (case a => k_is)
    (case l => k_is)
    (case c => k_is)
    (case k => k_is)
    refine' Vf.let_ (Vf.df_mk (x := "_sorting_swaps") (st := K46.s_sorting_swaps) (ps := ["places"]) KX G ?a ?l ?c ?k (fun _ _ _ _ _ _ us hl => match us, hl with | [_], _ => rfl)) (fun d_sorting_swaps => ?_)
    (case a => k_is)
    (case l => k_is)
    (case c => k_is)
    (case k => k_is)
    refine' Vf.let_ (Vf.df_mk (x := "led") (st := K46.s_led) (ps := ["one", "other"]) KX G ?a ?l ?c ?k (fun _ _ _ _ _ _ us hl => match us, hl with | [_, _], _ => rfl)) (fun d_led => ?_)
    (case a => k_is)
    (case l => k_is)
    (case c => k_is)
    (case k => k_is)
    refine' Vf.let_ (Vf.df_mk (x := "does_lead") (st := K46.s_does_lead) (ps := ["one", "other", "value"]) KX G ?a ?l ?c ?k (fun _ _ _ _ _ _ us hl => match us, hl with | [_, _, _], _ => rfl)) (fun d_does_lead => ?_)
    (case a => k_is)
    (case l => k_is)
    (case c => k_is)
    (case k => k_is)
    refine' Vf.let_ (Vf.df_mk (x := "parting") (st := K46.s_parting) (ps := ["one", "other"]) KX G ?a ?l ?c ?k (fun _ _ _ _ _ _ us hl => match us, hl with | [_, _], _ => rfl)) (fun d_parting => ?_)
    (case a => k_is)
    (case l => k_is)
    (case c => k_is)
    (case k => k_is)
    refine' Vf.let_ (Vf.df_mk (x := "_check_two") (st := K46.s_check_two) (ps := ["one", "other"]) KX G ?a ?l ?c ?k (fun _ _ _ _ _ _ us hl => match us, hl with | [_, _], _ => rfl)) (fun d_check_two => ?_)
    (case a => k_is)
    (case l => k_is)
    (case c => k_is)
    (case k => k_is)
    refine' Vf.let_ (Vf.df_mk (x := "_law_dice") (st := K46.s_l_dice) (ps := ["_law_script", "_law_at"]) KX G ?a ?l ?c ?k (fun _ _ _ _ _ _ us hl => match us, hl with | [_, _], _ => rfl)) (fun d_l_dice => ?_)
    (case a => k_is)
    (case l => k_is)
    (case c => k_is)
    (case k => k_is)
    refine' Vf.let_ (Vf.df_mk (x := "_law_roll") (st := K46.s_l_roll) (ps := ["_law_dice_here", "_law_total"]) KX G ?a ?l ?c ?k (fun _ _ _ _ _ _ us hl => match us, hl with | [_, _], _ => rfl)) (fun d_l_roll => ?_)
    (case a => k_is)
    (case l => k_is)
    (case c => k_is)
    (case k => k_is)
    refine' Vf.let_ (Vf.df_mk (x := "_law_one_of") (st := K46.s_l_one_of) (ps := ["_law_dice_here", "_law_items"]) KX G ?a ?l ?c ?k (fun _ _ _ _ _ _ us hl => match us, hl with | [_, _], _ => rfl)) (fun d_l_one_of => ?_)
    (case a => k_is)
    (case l => k_is)
    (case c => k_is)
    (case k => k_is)
    refine' Vf.let_ (Vf.df_mk (x := "_law_mixed") (st := K46.s_l_mixed) (ps := ["_law_dice_here", "_law_items"]) KX G ?a ?l ?c ?k (fun _ _ _ _ _ _ us hl => match us, hl with | [_, _], _ => rfl)) (fun d_l_mixed => ?_)
    (case a => k_is)
    (case l => k_is)
    (case c => k_is)
    (case k => k_is)
    refine' Vf.let_ (Vf.df_mk (x := "_law_times") (st := K46.s_l_times) (ps := ["_law_one", "_law_other_here"]) KX G ?a ?l ?c ?k (fun _ _ _ _ _ _ us hl => match us, hl with | [_, _], _ => rfl)) (fun d_l_times => ?_)
    (case a => k_is)
    (case l => k_is)
    (case c => k_is)
    (case k => k_is)
    refine' Vf.let_ (Vf.df_mk (x := "_law_cubic") (st := K46.s_l_cubic) (ps := ["_law_n"]) KX G ?a ?l ?c ?k (fun _ _ _ _ _ _ us hl => match us, hl with | [_], _ => rfl)) (fun d_l_cubic => ?_)
    (case a => k_is)
    (case l => k_is)
    (case c => k_is)
    (case k => k_is)
    refine' Vf.let_ (Vf.df_mk (x := "_law_point_row") (st := K46.s_l_point_row) (ps := ["_law_n", "_law_at"]) KX G ?a ?l ?c ?k (fun _ _ _ _ _ _ us hl => match us, hl with | [_, _], _ => rfl)) (fun d_l_point_row => ?_)
    (case a => k_is)
    (case l => k_is)
    (case c => k_is)
    (case k => k_is)
    refine' Vf.let_ (Vf.df_mk (x := "_law_sum") (st := K46.s_l_sum) (ps := ["_law_rows", "_law_numbers"]) KX G ?a ?l ?c ?k (fun _ _ _ _ _ _ us hl => match us, hl with | [_, _], _ => rfl)) (fun d_l_sum => ?_)
    (case a => k_is)
    (case l => k_is)
    (case c => k_is)
    (case k => k_is)
    refine' Vf.let_ (Vf.df_mk (x := "_law_generators") (st := K46.s_l_generators) (ps := ["_law_n"]) KX G ?a ?l ?c ?k (fun _ _ _ _ _ _ us hl => match us, hl with | [_], _ => rfl)) (fun d_l_generators => ?_)
    (case a => k_is)
    (case l => k_is)
    (case c => k_is)
    (case k => k_is)
    refine' Vf.let_ (Vf.df_mk (x := "_law_standard") (st := K46.s_l_standard) (ps := ["_law_dice_here", "_law_n", "_law_most"]) KX G ?a ?l ?c ?k (fun _ _ _ _ _ _ us hl => match us, hl with | [_, _, _], _ => rfl)) (fun d_l_standard => ?_)
    (case a => k_is)
    (case l => k_is)
    (case c => k_is)
    (case k => k_is)
    refine' Vf.let_ (Vf.df_mk (x := "_law_small_row") (st := K46.s_l_small_row) (ps := ["_law_dice_here", "_law_n", "_law_most"]) KX G ?a ?l ?c ?k (fun _ _ _ _ _ _ us hl => match us, hl with | [_, _, _], _ => rfl)) (fun d_l_small_row => ?_)
    (case a => k_is)
    (case l => k_is)
    (case c => k_is)
    (case k => k_is)
    refine' Vf.let_ (Vf.df_mk (x := "_law_full_row") (st := K46.s_l_full_row) (ps := ["_law_dice_here", "_law_n", "_law_most"]) KX G ?a ?l ?c ?k (fun _ _ _ _ _ _ us hl => match us, hl with | [_, _, _], _ => rfl)) (fun d_l_full_row => ?_)
    (case a => k_is)
    (case l => k_is)
    (case c => k_is)
    (case k => k_is)
    refine' Vf.let_ (Vf.df_mk (x := "_law_row") (st := K46.s_l_row) (ps := ["_law_dice_here", "_law_n", "_law_most"]) KX G ?a ?l ?c ?k (fun _ _ _ _ _ _ us hl => match us, hl with | [_, _, _], _ => rfl)) (fun d_l_row => ?_)
    (case a => k_is)
    (case l => k_is)
    (case c => k_is)
    (case k => k_is)
    refine' Vf.let_ (Vf.df_mk (x := "_law_great_row") (st := K46.s_l_great_row) (ps := ["_law_dice_here", "_law_n", "_law_figures"]) KX G ?a ?l ?c ?k (fun _ _ _ _ _ _ us hl => match us, hl with | [_, _, _], _ => rfl)) (fun d_l_great_row => ?_)
    (case a => k_is)
    (case l => k_is)
    (case c => k_is)
    (case k => k_is)
    refine' Vf.let_ (Vf.df_mk (x := "_law_word") (st := K46.s_l_word) (ps := ["_law_dice_here", "_law_n", "_law_most"]) KX G ?a ?l ?c ?k (fun _ _ _ _ _ _ us hl => match us, hl with | [_, _, _], _ => rfl)) (fun d_l_word => ?_)
    (case a => k_is)
    (case l => k_is)
    (case c => k_is)
    (case k => k_is)
    refine' Vf.let_ (Vf.df_mk (x := "_law_move") (st := K46.s_l_move) (ps := ["_law_row_here", "_law_move_here"]) KX G ?a ?l ?c ?k (fun _ _ _ _ _ _ us hl => match us, hl with | [_, _], _ => rfl)) (fun d_l_move => ?_)
    (case a => k_is)
    (case l => k_is)
    (case c => k_is)
    (case k => k_is)
    refine' Vf.let_ (Vf.df_mk (x := "_law_moved") (st := K46.s_l_moved) (ps := ["_law_row_here", "_law_word_here"]) KX G ?a ?l ?c ?k (fun _ _ _ _ _ _ us hl => match us, hl with | [_, _], _ => rfl)) (fun d_l_moved => ?_)
    (case a => k_is)
    (case l => k_is)
    (case c => k_is)
    (case k => k_is)
    refine' Vf.let_ (Vf.df_mk (x := "_law_settled") (st := K46.s_l_settled) (ps := ["_law_row_here"]) KX G ?a ?l ?c ?k (fun _ _ _ _ _ _ us hl => match us, hl with | [_], _ => rfl)) (fun d_l_settled => ?_)
    (case a => k_is)
    (case l => k_is)
    (case c => k_is)
    (case k => k_is)
    refine' Vf.let_ (Vf.df_mk (x := "_law_other") (st := K46.s_l_other) (ps := ["_law_dice_here", "_law_row_here"]) KX G ?a ?l ?c ?k (fun _ _ _ _ _ _ us hl => match us, hl with | [_, _], _ => rfl)) (fun d_l_other => ?_)
    (case a => k_is)
    (case l => k_is)
    (case c => k_is)
    (case k => k_is)
    refine' Vf.let_ (Vf.df_mk (x := "_law_spoilt") (st := K46.s_l_spoilt) (ps := ["_law_dice_here", "_law_n", "_law_word_here"]) KX G ?a ?l ?c ?k (fun _ _ _ _ _ _ us hl => match us, hl with | [_, _, _], _ => rfl)) (fun d_l_spoilt => ?_)
    (case a => k_is)
    (case l => k_is)
    (case c => k_is)
    (case k => k_is)
    refine' Vf.let_ (Vf.df_mk (x := "_law_is_word") (st := K46.s_l_is_word) (ps := ["_law_n", "_law_value"]) KX G ?a ?l ?c ?k (fun _ _ _ _ _ _ us hl => match us, hl with | [_, _], _ => rfl)) (fun d_l_is_word => ?_)
    (case a => k_is)
    (case l => k_is)
    (case c => k_is)
    (case k => k_is)
    refine' Vf.let_ (Vf.df_mk (x := "_law_right") (st := K46.s_l_right) (ps := ["_law_dice_here"]) KX G ?a ?l ?c ?k (fun _ _ _ _ _ _ us hl => match us, hl with | [_], _ => rfl)) (fun d_l_right => ?_)
    (case a => k_is)
    (case l => k_is)
    (case c => k_is)
    (case k => k_is)
    refine' Vf.let_ (Vf.df_mk (x := "law") (st := K46.s_law) (ps := ["_law_script"]) KX G ?a ?l ?c ?k (fun _ _ _ _ _ _ us hl => match us, hl with | [_], _ => rfl)) (fun d_law => ?_)
    (case a => k_is)
    (case l => k_is)
    (case c => k_is)
    (case k => k_is)
    refine' Vf.let_ (show mg "abs" = none from PySem.W.mg_none_of KX G ?z) (fun b_abs => ?_)
    (case z => k_is)
    refine' Vf.let_ (show mg "all" = none from PySem.W.mg_none_of KX G ?z) (fun b_all => ?_)
    (case z => k_is)
    refine' Vf.let_ (show mg "bool" = none from PySem.W.mg_none_of KX G ?z) (fun b_bool => ?_)
    (case z => k_is)
    refine' Vf.let_ (show mg "enumerate" = none from PySem.W.mg_none_of KX G ?z) (fun b_enumerate => ?_)
    (case z => k_is)
    refine' Vf.let_ (show mg "int" = none from PySem.W.mg_none_of KX G ?z) (fun b_int => ?_)
    (case z => k_is)
    refine' Vf.let_ (show mg "isinstance" = none from PySem.W.mg_none_of KX G ?z) (fun b_isinstance => ?_)
    (case z => k_is)
    refine' Vf.let_ (show mg "len" = none from PySem.W.mg_none_of KX G ?z) (fun b_len => ?_)
    (case z => k_is)
    refine' Vf.let_ (show mg "list" = none from PySem.W.mg_none_of KX G ?z) (fun b_list => ?_)
    (case z => k_is)
    refine' Vf.let_ (show mg "max" = none from PySem.W.mg_none_of KX G ?z) (fun b_max => ?_)
    (case z => k_is)
    refine' Vf.let_ (show mg "min" = none from PySem.W.mg_none_of KX G ?z) (fun b_min => ?_)
    (case z => k_is)
    refine' Vf.let_ (show mg "range" = none from PySem.W.mg_none_of KX G ?z) (fun b_range => ?_)
    (case z => k_is)
    refine' Vf.let_ (show mg "set" = none from PySem.W.mg_none_of KX G ?z) (fun b_set => ?_)
    (case z => k_is)
    refine' Vf.let_ (show mg "sorted" = none from PySem.W.mg_none_of KX G ?z) (fun b_sorted => ?_)
    (case z => k_is)
    refine' Vf.let_ (show mg "sum" = none from PySem.W.mg_none_of KX G ?z) (fun b_sum => ?_)
    (case z => k_is)
    refine' Vf.let_ (show mg "tuple" = none from PySem.W.mg_none_of KX G ?z) (fun b_tuple => ?_)
    (case z => k_is)
    refine' Vf.let_ (show mg "zip" = none from PySem.W.mg_none_of KX G ?z) (fun b_zip => ?_)
    (case z => k_is)
    refine' Vf.let_ (show ∃ u, mg "FEW_POINTS" = some u ∧ L2.RelV (.int 9) u from Vf.const_mk KX G ?z) (fun c_FEW_POINTS => ?_)
    (case z => k_is)
    refine' Vf.let_ (show ∃ u, mg "FINITE_POINTS" = some u ∧ L2.RelV (.int 8) u from Vf.const_mk KX G ?z) (fun c_FINITE_POINTS => ?_)
    (case z => k_is)
    refine' Vf.let_ (show ∃ u, mg "LEAST_POINTS" = some u ∧ L2.RelV (.int 3) u from Vf.const_mk KX G ?z) (fun c_LEAST_POINTS => ?_)
    (case z => k_is)
    refine' Vf.let_ (show ∃ u, mg "MAX_WORD" = some u ∧ L2.RelV (.int 2000) u from Vf.const_mk KX G ?z) (fun c_MAX_WORD => ?_)
    (case z => k_is)
    refine' Vf.let_ (show ∃ u, mg "MOST_POINTS" = some u ∧ L2.RelV (.int 16) u from Vf.const_mk KX G ?z) (fun c_MOST_POINTS => ?_)
    (case z => k_is)
    refine' Vf.let_ (show ∃ u, mg "MOST_TURNS" = some u ∧ L2.RelV (.int 1900) u from Vf.const_mk KX G ?z) (fun c_MOST_TURNS => ?_)
    (case z => k_is)
    refine' Vf.let_ (show ∃ u, mg "_TOO_LONG" = some u ∧ L2.RelV (.int 100000000000000000000000000000000000000000000000000000000000000000000000000000000000000000000000000000000000000000000000000000000000000000000000000000000000000000000000000000000000000000000000000000000) u from Vf.const_mk KX G ?z) (fun c_TOO_LONG => ?_)
    (case z => k_is)
    exact Vf.law_ok hmg d_law fun base _ _ D => K46.all_ok (P := PySem.Challenge.rw_timesthrough_k46_whole_words_that_lead_o.prog) ⟨b_abs, b_all, b_bool, b_enumerate, b_int, b_isinstance, b_len, b_list, b_max, b_min, b_range, b_set, b_sorted, b_sum, b_tuple, b_zip, c_FEW_POINTS, c_FINITE_POINTS, c_LEAST_POINTS, c_MAX_WORD, c_MOST_POINTS, c_MOST_TURNS, c_TOO_LONG⟩ d_is_short d_are_short d_is_integer d_is_from_to d_is_row d_check_many d_check_row d_check_rows d_check_few d_short_row d_is_word_p d_is_move d_do_move d_moved_far d_is_word d_shadow_row d_settle d_is_clearly_far d_ranked d_sorting_swaps d_led d_does_lead d_parting d_check_two d_l_dice d_l_roll d_l_one_of d_l_mixed d_l_times d_l_cubic d_l_point_row d_l_sum d_l_generators d_l_standard d_l_small_row d_l_full_row d_l_row d_l_great_row d_l_word d_l_move d_l_moved d_l_settled d_l_other d_l_spoilt d_l_is_word d_l_right D
