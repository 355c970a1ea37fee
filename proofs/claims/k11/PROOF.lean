import PyProof.Rows.All
import Wide.All
import OpenK.AllK
import Wide.FinOn
import HandS.ForMost
import HandS.Codes
import HandS.TupAny
import HandS.TupMul
import HandS.Zip
import HandS.Walk
import HandS.Conv
import HandS.IsInst
import HandS.Wide
import HandS.WideBits
import HandS.Rev
import HandS.RevTup
import HandS.Style
import HandS.Defaults
import HandS.SortKw
import HandS.NamedTupSort
import HandS.Evl
import KE.GoesNew
import KE.GoesMore
import PySem.Challenge.RW_timesthrough_k11_whole_words_keep_produc
set_option Elab.async false
set_option linter.all false
set_option maxRecDepth 100000
set_option maxHeartbeats 4000000
/-! ## Prelude: rules and heap words that the proofs share -/
namespace L2
open PySem PySem.Spec PyProof.Rows
section
variable {X : Cx}
def CPowW (i j : Int) : Prop := 0 ≤ j ∧ (Builtin.Int.intBits i : Int) * j ≤ 2 ^ 27
def CMulE (i j : Int) : Prop := CMul i j ∨ CMulW i j
theorem op_mulE : OpR X (binaryOp .Mult) (rI CMulE fun i j => .int (i * j)) := opI fun _ _ _ _ _ _ _ hc q => by
  rcases hc with h | h
  · exact mul_int q h.ok
  · exact mul_int q h.ok
theorem wmul {i j : Int} {a b : Nat} (ha : i.natAbs < 2 ^ a) (hb : j.natAbs < 2 ^ b) (h0 : 0 < a) (h1 : 0 < b) (h : a + b ≤ 1000000) : CMulE i j := .inr (wide_mul ha hb h0 h1 h)
theorem mulX_left {i j : Int} (h : -(2 ^ 64) < i ∧ i < 2 ^ 64) : CMulE i j := .inl (.inl h)
theorem mulX_right {i j : Int} (h : -(2 ^ 64) < j ∧ j < 2 ^ 64) : CMulE i j := .inl (.inr h)
theorem op_powW : OpR X (binaryOp .Pow) (rI CPowW fun i j => .int (i ^ j.toNat)) := opI fun _ _ _ _ _ _ _ hc q => pow_int hc.1 hc.2 q
end
end L2
namespace C8b
open PySem L2
theorem blk {N : List Str} {sc scope : Scope} {own : List (Str × Nat)} (h : blkC N sc scope own = true) : BlkOk N sc scope own := blkOk_by h
end C8b
namespace PySem
section
variable {prog : Program} {w : World} {A : Around} {E : Value → Shared → Prop} {s : Shared} {l : Addr} {xs : Array (Int × Tok)}
abbrev iterOf (l : Addr) : Obj := { cls := .type "tuple_iterator", data := .fields #[.ref l, .int 0 0] }
theorem vf_iterT {Q : Value → Shared → Prop} (hl : s.heap.IsTuple l (intItems xs))
    (h : ∀ s₂ : Shared, s₂ = { s with heap := s.heap.push (iterOf l) } →
      (s₂.heap.IsTupleIter s.heap.objs.size l 0 ∧ s₂.heap.IsTuple l (intItems xs)) → (∀ b ∈ [s.heap.objs.size, l], b < s₂.heap.objs.size) → l ≠ s.heap.objs.size → Q (.ref s.heap.objs.size) s₂) :
    wpAny (model prog w) A (pyIter (.ref l)) Q E s := by
  have below : l < s.heap.objs.size := hl.elim fun _ got => Heap.lt_size got.1
  have both : ∀ b ∈ [s.heap.objs.size, l], b < (s.heap.push (iterOf l)).objs.size := by
    rw [Heap.size_push]
    exact List.forall_mem_cons.mpr ⟨Nat.lt_succ_self _, List.forall_mem_singleton.mpr (Nat.lt_succ_of_lt below)⟩
  exact wpAny_pyIter_tuple hl (h _ rfl ⟨⟨_, Heap.get?_push_size _ rfl, rfl, rfl⟩, PyProof.Rows.IsTup.push hl _⟩ both (Nat.ne_of_lt below))
theorem vf_old {h' : Heap} (hk : ∀ b o, b ∉ [s.heap.objs.size] → (s.heap.push (iterOf l)).get? b = some o → h'.get? b = some o) : ∀ b o, s.heap.get? b = some o → h'.get? b = some o := fun b o e =>
  hk b o (fun m => Nat.lt_irrefl _ (List.mem_singleton.mp m ▸ Heap.lt_size e)) (Heap.get?_push_of_some _ e)
end
theorem numbers_at {xs : Array (Int × Tok)} {i : Nat} (h : i < xs.size) : numAt xs i ∈ xs.toList.map Prod.fst := by
  rw [numAt_eq]
  exact PySem.getD_mem (by simpa using h)
theorem numbers_all {xs : Array (Int × Tok)} {p : Int → Prop} (h : ∀ i, i < xs.size → p (numAt xs i)) : ∀ y ∈ xs.toList.map Prod.fst, p y := fun y m => by
  obtain ⟨i, hi, rfl⟩ := mem_getD m
  have := h i (by simpa using hi)
  rwa [numAt_eq] at this
end PySem
namespace L2
open PySem PySem.Spec PyProof.Rows
section
variable {X : Cx}
def rSumT (K : PySem.W.Frag) : List V → Hp → VK → Prop := fun vs H Q => ∃ (a : Addr) (ns : List Int), vs = [V.ref a] ∧ SqT K H a (ns.map V.int) ∧ Q (.int ns.sum) H
def rMinT (K : PySem.W.Frag) : List V → Hp → VK → Prop := fun vs H Q => ∃ (a : Addr) (ns : List Int), vs = [V.ref a] ∧ SqT K H a (ns.map V.int) ∧ 0 < ns.length ∧ ∀ m, m ∈ ns → (∀ y, y ∈ ns → m ≤ y) → Q (.int m) H
def rMaxT (K : PySem.W.Frag) : List V → Hp → VK → Prop := fun vs H Q => ∃ (a : Addr) (ns : List Int), vs = [V.ref a] ∧ SqT K H a (ns.map V.int) ∧ 0 < ns.length ∧ ∀ m, m ∈ ns → (∀ y, y ∈ ns → y ≤ m) → Q (.int m) H
theorem numbersOf {pins : List (Addr × Obj)} {σ : L2.St} {H : Hp} {s : Shared} {a : Addr} {ns : List Int} (I : Inv X pins σ H s) (isT : SqT X.K H a (ns.map V.int)) : ∃ xs : Array (Int × Tok), s.heap.IsTuple a (intItems xs) ∧ xs.toList.map Prod.fst = ns := by
  have ⟨vs, rel, here, _⟩ := I.tuple isT
  have ⟨xs, same⟩ := rel.ints.allInts.items
  rw [same] at here
  exact ⟨xs, here, by rw [← nums_intItems, ← same]; exact rel.ints.numsOf⟩
theorem cr_sumT (hc : X.calm = true) : CallR X (.builtin "sum") (rSumT X.K) := fun pins s σ H _ _ Q I rel ⟨a, ns, e, isT, q⟩ => by
  subst e
  rw [Vals.ref1 rel]
  obtain ⟨xs, here, rfl⟩ := numbersOf I isT
  refine call_sum_walkG (vf_iterT here fun s2 e st fp more => ?_)
  subst e
  refine ⟨_, _, _, _, _, _, numAt xs, rfl, Walks.tuple (A := X.A.in1) (I.ok.hd hc) _ a more (intItems xs), st, fp, (fun _ _ => intItems_at), fun h' tk t' old => ?_⟩
  refine ⟨.int _, H, I.kept (vf_old old), ⟨_, rfl⟩, ?_⟩
  rw [show (intItems xs).size = xs.size by simp [intItems], preSum_eq, List.take_of_length_le (by simp)]
  exact q
theorem cr_minT (hc : X.calm = true) : CallR X (.builtin "min") (rMinT X.K) := fun pins s σ H _ _ Q I rel ⟨a, ns, e, isT, some_, best⟩ => by
  subst e
  rw [Vals.ref1 rel]
  obtain ⟨xs, here, rfl⟩ := numbersOf I isT
  have size : 0 < xs.size := by simpa using some_
  refine call_min_walk (vf_iterT here fun s2 e st fp more => ?_)
  subst e
  refine ⟨_, _, _, _, _, _, _, rfl, Walks.tuple (A := X.A.in1) (I.ok.hd hc) _ a more (intItems xs), st, fp, by simpa [intItems] using size, CmpOf.ints_lt (numAt xs) (fun _ _ => intItems_at), fun v h' tk it old => ?_⟩
  obtain ⟨t, rfl⟩ := intItems_at it
  rw [show (intItems xs).size = xs.size by simp [intItems]]
  have ⟨low, all⟩ := argBest_lt (numAt xs) (xs.size - 1)
  exact ⟨.int _, H, I.kept (vf_old old), ⟨_, rfl⟩, best _ (numbers_at (by omega)) (numbers_all fun j _ => all j (by omega))⟩
theorem cr_maxT (hc : X.calm = true) : CallR X (.builtin "max") (rMaxT X.K) := fun pins s σ H _ _ Q I rel ⟨a, ns, e, isT, some_, best⟩ => by
  subst e
  rw [Vals.ref1 rel]
  obtain ⟨xs, here, rfl⟩ := numbersOf I isT
  have size : 0 < xs.size := by simpa using some_
  refine call_max_walk (vf_iterT here fun s2 e st fp more => ?_)
  subst e
  refine ⟨_, _, _, _, _, _, _, rfl, Walks.tuple (A := X.A.in1) (I.ok.hd hc) _ a more (intItems xs), st, fp, by simpa [intItems] using size, CmpOf.ints_gt (numAt xs) (fun _ _ => intItems_at), fun v h' tk it old => ?_⟩
  obtain ⟨t, rfl⟩ := intItems_at it
  rw [show (intItems xs).size = xs.size by simp [intItems]]
  have ⟨low, all⟩ := argBest_gt (numAt xs) (xs.size - 1)
  exact ⟨.int _, H, I.kept (vf_old old), ⟨_, rfl⟩, best _ (numbers_at (by omega)) (numbers_all fun j _ => all j (by omega))⟩
end
end L2
/-! ### heaps -/
namespace Vf
open PySem PySem.Spec PyProof.Rows L2
/-- all but the objects at S stand as they stood; tuples and locked things always do -/
structure Kp (S : Addr → Prop) (H H' : Hp) : Prop where
  keep : ∀ p o, ¬ S p → H p = some o → H' p = some o
  tup : ∀ p xs, H p = some (.tup xs) → H' p = some (.tup xs)
  frz : ∀ p o u, H p = some (.frz o u) → H' p = some (.frz o u)
  live : ∀ p, H' p = none → H p = none
abbrev N0 : Addr → Prop := fun _ => False
abbrev At (a : Addr) : Addr → Prop := fun p => p = a
section
variable {S S' : Addr → Prop} {H H1 H2 H' : Hp} {p l : Addr} {o : HO} {K : PySem.W.Frag} {xs ys : List V}
theorem Kp.refl (S : Addr → Prop) (H : Hp) : Kp S H H := ⟨fun _ _ _ h => h, fun _ _ h => h, fun _ _ _ h => h, fun _ h => h⟩
theorem Kp.trans (a : Kp S H H1) (b : Kp S H1 H2) : Kp S H H2 := ⟨fun p o n h => b.keep p o n (a.keep p o n h), fun p xs h => b.tup p xs (a.tup p xs h), fun p o u h => b.frz p o u (a.frz p o u h), fun p h => a.live p (b.live p h)⟩
theorem Kp.mono (a : Kp S H H1) (h : ∀ p, S p → S' p) : Kp S' H H1 := ⟨fun p o n => a.keep p o fun z => n (h p z), a.tup, a.frz, a.live⟩
theorem Kp.up (a : Kp N0 H H1) : Kp S H H1 := a.mono fun _ z => z.elim
theorem Kp.same (a : Kp N0 H H1) : Same H H1 := fun p o h => a.keep p o (fun z => z) h
theorem Kp.of_same (a : Same H H1) : Kp S H H1 := ⟨fun p o _ h => a p o h, fun p _ h => a p _ h, fun p _ _ h => a p _ h, fun _ h => a.free h⟩
theorem same_new (h : H p = none) : Same H (upd H p o) := fun b x e => by
  rw [upd_ne (ne_of_none e h)]
  exact e
theorem Kp.new (h : H p = none) : Kp S H (upd H p o) := .of_same (same_new h)
theorem Kp.sqT (a : Kp S H H1) (h : SqT K H p xs) : SqT K H1 p xs := by
  rcases h with (h | ⟨o, h⟩) | h
  · exact .inl (.inl (a.tup _ _ h))
  · exact .inl (.inr ⟨o, a.frz _ _ _ h⟩)
  · exact .inr h
/-- a list that stood before and may change -/
theorem Kp.mut (hs : S l) (h : H l = some (.lst xs)) : Kp S H (upd H l (.lst ys)) := by
  have hl : ∀ b u, H b = some u → (∀ zs, u ≠ .lst zs) → b ≠ l := fun b u e n z => by
    rw [z, h] at e
    exact n xs (Option.some.inj e).symm
  refine ⟨fun b u n e => ?_, fun b zs e => ?_, fun b u z e => ?_, fun b e => ?_⟩
  · rw [upd_ne (fun z => n (by rw [z]; exact hs))]
    exact e
  · rw [upd_ne (hl b _ e fun _ z => by cases z)]
    exact e
  · rw [upd_ne (hl b _ e fun _ z => by cases z)]
    exact e
  · by_cases z : b = l
    · rw [z, upd_same] at e
      cases e
    · rw [upd_ne z] at e
      exact e
/-- an object that H did not know may change -/
theorem Kp.mut0 (h0 : H l = none) (k : Kp S H H1) : Kp S H (upd H1 l o) := by
  have hl : ∀ b u, H b = some u → b ≠ l := fun b u e => ne_of_none e h0
  refine ⟨fun b u n e => ?_, fun b zs e => ?_, fun b u z e => ?_, fun b e => ?_⟩
  · rw [upd_ne (hl b _ e)]
    exact k.keep _ _ n e
  · rw [upd_ne (hl b _ e)]
    exact k.tup _ _ e
  · rw [upd_ne (hl b _ e)]
    exact k.frz _ _ _ e
  · by_cases z : b = l
    · rw [z, upd_same] at e
      cases e
    · rw [upd_ne z] at e
      exact k.live _ e
/-- the dice at a: a list of three ints -/
def Dc (a : Addr) (H : Hp) : Prop := ∃ l m c : Int, H a = some (.lst [.int l, .int m, .int c])
theorem Dc.kp (d : Dc a H) (k : Kp N0 H H') : Dc a H' := by
  obtain ⟨l, m, c, h⟩ := d
  exact ⟨l, m, c, k.keep _ _ (fun z => z) h⟩
theorem Dc.upd_ne (d : Dc a H) (h : a ≠ p) : Dc a (upd H p o) := by
  obtain ⟨l, m, c, e⟩ := d
  exact ⟨l, m, c, by rw [L2.upd_ne h]; exact e⟩
theorem Dc.ne (d : Dc a H) (h : H p = none) : a ≠ p := by
  obtain ⟨l, m, c, e⟩ := d
  exact ne_of_none e h
/-- .. changes alone -/
structure DR (a : Addr) (H H' : Hp) : Prop where
  kp : Kp (At a) H H'
  dc : Dc a H'
theorem DR.refl (d : Dc a H) : DR a H H := ⟨.refl _ _, d⟩
theorem DR.trans (x : DR a H H1) (y : DR a H1 H2) : DR a H H2 := ⟨x.kp.trans y.kp, y.dc⟩
theorem DR.of (d : Dc a H) (k : Kp N0 H H1) : DR a H H1 := ⟨k.up, d.kp k⟩
theorem DR.sqT (x : DR a H H1) (h : SqT K H p xs) : SqT K H1 p xs := x.kp.sqT h
theorem DR.lst (x : DR a H H1) (n : p ≠ a) (h : H p = some (.lst xs)) : H1 p = some (.lst xs) := x.kp.keep _ _ n h
theorem rd_new {Q : VK} (h : ∀ p H1, H p = none → Kp N0 H H1 → H1 p = some o → Q (.ref p) H1) : ∀ p, H p = none → Q (.ref p) (upd H p o) := fun p hp => h p _ hp (.new hp) upd_same
end

/-! ### comprehensions -/
section
variable {J : It} {n : Nat} {Gw : Hp → Prop} {Y : Nat → Hp → V → Hp → Prop} {S : Addr → Prop} {g : TG} {tt : TT} {te : TE} {vs : List Nat} {σ : L2.St} {H1 : Hp} {Qd : Addr → Hp → Prop}
/-- G: what stands all the while (beside what Kp says); P: what is said of the i-th item -/
theorem lc_gen (w : Walk J n Gw Y) (G : Hp → Prop) (P : Nat → V → Hp → Prop) (hn : n < sizeLine)
    (hG : G H1) (hGn : ∀ H D o, H1 D = none → G H → G (upd H D o)) (hw : ∀ H, Kp S H1 H → G H → Gw H)
    (hP : ∀ i y H H', P i y H → Kp S H H' → P i y H') (hPn : ∀ i y H D zs zs', H1 D = none → H D = some (.lst zs) → P i y H → P i y (upd H D (.lst zs')))
    (hD : ∀ D, H1 D = none → ¬ S D)
    (turn : ∀ i x H H', i < n → Kp S H1 H → G H → Y i H x H' → ∀ R : VK, (∀ y H4, Kp S H H4 → G H4 → P i y H4 → R y H4) → g x (wipe σ vs) H' fun σ2 H2 => wipe σ2 vs = wipe σ vs ∧ te σ2 H2 R)
    (fin : ∀ D H' ys, H1 D = none → Kp S H1 H' → G H' → H' D = some (.lst ys) → ys.length = n → (∀ i y, ys[i]? = some y → P i y H') → Qd D H') :
    ∀ D, H1 D = none → ∃ W : Nat → Nat → Hp → Prop, (∃ m, W 0 m (upd H1 D (.lst []))) ∧ ∀ i m H, W i m H →
      (J.stop i H ∧ Qd D H) ∨ (J.go i H ∧ ∃ Nx : Hp → Prop, (∀ H', Nx H' → ∃ m', m' < m ∧ W (i + 1) m' H') ∧ ∀ x H', J.yld i H x H' → g x (wipe σ vs) H' fun σ2 H2 => wipe σ2 vs = wipe σ vs ∧ tYes σ2 H2 fun b H3 =>
        if b = true then te σ2 H3 fun y H4 => ∃ acc, H4 D = some (.lst acc) ∧ acc.length < sizeLine ∧ Nx (upd H4 D (.lst (acc ++ [y]))) else Nx H3) := by
  intro D hDn
  refine ⟨fun i m H => m = n - i ∧ i ≤ n ∧ Kp S H1 H ∧ G H ∧ ∃ ys, H D = some (.lst ys) ∧ ys.length = i ∧ ∀ j y, ys[j]? = some y → P j y H, ⟨n, by simp, Nat.zero_le _, .new hDn, hGn _ _ _ hDn hG, [], upd_same, rfl, fun j y h => by simp at h⟩, ?_⟩
  rintro i m H ⟨rfl, hi, k, g0, ys, hy, hl, hp⟩
  have q := hw H k g0
  by_cases hlt : i < n
  · refine .inr ⟨w.goes i H hlt q, fun H' => Kp S H1 H' ∧ G H' ∧ ∃ ys, H' D = some (.lst ys) ∧ ys.length = i + 1 ∧ ∀ j y, ys[j]? = some y → P j y H', fun H' p' => ⟨n - (i + 1), by omega, rfl, hlt, p'⟩, fun x H' y => ?_⟩
    exact turn i x H H' hlt k g0 (w.yields i H x H' hlt q y) _ fun z H4 k4 g4 p4 => by
      have hd4 : H4 D = some (.lst ys) := k4.keep _ _ (hD D hDn) hy
      refine ⟨ys, hd4, by omega, .mut0 hDn (k.trans k4), hGn _ _ _ hDn g4, ys ++ [z], upd_same, by simp [hl], fun j u hu => ?_⟩
      by_cases hj : j < ys.length
      · rw [List.getElem?_append_left hj] at hu
        exact hPn _ _ _ _ _ _ hDn hd4 (hP _ _ _ _ (hp j u hu) k4)
      · rw [List.getElem?_append_right (by omega)] at hu
        have e : j = i := by
          have : j - ys.length < [z].length := (List.getElem?_eq_some_iff.mp hu).1
          simp at this
          omega
        subst e
        rw [hl, Nat.sub_self] at hu
        have e2 : z = u := Option.some.inj hu
        subst e2
        exact hPn _ _ _ _ _ _ hDn hd4 p4
  · have e : i = n := by omega
    subst e
    exact .inl ⟨w.stops H q, fin D H ys hDn k g0 hy hl hp⟩
end
end Vf
/-! ### single readings -/
namespace Vf
open PySem PySem.Spec PyProof.Rows L2
section
variable {S : Addr → Prop} {H H1 : Hp} {a b p l : Addr} {K : PySem.W.Frag} {xs ys : List V} {Q : VK} {lo hi : Option Int} {v : V} {i : Int}
theorem sl_do (h : H a = some (.tup xs)) (q : ∀ p H1, Kp N0 H H1 → H1 p = some (.tup (cutV xs lo hi)) → Q (.ref p) H1) : rSlA K (.ref a) lo hi H Q := by
  refine ⟨a, xs, rfl, SqT.of h, fun w => q a H (.refl _ _) ?_, fun _ => rd_new fun p H1 _ e h1 => q p H1 e h1⟩
  rw [h]
  unfold cutV
  rw [w.1, w.2]
  simp
theorem sl_from {σ : L2.St} (h : H a = some (.tup xs)) (q : ∀ p H1, Kp N0 H H1 → H1 p = some (.tup (cutV xs lo none)) → Q (.ref p) H1) : tNoPart σ H fun u H2 => rSlA K (.ref a) lo u H2 Q := sl_do h q
theorem cat_do (h : H a = some (.tup xs)) (h2 : H b = some (.tup ys)) (hz : xs.length + ys.length ≤ sizeLine) (q : ∀ p H1, Kp N0 H H1 → H1 p = some (.tup (xs ++ ys)) → Q (.ref p) H1) : rCatA K (.ref a) (.ref b) H Q := by
  refine ⟨a, b, xs, ys, rfl, rfl, SqT.of h, SqT.of h2, hz, fun w => q b H (.refl _ _) ?_, fun _ w => q a H (.refl _ _) ?_, fun _ _ => rd_new fun p H1 _ e h1 => q p H1 e h1⟩
  · rw [h2, w]; rfl
  · rw [h, w]; simp
theorem ixT_do (h : H a = some (.tup xs)) (hv : atI xs i = some v) (q : Q v H) : rIxT K (.ref a) (.int i) H Q := ⟨a, xs, i, v, rfl, rfl, SqT.of h, hv, q⟩
theorem ixL_do (h : SqL K H a xs) (hv : atI xs i = some v) (q : Q v H) : rIxL K (.ref a) (.int i) H Q := ⟨a, xs, i, v, rfl, rfl, h, hv, q⟩
theorem at_row {ns : List Int} {j : Nat} (h : j < ns.length) : atI (ns.map V.int) (j : Int) = some (.int (ns.getD j 0)) := by
  refine atI_nat ?_
  rw [List.getElem?_map, List.getElem?_eq_getElem h, List.getD_eq_getElem?_getD, List.getElem?_eq_getElem h]
  rfl
theorem at_row0 {ns : List Int} (h : 0 < ns.length) : atI (ns.map V.int) 0 = some (.int (ns.getD 0 0)) := at_row (j := 0) h
theorem cut_from {xs : List V} {k : Nat} : cutV xs (some (k : Int)) none = xs.drop k := by
  unfold cutV
  rw [HT.sIx_nat, HT.sIx_none]
  by_cases h : k ≤ xs.length
  · rw [Nat.min_eq_left h, ← List.length_drop, List.take_length]
  · rw [Nat.min_eq_right (by omega), List.drop_eq_nil_of_le (by omega : xs.length ≤ xs.length), List.drop_eq_nil_of_le (by omega)]
    simp
theorem cut_to {xs : List V} {k : Nat} : cutV xs none (some (k : Int)) = xs.take k := by
  unfold cutV
  rw [HT.sIx_nat, HT.sIx_none]
  show List.take (min k xs.length - 0) (xs.drop 0) = xs.take k
  rw [Nat.sub_zero, List.drop_zero]
  by_cases h : k ≤ xs.length
  · rw [Nat.min_eq_left h]
  · rw [Nat.min_eq_right (by omega), List.take_length, List.take_of_length_le (by omega)]
theorem cut_1 {ns : List Int} : cutV (ns.map V.int) (some 1) none = (ns.drop 1).map V.int := by
  rw [show (some (1 : Int)) = some ((1 : Nat) : Int) from rfl, cut_from, List.map_drop]
theorem tyT (h : H a = some (.tup xs)) : TyX K H (.ref a) (.type "tuple") := .base (.tup h)
end

/-! ### comprehensions of ints -/
section
variable {J : It} {n : Nat} {Gw : Hp → Prop} {Y : Nat → Hp → V → Hp → Prop} {S : Addr → Prop} {g : TG} {tt : TT} {te : TE} {vs : List Nat} {σ : L2.St} {H1 : Hp} {Qd : Addr → Hp → Prop}
theorem ints_of {ys : List V} {p : Int → Prop} : (∀ (i : Nat) (y : V), ys[i]? = some y → ∃ z, y = .int z ∧ p z) → ∃ zs : List Int, ys = zs.map V.int ∧ ∀ z ∈ zs, p z := by
  induction ys with
  | nil => exact fun _ => ⟨[], rfl, fun _ h => by simp at h⟩
  | cons y r ih =>
    intro h
    obtain ⟨zs, e, hz⟩ := ih fun i u hu => h (i + 1) u (by simpa using hu)
    obtain ⟨z, ez, pz⟩ := h 0 y (by simp)
    refine ⟨z :: zs, by rw [e, ez]; rfl, fun u hu => ?_⟩
    rcases List.mem_cons.mp hu with rfl | hu
    · exact pz
    · exact hz u hu
theorem ext_of {ys : List V} {n : Nat} {f : Nat → V} (hl : ys.length = n) (h : ∀ (i : Nat) (y : V), ys[i]? = some y → y = f i) : ys = (List.range n).map f := by
  refine List.ext_getElem (by simp [hl]) fun i h1 h2 => ?_
  rw [h i ys[i] (by simp [h1])]
  simp
/-- pure: the items are ints that are told by their place -/
theorem lc_ints (w : Walk J n Gw Y) (f : Nat → Int) (hn : n ≤ 100000) (hw : ∀ H, Kp N0 H1 H → Gw H)
    (turn : ∀ i x H H', i < n → Kp N0 H1 H → Y i H x H' → ∀ R : VK, (∀ H4, Kp N0 H H4 → R (.int (f i)) H4) → g x (wipe σ vs) H' fun σ2 H2 => wipe σ2 vs = wipe σ vs ∧ te σ2 H2 R)
    (fin : ∀ D H', Kp N0 H1 H' → H' D = some (.lst (((List.range n).map f).map V.int)) → Qd D H') :
    ∀ D, H1 D = none → ∃ W : Nat → Nat → Hp → Prop, (∃ m, W 0 m (upd H1 D (.lst []))) ∧ ∀ i m H, W i m H →
      (J.stop i H ∧ Qd D H) ∨ (J.go i H ∧ ∃ Nx : Hp → Prop, (∀ H', Nx H' → ∃ m', m' < m ∧ W (i + 1) m' H') ∧ ∀ x H', J.yld i H x H' → g x (wipe σ vs) H' fun σ2 H2 => wipe σ2 vs = wipe σ vs ∧ tYes σ2 H2 fun b H3 =>
        if b = true then te σ2 H3 fun y H4 => ∃ acc, H4 D = some (.lst acc) ∧ acc.length < sizeLine ∧ Nx (upd H4 D (.lst (acc ++ [y]))) else Nx H3) :=
  lc_gen (S := N0) w (fun _ => True) (fun i y _ => y = .int (f i)) (Nat.lt_of_le_of_lt hn (by decide)) trivial (fun _ _ _ _ _ => trivial) (fun H k _ => hw H k) (fun _ _ _ _ h _ => h) (fun _ _ _ _ _ _ _ _ h => h) (fun _ _ z => z)
    (fun i x H H' hi k _ y R hR => turn i x H H' hi k y R fun H4 k4 => hR _ _ k4 trivial rfl)
    (fun D H' ys _ k _ hy hl hp => fin D H' k (by rw [hy, ext_of hl hp, List.map_map]; rfl))
/-- pure: the items are bools -/
theorem lc_bools (w : Walk J n Gw Y) (f : Nat → Bool) (hn : n ≤ 100000) (hw : ∀ H, Kp N0 H1 H → Gw H)
    (turn : ∀ i x H H', i < n → Kp N0 H1 H → Y i H x H' → ∀ R : VK, (∀ H4, Kp N0 H H4 → R (.bl (f i)) H4) → g x (wipe σ vs) H' fun σ2 H2 => wipe σ2 vs = wipe σ vs ∧ te σ2 H2 R)
    (fin : ∀ D H', Kp N0 H1 H' → H' D = some (.lst (((List.range n).map f).map V.bl)) → Qd D H') :
    ∀ D, H1 D = none → ∃ W : Nat → Nat → Hp → Prop, (∃ m, W 0 m (upd H1 D (.lst []))) ∧ ∀ i m H, W i m H →
      (J.stop i H ∧ Qd D H) ∨ (J.go i H ∧ ∃ Nx : Hp → Prop, (∀ H', Nx H' → ∃ m', m' < m ∧ W (i + 1) m' H') ∧ ∀ x H', J.yld i H x H' → g x (wipe σ vs) H' fun σ2 H2 => wipe σ2 vs = wipe σ vs ∧ tYes σ2 H2 fun b H3 =>
        if b = true then te σ2 H3 fun y H4 => ∃ acc, H4 D = some (.lst acc) ∧ acc.length < sizeLine ∧ Nx (upd H4 D (.lst (acc ++ [y]))) else Nx H3) :=
  lc_gen (S := N0) w (fun _ => True) (fun i y _ => y = .bl (f i)) (Nat.lt_of_le_of_lt hn (by decide)) trivial (fun _ _ _ _ _ => trivial) (fun H k _ => hw H k) (fun _ _ _ _ h _ => h) (fun _ _ _ _ _ _ _ _ h => h) (fun _ _ z => z)
    (fun i x H H' hi k _ y R hR => turn i x H H' hi k y R fun H4 k4 => hR _ _ k4 trivial rfl)
    (fun D H' ys _ k _ hy hl hp => fin D H' k (by rw [hy, ext_of hl hp, List.map_map]; rfl))
/-- with the dice at a: the items are ints of which p holds -/
theorem lc_draws {a : Addr} (w : Walk J n Gw Y) (p : Int → Prop) (hn : n ≤ 100000) (hd : Dc a H1) (hw : ∀ H, DR a H1 H → Gw H)
    (turn : ∀ i x H H', i < n → DR a H1 H → Y i H x H' → ∀ R : VK, (∀ z H4, DR a H H4 → p z → R (.int z) H4) → g x (wipe σ vs) H' fun σ2 H2 => wipe σ2 vs = wipe σ vs ∧ te σ2 H2 R)
    (fin : ∀ D H' (zs : List Int), H1 D = none → DR a H1 H' → H' D = some (.lst (zs.map V.int)) → zs.length = n → (∀ z ∈ zs, p z) → Qd D H') :
    ∀ D, H1 D = none → ∃ W : Nat → Nat → Hp → Prop, (∃ m, W 0 m (upd H1 D (.lst []))) ∧ ∀ i m H, W i m H →
      (J.stop i H ∧ Qd D H) ∨ (J.go i H ∧ ∃ Nx : Hp → Prop, (∀ H', Nx H' → ∃ m', m' < m ∧ W (i + 1) m' H') ∧ ∀ x H', J.yld i H x H' → g x (wipe σ vs) H' fun σ2 H2 => wipe σ2 vs = wipe σ vs ∧ tYes σ2 H2 fun b H3 =>
        if b = true then te σ2 H3 fun y H4 => ∃ acc, H4 D = some (.lst acc) ∧ acc.length < sizeLine ∧ Nx (upd H4 D (.lst (acc ++ [y]))) else Nx H3) :=
  lc_gen (S := At a) w (Dc a) (fun _ y _ => ∃ z, y = .int z ∧ p z) (Nat.lt_of_le_of_lt hn (by decide)) hd (fun H D o h d => d.upd_ne (hd.ne h)) (fun H k d => hw H ⟨k, d⟩) (fun _ _ _ _ h _ => h) (fun _ _ _ _ _ _ _ _ h => h) (fun D h z => hd.ne h z.symm)
    (fun i x H H' hi k d y R hR => turn i x H H' hi ⟨k, d⟩ y R fun z H4 k4 pz => hR _ _ k4.kp k4.dc ⟨z, rfl, pz⟩)
    (fun D H' ys hDn k d hy hl hp => by
      obtain ⟨zs, e, hz⟩ := ints_of hp
      exact fin D H' zs hDn ⟨k, d⟩ (by rw [hy, e]) (by rw [← hl, e]; simp) hz)
/-- pure, with a test: the ints of the turns that the test lets -/
theorem lc_filt (w : Walk J n Gw Y) (t : Nat → Bool) (f : Nat → Int) (hn : n ≤ 100000) (hw : ∀ H, Kp N0 H1 H → Gw H)
    (turn : ∀ i x H H', i < n → Kp N0 H1 H → Y i H x H' →
      g x (wipe σ vs) H' fun σ2 H2 => wipe σ2 vs = wipe σ vs ∧ (∀ R : Bool → Hp → Prop, (∀ H3, Kp N0 H H3 → R (t i) H3) → tt σ2 H2 R) ∧ (t i = true → ∀ H3, Kp N0 H H3 → ∀ R : VK, (∀ H4, Kp N0 H H4 → R (.int (f i)) H4) → te σ2 H3 R))
    (gm : ∀ x σ H (A B : L2.St → Hp → Prop), (∀ σ H, A σ H → B σ H) → g x σ H A → g x σ H B)
    (fin : ∀ D H', Kp N0 H1 H' → H' D = some (.lst ((((List.range n).filter t).map f).map V.int)) → Qd D H') :
    ∀ D, H1 D = none → ∃ W : Nat → Nat → Hp → Prop, (∃ m, W 0 m (upd H1 D (.lst []))) ∧ ∀ i m H, W i m H →
      (J.stop i H ∧ Qd D H) ∨ (J.go i H ∧ ∃ Nx : Hp → Prop, (∀ H', Nx H' → ∃ m', m' < m ∧ W (i + 1) m' H') ∧ ∀ x H', J.yld i H x H' → g x (wipe σ vs) H' fun σ2 H2 => wipe σ2 vs = wipe σ vs ∧ tt σ2 H2 fun b H3 =>
        if b = true then te σ2 H3 fun y H4 => ∃ acc, H4 D = some (.lst acc) ∧ acc.length < sizeLine ∧ Nx (upd H4 D (.lst (acc ++ [y]))) else Nx H3) := by
  intro D hDn
  refine ⟨fun i m H => m = n - i ∧ i ≤ n ∧ Kp N0 H1 H ∧ H D = some (.lst ((((List.range i).filter t).map f).map V.int)), ⟨n, by simp, Nat.zero_le _, .new hDn, upd_same⟩, ?_⟩
  rintro i m H ⟨rfl, hi, k, hy⟩
  have q := hw H k
  by_cases hlt : i < n
  · refine .inr ⟨w.goes i H hlt q, fun H' => Kp N0 H1 H' ∧ H' D = some (.lst ((((List.range (i + 1)).filter t).map f).map V.int)), fun H' p' => ⟨n - (i + 1), by omega, rfl, hlt, p'⟩, fun x H' y => ?_⟩
    refine gm _ _ _ _ _ (fun σ2 H2 h => ⟨h.1, h.2.1 _ fun H3 k3 => ?_⟩) (turn i x H H' hlt k (w.yields i H x H' hlt q y))
    by_cases ht : t i = true
    · rw [ht, if_pos rfl]
      refine h.2.2 ht H3 k3 _ fun H4 k4 => ?_
      have h4 := k4.keep _ _ (fun z => z) hy
      refine ⟨_, h4, ?_, .mut0 hDn (k.trans k4), ?_⟩
      · rw [List.length_map, List.length_map]
        have := List.length_filter_le t (List.range i)
        rw [List.length_range] at this
        exact Nat.lt_of_le_of_lt (Nat.le_trans this (by omega : i ≤ 100000)) (by decide)
      · rw [upd_same, List.range_succ, List.filter_append, List.filter_cons, if_pos ht]
        simp
    · have e : t i = false := by cases h : t i with | true => exact absurd h ht | false => rfl
      rw [e, if_neg (by decide)]
      refine ⟨k.trans k3, ?_⟩
      rw [k3.keep _ _ (fun z => z) hy, List.range_succ, List.filter_append, List.filter_cons, if_neg ht]
      simp
  · have e : i = n := by omega
    subst e
    exact .inl ⟨w.stops H q, fin D H k hy⟩
theorem gm_name {i : Nat} : ∀ x σ H (A B : L2.St → Hp → Prop), (∀ σ H, A σ H → B σ H) → gName i x σ H A → gName i x σ H B := fun _ _ _ _ _ h q => h _ _ q
end
theorem range_getD {α : Type} (f : Int → α) (ns : List Int) : (List.range ns.length).map (fun i => f (ns.getD i 0)) = ns.map f := by
  refine List.ext_getElem (by simp) fun i h1 h2 => ?_
  simp at h2
  simp [List.getD_eq_getElem?_getD, h2]
theorem range_zip {α : Type} (f : Int → Int → α) (ns ms : List Int) (n : Nat) (h : n = min ns.length ms.length) : (List.range n).map (fun i => f (ns.getD i 0) (ms.getD i 0)) = List.zipWith f ns ms := by
  refine List.ext_getElem (by simp [h]) fun i h1 h2 => ?_
  have hn : i < n := by simpa using h1
  have h3 : i < ns.length := by omega
  have h4 : i < ms.length := by omega
  simp [List.getD_eq_getElem?_getD, h3, h4]
theorem filt_getD (t : Int → Bool) (f : Int → Int) (ns : List Int) : ((List.range ns.length).filter fun i => t (ns.getD i 0)).map (fun i => f (ns.getD i 0)) = (ns.filter t).map f := by
  have h := range_getD (fun x => x) ns
  rw [List.map_id'] at h
  conv => rhs; rw [← h]
  rw [List.filter_map, List.map_map]
  rfl
end Vf
/-! ### defs and the end -/
namespace Vf
open PySem PySem.Spec PyProof.Rows L2
/-- a def of the module, as it stands behind the top -/
def Df (K : PySem.W.Frag) (mg : Str → Option Value) (x : Str) (st : Stmt) (ps : List Str) : Prop :=
  ∃ f fd, C8.Def K mg x st f fd ∧ ∀ us : List Value, us.length = ps.length → bindArgs fd ⟨us, []⟩ = pure (ps.zip us)
theorem df_mk {K : PySem.W.Frag} {h : Heap} {mg : Str → Option Value} (X : K.In h) (G : h.Ns mainGlobals mg) {x : Str} {st : Stmt} {ps : List Str} {f : Addr} {od an : Option Addr} {sl : Array (Option Value)} {oc kV dc pm cd ct : Value}
    (a : PySem.W.nsIn K mainGlobals x = some (some (.ref f)))
    (l : K.lookup f = some ⟨oc, od, .func (PySem.W.fnOf x x (C8.fnArgs st) (C8.fnBody st) (C8.fnScope st) .none kV dc pm an cd ct), sl⟩) (c : PySem.W.codeIn K cd x = true) (k : PySem.W.keepIn K (.ref f) = true)
    (hb : ∀ (kV doc pm : Value) (an : Option Addr) (cdv ct : Value) (us : List Value), us.length = ps.length → bindArgs (PySem.W.fnOf x x (C8.fnArgs st) (C8.fnBody st) (C8.fnScope st) .none kV doc pm an cdv ct) ⟨us, []⟩ = pure (ps.zip us)) :
    Df K mg x st ps :=
  ⟨f, _, ⟨⟨oc, od, .none, kV, dc, pm, an, cd, ct, sl, rfl, l, c⟩, PySem.W.mg_of X G a, k⟩, hb _ _ _ _ _ _⟩
theorem const_mk {K : PySem.W.Frag} {h : Heap} {mg : Str → Option Value} (X : K.In h) (G : h.Ns mainGlobals mg) {x : Str} {i : Int} {t : Tok} (a : PySem.W.nsIn K mainGlobals x = some (some (.int i t))) : ∃ u, mg x = some u ∧ RelV (.int i) u :=
  ⟨_, PySem.W.mg_of X G a, t, rfl⟩
theorem law_ok {P : Program} {w : World} {K : PySem.W.Frag} {mg : Str → Option Value} {fa : Addr} {k : Nat} {x : Str} {st : Stmt} {sp : Sp} (hmg : mg "law" = some (.ref fa)) (d : Df K mg "law" st [x])
    (h : ∀ (base : Heap) (f : Addr) (fd : FuncData), C8.Def K mg "law" st f fd → FnOk P w K mg base CX0 k f fd [x] sp) :
    ∃ fd : FuncData, (∀ (s : Shared) (u : Value), BindsTo s fd ⟨[u], []⟩ [(x, u)]) ∧ ∀ base : Heap, K.In base → base.Ns mainGlobals mg → FnOk P w K mg base CX0 k fa fd [x] sp := by
  obtain ⟨f, fd, D, hb⟩ := d
  have e := hmg.symm.trans D.mgf
  cases e
  exact ⟨fd, fun s u => .of_eq (hb [u] rfl), fun base _ _ => h base _ _ D⟩
theorem walk_law {l : PySem.W.OpenLaw} {k : Nat} {q : Program} {loose : List Str} {XP : (Str → Option Value) → Heap → Prop} {YP : World → Heap → Prop} {d : DefRec} {K : Params → PySem.W.Frag} {sp : PySem.W.Frag → Sp} {x : Str}
    (hn : l.most = some 63) (hdf : d.params.defaults = []) (hY : ∀ (w : World) (h : Heap), YP w h → (K w.params).In h)
    (F : ∀ (w : World) (mg : Str → Option Value) (fa : Addr) (h : Heap), (K w.params).In h → h.Ns mainGlobals mg → mg d.name = some (.ref fa) →
      ∃ fd : FuncData, (∀ (s : Shared) (u : Value), BindsTo s fd ⟨[u], []⟩ [(x, u)]) ∧ ∀ base : Heap, (K w.params).In base → base.Ns mainGlobals mg → FnOk l.prog w (K w.params) mg base CX0 k fa fd [x] (sp (K w.params)))
    (hsp : ∀ (K : PySem.W.Frag) (H : Hp) (a : Addr) (ns : List Int), ns.length ≤ 63 → SqL K H a (ns.map V.int) → sp K [.ref a] H (fun v _ => v = .bl true) fun _ _ _ => False)
    (hr : Room k callerA := by exact ⟨rfl, by decide, by decide⟩) :
    PySem.W.WalkO q loose XP YP l.row.toRowW d [] (fun f vs => PySem.call f vs) :=
  L2.walk_ofK (n := 63) (k := k) (x := x) (CX := CX0) (sp := sp) hn (by decide) hdf hr hY F (fun K H a ns h1 _ h3 => hsp K H a ns h1 h3) fun _ _ _ _ z => z
end Vf
namespace Vf
open PySem PySem.Spec PyProof.Rows L2
theorem int_at {ns : List Int} {i : Nat} (hi : i < ns.length) : (ns.map V.int)[i]? = some (.int (ns.getD i 0)) := by
  rw [List.getElem?_map, List.getElem?_eq_getElem hi, List.getD_eq_getElem?_getD, List.getElem?_eq_getElem hi]
  rfl
theorem two_at {xs ys : List V} {i : Nat} (hi : i < min xs.length ys.length) : ∃ x y, xs[i]? = some x ∧ ys[i]? = some y :=
  ⟨_, _, List.getElem?_eq_getElem (Nat.lt_of_lt_of_le hi (Nat.min_le_left _ _)), List.getElem?_eq_getElem (Nat.lt_of_lt_of_le hi (Nat.min_le_right _ _))⟩
theorem walk_zipT {K : PySem.W.Frag} {a b : Addr} {xs ys : List V} {n : Nat} (hn : n = min xs.length ys.length) : Walk (RZ.ItzT K a b) n (fun H => SqT K H a xs ∧ SqT K H b ys) (YPair (fun i => xs[i]?) (fun i => ys[i]?)) :=
  ⟨fun i _ hi q => have ⟨x, y, hx, hy⟩ := two_at (hn ▸ hi); ⟨xs, ys, x, y, q.1, q.2, hx, hy⟩, fun _ q => ⟨xs, ys, q.1, q.2, by omega⟩,
    fun _ _ _ _ _ q ⟨T, x, z, h1, h2, h3, at1, at2⟩ => ⟨T, x, z, h1, h2, h3, at1 xs q.1, at2 ys q.2⟩⟩
end Vf
namespace Vf
open PySem L2
theorem mod_lt64 {x y : Int} (h : 0 < y ∧ y < 2 ^ 64) : (x % y).natAbs < 2 ^ 64 := by
  have h1 := Int.emod_nonneg x (show y ≠ 0 by omega)
  have h2 := Int.emod_lt_of_pos x h.1
  omega
theorem lp {j : Int} (h : (0 : Int) < j) : 0 < j := h
theorem b2i_lt {b : Bool} : (if b = true then (1 : Int) else 0).natAbs < 2 ^ 64 := by cases b <;> decide
theorem pow_pos_ : (0 : Int) < ((10 : Int) ^ (60 : Int).toNat) ^ (10 : Int).toNat := by decide +kernel
end Vf
namespace Vf
open PySem L2
theorem sz_ {n : Nat} (h : n ≤ 100000) : n ≤ sizeLine := Nat.le_trans h (by decide)
end Vf
/-! ### rules whose new object is told by a name, and rules over the written part K by name -/
namespace Vf
open PySem PySem.Spec PyProof.Rows L2
@[irreducible] def rNewT (xs : List V) (H : Hp) (Q : VK) : Prop := xs.length ≤ sizeLine ∧ ∀ p, H p = none → Q (.ref p) (upd H p (.tup xs))
@[irreducible] def rNewL (xs : List V) (H : Hp) (Q : VK) : Prop := xs.length ≤ sizeLine ∧ ∀ p, H p = none → Q (.ref p) (upd H p (.lst xs))
def tTupN (t : TA) : TE := fun σ H Q => t σ H fun xs H1 => rNewT xs H1 Q
def tLstN (t : TA) : TE := fun σ H Q => t σ H fun xs H1 => rNewL xs H1 Q
@[irreducible] def rRgL (a b : Int) (H : Hp) (Q : VK) : Prop := RgOk a b ∧ ∀ q, H q = none → Q (.ref q) (upd H q (.lst (rgV a b)))
def tLstRgN (te : L2.St → Hp → (Int → Int → Hp → Prop) → Prop) : TE := fun σ H Q => te σ H fun a b H1 => rRgL a b H1 Q
@[irreducible] def rTupOf (K : PySem.W.Frag) (xs : List V) (H : Hp) (Q : VK) : Prop := ∃ p ys, xs = [.ref p] ∧ ((SqL K H p ys ∧ ∀ l, H l = none → Q (.ref l) (upd H l (.tup ys))) ∨ (SqT K H p ys ∧ Q (.ref p) H))
@[irreducible] def rListOf (K : PySem.W.Frag) (xs : List V) (H : Hp) (Q : VK) : Prop := ∃ p ys, xs = [.ref p] ∧ (SqL K H p ys ∨ SqT K H p ys) ∧ ∀ l, H l = none → Q (.ref l) (upd H l (.lst ys))
@[irreducible] def rLen (K : PySem.W.Frag) (xs : List V) (H : Hp) (Q : VK) : Prop := ∃ p ys, xs = [.ref p] ∧ (SqL K H p ys ∨ SqT K H p ys) ∧ Q (.int ys.length) H
@[irreducible] def rSortI (K : PySem.W.Frag) : List V → Hp → VK → Prop := rSorted K
@[irreducible] def rSlI (K : PySem.W.Frag) : V → Option Int → Option Int → Hp → VK → Prop := rSlA K
@[irreducible] def rSlLI (K : PySem.W.Frag) : V → Option Int → Option Int → Hp → VK → Prop := rSlL K
@[irreducible] def rCatI (K : PySem.W.Frag) : R2 := rCatA K
@[irreducible] def rCatLI : R2 := rCat
@[irreducible] def rRepLI : R2 := rRep
@[irreducible] def rEqI (K : PySem.W.Frag) : R2 := rEqD K
@[irreducible] def rNeI (K : PySem.W.Frag) : R2 := rNeD K
section
variable {X : Cx} {K : PySem.W.Frag} {f : Value} {g : Value → Value → Sem Value}
theorem opK (r : PySem.W.Frag → R2) (h : OpR X g (r X.K)) (e : X.K = K := by rfl) : OpR X g (r K) := by rw [← e]; exact h
theorem callK (r : PySem.W.Frag → List V → Hp → VK → Prop) (h : CallR X f (r X.K)) (e : X.K = K := by rfl) : CallR X f (r K) := by rw [← e]; exact h
theorem ixK (r : PySem.W.Frag → R2) (h : IxR X (r X.K)) (e : X.K = K := by rfl) : IxR X (r K) := by rw [← e]; exact h
theorem slK (r : PySem.W.Frag → V → Option Int → Option Int → Hp → VK → Prop) (h : L2.SlR X (r X.K)) (e : X.K = K := by rfl) : L2.SlR X (r K) := by rw [← e]; exact h
theorem op_catI : OpR X (binaryOp .Add) (rCatI X.K) := by unfold rCatI; exact op_catA
theorem op_catLI : OpR X (binaryOp .Add) rCatLI := by unfold rCatLI; exact op_cat
theorem op_repLI : OpR X (binaryOp .Mult) rRepLI := by unfold rRepLI; exact op_rep
theorem op_eqI (hu : X.A.units + 64 < cLine) : OpR X (compareOp .Eq) (rEqI X.K) := by unfold rEqI; exact op_eqD hu
theorem op_neI (hu : X.A.units + 64 < cLine) : OpR X (compareOp .NotEq) (rNeI X.K) := by unfold rNeI; exact op_neD hu
theorem sl_tupI : L2.SlR X (rSlI X.K) := by unfold rSlI; exact sl_tupA
theorem sl_lstI : L2.SlR X (rSlLI X.K) := by unfold rSlLI; exact sl_list
theorem call_lenI : CallR X (.builtin "len") (rLen X.K) := by unfold rLen; exact call_len_seq
theorem call_tupI : CallR X (.type "tuple") (rTupOf X.K) := by unfold rTupOf; exact call_tuple_of
theorem call_lstI : CallR X (.type "list") (rListOf X.K) := by unfold rListOf; exact call_list_of
theorem call_srtI : CallR X (.builtin "sorted") (rSortI X.K) := by unfold rSortI; exact cr_sorted
variable {es : List Expr} {x1 : Nat} {pos p : Pos} {t : TA} {e : Expr} {te : L2.St → Hp → (Int → Int → Hp → Prop) → Prop}
theorem pe_tupN (h : PA X es t) : PE X (.Tuple es x1 pos) (tTupN t) := by
  unfold tTupN rNewT
  exact pe_tup h
theorem pe_lstN (h : PA X es t) : PE X (.List es pos) (tLstN t) := by
  unfold tLstN rNewL
  exact pe_lst h
theorem pe_listRgN (hc : X.calm = true) (hg : Gl X "list") (hm : X.mg "list" = none) (he : PRg X e te) (na : starEach [e] X.env = (false, eval e X.env) :: starEach [] X.env := by rfl) : PE X (.Call (.Name "list" p) [e] [] pos) (tLstRgN te) := by
  unfold tLstRgN rRgL
  exact pe_listRg hc hg hm he na
end
section
variable {H : Hp} {K : PySem.W.Frag} {us : List V} {Q : VK} {p : Addr} {ys : List V} {ns : List Int} {a b : Int} {lo hi : Option Int}
theorem newT (hl : us.length ≤ sizeLine) (q : ∀ p H1, H p = none → Kp N0 H H1 → H1 p = some (.tup us) → Q (.ref p) H1) : rNewT us H Q := by
  unfold rNewT
  exact ⟨hl, fun p hp => q p _ hp (.new hp) upd_same⟩
theorem newL (hl : us.length ≤ sizeLine) (q : ∀ p H1, H p = none → Kp N0 H H1 → H1 p = some (.lst us) → Q (.ref p) H1) : rNewL us H Q := by
  unfold rNewL
  exact ⟨hl, fun p hp => q p _ hp (.new hp) upd_same⟩
theorem rgL (hr : RgOk a b) (q : ∀ p H1, H p = none → Kp N0 H H1 → H1 p = some (.lst (rgV a b)) → Q (.ref p) H1) : rRgL a b H Q := by
  unfold rRgL
  exact ⟨hr, fun p hp => q p _ hp (.new hp) upd_same⟩
/-- tuple(xs) of a list; of a tuple -/
theorem tupL (e : us = [.ref p]) (h : SqL K H p ys) (q : ∀ p H1, H p = none → Kp N0 H H1 → H1 p = some (.tup ys) → Q (.ref p) H1) : rTupOf K us H Q := by
  unfold rTupOf
  exact ⟨p, ys, e, .inl ⟨h, fun l hl => q l _ hl (.new hl) upd_same⟩⟩
theorem tupT (e : us = [.ref p]) (h : H p = some (.tup ys)) (q : Q (.ref p) H) : rTupOf K us H Q := by
  unfold rTupOf
  exact ⟨p, ys, e, .inr ⟨SqT.of h, q⟩⟩
theorem listL (e : us = [.ref p]) (h : SqL K H p ys ∨ SqT K H p ys) (q : ∀ l H1, H l = none → Kp N0 H H1 → H1 l = some (.lst ys) → Q (.ref l) H1) : rListOf K us H Q := by
  unfold rListOf
  exact ⟨p, ys, e, h, fun l hl => q l _ hl (.new hl) upd_same⟩
theorem sortL (e : us = [.ref p]) (h : SqL K H p (ns.map V.int)) (hl : ns.length < 64) (q : ∀ (ns' : List Int) l H1, ns'.Perm ns → ns'.Pairwise (· ≤ ·) → H l = none → Kp N0 H H1 → H1 l = some (.lst (ns'.map V.int)) → Q (.ref l) H1) : rSortI K us H Q := by
  unfold rSortI
  exact ⟨p, ns, e, h, hl, fun ns' l h1 h2 h3 => q ns' l _ h1 h2 h3 (.new h3) upd_same⟩
theorem lenT (e : us = [.ref p]) (h : H p = some (.tup ys)) (q : Q (.int ys.length) H) : rLen K us H Q := by
  unfold rLen
  exact ⟨p, ys, e, .inr (SqT.of h), q⟩
theorem lenL (e : us = [.ref p]) (h : SqL K H p ys) (q : Q (.int ys.length) H) : rLen K us H Q := by
  unfold rLen
  exact ⟨p, ys, e, .inl h, q⟩
variable {xs zs : List V} {x y : Addr} {k : Int}
theorem catL (h : H x = some (.lst xs)) (h2 : H y = some (.lst zs)) (hz : xs.length + zs.length ≤ sizeLine) (q : ∀ p H1, H p = none → Kp N0 H H1 → H1 p = some (.lst (xs ++ zs)) → Q (.ref p) H1) : rCatLI (.ref x) (.ref y) H Q := by
  unfold rCatLI
  exact ⟨x, y, xs, zs, rfl, rfl, h, h2, hz, fun p hp => q p _ hp (.new hp) upd_same⟩
theorem catT (h : H x = some (.tup xs)) (h2 : H y = some (.tup zs)) (hz : xs.length + zs.length ≤ sizeLine) (q : ∀ p H1, Kp N0 H H1 → H1 p = some (.tup (xs ++ zs)) → Q (.ref p) H1) : rCatI K (.ref x) (.ref y) H Q := by
  unfold rCatI
  exact cat_do h h2 hz q
theorem slT (h : H x = some (.tup xs)) (q : ∀ p H1, Kp N0 H H1 → H1 p = some (.tup (cutV xs lo hi)) → Q (.ref p) H1) : rSlI K (.ref x) lo hi H Q := by
  unfold rSlI
  exact sl_do h q
theorem slL (h : SqL K H x xs) (q : ∀ p H1, H p = none → Kp N0 H H1 → H1 p = some (.lst (cutV xs lo hi)) → Q (.ref p) H1) : rSlLI K (.ref x) lo hi H Q := by
  unfold rSlLI
  exact ⟨x, xs, rfl, h, fun p hp => q p _ hp (.new hp) upd_same⟩
end
theorem at_rowI {ns : List Int} {j : Int} (h0 : 0 ≤ j) (h : j.toNat < ns.length) : atI (ns.map V.int) j = some (.int (ns.getD j.toNat 0)) := by
  have := at_row h
  rw [Int.toNat_of_nonneg h0] at this
  exact this
end Vf

namespace Vf
open PySem PySem.Spec PyProof.Rows L2
theorem kp_sqL {H H1 : Hp} {K : PySem.W.Frag} {a : Addr} {xs : List V} (k : Kp N0 H H1) (h : SqL K H a xs) : SqL K H1 a xs := k.same.seq h
/-- what a fresh dice did is not seen -/
theorem kp_fresh {H H1 H2 : Hp} {p : Addr} (hp : H p = none) (k : Kp N0 H H1) (d : DR p H1 H2) : Kp N0 H H2 :=
  ⟨fun b o _ h => d.kp.keep _ _ (ne_of_none h hp) (k.keep _ _ (fun z => z) h), fun b xs h => d.kp.tup _ _ (k.tup _ _ h), fun b o u h => d.kp.frz _ _ _ (k.frz _ _ _ h), fun b h => k.live _ (d.kp.live _ h)⟩
theorem law_end {sp : PySem.W.Frag → Sp} (h : ∀ (K : PySem.W.Frag) (a : Addr) (ns : List Int) (H : Hp) (Q : VK) (E : XK), SqL K H a (ns.map V.int) → (∀ H', Q (.bl true) H') → sp K [.ref a] H Q E) (K : PySem.W.Frag) (H : Hp) (a : Addr) (ns : List Int) (_ : ns.length ≤ 63) (h2 : SqL K H a (ns.map V.int)) : sp K [.ref a] H (fun v _ => v = .bl true) fun _ _ _ => False :=
  h K a ns H _ _ h2 fun _ => rfl
end Vf

namespace Vf
open PySem L2
theorem iteNe {x y : V} {A B : Prop} (h : x = y) (b : B) : if (!decide (x = y)) = true then A else B := by
  rw [decide_eq_true h]
  exact iteF b
theorem iteEq {x y : V} {A B : Prop} (h : x = y) (a : A) : if decide (x = y) = true then A else B := by
  rw [decide_eq_true h]
  exact iteT a
theorem finEq {x y : V} {Q : VK} {H : Hp} (h : x = y) (q : Q (.bl true) H) : Q (.bl (decide (x = y))) H := by
  rw [decide_eq_true h]
  exact q
end Vf

theorem Vf.let_ {α β : Prop} (a : α) (h : α → β) : β := h a
/-! ### zip of a list and a tuple -/
namespace Vf
open PySem PySem.Spec PyProof.Rows L2
def ItzLT (K : PySem.W.Frag) (a b : Addr) : It :=
  ⟨fun i H => ∃ (xs ys : List V) (x y : V), SqL K H a xs ∧ SqT K H b ys ∧ xs[i]? = some x ∧ ys[i]? = some y,
    fun i H v H' => ∃ T x y, v = .ref T ∧ H T = none ∧ H' = upd H T (.tup [x, y]) ∧ (∀ xs, SqL K H a xs → xs[i]? = some x) ∧ ∀ ys, SqT K H b ys → ys[i]? = some y,
    fun i H => ∃ xs ys : List V, SqL K H a xs ∧ SqT K H b ys ∧ i = min xs.length ys.length⟩
def lt_tn (z TI TO i1 i2 a b : Addr) (i : Nat) (h : Heap) : Prop := IsZip h z TI TO .none ∧ IsTupOf2 h TI (.ref i1) (.ref i2) ∧ (∃ a1 a2, IsTupOf2 h TO a1 a2) ∧ h.IsListIter i1 a i ∧ h.IsTupleIter i2 b i
theorem lt_goes {prog : Program} {w : World} {A : Around} {elts : List Expr} {kk : Nat} {tpos : Pos} (hh : A.handled = none) {N a b : Addr} {xs ys : Array Value} (ha : a < N) (hb : b < N) :
    GoesN prog w A (.Tuple elts kk tpos) (N + 4) ((N + 4) :: (N + 2) :: (N + 3) :: ([N, a] ++ [N + 1, b])) [N + 4, N + 3, N, N + 1] (min xs.size ys.size)
      (fun i h₀ v h => ∃ T x y, v = .ref T ∧ h₀.objs.size ≤ T ∧ xs[i]? = some x ∧ ys[i]? = some y ∧ h.IsTuple T #[x, y])
      (fun i h => IsZip h (N + 4) (N + 2) (N + 3) .none ∧ IsTupOf2 h (N + 2) (.ref N) (.ref (N + 1)) ∧ (∃ a1 a2, IsTupOf2 h (N + 3) a1 a2) ∧ (h.IsListIter N a i ∧ h.IsList a xs) ∧ (h.IsTupleIter (N + 1) b i ∧ h.IsTuple b ys)) :=
  GoesN.zip2 (zip_sep2 (fp1 := [a]) (fp2 := [b]) (by simpa using ha) (by simpa using hb)) (Draws.list (A := A.in1) hh N a (Nat.ne_of_lt ha) xs) (Draws.tuple (A := A.in1) hh (N + 1) b (Nat.ne_of_lt (Nat.lt_succ_of_lt hb)) ys)
theorem five_of {c N : Addr} (m : c ∈ [N + 4, N + 2, N + 3, N, N + 1]) : c = N + 4 ∨ c = N + 2 ∨ c = N + 3 ∨ c = N ∨ c = N + 1 := by simpa using m
theorem five_of_four {c N : Addr} (m : c ∈ [N + 4, N + 3, N, N + 1]) : c ∈ [N + 4, N + 2, N + 3, N, N + 1] := by
  have e : c = N + 4 ∨ c = N + 3 ∨ c = N ∨ c = N + 1 := by simpa using m
  rcases e with e | e | e | e <;> simp [e]
theorem both_cells {X : Cx} {pins : List (Addr × Obj)} {σ : L2.St} {H : Hp} {s : Shared} {a b : Addr} {xs ys : List V} (I : Inv X pins σ H s) (hl : SqL X.K H a xs) (ht : SqT X.K H b ys) :
    ∃ us vs : List Value, Vals xs us ∧ Vals ys vs ∧ s.heap.IsList a us.toArray ∧ s.heap.IsTuple b vs.toArray ∧ a < s.heap.objs.size ∧ b < s.heap.objs.size :=
  have ⟨us, ru, pu, _⟩ := I.list hl
  have ⟨vs, rv, pv, _⟩ := I.tuple ht
  ⟨us, vs, ru, rv, pu.isList, pv, pu.lt, PyProof.Rows.IsTup.lt pv⟩
theorem turn_zipLT {P : Program} {w : World} {K : PySem.W.Frag} {elts : List Expr} {kk : Nat} {tpos : Pos} {a b N : Addr} (ha : a < N) (hb : b < N) :
    Turn P w K (.Tuple elts kk tpos) (ItzLT K a b) [N + 4, N + 2, N + 3, N, N + 1] (N + 4) (lt_tn (N + 4) (N + 2) (N + 3) N (N + 1) a b) where
  mem := List.mem_cons_self
  obj := fun _ _ ⟨cz, cI, ⟨_, _, cO⟩, ⟨l, cl, _, dl⟩, t, ct, _, dt⟩ c m => by
    rcases five_of m with rfl | rfl | rfl | rfl | rfl
    · exact ⟨_, cz, nofun⟩
    · exact ⟨_, cI, nofun⟩
    · exact ⟨_, cO, nofun⟩
    · exact ⟨l, cl, fun v q => nomatch dl.symm.trans q⟩
    · exact ⟨t, ct, fun v q => nomatch dt.symm.trans q⟩
  keep := fun _ _ _ ⟨cz, cI, ⟨_, _, cO⟩, cl, ct⟩ k =>
    ⟨k _ (by simp) _ cz, k _ (by simp) _ cI, ⟨_, _, k _ (by simp) _ cO⟩, cl.at (k _ (by simp)), ct.at (k _ (by simp))⟩
  item := fun X eP ew eK calm i pins s σ H E I free ⟨cz, cI, cO, cl, ct⟩ ⟨xs, ys, x, y, hl, ht, hx, hy⟩ => by
    subst eP ew eK
    obtain ⟨us, vs, ru, rv, atL, atT, _⟩ := both_cells I hl ht
    obtain ⟨u, hu, rx⟩ := ru.get hx
    obtain ⟨v, hv, ry⟩ := rv.get hy
    have inside : i < min us.toArray.size vs.toArray.size := Nat.lt_min.mpr ⟨by simpa using (List.getElem?_eq_some_iff.mp hu).1, by simpa using (List.getElem?_eq_some_iff.mp hv).1⟩
    refine (lt_goes (prog := X.prog) (w := X.w) (elts := elts) (kk := kk) (tpos := tpos) (I.ok.hd calm) ha hb).goes i s _ E inside ⟨cz, cI, cO, ⟨cl, atL⟩, ct, atT⟩ ?_
    rintro _ h' tk ⟨T, u', v', rfl, above, p, q, pair⟩ after same _
    have eu : u' = u := Option.some.inj (p.symm.trans (by simpa using hu))
    have ev : v' = v := Option.some.inj (q.symm.trans (by simpa using hv))
    subst eu ev
    have ok : ObjOk X.prog X.w (upd H T (.tup [x, y])) h' T (.tup [x, y]) := ⟨(by decide : 2 ≤ sizeLine), [u', v'], .cons rx (.cons ry .nil), pair⟩
    refine ⟨.ref T, _, I.turnedNew (t' := tk) same (fun c m => free c (five_of_four m)) above ok, rfl, ⟨T, x, y, rfl, I.hok.fresh above, rfl, ?_, ?_⟩, ⟨after.1, after.2.1, after.2.2.1, after.2.2.2.1.1, after.2.2.2.2.1⟩, fun c m => ?_⟩
    · intro zs h
      rwa [I.list_inj h hl]
    · intro zs h
      rwa [I.tuple_inj h ht]
    · have old : c < s.heap.objs.size := by
        rcases five_of m with rfl | rfl | rfl | rfl | rfl
        · exact Heap.lt_size cz
        · exact Heap.lt_size cI
        · exact Heap.lt_size cO.choose_spec.choose_spec
        · exact Heap.lt_size cl.choose_spec.1
        · exact Heap.lt_size ct.choose_spec.1
      rw [upd_ne (Nat.ne_of_lt (Nat.lt_of_lt_of_le old above))]
      exact (free c m).1
  done := fun X eP ew eK calm i pins s σ H E I free ⟨cz, cI, cO, cl, ct⟩ ⟨xs, ys, hl, ht, last⟩ => by
    subst eP ew eK
    obtain ⟨us, vs, ru, rv, atL, atT, _⟩ := both_cells I hl ht
    have last : i = min us.toArray.size vs.toArray.size := by rw [last, ru.length, rv.length, List.size_toArray, List.size_toArray]
    subst last
    exact (lt_goes (prog := X.prog) (w := X.w) (elts := elts) (kk := kk) (tpos := tpos) (I.ok.hd calm) ha hb).stops s _ E ⟨cz, cI, cO, ⟨cl, atL⟩, ct, atT⟩ fun h' tk same _ =>
      I.turnedL (t' := tk) same fun c m => free c (five_of_four m)
  self := fun _ _ _ _ _ st h => wpAny_pyIter_zip st.1 h
def iZipLT (K : PySem.W.Frag) (ta : TA) : TI := fun σ H R => ta σ H fun vs H1 => ∃ a b xs ys, vs = [.ref a, .ref b] ∧ SqL K H1 a xs ∧ SqT K H1 b ys ∧ R (ItzLT K a b) H1
theorem pi_zipLT {X : Cx} {e e2 : Expr} {ta : TA} {p pos tpos : Pos} {elts : List Expr} {kk : Nat} (hg : Gl X "zip") (hm : X.mg "zip" = none) (ha : PA X [e, e2] ta)
    (plain : starEach [e, e2] X.env = (false, eval e X.env) :: starEach [e2] X.env ∧ (backTo pos (starEach [e2] X.env)).any (·.1) = false := by exact ⟨rfl, rfl⟩) :
    PI X (.Tuple elts kk tpos) (.Call (.Name "zip" p) [e, e2] [] pos) (iZipLT X.K ta) := by
  refine .mk fun pins s σ H R I h => ?_
  have given := ha.run pos pins s σ H _ I h
  refine Call_ (ld_blt I hg hm PyProof.Rows.boot_zip (PyProof.Rows.callWith_type1 (thn given ?_) plain.1 plain.2))
  rintro _ s1 ⟨_, H1, I1, rel, a, b, xs, ys, rfl, hl, ht, q⟩
  obtain ⟨u, v, rfl, eu, ev⟩ := vals2 rel
  obtain rfl : u = Value.ref a := eu
  obtain rfl : v = Value.ref b := ev
  obtain ⟨us, vs, _, _, atL, atT, lowL, lowT⟩ := both_cells I1 hl ht
  refine zip_begins2 (begins_list a us.toArray) (begins_tuple b vs.toArray) atL atT fun h' cz cI cO cl ct _ same => wpAny_pyIter_zip cz ?_
  refine ⟨_, _, _, _, H1, rfl, I1.kept (t' := s1.toks) same, turn_zipLT lowL lowT, ⟨cz, cI, ⟨_, _, cO⟩, ⟨_, cl, rfl, rfl⟩, _, ct, rfl, rfl⟩, fun c m => ?_, q⟩
  have above : s1.heap.objs.size ≤ c := by rcases five_of m with rfl | rfl | rfl | rfl | rfl <;> first | exact Nat.le_refl _ | exact Nat.le_add_right _ _
  exact I1.fpOk above (I1.hok.fresh above)
theorem walk_zipLT {K : PySem.W.Frag} {a b : Addr} {xs ys : List V} {n : Nat} (hn : n = min xs.length ys.length) : Walk (ItzLT K a b) n (fun H => SqL K H a xs ∧ SqT K H b ys) (YPair (fun i => xs[i]?) (fun i => ys[i]?)) :=
  ⟨fun i _ hi q => have ⟨x, y, hx, hy⟩ := two_at (hn ▸ hi); ⟨xs, ys, x, y, q.1, q.2, hx, hy⟩, fun _ q => ⟨xs, ys, q.1, q.2, hn⟩,
    fun _ _ _ _ _ q ⟨T, x, z, h1, h2, h3, at1, at2⟩ => ⟨T, x, z, h1, h2, h3, at1 xs q.1, at2 ys q.2⟩⟩
end Vf
/-! ### tuple * int, from 0 on -/
namespace Vf
open PySem PySem.Spec PyProof.Rows L2
open PySem.AutoSeq1 (wpAny_loadPart')
theorem tmul_one (l : Addr) (items : Array Value) (n : Nat) (dd : Option Addr) (sl : Array (Option Value)) (u : Tok) :
    Meets (Builtin.«tuple.__mul__» ⟨[.ref l, .int 1 u], []⟩) (fun _ R s => s.heap.get? l = some { cls := .type "tuple", dict := dd, data := .seq items n, slots := sl } ∧ R (.ok (.ret (Value.ref l))) s) :=
  .of_wp fun prog w A R s h => by
    obtain ⟨hp, g, d, tk, os⟩ := s
    obtain ⟨hl, h⟩ := h
    have f1 := AutoSeq1.idx_int
    wp_walk using wpAny_loadPart' hl
    exact ⟨_, rfl, h⟩
theorem tmul_zero (l : Addr) (items : Array Value) (n : Nat) (dd : Option Addr) (sl : Array (Option Value)) (u : Tok) (hi : items.isEmpty = false) :
    Meets (Builtin.«tuple.__mul__» ⟨[.ref l, .int 0 u], []⟩) (fun _ R s => s.heap.get? l = some { cls := .type "tuple", dict := dd, data := .seq items n, slots := sl } ∧
      R (.ok (.ret (Value.ref s.heap.objs.size))) { s with heap := s.heap.push { cls := Value.type "tuple", data := Data.seq #[] }, toks := s.toks }) :=
  .of_wp fun prog w A R s h => by
    obtain ⟨hp, g, d, tk, os⟩ := s
    obtain ⟨hl, h⟩ := h
    have f1 := AutoSeq1.idx_int
    wp_walk using wpAny_loadPart' hl
    exact ⟨_, rfl, h⟩
def rRepA0 (K : PySem.W.Frag) : R2 := fun x y H Q => ∃ l k xs, x = .ref l ∧ y = .int k ∧ SqT K H l xs ∧ xs ≠ [] ∧ 0 ≤ k ∧ k ≤ 1000 ∧ xs.length ≤ 1000 ∧ (k = 1 → Q (.ref l) H) ∧ (k ≠ 1 → ∀ p, H p = none → Q (.ref p) (upd H p (.tup (List.replicate k.toNat xs).flatten)))
theorem op_repA0 {X : Cx} : OpR X (binaryOp .Mult) (rRepA0 X.K) := by
  intro pins s σ H x y v u Q I rx ry h
  obtain ⟨l, k, xs, rfl, rfl, hT, hne, h1, h2, hz, q1, q2⟩ := h
  by_cases hk : 2 ≤ k
  · exact op_repT pins s σ H _ _ v u Q I rx ry ⟨l, k, xs, rfl, rfl, hT, hne, hk, h2, hz, q2 (by omega)⟩
  · cases rx
    obtain ⟨t, rfl⟩ := ry
    obtain ⟨its, r, ⟨⟨cls, dd, data, sl⟩, ho, hc, n, hd⟩, hs⟩ := I.tuple hT
    simp only at hc hd
    subst hc hd
    rcases (show k = 0 ∨ k = 1 by omega) with rfl | rfl
    · have hi : its.toArray.isEmpty = false := by
        cases its with
        | nil =>
          cases r
          exact absurd rfl hne
        | cons _ _ => rfl
      refine wpAny_binaryOp_repeat_ref (T := "tuple") (U := "int") (by decide) ⟨_, ho, rfl⟩ (fun s' => typeIs_int s' 0 t) noFill_tuple_mul F.fills_int_mul F.slot_int_rmul repeat_tuple F.slot_int_index.lookup
        (call_meets F.slot_int_rmul (typeIs_int s 0 t) F.entry_int_rmul (F.args_int_rmul_2 _ _) (int_rmul_tuple 0 t l its.toArray n dd sl)
          ⟨ho, rfl, ⟨_, ho, rfl⟩, call_meets F.slot_tuple_mul ⟨_, ho, rfl⟩ F.entry_tuple_mul (F.args_tuple_mul_2 _ _) (tmul_zero l its.toArray n dd sl t hi) ⟨ho, ?_⟩⟩)
      exact ⟨.ref s.heap.objs.size, _, I.laid (t' := s.toks) (o := .tup []) (fun b ob q => Heap.get?_push_of_some _ q) (Nat.le_refl _) ⟨Nat.zero_le _, [], .nil, IsTup.new _ _⟩, rfl, q2 (by decide) _ (I.hok.fresh (Nat.le_refl _))⟩
    · refine wpAny_binaryOp_repeat_ref (T := "tuple") (U := "int") (by decide) ⟨_, ho, rfl⟩ (fun s' => typeIs_int s' 1 t) noFill_tuple_mul F.fills_int_mul F.slot_int_rmul repeat_tuple F.slot_int_index.lookup
        (call_meets F.slot_int_rmul (typeIs_int s 1 t) F.entry_int_rmul (F.args_int_rmul_2 _ _) (int_rmul_tuple 1 t l its.toArray n dd sl)
          ⟨ho, rfl, ⟨_, ho, rfl⟩, call_meets F.slot_tuple_mul ⟨_, ho, rfl⟩ F.entry_tuple_mul (F.args_tuple_mul_2 _ _) (tmul_one l its.toArray n dd sl t) ⟨ho, ?_⟩⟩)
      exact ⟨.ref l, _, I, rfl, q1 rfl⟩
@[irreducible] def rRepA (K : PySem.W.Frag) : R2 := rRepA0 K
theorem op_repA {X : Cx} : OpR X (binaryOp .Mult) (rRepA X.K) := by unfold rRepA; exact op_repA0
theorem rep_do {K : PySem.W.Frag} {H : Hp} {l : Addr} {k : Int} {xs : List V} {Q : VK} (h : H l = some (.tup xs)) (hne : xs ≠ []) (h1 : 0 ≤ k) (h2 : k ≤ 1000) (hz : xs.length ≤ 1000)
    (q : ∀ p H1, Kp N0 H H1 → H1 p = some (.tup (List.replicate k.toNat xs).flatten) → Q (.ref p) H1) : rRepA K (.ref l) (.int k) H Q := by
  unfold rRepA
  refine ⟨l, k, xs, rfl, rfl, SqT.of h, hne, h1, h2, hz, fun e => q l H (.refl _ _) ?_, fun _ p hp => q p _ (.new hp) upd_same⟩
  subst e
  rw [h]
  simp
theorem rep_one {i : Int} (k : Nat) : (List.replicate k [V.int i]).flatten = (List.replicate k i).map V.int := by
  induction k with
  | zero => rfl
  | succ k ih => rw [List.replicate_succ, List.flatten_cons, ih, List.replicate_succ]; rfl
end Vf
/-! ### t[::-1] of a tuple -/
namespace HT
open PySem PySem.Spec PyProof.Rows
section
variable {prog : Program} {w : World} {A : Around} {E : Value → Shared → Prop} {s : Shared}
theorem places_rev : ∀ n : Nat, Builtin.Slice.slicePlaces ((n : Int) - 1) (-1) (-1) = n
  | 0 => by decide
  | n + 1 => by
    unfold Builtin.Slice.slicePlaces
    rw [if_neg (show ¬ (-1 : Int) > 0 by decide), if_pos (show ((n + 1 : Nat) : Int) - 1 > -1 by omega)]
    simp
theorem sliceApplied_rev {sl : Addr} {vl vu vs : Value} {n : Nat} {Q : Int × Int × Nat → Shared → Prop} (hs : s.heap.IsSliceOf sl vl vu vs) (pl : IsPart vl none) (pu : IsPart vu none) (ps : IsPart vs (some (-1)))
    (h : Q ((n : Int) - 1, -1, n) s) : wpAny (model prog w) A (Builtin.Slice.sliceApplied (.ref sl) (pure (n : Int))) Q E s := by
  have ⟨ob, got, _, dat⟩ := hs
  have answer : wpAny (model prog w) A (do
      let (lo, hi) := Builtin.Slice.sliceAdjust none none (-1) (n : Int)
      pure (lo, (-1 : Int), Builtin.Slice.slicePlaces lo hi (-1))) Q E s := by
    rw [show Builtin.Slice.sliceAdjust none none (-1) (n : Int) = ((n : Int) - 1, -1) by first | rfl | simp [Builtin.Slice.sliceAdjust]]
    exact wpAny_pure (by rw [places_rev]; exact h)
  have fields : wpAny (model prog w) A (Builtin.Slice.sliceFields (.ref sl)) (fun r s' => r = (vl, vu, vs) ∧ s' = s) E s := by
    unfold Builtin.Slice.sliceFields
    exact wpAny_bind (wpAny_field got dat (x := vl) rfl (wpAny_bind (wpAny_field got dat (x := vu) rfl (wpAny_bind (wpAny_field got dat (x := vs) rfl (wpAny_pure ⟨rfl, rfl⟩))))))
  unfold Builtin.Slice.sliceApplied
  refine wpAny_bind (wpAny_mono fields (fun r s' e => ?_) fun _ _ x => x)
  obtain ⟨rfl, rfl⟩ := e
  exact wpAny_bind (slicePart_ ps (by
    rw [if_neg (by decide)]
    exact wpAny_bind (slicePart_ pl (wpAny_bind (slicePart_ pu (wpAny_bind (wpAny_pure answer)))))))
theorem pick_rev (xs : Array Value) : ((List.range xs.size).filterMap fun (m : Nat) => xs[((xs.size : Int) - 1 + (m : Int) * (-1)).toNat]?).toArray = xs.toList.reverse.toArray := by
  have e : (fun (m : Nat) => xs[((xs.size : Int) - 1 + (m : Int) * (-1)).toNat]?) = fun m => xs[xs.size - 1 - m]? := by
    funext m
    have : ((xs.size : Int) - 1 + (m : Int) * (-1)).toNat = xs.size - 1 - m := by omega
    rw [this]
  rw [e]
  have h := PySem.W.krv_all xs
  rw [← h, ← List.filterMap_reverse, ← PySem.W.krv_range, List.filterMap_map]
  rfl
theorem getItem_tuple_rev {t sl : Addr} {items : Array Value} {vl vu vs : Value} {Q : Value → Shared → Prop} (ht : IsTup s.heap t items) (hs : s.heap.IsSliceOf sl vl vu vs) (pl : IsPart vl none) (pu : IsPart vu none) (ps : IsPart vs (some (-1)))
    (h : Q (.ref s.heap.objs.size) { s with heap := s.heap.push { cls := .type "tuple", data := .seq items.toList.reverse.toArray } })
    (hsz : items.size ≤ sizeLine) : wpAny (model prog w) A (getItem (.ref t) (.ref sl)) Q E s := by
  have ⟨ob, got, cls, _⟩ := id hs
  have fits : sizeOk (.seq items.toList.reverse.toArray) := by simpa [sizeOk] using hsz
  have notAll : ¬ ((((items.size : Int) - 1) == 0 && (-1 : Int) == 1 && items.size == items.size) = true) := by simp
  have body : wpAny (model prog w) A.in1 (Builtin.«tuple.__getitem__» ⟨[.ref t, .ref sl], []⟩) (fun fin r => ∃ v, fin = .done (.ret v) ∧ Q v r) E s := by
    have isS : s.TypeIs (.ref sl) "slice" := ⟨ob, got, cls⟩
    refine wpAny_bind (wpAny_of_eq (a := ((Value.ref t, [Value.ref sl]) : Value × List Value)) rfl ?_)
    show wpAny (model prog w) A.in1 (Builtin.Tuple.tupleItemsOf (.ref t) >>= _) _ _ s
    refine wpAny_bind (tupleItemsOf_ ht (wpAny_bind (wpAny_typeOf isS ?_)))
    rw [if_pos (by decide)]
    refine wpAny_bind (sliceApplied_rev hs pl pu ps ?_)
    dsimp only
    rw [if_neg notAll, pick_rev]
    exact wpAny_bind (m := newObj _ _) (wpAny_newObj_type (wpAny_pure ⟨_, rfl, h⟩) fits)
  have asked := wpAny_call_entry (A := A) PyProof.Rows.slot_tuple_getitem ht.typeIs entry_tuple_getitem body (args_tuple_getitem _ _)
  unfold getItem
  exact wpAny_holding (wpAny_bind (wpAny_sequenceKey ht.typeIs (by decide) (wpAny_bind (wpAny_callSpecial?_slot (name := Str.ofString "__getitem__") ht.typeIs PyProof.Rows.slot_tuple_getitem (wpAny_mono asked (fun _ _ q => wpAny_pure q) fun _ _ e => e)))))
end
end HT
namespace Vf
open PySem PySem.Spec PyProof.Rows L2
@[irreducible] def rRevT (K : PySem.W.Frag) (x : V) (H : Hp) (Q : VK) : Prop := ∃ a xs, x = .ref a ∧ SqT K H a xs ∧ ∀ p, H p = none → Q (.ref p) (upd H p (.tup xs.reverse))
def tRevT (K : PySem.W.Frag) (te : TE) : TE := fun σ H Q => te σ H fun x H1 => rRevT K x H1 Q
theorem pe_revT {X : Cx} {e : Expr} {te : TE} {k : Nat} {p1 p2 p3 pos : Pos} (he : PE X e te) : PE X (.Subscript e (.Slice none none (some (.UnaryOp .USub (.Constant (.int 1) k p1) p2)) p3) pos) (tRevT X.K te) := by
  have back : PO X (some (.UnaryOp .USub (.Constant (.int 1) k p1) p2)) (tPart (tUn (rU fun i => .int (-i)) (tC (.int 1)))) := po_some (pe_un un_neg pe_int)
  have only {σ : L2.St} {H : Hp} : tPart (tUn (rU fun i => .int (-i)) (tC (.int 1))) σ H (fun o G => o = some (-1) ∧ G = H) := ⟨1, rfl, -1, rfl, rfl, rfl⟩
  unfold tRevT rRevT
  refine .mk fun pins s σ H Q I h => Subscript_ (thn (he.run pins s σ H _ I h) ?_)
  rintro _ s1 ⟨_, H1, I1, rel, a, xs, rfl, isT, q⟩
  cases rel
  refine wpAny_Slice (thn (po_none.run pins s1 σ H1 (fun o G => o = none ∧ G = H1) I1 ⟨rfl, rfl⟩) ?_)
  rintro lo s2 ⟨_, _, I2, noLo, rfl, rfl⟩
  refine thn (po_none.run pins s2 σ _ (fun o G => o = none ∧ G = _) I2 ⟨rfl, rfl⟩) ?_
  rintro hi s3 ⟨_, _, I3, noHi, rfl, rfl⟩
  refine thn (back.run pins s3 σ _ _ I3 only) ?_
  rintro by_ s4 ⟨_, _, I4, one, rfl, rfl⟩
  have I5 := I4.kept (h' := s4.heap.push { cls := .type "slice", data := .fields #[lo, hi, by_] }) (t' := s4.toks) fun b ob q => Heap.get?_push_of_some _ q
  have ⟨vs, rv, inT, few⟩ := I5.tuple isT
  have size : vs.toArray.size ≤ sizeLine := by rw [List.size_toArray, ← rv.length]; exact few
  refine tail_any (ops := [.ref a, .ref s4.heap.objs.size]) inT.typeIs (PyProof.Rows.slot_tuple_getitem.lookup) (HT.getItem_tuple_rev inT (Heap.IsSliceOf.new _ lo hi by_) noLo noHi one ?_ size) (by with_unfolding_all rfl)
  have laid : xs.reverse.length ≤ sizeLine := by simpa using few
  exact ⟨.ref _, _, I5.laid (t' := s4.toks) (o := .tup xs.reverse) (fun b ob q => Heap.get?_push_of_some _ q) (Nat.le_refl _) ⟨laid, _, rv.reverse, IsTup.new _ _⟩, rfl, q _ (I5.hok.fresh (Nat.le_refl _))⟩
theorem revT {K : PySem.W.Frag} {H : Hp} {a : Addr} {xs : List V} {Q : VK} (h : H a = some (.tup xs)) (q : ∀ p H1, H p = none → Kp N0 H H1 → H1 p = some (.tup xs.reverse) → Q (.ref p) H1) : rRevT K (.ref a) H Q := by
  unfold rRevT
  exact ⟨a, xs, rfl, SqT.of h, fun p hp => q p _ hp (.new hp) upd_same⟩
end Vf
/-! ### a walk over a list or a tuple; enumerate of a tuple -/
namespace Vf
open PySem PySem.Spec PyProof.Rows L2
def iSeq (K : PySem.W.Frag) (tl : TE) : TI := fun σ H R => tl σ H fun x H1 => ∃ a, x = .ref a ∧ (((∃ xs, SqL K H1 a xs) ∧ R (Itl K a) H1) ∨ ((∃ xs, SqT K H1 a xs) ∧ R (Itt K a) H1))
theorem pi_seq {X : Cx} {tg l : Expr} {tl : TE} (hl : PE X l tl) : PI X tg l (iSeq X.K tl) := by
  refine ⟨fun pins s σ H R I h => thn (hl.run pins s σ H _ I h) fun v s1 q0 => ?_⟩
  obtain ⟨x, H1, I1, r1, a, e, q⟩ := q0
  subst e
  cases r1
  have fr : ∀ b, b ∈ [s1.heap.objs.size] → s1.heap.objs.size ≤ b := fun b hb => by simp at hb; omega
  rcases q with ⟨⟨xs, hq⟩, q⟩ | ⟨⟨xs, hq⟩, q⟩
  · obtain ⟨its, rv, p, hz⟩ := I1.list hq
    refine wpAny_pyIter_list p.isList ⟨_, [s1.heap.objs.size], _, _, H1, rfl, I1.kept (t' := s1.toks) fun b o e => Heap.get?_push_of_some _ e, turn_list a _, ⟨_, Heap.get?_push_size _ rfl, rfl, rfl⟩, fun b hb => ?_, q⟩
    have le := fr b hb
    exact I1.fpOk le (I1.hok.fresh le)
  · obtain ⟨its, rv, p, hz⟩ := I1.tuple hq
    refine wpAny_pyIter_tuple (show s1.heap.IsTuple a its.toArray from p) ⟨_, [s1.heap.objs.size], _, _, H1, rfl, I1.kept (t' := s1.toks) fun b o e => Heap.get?_push_of_some _ e, turn_tuple a _, ⟨_, Heap.get?_push_size _ rfl, rfl, rfl⟩, fun b hb => ?_, q⟩
    have le := fr b hb
    exact I1.fpOk le (I1.hok.fresh le)
/-- the cells that enumerate(v) makes -/
def enN (n : Addr) : Obj := { cls := .type "enumerate", data := .fields #[.none, .bool false, .ref n, rawInt 0, .none, .none] }
theorem en_new {v : Value} {o : Obj} {Z : Heap → Prop} (B : Begins v o Z) :
    Meets (Builtin.«enumerate.__new__» ⟨[.type "enumerate", v], []⟩) (fun _ R s => Z s.heap ∧ R (.ok (.ret (.ref (s.heap.push o).objs.size))) { s with heap := (s.heap.push o).push (enN s.heap.objs.size) }) :=
  .of_wp fun prog w A R s h => by
    obtain ⟨hp, g, d, tk, os⟩ := s
    obtain ⟨z1, z2⟩ := h
    have z3 := sub_enumerate
    have z4 : ∀ {A' : Around} {E : Value → Shared → Prop} {Q : Value → Shared → Prop}, Q (.ref hp.objs.size) ⟨hp.push o, g, d, tk, os⟩ → wpAny (model prog w) A' (pyIter v) Q E ⟨hp, g, d, tk, os⟩ :=
      fun q => B.iter prog w _ _ ⟨hp, g, d, tk, os⟩ _ z1 q
    wp_walk using z4
    refine wpAny_stack_any fun st => wpAny_pure ?_
    split
    · rename_i c _ _ _ _ _
      cases (c == Value.type "enumerate")
      all_goals
        wp_walk using z4
        exact ⟨_, rfl, z2⟩
    · wp_walk using z4
      exact ⟨_, rfl, z2⟩
theorem en_begins {prog : Program} {w : World} {A : Around} {E : Value → Shared → Prop} {s : Shared} {v : Value} {o : Obj} {Z : Heap → Prop} {Q : Value → Shared → Prop} (B : Begins v o Z) (h1 : Z s.heap)
    (h : ∀ h', h'.get? (s.heap.objs.size + 1) = some (enN s.heap.objs.size) → h'.get? s.heap.objs.size = some o → (∀ b u, s.heap.get? b = some u → h'.get? b = some u) → Q (.ref (s.heap.objs.size + 1)) { s with heap := h' }) :
    wpAny (model prog w) A (call (.type "enumerate") [v]) Q E s := by
  refine callType_new F.called_enumerate (by decide) (F.typeCall_enumerate_1 _) (F.newCall_enumerate_1 _) (fun obj => F.args_object_init_2 obj _) F.entry_enumerate_new (en_new B) ⟨h1, ?_⟩
  have hz : (s.heap.push o).objs.size = s.heap.objs.size + 1 := Heap.size_push ..
  have he := Heap.get?_push_size (s.heap.push o) (o := enN s.heap.objs.size) rfl
  show _ ∧ _
  rw [hz] at he ⊢
  exact ⟨⟨_, he, rfl⟩, h _ he (Heap.get?_push_of_some _ (Heap.get?_push_size _ B.free)) fun b u x => Heap.get?_push_of_some _ (Heap.get?_push_of_some _ x)⟩
def IteT (K : PySem.W.Frag) (a : Addr) : It :=
  ⟨fun i H => ∃ (xs : List V) (x : V), SqT K H a xs ∧ xs[i]? = some x, fun i H v H' => ∃ T x, v = .ref T ∧ H T = none ∧ H' = upd H T (.tup [.int (i : Nat), x]) ∧ ∀ xs, SqT K H a xs → xs[i]? = some x,
    fun i H => ∃ xs : List V, SqT K H a xs ∧ i = xs.length⟩
theorem two_of {c e it : Addr} (m : c ∈ [e, it]) : c = e ∨ c = it := by simpa using m
/-- where the two cells of a walk with numbers stand, at the i-th turn -/
def EnSt (a e it : Addr) (i : Nat) (h : Heap) : Prop := (∃ old, IsEnum h e it ((i : Nat) : Int) old) ∧ h.IsTupleIter it a i ∧ e ≠ it ∧ a ≠ it ∧ e ≠ a
theorem EnSt.lt {a e it c : Addr} {i : Nat} {h : Heap} (st : EnSt a e it i h) (m : c ∈ [e, it]) : c < h.objs.size := by
  obtain ⟨⟨_, ce⟩, ⟨_, ci, _⟩, _⟩ := st
  rcases two_of m with rfl | rfl
  · exact Heap.lt_size ce
  · exact Heap.lt_size ci
theorem turn_enT {P : Program} {w : World} {K : PySem.W.Frag} {elts : List Expr} {kk : Nat} {tpos : Pos} (a e it : Addr) : Turn P w K (.Tuple elts kk tpos) (IteT K a) [e, it] e (EnSt a e it) where
  mem := List.mem_cons_self
  obj := fun _ _ ⟨⟨_, ce⟩, ⟨o, ci, _, d⟩, _⟩ c m => by
    rcases two_of m with rfl | rfl
    · exact ⟨_, ce, nofun⟩
    · exact ⟨o, ci, fun v q => nomatch d.symm.trans q⟩
  keep := fun _ _ _ ⟨⟨old, ce⟩, ci, apart⟩ k => ⟨⟨old, k e List.mem_cons_self _ ce⟩, ci.at (k it (by simp)), apart⟩
  item := fun X eP ew eK calm i pins s σ H E I free st ⟨xs, x, isT, hx⟩ => by
    subst eP ew eK
    have low := fun c (m : c ∈ [e, it]) => st.lt m
    obtain ⟨⟨old, ce⟩, ci, ne1, ne2, ne3⟩ := st
    obtain ⟨vs, rel, at_, _⟩ := I.tuple isT
    obtain ⟨v, hv, rv⟩ := rel.get hx
    have inside : i < vs.toArray.size := by simpa using (List.getElem?_eq_some_iff.mp hv).1
    refine wpAny_pyNext_enum_itemD (Draws.tuple (A := X.A.in1) (I.ok.hd calm) it a ne2 vs.toArray) ce ⟨ci, at_⟩ inside ne1 (by simp [ne1, ne3]) fun v' h' tk p own ci' pair _ same => ?_
    obtain rfl : v' = v := Option.some.inj (p.symm.trans (by simpa using hv))
    refine ⟨_, rfl, wpAny_letOwnedTupleGo_enum (s := { s with heap := h', toks := tk + 1 }) own fun h2 ce' sb => ?_⟩
    have kept (c : Addr) (o : Obj) (nm : c ∉ [e, it]) (q : s.heap.get? c = some o) : h2.get? c = some o := (sb.2 c fun z => nm (by simp [z])).trans (same c o (fun z => nm (by simp [z])) (fun z => nm (by simp [z])) q)
    have new : h2.get? s.heap.objs.size = _ := (sb.2 _ (Nat.ne_of_gt (low e List.mem_cons_self))).trans pair
    have ok : ObjOk X.prog X.w (upd H s.heap.objs.size (.tup [.int (i : Nat), x])) h2 s.heap.objs.size (.tup [.int (i : Nat), x]) :=
      ⟨(by decide : 2 ≤ sizeLine), [.int i tk, v'], .cons ⟨_, rfl⟩ (.cons rv .nil), _, new, rfl, _, rfl⟩
    refine ⟨.ref s.heap.objs.size, _, I.turnedNew kept free (Nat.le_refl _) ok, rfl, ⟨_, x, rfl, I.hok.fresh (Nat.le_refl _), rfl, fun ys hy => ?_⟩, ⟨⟨v', ?_⟩, ci'.1.at fun o q => (sb.2 it ne1.symm).trans q, ne1, ne2, ne3⟩, fun c m => ?_⟩
    · rwa [I.tuple_inj hy isT]
    · rwa [Int.natCast_succ]
    · rw [upd_ne (Nat.ne_of_lt (low c m))]
      exact (free c m).1
  done := fun X eP ew eK calm i pins s σ H E I free ⟨⟨old, ce⟩, ci, ne1, ne2, ne3⟩ ⟨xs, isT, last⟩ => by
    subst eP ew eK
    obtain ⟨vs, rel, at_, _⟩ := I.tuple isT
    obtain ⟨f0, f1, _, f3, f4, f5⟩ := free it (by simp)
    obtain rfl : i = vs.toArray.size := by rw [last, rel.length, List.size_toArray]
    exact wpAny_pyNext_enum_endD (Draws.tuple (A := X.A.in1) (I.ok.hd calm) it a ne2 vs.toArray) ce ⟨ci, at_⟩ fun _ eb => ⟨rfl, I.turned (t' := s.toks) eb f0 f1 f3 f4 f5⟩
  self := fun _ _ _ _ _ ⟨⟨_, ce⟩, _⟩ h => wpAny_pyIter_enum ce h
def iEnT (K : PySem.W.Frag) (ta : TA) : TI := fun σ H R => ta σ H fun vs H1 => ∃ a xs, vs = [.ref a] ∧ SqT K H1 a xs ∧ R (IteT K a) H1
theorem pi_enT {X : Cx} {e : Expr} {ta : TA} {p pos tpos : Pos} {elts : List Expr} {kk : Nat} (hg : Gl X "enumerate") (hm : X.mg "enumerate" = none) (ha : PA X [e] ta) (plain : starEach [e] X.env = [(false, eval e X.env)] := by rfl) :
    PI X (.Tuple elts kk tpos) (.Call (.Name "enumerate" p) [e] [] pos) (iEnT X.K ta) := by
  refine .mk fun pins s σ H R I h => ?_
  have given := ha.run pos pins s σ H _ I h
  refine Call_ (ld_blt I hg hm boot_enumerate (PyProof.Rows.callWith_type1 (thn given ?_) plain rfl))
  rintro _ s1 ⟨_, H1, I1, rel, a, xs, rfl, isT, q⟩
  obtain ⟨u, rfl, eu⟩ := vals1 rel
  obtain rfl : u = Value.ref a := eu
  obtain ⟨vs, _, at_, _⟩ := I1.tuple isT
  have low : a < s1.heap.objs.size := PyProof.Rows.IsTup.lt at_
  refine en_begins (begins_tuple a vs.toArray) at_ fun h' ce ci same => wpAny_pyIter_enum ce ?_
  have apart : s1.heap.objs.size + 1 ≠ s1.heap.objs.size ∧ a ≠ s1.heap.objs.size ∧ s1.heap.objs.size + 1 ≠ a := ⟨Nat.succ_ne_self _, Nat.ne_of_lt low, (Nat.ne_of_lt (Nat.lt_succ_of_lt low)).symm⟩
  refine ⟨_, _, _, _, H1, rfl, I1.kept (t' := s1.toks) same, turn_enT a (s1.heap.objs.size + 1) s1.heap.objs.size, ⟨⟨.none, ce⟩, ⟨_, ci, rfl, rfl⟩, apart⟩, fun c m => ?_, q⟩
  have above : s1.heap.objs.size ≤ c := by rcases two_of m with rfl | rfl <;> first | exact Nat.le_refl _ | exact Nat.le_add_right _ _
  exact I1.fpOk above (I1.hok.fresh above)
theorem walk_enT {K : PySem.W.Frag} {a : Addr} {xs : List V} : Walk (IteT K a) xs.length (fun H => SqT K H a xs) (YPair (fun i => some (.int (i : Nat))) (fun i => xs[i]?)) :=
  ⟨fun i _ hi q => ⟨xs, xs[i], q, List.getElem?_eq_getElem hi⟩, fun _ q => ⟨xs, q, rfl⟩, fun i _ _ _ _ q ⟨T, x, hv, hp, hH, at_⟩ => ⟨T, .int (i : Nat), x, hv, hp, hH, rfl, at_ xs q⟩⟩
end Vf
/-! ### a comprehension within a comprehension -/
namespace C8b
open PySem L2
def rl (env : Env) : Str × NameKind → Str × NameKind := fun (n, k) => if (k == NameKind.free && env.scope.kind == .function && env.kindOf n == some .cell) then (n, NameKind.cell) else (n, k)
theorem rl_two (env : Env) (n : Str) (k : NameKind) : rl env (n, k) = (n, .cell) ∨ rl env (n, k) = (n, k) := by
  unfold rl
  by_cases hc : (k == NameKind.free && env.scope.kind == .function && env.kindOf n == some .cell) = true
  · exact .inl (if_pos hc)
  · exact .inr (if_neg hc)
theorem rl_look {env : Env} : ∀ {names : List (Str × NameKind)} {x : Str}, (names.lookup x = some .cell ∨ names.lookup x = some .free) → ((names.map (rl env)).lookup x = some .cell ∨ (names.map (rl env)).lookup x = some .free)
  | [], _, h => by simp at h
  | (n, k) :: r, x, h => by
    have ih := @rl_look env r x
    rw [List.map_cons]
    rcases rl_two env n k with e | e <;> rw [e] <;> cases hx : x == n <;> simp only [List.lookup_cons, hx] at h ⊢
    · exact ih h
    · simp
    · exact ih h
    · exact h
theorem blk2 {N : List Str} {sc scope : Scope} {own : List (Str × Nat)} {env : Env} (h : BlkOk N sc scope own) : BlkOk N (relabel sc env) scope own :=
  ⟨h.kind, h.uniq, h.ix, fun y hy e => rl_look (h.free y hy e), h.own⟩
end C8b
/-! ### walks within a comprehension, the written part told by name -/
namespace Vf
open PySem PySem.Spec PyProof.Rows L2
section
variable {X : Cx} {K : PySem.W.Frag} {tg l e e2 : Expr} {tl : TE} {ta : TA} {p pos tpos : Pos} {elts : List Expr} {kk : Nat}
theorem pi_listK (hl : PE X l tl) (h : X.K = K := by rfl) : PI X tg l (iList K tl) := by rw [← h]; exact pi_list hl
theorem pi_tupK (hl : PE X l tl) (h : X.K = K := by rfl) : PI X tg l (iTup K tl) := by rw [← h]; exact pi_tup hl
theorem pi_seqK (hl : PE X l tl) (h : X.K = K := by rfl) : PI X tg l (iSeq K tl) := by rw [← h]; exact pi_seq hl
theorem pi_zipLTK (hg : Gl X "zip") (hm : X.mg "zip" = none) (ha : PA X [e, e2] ta) (hs : starEach [e, e2] X.env = (false, eval e X.env) :: starEach [e2] X.env := by rfl) (hpl : (backTo pos (starEach [e2] X.env)).any (·.1) = false := by rfl) (h : X.K = K := by rfl) :
    PI X (.Tuple elts kk tpos) (.Call (.Name "zip" p) [e, e2] [] pos) (iZipLT K ta) := by rw [← h]; exact pi_zipLT hg hm ha ⟨hs, hpl⟩
theorem pi_zipAK (hg : Gl X "zip") (hm : X.mg "zip" = none) (ha : PA X [e, e2] ta) (hs : starEach [e, e2] X.env = (false, eval e X.env) :: starEach [e2] X.env := by rfl) (hpl : (backTo pos (starEach [e2] X.env)).any (·.1) = false := by rfl) (h : X.K = K := by rfl) :
    PI X (.Tuple elts kk tpos) (.Call (.Name "zip" p) [e, e2] [] pos) (RZ.iZipA K ta) := by rw [← h]; exact RZ.pi_zipA hg hm ha hs hpl
theorem pi_zipK (hg : Gl X "zip") (hm : X.mg "zip" = none) (ha : PA X [e, e2] ta) (hs : starEach [e, e2] X.env = (false, eval e X.env) :: starEach [e2] X.env := by rfl) (hpl : (backTo pos (starEach [e2] X.env)).any (·.1) = false := by rfl) (h : X.K = K := by rfl) :
    PI X (.Tuple elts kk tpos) (.Call (.Name "zip" p) [e, e2] [] pos) (iZip K ta) := by rw [← h]; exact pi_zip hg hm ha hs hpl
end
end Vf
/-! ### rows as data: == and != -/
namespace Vf
open PySem PySem.Spec PyProof.Rows L2
def di (ns : List Int) : List PyData := ns.map PyData.int
theorem dpAll_ints {K : PySem.W.Frag} {H : Hp} : ∀ ns : List Int, DpAll K H (ns.map V.int) (di ns)
  | [] => .nil
  | n :: r => .cons (.int n) (dpAll_ints r)
theorem canLay_di : ∀ ns : List Int, PyData.canLayAll0 (di ns) = true
  | [] => by simp [di, PyData.canLayAll0]
  | n :: r => by
    have := canLay_di r
    simp only [di, List.map_cons, PyData.canLayAll0, PyData.canLay0, Bool.true_and] at this ⊢
    exact this
theorem depth_di : ∀ ns : List Int, PyData.depthAll (di ns) ≤ 2
  | [] => by simp [di, PyData.depthAll]
  | n :: r => by
    have := depth_di r
    simp only [di, List.map_cons, PyData.depthAll, PyData.depth] at this ⊢
    omega
theorem shaped_row (ns : List Int) : SeqAt.shaped (.tuple (di ns)) = true := by
  have h1 := canLay_di ns
  have h2 := depth_di ns
  unfold SeqAt.shaped
  rw [Bool.and_eq_true]
  exact ⟨by simpa [PyData.canLay0] using h1, decide_eq_true (by simp only [PyData.depth]; omega)⟩
theorem shaped_list (ns : List Int) : SeqAt.shaped (.list (di ns)) = true := by
  have h1 := canLay_di ns
  have h2 := depth_di ns
  unfold SeqAt.shaped
  rw [Bool.and_eq_true]
  exact ⟨by simpa [PyData.canLay0] using h1, decide_eq_true (by simp only [PyData.depth]; omega)⟩
def drs (rs : List (List Int)) : List PyData := rs.map fun ns => .tuple (di ns)
theorem canLay_drs : ∀ rs : List (List Int), PyData.canLayAll0 (drs rs) = true
  | [] => by simp [drs, PyData.canLayAll0]
  | n :: r => by
    have h1 := canLay_drs r
    have h2 := canLay_di n
    simp only [drs, List.map_cons, PyData.canLayAll0, PyData.canLay0, h2, Bool.true_and] at h1 ⊢
    exact h1
theorem depth_drs : ∀ rs : List (List Int), PyData.depthAll (drs rs) ≤ 5
  | [] => by simp [drs, PyData.depthAll]
  | n :: r => by
    have h1 := depth_drs r
    have h2 := depth_di n
    simp only [drs, List.map_cons, PyData.depthAll, PyData.depth] at h1 ⊢
    omega
theorem shaped_rows (rs : List (List Int)) : SeqAt.shaped (.list (drs rs)) = true := by
  have h1 := canLay_drs rs
  have h2 := depth_drs rs
  unfold SeqAt.shaped
  rw [Bool.and_eq_true]
  exact ⟨by simpa [PyData.canLay0] using h1, decide_eq_true (by simp only [PyData.depth]; omega)⟩
theorem shaped_rowsT (rs : List (List Int)) : SeqAt.shaped (.tuple (drs rs)) = true := by
  have h1 := canLay_drs rs
  have h2 := depth_drs rs
  unfold SeqAt.shaped
  rw [Bool.and_eq_true]
  exact ⟨by simpa [PyData.canLay0] using h1, decide_eq_true (by simp only [PyData.depth]; omega)⟩
section
variable {K : PySem.W.Frag} {H : Hp} {a b : Addr} {ns ms : List Int} {Q : VK}
theorem neRow (h1 : H a = some (.tup (ns.map V.int))) (h2 : H b = some (.tup (ns.map V.int))) (q : Q (.bl false) H) : rNeI K (.ref a) (.ref b) H Q := by
  unfold rNeI
  refine ⟨_, _, .tup (SqT.of h1) (dpAll_ints ns), .tup (SqT.of h2) (dpAll_ints ns), shaped_row ns, shaped_row ns, ?_⟩
  rw [SeqAt.eqv_refl _ (SeqAt.canLay_of_shaped (shaped_row ns))]
  exact q
theorem eqRow (h1 : H a = some (.tup (ns.map V.int))) (h2 : H b = some (.tup (ns.map V.int))) (q : Q (.bl true) H) : rEqI K (.ref a) (.ref b) H Q := by
  unfold rEqI
  refine ⟨_, _, .tup (SqT.of h1) (dpAll_ints ns), .tup (SqT.of h2) (dpAll_ints ns), shaped_row ns, shaped_row ns, ?_⟩
  rw [SeqAt.eqv_refl _ (SeqAt.canLay_of_shaped (shaped_row ns))]
  exact q
theorem eqIntsL (h1 : SqL K H a (ns.map V.int)) (h2 : SqL K H b (ns.map V.int)) (q : Q (.bl true) H) : rEqI K (.ref a) (.ref b) H Q := by
  unfold rEqI
  refine ⟨_, _, .lst h1 (dpAll_ints ns), .lst h2 (dpAll_ints ns), shaped_list ns, shaped_list ns, ?_⟩
  rw [SeqAt.eqv_refl _ (SeqAt.canLay_of_shaped (shaped_list ns))]
  exact q
/-- the places of rows -/
def Rws (H : Hp) : List V → List (List Int) → Prop
  | [], [] => True
  | v :: vs, r :: rs => (∃ p, v = .ref p ∧ H p = some (.tup (r.map V.int))) ∧ Rws H vs rs
  | _, _ => False
theorem Rws.kp {S : Addr → Prop} {H H1 : Hp} (k : Kp S H H1) : ∀ {vs : List V} {rs : List (List Int)}, Rws H vs rs → Rws H1 vs rs
  | [], [], _ => trivial
  | _ :: _, _ :: _, ⟨⟨p, e, h⟩, t⟩ => ⟨⟨p, e, k.tup _ _ h⟩, Rws.kp k t⟩
theorem Rws.len {H : Hp} : ∀ {vs : List V} {rs : List (List Int)}, Rws H vs rs → vs.length = rs.length
  | [], [], _ => rfl
  | _ :: _, _ :: _, ⟨_, t⟩ => by rw [List.length_cons, List.length_cons, Rws.len t]
theorem Rws.get {H : Hp} : ∀ {vs : List V} {rs : List (List Int)} {i : Nat} {v : V}, Rws H vs rs → vs[i]? = some v → ∃ p r, v = .ref p ∧ rs[i]? = some r ∧ H p = some (.tup (r.map V.int))
  | [], [], i, v, _, h => by simp at h
  | u :: vs, r :: rs, 0, v, ⟨⟨p, e, h⟩, t⟩, hv => by
    cases hv
    exact ⟨p, r, e, rfl, h⟩
  | u :: vs, r :: rs, i + 1, v, ⟨_, t⟩, hv => Rws.get (i := i) t (by simpa using hv)
theorem Rws.of {H : Hp} : ∀ {vs : List V} {rs : List (List Int)}, vs.length = rs.length → (∀ (i : Nat) (v : V) (r : List Int), vs[i]? = some v → rs[i]? = some r → ∃ p, v = .ref p ∧ H p = some (.tup (r.map V.int))) → Rws H vs rs
  | [], [], _, _ => trivial
  | [], _ :: _, h, _ => by simp at h
  | _ :: _, [], h, _ => by simp at h
  | v :: vs, r :: rs, h, f => ⟨f 0 v r rfl rfl, Rws.of (by simpa using h) fun i v r hv hr => f (i + 1) v r (by simpa using hv) (by simpa using hr)⟩
theorem Rws.dp {H : Hp} : ∀ {vs : List V} {rs : List (List Int)}, Rws H vs rs → DpAll K H vs (drs rs)
  | [], [], _ => .nil
  | _ :: _, r :: _, ⟨⟨p, e, h⟩, t⟩ => by
    subst e
    exact .cons (.tup (SqT.of h) (dpAll_ints r)) (Rws.dp t)
theorem Rws.app {H : Hp} : ∀ {vs ws : List V} {rs ss : List (List Int)}, Rws H vs rs → Rws H ws ss → Rws H (vs ++ ws) (rs ++ ss)
  | [], _, [], _, _, t => t
  | _ :: _, _, _ :: _, _, ⟨x, t⟩, u => ⟨x, Rws.app t u⟩
theorem eqRowsL {vs ws : List V} {rs : List (List Int)} (h1 : SqL K H a vs) (h2 : SqL K H b ws) (r1 : Rws H vs rs) (r2 : Rws H ws rs) (q : Q (.bl true) H) : rEqI K (.ref a) (.ref b) H Q := by
  unfold rEqI
  refine ⟨_, _, .lst h1 r1.dp, .lst h2 r2.dp, shaped_rows rs, shaped_rows rs, ?_⟩
  rw [SeqAt.eqv_refl _ (SeqAt.canLay_of_shaped (shaped_rows rs))]
  exact q
/-- xs != [], a list of ints -/
theorem neNil (h1 : SqL K H a (ns.map V.int)) (h2 : SqL K H b []) (q : Q (.bl (!ns.isEmpty)) H) : rNeI K (.ref a) (.ref b) H Q := by
  unfold rNeI
  refine ⟨_, _, .lst h1 (dpAll_ints ns), .lst (ds := []) h2 .nil, shaped_list ns, shaped_list [], ?_⟩
  have e : PyData.eqv (.list (di ns)) (.list []) = ns.isEmpty := by
    cases ns with
    | nil => simp [di, PyData.eqv, PyData.eqvAll]
    | cons n r => simp [di, PyData.eqv, PyData.eqvAll]
  rw [e]
  exact q
theorem repL {i : Int} {k : Int} (h : H a = some (.lst [.int i])) (h0 : 0 ≤ k) (h1 : k ≤ 1000) (q : ∀ p H1, H p = none → Kp N0 H H1 → H1 p = some (.lst ((List.replicate k.toNat i).map V.int)) → Q (.ref p) H1) : rRepLI (.ref a) (.int k) H Q := by
  unfold rRepLI
  refine ⟨a, k, [.int i], rfl, rfl, h, by omega, by omega, Nat.le_trans (by simp; omega : [V.int i].length * k.toNat ≤ 1000) (by decide), fun p hp => q p _ hp (.new hp) ?_⟩
  rw [upd_same, ← rep_one]
end
end Vf
namespace Vf
open PySem PySem.Spec PyProof.Rows L2
section
variable {J : It} {n : Nat} {Gw : Hp → Prop} {Y : Nat → Hp → V → Hp → Prop} {g : TG} {te : TE} {vs : List Nat} {σ : L2.St} {H1 : Hp} {Qd : Addr → Hp → Prop}
theorem rw_up {H : Hp} {p D : Addr} {r : List Int} {zs zs' : List V} (h : H p = some (.tup (r.map V.int))) (hd : H D = some (.lst zs)) : upd H D (.lst zs') p = some (.tup (r.map V.int)) := by
  rw [upd_ne (ne_of h hd (by intro z; cases z))]
  exact h
/-- pure: the items are rows, told by their place -/
theorem lc_rows (w : Walk J n Gw Y) (f : Nat → List Int) (hn : n ≤ 100000) (hw : ∀ H, Kp N0 H1 H → Gw H)
    (turn : ∀ i x H H', i < n → Kp N0 H1 H → Y i H x H' → ∀ R : VK, (∀ p H4, Kp N0 H H4 → H4 p = some (.tup ((f i).map V.int)) → R (.ref p) H4) → g x (wipe σ vs) H' fun σ2 H2 => wipe σ2 vs = wipe σ vs ∧ te σ2 H2 R)
    (fin : ∀ D H' ys, H1 D = none → Kp N0 H1 H' → H' D = some (.lst ys) → Rws H' ys ((List.range n).map f) → Qd D H') :
    ∀ D, H1 D = none → ∃ W : Nat → Nat → Hp → Prop, (∃ m, W 0 m (upd H1 D (.lst []))) ∧ ∀ i m H, W i m H →
      (J.stop i H ∧ Qd D H) ∨ (J.go i H ∧ ∃ Nx : Hp → Prop, (∀ H', Nx H' → ∃ m', m' < m ∧ W (i + 1) m' H') ∧ ∀ x H', J.yld i H x H' → g x (wipe σ vs) H' fun σ2 H2 => wipe σ2 vs = wipe σ vs ∧ tYes σ2 H2 fun b H3 =>
        if b = true then te σ2 H3 fun y H4 => ∃ acc, H4 D = some (.lst acc) ∧ acc.length < sizeLine ∧ Nx (upd H4 D (.lst (acc ++ [y]))) else Nx H3) :=
  lc_gen (S := N0) w (fun _ => True) (fun i y H => ∃ p, y = .ref p ∧ H p = some (.tup ((f i).map V.int))) (Nat.lt_of_le_of_lt hn (by decide)) trivial (fun _ _ _ _ _ => trivial) (fun H k _ => hw H k)
    (fun _ _ _ _ ⟨p, e, h⟩ k => ⟨p, e, k.tup _ _ h⟩) (fun _ _ _ _ _ _ _ hd ⟨p, e, h⟩ => ⟨p, e, rw_up h hd⟩) (fun _ _ z => z)
    (fun i x H H' hi k _ y R hR => turn i x H H' hi k y R fun p H4 k4 h4 => hR _ _ k4 trivial ⟨p, rfl, h4⟩)
    (fun D H' ys nD k _ hy hl hp => fin D H' ys nD k hy (Rws.of (by simp [hl]) fun i v r hv hr => by
      obtain ⟨p, e, h⟩ := hp i v hv
      rw [List.getElem?_map] at hr
      have hi : i < n := by rw [← hl]; exact (List.getElem?_eq_some_iff.mp hv).1
      rw [List.getElem?_range hi] at hr
      cases hr
      exact ⟨p, e, h⟩))
theorem rws_ex {H : Hp} {p : List Int → Prop} : ∀ {ys : List V}, (∀ (i : Nat) (y : V), ys[i]? = some y → ∃ q r, y = .ref q ∧ H q = some (.tup (r.map V.int)) ∧ p r) → ∃ rs : List (List Int), Rws H ys rs ∧ ∀ r ∈ rs, p r
  | [], _ => ⟨[], trivial, fun _ h => by simp at h⟩
  | y :: ys, h => by
    obtain ⟨rs, t, hp⟩ := rws_ex (ys := ys) fun i u hu => h (i + 1) u (by simpa using hu)
    obtain ⟨q, r, e, hq, pr⟩ := h 0 y (by simp)
    exact ⟨r :: rs, ⟨⟨q, e, hq⟩, t⟩, fun u hu => by
      rcases List.mem_cons.mp hu with rfl | hu
      · exact pr
      · exact hp u hu⟩
/-- with the dice: the items are rows of which p holds -/
theorem lc_rowsD {a : Addr} (w : Walk J n Gw Y) (p : List Int → Prop) (hn : n ≤ 100000) (hd : Dc a H1) (hw : ∀ H, DR a H1 H → Gw H)
    (turn : ∀ i x H H', i < n → DR a H1 H → Y i H x H' → ∀ R : VK, (∀ q r H4, DR a H H4 → H4 q = some (.tup (r.map V.int)) → p r → R (.ref q) H4) → g x (wipe σ vs) H' fun σ2 H2 => wipe σ2 vs = wipe σ vs ∧ te σ2 H2 R)
    (fin : ∀ D H' ys rs, H1 D = none → DR a H1 H' → H' D = some (.lst ys) → Rws H' ys rs → rs.length = n → (∀ r ∈ rs, p r) → Qd D H') :
    ∀ D, H1 D = none → ∃ W : Nat → Nat → Hp → Prop, (∃ m, W 0 m (upd H1 D (.lst []))) ∧ ∀ i m H, W i m H →
      (J.stop i H ∧ Qd D H) ∨ (J.go i H ∧ ∃ Nx : Hp → Prop, (∀ H', Nx H' → ∃ m', m' < m ∧ W (i + 1) m' H') ∧ ∀ x H', J.yld i H x H' → g x (wipe σ vs) H' fun σ2 H2 => wipe σ2 vs = wipe σ vs ∧ tYes σ2 H2 fun b H3 =>
        if b = true then te σ2 H3 fun y H4 => ∃ acc, H4 D = some (.lst acc) ∧ acc.length < sizeLine ∧ Nx (upd H4 D (.lst (acc ++ [y]))) else Nx H3) :=
  lc_gen (S := At a) w (Dc a) (fun _ y H => ∃ q r, y = .ref q ∧ H q = some (.tup (r.map V.int)) ∧ p r) (Nat.lt_of_le_of_lt hn (by decide)) hd (fun H D o h d => d.upd_ne (hd.ne h)) (fun H k d => hw H ⟨k, d⟩)
    (by rintro i y H H' ⟨q, r, e, h, pr⟩ k; exact ⟨q, r, e, k.tup _ _ h, pr⟩) (by rintro i y H D zs zs' _ hd ⟨q, r, e, h, pr⟩; exact ⟨q, r, e, rw_up h hd, pr⟩) (fun D h z => hd.ne h z.symm)
    (fun i x H H' hi k d y R hR => turn i x H H' hi ⟨k, d⟩ y R fun q r H4 k4 h4 pr => hR _ _ k4.kp k4.dc ⟨q, r, rfl, h4, pr⟩)
    (fun D H' ys hDn k d hy hl hp => by
      obtain ⟨rs, t, hz⟩ := rws_ex hp
      exact fin D H' ys rs hDn ⟨k, d⟩ hy t (by rw [← t.len, hl]) hz)
end
end Vf
namespace Vf
open PySem PySem.Spec PyProof.Rows L2
theorem walk_tupN {K : PySem.W.Frag} {a : Addr} {xs : List V} {n : Nat} (h : xs.length = n) : Walk (Itt K a) n (fun H => SqT K H a xs) (YAt xs) := by subst h; exact walk_tup
theorem walk_listN {K : PySem.W.Frag} {a : Addr} {xs : List V} {n : Nat} (h : xs.length = n) : Walk (Itl K a) n (fun H => SqL K H a xs) (YAt xs) := by subst h; exact walk_list
theorem walk_rangeN {lo : Int} {m n : Nat} (h : m = n) : Walk (Itr lo m) n (fun _ => True) (YFn fun i => .int (lo + (i : Int))) := by subst h; exact walk_range
end Vf
/-! ### tuples that may be the module's own: rows of its tables -/
namespace Vf
open PySem PySem.Spec PyProof.Rows L2
section
variable {H : Hp} {K : PySem.W.Frag} {us : List V} {Q : VK} {p x : Addr} {xs ys : List V} {lo hi : Option Int}
theorem tyS {a : Addr} (h : SqT K H a xs) : TyX K H (.ref a) (.type "tuple") := by
  rcases h with (h | ⟨o, h⟩) | ⟨o, _, _, h, c, _⟩
  · exact .base (.tup h)
  · exact .fTuple h
  · exact .kTuple h c
theorem lenS (e : us = [.ref p]) (h : SqT K H p ys) (q : Q (.int ys.length) H) : rLen K us H Q := by
  unfold rLen
  exact ⟨p, ys, e, .inr h, q⟩
theorem tupS (e : us = [.ref p]) (h : SqT K H p ys) (q : Q (.ref p) H) : rTupOf K us H Q := by
  unfold rTupOf
  exact ⟨p, ys, e, .inr ⟨h, q⟩⟩
theorem slS (h : SqT K H x xs) (nw : ¬ (HT.sIx xs.length 0 lo = 0 ∧ HT.sIx xs.length xs.length hi = xs.length)) (q : ∀ p H1, Kp N0 H H1 → H1 p = some (.tup (cutV xs lo hi)) → Q (.ref p) H1) : rSlI K (.ref x) lo hi H Q := by
  unfold rSlI
  exact ⟨x, xs, rfl, h, fun w => absurd w nw, fun _ => rd_new fun p H1 _ e h1 => q p H1 e h1⟩
theorem nw1 (h : 0 < xs.length) : ¬ (HT.sIx xs.length 0 (some 1) = 0 ∧ HT.sIx xs.length xs.length hi = xs.length) := by
  rintro ⟨w, _⟩
  rw [show (some (1 : Int)) = some ((1 : Nat) : Int) from rfl, HT.sIx_nat] at w
  omega
end
def RwK (K : PySem.W.Frag) (H : Hp) : List V → List (List Int) → Prop
  | [], [] => True
  | v :: vs, r :: rs => (∃ p, v = .ref p ∧ SqT K H p (r.map V.int)) ∧ RwK K H vs rs
  | _, _ => False
section
variable {K : PySem.W.Frag}
theorem RwK.of {H : Hp} : ∀ {vs : List V} {rs : List (List Int)}, Rws H vs rs → RwK K H vs rs
  | [], [], _ => trivial
  | _ :: _, _ :: _, ⟨⟨p, e, h⟩, t⟩ => ⟨⟨p, e, SqT.of h⟩, RwK.of t⟩
theorem RwK.kp {S : Addr → Prop} {H H1 : Hp} (k : Kp S H H1) : ∀ {vs : List V} {rs : List (List Int)}, RwK K H vs rs → RwK K H1 vs rs
  | [], [], _ => trivial
  | _ :: _, _ :: _, ⟨⟨p, e, h⟩, t⟩ => ⟨⟨p, e, k.sqT h⟩, RwK.kp k t⟩
theorem RwK.len {H : Hp} : ∀ {vs : List V} {rs : List (List Int)}, RwK K H vs rs → vs.length = rs.length
  | [], [], _ => rfl
  | _ :: _, _ :: _, ⟨_, t⟩ => by rw [List.length_cons, List.length_cons, RwK.len t]
theorem RwK.get {H : Hp} : ∀ {vs : List V} {rs : List (List Int)} {i : Nat} {v : V}, RwK K H vs rs → vs[i]? = some v → ∃ p r, v = .ref p ∧ rs[i]? = some r ∧ SqT K H p (r.map V.int)
  | [], [], _, _, _, h => by simp at h
  | _ :: _, r :: _, 0, _, ⟨⟨p, e, h⟩, _⟩, hv => by
    cases hv
    exact ⟨p, r, e, rfl, h⟩
  | _ :: _, _ :: _, i + 1, _, ⟨_, t⟩, hv => RwK.get (i := i) t (by simpa using hv)
theorem RwK.dp {H : Hp} : ∀ {vs : List V} {rs : List (List Int)}, RwK K H vs rs → DpAll K H vs (drs rs)
  | [], [], _ => .nil
  | _ :: _, r :: _, ⟨⟨p, e, h⟩, t⟩ => by
    subst e
    exact .cons (.tup h (dpAll_ints r)) (RwK.dp t)
theorem rwk_ex {H : Hp} : ∀ {ys : List V}, (∀ v ∈ ys, ∃ q r, v = .ref q ∧ SqT K H q (List.map V.int r)) → ∃ rs : List (List Int), RwK K H ys rs
  | [], _ => ⟨[], trivial⟩
  | y :: ys, h => by
    obtain ⟨rs, t⟩ := rwk_ex (ys := ys) fun v hv => h v (List.mem_cons_of_mem _ hv)
    obtain ⟨q, r, e, hq⟩ := h y List.mem_cons_self
    exact ⟨r :: rs, ⟨q, e, hq⟩, t⟩
end
end Vf
namespace K11
open PySem PySem.Spec PyProof.Rows L2 Vf
def TL : Int := 100000000000000000000000000000000000000000000000000000000000000000000000000000000000000000000000000000000000000000000000000000000000000000000000000000000000000000000000000000000000000000000000000000000
def topS (i : Nat) : Stmt := PySem.Challenge.pw_timesthrough_k11_whole_words_keep_produc.main.body.getD i (.Pass ⟨0, 0, 0, 0⟩)
abbrev s_is_short : Stmt := topS 2
theorem sc_is_short : FnScope ["number"] ["number"] (C8.fnScope s_is_short) := C8.fnScope_by (by decide +kernel)
abbrev s_are_short : Stmt := topS 3
theorem sc_are_short : FnScope ["numbers", "number"] ["numbers"] (C8.fnScope s_are_short) := C8.fnScope_by (by decide +kernel)
abbrev s_is_integer : Stmt := topS 4
theorem sc_is_integer : FnScope ["value"] ["value"] (C8.fnScope s_is_integer) := C8.fnScope_by (by decide +kernel)
abbrev s_is_from_to : Stmt := topS 5
theorem sc_is_from_to : FnScope ["value", "least", "most"] ["value", "least", "most"] (C8.fnScope s_is_from_to) := C8.fnScope_by (by decide +kernel)
abbrev s_is_row : Stmt := topS 15
theorem sc_is_row : FnScope ["value", "entry"] ["value"] (C8.fnScope s_is_row) := C8.fnScope_by (by decide +kernel)
abbrev s_product : Stmt := topS 16
theorem sc_product : FnScope ["one", "other"] ["one", "other"] (C8.fnScope s_product) := C8.fnScope_by (by decide +kernel)
abbrev s_with_cubic : Stmt := topS 17
theorem sc_with_cubic : FnScope ["row"] ["row"] (C8.fnScope s_with_cubic) := C8.fnScope_by (by decide +kernel)
abbrev s_counting : Stmt := topS 18
theorem sc_counting : FnScope ["row"] ["row"] (C8.fnScope s_counting) := C8.fnScope_by (by decide +kernel)
abbrev s_check_row : Stmt := topS 19
theorem sc_check_row : FnScope ["row"] ["row"] (C8.fnScope s_check_row) := C8.fnScope_by (by decide +kernel)
abbrev s_check_rows : Stmt := topS 20
theorem sc_check_rows : FnScope ["one", "other"] ["one", "other"] (C8.fnScope s_check_rows) := C8.fnScope_by (by decide +kernel)
abbrev s_short_row : Stmt := topS 21
theorem sc_short_row : FnScope ["entries"] ["entries"] (C8.fnScope s_short_row) := C8.fnScope_by (by decide +kernel)
abbrev s_product_of : Stmt := topS 22
theorem sc_product_of : FnScope ["one", "other", "left", "right"] ["one", "other"] (C8.fnScope s_product_of) := C8.fnScope_by (by decide +kernel)
abbrev s_product_with_cubic : Stmt := topS 23
theorem sc_product_with_cubic : FnScope ["row"] ["row"] (C8.fnScope s_product_with_cubic) := C8.fnScope_by (by decide +kernel)
abbrev s_counting_of : Stmt := topS 24
theorem sc_counting_of : FnScope ["row"] ["row"] (C8.fnScope s_counting_of) := C8.fnScope_by (by decide +kernel)
abbrev s_undone : Stmt := topS 27
theorem sc_undone : FnScope ["word"] ["word"] (C8.fnScope s_undone) := C8.fnScope_by (by decide +kernel)
abbrev s_moved : Stmt := topS 28
theorem sc_moved : FnScope ["row", "word"] ["row", "word"] (C8.fnScope s_moved) := C8.fnScope_by (by decide +kernel)
abbrev s_check_word : Stmt := topS 29
theorem sc_check_word : FnScope ["n", "word"] ["n", "word"] (C8.fnScope s_check_word) := C8.fnScope_by (by decide +kernel)
abbrev s_is_move : Stmt := topS 30
theorem sc_is_move : FnScope ["n", "value", "name", "index", "low", "high"] ["n", "value"] (C8.fnScope s_is_move) := C8.fnScope_by (by decide +kernel)
abbrev s_do_move : Stmt := topS 31
theorem sc_do_move : FnScope ["entries", "move", "i", "j", "k", "change", "at"] ["entries", "move"] (C8.fnScope s_do_move) := C8.fnScope_by (by decide +kernel)
abbrev s_moved_far : Stmt := topS 32
theorem sc_moved_far : FnScope ["row", "word", "entries", "move"] ["row", "word"] (C8.fnScope s_moved_far) := C8.fnScope_by (by decide +kernel)
abbrev s_is_word : Stmt := topS 33
theorem sc_is_word : FnScope ["n", "value", "move"] ["n", "value"] (C8.fnScope s_is_word) := C8.fnScope_by (by decide +kernel)
abbrev s_l_dice : Stmt := topS 35
theorem sc_l_dice : FnScope ["_law_script", "_law_at", "_law_cell", "_law_great", "_law_left", "_law_mixed_here"] ["_law_script", "_law_at"] (C8.fnScope s_l_dice) := C8.fnScope_by (by decide +kernel)
abbrev s_l_roll : Stmt := topS 36
theorem sc_l_roll : FnScope ["_law_dice_here", "_law_total", "_law_size", "_law_drawn", "_law_one", "_law_two"] ["_law_dice_here", "_law_total"] (C8.fnScope s_l_roll) := C8.fnScope_by (by decide +kernel)
abbrev s_l_one_of : Stmt := topS 37
theorem sc_l_one_of : FnScope ["_law_dice_here", "_law_items"] ["_law_dice_here", "_law_items"] (C8.fnScope s_l_one_of) := C8.fnScope_by (by decide +kernel)
abbrev s_l_mixed : Stmt := topS 38
theorem sc_l_mixed : FnScope ["_law_dice_here", "_law_items", "_law_left", "_law_found"] ["_law_dice_here", "_law_items"] (C8.fnScope s_l_mixed) := C8.fnScope_by (by decide +kernel)
abbrev s_l_times : Stmt := topS 39
theorem sc_l_times : FnScope ["_law_one", "_law_other", "_law_left", "_law_right"] ["_law_one", "_law_other"] (C8.fnScope s_l_times) := C8.fnScope_by (by decide +kernel)
abbrev s_l_cubic : Stmt := topS 40
theorem sc_l_cubic : FnScope ["_law_n"] ["_law_n"] (C8.fnScope s_l_cubic) := C8.fnScope_by (by decide +kernel)
abbrev s_l_counting : Stmt := topS 41
theorem sc_l_counting : FnScope ["_law_row_here"] ["_law_row_here"] (C8.fnScope s_l_counting) := C8.fnScope_by (by decide +kernel)
abbrev s_l_point_row : Stmt := topS 42
theorem sc_l_point_row : FnScope ["_law_n", "_law_at", "_law_place"] ["_law_n", "_law_at"] (C8.fnScope s_l_point_row) := C8.fnScope_by (by decide +kernel)
abbrev s_l_sum : Stmt := topS 43
theorem sc_l_sum : FnScope ["_law_rows", "_law_numbers", "_law_found", "_law_row_here", "_law_number", "_law_one", "_law_other"] ["_law_rows", "_law_numbers"] (C8.fnScope s_l_sum) := C8.fnScope_by (by decide +kernel)
abbrev s_l_generators : Stmt := topS 44
theorem sc_l_generators : FnScope ["_law_n", "_law_found", "_law_size"] ["_law_n"] (C8.fnScope s_l_generators) := C8.fnScope_by (by decide +kernel)
abbrev s_l_standard : Stmt := topS 45
theorem sc_l_standard : FnScope ["_law_dice_here", "_law_n", "_law_most", "_law_rows", "_law_row_here", "_law_one"] ["_law_dice_here", "_law_n", "_law_most"] (C8.fnScope s_l_standard) := C8.fnScope_by (by decide +kernel)
abbrev s_l_small_row : Stmt := topS 46
theorem sc_l_small_row : FnScope ["_law_dice_here", "_law_n", "_law_most", "_law_least", "_law_numbers", "_law_at"] ["_law_dice_here", "_law_n", "_law_most"] (C8.fnScope s_l_small_row) := C8.fnScope_by (by decide +kernel)
abbrev s_l_full_row : Stmt := topS 47
theorem sc_l_full_row : FnScope ["_law_dice_here", "_law_n", "_law_most", "_law_word_here", "_law_points", "_law_numbers", "_law_at"] ["_law_dice_here", "_law_n", "_law_most"] (C8.fnScope s_l_full_row) := C8.fnScope_by (by decide +kernel)
abbrev s_l_row : Stmt := topS 48
theorem sc_l_row : FnScope ["_law_dice_here", "_law_n", "_law_most", "_law_way"] ["_law_dice_here", "_law_n", "_law_most"] (C8.fnScope s_l_row) := C8.fnScope_by (by decide +kernel)
abbrev s_l_great_row : Stmt := topS 49
theorem sc_l_great_row : FnScope ["_law_dice_here", "_law_n", "_law_figures", "_law_size", "_law_numbers", "_law_at", "_law_one"] ["_law_dice_here", "_law_n", "_law_figures"] (C8.fnScope s_l_great_row) := C8.fnScope_by (by decide +kernel)
abbrev s_l_word : Stmt := topS 50
theorem sc_l_word : FnScope ["_law_dice_here", "_law_n", "_law_most", "_law_found", "_law_turn", "_law_places", "_law_way"] ["_law_dice_here", "_law_n", "_law_most"] (C8.fnScope s_l_word) := C8.fnScope_by (by decide +kernel)
abbrev s_l_move : Stmt := topS 51
theorem sc_l_move : FnScope ["_law_row_here", "_law_move_here", "_law_found", "_law_more", "_law_at"] ["_law_row_here", "_law_move_here"] (C8.fnScope s_l_move) := C8.fnScope_by (by decide +kernel)
abbrev s_l_moved : Stmt := topS 52
theorem sc_l_moved : FnScope ["_law_row_here", "_law_word_here", "_law_move_here"] ["_law_row_here", "_law_word_here"] (C8.fnScope s_l_moved) := C8.fnScope_by (by decide +kernel)
abbrev s_l_rows_right : Stmt := topS 53
theorem sc_l_rows_right : FnScope ["_law_rows", "_law_word_here", "_law_further", "_law_row_here", "_law_there"] ["_law_rows", "_law_word_here", "_law_further"] (C8.fnScope s_l_rows_right) := C8.fnScope_by (by decide +kernel)
abbrev s_l_cell_right : Stmt := topS 54
theorem sc_l_cell_right : FnScope ["_law_dice_here", "_law_n", "_law_word_here", "_law_further", "_law_rows", "_law_turn", "_law_one", "_law_other"] ["_law_dice_here"] (C8.fnScope s_l_cell_right) := C8.fnScope_by (by decide +kernel)
abbrev s_law : Stmt := topS 55
theorem sc_law : FnScope ["_law_script", "_law_at"] ["_law_script"] (C8.fnScope s_law) := C8.fnScope_by (by decide +kernel)
structure Txt (K : PySem.W.Frag) (mg : Str → Option Value) : Prop where
  b_abs : mg "abs" = none
  b_all : mg "all" = none
  b_bool : mg "bool" = none
  b_int : mg "int" = none
  b_isinstance : mg "isinstance" = none
  b_len : mg "len" = none
  b_list : mg "list" = none
  b_max : mg "max" = none
  b_min : mg "min" = none
  b_range : mg "range" = none
  b_sorted : mg "sorted" = none
  b_sum : mg "sum" = none
  b_tuple : mg "tuple" = none
  b_zip : mg "zip" = none
  c_LEAST_POINTS : ∃ u, mg "LEAST_POINTS" = some u ∧ RelV (.int 3) u
  c_MAX_WORD : ∃ u, mg "MAX_WORD" = some u ∧ RelV (.int 2000) u
  c_MOST_POINTS : ∃ u, mg "MOST_POINTS" = some u ∧ RelV (.int 16) u
  c_TOO_LONG : ∃ u, mg "_TOO_LONG" = some u ∧ RelV (.int TL) u
end K11
namespace K11
open PySem PySem.Spec PyProof.Rows L2 Vf
section
variable {P : Program} {w : World} {K : PySem.W.Frag} {mg : Str → Option Value} {base : Heap}
/-! ### rows of ints, their products -/
def Sh (x : Int) : Prop := -TL < x ∧ x < TL
def Row (ns : List Int) : Prop := 4 ≤ ns.length ∧ ns.length ≤ 17 ∧ ∀ x ∈ ns, Sh x
theorem TL_lt : TL.natAbs < 2 ^ 700 := by decide +kernel
theorem Sh.lt {x : Int} (h : Sh x) : x.natAbs < 2 ^ 700 := by
  have := TL_lt
  obtain ⟨a, b⟩ := h
  omega
theorem Sh.le {x : Int} (h : Sh x) : x.natAbs ≤ TL.natAbs := by
  obtain ⟨a, b⟩ := h
  omega
theorem TL2_lt : 2 * TL.natAbs < 2 ^ 700 := by decide +kernel
theorem Row.sh {ns : List Int} (h : Row ns) (i : Nat) (hi : i < ns.length) : Sh (ns.getD i 0) := by
  rw [List.getD_eq_getElem?_getD, List.getElem?_eq_getElem hi]
  exact h.2.2 _ (List.getElem_mem hi)
theorem wide_sh {x y : Int} (hx : x.natAbs < 2 ^ 700) (hy : y.natAbs < 2 ^ 700) : CMulE x y := wmul hx hy (by decide) (by decide) (by decide)
theorem wide_2 {x : Int} : CDivW x 2 := wide_div (b := 2) (by decide) (by decide) (by decide) (by decide)
def dot (ns ms : List Int) : Int := ns.getD 0 0 * ms.getD 0 0 - (List.zipWith (· * ·) (ns.drop 1) (ms.drop 1)).sum
def cub (ns : List Int) : Int := 3 * ns.getD 0 0 - (ns.drop 1).sum
def cntg (ns : List Int) : Int := (dot ns ns + cub ns) / 2 + 1
def gen (ns : List Int) : Int := (dot ns ns - cub ns) / 2 + 1
def terms (ns : List Int) : Int := if ns.getD 0 0 < 0 then 0 else (ns.getD 0 0 + 1) * (ns.getD 0 0 + 2) / 2
def conds (ns : List Int) : Int := (((ns.drop 1).filter fun m => decide (0 < m)).map fun m => m * (m + 1) / 2).sum
def sp_is_short : Sp := fun vs H Q _ => ∃ i : Int, vs = [.int i] ∧ Sh i ∧ Q (.bl true) H
theorem ok_is_short (T : Txt K mg) (D : Df K mg "is_short" s_is_short ["number"]) : C8.Cal P w K mg base 1 "is_short" (sp_is_short) [] := by
  obtain ⟨f, fd, D, hb⟩ := D
  refine C8.cal0 D (.all hb) .nil sc_is_short (fun vs H Q E h => ?_) (fun cdv A outer s H vs Q E hr h => ?_)
  · obtain ⟨i, rfl, _⟩ := h; rfl
  · obtain ⟨i, rfl, hi, q⟩ := h
    refine ⟨_, (pss_one (ps_ret (pe_chain op_lt op_lt (pe_un un_neg (C8.pe_gc (by rfl) T.c_TOO_LONG)) (pv 0) (C8.pe_gc (by rfl) T.c_TOO_LONG)))), ?_⟩
    refine ⟨_, rfl, _, rfl, _, _, rfl, rfl, _, rfl, ?_⟩
    rw [decide_eq_true hi.1]
    refine iteT ⟨_, _, rfl, rfl, ?_⟩
    show Q (V.bl (decide (i < TL))) H
    rw [decide_eq_true hi.2]
    exact q
def sp_is_integer : Sp := fun vs H Q _ => ∃ i : Int, vs = [.int i] ∧ Sh i ∧ Q (.bl true) H
theorem ok_is_integer (T : Txt K mg) (D : Df K mg "is_integer" s_is_integer ["value"]) (c_is_short : C8.Cal P w K mg base 1 "is_short" (sp_is_short) []) : C8.Cal P w K mg base 2 "is_integer" (sp_is_integer) [] := by
  obtain ⟨f, fd, D, hb⟩ := D
  refine C8.cal0 D (.all hb) .nil sc_is_integer (fun vs H Q E h => ?_) (fun cdv A outer s H vs Q E hr h => ?_)
  · obtain ⟨i, rfl, _⟩ := h; rfl
  · obtain ⟨i, rfl, hi, q⟩ := h
    refine ⟨_, (pss_one (ps_ret (pe_and (pe_callB (callK (K := K) rIsi call_isi) (by rfl) T.b_isinstance (by decide +kernel) (pa_cons (pv 0) (pa_cons (pe_bltn (v := .ty "int") (by rfl) T.b_int (by decide +kernel) rfl) pa_nil))) (pe_and (pe_not (pe_callB (callK (K := K) rIsi call_isi) (by rfl) T.b_isinstance (by decide +kernel) (pa_cons (pv 0) (pa_cons (pe_bltn (v := .ty "bool") (by rfl) T.b_bool (by decide +kernel) rfl) pa_nil)))) (pe_one (C8.pe_c c_is_short hr (by decide) (by rfl) (pa_cons (pv 0) pa_nil))))))), ?_⟩
    refine ⟨_, rfl, _, _, _, _, true, rfl, .ty _, .base (.int i), kit_ty (by decide +kernel), true, rfl, iteT ?_⟩
    refine ⟨_, rfl, _, _, _, _, false, rfl, .ty _, .base (.int i), kit_ty (by decide +kernel), false, rfl, true, rfl, iteT ?_⟩
    exact ⟨_, rfl, i, rfl, hi, q⟩
def sp_is_row (K : PySem.W.Frag) : Sp := fun vs H Q _ => ∃ a ns, vs = [.ref a] ∧ SqT K H a (ns.map V.int) ∧ Row ns ∧ ∀ H', Kp N0 H H' → Q (.bl true) H'
theorem ok_is_row (T : Txt K mg) (D : Df K mg "is_row" s_is_row ["value"]) (c_is_integer : C8.Cal P w K mg base 2 "is_integer" (sp_is_integer) []) : C8.Cal P w K mg base 3 "is_row" (sp_is_row K) [] := by
  obtain ⟨f, fd, D, hb⟩ := D
  refine C8.cal0 D (.all hb) .nil sc_is_row (fun vs H Q E h => ?_) (fun cdv A outer s H vs Q E hr h => ?_)
  · obtain ⟨i, ns, rfl, _⟩ := h; rfl
  · obtain ⟨a, ns, rfl, ht, hr1, q⟩ := h
    refine ⟨_, (pss_cons (ps_if (PW.pt (pw_or (pt_not (pt_val (pe_callB (callK (K := K) rIsi call_isi) (by rfl) T.b_isinstance (by decide +kernel) (pa_cons (pv 0) (pa_cons (pe_bltn (v := .ty "tuple") (by rfl) T.b_tuple (by decide +kernel) rfl) pa_nil))))) (pw_or1 (pt_not (pt_chain op_lt op_le (C8.pe_gc (by rfl) T.c_LEAST_POINTS) (pe_callB (callK (K := K) Vf.rLen call_lenI) (by rfl) T.b_len (by decide +kernel) (pa_cons (pv 0) pa_nil)) (pe_op op_add (C8.pe_gc (by rfl) T.c_MOST_POINTS) pe_int)))))) (pss_one (ps_ret pe_bl)) pss_nil)
      (pss_one (ps_ret (pe_callB (callK (K := K) rAll (cr_all rfl)) (by rfl) T.b_all (by decide +kernel) (pa_cons (pe_lc (own := [("entry", 1)]) (g := gName 1) rfl sc_is_row.nd (pi_tup (pv 0)) (C8b.blk (N := ["value", "entry"]) (sc := C8.fnScope s_is_row) (by decide +kernel)) (fun _ _ _ _ _ => (pg_name (i := 1) sc_is_row.nd rfl (Or.inl rfl))) (fun _ _ _ _ _ => pts_nil) (fun _ _ _ _ _ => (C8.pe_c c_is_integer hr (by decide) (by rfl) (pa_cons (pv 1) pa_nil)))) pa_nil))))), ?_⟩
    refine ⟨_, rfl, _, _, _, _, true, rfl, .ty _, tyS ht, kit_ty (by decide +kernel), true, rfl, iteF ?_⟩
    refine ⟨_, rfl, lenS rfl ht ⟨_, _, rfl, rfl, _, rfl, ?_⟩⟩
    rw [decide_eq_true (by rw [List.length_map]; have := hr1.1; omega)]
    refine iteT ⟨_, _, rfl, rfl, _, _, rfl, rfl, _, rfl, ?_⟩
    rw [decide_eq_true (by rw [List.length_map]; have := hr1.2.1; omega)]
    refine iteF ?_
    refine ⟨_, rfl, _, rfl, ⟨_, ht⟩, ?_⟩
    refine lc_bools walk_tup (fun _ => true) (by rw [List.length_map]; have := hr1.2.1; omega) (fun H' k => k.sqT ht) ?_ ?_
    · rintro i x H1 H2 hi k ⟨rfl, hx⟩ R hR
      rw [List.length_map] at hi
      have e : x = .int (ns.getD i 0) := by
        rw [List.getElem?_map, List.getElem?_eq_getElem hi] at hx
        rw [← Option.some.inj hx, List.getD_eq_getElem?_getD, List.getElem?_eq_getElem hi]
        rfl
      subst e
      exact ⟨rfl, _, rfl, _, rfl, hr1.sh i hi, hR _ (.refl _ _)⟩
    · intro D H1 k h1
      refine ⟨D, _, rfl, SqL.of h1, ?_⟩
      rw [show (List.map (fun _ => true) (List.range (ns.map V.int).length)).all id = true by simp]
      exact q _ k
def sp_check_row (K : PySem.W.Frag) : Sp := fun vs H Q _ => ∃ a ns, vs = [.ref a] ∧ SqT K H a (ns.map V.int) ∧ Row ns ∧ ∀ H', Kp N0 H H' → Q .non H'
theorem ok_check_row (T : Txt K mg) (D : Df K mg "check_row" s_check_row ["row"]) (c_is_row : C8.Cal P w K mg base 3 "is_row" (sp_is_row K) []) : C8.Cal P w K mg base 4 "check_row" (sp_check_row K) [] := by
  obtain ⟨f, fd, D, hb⟩ := D
  refine C8.cal0 D (.all hb) .nil sc_check_row (fun vs H Q E h => ?_) (fun cdv A outer s H vs Q E hr h => ?_)
  · obtain ⟨i, ns, rfl, _⟩ := h; rfl
  · obtain ⟨a, ns, rfl, ht, hr1, q⟩ := h
    refine ⟨_, (pss_one (ps_if (pt_not (pt_val (C8.pe_c c_is_row hr (by decide) (by rfl) (pa_cons (pv 0) pa_nil)))) (pss_one ps_never) pss_nil)), ?_⟩
    exact ⟨_, rfl, _, _, rfl, ht, hr1, fun H1 k => ⟨true, rfl, iteF (q _ k)⟩⟩
theorem dot_all {ns ms : List Int} (h1 : 0 < ns.length) (h2 : 0 < ms.length) : 2 * ns.getD 0 0 * ms.getD 0 0 - (List.zipWith (· * ·) ns ms).sum = dot ns ms := by
  match ns, ms, h1, h2 with
  | x :: ns, y :: ms, _, _ =>
    show 2 * x * y - (x * y + (List.zipWith (· * ·) ns ms).sum) = x * y - (List.zipWith (· * ·) ns ms).sum
    generalize (List.zipWith (· * ·) ns ms).sum = z
    grind
def sp_product_of (K : PySem.W.Frag) : Sp := fun vs H Q _ => ∃ a b ns ms, vs = [.ref a, .ref b] ∧ SqT K H a (ns.map V.int) ∧ SqT K H b (ms.map V.int) ∧ Row ns ∧ Row ms ∧ ms.length = ns.length ∧ ∀ H', Kp N0 H H' → Q (.int (dot ns ms)) H'
theorem ok_product_of (T : Txt K mg) (D : Df K mg "product_of" s_product_of ["one", "other"]) : C8.Cal P w K mg base 1 "product_of" (sp_product_of K) [] := by
  obtain ⟨f, fd, D, hb⟩ := D
  refine C8.cal0 D (.all hb) .nil sc_product_of (fun vs H Q E h => ?_) (fun cdv A outer s H vs Q E hr h => ?_)
  · obtain ⟨_, _, _, _, rfl, _⟩ := h; rfl
  · obtain ⟨a, b, ns, ms, rfl, ha, hb, ra, rb, hl, q⟩ := h
    refine ⟨_, (pss_one (ps_ret (pe_op op_sub (pe_op op_mulE (pe_op op_mulE pe_int (pe_ix (ixK (K := K) rIxT ix_tup) (pv 0) pe_int (fun _ _ => rfl))) (pe_ix (ixK (K := K) rIxT ix_tup) (pv 1) pe_int (fun _ _ => rfl))) (pe_callB (callK (K := K) rSum (cr_sum rfl)) (by rfl) T.b_sum (by decide +kernel) (pa_cons (pe_lc (own := [("left", 2), ("right", 3)]) (g := gTup K 2 (gCons (gName 2) (gCons (gName 3) gNil))) rfl sc_product_of.nd (RZ.pi_zipA (by rfl) T.b_zip (pa_cons (pv 0) (pa_cons (pv 1) pa_nil))) (C8b.blk (N := ["one", "other", "left", "right"]) (sc := C8.fnScope s_product_of) (by decide +kernel)) (fun _ _ _ _ _ => (pg_tup rfl (pgs_cons (pg_name (i := 2) sc_product_of.nd rfl (Or.inl rfl)) (pgs_cons (pg_name (i := 3) sc_product_of.nd rfl (Or.inl rfl)) pgs_nil)))) (fun _ _ _ _ _ => pts_nil) (fun _ _ _ _ _ => (pe_op op_mulE (pv 2) (pv 3)))) pa_nil))))), ?_⟩
    have l1 := ra.1
    have l2 := ra.2.1
    have a0 := (ra.sh 0 (by omega)).le
    refine ⟨_, rfl, _, _, _, _, rfl, rfl, ha, at_row0 (by omega), _, _, rfl, rfl, wide_sh (by decide) (ra.sh 0 (by omega)).lt, ?_⟩
    refine ⟨_, rfl, _, _, _, _, rfl, rfl, hb, at_row0 (by omega), _, _, rfl, rfl, wide_sh (x := 2 * ns.getD 0 0) (Nat.lt_of_le_of_lt (by omega : (2 * ns.getD 0 0).natAbs ≤ 2 * TL.natAbs) TL2_lt) (rb.sh 0 (by omega)).lt, ?_⟩
    refine ⟨_, rfl, _, rfl, _, _, _, _, rfl, .inr ⟨ha, hb, ?_⟩⟩
    refine lc_ints (walk_zipT rfl) (fun i => ns.getD i 0 * ms.getD i 0) (by simp; omega) (fun H' k => ⟨k.sqT ha, k.sqT hb⟩) ?_ ?_
    · rintro i x H3 H4 hi k3 ⟨T, x1, x2, rfl, hT, rfl, e1, e2⟩ R hR
      have hi1 : i < ns.length := by simp at hi ⊢; omega
      have hi2 : i < ms.length := by omega
      obtain rfl : x1 = _ := (Option.some.inj ((int_at hi1).symm.trans e1)).symm
      obtain rfl : x2 = _ := (Option.some.inj ((int_at hi2).symm.trans e2)).symm
      exact ⟨T, _, rfl, SqT.of upd_same, rfl, _, _, rfl, _, _, rfl, rfl, rfl, _, rfl, _, rfl, _, _, rfl, rfl, wide_sh (ra.sh _ hi1).lt (rb.sh _ hi2).lt, hR _ (.new hT)⟩
    · intro D H3 k3 h3
      rw [range_zip (· * ·) ns ms _ (by simp)] at h3
      refine ⟨D, _, rfl, SqL.of h3, _, _, rfl, rfl, ?_⟩
      dsimp only
      rw [dot_all (by omega) (by omega)]
      exact q _ k3
def sp_product_with_cubic (K : PySem.W.Frag) : Sp := fun vs H Q _ => ∃ a ns, vs = [.ref a] ∧ SqT K H a (ns.map V.int) ∧ Row ns ∧ ∀ H', Kp N0 H H' → Q (.int (cub ns)) H'
theorem ok_product_with_cubic (T : Txt K mg) (D : Df K mg "product_with_cubic" s_product_with_cubic ["row"]) : C8.Cal P w K mg base 1 "product_with_cubic" (sp_product_with_cubic K) [] := by
  obtain ⟨f, fd, D, hb⟩ := D
  refine C8.cal0 D (.all hb) .nil sc_product_with_cubic (fun vs H Q E h => ?_) (fun cdv A outer s H vs Q E hr h => ?_)
  · obtain ⟨_, _, rfl, _⟩ := h; rfl
  · obtain ⟨a, ns, rfl, ha, ra, q⟩ := h
    refine ⟨_, (pss_one (ps_ret (pe_op op_sub (pe_op op_mulE pe_int (pe_ix (ixK (K := K) rIxT ix_tup) (pv 0) pe_int (fun _ _ => rfl))) (pe_callB (callK (K := K) rSumT (cr_sumT rfl)) (by rfl) T.b_sum (by decide +kernel) (pa_cons (pe_slice (slK (K := K) rSlI sl_tupI) (pv 0) (po_some pe_int) po_none) pa_nil))))), ?_⟩
    have l1 := ra.1
    refine ⟨_, rfl, _, _, _, _, rfl, rfl, ha, at_row0 (by omega), _, _, rfl, rfl, wide_sh (by decide) (ra.sh 0 (by omega)).lt, ?_⟩
    refine ⟨_, rfl, _, rfl, slS ha (nw1 (by rw [List.length_map]; omega)) fun p H1 k1 hp => ?_⟩
    rw [cut_1] at hp
    exact ⟨p, _, rfl, SqT.of hp, _, _, rfl, rfl, q _ k1⟩
def sp_counting_of (K : PySem.W.Frag) : Sp := fun vs H Q _ => ∃ a ns, vs = [.ref a] ∧ H a = some (.tup (ns.map V.int)) ∧ Row ns ∧ ∀ H', Kp N0 H H' → Q (.int (cntg ns)) H'
theorem ok_counting_of (T : Txt K mg) (D : Df K mg "counting_of" s_counting_of ["row"]) (c_product_of : C8.Cal P w K mg base 1 "product_of" (sp_product_of K) []) (c_product_with_cubic : C8.Cal P w K mg base 1 "product_with_cubic" (sp_product_with_cubic K) []) : C8.Cal P w K mg base 2 "counting_of" (sp_counting_of K) [] := by
  obtain ⟨f, fd, D, hb⟩ := D
  refine C8.cal0 D (.all hb) .nil sc_counting_of (fun vs H Q E h => ?_) (fun cdv A outer s H vs Q E hr h => ?_)
  · obtain ⟨_, _, rfl, _⟩ := h; rfl
  · obtain ⟨a, ns, rfl, ha, ra, q⟩ := h
    refine ⟨_, (pss_one (ps_ret (pe_op op_add (pe_op op_fdivW (pe_op op_add (C8.pe_c c_product_of hr (by decide) (by rfl) (pa_cons (pv 0) (pa_cons (pv 0) pa_nil))) (C8.pe_c c_product_with_cubic hr (by decide) (by rfl) (pa_cons (pv 0) pa_nil))) pe_int) pe_int))), ?_⟩
    refine ⟨_, rfl, _, rfl, _, _, _, _, rfl, (SqT.of ha), (SqT.of ha), ra, ra, rfl, fun H1 k1 => ?_⟩
    refine ⟨_, rfl, _, _, rfl, (SqT.of (k1.tup _ _ ha)), ra, fun H2 k2 => ?_⟩
    exact ⟨_, _, rfl, rfl, _, _, rfl, rfl, wide_2, _, _, rfl, rfl, q _ (k1.trans k2)⟩
def sp_counting (K : PySem.W.Frag) : Sp := fun vs H Q _ => ∃ a ns, vs = [.ref a] ∧ H a = some (.tup (ns.map V.int)) ∧ Row ns ∧ ∀ H', Kp N0 H H' → Q (.int (cntg ns)) H'
theorem ok_counting (T : Txt K mg) (D : Df K mg "counting" s_counting ["row"]) (c_check_row : C8.Cal P w K mg base 4 "check_row" (sp_check_row K) []) (c_counting_of : C8.Cal P w K mg base 2 "counting_of" (sp_counting_of K) []) : C8.Cal P w K mg base 5 "counting" (sp_counting K) [] := by
  obtain ⟨f, fd, D, hb⟩ := D
  refine C8.cal0 D (.all hb) .nil sc_counting (fun vs H Q E h => ?_) (fun cdv A outer s H vs Q E hr h => ?_)
  · obtain ⟨_, _, rfl, _⟩ := h; rfl
  · obtain ⟨a, ns, rfl, ha, ra, q⟩ := h
    refine ⟨_, (pss_cons (ps_expr (C8.pe_c c_check_row hr (by decide) (by rfl) (pa_cons (pv 0) pa_nil)))
      (pss_one (ps_ret (C8.pe_c c_counting_of hr (by decide) (by rfl) (pa_cons (pv 0) pa_nil))))), ?_⟩
    refine ⟨_, rfl, _, _, rfl, (SqT.of ha), ra, fun H1 k1 => ?_⟩
    exact ⟨_, rfl, _, _, rfl, (k1.tup _ _ ha), ra, fun H2 k2 => q _ (k1.trans k2)⟩
def sp_genus (K : PySem.W.Frag) : Sp := fun vs H Q _ => ∃ a ns, vs = [.ref a] ∧ H a = some (.tup (ns.map V.int)) ∧ Row ns ∧ ∀ H', Kp N0 H H' → Q (.int (gen ns)) H'
/-! ### the dice -/
def sp_l_dice (K : PySem.W.Frag) : Sp := fun vs H Q _ => ∃ (a : Addr) (ns : List Int) (i : Nat), vs = [.ref a, .int i] ∧ SqL K H a (ns.map V.int) ∧ i ≤ 100 ∧ ∀ p H', H p = none → Kp N0 H H' → Dc p H' → Q (.ref p) H'
theorem ok_l_dice (T : Txt K mg) (D : Df K mg "_law_dice" s_l_dice ["_law_script", "_law_at"]) : C8.Cal P w K mg base 1 "_law_dice" (sp_l_dice K) [] := by
  obtain ⟨f, fd, D, hb⟩ := D
  refine C8.cal0 D (.all hb) .nil sc_l_dice (fun vs H Q E h => ?_) (fun cdv A outer s H vs Q E hr h => ?_)
  · obtain ⟨_, _, _, rfl, _⟩ := h; rfl
  · obtain ⟨a, ns, i, rfl, ha, hi, q⟩ := h
    refine ⟨_, (pss_cons (ps_set (i := 2) sc_l_dice.nd rfl (Or.inl rfl) (pe_op op_add (pe_op op_mulE pe_int (pv 1)) pe_int))
      (pss_cons (ps_if (pt_cmpR op_lt (pv 1) (pe_callB (callK (K := K) Vf.rLen call_lenI) (by rfl) T.b_len (by decide +kernel) (pa_cons (pv 0) pa_nil)) (nomark _)) (pss_one (ps_set (i := 2) sc_l_dice.nd rfl (Or.inl rfl) (pe_ix (ixK (K := K) rIxL ix_list) (pv 0) (pv 1) (fun _ _ => rfl)))) pss_nil)
      (pss_cons (ps_set (i := 3) sc_l_dice.nd rfl (Or.inl rfl) (pe_op op_mod (pe_callTy call_int1 (by rfl) T.b_int (by decide +kernel) (pa_cons (pe_callB call_abs (by rfl) T.b_abs (by decide +kernel) (pa_cons (pv 2) pa_nil)) pa_nil)) (pe_op op_powW (pe_op op_powW pe_int pe_int) pe_int)))
      (pss_cons (ps_set (i := 4) sc_l_dice.nd rfl (Or.inl rfl) (pe_op op_fdivW (pv 3) (pe_op op_powW pe_int pe_int)))
      (pss_cons (ps_set (i := 5) sc_l_dice.nd rfl (Or.inl rfl) (pe_op op_add (pe_op op_add (pe_op op_add (pe_op op_mulE (pe_op op_mod (pv 3) pe_int) pe_int) (pe_op op_mulE pe_int (pv 1))) (pe_op op_mulE pe_int (pe_callTy call_int1 (by rfl) T.b_int (by decide +kernel) (pa_cons (pe_cmpR op_lt (pv 2) pe_int (nomark _)) pa_nil)))) pe_int))
      (pss_one (ps_ret (pe_lstN (pa_cons (pv 4) (pa_cons (pe_op op_mod (pv 5) pe_int) (pa_cons pe_int pa_nil))))))))))), ?_⟩
    have hw : ∀ {n : Int}, n.natAbs ≤ 100 → n.natAbs < 2 ^ 64 := fun h => Nat.lt_of_le_of_lt h (by decide)
    refine ⟨_, rfl, _, _, rfl, rfl, wmul (a := 64) (b := 64) (by decide) (hw (by omega)) (by decide) (by decide) (by decide), _, _, rfl, rfl, ?_⟩
    refine ⟨_, rfl, _, rfl, lenL rfl ha ⟨_, _, rfl, rfl, _, rfl, ?_⟩⟩
    refine ite2 (fun c => ?_) (fun c => ?_)
    · have hc : i < ns.length := by
        have := of_decide_eq_true c
        rw [List.length_map] at this
        omega
      refine ⟨_, rfl, _, rfl, a, _, _, _, rfl, rfl, ha, at_row hc, ?_⟩
      refine ⟨_, rfl, _, rfl, .inl ⟨_, rfl, ?_⟩⟩
      refine ⟨_, _, rfl, rfl, ⟨by decide, by decide⟩, _, _, rfl, rfl, ⟨by decide, by decide +kernel⟩, _, _, rfl, rfl, pow_pos_, ?_⟩
      refine ⟨_, rfl, _, _, rfl, rfl, ⟨by decide, by decide⟩, _, _, rfl, rfl, wide_div (b := 64) (by decide) (by decide) (by decide) (by decide), ?_⟩
      refine ⟨_, rfl, _, _, rfl, rfl, lp (by decide), _, _, rfl, rfl, wmul (a := 64) (b := 64) (mod_lt64 (by decide)) (by decide) (by decide) (by decide) (by decide), ?_⟩
      refine ⟨_, rfl, _, _, rfl, rfl, wmul (a := 64) (b := 64) (by decide) (hw (by omega)) (by decide) (by decide) (by decide), _, _, rfl, rfl, ?_⟩
      refine ⟨_, rfl, _, _, rfl, rfl, .inr ⟨_, rfl, _, _, rfl, rfl, wmul (a := 64) (b := 64) (by decide) b2i_lt (by decide) (by decide) (by decide), _, _, rfl, rfl, _, _, rfl, rfl, ?_⟩⟩
      refine ⟨_, rfl, _, rfl, _, _, rfl, rfl, lp (by decide), newL (sz_ (by simp)) fun p H1 n1 k1 h1 => q p H1 n1 k1 ⟨_, _, _, h1⟩⟩
    · refine ⟨_, rfl, _, rfl, .inl ⟨_, rfl, ?_⟩⟩
      refine ⟨_, _, rfl, rfl, ⟨by decide, by decide⟩, _, _, rfl, rfl, ⟨by decide, by decide +kernel⟩, _, _, rfl, rfl, pow_pos_, ?_⟩
      refine ⟨_, rfl, _, _, rfl, rfl, ⟨by decide, by decide⟩, _, _, rfl, rfl, wide_div (b := 64) (by decide) (by decide) (by decide) (by decide), ?_⟩
      refine ⟨_, rfl, _, _, rfl, rfl, lp (by decide), _, _, rfl, rfl, wmul (a := 64) (b := 64) (mod_lt64 (by decide)) (by decide) (by decide) (by decide) (by decide), ?_⟩
      refine ⟨_, rfl, _, _, rfl, rfl, wmul (a := 64) (b := 64) (by decide) (hw (by omega)) (by decide) (by decide) (by decide), _, _, rfl, rfl, ?_⟩
      refine ⟨_, rfl, _, _, rfl, rfl, .inr ⟨_, rfl, _, _, rfl, rfl, wmul (a := 64) (b := 64) (by decide) b2i_lt (by decide) (by decide) (by decide), _, _, rfl, rfl, _, _, rfl, rfl, ?_⟩⟩
      refine ⟨_, rfl, _, rfl, _, _, rfl, rfl, lp (by decide), newL (sz_ (by simp)) fun p H1 n1 k1 h1 => q p H1 n1 k1 ⟨_, _, _, h1⟩⟩
def sp_l_roll : Sp := fun vs H Q _ => ∃ (a : Addr) (n : Int), vs = [.ref a, .int n] ∧ Dc a H ∧ 0 < n ∧ n.natAbs < 2 ^ 700 ∧ ∀ r H', 0 ≤ r → r < n → DR a H H' → Q (.int r) H'
theorem ok_l_roll (T : Txt K mg) (D : Df K mg "_law_roll" s_l_roll ["_law_dice_here", "_law_total"]) : C8.Cal P w K mg base 1 "_law_roll" (sp_l_roll) [] := by
  obtain ⟨f, fd, D, hb⟩ := D
  refine C8.cal0 D (.all hb) .nil sc_l_roll (fun vs H Q E h => ?_) (fun cdv A outer s H vs Q E hr h => ?_)
  · obtain ⟨_, _, rfl, _⟩ := h; rfl
  · obtain ⟨a, n, rfl, ⟨l, m, c, hd⟩, h0, hn, q⟩ := h
    refine ⟨_, (pss_cons (ps_set (i := 2) sc_l_roll.nd rfl (Or.inl rfl) (pe_callTy call_int1 (by rfl) T.b_int (by decide +kernel) (pa_cons (pv 1) pa_nil)))
      (pss_cons (ps_if (pt_cmpR op_gt (pe_ix (ixK (K := K) rIxL ix_list) (pv 0) pe_int (fun _ _ => rfl)) pe_int (nomark _)) (pss_cons (ps_set (i := 3) sc_l_roll.nd rfl (Or.inl rfl) (pe_op op_mod (pe_ix (ixK (K := K) rIxL ix_list) (pv 0) pe_int (fun _ _ => rfl)) (pv 2)))
      (pss_cons (ps_asg (pe_op op_fdivW (pe_ix (ixK (K := K) rIxL ix_list) (pv 0) pe_int (fun _ _ => rfl)) (pv 2)) (pg_sub (pv 0) pe_int set_list))
      (pss_one (ps_ret (pe_callTy call_int1 (by rfl) T.b_int (by decide +kernel) (pa_cons (pv 3) pa_nil)))))) pss_nil)
      (pss_cons (ps_asg (pe_op op_add (pe_ix (ixK (K := K) rIxL ix_list) (pv 0) pe_int (fun _ _ => rfl)) pe_int) (pg_sub (pv 0) pe_int set_list))
      (pss_cons (ps_set (i := 4) sc_l_roll.nd rfl (Or.inl rfl) (pe_op op_mod (pe_op op_add (pe_ix (ixK (K := K) rIxL ix_list) (pv 0) pe_int (fun _ _ => rfl)) (pe_op op_mulE pe_int (pe_ix (ixK (K := K) rIxL ix_list) (pv 0) pe_int (fun _ _ => rfl)))) pe_int))
      (pss_cons (ps_set (i := 5) sc_l_roll.nd rfl (Or.inl rfl) (pe_op op_add (pe_op op_mulE (pe_op op_mod (pe_op op_mulE (pv 4) (pv 4)) pe_int) (pv 4)) (pe_op op_mulE pe_int (pe_ix (ixK (K := K) rIxL ix_list) (pv 0) pe_int (fun _ _ => rfl)))))
      (pss_cons (ps_set (i := 5) sc_l_roll.nd rfl (Or.inl rfl) (pe_op op_mod (pv 5) pe_int))
      (pss_one (ps_ret (pe_callTy call_int1 (by rfl) T.b_int (by decide +kernel) (pa_cons (pe_op op_mod (pe_op op_fdivW (pv 5) pe_int) (pv 2)) pa_nil)))))))))), ?_⟩
    refine ⟨_, rfl, .inl ⟨_, rfl, ?_⟩⟩
    refine ⟨_, rfl, a, _, _, _, rfl, rfl, SqL.of hd, rfl, _, _, rfl, rfl, _, rfl, ?_⟩
    refine ite2 (fun _ => ?_) (fun _ => ?_)
    · refine ⟨_, rfl, a, _, _, _, rfl, rfl, SqL.of hd, rfl, _, rfl, _, _, rfl, rfl, h0, ?_⟩
      refine ⟨_, rfl, a, _, _, _, rfl, rfl, SqL.of hd, rfl, _, rfl, _, _, rfl, rfl, wide_div h0 hn (by decide) (by decide), ?_⟩
      refine ⟨_, rfl, a, _, _, 0, rfl, rfl, hd, rfl, ?_⟩
      exact ⟨_, rfl, .inl ⟨_, rfl, q _ _ (Int.emod_nonneg _ (by omega)) (Int.emod_lt_of_pos _ h0) ⟨.mut rfl hd, _, _, _, upd_same⟩⟩⟩
    · refine ⟨_, rfl, a, _, _, _, rfl, rfl, SqL.of hd, rfl, _, _, rfl, rfl, ?_⟩
      refine ⟨_, rfl, a, _, _, 2, rfl, rfl, hd, rfl, ?_⟩
      have hd1 : upd H a (.lst [.int l, .int m, .int (c + 1)]) a = some (.lst [.int l, .int m, .int (c + 1)]) := upd_same
      have k1 : DR a H (upd H a (.lst [.int l, .int m, .int (c + 1)])) := ⟨.mut rfl hd, _, _, _, upd_same⟩
      refine ⟨_, rfl, a, _, _, _, rfl, rfl, SqL.of hd1, rfl, _, rfl, a, _, _, _, rfl, rfl, SqL.of hd1, rfl, _, _, rfl, rfl, mulX_left (by decide), _, _, rfl, rfl, _, _, rfl, rfl, lp (by decide), ?_⟩
      refine ⟨_, rfl, _, rfl, _, _, rfl, rfl, wmul (a := 64) (b := 64) (mod_lt64 (by decide)) (mod_lt64 (by decide)) (by decide) (by decide) (by decide), _, _, rfl, rfl, lp (by decide), _, rfl, _, _, rfl, rfl, wmul (a := 64) (b := 64) (mod_lt64 (by decide)) (mod_lt64 (by decide)) (by decide) (by decide) (by decide), _, rfl, a, _, _, _, rfl, rfl, SqL.of hd1, rfl, _, _, rfl, rfl, mulX_left (by decide), _, _, rfl, rfl, ?_⟩
      refine ⟨_, rfl, _, _, rfl, rfl, lp (by decide), ?_⟩
      exact ⟨_, rfl, _, _, rfl, rfl, wide_div (b := 64) (by decide) (by decide) (by decide) (by decide), _, rfl, _, _, rfl, rfl, h0, .inl ⟨_, rfl, q _ _ (Int.emod_nonneg _ (by omega)) (Int.emod_lt_of_pos _ h0) k1⟩⟩

/-! ### more of rows -/
def sp_is_from_to : Sp := fun vs H Q _ => ∃ i l m : Int, vs = [.int i, .int l, .int m] ∧ Sh i ∧ l ≤ i ∧ i ≤ m ∧ Q (.bl true) H
theorem ok_is_from_to (T : Txt K mg) (D : Df K mg "is_from_to" s_is_from_to ["value", "least", "most"]) (c_is_integer : C8.Cal P w K mg base 2 "is_integer" (sp_is_integer) []) : C8.Cal P w K mg base 3 "is_from_to" (sp_is_from_to) [] := by
  obtain ⟨f, fd, D, hb⟩ := D
  refine C8.cal0 D (.all hb) .nil sc_is_from_to (fun vs H Q E h => ?_) (fun cdv A outer s H vs Q E hr h => ?_)
  · obtain ⟨_, _, _, rfl, _⟩ := h; rfl
  · obtain ⟨i, l, m, rfl, hi, h1, h2, q⟩ := h
    refine ⟨_, (pss_one (ps_ret (pe_and (C8.pe_c c_is_integer hr (by decide) (by rfl) (pa_cons (pv 0) pa_nil)) (pe_one (pe_chain op_le op_le (pv 1) (pv 0) (pv 2)))))), ?_⟩
    refine ⟨_, rfl, _, rfl, hi, true, rfl, iteT ?_⟩
    refine ⟨_, rfl, _, rfl, _, _, rfl, rfl, _, rfl, ?_⟩
    rw [decide_eq_true h1]
    refine iteT ⟨_, rfl, _, _, rfl, rfl, ?_⟩
    show Q (V.bl (decide (i ≤ m))) H
    rw [decide_eq_true h2]
    exact q
theorem sh_small {i : Int} (h0 : -(10 ^ 60) ≤ i) (h1 : i ≤ 10 ^ 60) : Sh i := by
  have : (10 : Int) ^ 60 < TL := by decide +kernel
  exact ⟨by omega, by omega⟩
def sp_check_many : Sp := fun vs H Q _ => ∃ (n : Nat), vs = [.int n, .int 16] ∧ 3 ≤ n ∧ n ≤ 16 ∧ Q .non H
def crow (n : Nat) : List Int := 3 :: List.replicate n 1
def lrow (n : Nat) : List Int := 1 :: List.replicate n 0
def prow (n i : Nat) : List Int := 0 :: (List.range n).map fun j => 0 - (if j = i then 1 else 0)
def sp_cubic (K : PySem.W.Frag) : Sp := fun vs H Q _ => ∃ (n : Nat), vs = [.int n] ∧ 3 ≤ n ∧ n ≤ 16 ∧ ∀ p H', Kp N0 H H' → H' p = some (.tup ((crow n).map V.int)) → Q (.ref p) H'
def sp_line_row (K : PySem.W.Frag) : Sp := fun vs H Q _ => ∃ (n : Nat), vs = [.int n] ∧ 3 ≤ n ∧ n ≤ 16 ∧ ∀ p H', Kp N0 H H' → H' p = some (.tup ((lrow n).map V.int)) → Q (.ref p) H'
theorem prow_eq (n i : Nat) (h : i < n) : List.replicate (i + 1) 0 ++ [(-1 : Int)] ++ List.replicate (n - 1 - i) 0 = prow n i := by
  unfold prow
  refine List.ext_getElem (by simp; omega) fun j h1 h2 => ?_
  cases j with
  | zero => simp [List.replicate_succ]
  | succ j =>
    simp only [List.getElem_cons_succ, List.getElem_map, List.getElem_range]
    by_cases e : j = i
    · subst e
      simp [List.getElem_append]
    · rw [if_neg e]
      by_cases lt : j < i
      · simp [List.getElem_append, lt]
      · obtain ⟨k, rfl⟩ : ∃ k, j = i + 1 + k := ⟨j - (i + 1), by omega⟩
        have e2 : ¬ i + 1 + k + 1 < i + 1 + 1 := by omega
        rw [List.getElem_append_right (by simp)]
        simp
def sp_point_row (K : PySem.W.Frag) : Sp := fun vs H Q _ => ∃ (n i : Nat), vs = [.int n, .int i] ∧ 3 ≤ n ∧ n ≤ 16 ∧ i < n ∧ ∀ p H', Kp N0 H H' → H' p = some (.tup ((prow n i).map V.int)) → Q (.ref p) H'
def sp_check_rows (K : PySem.W.Frag) : Sp := fun vs H Q _ => ∃ a b ns ms, vs = [.ref a, .ref b] ∧ H a = some (.tup (ns.map V.int)) ∧ H b = some (.tup (ms.map V.int)) ∧ Row ns ∧ Row ms ∧ ms.length = ns.length ∧ ∀ H', Kp N0 H H' → Q .non H'
theorem ok_check_rows (T : Txt K mg) (D : Df K mg "check_rows" s_check_rows ["one", "other"]) (c_check_row : C8.Cal P w K mg base 4 "check_row" (sp_check_row K) []) : C8.Cal P w K mg base 5 "check_rows" (sp_check_rows K) [] := by
  obtain ⟨f, fd, D, hb⟩ := D
  refine C8.cal0 D (.all hb) .nil sc_check_rows (fun vs H Q E h => ?_) (fun cdv A outer s H vs Q E hr h => ?_)
  · obtain ⟨_, _, _, _, rfl, _⟩ := h; rfl
  · obtain ⟨a, b, ns, ms, rfl, ha, hb, ra, rb, hl, q⟩ := h
    refine ⟨_, (pss_cons (ps_expr (C8.pe_c c_check_row hr (by decide) (by rfl) (pa_cons (pv 0) pa_nil)))
      (pss_cons (ps_expr (C8.pe_c c_check_row hr (by decide) (by rfl) (pa_cons (pv 1) pa_nil)))
      (pss_one (ps_if (pt_cmpR op_ne (pe_callB (callK (K := K) Vf.rLen call_lenI) (by rfl) T.b_len (by decide +kernel) (pa_cons (pv 0) pa_nil)) (pe_callB (callK (K := K) Vf.rLen call_lenI) (by rfl) T.b_len (by decide +kernel) (pa_cons (pv 1) pa_nil)) (nomark _)) (pss_one ps_never) pss_nil)))), ?_⟩
    refine ⟨_, rfl, _, _, rfl, (SqT.of ha), ra, fun H1 k1 => ⟨_, rfl, _, _, rfl, (SqT.of (k1.tup _ _ hb)), rb, fun H2 k2 => ?_⟩⟩
    have k := k1.trans k2
    refine ⟨_, rfl, lenT rfl (k.tup _ _ ha) ⟨_, rfl, lenT rfl (k.tup _ _ hb) ⟨rfl, _, rfl, iteNe ?_ (q _ k)⟩⟩⟩
    simp [hl]
def sp_product (K : PySem.W.Frag) : Sp := fun vs H Q _ => ∃ a b ns ms, vs = [.ref a, .ref b] ∧ H a = some (.tup (ns.map V.int)) ∧ H b = some (.tup (ms.map V.int)) ∧ Row ns ∧ Row ms ∧ ms.length = ns.length ∧ ∀ H', Kp N0 H H' → Q (.int (dot ns ms)) H'
theorem ok_product (T : Txt K mg) (D : Df K mg "product" s_product ["one", "other"]) (c_check_rows : C8.Cal P w K mg base 5 "check_rows" (sp_check_rows K) []) (c_product_of : C8.Cal P w K mg base 1 "product_of" (sp_product_of K) []) : C8.Cal P w K mg base 6 "product" (sp_product K) [] := by
  obtain ⟨f, fd, D, hb⟩ := D
  refine C8.cal0 D (.all hb) .nil sc_product (fun vs H Q E h => ?_) (fun cdv A outer s H vs Q E hr h => ?_)
  · obtain ⟨_, _, _, _, rfl, _⟩ := h; rfl
  · obtain ⟨a, b, ns, ms, rfl, ha, hb, ra, rb, hl, q⟩ := h
    refine ⟨_, (pss_cons (ps_expr (C8.pe_c c_check_rows hr (by decide) (by rfl) (pa_cons (pv 0) (pa_cons (pv 1) pa_nil))))
      (pss_one (ps_ret (C8.pe_c c_product_of hr (by decide) (by rfl) (pa_cons (pv 0) (pa_cons (pv 1) pa_nil)))))), ?_⟩
    refine ⟨_, rfl, _, rfl, _, _, _, _, rfl, ha, hb, ra, rb, hl, fun H1 k1 => ?_⟩
    exact ⟨_, rfl, _, rfl, _, _, _, _, rfl, (SqT.of (k1.tup _ _ ha)), (SqT.of (k1.tup _ _ hb)), ra, rb, hl, fun H2 k2 => q _ (k1.trans k2)⟩
def sp_square (K : PySem.W.Frag) : Sp := fun vs H Q _ => ∃ a ns, vs = [.ref a] ∧ H a = some (.tup (ns.map V.int)) ∧ Row ns ∧ ∀ H', Kp N0 H H' → Q (.int (dot ns ns)) H'
def sp_with_cubic (K : PySem.W.Frag) : Sp := fun vs H Q _ => ∃ a ns, vs = [.ref a] ∧ H a = some (.tup (ns.map V.int)) ∧ Row ns ∧ ∀ H', Kp N0 H H' → Q (.int (cub ns)) H'
theorem ok_with_cubic (T : Txt K mg) (D : Df K mg "with_cubic" s_with_cubic ["row"]) (c_check_row : C8.Cal P w K mg base 4 "check_row" (sp_check_row K) []) (c_product_with_cubic : C8.Cal P w K mg base 1 "product_with_cubic" (sp_product_with_cubic K) []) : C8.Cal P w K mg base 5 "with_cubic" (sp_with_cubic K) [] := by
  obtain ⟨f, fd, D, hb⟩ := D
  refine C8.cal0 D (.all hb) .nil sc_with_cubic (fun vs H Q E h => ?_) (fun cdv A outer s H vs Q E hr h => ?_)
  · obtain ⟨_, _, rfl, _⟩ := h; rfl
  · obtain ⟨a, ns, rfl, ha, ra, q⟩ := h
    refine ⟨_, (pss_cons (ps_expr (C8.pe_c c_check_row hr (by decide) (by rfl) (pa_cons (pv 0) pa_nil)))
      (pss_one (ps_ret (C8.pe_c c_product_with_cubic hr (by decide) (by rfl) (pa_cons (pv 0) pa_nil))))), ?_⟩
    refine ⟨_, rfl, _, _, rfl, (SqT.of ha), ra, fun H1 k1 => ?_⟩
    exact ⟨_, rfl, _, _, rfl, (SqT.of (k1.tup _ _ ha)), ra, fun H2 k2 => q _ (k1.trans k2)⟩
def AllSh (ns : List Int) : Prop := ∀ x ∈ ns, Sh x
def sp_are_short (K : PySem.W.Frag) : Sp := fun vs H Q _ => ∃ a ns, vs = [.ref a] ∧ (H a = some (.lst (ns.map V.int)) ∨ H a = some (.tup (ns.map V.int))) ∧ AllSh ns ∧ ns.length ≤ 100 ∧ ∀ H', Kp N0 H H' → Q (.bl true) H'
theorem ok_are_short (T : Txt K mg) (D : Df K mg "are_short" s_are_short ["numbers"]) (c_is_short : C8.Cal P w K mg base 1 "is_short" (sp_is_short) []) : C8.Cal P w K mg base 2 "are_short" (sp_are_short K) [] := by
  obtain ⟨f, fd, D, hb⟩ := D
  refine C8.cal0 D (.all hb) .nil sc_are_short (fun vs H Q E h => ?_) (fun cdv A outer s H vs Q E hr h => ?_)
  · obtain ⟨_, _, rfl, _⟩ := h; rfl
  · obtain ⟨a, ns, rfl, ha, hs, hl, q⟩ := h
    refine ⟨_, (pss_one (ps_ret (pe_callB (callK (K := K) rAll (cr_all rfl)) (by rfl) T.b_all (by decide +kernel) (pa_cons (pe_lc (own := [("number", 1)]) (g := gName 1) rfl sc_are_short.nd (pi_seq (pv 0)) (C8b.blk (N := ["numbers", "number"]) (sc := C8.fnScope s_are_short) (by decide +kernel)) (fun _ _ _ _ _ => (pg_name (i := 1) sc_are_short.nd rfl (Or.inl rfl))) (fun _ _ _ _ _ => pts_nil) (fun _ _ _ _ _ => (C8.pe_c c_is_short hr (by decide) (by rfl) (pa_cons (pv 1) pa_nil)))) pa_nil)))), ?_⟩
    have fin : ∀ D H1, Kp N0 H H1 → H1 D = some (.lst (((List.range (ns.map V.int).length).map fun _ => true).map V.bl)) → rAll K [V.ref D] H1 Q := by
      intro D H1 k h1
      refine ⟨D, _, rfl, SqL.of h1, ?_⟩
      rw [show (List.map (fun _ => true) (List.range (ns.map V.int).length)).all id = true by simp]
      exact q _ k
    have sh : ∀ i, i < ns.length → Sh (ns.getD i 0) := fun i hi => by
      rw [List.getD_eq_getElem?_getD, List.getElem?_eq_getElem hi]
      exact hs _ (List.getElem_mem hi)
    rcases ha with ha | ha
    · refine ⟨_, rfl, _, rfl, .inl ⟨⟨_, SqL.of ha⟩, ?_⟩⟩
      refine lc_bools walk_list (fun _ => true) (by simp; omega) (fun H' k => SqL.of (k.keep _ _ (fun z => z) ha)) ?_ ?_
      · rintro i x H1 H2 hi k ⟨rfl, hx⟩ R hR
        rw [List.length_map] at hi
        rw [int_at hi] at hx
        cases hx
        exact ⟨rfl, _, rfl, _, rfl, sh i hi, hR _ (.refl _ _)⟩
      · exact fin
    · refine ⟨_, rfl, _, rfl, .inr ⟨⟨_, SqT.of ha⟩, ?_⟩⟩
      refine lc_bools walk_tup (fun _ => true) (by simp; omega) (fun H' k => SqT.of (k.tup _ _ ha)) ?_ ?_
      · rintro i x H1 H2 hi k ⟨rfl, hx⟩ R hR
        rw [List.length_map] at hi
        rw [int_at hi] at hx
        cases hx
        exact ⟨rfl, _, rfl, _, rfl, sh i hi, hR _ (.refl _ _)⟩
      · exact fin
def sp_short_row (K : PySem.W.Frag) : Sp := fun vs H Q _ => ∃ a ns, vs = [.ref a] ∧ (H a = some (.lst (ns.map V.int)) ∨ H a = some (.tup (ns.map V.int))) ∧ AllSh ns ∧ ns.length ≤ 100 ∧ ∀ p H', Kp N0 H H' → H' p = some (.tup (ns.map V.int)) → Q (.ref p) H'
theorem ok_short_row (T : Txt K mg) (D : Df K mg "short_row" s_short_row ["entries"]) (c_are_short : C8.Cal P w K mg base 2 "are_short" (sp_are_short K) []) : C8.Cal P w K mg base 3 "short_row" (sp_short_row K) [] := by
  obtain ⟨f, fd, D, hb⟩ := D
  refine C8.cal0 D (.all hb) .nil sc_short_row (fun vs H Q E h => ?_) (fun cdv A outer s H vs Q E hr h => ?_)
  · obtain ⟨_, _, rfl, _⟩ := h; rfl
  · obtain ⟨a, ns, rfl, ha, hs, hl, q⟩ := h
    refine ⟨_, (pss_cons (ps_if (pt_not (pt_val (C8.pe_c c_are_short hr (by decide) (by rfl) (pa_cons (pv 0) pa_nil)))) (pss_one ps_never) pss_nil)
      (pss_one (ps_ret (pe_callTy (callK (K := K) rTupOf call_tupI) (by rfl) T.b_tuple (by decide +kernel) (pa_cons (pv 0) pa_nil))))), ?_⟩
    refine ⟨_, rfl, _, _, rfl, ha, hs, hl, fun H1 k1 => ⟨true, rfl, iteF ?_⟩⟩
    rcases ha with ha | ha
    · exact ⟨_, rfl, tupL rfl (SqL.of (k1.keep _ _ (fun z => z) ha)) fun p H2 _ k2 hp => q _ _ (k1.trans k2) hp⟩
    · exact ⟨_, rfl, tupT rfl (k1.tup _ _ ha) (q _ _ k1 (k1.tup _ _ ha))⟩
def sp_plus_times (K : PySem.W.Frag) : Sp := fun vs H Q _ => ∃ a b c ns ms, vs = [.ref a, .int c, .ref b] ∧ H a = some (.tup (ns.map V.int)) ∧ H b = some (.tup (ms.map V.int)) ∧ c.natAbs < 2 ^ 700 ∧ (∀ y ∈ ms, y.natAbs < 2 ^ 700) ∧ ns.length ≤ 100 ∧
  ∀ p H', Kp N0 H H' → H' p = some (.tup ((List.zipWith (fun x y => x + c * y) ns ms).map V.int)) → Q (.ref p) H'
def sp_added (K : PySem.W.Frag) : Sp := fun vs H Q _ => ∃ a b ns ms, vs = [.ref a, .ref b] ∧ H a = some (.tup (ns.map V.int)) ∧ H b = some (.tup (ms.map V.int)) ∧ Row ns ∧ Row ms ∧ ms.length = ns.length ∧ AllSh (List.zipWith (· + ·) ns ms) ∧
  ∀ p H', Kp N0 H H' → H' p = some (.tup ((List.zipWith (· + ·) ns ms).map V.int)) → Q (.ref p) H'
theorem zip_one (ns ms : List Int) : List.zipWith (fun x y => x + 1 * y) ns ms = List.zipWith (· + ·) ns ms := by
  congr 1
  funext x y
  rw [Int.one_mul]
theorem zip_neg (ns ms : List Int) : List.zipWith (fun x y => x + -1 * y) ns ms = List.zipWith (· - ·) ns ms := by
  congr 1
  funext x y
  omega
theorem row_w {ns : List Int} (h : Row ns) : ∀ y ∈ ns, y.natAbs < 2 ^ 700 := fun y hy => (h.2.2 y hy).lt
def sp_less (K : PySem.W.Frag) : Sp := fun vs H Q _ => ∃ a b ns ms, vs = [.ref a, .ref b] ∧ H a = some (.tup (ns.map V.int)) ∧ H b = some (.tup (ms.map V.int)) ∧ Row ns ∧ Row ms ∧ ms.length = ns.length ∧ AllSh (List.zipWith (· - ·) ns ms) ∧
  ∀ p H', Kp N0 H H' → H' p = some (.tup ((List.zipWith (· - ·) ns ms).map V.int)) → Q (.ref p) H'
def sp_multiplied (K : PySem.W.Frag) : Sp := fun vs H Q _ => ∃ (c : Int) (a : Addr) (ns : List Int), vs = [.int c, .ref a] ∧ H a = some (.tup (ns.map V.int)) ∧ Sh c ∧ Row ns ∧ AllSh (ns.map (c * ·)) ∧
  ∀ p H', Kp N0 H H' → H' p = some (.tup ((ns.map (c * ·)).map V.int)) → Q (.ref p) H'
/-! ### what the laws draw -/
def Lim (b : Int) (ns : List Int) : Prop := 4 ≤ ns.length ∧ ns.length ≤ 17 ∧ ∀ x ∈ ns, -b ≤ x ∧ x ≤ b
theorem Lim.row {b : Int} {ns : List Int} (h : Lim b ns) (hb : b < TL) : Row ns := ⟨h.1, h.2.1, fun x hx => by
  have := h.2.2 x hx
  exact ⟨by omega, by omega⟩⟩
theorem Lim.at {b : Int} {ns : List Int} (h : Lim b ns) {i : Nat} (hi : i < ns.length) : -b ≤ ns.getD i 0 ∧ ns.getD i 0 ≤ b := by
  rw [List.getD_eq_getElem?_getD, List.getElem?_eq_getElem hi]
  exact h.2.2 _ (List.getElem_mem hi)
theorem Lim.mono {b c : Int} {ns : List Int} (h : Lim b ns) (hc : b ≤ c) : Lim c ns := ⟨h.1, h.2.1, fun x hx => by
  have := h.2.2 x hx
  exact ⟨by omega, by omega⟩⟩
def sp_one_v (K : PySem.W.Frag) : List V → Hp → VK → Prop := fun vs H Q => ∃ (a l : Addr) (xs : List V), vs = [.ref a, .ref l] ∧ Dc a H ∧ SqL K H l xs ∧ (∀ H', DR a H H' → SqL K H' l xs) ∧ 0 < xs.length ∧ xs.length ≤ 1000 ∧ ∀ i H', i < xs.length → DR a H H' → ∃ v, xs[i]? = some v ∧ Q v H'
def sp_l_one_of (K : PySem.W.Frag) : Sp := fun vs H Q _ => (∃ (a l : Addr) (ns : List Int), vs = [.ref a, .ref l] ∧ Dc a H ∧ SqL K H l (ns.map V.int) ∧ (∀ H', DR a H H' → SqL K H' l (ns.map V.int)) ∧ 0 < ns.length ∧ ns.length ≤ 1000 ∧ ∀ z H', z ∈ ns → DR a H H' → Q (.int z) H') ∨ sp_one_v K vs H Q
theorem ok_l_one_of (T : Txt K mg) (D : Df K mg "_law_one_of" s_l_one_of ["_law_dice_here", "_law_items"]) (c_l_roll : C8.Cal P w K mg base 1 "_law_roll" (sp_l_roll) []) : C8.Cal P w K mg base 2 "_law_one_of" (sp_l_one_of K) [] := by
  obtain ⟨f, fd, D, hb⟩ := D
  refine C8.cal0 D (.all hb) .nil sc_l_one_of (fun vs H Q E h => ?_) (fun cdv A outer s H vs Q E hr h => ?_)
  · rcases h with ⟨_, _, _, rfl, _⟩ | ⟨_, _, _, rfl, _⟩ <;> rfl
  · have h : sp_one_v K vs H Q := by
      rcases h with ⟨a, l, ns, rfl, hd, hl, hl2, h0, h1, q⟩ | h
      · exact ⟨a, l, ns.map V.int, rfl, hd, hl, hl2, by simpa using h0, by simpa using h1, fun i H' hi d => ⟨_, int_at (by simpa using hi), q _ _ (by
          rw [List.length_map] at hi
          rw [List.getD_eq_getElem?_getD, List.getElem?_eq_getElem hi]
          exact List.getElem_mem _) d⟩⟩
      · exact h
    obtain ⟨a, l, xs, rfl, hd, hl, hl2, h0, h1, q⟩ := h
    refine ⟨_, (pss_one (ps_ret (pe_ix (ixK (K := K) rIxL ix_list) (pv 1) (C8.pe_c c_l_roll hr (by decide) (by rfl) (pa_cons (pv 0) (pa_cons (pe_callB (callK (K := K) Vf.rLen call_lenI) (by rfl) T.b_len (by decide +kernel) (pa_cons (pv 1) pa_nil)) pa_nil))) (fun _ _ => rfl)))), ?_⟩
    refine ⟨_, rfl, _, rfl, _, rfl, lenL rfl hl ⟨_, _, rfl, hd, by omega, ?_, fun r H1 r0 r1 d1 => ?_⟩⟩
    · exact Nat.lt_of_le_of_lt (by omega : ((xs.length : Nat) : Int).natAbs ≤ 1000) (by decide)
    · obtain ⟨v, hv, qv⟩ := q r.toNat H1 (by omega) d1
      have hat := atI_nat hv
      rw [Int.toNat_of_nonneg r0] at hat
      exact ixL_do (hl2 H1 d1) hat qv
def sp_l_mixed (K : PySem.W.Frag) : Sp := fun vs H Q _ => ∃ (a l : Addr) (ns : List Int), vs = [.ref a, .ref l] ∧ Dc a H ∧ (SqL K H l (ns.map V.int) ∨ SqT K H l (ns.map V.int)) ∧ ns.length ≤ 1000 ∧
  ∀ p H' (ms : List Int), H p = none → DR a H H' → H' p = some (.lst (ms.map V.int)) → ms.Perm ns → Q (.ref p) H'
theorem perm_pop {A : List Int} {k : Nat} {x : Int} (h : A[k]? = some x) : (x :: A.eraseIdx k).Perm A := by
  induction A generalizing k with
  | nil => simp at h
  | cons y r ih =>
    cases k with
    | zero =>
      cases h
      exact .refl _
    | succ k => exact (List.Perm.swap y x _).trans ((ih (k := k) (by simpa using h)).cons y)
theorem map_erase {α β : Type} (f : α → β) : ∀ (l : List α) (k : Nat), (l.map f).eraseIdx k = (l.eraseIdx k).map f
  | [], _ => rfl
  | _ :: _, 0 => rfl
  | x :: l, k + 1 => by
    show f x :: (l.map f).eraseIdx k = f x :: (l.eraseIdx k).map f
    rw [map_erase f l k]
theorem seq_nat {i n : Nat} (h : i < n) : seqIndex? (i : Int) n = some i := by
  obtain ⟨j, h1, h2, _⟩ := atI_get (xs := (List.range n)) (i := (i : Int)) (v := i) (atI_nat (by rw [List.getElem?_range h]))
  rw [List.length_range] at h1
  have : j = i := by
    have hj : j < n := by
      have := (List.getElem?_eq_some_iff.mp h2).1
      rwa [List.length_range] at this
    rw [List.getElem?_range hj] at h2
    exact Option.some.inj h2
  rw [h1, this]
def mixW (a l p1 p2 : Addr) (ns : List Int) (H : Hp) (m : Nat) (σ : L2.St) (H' : Hp) : Prop := ∃ (A B : List Int), σ = [some (.ref a), some (.ref l), some (.ref p1), some (.ref p2)] ∧ m = A.length ∧ DR a H H' ∧ H' p1 = some (.lst (A.map V.int)) ∧ H' p2 = some (.lst (B.map V.int)) ∧ (B ++ A).Perm ns
theorem ok_l_mixed (T : Txt K mg) (D : Df K mg "_law_mixed" s_l_mixed ["_law_dice_here", "_law_items"]) (c_l_roll : C8.Cal P w K mg base 1 "_law_roll" (sp_l_roll) []) : C8.Cal P w K mg base 2 "_law_mixed" (sp_l_mixed K) [] := by
  obtain ⟨f, fd, D, hb⟩ := D
  refine C8.cal0 D (.all hb) .nil sc_l_mixed (fun vs H Q E h => ?_) (fun cdv A outer s H vs Q E hr h => ?_)
  · obtain ⟨_, _, _, rfl, _⟩ := h; rfl
  · obtain ⟨a, l, ns, rfl, hd, hl, h1, q⟩ := h
    refine ⟨_, (pss_cons (ps_par (i := 2) (j := 3) (by rfl) sc_l_mixed.nd rfl rfl (by decide) rfl rfl (pa_cons (pe_callTy (callK (K := K) rListOf call_lstI) (by rfl) T.b_list (by decide +kernel) (pa_cons (pv 1) pa_nil)) (pa_cons (pe_lstN pa_nil) pa_nil)) (by rfl))
      (pss_cons (ps_while PassesOwn.never (pt_cmpR (opK (K := K) rNeI (op_neI hr.units)) (pv 2) (pe_lstN pa_nil) (nomark _)) (pss_one (ps_expr (pe_bm PySem.F.plainAttrs_list PySem.F.slot_list_append PySem.F.type_list_append mt_append (pv 3) (pa_cons (pe_bm PySem.F.plainAttrs_list PySem.F.slot_list_pop PySem.F.type_list_pop mt_popAt (pv 2) (pa_cons (C8.pe_c c_l_roll hr (by decide) (by rfl) (pa_cons (pv 0) (pa_cons (pe_callB (callK (K := K) Vf.rLen call_lenI) (by rfl) T.b_len (by decide +kernel) (pa_cons (pv 2) pa_nil)) pa_nil))) pa_nil)) pa_nil)))))
      (pss_one (ps_ret (pv 3))))), ?_⟩
    refine ⟨_, rfl, listL rfl hl fun p1 H1 n1 k1 hp1 => newL (sz_ (by simp)) fun p2 H2 n2 k2 hp2 => ⟨_, _, rfl, ?_⟩⟩
    have n2' : H p2 = none := k1.live _ n2
    have hne : p1 ≠ p2 := ne_of_none hp1 n2
    have fin : mixW a l p1 p2 ns H ns.length [some (.ref a), some (.ref l), some (.ref p1), some (.ref p2)] H2 := ⟨ns, [], rfl, rfl, .of hd (k1.trans k2), k2.keep _ _ (fun z => z) hp1, hp2, .refl _⟩
    refine ⟨mixW a l p1 p2 ns H, ⟨_, fin⟩, ?_⟩
    rintro m σ H3 ⟨A, B, rfl, rfl, d3, hA, hB, hperm⟩
    refine ⟨_, rfl, newL (sz_ (by simp)) fun p4 H4 n4 k4 hp4 => neNil (SqL.of (k4.keep _ _ (fun z => z) hA)) (SqL.of hp4) ⟨_, rfl, ?_⟩⟩
    have d4 := d3.trans (.of d3.dc k4)
    have hA4 := k4.keep _ _ (fun z => z) hA
    have hB4 := k4.keep _ _ (fun z => z) hB
    have hlen : (B ++ A).length ≤ 1000 := by rw [hperm.length_eq]; exact h1
    rw [List.length_append] at hlen
    cases A with
    | nil =>
      refine iteF ?_
      exact ⟨_, rfl, q _ _ _ n2' d4 hB4 (by simpa using hperm)⟩
    | cons x A =>
      refine iteT ⟨fun σ' H' => ∃ m', m' < (x :: A).length ∧ mixW a l p1 p2 ns H m' σ' H', fun σ' H' z => z, ?_⟩
      refine ⟨_, rfl, .inl ⟨rfl, _, SqL.of hB4⟩, _, rfl, .inl ⟨rfl, _, SqL.of hA4⟩, _, rfl, _, rfl, lenL rfl (SqL.of hA4) ⟨_, _, rfl, d4.dc, by simp, ?_, fun r H5 r0 r1 d5 => ?_⟩⟩
      · rw [List.length_map]
        exact Nat.lt_of_le_of_lt (by omega : (((x :: A).length : Nat) : Int).natAbs ≤ 1000) (by decide)
      · rw [List.length_map] at r1
        have rl : r.toNat < (x :: A).length := by omega
        have np1 : p1 ≠ a := fun z => hd.ne n1 z.symm
        have np2 : p2 ≠ a := fun z => hd.ne n2' z.symm
        have hA5 := d5.lst np1 hA4
        have hB5 := d5.lst np2 hB4
        have e1 : seqIndex? r ((x :: A).map V.int).length = some r.toNat := by
          have := seq_nat (i := r.toNat) (n := ((x :: A).map V.int).length) (by rw [List.length_map]; exact rl)
          rw [Int.toNat_of_nonneg r0] at this
          exact this
        refine ⟨p1, _, _, r.toNat, .int ((x :: A).getD r.toNat 0), rfl, rfl, hA5, by omega, by omega, e1, int_at rl, ?_⟩
        have hB6 : upd H5 p1 (.lst (((x :: A).map V.int).eraseIdx r.toNat)) p2 = some (.lst (B.map V.int)) := by rw [upd_ne hne.symm]; exact hB5
        refine ⟨p2, _, _, rfl, rfl, hB6, Nat.lt_of_le_of_lt (by rw [List.length_map]; omega : (B.map V.int).length ≤ 1000) (by decide), ?_⟩
        have hg : (x :: A)[r.toNat]? = some ((x :: A).getD r.toNat 0) := by rw [List.getD_eq_getElem?_getD, List.getElem?_eq_getElem rl]; rfl
        have hp := perm_pop hg
        have lenE : ((x :: A).eraseIdx r.toNat).length = A.length := by
          have := hp.length_eq
          simp only [List.length_cons] at this
          omega
        refine ⟨((x :: A).eraseIdx r.toNat).length, by rw [lenE]; simp, (x :: A).eraseIdx r.toNat, B ++ [(x :: A).getD r.toNat 0], rfl, rfl, ⟨.mut0 n2' (.mut0 n1 (d4.kp.trans d5.kp)), (d5.dc.upd_ne np1.symm).upd_ne np2.symm⟩, ?_, ?_, ?_⟩
        · rw [upd_ne hne, upd_same, map_erase]
        · rw [upd_same, List.map_append]
          rfl
        · rw [List.append_assoc]
          exact (List.Perm.append_left B hp).trans hperm

def sp_l_times (K : PySem.W.Frag) : Sp := fun vs H Q _ => ∃ a b ns ms, vs = [.ref a, .ref b] ∧ H a = some (.tup (ns.map V.int)) ∧ H b = some (.tup (ms.map V.int)) ∧ Row ns ∧ Row ms ∧ ms.length = ns.length ∧ ∀ H', Kp N0 H H' → Q (.int (dot ns ms)) H'
theorem ok_l_times (T : Txt K mg) (D : Df K mg "_law_times" s_l_times ["_law_one", "_law_other"]) : C8.Cal P w K mg base 1 "_law_times" (sp_l_times K) [] := by
  obtain ⟨f, fd, D, hb⟩ := D
  refine C8.cal0 D (.all hb) .nil sc_l_times (fun vs H Q E h => ?_) (fun cdv A outer s H vs Q E hr h => ?_)
  · obtain ⟨_, _, _, _, rfl, _⟩ := h; rfl
  · obtain ⟨a, b, ns, ms, rfl, ha, hb, ra, rb, hl, q⟩ := h
    refine ⟨_, (pss_one (ps_ret (pe_op op_sub (pe_op op_mulE (pe_ix (ixK (K := K) rIxT ix_tup) (pv 0) pe_int (fun _ _ => rfl)) (pe_ix (ixK (K := K) rIxT ix_tup) (pv 1) pe_int (fun _ _ => rfl))) (pe_callB (callK (K := K) rSum (cr_sum rfl)) (by rfl) T.b_sum (by decide +kernel) (pa_cons (pe_lc (own := [("_law_left", 2), ("_law_right", 3)]) (g := gTup K 2 (gCons (gName 2) (gCons (gName 3) gNil))) rfl sc_l_times.nd (RZ.pi_zipA (by rfl) T.b_zip (pa_cons (pe_slice (slK (K := K) rSlI sl_tupI) (pv 0) (po_some pe_int) po_none) (pa_cons (pe_slice (slK (K := K) rSlI sl_tupI) (pv 1) (po_some pe_int) po_none) pa_nil))) (C8b.blk (N := ["_law_one", "_law_other", "_law_left", "_law_right"]) (sc := C8.fnScope s_l_times) (by decide +kernel)) (fun _ _ _ _ _ => (pg_tup rfl (pgs_cons (pg_name (i := 2) sc_l_times.nd rfl (Or.inl rfl)) (pgs_cons (pg_name (i := 3) sc_l_times.nd rfl (Or.inl rfl)) pgs_nil)))) (fun _ _ _ _ _ => pts_nil) (fun _ _ _ _ _ => (pe_op op_mulE (pv 2) (pv 3)))) pa_nil))))), ?_⟩
    have l1 := ra.1
    have l2 := ra.2.1
    refine ⟨_, rfl, _, _, _, _, rfl, rfl, SqT.of ha, at_row0 (by omega), _, rfl, _, _, _, _, rfl, rfl, SqT.of hb, at_row0 (by omega), _, _, rfl, rfl, wide_sh (ra.sh 0 (by omega)).lt (rb.sh 0 (by omega)).lt, ?_⟩
    refine ⟨_, rfl, _, rfl, slT ha fun p H1 k1 hp => ?_⟩
    refine ⟨_, rfl, _, rfl, slT (k1.tup _ _ hb) fun p2 H2 k2 hp2 => ?_⟩
    have hp' := k2.tup _ _ hp
    rw [cut_1] at hp' hp2
    refine ⟨_, _, _, _, rfl, .inr ⟨SqT.of hp', SqT.of hp2, ?_⟩⟩
    refine lc_ints (walk_zipT rfl) (fun i => (ns.drop 1).getD i 0 * (ms.drop 1).getD i 0) (by simp; omega) (fun H' k => ⟨SqT.of (k.tup _ _ hp'), SqT.of (k.tup _ _ hp2)⟩) ?_ ?_
    · rintro i x H3 H4 hi k3 ⟨T, x1, x2, rfl, hT, rfl, e1, e2⟩ R hR
      have hi1 : i < (ns.drop 1).length := by simp at hi ⊢; omega
      have hi2 : i < (ms.drop 1).length := by simp at hi ⊢; omega
      obtain rfl : x1 = _ := (Option.some.inj ((int_at hi1).symm.trans e1)).symm
      obtain rfl : x2 = _ := (Option.some.inj ((int_at hi2).symm.trans e2)).symm
      refine ⟨T, _, rfl, SqT.of upd_same, rfl, _, _, rfl, _, _, rfl, rfl, rfl, _, rfl, _, rfl, _, _, rfl, rfl, wide_sh ?_ ?_, hR _ (.new hT)⟩
      · rw [List.getD_eq_getElem?_getD, List.getElem?_drop, ← List.getD_eq_getElem?_getD]
        exact (ra.sh _ (by simp at hi1; omega)).lt
      · rw [List.getD_eq_getElem?_getD, List.getElem?_drop, ← List.getD_eq_getElem?_getD]
        exact (rb.sh _ (by simp at hi2; omega)).lt
    · intro D H3 k3 h3
      rw [range_zip (· * ·) (ns.drop 1) (ms.drop 1) _ (by simp)] at h3
      exact ⟨D, _, rfl, SqL.of h3, _, _, rfl, rfl, q _ ((k1.trans k2).trans k3)⟩
def sp_l_cubic (K : PySem.W.Frag) : Sp := fun vs H Q _ => ∃ (n : Nat), vs = [.int n] ∧ 3 ≤ n ∧ n ≤ 16 ∧ ∀ p H', Kp N0 H H' → H' p = some (.tup ((crow n).map V.int)) → Q (.ref p) H'
theorem ok_l_cubic (T : Txt K mg) (D : Df K mg "_law_cubic" s_l_cubic ["_law_n"]) : C8.Cal P w K mg base 1 "_law_cubic" (sp_l_cubic K) [] := by
  obtain ⟨f, fd, D, hb⟩ := D
  refine C8.cal0 D (.all hb) .nil sc_l_cubic (fun vs H Q E h => ?_) (fun cdv A outer s H vs Q E hr h => ?_)
  · obtain ⟨_, rfl, _⟩ := h; rfl
  · obtain ⟨n, rfl, h1, h2, q⟩ := h
    refine ⟨_, (pss_one (ps_ret (pe_op (opK (K := K) rCatI op_catI) (pe_tupN (pa_cons pe_int pa_nil)) (pe_op (opK (K := K) rRepA op_repA) (pe_tupN (pa_cons pe_int pa_nil)) (pv 0))))), ?_⟩
    refine newT (sz_ (by simp)) fun p1 H1 _ k1 hp1 => ?_
    refine newT (sz_ (by simp)) fun p2 H2 _ k2 hp2 => ?_
    refine ⟨_, rfl, rep_do hp2 (by simp) (by omega) (by omega) (by simp) fun p3 H3 k3 hp3 => ?_⟩
    rw [rep_one] at hp3
    refine catT (k3.tup _ _ (k2.tup _ _ hp1)) hp3 (sz_ (by simp; omega)) fun p4 H4 k4 hp4 => ?_
    exact q _ _ (((k1.trans k2).trans k3).trans k4) hp4
theorem crow_row {n : Nat} (h1 : 3 ≤ n) (h2 : n ≤ 16) : Row (crow n) := by
  refine ⟨by simp [crow]; omega, by simp [crow]; omega, fun x hx => ?_⟩
  have : x = 3 ∨ x = 1 := by
    rcases List.mem_cons.mp hx with rfl | hx
    · exact .inl rfl
    · exact .inr (List.eq_of_mem_replicate hx)
  rcases this with rfl | rfl <;> exact sh_small (by decide) (by decide)
theorem dot_crow {ns : List Int} {n : Nat} (h : ns.length = n + 1) : dot ns (crow n) = cub ns := by
  obtain ⟨d, ms, rfl⟩ : ∃ d ms, ns = d :: ms := by
    cases ns with
    | nil => simp at h
    | cons d ms => exact ⟨d, ms, rfl⟩
  show d * 3 - (List.zipWith (· * ·) ms (List.replicate n 1)).sum = 3 * d - ms.sum
  have e : ∀ (ms : List Int) (n : Nat), ms.length = n → List.zipWith (· * ·) ms (List.replicate n 1) = ms := by
    intro ms
    induction ms with
    | nil => intro n _; simp
    | cons x r ih =>
      intro n hn
      cases n with
      | zero => simp at hn
      | succ n =>
        rw [List.replicate_succ, List.zipWith_cons_cons, ih n (by simpa using hn), Int.mul_one]
  rw [e ms n (by simpa using h)]
  omega
def sp_l_counting (K : PySem.W.Frag) : Sp := fun vs H Q _ => ∃ a ns, vs = [.ref a] ∧ H a = some (.tup (ns.map V.int)) ∧ Row ns ∧ ∀ H', Kp N0 H H' → Q (.int (cntg ns)) H'
theorem ok_l_counting (T : Txt K mg) (D : Df K mg "_law_counting" s_l_counting ["_law_row_here"]) (c_l_times : C8.Cal P w K mg base 1 "_law_times" (sp_l_times K) []) (c_l_cubic : C8.Cal P w K mg base 1 "_law_cubic" (sp_l_cubic K) []) : C8.Cal P w K mg base 2 "_law_counting" (sp_l_counting K) [] := by
  obtain ⟨f, fd, D, hb⟩ := D
  refine C8.cal0 D (.all hb) .nil sc_l_counting (fun vs H Q E h => ?_) (fun cdv A outer s H vs Q E hr h => ?_)
  · obtain ⟨_, _, rfl, _⟩ := h; rfl
  · obtain ⟨a, ns, rfl, ha, ra, q⟩ := h
    refine ⟨_, (pss_one (ps_ret (pe_op op_add (pe_op op_fdivW (pe_op op_add (C8.pe_c c_l_times hr (by decide) (by rfl) (pa_cons (pv 0) (pa_cons (pv 0) pa_nil))) (C8.pe_c c_l_times hr (by decide) (by rfl) (pa_cons (pv 0) (pa_cons (C8.pe_c c_l_cubic hr (by decide) (by rfl) (pa_cons (pe_op op_sub (pe_callB (callK (K := K) Vf.rLen call_lenI) (by rfl) T.b_len (by decide +kernel) (pa_cons (pv 0) pa_nil)) pe_int) pa_nil)) pa_nil)))) pe_int) pe_int))), ?_⟩
    have l1 := ra.1
    have l2 := ra.2.1
    refine ⟨_, rfl, _, rfl, _, _, _, _, rfl, ha, ha, ra, ra, rfl, fun H1 k1 => ?_⟩
    have h1 := k1.tup _ _ ha
    refine ⟨_, rfl, _, rfl, lenT rfl h1 ⟨_, _, rfl, rfl, ns.length - 1, ?_, by omega, by omega, fun p H2 k2 hp => ?_⟩⟩
    · rw [List.length_map]
      exact congrArg (fun z : Int => [V.int z]) (by omega)
    refine ⟨_, _, _, _, rfl, k2.tup _ _ h1, hp, ra, crow_row (by omega) (by omega), by simp [crow]; omega, fun H3 k3 => ?_⟩
    refine ⟨_, _, rfl, rfl, _, _, rfl, rfl, wide_2, _, _, rfl, rfl, ?_⟩
    rw [dot_crow (by omega)]
    exact q _ ((k1.trans k2).trans k3)

/-! ### rows that are drawn -/
def sp_l_point_row (K : PySem.W.Frag) : Sp := fun vs H Q _ => ∃ (n i : Nat), vs = [.int n, .int i] ∧ n ≤ 16 ∧ ∀ p H', Kp N0 H H' → H' p = some (.tup ((prow n i).map V.int)) → Q (.ref p) H'
theorem ok_l_point_row (T : Txt K mg) (D : Df K mg "_law_point_row" s_l_point_row ["_law_n", "_law_at"]) : C8.Cal P w K mg base 1 "_law_point_row" (sp_l_point_row K) [] := by
  obtain ⟨f, fd, D, hb⟩ := D
  refine C8.cal0 D (.all hb) .nil sc_l_point_row (fun vs H Q E h => ?_) (fun cdv A outer s H vs Q E hr h => ?_)
  · obtain ⟨_, _, rfl, _⟩ := h; rfl
  · obtain ⟨n, i, rfl, h2, q⟩ := h
    refine ⟨_, (pss_one (ps_ret (pe_callTy (callK (K := K) rTupOf call_tupI) (by rfl) T.b_tuple (by decide +kernel) (pa_cons (pe_op op_catLI (pe_lstN (pa_cons pe_int pa_nil)) (pe_lc (own := [("_law_place", 2)]) (g := gName 2) rfl sc_l_point_row.nd (pi_range1 (by rfl) T.b_range (pa_cons (pv 0) pa_nil)) (C8b.blk (N := ["_law_n", "_law_at", "_law_place"]) (sc := C8.fnScope s_l_point_row) (by decide +kernel)) (fun _ _ _ _ _ => (pg_name (i := 2) sc_l_point_row.nd rfl (Or.inl rfl))) (fun _ _ _ _ _ => pts_nil) (fun _ _ _ _ _ => (pe_op op_sub pe_int (pe_callTy call_int1 (by rfl) T.b_int (by decide +kernel) (pa_cons (pe_cmpR op_eq (pv 2) (pv 1) (nomark _)) pa_nil)))))) pa_nil)))), ?_⟩
    refine newL (sz_ (by simp)) fun p1 H1 n1 k1 hp1 => ?_
    refine ⟨_, rfl, _, rfl, by omega, by omega, ?_⟩
    refine lc_ints walk_range (fun j => 0 - (if j = i then 1 else 0)) (by omega) (fun _ _ => trivial) ?_ ?_
    · rintro j x H3 H4 hj k ⟨rfl, rfl⟩ R hR
      refine ⟨rfl, _, rfl, _, rfl, rfl, .inr ⟨_, rfl, _, _, rfl, rfl, ?_⟩⟩
      have e : (if decide (V.int (0 + (j : Int)) = V.int (i : Int)) = true then (1 : Int) else 0) = if j = i then 1 else 0 := by
        by_cases e : j = i
        · subst e
          rw [if_pos rfl, if_pos (decide_eq_true (by rw [Int.zero_add]))]
        · rw [if_neg e, if_neg (fun z => e (by have := V.int.inj (of_decide_eq_true z); omega))]
      show R (V.int (0 - (if decide (V.int (0 + (j : Int)) = V.int (i : Int)) = true then (1 : Int) else 0))) _
      rw [e]
      exact hR _ (.refl _ _)
    · intro D H3 k3 h3
      refine catL (k3.keep _ _ (fun z => z) hp1) h3 (sz_ (by simp; omega)) fun p4 H4 _ k4 hp4 => ?_
      refine tupL rfl (SqL.of hp4) fun p5 H5 _ k5 hp5 => q _ _ (((k1.trans k3).trans k4).trans k5) hp5
def sumr : List Int → List (List Int) → List Int → List Int
  | acc, r :: rs, n :: ns => sumr (List.zipWith (fun x y => x + n * y) acc r) rs ns
  | acc, _, _ => acc
theorem sumr_take (acc : List Int) (rs : List (List Int)) (ns : List Int) (i : Nat) (r : List Int) (n : Int) (h1 : rs[i]? = some r) (h2 : ns[i]? = some n) :
    sumr acc (rs.take (i + 1)) (ns.take (i + 1)) = List.zipWith (fun x y => x + n * y) (sumr acc (rs.take i) (ns.take i)) r := by
  induction i generalizing acc rs ns with
  | zero =>
    cases rs with
    | nil => simp at h1
    | cons r' rs =>
      cases ns with
      | nil => simp at h2
      | cons n' ns =>
        cases h1
        cases h2
        simp [sumr]
  | succ i ih =>
    cases rs with
    | nil => simp at h1
    | cons r' rs =>
      cases ns with
      | nil => simp at h2
      | cons n' ns =>
        simp only [List.take_succ_cons, sumr]
        exact ih _ rs ns (by simpa using h1) (by simpa using h2)
theorem sumr_len (acc : List Int) (rs : List (List Int)) (ns : List Int) (h : ∀ r ∈ rs, r.length = acc.length) : (sumr acc rs ns).length = acc.length := by
  induction rs generalizing acc ns with
  | nil => cases ns <;> rfl
  | cons r rs ih =>
    cases ns with
    | nil => rfl
    | cons n ns =>
      have h0 := h r List.mem_cons_self
      have e : (List.zipWith (fun x y => x + n * y) acc r).length = acc.length := by simp [h0]
      show (sumr _ rs ns).length = _
      rw [ih _ ns (fun r' hr' => by rw [e]; exact h r' (List.mem_cons_of_mem _ hr')), e]
def W700 (ns : List Int) : Prop := ∀ x ∈ ns, x.natAbs < 2 ^ 700
theorem W700.at {ns : List Int} (h : W700 ns) {i : Nat} (hi : i < ns.length) : (ns.getD i 0).natAbs < 2 ^ 700 := by
  rw [List.getD_eq_getElem?_getD, List.getElem?_eq_getElem hi]
  exact h _ (List.getElem_mem hi)
def sp_l_sum (K : PySem.W.Frag) : Sp := fun vs H Q _ => ∃ (a b : Addr) (ws : List V) (rs : List (List Int)) (ns : List Int) (L : Nat), vs = [.ref a, .ref b] ∧ H a = some (.lst ws) ∧ RwK K H ws rs ∧ H b = some (.lst (ns.map V.int)) ∧ rs.length = ns.length ∧ 0 < rs.length ∧ rs.length ≤ 100 ∧ L ≤ 100 ∧
  (∀ r ∈ rs, r.length = L ∧ W700 r) ∧ W700 ns ∧ ∀ p H', Kp N0 H H' → H' p = some (.tup ((sumr (List.replicate L 0) rs ns).map V.int)) → Q (.ref p) H'
theorem ok_l_sum (T : Txt K mg) (D : Df K mg "_law_sum" s_l_sum ["_law_rows", "_law_numbers"]) : C8.Cal P w K mg base 1 "_law_sum" (sp_l_sum K) [] := by
  obtain ⟨f, fd, D, hb⟩ := D
  refine C8.cal0 D (.all hb) .nil sc_l_sum (fun vs H Q E h => ?_) (fun cdv A outer s H vs Q E hr h => ?_)
  · obtain ⟨_, _, _, _, _, _, rfl, _⟩ := h; rfl
  · obtain ⟨a, b, ws, rs, ns, L, rfl, ha, hw, hb, hl, h0, h1, hL, hr2, hn2, q⟩ := h
    refine ⟨_, (pss_cons (ps_set (i := 2) sc_l_sum.nd rfl (Or.inl rfl) (pe_op op_repLI (pe_lstN (pa_cons pe_int pa_nil)) (pe_callB (callK (K := K) Vf.rLen call_lenI) (by rfl) T.b_len (by decide +kernel) (pa_cons (pe_ix (ixK (K := K) rIxL ix_list) (pv 0) pe_int (fun _ _ => rfl)) pa_nil))))
      (pss_cons (ps_for PassesOwn.never rfl (pi_zip (by rfl) T.b_zip (pa_cons (pv 0) (pa_cons (pv 1) pa_nil))) (pg_tup rfl (pgs_cons (pg_name (i := 3) sc_l_sum.nd rfl (Or.inl rfl)) (pgs_cons (pg_name (i := 4) sc_l_sum.nd rfl (Or.inr rfl)) pgs_nil))) (pss_one (ps_setLc (i := 2) (own := [("_law_one", 5), ("_law_other", 6)]) (g := gTup K 2 (gCons (gName 5) (gCons (gName 6) gNil))) rfl sc_l_sum.nd rfl rfl (sw_true rfl rfl rfl (by decide +kernel)) (pi_zipLT (by rfl) T.b_zip (pa_cons (pv 2) (pa_cons (pv 3) pa_nil))) (C8b.blk (N := ["_law_rows", "_law_numbers", "_law_found", "_law_row_here", "_law_number", "_law_one", "_law_other"]) (sc := C8.fnScope s_l_sum) (by decide +kernel)) (fun _ _ _ _ _ => (pg_tup rfl (pgs_cons (pg_name (i := 5) sc_l_sum.nd rfl (Or.inl rfl)) (pgs_cons (pg_name (i := 6) sc_l_sum.nd rfl (Or.inl rfl)) pgs_nil)))) (fun _ _ _ _ _ => pts_nil) (fun _ _ _ _ _ => (pe_op op_add (pv 5) (pe_op op_mulE (pv 4) (pv 6)))))))
      (pss_one (ps_ret (pe_callTy (callK (K := K) rTupOf call_tupI) (by rfl) T.b_tuple (by decide +kernel) (pa_cons (pv 2) pa_nil)))))), ?_⟩
    refine newL (sz_ (by simp)) fun p1 H1 n1 k1 hp1 => ?_
    have ha1 := k1.keep _ _ (fun z => z) ha
    have hw1 := hw.kp k1
    have hwl := hw.len
    obtain ⟨v0, hv0⟩ : ∃ v, ws[0]? = some v := ⟨ws[0]'(by omega), by rw [List.getElem?_eq_getElem]⟩
    obtain ⟨p0, r0, rfl, hr0, hp0⟩ := hw1.get hv0
    refine ⟨_, rfl, a, _, _, _, rfl, rfl, SqL.of ha1, atI_nat (j := 0) hv0, lenS rfl hp0 ?_⟩
    have hr0L := (hr2 r0 (List.mem_of_getElem? hr0)).1
    refine repL hp1 (by omega) (by rw [List.length_map]; omega) fun p2 H2 n2 k2 hp2 => ?_
    have e0 : ((List.replicate (((r0.map V.int).length : Nat) : Int).toNat (0 : Int))) = List.replicate L 0 := by
      rw [List.length_map, hr0L]
      rfl
    rw [e0] at hp2
    have k02 := k1.trans k2
    have ha2 := k02.keep _ _ (fun z => z) ha
    have hb2 := k02.keep _ _ (fun z => z) hb
    refine ⟨_, rfl, _, rfl, a, b, _, _, rfl, SqL.of ha2, SqL.of hb2, ?_⟩
    refine for_it (n := ns.length) (walk_zip (K := K) (a := a) (b := b) (xs := ws) (ys := ns.map V.int) (by simp; omega)) (fun i σ H' => ∃ p v3 v4 v5 v6, σ = [some (.ref a), some (.ref b), some (.ref p), v3, v4, v5, v6] ∧ Kp N0 H H' ∧ H' p = some (.lst ((sumr (List.replicate L 0) (rs.take i) (ns.take i)).map V.int)))
      ⟨p2, _, _, _, _, rfl, k02, by simpa [sumr] using hp2⟩ (fun i σ H' _ ⟨_, _, _, _, _, _, k, _⟩ => ⟨SqL.of (k.keep _ _ (fun z => z) ha), SqL.of (k.keep _ _ (fun z => z) hb)⟩) ?_ ?_
    · rintro i x σ H3 H4 hi ⟨p, v3, v4, v5, v6, rfl, k3, hp3⟩ ⟨T, x1, x2, rfl, hT, rfl, e1, e2⟩
      have k3' : Kp N0 H3 (upd H3 T (.tup [x1, x2])) := .new hT
      obtain ⟨pr, r, rfl, hr, hpr⟩ := (hw.kp (k3.trans k3')).get e1
      obtain rfl : x2 = _ := (Option.some.inj ((int_at (ns := ns) hi).symm.trans e2)).symm
      have hn : ns[i]? = some (ns.getD i 0) := by rw [List.getD_eq_getElem?_getD, List.getElem?_eq_getElem hi]; rfl
      have hrL := hr2 r (List.mem_of_getElem? hr)
      refine ⟨T, _, rfl, SqT.of upd_same, rfl, _, _, rfl, _, _, rfl, rfl, ?_⟩
      have hp4 := k3'.keep _ _ (fun z => z) hp3
      have hsl : (sumr (List.replicate L 0) (rs.take i) (ns.take i)).length = L := by
        rw [sumr_len _ _ _ fun r' hr' => by rw [(hr2 r' (List.mem_of_mem_take hr')).1]; simp]
        simp
      refine ⟨_, rfl, _, rfl, p, pr, _, _, rfl, SqL.of hp4, hpr, ?_⟩
      refine lc_ints (walk_zipLT rfl) (fun j => (sumr (List.replicate L 0) (rs.take i) (ns.take i)).getD j 0 + ns.getD i 0 * r.getD j 0) (by simp; omega) (fun H' k => ⟨SqL.of (k.keep _ _ (fun z => z) hp4), k.sqT hpr⟩) ?_ ?_
      · rintro j x H5 H6 hj k5 ⟨T2, y1, y2, rfl, hT2, rfl, f1, f2⟩ R hR
        have hj1 : j < (sumr (List.replicate L 0) (rs.take i) (ns.take i)).length := by simp at hj; omega
        have hj2 : j < r.length := by simp at hj; omega
        obtain rfl : y1 = _ := (Option.some.inj ((int_at hj1).symm.trans f1)).symm
        obtain rfl : y2 = _ := (Option.some.inj ((int_at hj2).symm.trans f2)).symm
        exact ⟨T2, _, rfl, SqT.of upd_same, rfl, _, _, rfl, _, _, rfl, rfl, rfl, _, rfl, _, rfl, _, rfl, _, _, rfl, rfl, wide_sh (hn2.at hi) (hrL.2.at hj2), _, _, rfl, rfl, hR _ (.new hT2)⟩
      · intro D H5 k5 h5
        rw [range_zip (fun x y => x + ns.getD i 0 * y) _ r _ (by simp), ← sumr_take _ _ _ _ _ _ hr hn] at h5
        exact ⟨D, _, _, _, _, rfl, (k3.trans k3').trans k5, h5⟩
    · rintro σ H3 ⟨p, v3, v4, v5, v6, rfl, k3, hp3⟩
      rw [List.take_of_length_le (by omega), List.take_of_length_le (by omega)] at hp3
      exact ⟨_, rfl, tupL rfl (SqL.of hp3) fun p4 H4 _ k4 hp4 => q _ _ (k3.trans k4) hp4⟩
def GenR (n : Nat) (r : List Int) : Prop := r.length = n + 1 ∧ ∀ x ∈ r, 0 ≤ x ∧ x ≤ 3
theorem gen_of {n : Nat} {xs ys zs : List Int} (hx : ∀ x ∈ xs, 0 ≤ x ∧ x ≤ 3) (i j : Int) (hi : 0 ≤ i ∧ i ≤ 3) (hj : 0 ≤ j ∧ j ≤ 3) (hy : ∀ y ∈ ys, y = i) (hz : ∀ z ∈ zs, z = j) (hl : xs.length + ys.length + zs.length = n + 1) : GenR n (xs ++ ys ++ zs) := by
  refine ⟨by simp; omega, fun x h => ?_⟩
  rcases List.mem_append.mp h with h | h
  · rcases List.mem_append.mp h with h | h
    · exact hx x h
    · rw [hy x h]; exact hi
  · rw [hz x h]; exact hj
def sp_l_generators (K : PySem.W.Frag) : Sp := fun vs H Q _ => ∃ (n : Nat), vs = [.int n] ∧ 3 ≤ n ∧ n ≤ 16 ∧ ∀ p H' ws rs, H p = none → Kp N0 H H' → H' p = some (.lst ws) → Rws H' ws rs → rs.length = n + 1 → (∀ r ∈ rs, GenR n r) → Q (.ref p) H'
theorem ok_l_generators (T : Txt K mg) (D : Df K mg "_law_generators" s_l_generators ["_law_n"]) : C8.Cal P w K mg base 1 "_law_generators" (sp_l_generators K) [] := by
  obtain ⟨f, fd, D, hb⟩ := D
  refine C8.cal0 D (.all hb) .nil sc_l_generators (fun vs H Q E h => ?_) (fun cdv A outer s H vs Q E hr h => ?_)
  · obtain ⟨_, rfl, _⟩ := h; rfl
  · obtain ⟨n, rfl, h1, h2, q⟩ := h
    refine ⟨_, (pss_cons (ps_set (i := 1) sc_l_generators.nd rfl (Or.inl rfl) (pe_lstN (pa_cons (pe_op (opK (K := K) rCatI op_catI) (pe_tupN (pa_cons pe_int pa_nil)) (pe_op (opK (K := K) rRepA op_repA) (pe_tupN (pa_cons pe_int pa_nil)) (pv 0))) (pa_cons (pe_op (opK (K := K) rCatI op_catI) (pe_tupN (pa_cons pe_int (pa_cons pe_int pa_nil))) (pe_op (opK (K := K) rRepA op_repA) (pe_tupN (pa_cons pe_int pa_nil)) (pe_op op_sub (pv 0) pe_int))) (pa_cons (pe_op (opK (K := K) rCatI op_catI) (pe_tupN (pa_cons pe_int (pa_cons pe_int (pa_cons pe_int pa_nil)))) (pe_op (opK (K := K) rRepA op_repA) (pe_tupN (pa_cons pe_int pa_nil)) (pe_op op_sub (pv 0) pe_int))) pa_nil)))))
      (pss_one (ps_ret (pe_op op_catLI (pv 1) (pe_lc (own := [("_law_size", 2)]) (g := gName 2) rfl sc_l_generators.nd (pi_range2 (by rfl) T.b_range (pa_cons pe_int (pa_cons (pe_op op_add (pv 0) pe_int) pa_nil))) (C8b.blk (N := ["_law_n", "_law_found", "_law_size"]) (sc := C8.fnScope s_l_generators) (by decide +kernel)) (fun _ _ _ _ _ => (pg_name (i := 2) sc_l_generators.nd rfl (Or.inl rfl))) (fun _ _ _ _ _ => pts_nil) (fun _ _ _ _ _ => (pe_op (opK (K := K) rCatI op_catI) (pe_op (opK (K := K) rCatI op_catI) (pe_tupN (pa_cons pe_int pa_nil)) (pe_op (opK (K := K) rRepA op_repA) (pe_tupN (pa_cons pe_int pa_nil)) (pv 2))) (pe_op (opK (K := K) rRepA op_repA) (pe_tupN (pa_cons pe_int pa_nil)) (pe_op op_sub (pv 0) (pv 2)))))))))), ?_⟩
    refine newT (sz_ (by simp)) fun p1 H1 _ k1 hp1 => newT (sz_ (by simp)) fun p2 H2 _ k2 hp2 => ?_
    refine ⟨_, rfl, rep_do hp2 (by simp) (by omega) (by omega) (by simp) fun p3 H3 k3 hp3 => ?_⟩
    rw [rep_one] at hp3
    refine catT ((k2.trans k3).tup _ _ hp1) hp3 (sz_ (by simp; omega)) fun p4 H4 k4 hp4 => ?_
    refine newT (sz_ (by simp)) fun q1 I1 _ l1 hq1 => newT (sz_ (by simp)) fun q2 I2 _ l2 hq2 => ?_
    refine ⟨_, rfl, _, _, rfl, rfl, rep_do hq2 (by simp) (by omega) (by omega) (by simp) fun q3 I3 l3 hq3 => ?_⟩
    rw [rep_one] at hq3
    refine catT ((l2.trans l3).tup _ _ hq1) hq3 (sz_ (by simp; omega)) fun q4 I4 l4 hq4 => ?_
    refine newT (sz_ (by simp)) fun s1 J1 _ m1 hs1 => newT (sz_ (by simp)) fun s2 J2 _ m2 hs2 => ?_
    refine ⟨_, rfl, _, _, rfl, rfl, rep_do hs2 (by simp) (by omega) (by omega) (by simp) fun s3 J3 m3 hs3 => ?_⟩
    rw [rep_one] at hs3
    refine catT ((m2.trans m3).tup _ _ hs1) hs3 (sz_ (by simp; omega)) fun s4 J4 m4 hs4 => ?_
    refine newL (sz_ (by simp)) fun t1 L1 _ o1 ht1 => ?_
    have kJ : Kp N0 J4 L1 := o1
    have kI : Kp N0 I4 L1 := ((((m1.trans m2).trans m3).trans m4)).trans o1
    have kH : Kp N0 H4 L1 := ((((l1.trans l2).trans l3).trans l4)).trans kI
    have k0 : Kp N0 H L1 := (((k1.trans k2).trans k3).trans k4).trans kH
    refine ⟨_, rfl, _, rfl, _, _, rfl, rfl, _, _, rfl, ⟨by omega, by omega, by omega, by omega⟩, ?_⟩
    refine lc_rows (n := (((n : Int) + 1) - 3).toNat) walk_range (fun i => [3] ++ List.replicate (3 + i) 1 ++ List.replicate (n - (3 + i)) 0) (by omega) (fun _ _ => trivial) ?_ ?_
    · rintro i x H5 H6 hi k ⟨rfl, rfl⟩ R hR
      refine ⟨rfl, ?_⟩
      refine newT (sz_ (by simp)) fun p5 H5' _ k5 hp5 => newT (sz_ (by simp)) fun p6 H6' _ k6 hp6 => ?_
      refine ⟨_, rfl, rep_do hp6 (by simp) (by omega) (by omega) (by simp) fun p7 H7 k7 hp7 => ?_⟩
      rw [rep_one] at hp7
      refine catT ((k6.trans k7).tup _ _ hp5) hp7 (sz_ (by simp; omega)) fun p8 H8 k8 hp8 => ?_
      refine newT (sz_ (by simp)) fun p9 H9 _ k9 hp9 => ?_
      refine ⟨_, rfl, _, rfl, _, _, rfl, rfl, rep_do hp9 (by simp) (by omega) (by omega) (by simp) fun p10 H10 k10 hp10 => ?_⟩
      rw [rep_one] at hp10
      refine catT ((k9.trans k10).tup _ _ hp8) hp10 (sz_ (by simp; omega)) fun p11 H11 k11 hp11 => ?_
      refine hR _ _ (((((k5.trans k6).trans k7).trans k8).trans k9).trans (k10.trans k11)) ?_
      rw [hp11, show ((3 : Int) + (i : Int)).toNat = 3 + i by omega, show ((n : Int) - (3 + (i : Int))).toNat = n - (3 + i) by omega]
      simp
    · intro D L2 ys _ k2' hD hys
      have ht2 := k2'.keep _ _ (fun z => z) ht1
      refine catL ht2 hD (sz_ (by simp [hys.len]; omega)) fun p5 H5 n5 k5 hp5 => ?_
      have kk := k2'.trans k5
      refine q _ _ _ ([[1] ++ List.replicate n 0 ++ [], [1, 1] ++ List.replicate (n - 1) 0 ++ [], [2, 1, 1] ++ List.replicate (n - 2) 0 ++ []] ++ (List.range (((n : Int) + 1) - 3).toNat).map fun i => [3] ++ List.replicate (3 + i) 1 ++ List.replicate (n - (3 + i)) 0)
        (k0.live _ (k2'.live _ n5)) (k0.trans kk) hp5 (Rws.app ⟨⟨p4, rfl, ?_⟩, ⟨q4, rfl, ?_⟩, ⟨s4, rfl, ?_⟩, trivial⟩ (hys.kp k5)) (by simp; omega) fun r hr => ?_
      · rw [(kH.trans kk).tup _ _ hp4]
        simp
      · rw [(kI.trans kk).tup _ _ hq4, show ((n : Int) - 1).toNat = n - 1 by omega]
        simp
      · rw [(kJ.trans kk).tup _ _ hs4, show ((n : Int) - 2).toNat = n - 2 by omega]
        simp
      · rcases List.mem_append.mp hr with hr | hr
        · simp only [List.mem_cons, List.not_mem_nil, or_false] at hr
          rcases hr with rfl | rfl | rfl
          · exact gen_of (by simp) 0 0 (by decide) (by decide) (fun y hy => List.eq_of_mem_replicate hy) (by simp) (by simp; omega)
          · exact gen_of (by simp) 0 0 (by decide) (by decide) (fun y hy => List.eq_of_mem_replicate hy) (by simp) (by simp; omega)
          · exact gen_of (by simp) 0 0 (by decide) (by decide) (fun y hy => List.eq_of_mem_replicate hy) (by simp) (by simp; omega)
        · obtain ⟨i, hi, rfl⟩ := List.mem_map.mp hr
          have := List.mem_range.mp hi
          exact gen_of (by simp) 1 0 (by decide) (by decide) (fun y hy => List.eq_of_mem_replicate hy) (fun y hy => List.eq_of_mem_replicate hy) (by simp; omega)
theorem sumr_gen (n : Nat) (M : Int) (hM : 0 ≤ M) : ∀ (acc : List Int) (rs : List (List Int)) (ns : List Int) (b : Int), (∀ x ∈ acc, 0 ≤ x ∧ x ≤ b) → (∀ r ∈ rs, GenR n r) → (∀ z ∈ ns, 0 ≤ z ∧ z ≤ M) → ∀ x ∈ sumr acc rs ns, 0 ≤ x ∧ x ≤ b + 3 * M * rs.length
  | acc, [], ns, b, ha, _, _ => by
    cases ns <;> (intro x hx; have := ha x hx; simp; exact this)
  | acc, r :: rs, [], b, ha, _, _ => by
    intro x hx
    have h1 := ha x hx
    have h2 : 0 ≤ 3 * M * ((r :: rs).length : Int) := Int.mul_nonneg (by omega) (by omega)
    exact ⟨h1.1, by omega⟩
  | acc, r :: rs, m :: ns, b, ha, hr, hn => by
    intro x hx
    have ih := sumr_gen n M hM (List.zipWith (fun x y => x + m * y) acc r) rs ns (b + 3 * M) (fun u hu => by
      obtain ⟨i, hi, e⟩ := List.mem_iff_getElem.mp hu
      rw [List.getElem_zipWith] at e
      rw [List.length_zipWith] at hi
      have h1 := ha _ (List.getElem_mem (show i < acc.length by omega))
      have h2 := (hr r List.mem_cons_self).2 _ (List.getElem_mem (show i < r.length by omega))
      have h3 := hn m List.mem_cons_self
      have h4 : 0 ≤ m * r[i]'(by omega) := Int.mul_nonneg h3.1 h2.1
      have h5 : m * r[i]'(by omega) ≤ M * 3 := Int.mul_le_mul h3.2 h2.2 h2.1 hM
      omega) (fun r' h' => hr r' (List.mem_cons_of_mem _ h')) (fun z hz => hn z (List.mem_cons_of_mem _ hz)) x hx
    have e : 3 * M * ((r :: rs).length : Int) = 3 * M * (rs.length : Int) + 3 * M := by
      rw [List.length_cons]
      push_cast
      rw [Int.mul_add, Int.mul_one]
    omega
theorem w_small {ns : List Int} (h : ∀ x ∈ ns, -(10 ^ 90) ≤ x ∧ x ≤ 10 ^ 90) : W700 ns := fun x hx => by
  have := h x hx
  have e : ((10 : Int) ^ 90).natAbs < 2 ^ 700 := by decide +kernel
  omega
theorem sq_lst_dr {a p : Addr} {H H' : Hp} {K : PySem.W.Frag} {xs : List V} (n : p ≠ a) (h : H p = some (.lst xs)) (d : DR a H H') : SqL K H' p xs := SqL.of (d.lst n h)
def sp_l_standard (K : PySem.W.Frag) : Sp := fun vs H Q _ => ∃ (a : Addr) (n m : Nat), vs = [.ref a, .int n, .int m] ∧ Dc a H ∧ 3 ≤ n ∧ n ≤ 16 ∧ m ≤ 100 ∧ ∀ p H' (ns : List Int), DR a H H' → H' p = some (.tup (ns.map V.int)) → ns.length = n + 1 → (∀ x ∈ ns, 0 ≤ x ∧ x ≤ 10000) → Q (.ref p) H'
theorem ok_l_standard (T : Txt K mg) (D : Df K mg "_law_standard" s_l_standard ["_law_dice_here", "_law_n", "_law_most"]) (c_l_generators : C8.Cal P w K mg base 1 "_law_generators" (sp_l_generators K) []) (c_l_sum : C8.Cal P w K mg base 1 "_law_sum" (sp_l_sum K) []) (c_l_roll : C8.Cal P w K mg base 1 "_law_roll" (sp_l_roll) []) (c_l_mixed : C8.Cal P w K mg base 2 "_law_mixed" (sp_l_mixed K) []) : C8.Cal P w K mg base 3 "_law_standard" (sp_l_standard K) [] := by
  obtain ⟨f, fd, D, hb⟩ := D
  refine C8.cal0 D (.all hb) .nil sc_l_standard (fun vs H Q E h => ?_) (fun cdv A outer s H vs Q E hr h => ?_)
  · obtain ⟨_, _, _, rfl, _⟩ := h; rfl
  · obtain ⟨a, n, m, rfl, hd, h1, h2, hm, q⟩ := h
    refine ⟨_, (pss_cons (ps_set (i := 3) sc_l_standard.nd rfl (Or.inl rfl) (C8.pe_c c_l_generators hr (by decide) (by rfl) (pa_cons (pv 1) pa_nil)))
      (pss_cons (ps_set (i := 4) sc_l_standard.nd rfl (Or.inl rfl) (C8.pe_c c_l_sum hr (by decide) (by rfl) (pa_cons (pv 3) (pa_cons (pe_lc (own := [("_law_one", 5)]) (g := gName 5) rfl sc_l_standard.nd (pi_list (pv 3)) (C8b.blk (N := ["_law_dice_here", "_law_n", "_law_most", "_law_rows", "_law_row_here", "_law_one"]) (sc := C8.fnScope s_l_standard) (by decide +kernel)) (fun _ _ _ _ _ => (pg_name (i := 5) sc_l_standard.nd rfl (Or.inl rfl))) (fun _ _ _ _ _ => pts_nil) (fun _ _ _ _ _ => (pe_op op_mulE (C8.pe_c c_l_roll hr (by decide) (by rfl) (pa_cons (pv 0) (pa_cons (pe_op op_add (pv 2) pe_int) pa_nil))) (pe_callTy call_int1 (by rfl) T.b_int (by decide +kernel) (pa_cons (pe_cmpR op_eq (C8.pe_c c_l_roll hr (by decide) (by rfl) (pa_cons (pv 0) (pa_cons pe_int pa_nil))) pe_int (nomark _)) pa_nil))))) pa_nil))))
      (pss_one (ps_ret (pe_op (opK (K := K) rCatI op_catI) (pe_tupN (pa_cons (pe_ix (ixK (K := K) rIxT ix_tup) (pv 4) pe_int (fun _ _ => rfl)) pa_nil)) (pe_callTy (callK (K := K) rTupOf call_tupI) (by rfl) T.b_tuple (by decide +kernel) (pa_cons (C8.pe_c c_l_mixed hr (by decide) (by rfl) (pa_cons (pv 0) (pa_cons (pe_slice (slK (K := K) rSlI sl_tupI) (pv 4) (po_some pe_int) po_none) pa_nil))) pa_nil))))))), ?_⟩
    refine ⟨_, rfl, n, rfl, h1, h2, fun p1 H1 ws rs n1 k1 hp1 hw hrl hg => ?_⟩
    have d1 : DR a H H1 := .of hd k1
    have np : p1 ≠ a := fun z => hd.ne n1 z.symm
    refine ⟨_, rfl, _, rfl, p1, rfl, ⟨_, SqL.of hp1⟩, ?_⟩
    refine lc_draws (a := a) (walk_list (xs := ws)) (fun z => 0 ≤ z ∧ z ≤ m) (by rw [hw.len]; omega) d1.dc (fun H' d => sq_lst_dr np hp1 d) ?_ ?_
    · rintro i x H2 H3 hi d2 ⟨rfl, hx⟩ R hR
      refine ⟨rfl, _, rfl, _, rfl, _, _, rfl, rfl, _, _, rfl, d2.dc, by omega, Nat.lt_of_le_of_lt (by omega : ((m : Int) + 1).natAbs ≤ 101) (by decide), fun r H4 r0 r1 d4 => ?_⟩
      refine ⟨_, rfl, _, _, rfl, d4.dc, by decide, by decide, fun r' H5 _ _ d5 => ⟨rfl, .inr ⟨_, rfl, _, _, rfl, rfl, mulX_right (by split <;> decide), hR _ _ (d4.trans d5) ?_⟩⟩⟩
      split
      · rw [Int.mul_one]; omega
      · rw [Int.mul_zero]; omega
    · intro D H2 zs nD d2 hD hzl hz
      have hwl := hw.len
      have hp12 := d2.lst np hp1
      refine ⟨p1, D, ws, rs, zs, n + 1, rfl, hp12, .of (hw.kp d2.kp), hD, by omega, by omega, by omega, by omega, fun r hr => ⟨(hg r hr).1, w_small fun x hx => ?_⟩, w_small fun x hx => ?_, fun p3 H3 k3 hp3 => ?_⟩
      · have := (hg r hr).2 x hx
        omega
      · have := hz x hx
        omega
      have hb := sumr_gen n m (by omega) (List.replicate (n + 1) 0) rs zs 0 (fun x hx => by rw [List.eq_of_mem_replicate hx]; omega) hg hz
      have hsl : (sumr (List.replicate (n + 1) 0) rs zs).length = n + 1 := by
        rw [sumr_len _ _ _ fun r' hr' => by rw [(hg r' hr').1]; simp]
        simp
      generalize sumr (List.replicate (n + 1) 0) rs zs = ss at hp3 hb hsl
      have hb' : ∀ x ∈ ss, 0 ≤ x ∧ x ≤ 10000 := fun x hx => by
        have h3 := hb x hx
        have h4 : 3 * (m : Int) * (rs.length : Int) ≤ 300 * 17 := Int.mul_le_mul (by omega) (by omega) (by omega) (by omega)
        omega
      have d3 : DR a H H3 := (d1.trans d2).trans (.of d2.dc k3)
      refine ⟨_, rfl, _, _, _, _, rfl, rfl, SqT.of hp3, at_row0 (by omega), newT (sz_ (by simp)) fun p4 H4 _ k4 hp4 => ?_⟩
      have d4 := d3.trans (.of d3.dc k4)
      refine ⟨_, rfl, _, rfl, _, rfl, slT (k4.tup _ _ hp3) fun p5 H5 k5 hp5 => ?_⟩
      rw [cut_1] at hp5
      have d5 := d4.trans (.of d4.dc k5)
      refine ⟨a, p5, ss.drop 1, rfl, d5.dc, .inr (SqT.of hp5), by simp; omega, fun p6 H6 ms _ d6 hp6 hperm => ?_⟩
      refine tupL rfl (SqL.of hp6) fun p7 H7 _ k7 hp7 => ?_
      have hp4' := k7.tup _ _ (d6.kp.tup _ _ (k5.tup _ _ hp4))
      refine catT (xs := [V.int (ss.getD 0 0)]) hp4' hp7 (sz_ (by have := hperm.length_eq; simp at this ⊢; omega)) fun p8 H8 k8 hp8 => ?_
      refine q p8 H8 (ss.getD 0 0 :: ms) ((d5.trans d6).trans (.of d6.dc (k7.trans k8))) hp8 (by have := hperm.length_eq; simp at this ⊢; omega) fun x hx => ?_
      rcases List.mem_cons.mp hx with rfl | hx
      · rw [List.getD_eq_getElem?_getD, List.getElem?_eq_getElem (show 0 < ss.length by omega)]
        exact hb' _ (List.getElem_mem _)
      · exact hb' x (List.mem_of_mem_drop (hperm.mem_iff.mp hx))
def sp_l_small_row (K : PySem.W.Frag) : Sp := fun vs H Q _ => ∃ (a : Addr) (n m : Nat), vs = [.ref a, .int n, .int m] ∧ Dc a H ∧ 3 ≤ n ∧ n ≤ 16 ∧ m ≤ 1000 ∧ ∀ p H' (ns : List Int), DR a H H' → H' p = some (.tup (ns.map V.int)) → ns.length = n + 1 → (∀ x ∈ ns, -10000 ≤ x ∧ x ≤ 10000) → Q (.ref p) H'
theorem nb {x : Int} (h : -100000 ≤ x ∧ x ≤ 100000) : x.natAbs < 2 ^ 700 := Nat.lt_of_le_of_lt (by omega : x.natAbs ≤ 100000) (by decide)
theorem ok_l_small_row (T : Txt K mg) (D : Df K mg "_law_small_row" s_l_small_row ["_law_dice_here", "_law_n", "_law_most"]) (c_l_one_of : C8.Cal P w K mg base 2 "_law_one_of" (sp_l_one_of K) []) (c_l_roll : C8.Cal P w K mg base 1 "_law_roll" (sp_l_roll) []) : C8.Cal P w K mg base 3 "_law_small_row" (sp_l_small_row K) [] := by
  obtain ⟨f, fd, D, hb⟩ := D
  refine C8.cal0 D (.all hb) .nil sc_l_small_row (fun vs H Q E h => ?_) (fun cdv A outer s H vs Q E hr h => ?_)
  · obtain ⟨_, _, _, rfl, _⟩ := h; rfl
  · obtain ⟨a, n, m, rfl, hd, h1, h2, hm, q⟩ := h
    refine ⟨_, (pss_cons (ps_set (i := 3) sc_l_small_row.nd rfl (Or.inr rfl) (C8.pe_c c_l_one_of hr (by decide) (by rfl) (pa_cons (pv 0) (pa_cons (pe_lstN (pa_cons pe_int (pa_cons pe_int (pa_cons (pe_un un_neg pe_int) (pa_cons (pe_un un_neg pe_int) pa_nil))))) pa_nil))))
      (pss_cons (ps_setLc (i := 4) (own := [("_law_at", 5)]) (g := gName 5) rfl sc_l_small_row.nd rfl rfl (sw_true rfl rfl rfl (by decide +kernel)) (pi_range1 (by rfl) T.b_range (pa_cons (pv 1) pa_nil)) (C8b.blk (N := ["_law_dice_here", "_law_n", "_law_most", "_law_least", "_law_numbers", "_law_at"]) (sc := C8.fnScope s_l_small_row) (by decide +kernel)) (fun _ _ _ _ _ => (pg_name (i := 5) sc_l_small_row.nd rfl (Or.inl rfl))) (fun _ _ _ _ _ => pts_nil) (fun _ _ _ _ _ => (pe_op op_add (pv 3) (C8.pe_c c_l_roll hr (by decide) (by rfl) (pa_cons (pv 0) (pa_cons (pe_op op_add (pe_op op_sub (pv 2) (pv 3)) pe_int) pa_nil))))))
      (pss_one (ps_ret (pe_op (opK (K := K) rCatI op_catI) (pe_tupN (pa_cons (pe_op op_add (C8.pe_c c_l_one_of hr (by decide) (by rfl) (pa_cons (pv 0) (pa_cons (pe_lstN (pa_cons (pe_un un_neg pe_int) (pa_cons pe_int (pa_cons pe_int (pa_cons pe_int pa_nil))))) pa_nil))) (C8.pe_c c_l_roll hr (by decide) (by rfl) (pa_cons (pv 0) (pa_cons (pe_op op_add (pe_op op_mulE pe_int (pv 2)) pe_int) pa_nil)))) pa_nil)) (pe_callTy (callK (K := K) rTupOf call_tupI) (by rfl) T.b_tuple (by decide +kernel) (pa_cons (pv 4) pa_nil))))))), ?_⟩
    refine ⟨_, rfl, _, rfl, _, rfl, newL (sz_ (by simp)) fun p1 H1 n1 k1 hp1 => ?_⟩
    have d1 : DR a H H1 := .of hd k1
    refine .inl ⟨a, p1, [0, 0, -1, -2], rfl, d1.dc, SqL.of hp1, fun H' d => sq_lst_dr (fun z => hd.ne n1 z.symm) hp1 d, by decide, by decide, fun le H2 hle d2 => ?_⟩
    have hle : -2 ≤ le ∧ le ≤ 0 := by
      simp only [List.mem_cons, List.not_mem_nil, or_false] at hle
      omega
    refine ⟨_, rfl, _, rfl, by omega, by omega, ?_⟩
    refine lc_draws (a := a) walk_range (fun z => -10000 ≤ z ∧ z ≤ 10000) (by omega) d2.dc (fun _ _ => trivial) ?_ ?_
    · rintro i x H3 H4 hi d3 ⟨rfl, rfl⟩ R hR
      exact ⟨rfl, _, rfl, _, rfl, _, rfl, _, rfl, _, _, rfl, rfl, _, _, rfl, rfl, _, _, rfl, d3.dc, by omega, nb (by omega), fun r H5 r0 r1 d5 => ⟨_, _, rfl, rfl, hR _ _ d5 ⟨by omega, by omega⟩⟩⟩
    · intro D H3 zs nD d3 hD hzl hz
      refine ⟨_, rfl, _, rfl, newL (sz_ (by simp)) fun p4 H4 n4 k4 hp4 => ?_⟩
      have hDa : D ≠ a := fun z => d2.dc.ne nD z.symm
      have hp4a : p4 ≠ a := fun z => d3.dc.ne n4 z.symm
      have d4 : DR a H3 H4 := .of d3.dc k4
      have hD4 := d4.lst hDa hD
      refine .inl ⟨a, p4, [-1, 0, 1, 2], rfl, d4.dc, SqL.of hp4, fun H' d => sq_lst_dr hp4a hp4 d, by decide, by decide, fun dg H5 hdg d5 => ?_⟩
      have hdg : -1 ≤ dg ∧ dg ≤ 2 := by
        simp only [List.mem_cons, List.not_mem_nil, or_false] at hdg
        omega
      refine ⟨_, rfl, _, rfl, _, _, rfl, rfl, mulX_left (by decide), _, _, rfl, rfl, _, _, rfl, d5.dc, by omega, nb (by omega), fun r H6 r0 r1 d6 => ⟨_, _, rfl, rfl, newT (sz_ (by simp)) fun p7 H7 _ k7 hp7 => ?_⟩⟩
      have hD7 := (DR.of d6.dc k7).lst hDa (d6.lst hDa (d5.lst hDa hD4))
      refine ⟨_, rfl, tupL rfl (SqL.of hD7) fun p8 H8 _ k8 hp8 => ?_⟩
      refine catT (xs := [V.int (dg + r)]) (k8.tup _ _ hp7) hp8 (sz_ (by simp; omega)) fun p9 H9 k9 hp9 => ?_
      refine q p9 H9 ((dg + r) :: zs) ((((((d1.trans d2).trans d3).trans d4).trans d5).trans d6).trans (.of d6.dc (k7.trans (k8.trans k9)))) hp9 (by simp; omega) fun x hx => ?_
      rcases List.mem_cons.mp hx with rfl | hx
      · omega
      · exact hz x hx
def sp_l_great_row (K : PySem.W.Frag) : Sp := fun vs H Q _ => ∃ (a : Addr) (n : Nat) (f : Int), vs = [.ref a, .int n, .int f] ∧ Dc a H ∧ 3 ≤ n ∧ n ≤ 16 ∧ ∀ p H' (ns : List Int), DR a H H' → H' p = some (.tup (ns.map V.int)) → ns.length = n + 1 → (∀ x ∈ ns, -(10 ^ 60) ≤ x ∧ x ≤ 10 ^ 60) → Q (.ref p) H'
theorem ok_l_great_row (T : Txt K mg) (D : Df K mg "_law_great_row" s_l_great_row ["_law_dice_here", "_law_n", "_law_figures"]) (c_l_roll : C8.Cal P w K mg base 1 "_law_roll" (sp_l_roll) []) (c_l_one_of : C8.Cal P w K mg base 2 "_law_one_of" (sp_l_one_of K) []) : C8.Cal P w K mg base 3 "_law_great_row" (sp_l_great_row K) [] := by
  obtain ⟨f, fd, D, hb⟩ := D
  refine C8.cal0 D (.all hb) .nil sc_l_great_row (fun vs H Q E h => ?_) (fun cdv A outer s H vs Q E hr h => ?_)
  · obtain ⟨_, _, _, rfl, _⟩ := h; rfl
  · obtain ⟨a, n, f0, rfl, hd, h1, h2, q⟩ := h
    refine ⟨_, (pss_cons (ps_set (i := 3) sc_l_great_row.nd rfl (Or.inr rfl) (pe_ifExp (pt_cmpR op_ge (pv 2) pe_int (nomark _)) (pe_op op_powW pe_int pe_int) (pe_op op_powW pe_int pe_int)))
      (pss_cons (ps_setLc (i := 4) (own := [("_law_at", 5)]) (g := gName 5) rfl sc_l_great_row.nd rfl rfl (sw_true rfl rfl rfl (by decide +kernel)) (pi_range1 (by rfl) T.b_range (pa_cons (pe_op op_add (pv 1) pe_int) pa_nil)) (C8b.blk (N := ["_law_dice_here", "_law_n", "_law_figures", "_law_size", "_law_numbers", "_law_at", "_law_one"]) (sc := C8.fnScope s_l_great_row) (by decide +kernel)) (fun _ _ _ _ _ => (pg_name (i := 5) sc_l_great_row.nd rfl (Or.inl rfl))) (fun _ _ _ _ _ => pts_nil) (fun _ _ _ _ _ => (pe_op op_add (pe_op op_mulE (C8.pe_c c_l_roll hr (by decide) (by rfl) (pa_cons (pv 0) (pa_cons (pe_op op_powW pe_int pe_int) pa_nil))) (pe_op op_fdivW (pv 3) (pe_op op_powW pe_int pe_int))) (C8.pe_c c_l_roll hr (by decide) (by rfl) (pa_cons (pv 0) (pa_cons (pe_op op_powW pe_int pe_int) pa_nil))))))
      (pss_cons (ps_asg (pe_op op_mulE (pe_ix (ixK (K := K) rIxL ix_list) (pv 4) pe_int (fun _ _ => rfl)) (C8.pe_c c_l_one_of hr (by decide) (by rfl) (pa_cons (pv 0) (pa_cons (pe_lstN (pa_cons pe_int (pa_cons pe_int (pa_cons pe_int (pa_cons pe_int pa_nil))))) pa_nil)))) (pg_sub (pv 4) pe_int set_list))
      (pss_one (ps_ret (pe_callTy (callK (K := K) rTupOf call_tupI) (by rfl) T.b_tuple (by decide +kernel) (pa_cons (pe_lc (own := [("_law_one", 6)]) (g := gName 6) rfl sc_l_great_row.nd (pi_list (pv 4)) (C8b.blk (N := ["_law_dice_here", "_law_n", "_law_figures", "_law_size", "_law_numbers", "_law_at", "_law_one"]) (sc := C8.fnScope s_l_great_row) (by decide +kernel)) (fun _ _ _ _ _ => (pg_name (i := 6) sc_l_great_row.nd rfl (Or.inl rfl))) (fun _ _ _ _ _ => pts_nil) (fun _ _ _ _ _ => (pe_ifExp (pt_cmpR op_gt (C8.pe_c c_l_roll hr (by decide) (by rfl) (pa_cons (pv 0) (pa_cons pe_int pa_nil))) pe_int (nomark _)) (pv 6) (pe_op op_sub pe_int (pv 6))))) pa_nil))))))), ?_⟩
    have e9 : ((10 : Int) ^ (9 : Int).toNat) = 1000000000 := by decide
    refine ⟨_, rfl, _, _, rfl, rfl, _, rfl, ite2 (fun _ => ⟨_, _, rfl, rfl, ⟨by decide, by decide⟩, ?_⟩) (fun _ => ⟨_, _, rfl, rfl, ⟨by decide, by decide⟩, ?_⟩)⟩
    · refine ⟨_, rfl, _, _, rfl, rfl, _, rfl, by omega, by omega, ?_⟩
      refine lc_draws (a := a) walk_range (fun z => 0 ≤ z ∧ z ≤ 10 ^ 52) (by omega) hd (fun _ _ => trivial) ?_ ?_
      · rintro i x H3 H4 hi d3 ⟨rfl, rfl⟩ R hR
        refine ⟨rfl, _, rfl, _, _, rfl, rfl, ⟨by decide, by decide⟩, _, _, rfl, d3.dc, by decide, by decide, fun r H5 r0 r1 d5 => ?_⟩
        rw [e9] at r1
        refine ⟨_, rfl, _, _, rfl, rfl, ⟨by decide, by decide⟩, _, _, rfl, rfl, wide_div (b := 64) (by decide) (by decide) (by decide) (by decide), _, _, rfl, rfl, mulX_left (by omega), ?_⟩
        refine ⟨_, rfl, _, _, rfl, rfl, ⟨by decide, by decide⟩, _, _, rfl, d5.dc, by decide, by decide, fun r' H6 r2 r3 d6 => ?_⟩
        rw [e9] at r3
        refine ⟨_, _, rfl, rfl, hR _ _ (d5.trans d6) ?_⟩
        rw [show ((10 : Int) ^ (50 : Int).toNat) / (10 : Int) ^ (9 : Int).toNat = 100000000000000000000000000000000000000000 by decide +kernel, show ((10 : Int) ^ 52) = 10000000000000000000000000000000000000000000000000000 by decide]
        omega
      · intro D H3 zs nD d3 hD hzl hz
        have hDa : D ≠ a := fun z => hd.ne nD z.symm
        refine ⟨_, rfl, D, _, _, _, rfl, rfl, SqL.of hD, at_row0 (by omega), ?_⟩
        refine ⟨_, rfl, newL (sz_ (by simp)) fun p4 H4 n4 k4 hp4 => ?_⟩
        have d4 : DR a H3 H4 := .of d3.dc k4
        have hp4a : p4 ≠ a := fun z => d3.dc.ne n4 z.symm
        refine .inl ⟨a, p4, [1, 2, 3, 3], rfl, d4.dc, SqL.of hp4, fun H' d => sq_lst_dr hp4a hp4 d, by decide, by decide, fun c H5 hc d5 => ?_⟩
        have hc : 1 ≤ c ∧ c ≤ 3 := by
          simp only [List.mem_cons, List.not_mem_nil, or_false] at hc
          omega
        have hD5 := d5.lst hDa (d4.lst hDa hD)
        refine ⟨_, _, rfl, rfl, mulX_right (by omega), ?_⟩
        refine ⟨_, rfl, D, _, _, 0, rfl, rfl, hD5, Evl.ixN_nat (j := 0) (by rw [List.length_map]; omega), ?_⟩
        have hz0 : 0 ≤ zs.getD 0 0 ∧ zs.getD 0 0 ≤ 10 ^ 52 := by
          rw [List.getD_eq_getElem?_getD, List.getElem?_eq_getElem (show 0 < zs.length by omega)]
          exact hz _ (List.getElem_mem _)
        have hH6 : upd H5 D (.lst ((zs.map V.int).set 0 (V.int (zs.getD 0 0 * c)))) D = some (.lst ((zs.set 0 (zs.getD 0 0 * c)).map V.int)) := by rw [upd_same, List.map_set]
        have d6 : DR a H (upd H5 D (.lst ((zs.map V.int).set 0 (V.int (zs.getD 0 0 * c))))) := ⟨.mut0 nD ((d3.trans d4).trans d5).kp, d5.dc.upd_ne hDa.symm⟩
        generalize upd H5 D (.lst ((zs.map V.int).set 0 (V.int (zs.getD 0 0 * c)))) = H6 at hH6 d6
        have hb : ∀ z ∈ zs.set 0 (zs.getD 0 0 * c), 0 ≤ z ∧ z ≤ 3 * 10 ^ 52 := by
          intro z hz'
          rcases List.mem_or_eq_of_mem_set hz' with hz' | rfl
          · have := hz z hz'
            omega
          · have h3 : 0 ≤ zs.getD 0 0 * c := Int.mul_nonneg hz0.1 (by omega)
            have h4 : zs.getD 0 0 * c ≤ 10 ^ 52 * 3 := Int.mul_le_mul hz0.2 hc.2 (by omega) (by decide)
            omega
        have hln : (zs.set 0 (zs.getD 0 0 * c)).length = n + 1 := by rw [List.length_set]; omega
        generalize zs.set 0 (zs.getD 0 0 * c) = ws at hH6 hb hln
        refine ⟨_, rfl, D, rfl, ⟨_, SqL.of hH6⟩, ?_⟩
        refine lc_draws (a := a) (walk_list (xs := ws.map V.int)) (fun z => -(10 ^ 60) ≤ z ∧ z ≤ 10 ^ 60) (by simp; omega) d6.dc (fun H' d => sq_lst_dr hDa hH6 d) ?_ ?_
        · rintro i x H7 H8 hi d7 ⟨rfl, hx⟩ R hR
          rw [List.length_map] at hi
          rw [int_at hi] at hx
          cases hx
          have hwi : 0 ≤ ws.getD i 0 ∧ ws.getD i 0 ≤ 3 * 10 ^ 52 := by
            rw [List.getD_eq_getElem?_getD, List.getElem?_eq_getElem hi]
            exact hb _ (List.getElem_mem hi)
          have e1 : (3 : Int) * 10 ^ 52 ≤ 10 ^ 60 := by decide
          refine ⟨rfl, _, rfl, _, _, rfl, d7.dc, by decide, by decide, fun r H9 _ _ d9 => ⟨_, _, rfl, rfl, _, rfl, ite2 (fun _ => ⟨_, rfl, hR _ _ d9 ⟨by omega, by omega⟩⟩) (fun _ => ⟨_, rfl, _, _, rfl, rfl, hR _ _ d9 ⟨by omega, by omega⟩⟩)⟩⟩
        · intro D2 H7 us _ d7 h7 hul hub
          refine tupL rfl (SqL.of h7) fun p8 H8 _ k8 hp8 => ?_
          exact q p8 H8 us ((d6.trans d7).trans (.of d7.dc k8)) hp8 (by rw [hul, List.length_map]; exact hln) hub
    · refine ⟨_, rfl, _, _, rfl, rfl, _, rfl, by omega, by omega, ?_⟩
      refine lc_draws (a := a) walk_range (fun z => 0 ≤ z ∧ z ≤ 10 ^ 52) (by omega) hd (fun _ _ => trivial) ?_ ?_
      · rintro i x H3 H4 hi d3 ⟨rfl, rfl⟩ R hR
        refine ⟨rfl, _, rfl, _, _, rfl, rfl, ⟨by decide, by decide⟩, _, _, rfl, d3.dc, by decide, by decide, fun r H5 r0 r1 d5 => ?_⟩
        rw [e9] at r1
        refine ⟨_, rfl, _, _, rfl, rfl, ⟨by decide, by decide⟩, _, _, rfl, rfl, wide_div (b := 64) (by decide) (by decide) (by decide) (by decide), _, _, rfl, rfl, mulX_left (by omega), ?_⟩
        refine ⟨_, rfl, _, _, rfl, rfl, ⟨by decide, by decide⟩, _, _, rfl, d5.dc, by decide, by decide, fun r' H6 r2 r3 d6 => ?_⟩
        rw [e9] at r3
        refine ⟨_, _, rfl, rfl, hR _ _ (d5.trans d6) ?_⟩
        rw [show ((10 : Int) ^ (9 : Int).toNat) / (10 : Int) ^ (9 : Int).toNat = 1 by decide +kernel, show ((10 : Int) ^ 52) = 10000000000000000000000000000000000000000000000000000 by decide]
        omega
      · intro D H3 zs nD d3 hD hzl hz
        have hDa : D ≠ a := fun z => hd.ne nD z.symm
        refine ⟨_, rfl, D, _, _, _, rfl, rfl, SqL.of hD, at_row0 (by omega), ?_⟩
        refine ⟨_, rfl, newL (sz_ (by simp)) fun p4 H4 n4 k4 hp4 => ?_⟩
        have d4 : DR a H3 H4 := .of d3.dc k4
        have hp4a : p4 ≠ a := fun z => d3.dc.ne n4 z.symm
        refine .inl ⟨a, p4, [1, 2, 3, 3], rfl, d4.dc, SqL.of hp4, fun H' d => sq_lst_dr hp4a hp4 d, by decide, by decide, fun c H5 hc d5 => ?_⟩
        have hc : 1 ≤ c ∧ c ≤ 3 := by
          simp only [List.mem_cons, List.not_mem_nil, or_false] at hc
          omega
        have hD5 := d5.lst hDa (d4.lst hDa hD)
        refine ⟨_, _, rfl, rfl, mulX_right (by omega), ?_⟩
        refine ⟨_, rfl, D, _, _, 0, rfl, rfl, hD5, Evl.ixN_nat (j := 0) (by rw [List.length_map]; omega), ?_⟩
        have hz0 : 0 ≤ zs.getD 0 0 ∧ zs.getD 0 0 ≤ 10 ^ 52 := by
          rw [List.getD_eq_getElem?_getD, List.getElem?_eq_getElem (show 0 < zs.length by omega)]
          exact hz _ (List.getElem_mem _)
        have hH6 : upd H5 D (.lst ((zs.map V.int).set 0 (V.int (zs.getD 0 0 * c)))) D = some (.lst ((zs.set 0 (zs.getD 0 0 * c)).map V.int)) := by rw [upd_same, List.map_set]
        have d6 : DR a H (upd H5 D (.lst ((zs.map V.int).set 0 (V.int (zs.getD 0 0 * c))))) := ⟨.mut0 nD ((d3.trans d4).trans d5).kp, d5.dc.upd_ne hDa.symm⟩
        generalize upd H5 D (.lst ((zs.map V.int).set 0 (V.int (zs.getD 0 0 * c)))) = H6 at hH6 d6
        have hb : ∀ z ∈ zs.set 0 (zs.getD 0 0 * c), 0 ≤ z ∧ z ≤ 3 * 10 ^ 52 := by
          intro z hz'
          rcases List.mem_or_eq_of_mem_set hz' with hz' | rfl
          · have := hz z hz'
            omega
          · have h3 : 0 ≤ zs.getD 0 0 * c := Int.mul_nonneg hz0.1 (by omega)
            have h4 : zs.getD 0 0 * c ≤ 10 ^ 52 * 3 := Int.mul_le_mul hz0.2 hc.2 (by omega) (by decide)
            omega
        have hln : (zs.set 0 (zs.getD 0 0 * c)).length = n + 1 := by rw [List.length_set]; omega
        generalize zs.set 0 (zs.getD 0 0 * c) = ws at hH6 hb hln
        refine ⟨_, rfl, D, rfl, ⟨_, SqL.of hH6⟩, ?_⟩
        refine lc_draws (a := a) (walk_list (xs := ws.map V.int)) (fun z => -(10 ^ 60) ≤ z ∧ z ≤ 10 ^ 60) (by simp; omega) d6.dc (fun H' d => sq_lst_dr hDa hH6 d) ?_ ?_
        · rintro i x H7 H8 hi d7 ⟨rfl, hx⟩ R hR
          rw [List.length_map] at hi
          rw [int_at hi] at hx
          cases hx
          have hwi : 0 ≤ ws.getD i 0 ∧ ws.getD i 0 ≤ 3 * 10 ^ 52 := by
            rw [List.getD_eq_getElem?_getD, List.getElem?_eq_getElem hi]
            exact hb _ (List.getElem_mem hi)
          have e1 : (3 : Int) * 10 ^ 52 ≤ 10 ^ 60 := by decide
          refine ⟨rfl, _, rfl, _, _, rfl, d7.dc, by decide, by decide, fun r H9 _ _ d9 => ⟨_, _, rfl, rfl, _, rfl, ite2 (fun _ => ⟨_, rfl, hR _ _ d9 ⟨by omega, by omega⟩⟩) (fun _ => ⟨_, rfl, _, _, rfl, rfl, hR _ _ d9 ⟨by omega, by omega⟩⟩)⟩⟩
        · intro D2 H7 us _ d7 h7 hul hub
          refine tupL rfl (SqL.of h7) fun p8 H8 _ k8 hp8 => ?_
          exact q p8 H8 us ((d6.trans d7).trans (.of d7.dc k8)) hp8 (by rw [hul, List.length_map]; exact hln) hub

/-! ### moves and words -/
inductive Mv where | sw (i j : Nat) | tn (i j k : Nat)
def Mv.val : Mv → List V
  | .sw i j => [.str "swap", .int i, .int j]
  | .tn i j k => [.str "turn", .int i, .int j, .int k]
def MvOk (n : Nat) : Mv → Prop
  | .sw i j => i < j ∧ j < n
  | .tn i j k => i < j ∧ j < k ∧ k < n
def act (r : List Int) : Mv → List Int
  | .sw i j => (r.set (1 + i) (r.getD (1 + j) 0)).set (1 + j) (r.getD (1 + i) 0)
  | .tn i j k =>
    let c := r.getD 0 0 - r.getD (1 + i) 0 - r.getD (1 + j) 0 - r.getD (1 + k) 0
    (((r.set 0 (r.getD 0 0 + c)).set (1 + i) (r.getD (1 + i) 0 + c)).set (1 + j) (r.getD (1 + j) 0 + c)).set (1 + k) (r.getD (1 + k) 0 + c)
def acts (r : List Int) (ms : List Mv) : List Int := ms.foldl act r
theorem act_len (r : List Int) (m : Mv) : (act r m).length = r.length := by
  cases m <;> simp [act]
theorem acts_len (r : List Int) (ms : List Mv) : (acts r ms).length = r.length := by
  induction ms generalizing r with
  | nil => rfl
  | cons m ms ih =>
    show (acts (act r m) ms).length = _
    rw [ih, act_len]
theorem mem_getD {r : List Int} {b : Int} (h : ∀ x ∈ r, -b ≤ x ∧ x ≤ b) (hb : 0 ≤ b) (i : Nat) : -b ≤ r.getD i 0 ∧ r.getD i 0 ≤ b := by
  by_cases hi : i < r.length
  · rw [List.getD_eq_getElem?_getD, List.getElem?_eq_getElem hi]
    exact h _ (List.getElem_mem hi)
  · rw [List.getD_eq_getElem?_getD, List.getElem?_eq_none (by omega)]
    exact ⟨by simp; omega, by simpa using hb⟩
theorem act_lim {r : List Int} {b : Int} (m : Mv) (h : ∀ x ∈ r, -b ≤ x ∧ x ≤ b) (hb : 0 ≤ b) : ∀ x ∈ act r m, -(5 * b) ≤ x ∧ x ≤ 5 * b := by
  intro x hx
  have g := mem_getD h hb
  cases m with
  | sw i j =>
    rcases List.mem_or_eq_of_mem_set hx with hx | rfl
    · rcases List.mem_or_eq_of_mem_set hx with hx | rfl
      · have := h x hx
        omega
      · have := g (1 + j)
        omega
    · have := g (1 + i)
      omega
  | tn i j k =>
    have g0 := g 0
    have g1 := g (1 + i)
    have g2 := g (1 + j)
    have g3 := g (1 + k)
    rcases List.mem_or_eq_of_mem_set hx with hx | rfl
    · rcases List.mem_or_eq_of_mem_set hx with hx | rfl
      · rcases List.mem_or_eq_of_mem_set hx with hx | rfl
        · rcases List.mem_or_eq_of_mem_set hx with hx | rfl
          · have := h x hx
            omega
          · omega
        · omega
      · omega
    · omega
theorem acts_lim (ms : List Mv) : ∀ {r : List Int} {b : Int}, (∀ x ∈ r, -b ≤ x ∧ x ≤ b) → 0 ≤ b → ∀ x ∈ acts r ms, -(5 ^ ms.length * b) ≤ x ∧ x ≤ 5 ^ ms.length * b := by
  induction ms with
  | nil =>
    intro r b h _ x hx
    have := h x hx
    simpa using this
  | cons m ms ih =>
    intro r b h hb x hx
    have := ih (act_lim m h hb) (by omega) x hx
    rw [List.length_cons, Int.pow_succ, Int.mul_assoc]
    exact this
/-- a move, a word as they stand -/
def Mvs (H : Hp) : List V → List Mv → Prop
  | [], [] => True
  | v :: vs, m :: ms => (∃ p, v = .ref p ∧ H p = some (.tup m.val)) ∧ Mvs H vs ms
  | _, _ => False
theorem Mvs.kp {S : Addr → Prop} {H H1 : Hp} (k : Kp S H H1) : ∀ {vs : List V} {ms : List Mv}, Mvs H vs ms → Mvs H1 vs ms
  | [], [], _ => trivial
  | _ :: _, _ :: _, ⟨⟨p, e, h⟩, t⟩ => ⟨⟨p, e, k.tup _ _ h⟩, Mvs.kp k t⟩
theorem Mvs.len {H : Hp} : ∀ {vs : List V} {ms : List Mv}, Mvs H vs ms → vs.length = ms.length
  | [], [], _ => rfl
  | _ :: _, _ :: _, ⟨_, t⟩ => by rw [List.length_cons, List.length_cons, Mvs.len t]
theorem Mvs.get {H : Hp} : ∀ {vs : List V} {ms : List Mv} {i : Nat} {v : V}, Mvs H vs ms → vs[i]? = some v → ∃ p m, v = .ref p ∧ ms[i]? = some m ∧ H p = some (.tup m.val)
  | [], [], i, v, _, h => by simp at h
  | u :: vs, r :: rs, 0, v, ⟨⟨p, e, h⟩, t⟩, hv => by
    cases hv
    exact ⟨p, r, e, rfl, h⟩
  | u :: vs, r :: rs, i + 1, v, ⟨_, t⟩, hv => Mvs.get (i := i) t (by simpa using hv)
theorem Mvs.app {H : Hp} : ∀ {vs ws : List V} {rs ss : List Mv}, Mvs H vs rs → Mvs H ws ss → Mvs H (vs ++ ws) (rs ++ ss)
  | [], _, [], _, _, t => t
  | _ :: _, _, _ :: _, _, ⟨x, t⟩, u => ⟨x, Mvs.app t u⟩
theorem Mvs.upd {H : Hp} {D : Addr} {zs zs' : List V} (hd : H D = some (.lst zs)) : ∀ {vs : List V} {ms : List Mv}, Mvs H vs ms → Mvs (upd H D (.lst zs')) vs ms
  | [], [], _ => trivial
  | _ :: _, _ :: _, ⟨⟨p, e, h⟩, t⟩ => ⟨⟨p, e, by rw [upd_ne (ne_of h hd (by intro z; cases z))]; exact h⟩, Mvs.upd hd t⟩
def Wd (H : Hp) (p : Addr) (ms : List Mv) : Prop := ∃ vs, H p = some (.tup vs) ∧ Mvs H vs ms
theorem Wd.kp {S : Addr → Prop} {H H1 : Hp} {p : Addr} {ms : List Mv} (k : Kp S H H1) (h : Wd H p ms) : Wd H1 p ms := by
  obtain ⟨vs, h1, h2⟩ := h
  exact ⟨vs, k.tup _ _ h1, h2.kp k⟩
def sp_l_word (K : PySem.W.Frag) : Sp := fun vs H Q _ => ∃ (a : Addr) (n m : Nat), vs = [.ref a, .int n, .int m] ∧ Dc a H ∧ 3 ≤ n ∧ n ≤ 16 ∧ m ≤ 100 ∧ ∀ p H' (ms : List Mv), DR a H H' → Wd H' p ms → ms.length ≤ m → (∀ x ∈ ms, MvOk n x) → Q (.ref p) H'
theorem three {n : Nat} {xs ys : List Int} (hn : 3 ≤ n) (h1 : xs.Perm ((List.range n).map fun i : Nat => 0 + (i : Int))) (h2 : ys.Perm (xs.take 3)) (h3 : ys.Pairwise (· ≤ ·)) : ∃ i j k : Nat, ys = [(i : Int), (j : Int), (k : Int)] ∧ i < j ∧ j < k ∧ k < n := by
  have nd : ((List.range n).map fun i : Nat => 0 + (i : Int)).Nodup := by
    have := List.nodup_range (n := n)
    exact List.Pairwise.map _ (fun a b h e => h (by omega)) this
  have nd2 : xs.Nodup := h1.nodup_iff.mpr nd
  have nd3 : (xs.take 3).Nodup := (List.take_sublist 3 xs).nodup nd2
  have nd4 : ys.Nodup := h2.nodup_iff.mpr nd3
  have hl : ys.length = 3 := by
    rw [h2.length_eq, List.length_take, h1.length_eq]
    simp
    omega
  have hm : ∀ y ∈ ys, ∃ i : Nat, y = (i : Int) ∧ i < n := by
    intro y hy
    have := h1.mem_iff.mp (List.mem_of_mem_take (h2.mem_iff.mp hy))
    obtain ⟨i, hi, rfl⟩ := List.mem_map.mp this
    exact ⟨i, by omega, List.mem_range.mp hi⟩
  match ys, hl with
  | [a, b, c], _ =>
    obtain ⟨i, rfl, hi⟩ := hm a (by simp)
    obtain ⟨j, rfl, hj⟩ := hm b (by simp)
    obtain ⟨k, rfl, hk⟩ := hm c (by simp)
    simp only [List.pairwise_cons, List.mem_cons, List.not_mem_nil, or_false, forall_eq_or_imp, forall_eq] at h3
    simp only [List.nodup_cons, List.mem_cons, List.not_mem_nil, or_false, not_or] at nd4
    exact ⟨i, j, k, rfl, by omega, by omega, hk⟩
theorem rgV_0 (n : Nat) : rgV 0 (n : Int) = ((List.range n).map fun i : Nat => 0 + (i : Int)).map V.int := by
  unfold rgV
  rw [List.map_map, show ((n : Int) - 0).toNat = n by omega]
  rfl
theorem ok_l_word (T : Txt K mg) (D : Df K mg "_law_word" s_l_word ["_law_dice_here", "_law_n", "_law_most"]) (c_l_roll : C8.Cal P w K mg base 1 "_law_roll" (sp_l_roll) []) (c_l_mixed : C8.Cal P w K mg base 2 "_law_mixed" (sp_l_mixed K) []) : C8.Cal P w K mg base 3 "_law_word" (sp_l_word K) [] := by
  obtain ⟨f, fd, D, hb⟩ := D
  refine C8.cal0 D (.all hb) .nil sc_l_word (fun vs H Q E h => ?_) (fun cdv A outer s H vs Q E hr h => ?_)
  · obtain ⟨_, _, _, rfl, _⟩ := h; rfl
  · obtain ⟨a, n, m, rfl, hd, h1, h2, hm, q⟩ := h
    refine ⟨_, (pss_cons (ps_set (i := 3) sc_l_word.nd rfl (Or.inl rfl) (pe_lstN pa_nil))
      (pss_cons (ps_for PassesOwn.never rfl (pi_range1 (by rfl) T.b_range (pa_cons (C8.pe_c c_l_roll hr (by decide) (by rfl) (pa_cons (pv 0) (pa_cons (pe_op op_add (pv 2) pe_int) pa_nil))) pa_nil)) (pg_name (i := 4) sc_l_word.nd rfl (Or.inl rfl)) (pss_cons (ps_set (i := 5) sc_l_word.nd rfl (Or.inl rfl) (pe_callB (callK (K := K) rSortI call_srtI) (by rfl) T.b_sorted (by decide +kernel) (pa_cons (pe_slice (slK (K := K) rSlLI sl_lstI) (C8.pe_c c_l_mixed hr (by decide) (by rfl) (pa_cons (pv 0) (pa_cons (pe_listRgN rfl (by rfl) T.b_list (prg_1 (by rfl) T.b_range (pv 1))) pa_nil))) po_none (po_some pe_int)) pa_nil)))
      (pss_cons (ps_set (i := 6) sc_l_word.nd rfl (Or.inl rfl) (C8.pe_c c_l_roll hr (by decide) (by rfl) (pa_cons (pv 0) (pa_cons pe_int pa_nil))))
      (pss_one (ps_expr (pe_bm PySem.F.plainAttrs_list PySem.F.slot_list_append PySem.F.type_list_append mt_append (pv 3) (pa_cons (pe_ifExp (pt_cmpR op_eq (pv 6) pe_int (nomark _)) (pe_tupN (pa_cons pe_str (pa_cons (pe_ix (ixK (K := K) rIxL ix_list) (pv 5) pe_int (fun _ _ => rfl)) (pa_cons (pe_ix (ixK (K := K) rIxL ix_list) (pv 5) pe_int (fun _ _ => rfl)) pa_nil)))) (pe_tupN (pa_cons pe_str (pa_cons (pe_ix (ixK (K := K) rIxL ix_list) (pv 5) pe_int (fun _ _ => rfl)) (pa_cons (pe_ix (ixK (K := K) rIxL ix_list) (pv 5) pe_int (fun _ _ => rfl)) (pa_cons (pe_ix (ixK (K := K) rIxL ix_list) (pv 5) pe_int (fun _ _ => rfl)) pa_nil)))))) pa_nil)))))))
      (pss_one (ps_ret (pe_callTy (callK (K := K) rTupOf call_tupI) (by rfl) T.b_tuple (by decide +kernel) (pa_cons (pv 3) pa_nil)))))), ?_⟩
    refine newL (sz_ (by simp)) fun p1 H1 n1 k1 hp1 => ?_
    have d1 : DR a H H1 := .of hd k1
    have np : p1 ≠ a := fun z => hd.ne n1 z.symm
    refine ⟨_, rfl, _, rfl, _, _, rfl, rfl, _, _, rfl, d1.dc, by omega, nb (by omega), fun r H2 r0 r1 d2 => ⟨_, rfl, by omega, by omega, ?_⟩⟩
    refine for_it (n := r.toNat) walk_range (fun i σ H' => ∃ v4 v5 v6 ws ms, σ = [some (.ref a), some (.int n), some (.int m), some (.ref p1), v4, v5, v6] ∧ DR a H H' ∧ H' p1 = some (.lst ws) ∧ Mvs H' ws ms ∧ ms.length = i ∧ ∀ x ∈ ms, MvOk n x)
      ⟨_, _, _, [], [], rfl, d1.trans d2, d2.lst np hp1, trivial, rfl, by simp⟩ (fun _ _ _ _ _ => trivial) ?_ ?_
    · rintro i x σ H3' H3 hi ⟨v4, v5, v6, ws, ms, rfl, d3, hw3, hm3, hml, hok⟩ ⟨rfl, rfl⟩
      refine ⟨_, rfl, _, rfl, _, rfl, rgL ⟨by omega, by omega, by omega, by omega, by omega⟩ fun p4 H4 n4 k4 hp4 => ?_⟩
      rw [rgV_0] at hp4
      have d4 := d3.trans (.of d3.dc k4)
      refine ⟨a, p4, _, rfl, d4.dc, .inl (SqL.of hp4), by simp; omega, fun p5 H5 us n5 d5 hp5 hperm => ?_⟩
      have hul : us.length = n := by rw [hperm.length_eq]; simp
      refine ⟨_, rfl, slL (SqL.of hp5) fun p6 H6 n6 k6 hp6 => ?_⟩
      rw [show (some (3 : Int)) = some ((3 : Nat) : Int) from rfl, cut_to, ← List.map_take] at hp6
      refine sortL rfl (SqL.of hp6) (by simp; omega) fun ys p7 H7 hperm2 hpw n7 k7 hp7 => ?_
      obtain ⟨i1, j1, k1', rfl, hij, hjk, hkn⟩ := three h1 hperm hperm2 hpw
      have d7 := (d4.trans d5).trans (.of d5.dc (k6.trans k7))
      refine ⟨_, rfl, _, _, rfl, d7.dc, by decide, by decide, fun w8 H8 _ _ d8 => ?_⟩
      have hp7a : p7 ≠ a := fun z => d5.dc.ne (k6.live _ n7) z.symm
      have hp78 := d8.lst hp7a hp7
      have hw8 := d8.lst np (k7.keep _ _ (fun z => z) (k6.keep _ _ (fun z => z) (d5.lst np (k4.keep _ _ (fun z => z) hw3))))
      have d8' := d7.trans d8
      have k38 : Kp (At a) H3 H8 := ((k4.up.trans d5.kp).trans (k6.trans k7).up).trans d8.kp
      have hm8 := hm3.kp k38
      have fin : ∀ (m' : Mv) (p9 : Addr) (H9 : Hp), Kp N0 H8 H9 → H9 p9 = some (.tup m'.val) → MvOk n m' → ∃ v4' v5' v6' ws' ms', [some (V.ref a), some (.int n), some (.int m), some (.ref p1), some (.int (0 + (i : Int))), some (.ref p7), some (.int w8)] = [some (.ref a), some (.int n), some (.int m), some (.ref p1), v4', v5', v6'] ∧ DR a H (upd H9 p1 (.lst (ws ++ [.ref p9]))) ∧ upd H9 p1 (.lst (ws ++ [.ref p9])) p1 = some (.lst ws') ∧ Mvs (upd H9 p1 (.lst (ws ++ [.ref p9]))) ws' ms' ∧ ms'.length = i + 1 ∧ ∀ x ∈ ms', MvOk n x := by
        intro m' p9 H9 k9 hp9 hm'
        have hw9 := k9.keep _ _ (fun z => z) hw8
        refine ⟨_, _, _, ws ++ [.ref p9], ms ++ [m'], rfl, ⟨.mut0 n1 (d8'.kp.trans k9.up), (d8.dc.kp k9).upd_ne np.symm⟩, upd_same, Mvs.app (Mvs.upd hw9 (hm8.kp k9)) ⟨⟨p9, rfl, ?_⟩, trivial⟩, by simp [hml], fun x hx => ?_⟩
        · rw [upd_ne (ne_of hp9 hw9 (by intro z; cases z))]
          exact hp9
        · rcases List.mem_append.mp hx with hx | hx
          · exact hok x hx
          · simp only [List.mem_cons, List.not_mem_nil, or_false] at hx
            rw [hx]; exact hm'
      have hsz : ws.length < sizeLine := Nat.lt_of_le_of_lt (by rw [hm3.len, hml]; omega : ws.length ≤ 1000) (by decide)
      refine ⟨_, rfl, .inl ⟨rfl, _, SqL.of hw8⟩, _, rfl, rfl, _, rfl, ite2 (fun _ => ?_) (fun _ => ?_)⟩
      · refine ⟨_, rfl, p7, _, _, _, rfl, rfl, SqL.of hp78, rfl, _, rfl, p7, _, _, _, rfl, rfl, SqL.of hp78, rfl, newT (sz_ (by simp)) fun p9 H9 _ k9 hp9 => ?_⟩
        exact ⟨p1, _, _, rfl, rfl, k9.keep _ _ (fun z => z) hw8, hsz, fin (.sw i1 j1) p9 H9 k9 hp9 ⟨hij, by omega⟩⟩
      · refine ⟨_, rfl, p7, _, _, _, rfl, rfl, SqL.of hp78, rfl, _, rfl, p7, _, _, _, rfl, rfl, SqL.of hp78, rfl, _, rfl, p7, _, _, _, rfl, rfl, SqL.of hp78, rfl, newT (sz_ (by simp)) fun p9 H9 _ k9 hp9 => ?_⟩
        exact ⟨p1, _, _, rfl, rfl, k9.keep _ _ (fun z => z) hw8, hsz, fin (.tn i1 j1 k1') p9 H9 k9 hp9 ⟨hij, hjk, hkn⟩⟩
    · rintro σ H3 ⟨v4, v5, v6, ws, ms, rfl, d3, hw3, hm3, hml, hok⟩
      refine ⟨_, rfl, tupL rfl (SqL.of hw3) fun p4 H4 _ k4 hp4 => ?_⟩
      exact q p4 H4 ms (d3.trans (.of d3.dc k4)) ⟨ws, hp4, hm3.kp k4⟩ (by omega) hok

def sp_l_move (K : PySem.W.Frag) : Sp := fun vs H Q _ => ∃ (a b : Addr) (ns : List Int) (m : Mv) (n : Nat), vs = [.ref a, .ref b] ∧ H a = some (.tup (ns.map V.int)) ∧ H b = some (.tup m.val) ∧ MvOk n m ∧ ns.length = n + 1 ∧ n ≤ 100 ∧ ∀ p H', Kp N0 H H' → H' p = some (.tup ((act ns m).map V.int)) → Q (.ref p) H'
theorem at1 {ns : List Int} {j : Nat} (h : 1 + j < ns.length) : atI (ns.map V.int) (1 + (j : Int)) = some (.int (ns.getD (1 + j) 0)) := by
  have := at_row (ns := ns) (j := 1 + j) h
  rw [show (((1 + j : Nat)) : Int) = 1 + (j : Int) by omega] at this
  exact this
theorem ix1 {n j : Nat} (h : 1 + j < n) : ixN n (1 + (j : Int)) = some (1 + j) := by
  have := Evl.ixN_nat (n := n) (j := 1 + j) h
  rw [show (((1 + j : Nat)) : Int) = 1 + (j : Int) by omega] at this
  exact this
def bump (c : Int) (l : List Int) (x : Nat) : List Int := l.set x (l.getD x 0 + c)
theorem bump_len (c : Int) (l : List Int) (x : Nat) : (bump c l x).length = l.length := by simp [bump]
theorem act_bump (r : List Int) (i j k : Nat) (h1 : i < j) (h2 : j < k) (c : Int) (hc : c = r.getD 0 0 - r.getD (1 + i) 0 - r.getD (1 + j) 0 - r.getD (1 + k) 0) :
    bump c (bump c (bump c (bump c r 0) (1 + i)) (1 + j)) (1 + k) = act r (.tn i j k) := by
  have g : ∀ (l : List Int) (x y : Nat) (v : Int), x ≠ y → (l.set x v).getD y 0 = l.getD y 0 := by
    intro l x y v h
    rw [List.getD_eq_getElem?_getD, List.getD_eq_getElem?_getD, List.getElem?_set_ne h]
  subst hc
  unfold bump act
  simp only
  rw [g _ 0 (1 + i) _ (by omega), g _ (1 + i) (1 + j) _ (by omega), g _ 0 (1 + j) _ (by omega), g _ (1 + j) (1 + k) _ (by omega), g _ (1 + i) (1 + k) _ (by omega), g _ 0 (1 + k) _ (by omega)]
theorem ok_l_move (T : Txt K mg) (D : Df K mg "_law_move" s_l_move ["_law_row_here", "_law_move_here"]) : C8.Cal P w K mg base 1 "_law_move" (sp_l_move K) [] := by
  obtain ⟨f, fd, D, hb⟩ := D
  refine C8.cal0 D (.all hb) .nil sc_l_move (fun vs H Q E h => ?_) (fun cdv A outer s H vs Q E hr h => ?_)
  · obtain ⟨_, _, _, _, _, rfl, _⟩ := h; rfl
  · obtain ⟨a, b, ns, m, n, rfl, ha, hb, hok, hl, hn, q⟩ := h
    refine ⟨_, (pss_cons (ps_set (i := 2) sc_l_move.nd rfl (Or.inl rfl) (pe_callTy (callK (K := K) rListOf call_lstI) (by rfl) T.b_list (by decide +kernel) (pa_cons (pv 0) pa_nil)))
      (pss_cons (ps_if (pt_cmpR op_eq (pe_ix (ixK (K := K) rIxT ix_tup) (pv 1) pe_int (fun _ _ => rfl)) pe_str (nomark _)) (pss_cons (ps_asg (pe_tupN (pa_cons (pe_ix (ixK (K := K) rIxT ix_tup) (pv 0) (pe_op op_add pe_int (pe_ix (ixK (K := K) rIxT ix_tup) (pv 1) pe_int (fun _ _ => rfl))) (fun _ _ => rfl)) (pa_cons (pe_ix (ixK (K := K) rIxT ix_tup) (pv 0) (pe_op op_add pe_int (pe_ix (ixK (K := K) rIxT ix_tup) (pv 1) pe_int (fun _ _ => rfl))) (fun _ _ => rfl)) pa_nil))) (pg_tup rfl (pgs_cons (pg_sub (pv 2) (pe_op op_add pe_int (pe_ix (ixK (K := K) rIxT ix_tup) (pv 1) pe_int (fun _ _ => rfl))) set_list) (pgs_cons (pg_sub (pv 2) (pe_op op_add pe_int (pe_ix (ixK (K := K) rIxT ix_tup) (pv 1) pe_int (fun _ _ => rfl))) set_list) pgs_nil))))
      (pss_one (ps_ret (pe_callTy (callK (K := K) rTupOf call_tupI) (by rfl) T.b_tuple (by decide +kernel) (pa_cons (pv 2) pa_nil))))) pss_nil)
      (pss_cons (ps_set (i := 3) sc_l_move.nd rfl (Or.inl rfl) (pe_op op_sub (pe_op op_sub (pe_op op_sub (pe_ix (ixK (K := K) rIxT ix_tup) (pv 0) pe_int (fun _ _ => rfl)) (pe_ix (ixK (K := K) rIxT ix_tup) (pv 0) (pe_op op_add pe_int (pe_ix (ixK (K := K) rIxT ix_tup) (pv 1) pe_int (fun _ _ => rfl))) (fun _ _ => rfl))) (pe_ix (ixK (K := K) rIxT ix_tup) (pv 0) (pe_op op_add pe_int (pe_ix (ixK (K := K) rIxT ix_tup) (pv 1) pe_int (fun _ _ => rfl))) (fun _ _ => rfl))) (pe_ix (ixK (K := K) rIxT ix_tup) (pv 0) (pe_op op_add pe_int (pe_ix (ixK (K := K) rIxT ix_tup) (pv 1) pe_int (fun _ _ => rfl))) (fun _ _ => rfl))))
      (pss_cons (ps_for PassesOwn.never rfl (pi_tup (pe_tupN (pa_cons pe_int (pa_cons (pe_op op_add pe_int (pe_ix (ixK (K := K) rIxT ix_tup) (pv 1) pe_int (fun _ _ => rfl))) (pa_cons (pe_op op_add pe_int (pe_ix (ixK (K := K) rIxT ix_tup) (pv 1) pe_int (fun _ _ => rfl))) (pa_cons (pe_op op_add pe_int (pe_ix (ixK (K := K) rIxT ix_tup) (pv 1) pe_int (fun _ _ => rfl))) pa_nil)))))) (pg_name (i := 4) sc_l_move.nd rfl (Or.inl rfl)) (pss_one (ps_asg (pe_op op_add (pe_ix (ixK (K := K) rIxL ix_list) (pv 2) (pv 4) (fun _ _ => rfl)) (pv 3)) (pg_sub (pv 2) (pv 4) set_list))))
      (pss_one (ps_ret (pe_callTy (callK (K := K) rTupOf call_tupI) (by rfl) T.b_tuple (by decide +kernel) (pa_cons (pv 2) pa_nil)))))))), ?_⟩
    refine ⟨_, rfl, listL rfl (.inr (SqT.of ha)) fun p1 H1 n1 k1 hp1 => ?_⟩
    have ha1 := k1.tup _ _ ha
    have hb1 := k1.tup _ _ hb
    cases m with
    | sw i j =>
      obtain ⟨o1, o2⟩ := hok
      refine ⟨_, rfl, b, _, _, _, rfl, rfl, SqT.of hb1, rfl, rfl, _, rfl, ?_⟩
      refine iteEq rfl ?_
      refine ⟨_, rfl, _, rfl, b, _, _, _, rfl, rfl, SqT.of hb1, rfl, _, _, rfl, rfl, a, _, _, _, rfl, rfl, SqT.of ha1, at1 (by omega), ?_⟩
      refine ⟨_, rfl, _, rfl, b, _, _, _, rfl, rfl, SqT.of hb1, rfl, _, _, rfl, rfl, a, _, _, _, rfl, rfl, SqT.of ha1, at1 (by omega), newT (sz_ (by simp)) fun p2 H2 _ k2 hp2 => ?_⟩
      have hb2 := k2.tup _ _ hb1
      have hp12 := k2.keep _ _ (fun z => z) hp1
      refine ⟨p2, _, rfl, SqT.of hp2, rfl, _, _, rfl, ?_⟩
      refine ⟨_, rfl, _, rfl, b, _, _, _, rfl, rfl, SqT.of hb2, rfl, _, _, rfl, rfl, p1, _, _, _, rfl, rfl, hp12, ix1 (by rw [List.length_map]; omega), ?_⟩
      have kk : Kp N0 H (upd H2 p1 (.lst ((ns.map V.int).set (1 + i) (V.int (ns.getD (1 + j) 0))))) := .mut0 n1 (k1.trans k2)
      have hb3 : upd H2 p1 (.lst ((ns.map V.int).set (1 + i) (V.int (ns.getD (1 + j) 0)))) b = some (.tup (Mv.val (.sw i j))) := kk.tup _ _ hb
      have hp13 : upd H2 p1 (.lst ((ns.map V.int).set (1 + i) (V.int (ns.getD (1 + j) 0)))) p1 = some (.lst ((ns.map V.int).set (1 + i) (V.int (ns.getD (1 + j) 0)))) := upd_same
      generalize upd H2 p1 (.lst ((ns.map V.int).set (1 + i) (V.int (ns.getD (1 + j) 0)))) = H3 at kk hb3 hp13
      refine ⟨_, _, rfl, _, rfl, _, rfl, b, _, _, _, rfl, rfl, SqT.of hb3, rfl, _, _, rfl, rfl, p1, _, _, _, rfl, rfl, hp13, ix1 (by rw [List.length_set, List.length_map]; omega), rfl, ?_⟩
      have hp14 : upd H3 p1 (.lst (((ns.map V.int).set (1 + i) (V.int (ns.getD (1 + j) 0))).set (1 + j) (V.int (ns.getD (1 + i) 0)))) p1 = some (.lst ((act ns (.sw i j)).map V.int)) := by
        rw [upd_same, ← List.map_set, ← List.map_set]
        rfl
      refine ⟨_, rfl, tupL rfl (SqL.of hp14) fun p5 H5 _ k5 hp5 => q _ _ (Kp.trans (.mut0 n1 kk) k5) hp5⟩
    | tn i j k =>
      obtain ⟨o1, o2, o3⟩ := hok
      refine ⟨_, rfl, b, _, _, _, rfl, rfl, SqT.of hb1, rfl, rfl, _, rfl, ?_⟩
      have e : decide (V.str "turn" = V.str "swap") = false := by decide
      refine (show ∀ {A B : Prop}, B → (if decide (V.str "turn" = V.str "swap") = true then A else B) from fun h => by rw [e]; exact iteF h) ?_
      refine ⟨_, rfl, a, _, _, _, rfl, rfl, SqT.of ha1, at_row0 (by omega), _, rfl, _, rfl, b, _, _, _, rfl, rfl, SqT.of hb1, rfl, _, _, rfl, rfl, a, _, _, _, rfl, rfl, SqT.of ha1, at1 (by omega), _, _, rfl, rfl, ?_⟩
      refine ⟨_, rfl, _, rfl, b, _, _, _, rfl, rfl, SqT.of hb1, rfl, _, _, rfl, rfl, a, _, _, _, rfl, rfl, SqT.of ha1, at1 (by omega), _, _, rfl, rfl, ?_⟩
      refine ⟨_, rfl, _, rfl, b, _, _, _, rfl, rfl, SqT.of hb1, rfl, _, _, rfl, rfl, a, _, _, _, rfl, rfl, SqT.of ha1, at1 (by omega), _, _, rfl, rfl, ?_⟩
      refine ⟨_, rfl, b, _, _, _, rfl, rfl, SqT.of hb1, rfl, _, _, rfl, rfl, _, rfl, b, _, _, _, rfl, rfl, SqT.of hb1, rfl, _, _, rfl, rfl, _, rfl, b, _, _, _, rfl, rfl, SqT.of hb1, rfl, _, _, rfl, rfl, newT (sz_ (by simp)) fun T H2 _ k2 hT => ?_⟩
      refine ⟨_, rfl, ⟨_, SqT.of hT⟩, ?_⟩
      have hp12 := k2.keep _ _ (fun z => z) hp1
      have main : ∀ (c : Int), c = ns.getD 0 0 - ns.getD (1 + i) 0 - ns.getD (1 + j) 0 - ns.getD (1 + k) 0 → ∀ i2 : Nat, i2 ≤ 4 → ([0, 1 + i, 1 + j, 1 + k].take i2).foldl (bump c) ns = ([0, 1 + i, 1 + j, 1 + k].take i2).foldl (bump c) ns := fun _ _ _ _ => rfl
      generalize hc : ns.getD 0 0 - ns.getD (1 + i) 0 - ns.getD (1 + j) 0 - ns.getD (1 + k) 0 = c
      have lenF : ∀ (l : List Nat) (r : List Int), (l.foldl (bump c) r).length = r.length := by
        intro l
        induction l with
        | nil => intro r; rfl
        | cons x l ih => intro r; show (l.foldl (bump c) (bump c r x)).length = _; rw [ih, bump_len]
      refine for_it (n := 4) (walk_tup (K := K) (a := T) (xs := [V.int 0, V.int (1 + (i : Int)), V.int (1 + (j : Int)), V.int (1 + (k : Int))])) (fun t σ H' => ∃ v4, σ = [some (.ref a), some (.ref b), some (.ref p1), some (.int c), v4] ∧ Kp N0 H H' ∧ H' T = some (.tup [V.int 0, V.int (1 + (i : Int)), V.int (1 + (j : Int)), V.int (1 + (k : Int))]) ∧ H' p1 = some (.lst ((([0, 1 + i, 1 + j, 1 + k].take t).foldl (bump c) ns).map V.int)))
        ⟨none, by rw [← hc]; rfl, k1.trans k2, hT, hp12⟩ (fun _ _ H' _ ⟨_, _, _, z, _⟩ => SqT.of z) ?_ ?_
      · rintro t x σ H3' H3 ht ⟨v4, rfl, k3, hT3, hp3⟩ ⟨rfl, hx⟩
        obtain ⟨y, hy, rfl, hyl, hyt⟩ : ∃ y : Nat, [0, 1 + i, 1 + j, 1 + k][t]? = some y ∧ x = .int (y : Int) ∧ y < ns.length ∧ [0, 1 + i, 1 + j, 1 + k].take (t + 1) = [0, 1 + i, 1 + j, 1 + k].take t ++ [y] := by
          rcases t with _ | _ | _ | _ | t
          · cases hx; exact ⟨0, rfl, rfl, by omega, rfl⟩
          · cases hx; exact ⟨1 + i, rfl, congrArg V.int (by omega), by omega, rfl⟩
          · cases hx; exact ⟨1 + j, rfl, congrArg V.int (by omega), by omega, rfl⟩
          · cases hx; exact ⟨1 + k, rfl, congrArg V.int (by omega), by omega, rfl⟩
          · omega
        have hlen := lenF ([0, 1 + i, 1 + j, 1 + k].take t) ns
        refine ⟨_, rfl, _, rfl, p1, _, _, _, rfl, rfl, SqL.of hp3, at_row (by rw [hlen]; exact hyl), _, rfl, _, _, rfl, rfl, ?_⟩
        refine ⟨_, rfl, _, rfl, p1, _, _, y, rfl, rfl, hp3, Evl.ixN_nat (by rw [List.length_map, hlen]; exact hyl), ?_⟩
        refine ⟨_, rfl, .mut0 n1 k3, ?_, ?_⟩
        · rw [upd_ne (ne_of hT3 hp3 (by intro z; cases z))]
          exact hT3
        · rw [upd_same, hyt, List.foldl_append, ← List.map_set]
          rfl
      · rintro σ H3 ⟨v4, rfl, k3, hT3, hp3⟩
        refine ⟨_, rfl, tupL rfl (SqL.of hp3) fun p5 H5 _ k5 hp5 => q _ _ (k3.trans k5) ?_⟩
        rw [hp5, ← act_bump ns i j k o1 o2 c hc.symm]
        rfl
def sp_l_moved (K : PySem.W.Frag) : Sp := fun vs H Q _ => ∃ (a b : Addr) (ns : List Int) (ms : List Mv) (n : Nat), vs = [.ref a, .ref b] ∧ H a = some (.tup (ns.map V.int)) ∧ Wd H b ms ∧ (∀ m ∈ ms, MvOk n m) ∧ ns.length = n + 1 ∧ n ≤ 100 ∧ ∀ p H', Kp N0 H H' → H' p = some (.tup ((acts ns ms).map V.int)) → Q (.ref p) H'
theorem acts_take (ns : List Int) (ms : List Mv) (i : Nat) (m : Mv) (h : ms[i]? = some m) : acts ns (ms.take (i + 1)) = act (acts ns (ms.take i)) m := by
  unfold acts
  rw [List.take_add_one, h]
  simp
theorem ok_l_moved (T : Txt K mg) (D : Df K mg "_law_moved" s_l_moved ["_law_row_here", "_law_word_here"]) (c_l_move : C8.Cal P w K mg base 1 "_law_move" (sp_l_move K) []) : C8.Cal P w K mg base 2 "_law_moved" (sp_l_moved K) [] := by
  obtain ⟨f, fd, D, hb⟩ := D
  refine C8.cal0 D (.all hb) .nil sc_l_moved (fun vs H Q E h => ?_) (fun cdv A outer s H vs Q E hr h => ?_)
  · obtain ⟨_, _, _, _, _, rfl, _⟩ := h; rfl
  · obtain ⟨a, b, ns, ms, n, rfl, ha, ⟨ws, hb, hms⟩, hok, hl, hn, q⟩ := h
    refine ⟨_, (pss_cons (ps_for PassesOwn.never rfl (pi_tup (pv 1)) (pg_name (i := 2) sc_l_moved.nd rfl (Or.inl rfl)) (pss_one (ps_set (i := 0) sc_l_moved.nd rfl (Or.inl rfl) (C8.pe_c c_l_move hr (by decide) (by rfl) (pa_cons (pv 0) (pa_cons (pv 2) pa_nil))))))
      (pss_one (ps_ret (pv 0)))), ?_⟩
    refine ⟨_, rfl, b, rfl, ⟨_, SqT.of hb⟩, ?_⟩
    refine for_it (n := ws.length) (walk_tup (K := K) (a := b) (xs := ws)) (fun t σ H' => ∃ p v2, σ = [some (.ref p), some (.ref b), v2] ∧ Kp N0 H H' ∧ H' p = some (.tup ((acts ns (ms.take t)).map V.int))) ⟨a, none, rfl, .refl _ _, ha⟩ (fun _ _ H' _ ⟨_, _, _, k, _⟩ => SqT.of (k.tup _ _ hb)) ?_ ?_
    · rintro t x σ H3' H3 ht ⟨p, v2, rfl, k3, hp3⟩ ⟨rfl, hx⟩
      obtain ⟨pm, m, rfl, hm, hpm⟩ := (hms.kp k3).get hx
      refine ⟨_, rfl, _, rfl, p, pm, _, m, n, rfl, hp3, hpm, hok m (List.mem_of_getElem? hm), by rw [acts_len]; exact hl, hn, fun p4 H4 k4 hp4 => ?_⟩
      exact ⟨p4, _, rfl, k3.trans k4, by rw [hp4, acts_take ns ms t m hm]⟩
    · rintro σ H3 ⟨p, v2, rfl, k3, hp3⟩
      rw [hms.len, List.take_length] at hp3
      exact ⟨_, rfl, q _ _ k3 hp3⟩
def LimN (n : Nat) (b : Int) (ns : List Int) : Prop := ns.length = n + 1 ∧ ∀ x ∈ ns, -b ≤ x ∧ x ≤ b
def sp_l_full_row (K : PySem.W.Frag) : Sp := fun vs H Q _ => ∃ (a : Addr) (n m : Nat), vs = [.ref a, .int n, .int m] ∧ Dc a H ∧ 3 ≤ n ∧ n ≤ 16 ∧ m ≤ 100 ∧ ∀ p H' (ns : List Int), DR a H H' → H' p = some (.tup (ns.map V.int)) → LimN n (10 ^ 30) ns → Q (.ref p) H'
theorem sumr_abs (n : Nat) : ∀ (rs : List (List Int)) (ns : List Int) (acc : List Int) (b : Int), (∀ x ∈ acc, -b ≤ x ∧ x ≤ b) → (∀ r ∈ rs, ∀ x ∈ r, -1 ≤ x ∧ x ≤ 1) → (∀ z ∈ ns, -10 ≤ z ∧ z ≤ 10) → 0 ≤ b → ∀ x ∈ sumr acc rs ns, -(b + 10 * rs.length) ≤ x ∧ x ≤ b + 10 * rs.length
  | [], ns, acc, b, ha, _, _, _ => by
    cases ns <;> (intro x hx; have := ha x hx; simp; exact this)
  | r :: rs, [], acc, b, ha, _, _, hb => by
    intro x hx
    have h1 := ha x hx
    simp only [List.length_cons]
    omega
  | r :: rs, m :: ns, acc, b, ha, hr, hn, hb => by
    intro x hx
    have ih := sumr_abs n rs ns (List.zipWith (fun x y => x + m * y) acc r) (b + 10) (fun u hu => by
      obtain ⟨i, hi, e⟩ := List.mem_iff_getElem.mp hu
      rw [List.getElem_zipWith] at e
      rw [List.length_zipWith] at hi
      have h1 := ha _ (List.getElem_mem (show i < acc.length by omega))
      have h2 := hr r List.mem_cons_self _ (List.getElem_mem (show i < r.length by omega))
      have h3 := hn m List.mem_cons_self
      rcases (show r[i]'(by omega) = -1 ∨ r[i]'(by omega) = 0 ∨ r[i]'(by omega) = 1 by omega) with e3 | e3 | e3 <;> rw [e3] at e <;> omega) (fun r' h' => hr r' (List.mem_cons_of_mem _ h')) (fun z hz => hn z (List.mem_cons_of_mem _ hz)) (by omega) x hx
    simp only [List.length_cons]
    push_cast
    omega
theorem prow_ent {n i : Nat} : ∀ x ∈ prow n i, -1 ≤ x ∧ x ≤ 1 := by
  intro x hx
  rcases List.mem_cons.mp hx with rfl | hx
  · omega
  · obtain ⟨j, _, rfl⟩ := List.mem_map.mp hx
    split <;> omega
theorem prow_len {n i : Nat} : (prow n i).length = n + 1 := by simp [prow]
theorem pow5 {k m : Nat} (h : k ≤ m) : (5 : Int) ^ k ≤ 5 ^ m := by
  have := Nat.pow_le_pow_right (show 0 < 5 by decide) h
  exact_mod_cast this
theorem ok_l_full_row (T : Txt K mg) (D : Df K mg "_law_full_row" s_l_full_row ["_law_dice_here", "_law_n", "_law_most"]) (c_l_word : C8.Cal P w K mg base 3 "_law_word" (sp_l_word K) []) (c_l_point_row : C8.Cal P w K mg base 1 "_law_point_row" (sp_l_point_row K) []) (c_l_roll : C8.Cal P w K mg base 1 "_law_roll" (sp_l_roll) []) (c_l_moved : C8.Cal P w K mg base 2 "_law_moved" (sp_l_moved K) []) (c_l_sum : C8.Cal P w K mg base 1 "_law_sum" (sp_l_sum K) []) (c_l_standard : C8.Cal P w K mg base 3 "_law_standard" (sp_l_standard K) []) : C8.Cal P w K mg base 4 "_law_full_row" (sp_l_full_row K) [] := by
  obtain ⟨f, fd, D, hb⟩ := D
  refine C8.cal0 D (.all hb) .nil sc_l_full_row (fun vs H Q E h => ?_) (fun cdv A outer s H vs Q E hr h => ?_)
  · obtain ⟨_, _, _, rfl, _⟩ := h; rfl
  · obtain ⟨a, n, m, rfl, hd, h1, h2, hm, q⟩ := h
    refine ⟨_, (pss_cons (ps_set (i := 3) sc_l_full_row.nd rfl (Or.inl rfl) (C8.pe_c c_l_word hr (by decide) (by rfl) (pa_cons (pv 0) (pa_cons (pv 1) (pa_cons pe_int pa_nil)))))
      (pss_cons (ps_setLc (i := 4) (own := [("_law_at", 6)]) (g := gName 6) rfl sc_l_full_row.nd rfl rfl (sw_true rfl rfl rfl (by decide +kernel)) (pi_range1 (by rfl) T.b_range (pa_cons (pv 1) pa_nil)) (C8b.blk (N := ["_law_dice_here", "_law_n", "_law_most", "_law_word_here", "_law_points", "_law_numbers", "_law_at"]) (sc := C8.fnScope s_l_full_row) (by decide +kernel)) (fun _ _ _ _ _ => (pg_name (i := 6) sc_l_full_row.nd rfl (Or.inl rfl))) (fun _ _ _ _ _ => pts_nil) (fun _ _ _ _ _ => (C8.pe_c c_l_point_row hr (by decide) (by rfl) (pa_cons (pv 1) (pa_cons (pv 6) pa_nil)))))
      (pss_cons (ps_setLc (i := 5) (own := [("_law_at", 6)]) (g := gName 6) rfl sc_l_full_row.nd rfl rfl (sw_true rfl rfl rfl (by decide +kernel)) (pi_list (pv 4)) (C8b.blk (N := ["_law_dice_here", "_law_n", "_law_most", "_law_word_here", "_law_points", "_law_numbers", "_law_at"]) (sc := C8.fnScope s_l_full_row) (by decide +kernel)) (fun _ _ _ _ _ => (pg_name (i := 6) sc_l_full_row.nd rfl (Or.inl rfl))) (fun _ _ _ _ _ => pts_nil) (fun _ _ _ _ _ => (pe_op op_mulE (C8.pe_c c_l_roll hr (by decide) (by rfl) (pa_cons (pv 0) (pa_cons pe_int pa_nil))) (pe_callTy call_int1 (by rfl) T.b_int (by decide +kernel) (pa_cons (pe_cmpR op_eq (C8.pe_c c_l_roll hr (by decide) (by rfl) (pa_cons (pv 0) (pa_cons pe_int pa_nil))) pe_int (nomark _)) pa_nil)))))
      (pss_one (ps_ret (C8.pe_c c_l_moved hr (by decide) (by rfl) (pa_cons (C8.pe_c c_l_sum hr (by decide) (by rfl) (pa_cons (pe_op op_catLI (pe_lstN (pa_cons (C8.pe_c c_l_standard hr (by decide) (by rfl) (pa_cons (pv 0) (pa_cons (pv 1) (pa_cons (pv 2) pa_nil)))) pa_nil)) (pv 4)) (pa_cons (pe_op op_catLI (pe_lstN (pa_cons pe_int pa_nil)) (pv 5)) pa_nil))) (pa_cons (pv 3) pa_nil)))))))), ?_⟩
    refine ⟨_, rfl, _, rfl, a, n, 6, rfl, hd, h1, h2, by decide, fun pw H1 ms d1 hw hml hok => ?_⟩
    refine ⟨_, rfl, _, rfl, by omega, by omega, ?_⟩
    refine lc_rows walk_range (fun i => prow n i) (by omega) (fun _ _ => trivial) ?_ ?_
    · rintro i x H3' H3 hi k ⟨rfl, rfl⟩ R hR
      exact ⟨rfl, _, rfl, _, rfl, n, i, by simp, h2, fun p H4 k4 hp => hR _ _ k4 hp⟩
    · intro D1 H2 ys nD1 k2 hD1 hys
      have hD1a : D1 ≠ a := fun z => d1.dc.ne nD1 z.symm
      have hyl := hys.len
      rw [List.length_map, List.length_range] at hyl
      have d2 : DR a H1 H2 := .of d1.dc k2
      refine ⟨_, rfl, D1, rfl, ⟨_, SqL.of hD1⟩, ?_⟩
      refine lc_draws (a := a) (walk_list (xs := ys)) (fun z => 0 ≤ z ∧ z ≤ 2) (by omega) d2.dc (fun H' d => sq_lst_dr hD1a hD1 d) ?_ ?_
      · rintro i x H3' H3 hi d3 ⟨rfl, hx⟩ R hR
        refine ⟨rfl, _, rfl, _, _, rfl, d3.dc, by decide, by decide, fun r1 H4 r10 r11 d4 => ?_⟩
        refine ⟨_, rfl, _, _, rfl, d4.dc, by decide, by decide, fun r2 H5 _ _ d5 => ⟨rfl, .inr ⟨_, rfl, _, _, rfl, rfl, mulX_right (by split <;> decide), hR _ _ (d4.trans d5) ?_⟩⟩⟩
        split
        · rw [Int.mul_one]; omega
        · rw [Int.mul_zero]; omega
      · intro D2 H3 zs nD2 d3 hD2 hzl hz
        have hD13 := d3.lst hD1a hD1
        have hD2a : D2 ≠ a := fun z => d2.dc.ne nD2 z.symm
        refine ⟨_, rfl, _, rfl, _, rfl, a, n, m, rfl, d3.dc, h1, h2, hm, fun p4 H4 ss d4 hp4 hsl hsb => ?_⟩
        have hD14 := d4.lst hD1a hD13
        have hD24 := d4.lst hD2a hD2
        refine newL (sz_ (by simp)) fun p5 H5 n5 k5 hp5 => ⟨_, rfl, ?_⟩
        refine catL hp5 (k5.keep _ _ (fun z => z) hD14) (sz_ (by simp; omega)) fun p6 H6 n6 k6 hp6 => ?_
        refine newL (sz_ (by simp)) fun p7 H7 n7 k7 hp7 => ⟨_, rfl, ?_⟩
        have k47 := (k5.trans k6).trans k7
        refine catL hp7 (k47.keep _ _ (fun z => z) hD24) (sz_ (by simp; omega)) fun p8 H8 n8 k8 hp8 => ?_
        have k48 := k47.trans k8
        have d8 : DR a H1 H8 := ((d2.trans d3).trans d4).trans (.of d4.dc k48)
        have hp68 := k8.keep _ _ (fun z => z) (k7.keep _ _ (fun z => z) hp6)
        have hrs : Rws H8 ([V.ref p4] ++ ys) ([ss] ++ (List.range (n : Int).toNat).map fun i => prow n i) := Rws.app ⟨⟨p4, rfl, k48.tup _ _ hp4⟩, trivial⟩ (((hys.kp d3.kp).kp d4.kp).kp k48)
        have hrl : ((List.range (n : Int).toNat).map fun i => prow n i).length = n := by simp
        have hrm : ∀ r ∈ (List.range (n : Int).toNat).map (fun i => prow n i), r.length = n + 1 ∧ ∀ x ∈ r, -1 ≤ x ∧ x ≤ 1 := fun r hr => by
          obtain ⟨i, _, rfl⟩ := List.mem_map.mp hr
          exact ⟨prow_len, prow_ent⟩
        generalize (List.range (n : Int).toNat).map (fun i => prow n i) = ps at hrs hrl hrm
        have hzs : zs.length = n := by omega
        refine ⟨p6, p8, [V.ref p4] ++ ys, [ss] ++ ps, 1 :: zs, n + 1, rfl, hp68, .of hrs, hp8, by simp; omega, by simp, by simp; omega, by omega, fun r hr => ?_, w_small fun x hx => ?_, fun p9 H9 k9 hp9 => ?_⟩
        · rcases List.mem_cons.mp hr with rfl | hr
          · exact ⟨hsl, w_small fun x hx => by have := hsb x hx; omega⟩
          · exact ⟨(hrm r hr).1, w_small fun x hx => by have := (hrm r hr).2 x hx; omega⟩
        · rcases List.mem_cons.mp hx with rfl | hx
          · omega
          · have := hz x hx
            omega
        have hb0 : ∀ x ∈ List.zipWith (fun x y => x + 1 * y) (List.replicate (n + 1) 0) ss, -10000 ≤ x ∧ x ≤ 10000 := fun u hu => by
          obtain ⟨i, hi, e⟩ := List.mem_iff_getElem.mp hu
          rw [List.getElem_zipWith] at e
          rw [List.length_zipWith] at hi
          have h3 := hsb _ (List.getElem_mem (show i < ss.length by omega))
          rw [List.getElem_replicate] at e
          omega
        have hb := sumr_abs n ps zs _ 10000 hb0 (fun r hr => (hrm r hr).2) (fun z hz' => by have := hz z hz'; omega) (by omega)
        have hsl : (sumr (List.replicate (n + 1) 0) ([ss] ++ ps) (1 :: zs)).length = n + 1 := by
          rw [sumr_len _ _ _ fun r' hr' => by
            rcases List.mem_cons.mp hr' with rfl | hr'
            · rw [hsl]; simp
            · rw [(hrm r' hr').1]; simp]
          simp
        have hb : ∀ x ∈ sumr (List.replicate (n + 1) 0) ([ss] ++ ps) (1 :: zs), -20000 ≤ x ∧ x ≤ 20000 := fun x hx => by
          have := hb x hx
          omega
        generalize sumr (List.replicate (n + 1) 0) ([ss] ++ ps) (1 :: zs) = us at hp9 hb hsl
        refine ⟨_, rfl, p9, pw, us, ms, n, rfl, hp9, (hw.kp d8.kp).kp k9, hok, hsl, by omega, fun p10 H10 k10 hp10 => ?_⟩
        refine q p10 H10 _ ((d1.trans d8).trans (.of d8.dc (k9.trans k10))) hp10 ⟨by rw [acts_len, hsl], fun x hx => ?_⟩
        have h3 := acts_lim ms hb (by omega) x hx
        have h4 := pow5 hml
        have e5 : (5 : Int) ^ 6 = 15625 := by decide
        rw [e5] at h4
        have e6 : (10 : Int) ^ 30 = 1000000000000000000000000000000 := by decide
        rw [e6]
        generalize (5 : Int) ^ ms.length = z at h3 h4
        omega
def sp_l_row (K : PySem.W.Frag) : Sp := fun vs H Q _ => ∃ (a : Addr) (n m : Nat), vs = [.ref a, .int n, .int m] ∧ Dc a H ∧ 3 ≤ n ∧ n ≤ 16 ∧ m ≤ 100 ∧ ∀ p H' (ns : List Int), DR a H H' → H' p = some (.tup (ns.map V.int)) → LimN n (10 ^ 30) ns → Q (.ref p) H'
theorem ok_l_row (T : Txt K mg) (D : Df K mg "_law_row" s_l_row ["_law_dice_here", "_law_n", "_law_most"]) (c_l_roll : C8.Cal P w K mg base 1 "_law_roll" (sp_l_roll) []) (c_l_full_row : C8.Cal P w K mg base 4 "_law_full_row" (sp_l_full_row K) []) (c_l_small_row : C8.Cal P w K mg base 3 "_law_small_row" (sp_l_small_row K) []) (c_l_moved : C8.Cal P w K mg base 2 "_law_moved" (sp_l_moved K) []) (c_l_standard : C8.Cal P w K mg base 3 "_law_standard" (sp_l_standard K) []) (c_l_word : C8.Cal P w K mg base 3 "_law_word" (sp_l_word K) []) : C8.Cal P w K mg base 5 "_law_row" (sp_l_row K) [] := by
  obtain ⟨f, fd, D, hb⟩ := D
  refine C8.cal0 D (.all hb) .nil sc_l_row (fun vs H Q E h => ?_) (fun cdv A outer s H vs Q E hr h => ?_)
  · obtain ⟨_, _, _, rfl, _⟩ := h; rfl
  · obtain ⟨a, n, m, rfl, hd, h1, h2, hm, q⟩ := h
    refine ⟨_, (pss_cons (ps_set (i := 3) sc_l_row.nd rfl (Or.inl rfl) (C8.pe_c c_l_roll hr (by decide) (by rfl) (pa_cons (pv 0) (pa_cons pe_int pa_nil))))
      (pss_cons (ps_if (pt_cmpR op_lt (pv 3) pe_int (nomark _)) (pss_one (ps_ret (C8.pe_c c_l_full_row hr (by decide) (by rfl) (pa_cons (pv 0) (pa_cons (pv 1) (pa_cons (pv 2) pa_nil)))))) pss_nil)
      (pss_one (ps_ret (pe_ifExp (pt_cmpR op_lt (pv 3) pe_int (nomark _)) (C8.pe_c c_l_small_row hr (by decide) (by rfl) (pa_cons (pv 0) (pa_cons (pv 1) (pa_cons (pe_op op_mulE pe_int (pv 2)) pa_nil)))) (C8.pe_c c_l_moved hr (by decide) (by rfl) (pa_cons (C8.pe_c c_l_standard hr (by decide) (by rfl) (pa_cons (pv 0) (pa_cons (pv 1) (pa_cons (pv 2) pa_nil)))) (pa_cons (C8.pe_c c_l_word hr (by decide) (by rfl) (pa_cons (pv 0) (pa_cons (pv 1) (pa_cons pe_int pa_nil)))) pa_nil)))))))), ?_⟩
    have e30 : (10 : Int) ^ 30 = 1000000000000000000000000000000 := by decide
    refine ⟨_, rfl, _, _, rfl, hd, by decide, by decide, fun r H1 _ _ d1 => ?_⟩
    refine ⟨_, rfl, _, _, rfl, rfl, _, rfl, ite2 (fun _ => ?_) (fun _ => ?_)⟩
    · exact ⟨_, rfl, _, rfl, _, rfl, a, n, m, rfl, d1.dc, h1, h2, hm, fun p H2 ns d2 hp hl => q p H2 ns (d1.trans d2) hp hl⟩
    · refine ⟨_, rfl, _, _, rfl, rfl, _, rfl, ite2 (fun _ => ?_) (fun _ => ?_)⟩
      · refine ⟨_, rfl, _, rfl, _, rfl, _, _, rfl, rfl, mulX_left (by decide), a, n, 3 * m, by simp, d1.dc, h1, h2, by omega, fun p H2 ns d2 hp hl hb => q p H2 ns (d1.trans d2) hp ⟨hl, fun x hx => ?_⟩⟩
        have := hb x hx
        omega
      · refine ⟨_, rfl, _, rfl, _, rfl, a, n, m, rfl, d1.dc, h1, h2, hm, fun p H2 ss d2 hp hsl hsb => ?_⟩
        refine ⟨_, rfl, _, rfl, a, n, 5, rfl, d2.dc, h1, h2, by decide, fun pw H3 ms d3 hw hml hok => ?_⟩
        refine ⟨p, pw, ss, ms, n, rfl, d3.kp.tup _ _ hp, hw, hok, hsl, by omega, fun p4 H4 k4 hp4 => ?_⟩
        refine q p4 H4 _ ((d1.trans d2).trans (d3.trans (.of d3.dc k4))) hp4 ⟨by rw [acts_len, hsl], fun x hx => ?_⟩
        have h3 := acts_lim ms (b := 10000) (fun x hx => by have := hsb x hx; omega) (by omega) x hx
        have h4 := pow5 hml
        have e5 : (5 : Int) ^ 5 = 3125 := by decide
        rw [e5] at h4
        rw [e30]
        generalize (5 : Int) ^ ms.length = z at h3 h4
        omega
def sp_l_any_row (K : PySem.W.Frag) : Sp := fun vs H Q _ => ∃ (a : Addr) (n : Nat), vs = [.ref a, .int n] ∧ Dc a H ∧ 3 ≤ n ∧ n ≤ 16 ∧ ∀ p H' (ns : List Int), DR a H H' → H' p = some (.tup (ns.map V.int)) → LimN n (10 ^ 60) ns → Q (.ref p) H'
/-! ### the mathematics of products -/
theorem big_lt : (10 : Int) ^ 60 < TL := by decide +kernel
theorem LimN.row {n : Nat} {b : Int} {r : List Int} (h : LimN n b r) (h1 : 3 ≤ n) (h2 : n ≤ 16) (hb : b < TL) : Row r := ⟨by have := h.1; omega, by have := h.1; omega, fun x hx => by
  have := h.2 x hx
  exact ⟨by omega, by omega⟩⟩
theorem limN_add {n : Nat} {b c : Int} {r s : List Int} (h : LimN n b r) (g : LimN n c s) : LimN n (b + c) (List.zipWith (· + ·) r s) := by
  have l1 := h.1
  have l2 := g.1
  refine ⟨by simp; omega, fun x hx => ?_⟩
  obtain ⟨i, hi, e⟩ := List.mem_iff_getElem.mp hx
  rw [List.getElem_zipWith] at e
  rw [List.length_zipWith] at hi
  have h3 := h.2 _ (List.getElem_mem (show i < r.length by omega))
  have h4 := g.2 _ (List.getElem_mem (show i < s.length by omega))
  omega
theorem abs_mul {a b x y : Int} (hx : -a ≤ x ∧ x ≤ a) (hy : -b ≤ y ∧ y ≤ b) : -(a * b) ≤ x * y ∧ x * y ≤ a * b := by
  have h1 : (x * y).natAbs ≤ a.toNat * b.toNat := by
    rw [Int.natAbs_mul]
    exact Nat.mul_le_mul (by omega) (by omega)
  have h2 : ((a.toNat * b.toNat : Nat) : Int) = a * b := by
    rw [Int.natCast_mul, Int.toNat_of_nonneg (by omega), Int.toNat_of_nonneg (by omega)]
  omega
theorem limN_mul {n : Nat} {b k c : Int} {r : List Int} (h : LimN n b r) (hc : -k ≤ c ∧ c ≤ k) : LimN n (k * b) (r.map (c * ·)) := by
  refine ⟨by rw [List.length_map]; exact h.1, fun x hx => ?_⟩
  obtain ⟨y, hy, rfl⟩ := List.mem_map.mp hx
  exact abs_mul hc (h.2 y hy)
theorem zw_comm (a b : List Int) : List.zipWith (· * ·) a b = List.zipWith (· * ·) b a := by
  induction a generalizing b with
  | nil => simp
  | cons x a ih =>
    cases b with
    | nil => rfl
    | cons y b => rw [List.zipWith_cons_cons, List.zipWith_cons_cons, ih, Int.mul_comm]
theorem dot_comm (r s : List Int) : dot r s = dot s r := by
  unfold dot
  rw [zw_comm, Int.mul_comm]
theorem zw_add (a b c : List Int) (h : b.length = a.length) : (List.zipWith (· * ·) (List.zipWith (· + ·) a b) c).sum = (List.zipWith (· * ·) a c).sum + (List.zipWith (· * ·) b c).sum := by
  induction a generalizing b c with
  | nil =>
    cases b with
    | nil => simp
    | cons y b => simp at h
  | cons x a ih =>
    cases b with
    | nil => simp at h
    | cons y b =>
      cases c with
      | nil => simp
      | cons z c =>
        simp only [List.zipWith_cons_cons, List.sum_cons]
        rw [ih b c (by simpa using h), Int.add_mul]
        omega
theorem cons_of {n : Nat} {r : List Int} (h : r.length = n + 1) : ∃ d m, r = d :: m ∧ m.length = n := by
  cases r with
  | nil => simp at h
  | cons d m => exact ⟨d, m, rfl, by simpa using h⟩
theorem dot_add {n : Nat} {r s t : List Int} (hr : r.length = n + 1) (hs : s.length = n + 1) : dot (List.zipWith (· + ·) r s) t = dot r t + dot s t := by
  obtain ⟨d, m, rfl, hm⟩ := cons_of hr
  obtain ⟨e, k, rfl, hk⟩ := cons_of hs
  show (d + e) * t.getD 0 0 - (List.zipWith (· * ·) (List.zipWith (· + ·) m k) (t.drop 1)).sum = (d * t.getD 0 0 - (List.zipWith (· * ·) m (t.drop 1)).sum) + (e * t.getD 0 0 - (List.zipWith (· * ·) k (t.drop 1)).sum)
  rw [zw_add _ _ _ (by omega), Int.add_mul]
  omega
theorem zw_mul (c : Int) (a b : List Int) : (List.zipWith (· * ·) (a.map (c * ·)) b).sum = c * (List.zipWith (· * ·) a b).sum := by
  induction a generalizing b with
  | nil => simp
  | cons x a ih =>
    cases b with
    | nil => simp
    | cons y b =>
      simp only [List.map_cons, List.zipWith_cons_cons, List.sum_cons]
      rw [ih, Int.mul_add, Int.mul_assoc]
theorem dot_mul {n : Nat} {r t : List Int} (c : Int) (hr : r.length = n + 1) : dot (r.map (c * ·)) t = c * dot r t := by
  obtain ⟨d, m, rfl, hm⟩ := cons_of hr
  show (c * d) * t.getD 0 0 - (List.zipWith (· * ·) (m.map (c * ·)) (t.drop 1)).sum = c * (d * t.getD 0 0 - (List.zipWith (· * ·) m (t.drop 1)).sum)
  rw [zw_mul, Int.mul_sub, Int.mul_assoc]
theorem sum_zadd (a b : List Int) (h : b.length = a.length) : (List.zipWith (· + ·) a b).sum = a.sum + b.sum := by
  induction a generalizing b with
  | nil =>
    cases b with
    | nil => simp
    | cons y b => simp at h
  | cons x a ih =>
    cases b with
    | nil => simp at h
    | cons y b =>
      simp only [List.zipWith_cons_cons, List.sum_cons]
      rw [ih b (by simpa using h)]
      omega
theorem cub_add {n : Nat} {r s : List Int} (hr : r.length = n + 1) (hs : s.length = n + 1) : cub (List.zipWith (· + ·) r s) = cub r + cub s := by
  obtain ⟨d, m, rfl, hm⟩ := cons_of hr
  obtain ⟨e, k, rfl, hk⟩ := cons_of hs
  show 3 * (d + e) - (List.zipWith (· + ·) m k).sum = (3 * d - m.sum) + (3 * e - k.sum)
  rw [sum_zadd _ _ (by omega)]
  omega
theorem sum_mul (c : Int) (a : List Int) : (a.map (c * ·)).sum = c * a.sum := by
  induction a with
  | nil => simp
  | cons x a ih => rw [List.map_cons, List.sum_cons, ih, List.sum_cons, Int.mul_add]
theorem cub_mul {n : Nat} {r : List Int} (c : Int) (hr : r.length = n + 1) : cub (r.map (c * ·)) = c * cub r := by
  obtain ⟨d, m, rfl, hm⟩ := cons_of hr
  show 3 * (c * d) - (m.map (c * ·)).sum = c * (3 * d - m.sum)
  rw [sum_mul, Int.mul_sub, ← Int.mul_assoc, ← Int.mul_assoc, Int.mul_comm 3 c]
theorem sq_par (x : Int) : (x * x) % 2 = x % 2 := by
  rcases (show x % 2 = 0 ∨ x % 2 = 1 by omega) with h | h <;> rw [Int.mul_emod, h] <;> rfl
theorem zw_par (m : List Int) : (List.zipWith (· * ·) m m).sum % 2 = m.sum % 2 := by
  induction m with
  | nil => rfl
  | cons x m ih =>
    simp only [List.zipWith_cons_cons, List.sum_cons]
    have := sq_par x
    omega
theorem par {n : Nat} {r : List Int} (hr : r.length = n + 1) : (dot r r + cub r) % 2 = 0 := by
  obtain ⟨d, m, rfl, hm⟩ := cons_of hr
  show (d * d - (List.zipWith (· * ·) m m).sum + (3 * d - m.sum)) % 2 = 0
  have h1 := sq_par d
  have h2 := zw_par m
  omega
theorem two_cntg {n : Nat} {r : List Int} (hr : r.length = n + 1) : 2 * cntg r = dot r r + cub r + 2 := by
  have := par hr
  unfold cntg
  omega
theorem two_gen {n : Nat} {r : List Int} (hr : r.length = n + 1) : 2 * gen r = dot r r - cub r + 2 := by
  have := par hr
  unfold gen
  omega
theorem dot_both {n : Nat} {r s : List Int} (hr : r.length = n + 1) (hs : s.length = n + 1) : dot (List.zipWith (· + ·) r s) (List.zipWith (· + ·) r s) = dot r r + dot s s + 2 * dot r s := by
  rw [dot_add hr hs, dot_comm r, dot_comm s, dot_add hr hs, dot_add hr hs, dot_comm s r]
  omega
theorem len_add {n : Nat} {r s : List Int} (hr : r.length = n + 1) (hs : s.length = n + 1) : (List.zipWith (· + ·) r s).length = n + 1 := by simp; omega
theorem cntg_both {n : Nat} {r s : List Int} (hr : r.length = n + 1) (hs : s.length = n + 1) : cntg (List.zipWith (· + ·) r s) = cntg r + cntg s + dot r s - 1 := by
  have h1 := two_cntg (len_add hr hs)
  have h2 := two_cntg hr
  have h3 := two_cntg hs
  rw [dot_both hr hs, cub_add hr hs] at h1
  omega
theorem gen_both {n : Nat} {r s : List Int} (hr : r.length = n + 1) (hs : s.length = n + 1) : gen (List.zipWith (· + ·) r s) = gen r + gen s + dot r s - 1 := by
  have h1 := two_gen (len_add hr hs)
  have h2 := two_gen hr
  have h3 := two_gen hs
  rw [dot_both hr hs, cub_add hr hs] at h1
  omega
theorem dot_cc {n : Nat} {r : List Int} (c : Int) (hr : r.length = n + 1) : dot (r.map (c * ·)) (r.map (c * ·)) = c * c * dot r r := by
  rw [dot_mul c hr, dot_comm r, dot_mul c hr, Int.mul_assoc]
theorem cntg_more {n : Nat} {r : List Int} (c : Int) (hr : r.length = n + 1) : 2 * cntg (r.map (c * ·)) = c * c * dot r r + c * cub r + 2 := by
  rw [two_cntg (n := n) (by rw [List.length_map, hr]), dot_cc c hr, cub_mul c hr]
theorem gen_more {n : Nat} {r : List Int} (c : Int) (hr : r.length = n + 1) : cntg (r.map (c * ·)) - gen (r.map (c * ·)) = c * cub r := by
  have h1 := two_cntg (n := n) (r := r.map (c * ·)) (by rw [List.length_map, hr])
  have h2 := two_gen (n := n) (r := r.map (c * ·)) (by rw [List.length_map, hr])
  rw [cub_mul c hr] at h1 h2
  omega
theorem sub_add (r s : List Int) (h : s.length = r.length) : List.zipWith (· - ·) (List.zipWith (· + ·) r s) s = r := by
  refine List.ext_getElem (by simp; omega) fun i h1 h2 => ?_
  rw [List.getElem_zipWith, List.getElem_zipWith]
  omega
theorem sub_self (r : List Int) : List.zipWith (· - ·) r r = List.replicate r.length 0 := by
  refine List.ext_getElem (by simp) fun i h1 h2 => ?_
  simp
theorem zw_zero (m : List Int) (n : Nat) : (List.zipWith (· * ·) m (List.replicate n 0)).sum = 0 := by
  induction m generalizing n with
  | nil => simp
  | cons x m ih =>
    cases n with
    | zero => simp
    | succ n =>
      rw [List.replicate_succ, List.zipWith_cons_cons, List.sum_cons, ih]
      simp
theorem dot_lrow {n : Nat} (r : List Int) : dot r (lrow n) = r.getD 0 0 := by
  show r.getD 0 0 * 1 - (List.zipWith (· * ·) (r.drop 1) (List.replicate n 0)).sum = _
  rw [zw_zero]
  omega
theorem zw_pt (m : List Int) (i k : Nat) : (List.zipWith (· * ·) m ((List.range m.length).map fun j => 0 - (if k + j = i then (1 : Int) else 0))).sum = if k ≤ i then 0 - m.getD (i - k) 0 else 0 := by
  induction m generalizing k with
  | nil => simp
  | cons x m ih =>
    rw [List.length_cons, List.range_succ_eq_map, List.map_cons, List.map_map, List.zipWith_cons_cons, List.sum_cons]
    have e : ((fun j => 0 - (if k + j = i then (1 : Int) else 0)) ∘ Nat.succ) = fun j => 0 - (if (k + 1) + j = i then (1 : Int) else 0) := by
      funext j
      show 0 - (if k + (j + 1) = i then (1 : Int) else 0) = _
      rw [show k + (j + 1) = k + 1 + j by omega]
    rw [e, ih (k + 1)]
    by_cases h : k = i
    · subst h
      simp
      rw [if_neg (by omega)]
      omega
    · rw [if_neg (by omega)]
      by_cases h2 : k ≤ i
      · rw [if_pos (by omega), if_pos h2, show i - k = (i - (k + 1)) + 1 by omega]
        simp
      · rw [if_neg (by omega), if_neg h2]
        simp
theorem dot_prow {n i : Nat} {r : List Int} (hr : r.length = n + 1) : dot r (prow n i) = r.getD (1 + i) 0 := by
  obtain ⟨d, m, rfl, rfl⟩ := cons_of hr
  show d * 0 - (List.zipWith (· * ·) m ((List.range m.length).map fun j => 0 - (if j = i then (1 : Int) else 0))).sum = _
  have := zw_pt m i 0
  simp only [Nat.zero_add] at this
  rw [this, if_pos (by omega), show 1 + i = i + 1 by omega]
  show d * 0 - (0 - m.getD i 0) = m.getD i 0
  omega
theorem lrow_row {n : Nat} (h1 : 3 ≤ n) (h2 : n ≤ 16) : Row (lrow n) := by
  refine ⟨by simp [lrow]; omega, by simp [lrow]; omega, fun x hx => ?_⟩
  rcases List.mem_cons.mp hx with rfl | hx
  · exact sh_small (by decide) (by decide)
  · rw [List.eq_of_mem_replicate hx]
    exact sh_small (by decide) (by decide)
theorem prow_row {n i : Nat} (h1 : 3 ≤ n) (h2 : n ≤ 16) : Row (prow n i) := by
  refine ⟨by rw [prow_len]; omega, by rw [prow_len]; omega, fun x hx => ?_⟩
  have := prow_ent x hx
  exact sh_small (by omega) (by omega)
theorem zw_lim (p k : Int) : ∀ (a b : List Int), (∀ x ∈ a, -p ≤ x ∧ x ≤ p) → (∀ y ∈ b, -k ≤ y ∧ y ≤ k) → -((a.length : Int) * (p * k)) ≤ (List.zipWith (· * ·) a b).sum ∧ (0 ≤ p * k → (List.zipWith (· * ·) a b).sum ≤ (a.length : Int) * (p * k)) ∧ (0 ≤ p * k → -((a.length : Int) * (p * k)) ≤ (List.zipWith (· * ·) a b).sum) ∨ p * k < 0
  | [], b, _, _ => by simp
  | x :: a, [], _, _ => by
    by_cases h : p * k < 0
    · exact .inr h
    · have : 0 ≤ ((x :: a).length : Int) * (p * k) := Int.mul_nonneg (by omega) (by omega)
      refine .inl ⟨?_, fun _ => ?_, fun _ => ?_⟩ <;> simp <;> simp at this <;> omega
  | x :: a, y :: b, ha, hb => by
    rcases zw_lim p k a b (fun z hz => ha z (List.mem_cons_of_mem _ hz)) (fun z hz => hb z (List.mem_cons_of_mem _ hz)) with ih | ih
    · have h := abs_mul (ha x List.mem_cons_self) (hb y List.mem_cons_self)
      have h0 : 0 ≤ p * k := by omega
      have i1 := ih.1
      have i2 := ih.2.1 h0
      have e : (((x :: a).length : Nat) : Int) * (p * k) = (a.length : Int) * (p * k) + p * k := by
        rw [List.length_cons]
        push_cast
        rw [Int.add_mul, Int.one_mul]
      rw [e, List.zipWith_cons_cons, List.sum_cons]
      exact .inl ⟨by omega, fun _ => by omega, fun _ => by omega⟩
    · exact .inr ih
theorem dot_w {n : Nat} {r t : List Int} (hr : LimN n (10 ^ 60) r) (ht : LimN n (10 ^ 60) t) (h2 : n ≤ 16) : (dot r t).natAbs < 2 ^ 700 := by
  obtain ⟨d, m, rfl, hm⟩ := cons_of hr.1
  obtain ⟨e, k, rfl, hk⟩ := cons_of ht.1
  show (d * e - (List.zipWith (· * ·) m k).sum).natAbs < 2 ^ 700
  have e0 : (10 : Int) ^ 60 * 10 ^ 60 = 10 ^ 120 := by decide +kernel
  have h := abs_mul (hr.2 d List.mem_cons_self) (ht.2 e List.mem_cons_self)
  have z := zw_lim (10 ^ 60) (10 ^ 60) m k (fun x hx => hr.2 x (List.mem_cons_of_mem _ hx)) (fun x hx => ht.2 x (List.mem_cons_of_mem _ hx))
  rw [e0] at h z
  have p0 : (0 : Int) ≤ 10 ^ 120 := by decide +kernel
  rcases z with z | z
  · have z1 := z.1
    have z2 := z.2.1 p0
    have h3 : (m.length : Int) * 10 ^ 120 ≤ 16 * 10 ^ 120 := Int.mul_le_mul_of_nonneg_right (by omega) p0
    have h4 : ((17 : Int) * 10 ^ 120).natAbs < 2 ^ 700 := by decide +kernel
    omega
  · omega
theorem sum_lim (p : Int) : ∀ a : List Int, (∀ x ∈ a, -p ≤ x ∧ x ≤ p) → -((a.length : Int) * p) ≤ a.sum ∧ a.sum ≤ (a.length : Int) * p
  | [], _ => by simp
  | x :: a, h => by
    have ih := sum_lim p a fun z hz => h z (List.mem_cons_of_mem _ hz)
    have h1 := h x List.mem_cons_self
    have e : (((x :: a).length : Nat) : Int) * p = (a.length : Int) * p + p := by
      rw [List.length_cons]
      push_cast
      rw [Int.add_mul, Int.one_mul]
    rw [e, List.sum_cons]
    omega
theorem cub_w {n : Nat} {r : List Int} (hr : LimN n (10 ^ 60) r) (h2 : n ≤ 16) : (cub r).natAbs < 2 ^ 700 := by
  obtain ⟨d, m, rfl, hm⟩ := cons_of hr.1
  show (3 * d - m.sum).natAbs < 2 ^ 700
  have h := hr.2 d List.mem_cons_self
  have z := sum_lim (10 ^ 60) m (fun x hx => hr.2 x (List.mem_cons_of_mem _ hx))
  have p0 : (0 : Int) ≤ 10 ^ 60 := by decide +kernel
  have h3 : (m.length : Int) * 10 ^ 60 ≤ 16 * 10 ^ 60 := Int.mul_le_mul_of_nonneg_right (by omega) p0
  have h4 : ((19 : Int) * 10 ^ 60).natAbs < 2 ^ 700 := by decide +kernel
  omega
theorem cc_w {c : Int} (hc : -(10 ^ 41) ≤ c ∧ c ≤ 10 ^ 41) : (c * c).natAbs < 2 ^ 700 := by
  have h := abs_mul hc hc
  have h4 : ((10 : Int) ^ 41 * 10 ^ 41).natAbs < 2 ^ 700 := by decide +kernel
  omega
theorem drop_range {n : Nat} {r : List Int} (hr : r.length = n + 1) : (List.range n).map (fun i => r.getD (1 + i) 0) = r.drop 1 := by
  refine List.ext_getElem (by simp; omega) fun i h1 h2 => ?_
  simp at h1
  have e : 1 + i = i + 1 := by omega
  simp [List.getD_eq_getElem?_getD, e, show i + 1 < r.length by omega]

/-! ### what moves keep -/
theorem zsum_set (a b : List Int) (i : Nat) (x y : Int) (h1 : i < a.length) (h2 : i < b.length) : (List.zipWith (· * ·) (a.set i x) (b.set i y)).sum = (List.zipWith (· * ·) a b).sum - a.getD i 0 * b.getD i 0 + x * y := by
  induction a generalizing b i with
  | nil => simp at h1
  | cons u a ih =>
    cases b with
    | nil => simp at h2
    | cons v b =>
      cases i with
      | zero =>
        show x * y + (List.zipWith (· * ·) a b).sum = u * v + (List.zipWith (· * ·) a b).sum - u * v + x * y
        omega
      | succ i =>
        have := ih b i (by simpa using h1) (by simpa using h2)
        show u * v + (List.zipWith (· * ·) (a.set i x) (b.set i y)).sum = u * v + (List.zipWith (· * ·) a b).sum - a.getD i 0 * b.getD i 0 + x * y
        omega
theorem sum_set (a : List Int) (i : Nat) (x : Int) (h : i < a.length) : (a.set i x).sum = a.sum - a.getD i 0 + x := by
  induction a generalizing i with
  | nil => simp at h
  | cons u a ih =>
    cases i with
    | zero =>
      show x + a.sum = u + a.sum - u + x
      omega
    | succ i =>
      have := ih i (by simpa using h)
      show u + (a.set i x).sum = u + a.sum - a.getD i 0 + x
      omega
theorem getD_set_ne (l : List Int) (i j : Nat) (v : Int) (h : i ≠ j) : (l.set i v).getD j 0 = l.getD j 0 := by
  rw [List.getD_eq_getElem?_getD, List.getD_eq_getElem?_getD, List.getElem?_set_ne h]
theorem getD_set_eq (l : List Int) (i : Nat) (v : Int) (h : i < l.length) : (l.set i v).getD i 0 = v := by
  rw [List.getD_eq_getElem?_getD, List.getElem?_set_self h]
  rfl
theorem act_sw (d : Int) (m : List Int) (i j : Nat) : act (d :: m) (.sw i j) = d :: (m.set i (m.getD j 0)).set j (m.getD i 0) := by
  show ((d :: m).set (1 + i) ((d :: m).getD (1 + j) 0)).set (1 + j) ((d :: m).getD (1 + i) 0) = _
  rw [show 1 + i = i + 1 by omega, show 1 + j = j + 1 by omega]
  rfl
theorem act_tn (d : Int) (m : List Int) (i j k : Nat) (c : Int) (hc : c = d - m.getD i 0 - m.getD j 0 - m.getD k 0) : act (d :: m) (.tn i j k) = (d + c) :: ((m.set i (m.getD i 0 + c)).set j (m.getD j 0 + c)).set k (m.getD k 0 + c) := by
  subst hc
  unfold act
  simp only
  rw [show 1 + i = i + 1 by omega, show 1 + j = j + 1 by omega, show 1 + k = k + 1 by omega]
  rfl
theorem dot_cons (d f : Int) (a b : List Int) : dot (d :: a) (f :: b) = d * f - (List.zipWith (· * ·) a b).sum := rfl
theorem dot_act {n : Nat} {r s : List Int} (m : Mv) (h : MvOk n m) (hr : r.length = n + 1) (hs : s.length = n + 1) : dot (act r m) (act s m) = dot r s := by
  obtain ⟨d, a, rfl, ha⟩ := cons_of hr
  obtain ⟨f, b, rfl, hb⟩ := cons_of hs
  cases m with
  | sw i j =>
    obtain ⟨h1, h2⟩ := h
    rw [act_sw, act_sw, dot_cons, dot_cons]
    rw [zsum_set _ _ _ _ _ (by rw [List.length_set]; omega) (by rw [List.length_set]; omega), zsum_set _ _ _ _ _ (by omega) (by omega), getD_set_ne _ _ _ _ (by omega), getD_set_ne _ _ _ _ (by omega)]
    omega
  | tn i j k =>
    obtain ⟨h1, h2, h3⟩ := h
    generalize hc : d - a.getD i 0 - a.getD j 0 - a.getD k 0 = c
    generalize he : f - b.getD i 0 - b.getD j 0 - b.getD k 0 = e
    rw [act_tn _ _ _ _ _ c hc.symm, act_tn _ _ _ _ _ e he.symm, dot_cons, dot_cons]
    rw [zsum_set _ _ _ _ _ (by rw [List.length_set, List.length_set]; omega) (by rw [List.length_set, List.length_set]; omega), zsum_set _ _ _ _ _ (by rw [List.length_set]; omega) (by rw [List.length_set]; omega), zsum_set _ _ _ _ _ (by omega) (by omega)]
    rw [getD_set_ne _ _ k _ (show j ≠ k by omega), getD_set_ne _ _ k _ (show i ≠ k by omega), getD_set_ne _ _ j _ (show i ≠ j by omega)]
    rw [getD_set_ne _ _ k _ (show j ≠ k by omega), getD_set_ne _ _ k _ (show i ≠ k by omega), getD_set_ne _ _ j _ (show i ≠ j by omega)]
    have e1 : c * e = d * e - a.getD i 0 * e - a.getD j 0 * e - a.getD k 0 * e := by rw [← hc, Int.sub_mul, Int.sub_mul, Int.sub_mul]
    have e2 : c * e = c * f - c * b.getD i 0 - c * b.getD j 0 - c * b.getD k 0 := by rw [← he, Int.mul_sub, Int.mul_sub, Int.mul_sub]
    simp only [Int.add_mul, Int.mul_add]
    omega
theorem cub_act {n : Nat} {r : List Int} (m : Mv) (h : MvOk n m) (hr : r.length = n + 1) : cub (act r m) = cub r := by
  obtain ⟨d, a, rfl, ha⟩ := cons_of hr
  cases m with
  | sw i j =>
    obtain ⟨h1, h2⟩ := h
    rw [act_sw]
    show 3 * d - (List.set _ _ _).sum = 3 * d - a.sum
    rw [sum_set _ _ _ (by rw [List.length_set]; omega), sum_set _ _ _ (by omega), getD_set_ne _ _ _ _ (by omega)]
    omega
  | tn i j k =>
    obtain ⟨h1, h2, h3⟩ := h
    generalize hc : d - a.getD i 0 - a.getD j 0 - a.getD k 0 = c
    rw [act_tn _ _ _ _ _ c hc.symm]
    show 3 * (d + c) - (List.set _ _ _).sum = 3 * d - a.sum
    rw [sum_set _ _ _ (by rw [List.length_set, List.length_set]; omega), sum_set _ _ _ (by rw [List.length_set]; omega), sum_set _ _ _ (by omega), getD_set_ne _ _ k _ (show j ≠ k by omega), getD_set_ne _ _ k _ (show i ≠ k by omega), getD_set_ne _ _ j _ (show i ≠ j by omega)]
    omega
theorem act_act {n : Nat} {r : List Int} (m : Mv) (h : MvOk n m) (hr : r.length = n + 1) : act (act r m) m = r := by
  obtain ⟨d, a, rfl, ha⟩ := cons_of hr
  cases m with
  | sw i j =>
    obtain ⟨h1, h2⟩ := h
    rw [act_sw, act_sw]
    congr 1
    rw [getD_set_eq _ j _ (by rw [List.length_set]; omega), getD_set_ne _ j i _ (by omega), getD_set_eq _ i _ (by omega)]
    refine List.ext_getElem (by simp) fun k k1 k2 => ?_
    simp only [List.getElem_set]
    by_cases e1 : j = k
    · subst e1
      rw [if_pos rfl, List.getD_eq_getElem?_getD, List.getElem?_eq_getElem k2]
      rfl
    · by_cases e2 : i = k
      · subst e2
        rw [if_neg e1, if_pos rfl, List.getD_eq_getElem?_getD, List.getElem?_eq_getElem k2]
        rfl
      · rw [if_neg e1, if_neg e2, if_neg e1, if_neg e2]
  | tn i j k =>
    obtain ⟨h1, h2, h3⟩ := h
    generalize hc : d - a.getD i 0 - a.getD j 0 - a.getD k 0 = c
    rw [act_tn _ _ _ _ _ c hc.symm]
    generalize hb : ((a.set i (a.getD i 0 + c)).set j (a.getD j 0 + c)).set k (a.getD k 0 + c) = b
    have bi : b.getD i 0 = a.getD i 0 + c := by rw [← hb, getD_set_ne _ k i _ (by omega), getD_set_ne _ j i _ (by omega), getD_set_eq _ i _ (by omega)]
    have bj : b.getD j 0 = a.getD j 0 + c := by rw [← hb, getD_set_ne _ k j _ (by omega), getD_set_eq _ j _ (by rw [List.length_set]; omega)]
    have bk : b.getD k 0 = a.getD k 0 + c := by rw [← hb, getD_set_eq _ k _ (by rw [List.length_set, List.length_set]; omega)]
    rw [act_tn _ b i j k (-c) (by omega), bi, bj, bk, show d + c + -c = d by omega, show a.getD i 0 + c + -c = a.getD i 0 by omega, show a.getD j 0 + c + -c = a.getD j 0 by omega, show a.getD k 0 + c + -c = a.getD k 0 by omega]
    congr 1
    refine List.ext_getElem (by rw [← hb]; simp) fun q q1 q2 => ?_
    have ga : ∀ x, x = q → a.getD x 0 = a[q] := fun x hx => by
      subst hx
      rw [List.getD_eq_getElem?_getD, List.getElem?_eq_getElem q2]
      rfl
    simp only [List.getElem_set, ← hb]
    by_cases e1 : k = q
    · rw [if_pos e1]
      exact ga k e1
    · by_cases e2 : j = q
      · rw [if_neg e1, if_pos e2]
        exact ga j e2
      · by_cases e3 : i = q
        · rw [if_neg e1, if_neg e2, if_pos e3]
          exact ga i e3
        · rw [if_neg e1, if_neg e2, if_neg e3, if_neg e1, if_neg e2, if_neg e3]
theorem acts_append (r : List Int) (ms ws : List Mv) : acts r (ms ++ ws) = acts (acts r ms) ws := by
  unfold acts
  rw [List.foldl_append]
theorem dot_acts {n : Nat} (ms : List Mv) : ∀ {r s : List Int}, (∀ m ∈ ms, MvOk n m) → r.length = n + 1 → s.length = n + 1 → dot (acts r ms) (acts s ms) = dot r s := by
  induction ms with
  | nil => intro r s _ _ _; rfl
  | cons m ms ih =>
    intro r s h hr hs
    show dot (acts (act r m) ms) (acts (act s m) ms) = _
    rw [ih (fun x hx => h x (List.mem_cons_of_mem _ hx)) (by rw [act_len, hr]) (by rw [act_len, hs]), dot_act m (h m List.mem_cons_self) hr hs]
theorem cub_acts {n : Nat} (ms : List Mv) : ∀ {r : List Int}, (∀ m ∈ ms, MvOk n m) → r.length = n + 1 → cub (acts r ms) = cub r := by
  induction ms with
  | nil => intro r _ _; rfl
  | cons m ms ih =>
    intro r h hr
    show cub (acts (act r m) ms) = _
    rw [ih (fun x hx => h x (List.mem_cons_of_mem _ hx)) (by rw [act_len, hr]), cub_act m (h m List.mem_cons_self) hr]
theorem cntg_acts {n : Nat} (ms : List Mv) {r : List Int} (h : ∀ m ∈ ms, MvOk n m) (hr : r.length = n + 1) : cntg (acts r ms) = cntg r := by
  unfold cntg
  rw [dot_acts ms h hr hr, cub_acts ms h hr]
theorem acts_back {n : Nat} (ms : List Mv) : ∀ {r : List Int}, (∀ m ∈ ms, MvOk n m) → r.length = n + 1 → acts (acts r ms) ms.reverse = r := by
  induction ms with
  | nil => intro r _ _; rfl
  | cons m ms ih =>
    intro r h hr
    rw [List.reverse_cons, acts_append]
    show acts (acts (acts (act r m) ms) ms.reverse) [m] = r
    rw [ih (fun x hx => h x (List.mem_cons_of_mem _ hx)) (by rw [act_len, hr])]
    exact act_act m (h m List.mem_cons_self) hr
theorem acts_fore {n : Nat} (ms : List Mv) {r : List Int} (h : ∀ m ∈ ms, MvOk n m) (hr : r.length = n + 1) : acts r (ms.reverse ++ ms) = r := by
  rw [acts_append]
  have := acts_back ms.reverse (n := n) (r := r) (fun m hm => h m (List.mem_reverse.mp hm)) hr
  rw [List.reverse_reverse] at this
  exact this
theorem far_lt : (10 : Int) ^ 80 < TL := by decide +kernel
theorem acts_limN {n : Nat} {r : List Int} {ms : List Mv} (h : LimN n (10 ^ 60) r) (hl : ms.length ≤ 28) : LimN n (10 ^ 80) (acts r ms) := by
  refine ⟨by rw [acts_len, h.1], fun x hx => ?_⟩
  have h3 := acts_lim ms h.2 (by decide) x hx
  have h4 := pow5 hl
  have h5 : (5 : Int) ^ ms.length * 10 ^ 60 ≤ 5 ^ 28 * 10 ^ 60 := Int.mul_le_mul_of_nonneg_right h4 (by decide)
  have h6 : (5 : Int) ^ 28 * 10 ^ 60 ≤ 10 ^ 80 := by decide +kernel
  omega

/-! ### words as data, and the program's moves -/
def Mv.idx : Mv → List Int
  | .sw i j => [(i : Int), (j : Int)]
  | .tn i j k => [(i : Int), (j : Int), (k : Int)]
def Mv.nm : Mv → Str
  | .sw _ _ => "swap"
  | .tn _ _ _ => "turn"
theorem Mv.val_eq (m : Mv) : m.val = V.str m.nm :: m.idx.map V.int := by cases m <;> rfl
theorem val_cut1 (m : Mv) : cutV m.val (some 1) none = m.idx.map V.int := by
  rw [show (some (1 : Int)) = some ((1 : Nat) : Int) from rfl, cut_from]
  cases m <;> rfl
theorem val_cut2 (m : Mv) : cutV m.val (some 2) none = (m.idx.drop 1).map V.int := by
  rw [show (some (2 : Int)) = some ((2 : Nat) : Int) from rfl, cut_from]
  cases m <;> rfl
def Mv.dt (m : Mv) : PyData := .tuple (.str m.nm :: di m.idx)
theorem Mv.dp {H : Hp} {p : Addr} {m : Mv} (h : H p = some (.tup m.val)) : Dp K H (.ref p) m.dt := by
  rw [Mv.val_eq] at h
  exact .tup (SqT.of h) (.cons (.str _) (dpAll_ints _))
def dms (ms : List Mv) : List PyData := ms.map Mv.dt
theorem Mvs.dp {H : Hp} : ∀ {vs : List V} {ms : List Mv}, Mvs H vs ms → DpAll K H vs (dms ms)
  | [], [], _ => .nil
  | _ :: _, _ :: _, ⟨⟨p, e, h⟩, t⟩ => by
    subst e
    exact .cons (Mv.dp h) (Mvs.dp t)
theorem canLay_mv (m : Mv) : m.dt.canLay0 = true := by
  have h1 := canLay_di m.idx
  have h2 : PyData.strOk m.nm = true := by
    cases m with
    | sw i j => exact (by decide +kernel : PyData.strOk "swap" = true)
    | tn i j k => exact (by decide +kernel : PyData.strOk "turn" = true)
  simp only [Mv.dt, PyData.canLay0, PyData.canLayAll0, h1, h2, Bool.and_true]
theorem canLay_dms : ∀ ms : List Mv, PyData.canLayAll0 (dms ms) = true
  | [] => by simp [dms, PyData.canLayAll0]
  | m :: r => by
    have h1 := canLay_dms r
    have h2 := canLay_mv m
    simp only [dms, List.map_cons, PyData.canLayAll0, h2, Bool.true_and] at h1 ⊢
    exact h1
theorem depth_dms : ∀ ms : List Mv, PyData.depthAll (dms ms) ≤ 6
  | [] => by simp [dms, PyData.depthAll]
  | m :: r => by
    have h1 := depth_dms r
    have h2 := depth_di m.idx
    simp only [dms, Mv.dt, List.map_cons, PyData.depthAll, PyData.depth] at h1 ⊢
    omega
theorem shaped_word (ms : List Mv) : SeqAt.shaped (.tuple (dms ms)) = true := by
  have h1 := canLay_dms ms
  have h2 := depth_dms ms
  unfold SeqAt.shaped
  rw [Bool.and_eq_true]
  exact ⟨by simpa [PyData.canLay0] using h1, decide_eq_true (by simp only [PyData.depth]; omega)⟩
theorem neWord {H : Hp} {a b : Addr} {ms : List Mv} {Q : VK} (h1 : Wd H a ms) (h2 : Wd H b ms) (q : Q (.bl false) H) : rNeI K (.ref a) (.ref b) H Q := by
  obtain ⟨vs, h1, m1⟩ := h1
  obtain ⟨ws, h2, m2⟩ := h2
  unfold rNeI
  refine ⟨_, _, .tup (SqT.of h1) m1.dp, .tup (SqT.of h2) m2.dp, shaped_word ms, shaped_word ms, ?_⟩
  rw [SeqAt.eqv_refl _ (SeqAt.canLay_of_shaped (shaped_word ms))]
  exact q
theorem Mvs.rev {H : Hp} : ∀ {vs : List V} {ms : List Mv}, Mvs H vs ms → Mvs H vs.reverse ms.reverse
  | [], [], _ => trivial
  | v :: vs, m :: ms, ⟨x, t⟩ => by
    rw [List.reverse_cons, List.reverse_cons]
    exact Mvs.app (Mvs.rev t) ⟨x, trivial⟩
theorem idx_ok {n : Nat} {m : Mv} (h : MvOk n m) : (∀ x ∈ m.idx, 0 ≤ x ∧ x ≤ (n : Int) - 1) ∧ ∀ i, 1 + i < m.idx.length → m.idx.getD i 0 < m.idx.getD (1 + i) 0 := by
  cases m with
  | sw i j =>
    obtain ⟨h1, h2⟩ := h
    refine ⟨fun x hx => ?_, fun t ht => ?_⟩
    · simp only [Mv.idx, List.mem_cons, List.not_mem_nil, or_false] at hx
      omega
    · simp only [Mv.idx, List.length_cons, List.length_nil] at ht
      have : t = 0 := by omega
      subst this
      show (i : Int) < (j : Int)
      omega
  | tn i j k =>
    obtain ⟨h1, h2, h3⟩ := h
    refine ⟨fun x hx => ?_, fun t ht => ?_⟩
    · simp only [Mv.idx, List.mem_cons, List.not_mem_nil, or_false] at hx
      omega
    · simp only [Mv.idx, List.length_cons, List.length_nil] at ht
      rcases (show t = 0 ∨ t = 1 by omega) with rfl | rfl
      · show (i : Int) < (j : Int)
        omega
      · show (j : Int) < (k : Int)
        omega
theorem idx_len (m : Mv) : m.idx.length ≤ 3 := by cases m <;> simp [Mv.idx]
theorem iteNo {x y : V} {A B : Prop} (h : x ≠ y) (b : B) : if decide (x = y) = true then A else B := by
  rw [decide_eq_false h]
  exact iteF b
def sp_is_move (K : PySem.W.Frag) : Sp := fun vs H Q _ => ∃ (n : Nat) (p : Addr) (m : Mv), vs = [.int n, .ref p] ∧ H p = some (.tup m.val) ∧ MvOk n m ∧ n ≤ 16 ∧ ∀ H', Kp N0 H H' → Q (.bl true) H'
theorem ok_is_move (T : Txt K mg) (D : Df K mg "is_move" s_is_move ["n", "value"]) (c_is_from_to : C8.Cal P w K mg base 3 "is_from_to" (sp_is_from_to) []) : C8.Cal P w K mg base 4 "is_move" (sp_is_move K) [] := by
  obtain ⟨f, fd, D, hb⟩ := D
  refine C8.cal0 D (.all hb) .nil sc_is_move (fun vs H Q E h => ?_) (fun cdv A outer s H vs Q E hr h => ?_)
  · obtain ⟨_, _, _, rfl, _⟩ := h; rfl
  · obtain ⟨n, p, m, rfl, hp, hok, hn, q⟩ := h
    refine ⟨_, (pss_cons (ps_if (PW.pt (pw_or (pt_not (pt_val (pe_callB (callK (K := K) rIsi call_isi) (by rfl) T.b_isinstance (by decide +kernel) (pa_cons (pv 1) (pa_cons (pe_bltn (v := .ty "tuple") (by rfl) T.b_tuple (by decide +kernel) rfl) pa_nil))))) (pw_or1 (pt_cmpR op_notIn_seq (pe_callB (callK (K := K) Vf.rLen call_lenI) (by rfl) T.b_len (by decide +kernel) (pa_cons (pv 1) pa_nil)) (pe_tupN (pa_cons pe_int (pa_cons pe_int pa_nil))) rfl)))) (pss_one (ps_ret pe_bl)) pss_nil)
      (pss_cons (ps_set (i := 2) sc_is_move.nd rfl (Or.inl rfl) (pe_ifExp (pt_cmpR op_eq (pe_callB (callK (K := K) Vf.rLen call_lenI) (by rfl) T.b_len (by decide +kernel) (pa_cons (pv 1) pa_nil)) pe_int (nomark _)) pe_str pe_str))
      (pss_cons (ps_if (PW.pt (pw_or (pt_cmpR op_ne (pe_ix (ixK (K := K) rIxT ix_tup) (pv 1) pe_int (fun _ _ => rfl)) (pv 2) (nomark _)) (pw_or1 (pt_not (pt_val (pe_callB (callK (K := K) rAll (cr_all rfl)) (by rfl) T.b_all (by decide +kernel) (pa_cons (pe_lc (own := [("index", 3)]) (g := gName 3) rfl sc_is_move.nd (pi_tup (pe_slice (slK (K := K) rSlI sl_tupI) (pv 1) (po_some pe_int) po_none)) (C8b.blk (N := ["n", "value", "name", "index", "low", "high"]) (sc := C8.fnScope s_is_move) (by decide +kernel)) (fun _ _ _ _ _ => (pg_name (i := 3) sc_is_move.nd rfl (Or.inl rfl))) (fun _ _ _ _ _ => pts_nil) (fun _ _ _ _ _ => (C8.pe_c c_is_from_to hr (by decide) (by rfl) (pa_cons (pv 3) (pa_cons pe_int (pa_cons (pe_op op_sub (pv 0) pe_int) pa_nil)))))) pa_nil))))))) (pss_one (ps_ret pe_bl)) pss_nil)
      (pss_one (ps_ret (pe_callB (callK (K := K) rAll (cr_all rfl)) (by rfl) T.b_all (by decide +kernel) (pa_cons (pe_lc (own := [("low", 4), ("high", 5)]) (g := gTup K 2 (gCons (gName 4) (gCons (gName 5) gNil))) rfl sc_is_move.nd (RZ.pi_zipA (by rfl) T.b_zip (pa_cons (pe_slice (slK (K := K) rSlI sl_tupI) (pv 1) (po_some pe_int) po_none) (pa_cons (pe_slice (slK (K := K) rSlI sl_tupI) (pv 1) (po_some pe_int) po_none) pa_nil))) (C8b.blk (N := ["n", "value", "name", "index", "low", "high"]) (sc := C8.fnScope s_is_move) (by decide +kernel)) (fun _ _ _ _ _ => (pg_tup rfl (pgs_cons (pg_name (i := 4) sc_is_move.nd rfl (Or.inl rfl)) (pgs_cons (pg_name (i := 5) sc_is_move.nd rfl (Or.inl rfl)) pgs_nil)))) (fun _ _ _ _ _ => pts_nil) (fun _ _ _ _ _ => (pe_cmpR op_lt (pv 4) (pv 5) (nomark _)))) pa_nil))))))), ?_⟩
    refine ⟨_, rfl, _, _, _, _, true, rfl, .ty _, tyT hp, kit_ty (by decide +kernel), true, rfl, iteF ?_⟩
    refine ⟨_, rfl, lenT rfl hp ?_⟩
    have main : ∀ H1, Kp N0 H H1 → ∀ (σ : L2.St), True := fun _ _ _ => trivial
    obtain ⟨i1, i2⟩ := idx_ok hok
    have il := idx_len m
    have hcut1 := val_cut1 m
    have hcut2 := val_cut2 m
    refine newT (sz_ (by simp)) fun p1 H1 _ k1 hp1 => ?_
    refine ⟨p1, _, rfl, .inr (SqT.of hp1), rfl, rfl, false, by cases m <;> rfl, iteF ?_⟩
    have h1 := k1.tup _ _ hp
    refine ⟨_, rfl, lenT rfl h1 ⟨rfl, _, rfl, ?_⟩⟩
    cases m with
    | sw i j =>
      refine iteEq rfl ?_
      refine ⟨_, rfl, p, _, _, _, rfl, rfl, SqT.of h1, rfl, _, rfl, rfl, _, rfl, iteNe rfl ?_⟩
      refine ⟨_, rfl, _, rfl, slT h1 fun p2 H2 k2 hp2 => ?_⟩
      rw [hcut1] at hp2
      refine ⟨_, rfl, ⟨_, SqT.of hp2⟩, ?_⟩
      refine lc_bools walk_tup (fun _ => true) (by rw [List.length_map]; omega) (fun H' k => SqT.of (k.tup _ _ hp2)) ?_ ?_
      · rintro t x H3 H4 hi k ⟨rfl, hx⟩ R hR
        rw [List.length_map] at hi
        rw [int_at hi] at hx
        cases hx
        have hb := i1 _ (List.getElem_mem hi)
        rw [show (Mv.idx _)[t] = (Mv.idx _).getD t 0 by rw [List.getD_eq_getElem?_getD, List.getElem?_eq_getElem hi]; rfl] at hb
        exact ⟨rfl, _, rfl, _, rfl, _, _, rfl, rfl, _, _, _, rfl, sh_small (by omega) (by omega), hb.1, hb.2, hR _ (.refl _ _)⟩
      intro D2 H3 k3 h3
      refine ⟨D2, _, rfl, SqL.of h3, ?_⟩
      rw [show (List.map (fun _ => true) (List.range (List.map V.int _).length)).all id = true by simp]
      refine ⟨_, rfl, iteF ?_⟩
      have h4 := (k2.trans k3).tup _ _ h1
      refine ⟨_, rfl, _, rfl, slT h4 fun p5 H5 k5 hp5 => ?_⟩
      refine ⟨_, rfl, _, rfl, slT (k5.tup _ _ h4) fun p6 H6 k6 hp6 => ?_⟩
      have hp5 := k6.tup _ _ hp5
      rw [hcut1] at hp5
      rw [hcut2] at hp6
      refine ⟨_, _, _, _, rfl, .inr ⟨SqT.of hp5, SqT.of hp6, ?_⟩⟩
      refine lc_bools (walk_zipT rfl) (fun _ => true) (by simp only [List.length_map, List.length_drop]; omega) (fun H' k => ⟨SqT.of (k.tup _ _ hp5), SqT.of (k.tup _ _ hp6)⟩) ?_ ?_
      · rintro t x H7 H8 hi k7 ⟨T, x1, x2, rfl, hT, rfl, e1, e2⟩ R hR
        simp only [List.length_map, List.length_drop] at hi
        have hi1 : t < (Mv.sw i j).idx.length := by omega
        have hi2 : t < ((Mv.sw i j).idx.drop 1).length := by rw [List.length_drop]; omega
        obtain rfl : x1 = _ := (Option.some.inj ((int_at hi1).symm.trans e1)).symm
        obtain rfl : x2 = _ := (Option.some.inj ((int_at hi2).symm.trans e2)).symm
        have hlt := i2 t (by omega)
        rw [show ∀ l : List Int, l.getD (1 + t) 0 = (l.drop 1).getD t 0 from fun l => by rw [List.getD_eq_getElem?_getD, List.getD_eq_getElem?_getD, List.getElem?_drop]] at hlt
        refine ⟨T, _, rfl, SqT.of upd_same, rfl, _, _, rfl, _, _, rfl, rfl, rfl, _, rfl, _, rfl, _, _, rfl, rfl, ?_⟩
        show R (V.bl (decide (_ < _))) _
        rw [decide_eq_true hlt]
        exact hR _ (.new hT)
      intro D9 H9 k9 h9
      refine ⟨D9, _, rfl, SqL.of h9, ?_⟩
      rw [show (List.map (fun _ => true) (List.range (min (List.map V.int _).length (List.map V.int _).length))).all id = true by simp]
      exact q _ (k1.trans ((k2.trans k3).trans ((k5.trans k6).trans k9)))
    | tn i j k =>
      refine iteNo (fun z => absurd (V.int.inj z) (by show ¬ ((4 : Int) = 3); decide)) ?_
      refine ⟨_, rfl, p, _, _, _, rfl, rfl, SqT.of h1, rfl, _, rfl, rfl, _, rfl, iteNe rfl ?_⟩
      refine ⟨_, rfl, _, rfl, slT h1 fun p2 H2 k2 hp2 => ?_⟩
      rw [hcut1] at hp2
      refine ⟨_, rfl, ⟨_, SqT.of hp2⟩, ?_⟩
      refine lc_bools walk_tup (fun _ => true) (by rw [List.length_map]; omega) (fun H' k => SqT.of (k.tup _ _ hp2)) ?_ ?_
      · rintro t x H3 H4 hi k ⟨rfl, hx⟩ R hR
        rw [List.length_map] at hi
        rw [int_at hi] at hx
        cases hx
        have hb := i1 _ (List.getElem_mem hi)
        rw [show (Mv.idx _)[t] = (Mv.idx _).getD t 0 by rw [List.getD_eq_getElem?_getD, List.getElem?_eq_getElem hi]; rfl] at hb
        exact ⟨rfl, _, rfl, _, rfl, _, _, rfl, rfl, _, _, _, rfl, sh_small (by omega) (by omega), hb.1, hb.2, hR _ (.refl _ _)⟩
      intro D2 H3 k3 h3
      refine ⟨D2, _, rfl, SqL.of h3, ?_⟩
      rw [show (List.map (fun _ => true) (List.range (List.map V.int _).length)).all id = true by simp]
      refine ⟨_, rfl, iteF ?_⟩
      have h4 := (k2.trans k3).tup _ _ h1
      refine ⟨_, rfl, _, rfl, slT h4 fun p5 H5 k5 hp5 => ?_⟩
      refine ⟨_, rfl, _, rfl, slT (k5.tup _ _ h4) fun p6 H6 k6 hp6 => ?_⟩
      have hp5 := k6.tup _ _ hp5
      rw [hcut1] at hp5
      rw [hcut2] at hp6
      refine ⟨_, _, _, _, rfl, .inr ⟨SqT.of hp5, SqT.of hp6, ?_⟩⟩
      refine lc_bools (walk_zipT rfl) (fun _ => true) (by simp only [List.length_map, List.length_drop]; omega) (fun H' k => ⟨SqT.of (k.tup _ _ hp5), SqT.of (k.tup _ _ hp6)⟩) ?_ ?_
      · rintro t x H7 H8 hi k7 ⟨T, x1, x2, rfl, hT, rfl, e1, e2⟩ R hR
        simp only [List.length_map, List.length_drop] at hi
        have hi1 : t < (Mv.tn i j k).idx.length := by omega
        have hi2 : t < ((Mv.tn i j k).idx.drop 1).length := by rw [List.length_drop]; omega
        obtain rfl : x1 = _ := (Option.some.inj ((int_at hi1).symm.trans e1)).symm
        obtain rfl : x2 = _ := (Option.some.inj ((int_at hi2).symm.trans e2)).symm
        have hlt := i2 t (by omega)
        rw [show ∀ l : List Int, l.getD (1 + t) 0 = (l.drop 1).getD t 0 from fun l => by rw [List.getD_eq_getElem?_getD, List.getD_eq_getElem?_getD, List.getElem?_drop]] at hlt
        refine ⟨T, _, rfl, SqT.of upd_same, rfl, _, _, rfl, _, _, rfl, rfl, rfl, _, rfl, _, rfl, _, _, rfl, rfl, ?_⟩
        show R (V.bl (decide (_ < _))) _
        rw [decide_eq_true hlt]
        exact hR _ (.new hT)
      intro D9 H9 k9 h9
      refine ⟨D9, _, rfl, SqL.of h9, ?_⟩
      rw [show (List.map (fun _ => true) (List.range (min (List.map V.int _).length (List.map V.int _).length))).all id = true by simp]
      exact q _ (k1.trans ((k2.trans k3).trans ((k5.trans k6).trans k9)))
def sp_do_move (K : PySem.W.Frag) : Sp := fun vs H Q _ => ∃ (e p : Addr) (r : List Int) (m : Mv) (n : Nat), vs = [.ref e, .ref p] ∧ H e = some (.lst (r.map V.int)) ∧ H p = some (.tup m.val) ∧ MvOk n m ∧ r.length = n + 1 ∧ n ≤ 100 ∧ ∀ H', Kp (At e) H H' → H' e = some (.lst ((act r m).map V.int)) → Q .non H'
theorem at2 {ns : List Int} {j : Nat} (h : 1 + j < ns.length) : atI (ns.map V.int) ((j : Int) + 1) = some (.int (ns.getD (1 + j) 0)) := by
  have := at_row (ns := ns) (j := 1 + j) h
  rw [show (((1 + j : Nat)) : Int) = (j : Int) + 1 by omega] at this
  exact this
theorem ix2 {n j : Nat} (h : 1 + j < n) : ixN n ((j : Int) + 1) = some (1 + j) := by
  have := Evl.ixN_nat (n := n) (j := 1 + j) h
  rw [show (((1 + j : Nat)) : Int) = (j : Int) + 1 by omega] at this
  exact this
theorem ok_do_move (T : Txt K mg) (D : Df K mg "do_move" s_do_move ["entries", "move"]) : C8.Cal P w K mg base 1 "do_move" (sp_do_move K) [] := by
  obtain ⟨f, fd, D, hb⟩ := D
  refine C8.cal0 D (.all hb) .nil sc_do_move (fun vs H Q E h => ?_) (fun cdv A outer s H vs Q E hr h => ?_)
  · obtain ⟨_, _, _, _, _, rfl, _⟩ := h; rfl
  · obtain ⟨e, p, r, m, n, rfl, he, hp, hok, hl, hn, q⟩ := h
    refine ⟨_, (pss_one (ps_if (pt_cmpR op_eq (pe_ix (ixK (K := K) rIxT ix_tup) (pv 1) pe_int (fun _ _ => rfl)) pe_str (nomark _)) (pss_cons (ps_par (i := 2) (j := 3) (by rfl) sc_do_move.nd rfl rfl (by decide) rfl rfl (pa_cons (pe_op op_add (pe_ix (ixK (K := K) rIxT ix_tup) (pv 1) pe_int (fun _ _ => rfl)) pe_int) (pa_cons (pe_op op_add (pe_ix (ixK (K := K) rIxT ix_tup) (pv 1) pe_int (fun _ _ => rfl)) pe_int) pa_nil)) (by rfl))
      (pss_one (ps_asg (pe_tupN (pa_cons (pe_ix (ixK (K := K) rIxL ix_list) (pv 0) (pv 3) (fun _ _ => rfl)) (pa_cons (pe_ix (ixK (K := K) rIxL ix_list) (pv 0) (pv 2) (fun _ _ => rfl)) pa_nil))) (pg_tup rfl (pgs_cons (pg_sub (pv 0) (pv 2) set_list) (pgs_cons (pg_sub (pv 0) (pv 3) set_list) pgs_nil)))))) (pss_cons (ps_par3 (i := 2) (j := 3) (l := 4) (by rfl) sc_do_move.nd rfl rfl rfl (by decide) (by decide) (by decide) rfl rfl rfl (pa_cons (pe_op op_add (pe_ix (ixK (K := K) rIxT ix_tup) (pv 1) pe_int (fun _ _ => rfl)) pe_int) (pa_cons (pe_op op_add (pe_ix (ixK (K := K) rIxT ix_tup) (pv 1) pe_int (fun _ _ => rfl)) pe_int) (pa_cons (pe_op op_add (pe_ix (ixK (K := K) rIxT ix_tup) (pv 1) pe_int (fun _ _ => rfl)) pe_int) pa_nil))) (by rfl))
      (pss_cons (ps_set (i := 5) sc_do_move.nd rfl (Or.inl rfl) (pe_op op_sub (pe_op op_sub (pe_op op_sub (pe_ix (ixK (K := K) rIxL ix_list) (pv 0) pe_int (fun _ _ => rfl)) (pe_ix (ixK (K := K) rIxL ix_list) (pv 0) (pv 2) (fun _ _ => rfl))) (pe_ix (ixK (K := K) rIxL ix_list) (pv 0) (pv 3) (fun _ _ => rfl))) (pe_ix (ixK (K := K) rIxL ix_list) (pv 0) (pv 4) (fun _ _ => rfl))))
      (pss_one (ps_for PassesOwn.never rfl (pi_tup (pe_tupN (pa_cons pe_int (pa_cons (pv 2) (pa_cons (pv 3) (pa_cons (pv 4) pa_nil)))))) (pg_name (i := 6) sc_do_move.nd rfl (Or.inl rfl)) (pss_one (ps_asg (pe_op op_add (pe_ix (ixK (K := K) rIxL ix_list) (pv 0) (pv 6) (fun _ _ => rfl)) (pv 5)) (pg_sub (pv 0) (pv 6) set_list))))))))), ?_⟩
    cases m with
    | sw i j =>
      obtain ⟨o1, o2⟩ := hok
      refine ⟨_, rfl, p, _, _, _, rfl, rfl, SqT.of hp, rfl, rfl, _, rfl, iteEq rfl ?_⟩
      refine ⟨_, rfl, p, _, _, _, rfl, rfl, SqT.of hp, rfl, _, _, rfl, rfl, _, rfl, p, _, _, _, rfl, rfl, SqT.of hp, rfl, _, _, rfl, rfl, _, _, rfl, ?_⟩
      refine ⟨_, rfl, _, rfl, e, _, _, _, rfl, rfl, SqL.of he, at2 (by omega), _, rfl, _, rfl, e, _, _, _, rfl, rfl, SqL.of he, at2 (by omega), newT (sz_ (by simp)) fun p2 H2 _ k2 hp2 => ?_⟩
      have he2 := k2.keep _ _ (fun z => z) he
      refine ⟨p2, _, rfl, SqT.of hp2, rfl, _, _, rfl, ?_⟩
      refine ⟨_, rfl, _, rfl, e, _, _, _, rfl, rfl, he2, ix2 (by rw [List.length_map]; omega), ?_⟩
      have kk : Kp (At e) H (upd H2 e (.lst ((r.map V.int).set (1 + i) (V.int (r.getD (1 + j) 0))))) := k2.up.trans (.mut rfl he2)
      have he3 : upd H2 e (.lst ((r.map V.int).set (1 + i) (V.int (r.getD (1 + j) 0)))) e = some (.lst ((r.map V.int).set (1 + i) (V.int (r.getD (1 + j) 0)))) := upd_same
      generalize upd H2 e (.lst ((r.map V.int).set (1 + i) (V.int (r.getD (1 + j) 0)))) = H3 at kk he3
      refine ⟨_, _, rfl, _, rfl, _, rfl, e, _, _, _, rfl, rfl, he3, ix2 (by rw [List.length_set, List.length_map]; omega), rfl, ?_⟩
      refine q _ (kk.trans (.mut rfl he3)) ?_
      rw [upd_same, ← List.map_set, ← List.map_set]
      rfl
    | tn i j k =>
      obtain ⟨o1, o2, o3⟩ := hok
      refine ⟨_, rfl, p, _, _, _, rfl, rfl, SqT.of hp, rfl, rfl, _, rfl, ?_⟩
      have e0 : decide (V.str "turn" = V.str "swap") = false := by decide
      refine (show ∀ {A B : Prop}, B → (if decide (V.str "turn" = V.str "swap") = true then A else B) from fun h => by rw [e0]; exact iteF h) ?_
      refine ⟨_, rfl, p, _, _, _, rfl, rfl, SqT.of hp, rfl, _, _, rfl, rfl, _, rfl, p, _, _, _, rfl, rfl, SqT.of hp, rfl, _, _, rfl, rfl, _, rfl, p, _, _, _, rfl, rfl, SqT.of hp, rfl, _, _, rfl, rfl, _, _, _, rfl, ?_⟩
      refine ⟨_, rfl, e, _, _, _, rfl, rfl, SqL.of he, at_row0 (by omega), _, rfl, _, rfl, e, _, _, _, rfl, rfl, SqL.of he, at2 (by omega), _, _, rfl, rfl, ?_⟩
      refine ⟨_, rfl, _, rfl, e, _, _, _, rfl, rfl, SqL.of he, at2 (by omega), _, _, rfl, rfl, ?_⟩
      refine ⟨_, rfl, _, rfl, e, _, _, _, rfl, rfl, SqL.of he, at2 (by omega), _, _, rfl, rfl, ?_⟩
      refine ⟨_, rfl, _, rfl, _, rfl, newT (sz_ (by simp)) fun T H2 _ k2 hT => ?_⟩
      refine ⟨_, rfl, ⟨_, SqT.of hT⟩, ?_⟩
      have he2 := k2.keep _ _ (fun z => z) he
      generalize hc : r.getD 0 0 - r.getD (1 + i) 0 - r.getD (1 + j) 0 - r.getD (1 + k) 0 = c
      have lenF : ∀ (l : List Nat) (r : List Int), (l.foldl (bump c) r).length = r.length := by
        intro l
        induction l with
        | nil => intro r; rfl
        | cons x l ih => intro r; show (l.foldl (bump c) (bump c r x)).length = _; rw [ih, bump_len]
      refine for_it (n := 4) (walk_tup (K := K) (a := T) (xs := [V.int 0, V.int ((i : Int) + 1), V.int ((j : Int) + 1), V.int ((k : Int) + 1)])) (fun t σ H' => ∃ v6, σ = [some (.ref e), some (.ref p), some (.int ((i : Int) + 1)), some (.int ((j : Int) + 1)), some (.int ((k : Int) + 1)), some (.int c), v6] ∧ Kp (At e) H H' ∧ H' T = some (.tup [V.int 0, V.int ((i : Int) + 1), V.int ((j : Int) + 1), V.int ((k : Int) + 1)]) ∧ H' e = some (.lst ((([0, 1 + i, 1 + j, 1 + k].take t).foldl (bump c) r).map V.int)))
        ⟨none, by rw [← hc]; rfl, k2.up, hT, he2⟩ (fun _ _ H' _ ⟨_, _, _, z, _⟩ => SqT.of z) ?_ ?_
      · rintro t x σ H3' H3 ht ⟨v6, rfl, k3, hT3, he3⟩ ⟨rfl, hx⟩
        obtain ⟨y, hy, rfl, hyl, hyt⟩ : ∃ y : Nat, [0, 1 + i, 1 + j, 1 + k][t]? = some y ∧ x = .int (y : Int) ∧ y < r.length ∧ [0, 1 + i, 1 + j, 1 + k].take (t + 1) = [0, 1 + i, 1 + j, 1 + k].take t ++ [y] := by
          rcases t with _ | _ | _ | _ | t
          · cases hx; exact ⟨0, rfl, rfl, by omega, rfl⟩
          · cases hx; exact ⟨1 + i, rfl, congrArg V.int (by omega), by omega, rfl⟩
          · cases hx; exact ⟨1 + j, rfl, congrArg V.int (by omega), by omega, rfl⟩
          · cases hx; exact ⟨1 + k, rfl, congrArg V.int (by omega), by omega, rfl⟩
          · omega
        have hlen := lenF ([0, 1 + i, 1 + j, 1 + k].take t) r
        refine ⟨_, rfl, _, rfl, e, _, _, _, rfl, rfl, SqL.of he3, at_row (by rw [hlen]; exact hyl), _, rfl, _, _, rfl, rfl, ?_⟩
        refine ⟨_, rfl, _, rfl, e, _, _, y, rfl, rfl, he3, Evl.ixN_nat (by rw [List.length_map, hlen]; exact hyl), ?_⟩
        refine ⟨_, rfl, k3.trans (.mut rfl he3), ?_, ?_⟩
        · rw [upd_ne (ne_of hT3 he3 (by intro z; cases z))]
          exact hT3
        · rw [upd_same, hyt, List.foldl_append, ← List.map_set]
          rfl
      · rintro σ H3 ⟨v6, rfl, k3, hT3, he3⟩
        refine q _ k3 ?_
        rw [he3, ← act_bump r i j k o1 o2 c hc.symm]
        rfl
/-- what a list that H did not know suffered is not seen -/
theorem kp_at {H H1 H2 : Hp} {p : Addr} (hp : H p = none) (k : Kp N0 H H1) (d : Kp (At p) H1 H2) : Kp N0 H H2 :=
  ⟨fun b o _ h => d.keep _ _ (ne_of_none h hp) (k.keep _ _ (fun z => z) h), fun b xs h => d.tup _ _ (k.tup _ _ h), fun b o u h => d.frz _ _ _ (k.frz _ _ _ h), fun b h => k.live _ (d.live _ h)⟩
def sp_moved_far (K : PySem.W.Frag) : Sp := fun vs H Q _ => ∃ (a b : Addr) (r : List Int) (ms : List Mv) (n : Nat), vs = [.ref a, .ref b] ∧ SqT K H a (r.map V.int) ∧ Wd H b ms ∧ (∀ m ∈ ms, MvOk n m) ∧ r.length = n + 1 ∧ n ≤ 100 ∧ ∀ p H', H p = none → Kp N0 H H' → H' p = some (.lst ((acts r ms).map V.int)) → Q (.ref p) H'
theorem ok_moved_far (T : Txt K mg) (D : Df K mg "moved_far" s_moved_far ["row", "word"]) (c_do_move : C8.Cal P w K mg base 1 "do_move" (sp_do_move K) []) : C8.Cal P w K mg base 2 "moved_far" (sp_moved_far K) [] := by
  obtain ⟨f, fd, D, hb⟩ := D
  refine C8.cal0 D (.all hb) .nil sc_moved_far (fun vs H Q E h => ?_) (fun cdv A outer s H vs Q E hr h => ?_)
  · obtain ⟨_, _, _, _, _, rfl, _⟩ := h; rfl
  · obtain ⟨a, b, r, ms, n, rfl, ha, ⟨ws, hb, hms⟩, hok, hl, hn, q⟩ := h
    refine ⟨_, (pss_cons (ps_set (i := 2) sc_moved_far.nd rfl (Or.inl rfl) (pe_callTy (callK (K := K) rListOf call_lstI) (by rfl) T.b_list (by decide +kernel) (pa_cons (pv 0) pa_nil)))
      (pss_cons (ps_for PassesOwn.never rfl (pi_tup (pv 1)) (pg_name (i := 3) sc_moved_far.nd rfl (Or.inl rfl)) (pss_one (ps_expr (C8.pe_c c_do_move hr (by decide) (by rfl) (pa_cons (pv 2) (pa_cons (pv 3) pa_nil))))))
      (pss_one (ps_ret (pv 2))))), ?_⟩
    refine ⟨_, rfl, listL rfl (.inr ha) fun D1 H1 nD k1 hD1 => ?_⟩
    refine ⟨_, rfl, b, rfl, ⟨_, SqT.of (k1.tup _ _ hb)⟩, ?_⟩
    refine for_it (n := ws.length) (walk_tup (K := K) (a := b) (xs := ws)) (fun t σ H' => ∃ v3, σ = [some (.ref a), some (.ref b), some (.ref D1), v3] ∧ Kp N0 H H' ∧ H' D1 = some (.lst ((acts r (ms.take t)).map V.int))) ⟨none, rfl, k1, hD1⟩ (fun _ _ H' _ ⟨_, _, k, _⟩ => SqT.of (k.tup _ _ hb)) ?_ ?_
    · rintro t x σ H3' H3 ht ⟨v3, rfl, k3, hp3⟩ ⟨rfl, hx⟩
      obtain ⟨pm, m, rfl, hm, hpm⟩ := (hms.kp k3).get hx
      refine ⟨_, rfl, _, rfl, D1, pm, _, m, n, rfl, hp3, hpm, hok m (List.mem_of_getElem? hm), by rw [acts_len]; exact hl, hn, fun H4 k4 hp4 => ?_⟩
      exact ⟨_, rfl, kp_at nD k3 k4, by rw [hp4, acts_take r ms t m hm]⟩
    · rintro σ H3 ⟨v3, rfl, k3, hp3⟩
      rw [hms.len, List.take_length] at hp3
      exact ⟨_, rfl, q _ _ nD k3 hp3⟩
def sp_is_word (K : PySem.W.Frag) : Sp := fun vs H Q _ => ∃ (n : Nat) (p : Addr) (ms : List Mv), vs = [.int n, .ref p] ∧ Wd H p ms ∧ (∀ m ∈ ms, MvOk n m) ∧ ms.length ≤ 1000 ∧ n ≤ 16 ∧ ∀ H', Kp N0 H H' → Q (.bl true) H'
theorem ok_is_word (T : Txt K mg) (D : Df K mg "_is_word" s_is_word ["n", "value"]) (c_is_move : C8.Cal P w K mg base 4 "is_move" (sp_is_move K) []) : C8.Cal P w K mg base 5 "_is_word" (sp_is_word K) [] := by
  obtain ⟨f, fd, D, hb⟩ := D
  refine C8.cal0 D (.all hb) .nil sc_is_word (fun vs H Q E h => ?_) (fun cdv A outer s H vs Q E hr h => ?_)
  · obtain ⟨_, _, _, rfl, _⟩ := h; rfl
  · obtain ⟨n, p, ms, rfl, ⟨ws, hp, hms⟩, hok, hl, hn, q⟩ := h
    refine ⟨_, (pss_cons (ps_if (PW.pt (pw_or (pt_not (pt_val (pe_callB (callK (K := K) rIsi call_isi) (by rfl) T.b_isinstance (by decide +kernel) (pa_cons (pv 1) (pa_cons (pe_bltn (v := .ty "tuple") (by rfl) T.b_tuple (by decide +kernel) rfl) pa_nil))))) (pw_or1 (pt_cmpR op_gt (pe_callB (callK (K := K) Vf.rLen call_lenI) (by rfl) T.b_len (by decide +kernel) (pa_cons (pv 1) pa_nil)) (C8.pe_gc (by rfl) T.c_MAX_WORD) (nomark _))))) (pss_one (ps_ret pe_bl)) pss_nil)
      (pss_one (ps_ret (pe_callB (callK (K := K) rAll (cr_all rfl)) (by rfl) T.b_all (by decide +kernel) (pa_cons (pe_lc (own := [("move", 2)]) (g := gName 2) rfl sc_is_word.nd (pi_tup (pv 1)) (C8b.blk (N := ["n", "value", "move"]) (sc := C8.fnScope s_is_word) (by decide +kernel)) (fun _ _ _ _ _ => (pg_name (i := 2) sc_is_word.nd rfl (Or.inl rfl))) (fun _ _ _ _ _ => pts_nil) (fun _ _ _ _ _ => (C8.pe_c c_is_move hr (by decide) (by rfl) (pa_cons (pv 0) (pa_cons (pv 2) pa_nil))))) pa_nil))))), ?_⟩
    have hwl := hms.len
    refine ⟨_, rfl, _, _, _, _, true, rfl, .ty _, tyT hp, kit_ty (by decide +kernel), true, rfl, iteF ?_⟩
    refine ⟨_, rfl, lenT rfl hp ⟨_, _, rfl, rfl, _, rfl, ?_⟩⟩
    rw [decide_eq_false (by omega)]
    refine iteF ⟨_, rfl, _, rfl, ⟨_, SqT.of hp⟩, ?_⟩
    refine lc_bools (walk_tup (xs := ws)) (fun _ => true) (by omega) (fun H' k => SqT.of (k.tup _ _ hp)) ?_ ?_
    · rintro i x H1 H2 hi k ⟨rfl, hx⟩ R hR
      obtain ⟨pm, m, rfl, hm, hpm⟩ := (hms.kp k).get hx
      exact ⟨rfl, _, rfl, _, rfl, n, pm, m, rfl, hpm, hok m (List.mem_of_getElem? hm), hn, fun H3 k3 => hR _ k3⟩
    · intro D H1 k h1
      refine ⟨D, _, rfl, SqL.of h1, ?_⟩
      rw [show (List.map (fun _ => true) (List.range ws.length)).all id = true by simp]
      exact q _ k
def sp_check_word (K : PySem.W.Frag) : Sp := fun vs H Q _ => ∃ (n : Nat) (p : Addr) (ms : List Mv), vs = [.int n, .ref p] ∧ Wd H p ms ∧ (∀ m ∈ ms, MvOk n m) ∧ ms.length ≤ 1000 ∧ n ≤ 16 ∧ ∀ H', Kp N0 H H' → Q .non H'
theorem ok_check_word (T : Txt K mg) (D : Df K mg "check_word" s_check_word ["n", "word"]) (c_is_word : C8.Cal P w K mg base 5 "_is_word" (sp_is_word K) []) : C8.Cal P w K mg base 6 "check_word" (sp_check_word K) [] := by
  obtain ⟨f, fd, D, hb⟩ := D
  refine C8.cal0 D (.all hb) .nil sc_check_word (fun vs H Q E h => ?_) (fun cdv A outer s H vs Q E hr h => ?_)
  · obtain ⟨_, _, _, rfl, _⟩ := h; rfl
  · obtain ⟨n, p, ms, rfl, hp, hok, hl, hn, q⟩ := h
    refine ⟨_, (pss_one (ps_if (pt_not (pt_val (C8.pe_c c_is_word hr (by decide) (by rfl) (pa_cons (pv 0) (pa_cons (pv 1) pa_nil))))) (pss_one ps_never) pss_nil)), ?_⟩
    exact ⟨_, rfl, _, rfl, n, p, ms, rfl, hp, hok, hl, hn, fun H1 k => ⟨true, rfl, iteF (q _ k)⟩⟩
theorem MvOk.up {n k : Nat} {m : Mv} (h : MvOk n m) (hk : n ≤ k) : MvOk k m := by
  cases m with
  | sw i j => exact ⟨h.1, by have := h.2; omega⟩
  | tn i j l => exact ⟨h.1, h.2.1, by have := h.2.2; omega⟩
def sp_undone (K : PySem.W.Frag) : Sp := fun vs H Q _ => ∃ (p : Addr) (ms : List Mv), vs = [.ref p] ∧ Wd H p ms ∧ (∀ m ∈ ms, MvOk 16 m) ∧ ms.length ≤ 1000 ∧ ∀ p' H', Kp N0 H H' → Wd H' p' ms.reverse → Q (.ref p') H'
theorem ok_undone (T : Txt K mg) (D : Df K mg "undone" s_undone ["word"]) (c_check_word : C8.Cal P w K mg base 6 "check_word" (sp_check_word K) []) : C8.Cal P w K mg base 7 "undone" (sp_undone K) [] := by
  obtain ⟨f, fd, D, hb⟩ := D
  refine C8.cal0 D (.all hb) .nil sc_undone (fun vs H Q E h => ?_) (fun cdv A outer s H vs Q E hr h => ?_)
  · obtain ⟨_, _, rfl, _⟩ := h; rfl
  · obtain ⟨p, ms, rfl, hp, hok, hl, q⟩ := h
    refine ⟨_, (pss_cons (ps_expr (C8.pe_c c_check_word hr (by decide) (by rfl) (pa_cons (C8.pe_gc (by rfl) T.c_MOST_POINTS) (pa_cons (pv 0) pa_nil))))
      (pss_one (ps_ret (pe_revT (pv 0))))), ?_⟩
    refine ⟨_, rfl, 16, p, ms, rfl, hp, hok, hl, by omega, fun H1 k1 => ?_⟩
    obtain ⟨ws, h1, m1⟩ := hp.kp k1
    refine ⟨_, rfl, revT h1 fun p2 H2 _ k2 hp2 => ?_⟩
    exact q _ _ (k1.trans k2) ⟨_, hp2, (m1.kp k2).rev⟩
def sp_moved (K : PySem.W.Frag) : Sp := fun vs H Q _ => ∃ (a b : Addr) (r : List Int) (ms : List Mv) (n : Nat), vs = [.ref a, .ref b] ∧ SqT K H a (r.map V.int) ∧ Wd H b ms ∧ (∀ m ∈ ms, MvOk n m) ∧ r.length = n + 1 ∧ n ≤ 16 ∧ ms.length ≤ 1000 ∧ Row r ∧ AllSh (acts r ms) ∧ ∀ p H', Kp N0 H H' → H' p = some (.tup ((acts r ms).map V.int)) → Q (.ref p) H'
theorem ok_moved (T : Txt K mg) (D : Df K mg "moved" s_moved ["row", "word"]) (c_check_row : C8.Cal P w K mg base 4 "check_row" (sp_check_row K) []) (c_check_word : C8.Cal P w K mg base 6 "check_word" (sp_check_word K) []) (c_short_row : C8.Cal P w K mg base 3 "short_row" (sp_short_row K) []) (c_moved_far : C8.Cal P w K mg base 2 "moved_far" (sp_moved_far K) []) : C8.Cal P w K mg base 7 "moved" (sp_moved K) [] := by
  obtain ⟨f, fd, D, hb⟩ := D
  refine C8.cal0 D (.all hb) .nil sc_moved (fun vs H Q E h => ?_) (fun cdv A outer s H vs Q E hr h => ?_)
  · obtain ⟨_, _, _, _, _, rfl, _⟩ := h; rfl
  · obtain ⟨a, b, r, ms, n, rfl, ha, hb, hok, hl, hn, hml, rr, hs, q⟩ := h
    refine ⟨_, (pss_cons (ps_expr (C8.pe_c c_check_row hr (by decide) (by rfl) (pa_cons (pv 0) pa_nil)))
      (pss_cons (ps_expr (C8.pe_c c_check_word hr (by decide) (by rfl) (pa_cons (pe_op op_sub (pe_callB (callK (K := K) Vf.rLen call_lenI) (by rfl) T.b_len (by decide +kernel) (pa_cons (pv 0) pa_nil)) pe_int) (pa_cons (pv 1) pa_nil))))
      (pss_one (ps_ret (C8.pe_c c_short_row hr (by decide) (by rfl) (pa_cons (C8.pe_c c_moved_far hr (by decide) (by rfl) (pa_cons (pv 0) (pa_cons (pv 1) pa_nil))) pa_nil)))))), ?_⟩
    refine ⟨_, rfl, a, r, rfl, ha, rr, fun H1 k1 => ?_⟩
    refine ⟨_, rfl, lenS rfl (k1.sqT ha) ⟨_, _, rfl, rfl, _, rfl, n, b, ms, ?_, hb.kp k1, hok, hml, hn, fun H2 k2 => ?_⟩⟩
    · rw [List.length_map]
      exact congrArg (fun z : Int => [V.int z, V.ref b]) (by omega)
    have k02 := k1.trans k2
    refine ⟨_, rfl, _, rfl, a, b, r, ms, n, rfl, k02.sqT ha, hb.kp k02, hok, hl, by omega, fun D3 H3 _ k3 h3 => ?_⟩
    exact ⟨D3, _, rfl, .inl h3, hs, by rw [acts_len]; omega, fun p4 H4 k4 hp4 => q _ _ ((k02.trans k3).trans k4) hp4⟩

/-! ### the law's own defs -/
theorem getD_rep {n i : Nat} (h : i < n) : (List.replicate n (1 : Int)).getD i 0 = 1 := by
  rw [List.getD_eq_getElem?_getD, List.getElem?_eq_getElem (by simpa using h)]
  simp
theorem set_rep {n i : Nat} {v : Int} (h : v = 1) : (List.replicate n (1 : Int)).set i v = List.replicate n 1 := by
  subst h
  refine List.ext_getElem (by simp) fun k k1 k2 => ?_
  rw [List.getElem_set]
  split <;> simp
theorem crow_act {n : Nat} (m : Mv) (h : MvOk n m) : act (crow n) m = crow n := by
  unfold crow
  cases m with
  | sw i j =>
    obtain ⟨h1, h2⟩ := h
    rw [act_sw, getD_rep (by omega), getD_rep (by omega), set_rep rfl, set_rep rfl]
  | tn i j k =>
    obtain ⟨h1, h2, h3⟩ := h
    rw [act_tn _ _ _ _ _ 0 (by rw [getD_rep (by omega), getD_rep (by omega), getD_rep (by omega)]; rfl), getD_rep (by omega), getD_rep (by omega), getD_rep (by omega), set_rep (by omega), set_rep (by omega), set_rep (by omega)]
    rfl
theorem crow_acts {n : Nat} (ms : List Mv) (h : ∀ m ∈ ms, MvOk n m) : acts (crow n) ms = crow n := by
  induction ms with
  | nil => rfl
  | cons m ms ih =>
    show acts (act (crow n) m) ms = _
    rw [crow_act m (h m List.mem_cons_self)]
    exact ih fun x hx => h x (List.mem_cons_of_mem _ hx)
def sp_l_rows_right (K : PySem.W.Frag) : Sp := fun vs H Q _ => ∃ (a b c : Addr) (ws : List V) (rs : List (List Int)) (ms ks : List Mv) (n : Nat), vs = [.ref a, .ref b, .ref c] ∧ H a = some (.lst ws) ∧ Rws H ws rs ∧ Wd H b ms ∧ Wd H c ks ∧
  (∀ m ∈ ms, MvOk n m) ∧ (∀ m ∈ ks, MvOk n m) ∧ (∀ r ∈ rs, LimN n (10 ^ 60) r) ∧ ms.length ≤ 14 ∧ ks.length ≤ 14 ∧ 3 ≤ n ∧ n ≤ 16 ∧ rs.length ≤ 100 ∧ ∀ H', Kp N0 H H' → Q (.bl true) H'
theorem ok_l_rows_right (T : Txt K mg) (D : Df K mg "_law_rows_right" s_l_rows_right ["_law_rows", "_law_word_here", "_law_further"]) (c_l_moved : C8.Cal P w K mg base 2 "_law_moved" (sp_l_moved K) []) (c_moved : C8.Cal P w K mg base 7 "moved" (sp_moved K) []) (c_undone : C8.Cal P w K mg base 7 "undone" (sp_undone K) []) (c_counting : C8.Cal P w K mg base 5 "counting" (sp_counting K) []) (c_l_counting : C8.Cal P w K mg base 2 "_law_counting" (sp_l_counting K) []) (c_with_cubic : C8.Cal P w K mg base 5 "with_cubic" (sp_with_cubic K) []) (c_l_times : C8.Cal P w K mg base 1 "_law_times" (sp_l_times K) []) (c_l_cubic : C8.Cal P w K mg base 1 "_law_cubic" (sp_l_cubic K) []) : C8.Cal P w K mg base 8 "_law_rows_right" (sp_l_rows_right K) [] := by
  obtain ⟨f, fd, D, hb⟩ := D
  refine C8.cal0 D (.all hb) .nil sc_l_rows_right (fun vs H Q E h => ?_) (fun cdv A outer s H vs Q E hr h => ?_)
  · obtain ⟨_, _, _, _, _, _, _, _, rfl, _⟩ := h; rfl
  · obtain ⟨a, b, c, ws, rs, ms, ks, n, rfl, ha, hrw, hb, hc, hok, kok, hlim, hml, hkl, h1, h2, hrl, q⟩ := h
    refine ⟨_, (pss_cons (ps_for PassesOwn.never rfl (pi_list (pv 0)) (pg_name (i := 3) sc_l_rows_right.nd rfl (Or.inl rfl)) (pss_cons (ps_set (i := 4) sc_l_rows_right.nd rfl (Or.inl rfl) (C8.pe_c c_l_moved hr (by decide) (by rfl) (pa_cons (pv 3) (pa_cons (pv 1) pa_nil))))
      (pss_cons (ps_if (PW.pt (pw_or (pt_cmpR (opK (K := K) rNeI (op_neI hr.units)) (C8.pe_c c_moved hr (by decide) (by rfl) (pa_cons (pv 3) (pa_cons (pv 1) pa_nil))) (pv 4) (nomark _)) (pw_or (pt_cmpR (opK (K := K) rNeI (op_neI hr.units)) (C8.pe_c c_moved hr (by decide) (by rfl) (pa_cons (pv 4) (pa_cons (C8.pe_c c_undone hr (by decide) (by rfl) (pa_cons (pv 1) pa_nil)) pa_nil))) (pv 3) (nomark _)) (pw_or1 (pt_cmpR (opK (K := K) rNeI (op_neI hr.units)) (C8.pe_c c_moved hr (by decide) (by rfl) (pa_cons (pv 3) (pa_cons (pe_op (opK (K := K) rCatI op_catI) (C8.pe_c c_undone hr (by decide) (by rfl) (pa_cons (pv 1) pa_nil)) (pv 1)) pa_nil))) (pv 3) (nomark _)))))) (pss_one (ps_ret pe_bl)) pss_nil)
      (pss_cons (ps_if (PW.pt (pw_or (pt_cmpR (opK (K := K) rNeI (op_neI hr.units)) (C8.pe_c c_moved hr (by decide) (by rfl) (pa_cons (pv 4) (pa_cons (pv 2) pa_nil))) (C8.pe_c c_moved hr (by decide) (by rfl) (pa_cons (pv 3) (pa_cons (pe_op (opK (K := K) rCatI op_catI) (pv 1) (pv 2)) pa_nil))) (nomark _)) (pw_or1 (pt_cmpR (opK (K := K) rNeI (op_neI hr.units)) (C8.pe_c c_moved hr (by decide) (by rfl) (pa_cons (pv 3) (pa_cons (pe_tupN pa_nil) pa_nil))) (pv 3) (nomark _))))) (pss_one (ps_ret pe_bl)) pss_nil)
      (pss_one (ps_if (PW.pt (pw_or (pt_cmpR op_ne (C8.pe_c c_counting hr (by decide) (by rfl) (pa_cons (pv 4) pa_nil)) (C8.pe_c c_l_counting hr (by decide) (by rfl) (pa_cons (pv 3) pa_nil)) (nomark _)) (pw_or1 (pt_cmpR op_ne (C8.pe_c c_with_cubic hr (by decide) (by rfl) (pa_cons (pv 4) pa_nil)) (C8.pe_c c_l_times hr (by decide) (by rfl) (pa_cons (pv 3) (pa_cons (C8.pe_c c_l_cubic hr (by decide) (by rfl) (pa_cons (pe_op op_sub (pe_callB (callK (K := K) Vf.rLen call_lenI) (by rfl) T.b_len (by decide +kernel) (pa_cons (pv 3) pa_nil)) pe_int) pa_nil)) pa_nil))) (nomark _))))) (pss_one (ps_ret pe_bl)) pss_nil))))))
      (pss_one (ps_ret pe_bl))), ?_⟩
    have hwl := hrw.len
    have rok : ∀ m ∈ ms.reverse, MvOk n m := fun m hm => hok m (List.mem_reverse.mp hm)
    have ok16 : ∀ m ∈ ms, MvOk 16 m := fun m hm => (hok m hm).up h2
    refine ⟨_, rfl, a, rfl, ⟨_, SqL.of ha⟩, ?_⟩
    refine for_it (n := ws.length) (walk_list (K := K) (a := a) (xs := ws)) (fun t σ H' => ∃ v3 v4, σ = [some (.ref a), some (.ref b), some (.ref c), v3, v4] ∧ Kp N0 H H') ⟨none, none, rfl, .refl _ _⟩ (fun _ _ H' _ ⟨_, _, _, k⟩ => SqL.of (k.keep _ _ (fun z => z) ha)) ?_ ?_
    · rintro t x σ H0' H0 ht ⟨v3, v4, rfl, k0⟩ ⟨rfl, hx⟩
      obtain ⟨p, r, rfl, hr, hp⟩ := (hrw.kp k0).get hx
      have lr := hlim r (List.mem_of_getElem? hr)
      have l1 := lr.1
      have rr := lr.row h1 h2 big_lt
      have lm := acts_limN lr (show ms.length ≤ 28 by omega)
      have rm := lm.row h1 h2 far_lt
      have bk := acts_back ms hok l1
      have fk := acts_fore ms hok l1
      refine ⟨_, rfl, _, rfl, p, b, r, ms, n, rfl, hp, hb.kp k0, hok, l1, by omega, fun p2 H2 k2 hp2 => ?_⟩
      have k02 := k0.trans k2
      refine ⟨_, rfl, _, rfl, p, b, r, ms, n, rfl, SqT.of (k2.tup _ _ hp), hb.kp k02, hok, l1, h2, by omega, rr, rm.2.2, fun p3 H3 k3 hp3 => ⟨_, rfl, neRow hp3 (k3.tup _ _ hp2) ⟨_, rfl, iteF ?_⟩⟩⟩
      have k03 := k02.trans k3
      refine ⟨_, rfl, _, rfl, b, ms, rfl, hb.kp k03, ok16, by omega, fun p4 H4 k4 w4 => ?_⟩
      have k24 := k3.trans k4
      have k04 := k02.trans k24
      refine ⟨p2, p4, acts r ms, ms.reverse, n, rfl, SqT.of (k24.tup _ _ hp2), w4, rok, lm.1, h2, by rw [List.length_reverse]; omega, rm, by rw [bk]; exact rr.2.2, fun p5 H5 k5 hp5 => ?_⟩
      rw [bk] at hp5
      have k25 := k24.trans k5
      have k05 := k02.trans k25
      refine ⟨_, rfl, neRow hp5 ((k2.trans k25).tup _ _ hp) ⟨_, rfl, iteF ?_⟩⟩
      refine ⟨_, rfl, _, rfl, b, ms, rfl, hb.kp k05, ok16, by omega, fun p6 H6 k6 w6 => ?_⟩
      have k26 := k25.trans k6
      have k06 := k02.trans k26
      obtain ⟨us, hu, mu⟩ := w6
      obtain ⟨vs, hv, mv⟩ := hb.kp k06
      have ul := mu.len
      have vl := mv.len
      rw [List.length_reverse] at ul
      refine ⟨_, rfl, catT hu hv (sz_ (by omega)) fun p7 H7 k7 hp7 => ?_⟩
      have k27 := k26.trans k7
      have k07 := k02.trans k27
      refine ⟨p, p7, r, ms.reverse ++ ms, n, rfl, SqT.of ((k2.trans k27).tup _ _ hp), ⟨_, hp7, (Mvs.app mu mv).kp k7⟩, fun m hm => ?_, l1, h2, by simp; omega, rr, by rw [fk]; exact rr.2.2, fun p8 H8 k8 hp8 => ?_⟩
      · rcases List.mem_append.mp hm with hm | hm
        · exact rok m hm
        · exact hok m hm
      rw [fk] at hp8
      have k28 := k27.trans k8
      have k08 := k02.trans k28
      refine ⟨_, rfl, neRow hp8 ((k2.trans k28).tup _ _ hp) ⟨_, rfl, iteF ?_⟩⟩
      have e9 := acts_append r ms ks
      have r9 : Row (acts r (ms ++ ks)) := (acts_limN lr (by rw [List.length_append]; omega)).row h1 h2 far_lt
      refine ⟨_, rfl, _, rfl, p2, c, acts r ms, ks, n, rfl, SqT.of (k28.tup _ _ hp2), hc.kp k08, kok, lm.1, h2, by omega, rm, by rw [← e9]; exact r9.2.2, fun p9 H9 k9 hp9 => ?_⟩
      rw [← e9] at hp9
      have k29 := k28.trans k9
      have k09 := k02.trans k29
      obtain ⟨vs2, hv2, mv2⟩ := hb.kp k09
      obtain ⟨ts, ht2, mt⟩ := hc.kp k09
      have vl2 := mv2.len
      have tl := mt.len
      refine ⟨_, rfl, _, rfl, _, rfl, catT hv2 ht2 (sz_ (by omega)) fun p10 H10 k10 hp10 => ?_⟩
      have k210 := k29.trans k10
      refine ⟨p, p10, r, ms ++ ks, n, rfl, SqT.of ((k2.trans k210).tup _ _ hp), ⟨_, hp10, (Mvs.app mv2 mt).kp k10⟩, fun m hm => ?_, l1, h2, by simp; omega, rr, r9.2.2, fun p11 H11 k11 hp11 => ?_⟩
      · rcases List.mem_append.mp hm with hm | hm
        · exact hok m hm
        · exact kok m hm
      refine neRow ((k10.trans k11).tup _ _ hp9) hp11 ⟨_, rfl, iteF ?_⟩
      have k211 := k210.trans k11
      refine ⟨_, rfl, newT (sz_ (by simp)) fun p12 H12 _ k12 hp12 => ?_⟩
      have k212 := k211.trans k12
      refine ⟨p, p12, r, [], n, rfl, SqT.of ((k2.trans k212).tup _ _ hp), ⟨_, hp12, trivial⟩, by simp, l1, h2, by simp, rr, rr.2.2, fun p13 H13 k13 hp13 => ?_⟩
      have k213 := k212.trans k13
      have hpz := (k2.trans k213).tup _ _ hp
      refine ⟨_, rfl, neRow hp13 hpz ⟨_, rfl, iteF ?_⟩⟩
      have hp2z := k213.tup _ _ hp2
      refine ⟨_, rfl, p2, _, rfl, hp2z, rm, fun H14 k14 => ⟨_, rfl, p, r, rfl, k14.tup _ _ hpz, rr, fun H15 k15 => ⟨rfl, _, rfl, iteNe (congrArg V.int (cntg_acts ms hok l1)) ?_⟩⟩⟩
      have kz := k14.trans k15
      refine ⟨_, rfl, p2, _, rfl, kz.tup _ _ hp2z, rm, fun H16 k16 => ?_⟩
      have hpy := (kz.trans k16).tup _ _ hpz
      refine ⟨_, rfl, _, rfl, lenT rfl hpy ⟨_, _, rfl, rfl, n, ?_, h1, h2, fun p17 H17 k17 hp17 => ?_⟩⟩
      · rw [List.length_map]
        exact congrArg (fun z : Int => [V.int z]) (by omega)
      refine ⟨p, p17, r, crow n, rfl, k17.tup _ _ hpy, hp17, rr, crow_row h1 h2, by simp [crow]; omega, fun H18 k18 => ⟨rfl, _, rfl, iteNe (congrArg V.int (by rw [cub_acts ms hok l1, dot_crow l1])) ?_⟩⟩
      exact ⟨_, _, rfl, (k02.trans k213).trans ((kz.trans k16).trans (k17.trans k18))⟩
    · rintro σ H3 ⟨v3, v4, rfl, k3⟩
      exact q _ k3
theorem rws_mem {H : Hp} : ∀ {vs : List V} {rs : List (List Int)} {i : Nat}, Rws H vs rs → i < vs.length → ∃ p r, vs[i]? = some (.ref p) ∧ r ∈ rs ∧ H p = some (.tup (r.map V.int))
  | vs, rs, i, h, hi => by
    obtain ⟨p, r, e, hr, hp⟩ := h.get (List.getElem?_eq_getElem hi)
    exact ⟨p, r, by rw [List.getElem?_eq_getElem hi, e], List.mem_of_getElem? hr, hp⟩
def sp_l_cell_right (K : PySem.W.Frag) : Sp := fun vs H Q _ => ∃ (a : Addr), vs = [.ref a] ∧ Dc a H ∧ ∀ H', DR a H H' → Q (.bl true) H'
theorem limN_mono {n : Nat} {b c : Int} {r : List Int} (h : LimN n b r) (hc : b ≤ c) : LimN n c r := ⟨h.1, fun x hx => by
  have := h.2 x hx
  omega⟩
theorem ok_l_cell_right (T : Txt K mg) (D : Df K mg "_law_cell_right" s_l_cell_right ["_law_dice_here"]) (c_l_roll : C8.Cal P w K mg base 1 "_law_roll" (sp_l_roll) []) (c_l_word : C8.Cal P w K mg base 3 "_law_word" (sp_l_word K) []) (c_l_row : C8.Cal P w K mg base 5 "_law_row" (sp_l_row K) []) (c_l_small_row : C8.Cal P w K mg base 3 "_law_small_row" (sp_l_small_row K) []) (c_l_great_row : C8.Cal P w K mg base 3 "_law_great_row" (sp_l_great_row K) []) (c_l_cubic : C8.Cal P w K mg base 1 "_law_cubic" (sp_l_cubic K) []) (c_l_point_row : C8.Cal P w K mg base 1 "_law_point_row" (sp_l_point_row K) []) (c_undone : C8.Cal P w K mg base 7 "undone" (sp_undone K) []) (c_l_rows_right : C8.Cal P w K mg base 8 "_law_rows_right" (sp_l_rows_right K) []) (c_l_one_of : C8.Cal P w K mg base 2 "_law_one_of" (sp_l_one_of K) []) (c_product : C8.Cal P w K mg base 6 "product" (sp_product K) []) (c_moved : C8.Cal P w K mg base 7 "moved" (sp_moved K) []) (c_l_times : C8.Cal P w K mg base 1 "_law_times" (sp_l_times K) []) (c_l_moved : C8.Cal P w K mg base 2 "_law_moved" (sp_l_moved K) []) : C8.Cal P w K mg base 9 "_law_cell_right" (sp_l_cell_right K) [] := by
  obtain ⟨f, fd, D, hb⟩ := D
  refine C8.cal0 D (.all hb) .nil sc_l_cell_right (fun vs H Q E h => ?_) (fun cdv A outer s H vs Q E hr h => ?_)
  · obtain ⟨_, rfl, _⟩ := h; rfl
  · obtain ⟨a, rfl, hd, q⟩ := h
    refine ⟨_, (pss_cons (ps_set (i := 1) sc_l_cell_right.nd rfl (Or.inl rfl) (pe_op op_add pe_int (C8.pe_c c_l_roll hr (by decide) (by rfl) (pa_cons (pv 0) (pa_cons pe_int pa_nil)))))
      (pss_cons (ps_par (i := 2) (j := 3) (by rfl) sc_l_cell_right.nd rfl rfl (by decide) rfl rfl (pa_cons (C8.pe_c c_l_word hr (by decide) (by rfl) (pa_cons (pv 0) (pa_cons (pv 1) (pa_cons pe_int pa_nil)))) (pa_cons (C8.pe_c c_l_word hr (by decide) (by rfl) (pa_cons (pv 0) (pa_cons (pv 1) (pa_cons pe_int pa_nil)))) pa_nil)) (by rfl))
      (pss_cons (ps_set (i := 4) sc_l_cell_right.nd rfl (Or.inl rfl) (pe_lstN (pa_cons (C8.pe_c c_l_row hr (by decide) (by rfl) (pa_cons (pv 0) (pa_cons (pv 1) (pa_cons pe_int pa_nil)))) (pa_cons (C8.pe_c c_l_small_row hr (by decide) (by rfl) (pa_cons (pv 0) (pa_cons (pv 1) (pa_cons pe_int pa_nil)))) (pa_cons (C8.pe_c c_l_great_row hr (by decide) (by rfl) (pa_cons (pv 0) (pa_cons (pv 1) (pa_cons pe_int pa_nil)))) (pa_cons (C8.pe_c c_l_cubic hr (by decide) (by rfl) (pa_cons (pv 1) pa_nil)) pa_nil))))))
      (pss_cons (ps_set (i := 4) sc_l_cell_right.nd rfl (Or.inl rfl) (pe_op op_catLI (pv 4) (pe_lstN (pa_cons (C8.pe_c c_l_point_row hr (by decide) (by rfl) (pa_cons (pv 1) (pa_cons (C8.pe_c c_l_roll hr (by decide) (by rfl) (pa_cons (pv 0) (pa_cons (pv 1) pa_nil))) pa_nil))) (pa_cons (C8.pe_c c_l_great_row hr (by decide) (by rfl) (pa_cons (pv 0) (pa_cons (pv 1) (pa_cons pe_int pa_nil)))) pa_nil)))))
      (pss_cons (ps_if (PW.pt (pw_or (pt_cmpR (opK (K := K) rNeI (op_neI hr.units)) (C8.pe_c c_undone hr (by decide) (by rfl) (pa_cons (pv 2) pa_nil)) (pe_revT (pv 2)) (nomark _)) (pw_or1 (pt_not (pt_val (C8.pe_c c_l_rows_right hr (by decide) (by rfl) (pa_cons (pv 4) (pa_cons (pv 2) (pa_cons (pv 3) pa_nil))))))))) (pss_one (ps_ret pe_bl)) pss_nil)
      (pss_cons (ps_for PassesOwn.never rfl (pi_range1 (by rfl) T.b_range (pa_cons pe_int pa_nil)) (pg_name (i := 5) sc_l_cell_right.nd rfl (Or.inl rfl)) (pss_cons (ps_par (i := 6) (j := 7) (by rfl) sc_l_cell_right.nd rfl rfl (by decide) rfl rfl (pa_cons (C8.pe_c c_l_one_of hr (by decide) (by rfl) (pa_cons (pv 0) (pa_cons (pv 4) pa_nil))) (pa_cons (C8.pe_c c_l_one_of hr (by decide) (by rfl) (pa_cons (pv 0) (pa_cons (pv 4) pa_nil))) pa_nil)) (by rfl))
      (pss_cons (ps_if (pt_cmpR op_ne (C8.pe_c c_product hr (by decide) (by rfl) (pa_cons (C8.pe_c c_moved hr (by decide) (by rfl) (pa_cons (pv 6) (pa_cons (pv 2) pa_nil))) (pa_cons (C8.pe_c c_moved hr (by decide) (by rfl) (pa_cons (pv 7) (pa_cons (pv 2) pa_nil))) pa_nil))) (C8.pe_c c_l_times hr (by decide) (by rfl) (pa_cons (pv 6) (pa_cons (pv 7) pa_nil))) (nomark _)) (pss_one (ps_ret pe_bl)) pss_nil)
      (pss_one (ps_if (pt_cmpR op_ne (C8.pe_c c_l_times hr (by decide) (by rfl) (pa_cons (C8.pe_c c_l_moved hr (by decide) (by rfl) (pa_cons (pv 6) (pa_cons (pv 2) pa_nil))) (pa_cons (C8.pe_c c_l_moved hr (by decide) (by rfl) (pa_cons (pv 7) (pa_cons (pv 2) pa_nil))) pa_nil))) (C8.pe_c c_product hr (by decide) (by rfl) (pa_cons (pv 6) (pa_cons (pv 7) pa_nil))) (nomark _)) (pss_one (ps_ret pe_bl)) pss_nil)))))
      (pss_one (ps_ret (pe_cmpR (opK (K := K) rEqI (op_eqI hr.units)) (C8.pe_c c_moved hr (by decide) (by rfl) (pa_cons (C8.pe_c c_l_cubic hr (by decide) (by rfl) (pa_cons (pv 1) pa_nil)) (pa_cons (pv 2) pa_nil))) (C8.pe_c c_l_cubic hr (by decide) (by rfl) (pa_cons (pv 1) pa_nil)) (nomark _)))))))))), ?_⟩
    have e60 : (10000 : Int) ≤ 10 ^ 60 := by decide +kernel
    have e30 : (10 : Int) ^ 30 ≤ 10 ^ 60 := by decide +kernel
    refine ⟨_, rfl, _, _, rfl, hd, by decide, by decide, fun z H1 r0 r1 d1 => ?_⟩
    obtain ⟨n, en, n1, n2⟩ : ∃ n : Nat, 3 + z = (n : Int) ∧ 3 ≤ n ∧ n ≤ 16 := ⟨(3 + z).toNat, by omega, by omega, by omega⟩
    refine ⟨_, _, rfl, rfl, ?_⟩
    dsimp only
    rw [en]
    refine ⟨_, rfl, _, rfl, a, n, 14, rfl, d1.dc, n1, n2, by decide, fun pw H2 ms d2 hw hml hok => ?_⟩
    refine ⟨_, rfl, _, rfl, a, n, 4, rfl, d2.dc, n1, n2, by decide, fun pk H3 ks d3 hk hkl kok => ⟨_, _, rfl, ?_⟩⟩
    have hw3 := hw.kp d3.kp
    have d03 := (d1.trans d2).trans d3
    refine ⟨_, rfl, _, rfl, a, n, 2, rfl, d3.dc, n1, n2, by decide, fun p0 H4 r0' d4 hp0 l0 => ?_⟩
    refine ⟨_, rfl, _, rfl, a, n, 9, rfl, d4.dc, n1, n2, by decide, fun p1 H5 r1' d5 hp1 l1 b1 => ?_⟩
    refine ⟨_, rfl, _, rfl, a, n, 50, rfl, d5.dc, n1, n2, fun p2 H6 r2' d6 hp2 l2 b2 => ?_⟩
    refine ⟨_, rfl, n, rfl, n1, n2, fun p3 H7 k7 hp3 => newL (sz_ (by simp)) fun D8 H8 n8 k8 hD8 => ?_⟩
    have d36 := (d4.trans d5).trans d6
    have d8 := d36.trans (.of d6.dc (k7.trans k8))
    have d56 := d5.trans d6
    refine ⟨_, rfl, _, rfl, _, rfl, _, rfl, _, _, rfl, d8.dc, by omega, nb (by omega), fun y H9 y0 y1 d9 => ?_⟩
    obtain ⟨i, rfl, hi⟩ : ∃ i : Nat, y = (i : Int) ∧ i < n := ⟨y.toNat, by omega, by omega⟩
    refine ⟨n, i, rfl, n2, fun p4 H10 k10 hp4 => ?_⟩
    have d10 := d9.trans (.of d9.dc k10)
    refine ⟨_, rfl, _, rfl, a, n, 9, rfl, d10.dc, n1, n2, fun p5 H11 r5 d11 hp5 l5 b5 => ?_⟩
    have d811 := d10.trans d11
    refine newL (sz_ (by simp)) fun D12 H12 n12 k12 hD12 => ?_
    have hne8 : D8 ≠ a := fun z => (DR.of d6.dc k7).dc.ne n8 z.symm
    have d812 := d811.trans (.of d811.dc k12)
    have hD8' := d812.lst hne8 hD8
    refine catL hD8' hD12 (sz_ (by simp)) fun D H13 n13 k13 hD => ?_
    have d13 := d812.trans (.of d812.dc k13)
    have hDa : D ≠ a := fun z => d812.dc.ne n13 z.symm
    have hrw : Rws H13 ([V.ref p0, V.ref p1, V.ref p2, V.ref p3] ++ [V.ref p4, V.ref p5]) [r0', r1', r2', crow n, prow n i, r5] := by
      have t := (d11.kp.trans k12.up).trans k13.up
      refine ⟨⟨p0, rfl, ?_⟩, ⟨p1, rfl, ?_⟩, ⟨p2, rfl, ?_⟩, ⟨p3, rfl, ?_⟩, ⟨p4, rfl, ?_⟩, ⟨p5, rfl, ?_⟩, trivial⟩
      · exact d13.kp.tup _ _ (k8.tup _ _ (k7.tup _ _ (d56.kp.tup _ _ hp0)))
      · exact d13.kp.tup _ _ (k8.tup _ _ (k7.tup _ _ (d6.kp.tup _ _ hp1)))
      · exact d13.kp.tup _ _ (k8.tup _ _ (k7.tup _ _ hp2))
      · exact d13.kp.tup _ _ (k8.tup _ _ hp3)
      · exact t.tup _ _ hp4
      · exact k13.tup _ _ (k12.tup _ _ hp5)
    have hlim : ∀ r ∈ [r0', r1', r2', crow n, prow n i, r5], LimN n (10 ^ 60) r := by
      intro r hr
      simp only [List.mem_cons, List.not_mem_nil, or_false] at hr
      rcases hr with rfl | rfl | rfl | rfl | rfl | rfl
      · exact limN_mono l0 e30
      · exact limN_mono (b := 10000) ⟨l1, b1⟩ e60
      · exact ⟨l2, b2⟩
      · refine limN_mono (b := 10000) ⟨by simp [crow], fun x hx => ?_⟩ e60
        rcases List.mem_cons.mp hx with rfl | hx
        · omega
        · rw [List.eq_of_mem_replicate hx]; omega
      · refine limN_mono (b := 10000) ⟨prow_len, fun x hx => ?_⟩ e60
        have := prow_ent x hx
        omega
      · exact ⟨l5, b5⟩
    have hrl : [r0', r1', r2', crow n, prow n i, r5].length = 6 := rfl
    have dz : DR a H3 H13 := d8.trans d13
    have hwz := hw3.kp dz.kp
    have hkz := hk.kp dz.kp
    have d0z := d03.trans dz
    generalize [r0', r1', r2', crow n, prow n i, r5] = rs at hrw hlim hrl
    have hwl := hrw.len
    generalize [V.ref p0, V.ref p1, V.ref p2, V.ref p3] ++ [V.ref p4, V.ref p5] = ws at hrw hD hwl
    have ok16 : ∀ m ∈ ms, MvOk 16 m := fun m hm => (hok m hm).up n2
    refine ⟨_, rfl, pw, ms, rfl, hwz, ok16, by omega, fun p14 H14 k14 w14 => ?_⟩
    obtain ⟨us, hu, mu⟩ := hwz.kp k14
    refine ⟨_, rfl, revT hu fun p15 H15 _ k15 hp15 => ?_⟩
    refine neWord (w14.kp k15) ⟨_, hp15, (mu.kp k15).rev⟩ ⟨_, rfl, iteF ?_⟩
    have kA := k14.trans k15
    refine ⟨_, rfl, _, rfl, _, rfl, D, pw, pk, ws, rs, ms, ks, n, rfl, kA.keep _ _ (fun z => z) hD, hrw.kp kA, hwz.kp kA, hkz.kp kA, hok, kok, hlim, hml, by omega, n1, n2, by omega, fun H16 k16 => ⟨_, rfl, iteF ?_⟩⟩
    have kB := kA.trans k16
    have hDB := kB.keep _ _ (fun z => z) hD
    have hwB := hwz.kp kB
    have hrB := hrw.kp kB
    have dB := d0z.trans (.of d0z.dc kB)
    clear hp0 hp1 hp2 hp3 hp4 hp5 hD8 hD12 hD8'
    refine ⟨_, rfl, by decide, by decide, ?_⟩
    refine for_it (n := 4) walk_range (fun t σ H' => ∃ v5 v6 v7, σ = [some (.ref a), some (.int n), some (.ref pw), some (.ref pk), some (.ref D), v5, v6, v7] ∧ DR a H16 H') ⟨none, none, none, rfl, .refl dB.dc⟩ (fun _ _ _ _ _ => trivial) ?_ ?_
    · rintro t x σ H20' H20 ht ⟨v5, v6, v7, rfl, d20⟩ ⟨rfl, rfl⟩
      have hD20 := d20.lst hDa hDB
      refine ⟨_, rfl, _, rfl, .inr ⟨a, D, ws, rfl, d20.dc, SqL.of hD20, fun H' d => sq_lst_dr hDa hD20 d, by omega, by omega, fun j1 H21 hj1 d21 => ?_⟩⟩
      obtain ⟨pa, r, ev, hr, _⟩ := rws_mem hrB hj1
      refine ⟨_, ev, ?_⟩
      have hD21 := d21.lst hDa hD20
      refine ⟨_, rfl, _, rfl, .inr ⟨a, D, ws, rfl, d21.dc, SqL.of hD21, fun H' d => sq_lst_dr hDa hD21 d, by omega, by omega, fun j2 H22 hj2 d22 => ?_⟩⟩
      obtain ⟨pb, s, ev2, hs, _⟩ := rws_mem hrB hj2
      refine ⟨_, ev2, _, _, rfl, ?_⟩
      have d1622 := (d20.trans d21).trans d22
      have hrC := hrB.kp d1622.kp
      have hwC := hwB.kp d1622.kp
      obtain ⟨pa', r', ea, hr', hpa⟩ := rws_mem hrC hj1
      have : pa' = pa ∧ True := ⟨by rw [ev] at ea; cases ea; rfl, trivial⟩
      obtain ⟨rfl, _⟩ := this
      obtain ⟨pb', s', eb, hs', hpb⟩ := rws_mem hrC hj2
      have : pb' = pb ∧ True := ⟨by rw [ev2] at eb; cases eb; rfl, trivial⟩
      obtain ⟨rfl, _⟩ := this
      have lr := hlim r' hr'
      have ls := hlim s' hs'
      have rr := lr.row n1 n2 big_lt
      have rs' := ls.row n1 n2 big_lt
      have lm := acts_limN lr (show ms.length ≤ 28 by omega)
      have lm2 := acts_limN ls (show ms.length ≤ 28 by omega)
      have rm := lm.row n1 n2 far_lt
      have rm2 := lm2.row n1 n2 far_lt
      have hl1 : s'.length = r'.length := ls.1.trans lr.1.symm
      have hl2 : (acts s' ms).length = (acts r' ms).length := lm2.1.trans lm.1.symm
      have hdot := dot_acts ms hok lr.1 ls.1
      refine ⟨_, rfl, _, rfl, pa', pw, r', ms, n, rfl, SqT.of hpa, hwC, hok, lr.1, n2, by omega, rr, rm.2.2, fun p23 H23 k23 hp23 => ?_⟩
      refine ⟨_, rfl, _, rfl, pb', pw, s', ms, n, rfl, SqT.of (k23.tup _ _ hpb), hwC.kp k23, hok, ls.1, n2, by omega, rs', rm2.2.2, fun p24 H24 k24 hp24 => ?_⟩
      refine ⟨p23, p24, _, _, rfl, k24.tup _ _ hp23, hp24, rm, rm2, hl2, fun H25 k25 => ?_⟩
      have k2 := (k23.trans k24).trans k25
      refine ⟨_, rfl, _, rfl, pa', pb', r', s', rfl, k2.tup _ _ hpa, k2.tup _ _ hpb, rr, rs', hl1, fun H26 k26 => ⟨rfl, _, rfl, iteNe (congrArg V.int hdot) ?_⟩⟩
      have k3 := k2.trans k26
      refine ⟨_, rfl, _, rfl, pa', pw, r', ms, n, rfl, k3.tup _ _ hpa, hwC.kp k3, hok, lr.1, by omega, fun p27 H27 k27 hp27 => ?_⟩
      have k4 := k3.trans k27
      refine ⟨_, rfl, _, rfl, pb', pw, s', ms, n, rfl, k4.tup _ _ hpb, hwC.kp k4, hok, ls.1, by omega, fun p28 H28 k28 hp28 => ?_⟩
      refine ⟨p27, p28, _, _, rfl, k28.tup _ _ hp27, hp28, rm, rm2, hl2, fun H29 k29 => ?_⟩
      have k5 := (k4.trans k28).trans k29
      refine ⟨_, rfl, _, rfl, pa', pb', r', s', rfl, k5.tup _ _ hpa, k5.tup _ _ hpb, rr, rs', hl1, fun H30 k30 => ⟨rfl, _, rfl, iteNe (congrArg V.int hdot) ?_⟩⟩
      exact ⟨_, _, _, rfl, d1622.trans (.of d1622.dc (k5.trans k30))⟩
    · rintro σ H20 ⟨v5, v6, v7, rfl, d20⟩
      have hw20 := hwB.kp d20.kp
      have lc : LimN n (10 ^ 60) (crow n) := by
        refine limN_mono (b := 10000) ⟨by simp [crow], fun x hx => ?_⟩ e60
        rcases List.mem_cons.mp hx with rfl | hx
        · omega
        · rw [List.eq_of_mem_replicate hx]; omega
      have cc := crow_acts ms hok
      have rc := crow_row n1 n2
      refine ⟨_, rfl, n, rfl, n1, n2, fun p21 H21 k21 hp21 => ?_⟩
      refine ⟨_, rfl, p21, pw, crow n, ms, n, rfl, SqT.of hp21, hw20.kp k21, hok, lc.1, n2, by omega, rc, by rw [cc]; exact rc.2.2, fun p22 H22 k22 hp22 => ?_⟩
      rw [cc] at hp22
      refine ⟨_, rfl, n, rfl, n1, n2, fun p23 H23 k23 hp23 => ?_⟩
      exact eqRow (k23.tup _ _ hp22) hp23 (q _ ((dB.trans d20).trans (.of d20.dc ((k21.trans k22).trans k23))))
def sp_law (K : PySem.W.Frag) : Sp := fun vs H Q _ => ∃ (a : Addr) (ns : List Int), vs = [.ref a] ∧ SqL K H a (ns.map V.int) ∧ ∀ H', Q (.bl true) H'
theorem ok_law {f : Addr} {fd : FuncData} (T : Txt K mg) (D : C8.Def K mg "law" s_law f fd) (c_l_cell_right : C8.Cal P w K mg base 9 "_law_cell_right" (sp_l_cell_right K) []) (c_l_dice : C8.Cal P w K mg base 1 "_law_dice" (sp_l_dice K) []) : FnOk P w K mg base CX0 10 f fd ["_law_script"] (sp_law K) := by
  refine C8.fn0 D.fn sc_law (fun vs H Q E h => ?_) (fun cdv A outer s H vs Q E hr h => ?_)
  · obtain ⟨_, _, rfl, _⟩ := h; rfl
  · obtain ⟨a, ns, rfl, ha, q⟩ := h
    refine ⟨_, (pss_cons (ps_for PassesOwn.never rfl (pi_range1 (by rfl) T.b_range (pa_cons (pe_callB (call_max2 rfl) (by rfl) T.b_max (by decide +kernel) (pa_cons pe_int (pa_cons (pe_callB (call_min2 rfl) (by rfl) T.b_min (by decide +kernel) (pa_cons pe_int (pa_cons (pe_callB (callK (K := K) Vf.rLen call_lenI) (by rfl) T.b_len (by decide +kernel) (pa_cons (pv 0) pa_nil)) pa_nil))) pa_nil))) pa_nil)) (pg_name (i := 1) sc_law.nd rfl (Or.inl rfl)) (pss_one (ps_if (pt_not (pt_val (C8.pe_c c_l_cell_right hr (by decide) (by rfl) (pa_cons (C8.pe_c c_l_dice hr (by decide) (by rfl) (pa_cons (pv 0) (pa_cons (pv 1) pa_nil))) pa_nil)))) (pss_one (ps_ret pe_bl)) pss_nil)))
      (pss_one (ps_ret pe_bl))), ?_⟩
    refine ⟨_, rfl, lenL rfl ha ⟨_, _, rfl, _, _, rfl, ?_⟩⟩
    generalize hm : (if (if ((List.map V.int ns).length : Int) < 6 then ((List.map V.int ns).length : Int) else 6) > 1 then (if ((List.map V.int ns).length : Int) < 6 then ((List.map V.int ns).length : Int) else 6) else 1) = m
    have m1 : 1 ≤ m ∧ m ≤ 6 := by
      rw [← hm]
      split <;> split <;> omega
    refine ⟨_, rfl, by omega, by omega, ?_⟩
    refine for_it (n := m.toNat) walk_range (fun i σ H' => ∃ v1, σ = [some (.ref a), v1] ∧ Kp N0 H H') ⟨_, rfl, .refl _ _⟩ (fun _ _ _ _ _ => trivial) ?_ ?_
    · rintro i x σ H2 H2' hi ⟨v1, rfl, k2⟩ ⟨rfl, rfl⟩
      refine ⟨_, rfl, _, rfl, a, ns, i, by simp, kp_sqL k2 ha, by omega, fun p H3 hp k3 hd => ?_⟩
      refine ⟨p, rfl, hd, fun H4 d4 => ⟨_, rfl, iteF ⟨_, rfl, ?_⟩⟩⟩
      exact k2.trans (kp_fresh hp k3 d4)
    · rintro σ H2 ⟨v1, rfl, k2⟩
      exact q _

end
theorem all_ok {P : Program} {w : World} {K : PySem.W.Frag} {mg : Str → Option Value} {base : Heap} (T : Txt K mg) (d_is_short : Df K mg "is_short" s_is_short ["number"]) (d_are_short : Df K mg "are_short" s_are_short ["numbers"]) (d_is_integer : Df K mg "is_integer" s_is_integer ["value"]) (d_is_from_to : Df K mg "is_from_to" s_is_from_to ["value", "least", "most"]) (d_is_row : Df K mg "is_row" s_is_row ["value"]) (d_product : Df K mg "product" s_product ["one", "other"]) (d_with_cubic : Df K mg "with_cubic" s_with_cubic ["row"]) (d_counting : Df K mg "counting" s_counting ["row"]) (d_check_row : Df K mg "check_row" s_check_row ["row"]) (d_check_rows : Df K mg "check_rows" s_check_rows ["one", "other"]) (d_short_row : Df K mg "short_row" s_short_row ["entries"]) (d_product_of : Df K mg "product_of" s_product_of ["one", "other"]) (d_product_with_cubic : Df K mg "product_with_cubic" s_product_with_cubic ["row"]) (d_counting_of : Df K mg "counting_of" s_counting_of ["row"]) (d_undone : Df K mg "undone" s_undone ["word"]) (d_moved : Df K mg "moved" s_moved ["row", "word"]) (d_check_word : Df K mg "check_word" s_check_word ["n", "word"]) (d_is_move : Df K mg "is_move" s_is_move ["n", "value"]) (d_do_move : Df K mg "do_move" s_do_move ["entries", "move"]) (d_moved_far : Df K mg "moved_far" s_moved_far ["row", "word"]) (d_is_word : Df K mg "_is_word" s_is_word ["n", "value"]) (d_l_dice : Df K mg "_law_dice" s_l_dice ["_law_script", "_law_at"]) (d_l_roll : Df K mg "_law_roll" s_l_roll ["_law_dice_here", "_law_total"]) (d_l_one_of : Df K mg "_law_one_of" s_l_one_of ["_law_dice_here", "_law_items"]) (d_l_mixed : Df K mg "_law_mixed" s_l_mixed ["_law_dice_here", "_law_items"]) (d_l_times : Df K mg "_law_times" s_l_times ["_law_one", "_law_other"]) (d_l_cubic : Df K mg "_law_cubic" s_l_cubic ["_law_n"]) (d_l_counting : Df K mg "_law_counting" s_l_counting ["_law_row_here"]) (d_l_point_row : Df K mg "_law_point_row" s_l_point_row ["_law_n", "_law_at"]) (d_l_sum : Df K mg "_law_sum" s_l_sum ["_law_rows", "_law_numbers"]) (d_l_generators : Df K mg "_law_generators" s_l_generators ["_law_n"]) (d_l_standard : Df K mg "_law_standard" s_l_standard ["_law_dice_here", "_law_n", "_law_most"]) (d_l_small_row : Df K mg "_law_small_row" s_l_small_row ["_law_dice_here", "_law_n", "_law_most"]) (d_l_full_row : Df K mg "_law_full_row" s_l_full_row ["_law_dice_here", "_law_n", "_law_most"]) (d_l_row : Df K mg "_law_row" s_l_row ["_law_dice_here", "_law_n", "_law_most"]) (d_l_great_row : Df K mg "_law_great_row" s_l_great_row ["_law_dice_here", "_law_n", "_law_figures"]) (d_l_word : Df K mg "_law_word" s_l_word ["_law_dice_here", "_law_n", "_law_most"]) (d_l_move : Df K mg "_law_move" s_l_move ["_law_row_here", "_law_move_here"]) (d_l_moved : Df K mg "_law_moved" s_l_moved ["_law_row_here", "_law_word_here"]) (d_l_rows_right : Df K mg "_law_rows_right" s_l_rows_right ["_law_rows", "_law_word_here", "_law_further"]) (d_l_cell_right : Df K mg "_law_cell_right" s_l_cell_right ["_law_dice_here"]) {f : Addr} {fd : FuncData} (d_law : C8.Def K mg "law" s_law f fd) : FnOk P w K mg base CX0 10 f fd ["_law_script"] (sp_law K) := by
  have c_is_short := ok_is_short (P := P) (w := w) (base := base) T d_is_short 
  have c_product_of := ok_product_of (P := P) (w := w) (base := base) T d_product_of 
  have c_product_with_cubic := ok_product_with_cubic (P := P) (w := w) (base := base) T d_product_with_cubic 
  have c_do_move := ok_do_move (P := P) (w := w) (base := base) T d_do_move 
  have c_l_dice := ok_l_dice (P := P) (w := w) (base := base) T d_l_dice 
  have c_l_roll := ok_l_roll (P := P) (w := w) (base := base) T d_l_roll 
  have c_l_times := ok_l_times (P := P) (w := w) (base := base) T d_l_times 
  have c_l_cubic := ok_l_cubic (P := P) (w := w) (base := base) T d_l_cubic 
  have c_l_point_row := ok_l_point_row (P := P) (w := w) (base := base) T d_l_point_row 
  have c_l_sum := ok_l_sum (P := P) (w := w) (base := base) T d_l_sum 
  have c_l_generators := ok_l_generators (P := P) (w := w) (base := base) T d_l_generators 
  have c_l_move := ok_l_move (P := P) (w := w) (base := base) T d_l_move 
  have c_are_short := ok_are_short (P := P) (w := w) (base := base) T d_are_short c_is_short
  have c_is_integer := ok_is_integer (P := P) (w := w) (base := base) T d_is_integer c_is_short
  have c_counting_of := ok_counting_of (P := P) (w := w) (base := base) T d_counting_of c_product_of c_product_with_cubic
  have c_moved_far := ok_moved_far (P := P) (w := w) (base := base) T d_moved_far c_do_move
  have c_l_one_of := ok_l_one_of (P := P) (w := w) (base := base) T d_l_one_of c_l_roll
  have c_l_mixed := ok_l_mixed (P := P) (w := w) (base := base) T d_l_mixed c_l_roll
  have c_l_counting := ok_l_counting (P := P) (w := w) (base := base) T d_l_counting c_l_times c_l_cubic
  have c_l_moved := ok_l_moved (P := P) (w := w) (base := base) T d_l_moved c_l_move
  have c_is_from_to := ok_is_from_to (P := P) (w := w) (base := base) T d_is_from_to c_is_integer
  have c_is_row := ok_is_row (P := P) (w := w) (base := base) T d_is_row c_is_integer
  have c_short_row := ok_short_row (P := P) (w := w) (base := base) T d_short_row c_are_short
  have c_l_standard := ok_l_standard (P := P) (w := w) (base := base) T d_l_standard c_l_generators c_l_sum c_l_roll c_l_mixed
  have c_l_small_row := ok_l_small_row (P := P) (w := w) (base := base) T d_l_small_row c_l_one_of c_l_roll
  have c_l_great_row := ok_l_great_row (P := P) (w := w) (base := base) T d_l_great_row c_l_roll c_l_one_of
  have c_l_word := ok_l_word (P := P) (w := w) (base := base) T d_l_word c_l_roll c_l_mixed
  have c_check_row := ok_check_row (P := P) (w := w) (base := base) T d_check_row c_is_row
  have c_is_move := ok_is_move (P := P) (w := w) (base := base) T d_is_move c_is_from_to
  have c_l_full_row := ok_l_full_row (P := P) (w := w) (base := base) T d_l_full_row c_l_word c_l_point_row c_l_roll c_l_moved c_l_sum c_l_standard
  have c_with_cubic := ok_with_cubic (P := P) (w := w) (base := base) T d_with_cubic c_check_row c_product_with_cubic
  have c_counting := ok_counting (P := P) (w := w) (base := base) T d_counting c_check_row c_counting_of
  have c_check_rows := ok_check_rows (P := P) (w := w) (base := base) T d_check_rows c_check_row
  have c_is_word := ok_is_word (P := P) (w := w) (base := base) T d_is_word c_is_move
  have c_l_row := ok_l_row (P := P) (w := w) (base := base) T d_l_row c_l_roll c_l_full_row c_l_small_row c_l_moved c_l_standard c_l_word
  have c_product := ok_product (P := P) (w := w) (base := base) T d_product c_check_rows c_product_of
  have c_check_word := ok_check_word (P := P) (w := w) (base := base) T d_check_word c_is_word
  have c_undone := ok_undone (P := P) (w := w) (base := base) T d_undone c_check_word
  have c_moved := ok_moved (P := P) (w := w) (base := base) T d_moved c_check_row c_check_word c_short_row c_moved_far
  have c_l_rows_right := ok_l_rows_right (P := P) (w := w) (base := base) T d_l_rows_right c_l_moved c_moved c_undone c_counting c_l_counting c_with_cubic c_l_times c_l_cubic
  have c_l_cell_right := ok_l_cell_right (P := P) (w := w) (base := base) T d_l_cell_right c_l_roll c_l_word c_l_row c_l_small_row c_l_great_row c_l_cubic c_l_point_row c_undone c_l_rows_right c_l_one_of c_product c_moved c_l_times c_l_moved
  exact ok_law T d_law c_l_cell_right c_l_dice
theorem law_end (K : PySem.W.Frag) (H : Hp) (a : Addr) (ns : List Int) (h1 : ns.length ≤ 63) (h2 : SqL K H a (ns.map V.int)) : sp_law K [.ref a] H (fun v _ => v = .bl true) fun _ _ _ => False :=
  Vf.law_end (sp := sp_law) (fun K a ns H Q E h q => ⟨a, ns, rfl, h, q⟩) K H a ns h1 h2
end K11
open PySem PySem.W PyProof.Rows in
set_option maxRecDepth 100000 in
set_option maxHeartbeats 0 in
theorem PySem.Challenge.cw_timesthrough_k11_whole_words_keep_produc_holds : PySem.Challenge.rw_timesthrough_k11_whole_words_keep_produc.Holds := by
  w_on; o_law; k_head; (case hw => w_witness2)
  k_fill
  refine Vf.walk_law (l := PySem.Challenge.rw_timesthrough_k11_whole_words_keep_produc) (x := "_law_script") (k := 10) (sp := K11.sp_law) rfl rfl (fun w h Y => PySem.W.kIn_of Y) ?F (fun K H a ns h1 h2 => K11.law_end K H a ns h1 h2)
  case F =>
    intro w mg fa h KX G hmg
    refine' Vf.let_ (Vf.df_mk (x := "is_short") (st := K11.s_is_short) (ps := ["number"]) KX G ?a ?l ?c ?k (fun _ _ _ _ _ _ us hl => match us, hl with | [_], _ => rfl)) (fun d_is_short => ?_)
    (case a => k_is)
    (case l => k_is)
    (case c => k_is)
    (case k => k_is)
    refine' Vf.let_ (Vf.df_mk (x := "are_short") (st := K11.s_are_short) (ps := ["numbers"]) KX G ?a ?l ?c ?k (fun _ _ _ _ _ _ us hl => match us, hl with | [_], _ => rfl)) (fun d_are_short => ?_)
    (case a => k_is)
    (case l => k_is)
    (case c => k_is)
    (case k => k_is)
    refine' Vf.let_ (Vf.df_mk (x := "is_integer") (st := K11.s_is_integer) (ps := ["value"]) KX G ?a ?l ?c ?k (fun _ _ _ _ _ _ us hl => match us, hl with | [_], _ => rfl)) (fun d_is_integer => ?_)
    (case a => k_is)
    (case l => k_is)
    (case c => k_is)
    (case k => k_is)
    refine' Vf.let_ (Vf.df_mk (x := "is_from_to") (st := K11.s_is_from_to) (ps := ["value", "least", "most"]) KX G ?a ?l ?c ?k (fun _ _ _ _ _ _ us hl => match us, hl with | [_, _, _], _ => rfl)) (fun d_is_from_to => ?_)
    (case a => k_is)
    (case l => k_is)
    (case c => k_is)
    (case k => k_is)
    refine' Vf.let_ (Vf.df_mk (x := "is_row") (st := K11.s_is_row) (ps := ["value"]) KX G ?a ?l ?c ?k (fun _ _ _ _ _ _ us hl => match us, hl with | [_], _ => rfl)) (fun d_is_row => ?_)
    (case a => k_is)
    (case l => k_is)
    (case c => k_is)
    (case k => k_is)
    refine' Vf.let_ (Vf.df_mk (x := "product") (st := K11.s_product) (ps := ["one", "other"]) KX G ?a ?l ?c ?k (fun _ _ _ _ _ _ us hl => match us, hl with | [_, _], _ => rfl)) (fun d_product => ?_)
    (case a => k_is)
    (case l => k_is)
    (case c => k_is)
    (case k => k_is)
    refine' Vf.let_ (Vf.df_mk (x := "with_cubic") (st := K11.s_with_cubic) (ps := ["row"]) KX G ?a ?l ?c ?k (fun _ _ _ _ _ _ us hl => match us, hl with | [_], _ => rfl)) (fun d_with_cubic => ?_)
    (case a => k_is)
    (case l => k_is)
    (case c => k_is)
    (case k => k_is)
    refine' Vf.let_ (Vf.df_mk (x := "counting") (st := K11.s_counting) (ps := ["row"]) KX G ?a ?l ?c ?k (fun _ _ _ _ _ _ us hl => match us, hl with | [_], _ => rfl)) (fun d_counting => ?_)
    (case a => k_is)
    (case l => k_is)
    (case c => k_is)
    (case k => k_is)
    refine' Vf.let_ (Vf.df_mk (x := "check_row") (st := K11.s_check_row) (ps := ["row"]) KX G ?a ?l ?c ?k (fun _ _ _ _ _ _ us hl => match us, hl with | [_], _ => rfl)) (fun d_check_row => ?_)
    (case a => k_is)
    (case l => k_is)
    (case c => k_is)
    (case k => k_is)
    refine' Vf.let_ (Vf.df_mk (x := "check_rows") (st := K11.s_check_rows) (ps := ["one", "other"]) KX G ?a ?l ?c ?k (fun _ _ _ _ _ _ us hl => match us, hl with | [_, _], _ => rfl)) (fun d_check_rows => ?_)
    (case a => k_is)
    (case l => k_is)
    (case c => k_is)
    (case k => k_is)
    refine' Vf.let_ (Vf.df_mk (x := "short_row") (st := K11.s_short_row) (ps := ["entries"]) KX G ?a ?l ?c ?k (fun _ _ _ _ _ _ us hl => match us, hl with | [_], _ => rfl)) (fun d_short_row => ?_)
    (case a => k_is)
    (case l => k_is)
    (case c => k_is)
    (case k => k_is)
    refine' Vf.let_ (Vf.df_mk (x := "product_of") (st := K11.s_product_of) (ps := ["one", "other"]) KX G ?a ?l ?c ?k (fun _ _ _ _ _ _ us hl => match us, hl with | [_, _], _ => rfl)) (fun d_product_of => ?_)
    (case a => k_is)
    (case l => k_is)
    (case c => k_is)
    (case k => k_is)
    refine' Vf.let_ (Vf.df_mk (x := "product_with_cubic") (st := K11.s_product_with_cubic) (ps := ["row"]) KX G ?a ?l ?c ?k (fun _ _ _ _ _ _ us hl => match us, hl with | [_], _ => rfl)) (fun d_product_with_cubic => ?_)
    (case a => k_is)
    (case l => k_is)
    (case c => k_is)
    (case k => k_is)
    refine' Vf.let_ (Vf.df_mk (x := "counting_of") (st := K11.s_counting_of) (ps := ["row"]) KX G ?a ?l ?c ?k (fun _ _ _ _ _ _ us hl => match us, hl with | [_], _ => rfl)) (fun d_counting_of => ?_)
    (case a => k_is)
    (case l => k_is)
    (case c => k_is)
    (case k => k_is)
    refine' Vf.let_ (Vf.df_mk (x := "undone") (st := K11.s_undone) (ps := ["word"]) KX G ?a ?l ?c ?k (fun _ _ _ _ _ _ us hl => match us, hl with | [_], _ => rfl)) (fun d_undone => ?_)
    (case a => k_is)
    (case l => k_is)
    (case c => k_is)
    (case k => k_is)
    refine' Vf.let_ (Vf.df_mk (x := "moved") (st := K11.s_moved) (ps := ["row", "word"]) KX G ?a ?l ?c ?k (fun _ _ _ _ _ _ us hl => match us, hl with | [_, _], _ => rfl)) (fun d_moved => ?_)
    (case a => k_is)
    (case l => k_is)
    (case c => k_is)
    (case k => k_is)
    refine' Vf.let_ (Vf.df_mk (x := "check_word") (st := K11.s_check_word) (ps := ["n", "word"]) KX G ?a ?l ?c ?k (fun _ _ _ _ _ _ us hl => match us, hl with | [_, _], _ => rfl)) (fun d_check_word => ?_)
    (case a => k_is)
    (case l => k_is)
    (case c => k_is)
    (case k => k_is)
    refine' Vf.let_ (Vf.df_mk (x := "is_move") (st := K11.s_is_move) (ps := ["n", "value"]) KX G ?a ?l ?c ?k (fun _ _ _ _ _ _ us hl => match us, hl with | [_, _], _ => rfl)) (fun d_is_move => ?_)
    (case a => k_is)
    (case l => k_is)
    (case c => k_is)
    (case k => k_is)
    refine' Vf.let_ (Vf.df_mk (x := "do_move") (st := K11.s_do_move) (ps := ["entries", "move"]) KX G ?a ?l ?c ?k (fun _ _ _ _ _ _ us hl => match us, hl with | [_, _], _ => rfl)) (fun d_do_move => ?_)
    (case a => k_is)
    (case l => k_is)
    (case c => k_is)
    (case k => k_is)
    refine' Vf.let_ (Vf.df_mk (x := "moved_far") (st := K11.s_moved_far) (ps := ["row", "word"]) KX G ?a ?l ?c ?k (fun _ _ _ _ _ _ us hl => match us, hl with | [_, _], _ => rfl)) (fun d_moved_far => ?_)
    (case a => k_is)
    (case l => k_is)
    (case c => k_is)
    (case k => k_is)
    refine' Vf.let_ (Vf.df_mk (x := "_is_word") (st := K11.s_is_word) (ps := ["n", "value"]) KX G ?a ?l ?c ?k (fun _ _ _ _ _ _ us hl => match us, hl with | [_, _], _ => rfl)) (fun d_is_word => ?_)
    (case a => k_is)
    (case l => k_is)
    (case c => k_is)
    (case k => k_is)
    refine' Vf.let_ (Vf.df_mk (x := "_law_dice") (st := K11.s_l_dice) (ps := ["_law_script", "_law_at"]) KX G ?a ?l ?c ?k (fun _ _ _ _ _ _ us hl => match us, hl with | [_, _], _ => rfl)) (fun d_l_dice => ?_)
    (case a => k_is)
    (case l => k_is)
    (case c => k_is)
    (case k => k_is)
    refine' Vf.let_ (Vf.df_mk (x := "_law_roll") (st := K11.s_l_roll) (ps := ["_law_dice_here", "_law_total"]) KX G ?a ?l ?c ?k (fun _ _ _ _ _ _ us hl => match us, hl with | [_, _], _ => rfl)) (fun d_l_roll => ?_)
    (case a => k_is)
    (case l => k_is)
    (case c => k_is)
    (case k => k_is)
    refine' Vf.let_ (Vf.df_mk (x := "_law_one_of") (st := K11.s_l_one_of) (ps := ["_law_dice_here", "_law_items"]) KX G ?a ?l ?c ?k (fun _ _ _ _ _ _ us hl => match us, hl with | [_, _], _ => rfl)) (fun d_l_one_of => ?_)
    (case a => k_is)
    (case l => k_is)
    (case c => k_is)
    (case k => k_is)
    refine' Vf.let_ (Vf.df_mk (x := "_law_mixed") (st := K11.s_l_mixed) (ps := ["_law_dice_here", "_law_items"]) KX G ?a ?l ?c ?k (fun _ _ _ _ _ _ us hl => match us, hl with | [_, _], _ => rfl)) (fun d_l_mixed => ?_)
    (case a => k_is)
    (case l => k_is)
    (case c => k_is)
    (case k => k_is)
    refine' Vf.let_ (Vf.df_mk (x := "_law_times") (st := K11.s_l_times) (ps := ["_law_one", "_law_other"]) KX G ?a ?l ?c ?k (fun _ _ _ _ _ _ us hl => match us, hl with | [_, _], _ => rfl)) (fun d_l_times => ?_)
    (case a => k_is)
    (case l => k_is)
    (case c => k_is)
    (case k => k_is)
    refine' Vf.let_ (Vf.df_mk (x := "_law_cubic") (st := K11.s_l_cubic) (ps := ["_law_n"]) KX G ?a ?l ?c ?k (fun _ _ _ _ _ _ us hl => match us, hl with | [_], _ => rfl)) (fun d_l_cubic => ?_)
    (case a => k_is)
    (case l => k_is)
    (case c => k_is)
    (case k => k_is)
    refine' Vf.let_ (Vf.df_mk (x := "_law_counting") (st := K11.s_l_counting) (ps := ["_law_row_here"]) KX G ?a ?l ?c ?k (fun _ _ _ _ _ _ us hl => match us, hl with | [_], _ => rfl)) (fun d_l_counting => ?_)
    (case a => k_is)
    (case l => k_is)
    (case c => k_is)
    (case k => k_is)
    refine' Vf.let_ (Vf.df_mk (x := "_law_point_row") (st := K11.s_l_point_row) (ps := ["_law_n", "_law_at"]) KX G ?a ?l ?c ?k (fun _ _ _ _ _ _ us hl => match us, hl with | [_, _], _ => rfl)) (fun d_l_point_row => ?_)
    (case a => k_is)
    (case l => k_is)
    (case c => k_is)
    (case k => k_is)
    refine' Vf.let_ (Vf.df_mk (x := "_law_sum") (st := K11.s_l_sum) (ps := ["_law_rows", "_law_numbers"]) KX G ?a ?l ?c ?k (fun _ _ _ _ _ _ us hl => match us, hl with | [_, _], _ => rfl)) (fun d_l_sum => ?_)
    (case a => k_is)
    (case l => k_is)
    (case c => k_is)
    (case k => k_is)
    refine' Vf.let_ (Vf.df_mk (x := "_law_generators") (st := K11.s_l_generators) (ps := ["_law_n"]) KX G ?a ?l ?c ?k (fun _ _ _ _ _ _ us hl => match us, hl with | [_], _ => rfl)) (fun d_l_generators => ?_)
    (case a => k_is)
    (case l => k_is)
    (case c => k_is)
    (case k => k_is)
    refine' Vf.let_ (Vf.df_mk (x := "_law_standard") (st := K11.s_l_standard) (ps := ["_law_dice_here", "_law_n", "_law_most"]) KX G ?a ?l ?c ?k (fun _ _ _ _ _ _ us hl => match us, hl with | [_, _, _], _ => rfl)) (fun d_l_standard => ?_)
    (case a => k_is)
    (case l => k_is)
    (case c => k_is)
    (case k => k_is)
    refine' Vf.let_ (Vf.df_mk (x := "_law_small_row") (st := K11.s_l_small_row) (ps := ["_law_dice_here", "_law_n", "_law_most"]) KX G ?a ?l ?c ?k (fun _ _ _ _ _ _ us hl => match us, hl with | [_, _, _], _ => rfl)) (fun d_l_small_row => ?_)
    (case a => k_is)
    (case l => k_is)
    (case c => k_is)
    (case k => k_is)
    refine' Vf.let_ (Vf.df_mk (x := "_law_full_row") (st := K11.s_l_full_row) (ps := ["_law_dice_here", "_law_n", "_law_most"]) KX G ?a ?l ?c ?k (fun _ _ _ _ _ _ us hl => match us, hl with | [_, _, _], _ => rfl)) (fun d_l_full_row => ?_)
    (case a => k_is)
    (case l => k_is)
    (case c => k_is)
    (case k => k_is)
    refine' Vf.let_ (Vf.df_mk (x := "_law_row") (st := K11.s_l_row) (ps := ["_law_dice_here", "_law_n", "_law_most"]) KX G ?a ?l ?c ?k (fun _ _ _ _ _ _ us hl => match us, hl with | [_, _, _], _ => rfl)) (fun d_l_row => ?_)
    (case a => k_is)
    (case l => k_is)
    (case c => k_is)
    (case k => k_is)
    refine' Vf.let_ (Vf.df_mk (x := "_law_great_row") (st := K11.s_l_great_row) (ps := ["_law_dice_here", "_law_n", "_law_figures"]) KX G ?a ?l ?c ?k (fun _ _ _ _ _ _ us hl => match us, hl with | [_, _, _], _ => rfl)) (fun d_l_great_row => ?_)
    (case a => k_is)
    (case l => k_is)
    (case c => k_is)
    (case k => k_is)
    refine' Vf.let_ (Vf.df_mk (x := "_law_word") (st := K11.s_l_word) (ps := ["_law_dice_here", "_law_n", "_law_most"]) KX G ?a ?l ?c ?k (fun _ _ _ _ _ _ us hl => match us, hl with | [_, _, _], _ => rfl)) (fun d_l_word => ?_)
    (case a => k_is)
    (case l => k_is)
    (case c => k_is)
    (case k => k_is)
    refine' Vf.let_ (Vf.df_mk (x := "_law_move") (st := K11.s_l_move) (ps := ["_law_row_here", "_law_move_here"]) KX G ?a ?l ?c ?k (fun _ _ _ _ _ _ us hl => match us, hl with | [_, _], _ => rfl)) (fun d_l_move => ?_)
    (case a => k_is)
    (case l => k_is)
    (case c => k_is)
    (case k => k_is)
    refine' Vf.let_ (Vf.df_mk (x := "_law_moved") (st := K11.s_l_moved) (ps := ["_law_row_here", "_law_word_here"]) KX G ?a ?l ?c ?k (fun _ _ _ _ _ _ us hl => match us, hl with | [_, _], _ => rfl)) (fun d_l_moved => ?_)
    (case a => k_is)
    (case l => k_is)
    (case c => k_is)
    (case k => k_is)
    refine' Vf.let_ (Vf.df_mk (x := "_law_rows_right") (st := K11.s_l_rows_right) (ps := ["_law_rows", "_law_word_here", "_law_further"]) KX G ?a ?l ?c ?k (fun _ _ _ _ _ _ us hl => match us, hl with | [_, _, _], _ => rfl)) (fun d_l_rows_right => ?_)
    (case a => k_is)
    (case l => k_is)
    (case c => k_is)
    (case k => k_is)
    refine' Vf.let_ (Vf.df_mk (x := "_law_cell_right") (st := K11.s_l_cell_right) (ps := ["_law_dice_here"]) KX G ?a ?l ?c ?k (fun _ _ _ _ _ _ us hl => match us, hl with | [_], _ => rfl)) (fun d_l_cell_right => ?_)
    (case a => k_is)
    (case l => k_is)
    (case c => k_is)
    (case k => k_is)
    refine' Vf.let_ (Vf.df_mk (x := "law") (st := K11.s_law) (ps := ["_law_script"]) KX G ?a ?l ?c ?k (fun _ _ _ _ _ _ us hl => match us, hl with | [_], _ => rfl)) (fun d_law => ?_)
    (case a => k_is)
    (case l => k_is)
    (case c => k_is)
    (case k => k_is)
    refine' Vf.let_ (show mg "abs" = none from PySem.W.mg_none_of KX G ?z) (fun b_abs => ?_)
    (case z => k_is)
    refine' Vf.let_ (show mg "all" = none from PySem.W.mg_none_of KX G ?z) (fun b_all => ?_)
    (case z => k_is)
    refine' Vf.let_ (show mg "bool" = none from PySem.W.mg_none_of KX G ?z) (fun b_bool => ?_)
    (case z => k_is)
    refine' Vf.let_ (show mg "int" = none from PySem.W.mg_none_of KX G ?z) (fun b_int => ?_)
    (case z => k_is)
    refine' Vf.let_ (show mg "isinstance" = none from PySem.W.mg_none_of KX G ?z) (fun b_isinstance => ?_)
    (case z => k_is)
    refine' Vf.let_ (show mg "len" = none from PySem.W.mg_none_of KX G ?z) (fun b_len => ?_)
    (case z => k_is)
    refine' Vf.let_ (show mg "list" = none from PySem.W.mg_none_of KX G ?z) (fun b_list => ?_)
    (case z => k_is)
    refine' Vf.let_ (show mg "max" = none from PySem.W.mg_none_of KX G ?z) (fun b_max => ?_)
    (case z => k_is)
    refine' Vf.let_ (show mg "min" = none from PySem.W.mg_none_of KX G ?z) (fun b_min => ?_)
    (case z => k_is)
    refine' Vf.let_ (show mg "range" = none from PySem.W.mg_none_of KX G ?z) (fun b_range => ?_)
    (case z => k_is)
    refine' Vf.let_ (show mg "sorted" = none from PySem.W.mg_none_of KX G ?z) (fun b_sorted => ?_)
    (case z => k_is)
    refine' Vf.let_ (show mg "sum" = none from PySem.W.mg_none_of KX G ?z) (fun b_sum => ?_)
    (case z => k_is)
    refine' Vf.let_ (show mg "tuple" = none from PySem.W.mg_none_of KX G ?z) (fun b_tuple => ?_)
    (case z => k_is)
    refine' Vf.let_ (show mg "zip" = none from PySem.W.mg_none_of KX G ?z) (fun b_zip => ?_)
    (case z => k_is)
    refine' Vf.let_ (show ∃ u, mg "LEAST_POINTS" = some u ∧ L2.RelV (.int 3) u from Vf.const_mk KX G ?z) (fun c_LEAST_POINTS => ?_)
    (case z => k_is)
    refine' Vf.let_ (show ∃ u, mg "MAX_WORD" = some u ∧ L2.RelV (.int 2000) u from Vf.const_mk KX G ?z) (fun c_MAX_WORD => ?_)
    (case z => k_is)
    refine' Vf.let_ (show ∃ u, mg "MOST_POINTS" = some u ∧ L2.RelV (.int 16) u from Vf.const_mk KX G ?z) (fun c_MOST_POINTS => ?_)
    (case z => k_is)
    refine' Vf.let_ (show ∃ u, mg "_TOO_LONG" = some u ∧ L2.RelV (.int 100000000000000000000000000000000000000000000000000000000000000000000000000000000000000000000000000000000000000000000000000000000000000000000000000000000000000000000000000000000000000000000000000000000) u from Vf.const_mk KX G ?z) (fun c_TOO_LONG => ?_)
    (case z => k_is)
    exact Vf.law_ok hmg d_law fun base _ _ D => K11.all_ok (P := PySem.Challenge.rw_timesthrough_k11_whole_words_keep_produc.prog) ⟨b_abs, b_all, b_bool, b_int, b_isinstance, b_len, b_list, b_max, b_min, b_range, b_sorted, b_sum, b_tuple, b_zip, c_LEAST_POINTS, c_MAX_WORD, c_MOST_POINTS, c_TOO_LONG⟩ d_is_short d_are_short d_is_integer d_is_from_to d_is_row d_product d_with_cubic d_counting d_check_row d_check_rows d_short_row d_product_of d_product_with_cubic d_counting_of d_undone d_moved d_check_word d_is_move d_do_move d_moved_far d_is_word d_l_dice d_l_roll d_l_one_of d_l_mixed d_l_times d_l_cubic d_l_counting d_l_point_row d_l_sum d_l_generators d_l_standard d_l_small_row d_l_full_row d_l_row d_l_great_row d_l_word d_l_move d_l_moved d_l_rows_right d_l_cell_right D
