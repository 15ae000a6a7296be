/- The document's memory: a number put among others: contract. -/
import Derived.Test.YtgfkjlknkbdjiaaTmQ
namespace Go.Proofs.Ytgfkjlknkbdjiaa
set_option linter.unusedVariables false
set_option linter.unusedSimpArgs false
open Go.Joins Go.ChangeShapes Go.WideShapes Go.ChangeAt Go.RowKit Go.Deep

/-- how far a number is put among others -/
def PutInv (p : Nat) (l : List Nat) (k : Nat) (xs : List Nat) (dn : Bool) : Prop := (dn = true → xs ++ l.drop k = ins p l ∧ xs.length = k + 1) ∧ (dn = false → xs = l.take k ∧ l.take k ++ ins p (l.drop k) = ins p l)
theorem putInv_start (p : Nat) (l : List Nat) : PutInv p l 0 [] false := ⟨fun h => (by cases h), fun _ => ⟨by simp, by simp⟩⟩
theorem putInv_step {p : Nat} {l : List Nat} {k : Nat} {xs : List Nat} (h : PutInv p l k xs true) (hk : k < l.length) : PutInv p l (k + 1) (xs ++ [l[k]]) true := by
  obtain ⟨h1, h2⟩ := h.1 rfl
  refine ⟨fun _ => ⟨?_, by rw [List.length_append, h2]; rfl⟩, fun e => (by cases e)⟩
  rw [← h1, List.drop_eq_getElem_cons hk]
  simp
theorem putInv_here {p : Nat} {l : List Nat} {k : Nat} {xs : List Nat} (h : PutInv p l k xs false) (hk : k < l.length) (hp : p < l[k]) : PutInv p l (k + 1) (xs ++ [p] ++ [l[k]]) true := by
  obtain ⟨h1, h2⟩ := h.2 rfl
  refine ⟨fun _ => ⟨?_, by rw [List.length_append, List.length_append, h1, List.length_take]; simp; omega⟩, fun e => (by cases e)⟩
  rw [← h2, List.drop_eq_getElem_cons hk]
  unfold ins
  rw [if_pos hp, h1]
  simp
theorem putInv_past {p : Nat} {l : List Nat} {k : Nat} {xs : List Nat} (h : PutInv p l k xs false) (hk : k < l.length) (hp : ¬ p < l[k]) : PutInv p l (k + 1) (xs ++ [l[k]]) false := by
  obtain ⟨h1, h2⟩ := h.2 rfl
  refine ⟨fun e => (by cases e), fun _ => ⟨?_, ?_⟩⟩
  · rw [h1, List.take_succ_eq_append_getElem hk]
  · rw [← h2, List.drop_eq_getElem_cons hk, List.take_succ_eq_append_getElem hk]
    rw [show ins p (l[k] :: l.drop (k + 1)) = l[k] :: ins p (l.drop (k + 1)) from if_neg hp, List.append_assoc]
    rfl
theorem putInv_end {p : Nat} {l xs : List Nat} {dn : Bool} (h : PutInv p l l.length xs dn) : (if dn then xs else xs ++ [p]) = ins p l := by
  cases dn with
  | true =>
    obtain ⟨h1, -⟩ := h.1 rfl
    rw [List.drop_length, List.append_nil] at h1
    exact h1
  | false =>
    obtain ⟨h1, h2⟩ := h.2 rfl
    rw [List.drop_length, List.take_length] at h2
    rw [List.take_length] at h1
    rw [← h2, h1]
    rfl
set_option maxRecDepth 20000 in
set_option maxHeartbeats 1000000 in
theorem rput_any (a : Option Addr) (n c : Nat) (l : List Nat) (p : Nat) (w : World) (hl : Rd w a n (u64s l)) (hn : n ≤ 100000) :
    Calls Try.prog 54 #[.slice a n c, .int .u64 (p : Int)] w fun e w' => (∃ ra rc, e = .returned (.slice ra (ins p l).length rc) ∧ w'.ownsRow w.heap.size 39 1 (.slice ra (ins p l).length rc) (ins p l).length (u64s (ins p l))) ∧ Below w.heap.size w w' := by
  have hln : l.length = n := by rw [← u64s_length]; exact hl.1
  have HL := Lib.hid hl
  have HN := Lib.hid hln
  clear hl hln
  go_enter Try.func54, Try.ntmps54
  go_wp2_with fail
  go_loopw [5, 6, 7] (fun ov dv i wr => ∃ (k : Nat) (dn : Bool) (xs : List Nat) (v : Value), ov = v ∧ dv = .bool dn ∧ i = .int .i64 k ∧ k ≤ n ∧ xs.length ≤ k + 1 ∧ Hid (PutInv p l k xs dn) ∧ Hid (wr.ownsRow w.heap.size 39 1 v xs.length (u64s xs)) ∧ Hid (Below w.heap.size w wr)) (fun _ _ i _ => n - (intOf i).toNat)
  case atStart => exact ⟨0, false, [], _, rfl, rfl, rfl, by omega, by simp, Lib.hid (putInv_start p l), Lib.hid (World.ownsRow_nil _ _ _ _), Lib.hid (Below.refl _ _)⟩
  case round =>
    obtain ⟨k, dn, xs, v, rfl, rfl, rfl, hk, hxk, HX, HO, HB⟩ := hrel
    have hsz := HB.out.size
    obtain ⟨va, vc, rfl, -⟩ := own_slice HO.out
    by_cases hlt : k < n
    · have hkl : k < l.length := by rw [HN.out]; exact hlt
      obtain ⟨b1, o1, rfl, _, c1⟩ := (HL.out.below HB.out).at_ hlt
      rw [u64s_get l k hkl] at c1
      have H1 := Lib.hid (fun (h : PutInv p l k xs true) => putInv_step h hkl)
      have H2 := Lib.hid (fun (h : PutInv p l k xs false) (hp : p < l[k]) => putInv_here h hkl hp)
      have H3 := Lib.hid (fun (h : PutInv p l k xs false) (hp : ¬ p < l[k]) => putInv_past h hkl hp)
      have HLK : Hid (xs.length = k ∨ dn = true) := Lib.hid (by
        cases dn with
        | true => exact Or.inr rfl
        | false => exact Or.inl (by rw [(HX.out.2 rfl).1, List.length_take]; omega))
      obtain ⟨x, hx⟩ : ∃ x, l[k] = x := ⟨_, rfl⟩
      rw [hx] at c1 H1 H2 H3
      have kk0 : (0 : Int) ≤ (k : Int) := by omega
      have kk1 : (k : Int) < (n : Int) := by omega
      have hlen : (xs ++ [x]).length = xs.length + 1 := by simp
      have HLEN := Lib.hid hlen
      have HG : Hid ((u64s l)[k]? = some (.int .u64 (x : Int))) := Lib.hid (by rw [u64s_get l k hkl, hx])
      clear hx hkl hlen
      cases dn with
      | true =>
        have hx1 : (PutInv p l (k + 1) (xs ++ [x]) true) := H1.out HX.out
        have HX1 := Lib.hid hx1
        clear hx1
        go_wp2_with (at_builtin; refine wpList_appE 32 39 (.int .u64 0) 1 8 Try.underlying32 infoU64 rfl (by decide) (by decide) _ rfl _ _ rfl w.heap.size (.slice va xs.length vc) xs.length (u64s xs) rfl (HO.out.alloc _) (some ⟨wr.heap.size, 0, none⟩) 1 1 [.int .u64 (x : Int)] rfl (Rd.lit wr #[.int .u64 (x : Int)] 39 (by show 1 ≤ maxLen; decide)) (fun u hu => by simp at hu; subst hu; rfl) (by omega) (by rw [size_alloc]; exact Nat.le_succ_of_le hsz) ?_; intro a1 c1 W1 hown1 hgrow1 hat1)
        have HO1 := Lib.hid (show W1.ownsRow w.heap.size 39 1 (.slice a1 (xs.length + 1) c1) (xs.length + 1) (u64s (xs ++ [x])) by rw [u64s_snoc]; exact hown1)
        have HB1 := Lib.hid (grownB (bTrans HB.out (bAlloc (Below.refl _ _) (.cells #[.int .u64 (x : Int)] 39))) hgrow1 (fun r e => (HO.out.lt r e).1))
        clear hown1 hgrow1 hat1
        go_wp2_with fail
        go_roundw
        case rel => exact ⟨k + 1, true, xs ++ [x], _, rfl, rfl, by go_num, by omega, by rw [HLEN.out]; omega, HX1, by rw [HLEN.out]; exact HO1, HB1⟩
        case measure => simp [intOf]; omega
      | false =>
        by_cases hp : p < x
        · have hpi : (p : Int) < (x : Int) := by omega
          have HX1 := Lib.hid (H2.out HX.out hp)
          have hlen2 : (xs ++ [p]).length = xs.length + 1 := by simp
          have hlen3 : (xs ++ [p] ++ [x]).length = xs.length + 1 + 1 := by simp
          have HLEN2 := Lib.hid hlen2
          have HLEN3 := Lib.hid hlen3
          clear hlen2 hlen3
          go_upto_region 8 with (at_builtin; refine wpList_appE 32 39 (.int .u64 0) 1 8 Try.underlying32 infoU64 rfl (by decide) (by decide) _ rfl _ _ rfl w.heap.size (.slice va xs.length vc) xs.length (u64s xs) rfl (HO.out.alloc _) (some ⟨wr.heap.size, 0, none⟩) 1 1 [.int .u64 (p : Int)] rfl (Rd.lit wr #[.int .u64 (p : Int)] 39 (by show 1 ≤ maxLen; decide)) (fun u hu => by simp at hu; subst hu; rfl) (by omega) (by rw [size_alloc]; exact Nat.le_succ_of_le hsz) ?_; intro a2 c2r W2 hown2 hgrow2 hat2)
          have HO2 := Lib.hid (show W2.ownsRow w.heap.size 39 1 (.slice a2 (xs.length + 1) c2r) (xs.length + 1) (u64s (xs ++ [p])) by rw [u64s_snoc]; exact hown2)
          have HB2 := Lib.hid (grownB (bTrans HB.out (bAlloc (Below.refl _ _) (.cells #[.int .u64 (p : Int)] 39))) hgrow2 (fun r e => (HO.out.lt r e).1))
          clear hown2 hgrow2 hat2
          obtain ⟨b2, o2, e2, _, c2⟩ := (HL.out.below HB2.out).at_ hlt
          cases e2
          rw [HG.out] at c2
          have hs2 := HB2.out.size
          clear c1
          go_wp2_with (at_builtin; refine wpList_appE 32 39 (.int .u64 0) 1 8 Try.underlying32 infoU64 rfl (by decide) (by decide) _ rfl _ _ rfl w.heap.size (.slice a2 (xs.length + 1) c2r) (xs.length + 1) (u64s (xs ++ [p])) rfl (HO2.out.alloc _) (some ⟨W2.heap.size, 0, none⟩) 1 1 [.int .u64 (x : Int)] rfl (Rd.lit W2 #[.int .u64 (x : Int)] 39 (by show 1 ≤ maxLen; decide)) (fun u hu => by simp at hu; subst hu; rfl) (by omega) (by rw [size_alloc]; exact Nat.le_succ_of_le hs2) ?_; intro a4 c4 W4 hown4 hgrow4 hat4)
          have HO4 := Lib.hid (show W4.ownsRow w.heap.size 39 1 (.slice a4 (xs.length + 1 + 1) c4) (xs.length + 1 + 1) (u64s (xs ++ [p] ++ [x])) by rw [u64s_snoc]; exact hown4)
          have HB4 := Lib.hid (grownB (bTrans HB2.out (bAlloc (Below.refl _ _) (.cells #[.int .u64 (x : Int)] 39))) hgrow4 (fun r e => (HO2.out.lt r e).1))
          clear hown4 hgrow4 hat4
          go_wp2_with fail
          go_roundw
          case rel => exact ⟨k + 1, true, xs ++ [p] ++ [x], _, rfl, rfl, by go_num, by omega, by have h9 := HLK.out.resolve_right (by decide); rw [HLEN3.out]; omega, HX1, by rw [HLEN3.out]; exact HO4, HB4⟩
          case measure => simp [intOf]; omega
        · have hpi : ¬ (p : Int) < (x : Int) := by omega
          have HX1 := Lib.hid (H3.out HX.out hp)
          go_wp2_with (at_builtin; refine wpList_appE 32 39 (.int .u64 0) 1 8 Try.underlying32 infoU64 rfl (by decide) (by decide) _ rfl _ _ rfl w.heap.size (.slice va xs.length vc) xs.length (u64s xs) rfl (HO.out.alloc _) (some ⟨wr.heap.size, 0, none⟩) 1 1 [.int .u64 (x : Int)] rfl (Rd.lit wr #[.int .u64 (x : Int)] 39 (by show 1 ≤ maxLen; decide)) (fun u hu => by simp at hu; subst hu; rfl) (by omega) (by rw [size_alloc]; exact Nat.le_succ_of_le hsz) ?_; intro a1 c1 W1 hown1 hgrow1 hat1)
          have HO1 := Lib.hid (show W1.ownsRow w.heap.size 39 1 (.slice a1 (xs.length + 1) c1) (xs.length + 1) (u64s (xs ++ [x])) by rw [u64s_snoc]; exact hown1)
          have HB1 := Lib.hid (grownB (bTrans HB.out (bAlloc (Below.refl _ _) (.cells #[.int .u64 (x : Int)] 39))) hgrow1 (fun r e => (HO.out.lt r e).1))
          clear hown1 hgrow1 hat1
          go_wp2_with fail
          go_roundw
          case rel => exact ⟨k + 1, false, xs ++ [x], _, rfl, rfl, by go_num, by omega, by rw [HLEN.out]; omega, HX1, by rw [HLEN.out]; exact HO1, HB1⟩
          case measure => simp [intOf]; omega
    · obtain rfl : k = n := by omega
      have hpe := HX.out
      rw [← HN.out] at hpe
      have hend := putInv_end hpe
      clear hpe
      cases dn with
      | true =>
        have hend : xs = ins p l := hend
        rw [hend] at HO
        have HE := Lib.hid hend
        have hle : xs.length = (ins p l).length := by rw [hend]
        rw [hle]
        clear hend hle
        go_wp2_with fail
        go_ret
        exact ⟨⟨_, _, rfl, HO.out⟩, HB.out⟩
      | false =>
        have hend : xs ++ [p] = ins p l := hend
        have HE := Lib.hid hend
        clear hend
        go_wp2_with (at_builtin; refine wpList_appE 32 39 (.int .u64 0) 1 8 Try.underlying32 infoU64 rfl (by decide) (by decide) _ rfl _ _ rfl w.heap.size (.slice va xs.length vc) xs.length (u64s xs) rfl (HO.out.alloc _) (some ⟨wr.heap.size, 0, none⟩) 1 1 [.int .u64 (p : Int)] rfl (Rd.lit wr #[.int .u64 (p : Int)] 39 (by show 1 ≤ maxLen; decide)) (fun u hu => by simp at hu; subst hu; rfl) (by omega) (by rw [size_alloc]; exact Nat.le_succ_of_le hsz) ?_; intro a3 c3 W3 hown3 hgrow3 hat3)
        have HO3 := Lib.hid (show W3.ownsRow w.heap.size 39 1 (.slice a3 (xs.length + 1) c3) (xs.length + 1) (u64s (xs ++ [p])) by rw [u64s_snoc]; exact hown3)
        have HB3 := Lib.hid (grownB (bTrans HB.out (bAlloc (Below.refl _ _) (.cells #[.int .u64 (p : Int)] 39))) hgrow3 (fun r e => (HO.out.lt r e).1))
        clear hown3 hgrow3 hat3
        go_wp2_with fail
        go_ret
        have hle : (ins p l).length = xs.length + 1 := by rw [← HE.out]; simp
        rw [hle, ← HE.out]
        exact ⟨⟨_, _, rfl, HO3.out⟩, HB3.out⟩
end Go.Proofs.Ytgfkjlknkbdjiaa
