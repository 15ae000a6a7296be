/- Ta4 -/
import Derived.Test.YtegoddghfjfibaaGreatDoorZ05
namespace Go.Proofs.YtegoddghfjfibaaGreatDoor
set_option linter.unusedVariables false
set_option linter.unusedSimpArgs false
open Go.Joins Go.ChangeShapes Go.WideShapes Go.ChangeAt Go.RowKit Go.Deep

def u64s (l : List Nat) : List Value := l.map fun (x : Nat) => Value.int .u64 (x : Int)
theorem u64s_length (l : List Nat) : (u64s l).length = l.length := by simp [u64s]
theorem u64s_get (l : List Nat) (k : Nat) (h : k < l.length) : (u64s l)[k]? = some (.int .u64 ((l[k] : Nat) : Int)) := by simp [u64s, h]
theorem u64s_snoc (l : List Nat) (x : Nat) : u64s (l ++ [x]) = u64s l ++ [.int .u64 (x : Int)] := by simp [u64s]
theorem infoU64 : (Tryz.prog.info? 22).map (fun i => (i.zero, i.size, i.bytes)) = some (some (.int .u64 0), 1, 8) := by kernel_rfl
theorem rhas_any (a : Option Addr) (n c : Nat) (l : List Nat) (p : Nat) (w : World) (hl : Rd w a n (u64s l)) (hn : n < 9223372036854775808) :
    Calls Tryz.prog 70 #[.slice a n c, .int .u64 (p : Int)] w fun e w' => e = .returned (.bool (decide (p ∈ l))) ∧ w = w' := by
  have hln : l.length = n := by rw [← u64s_length]; exact hl.1
  obtain ⟨r, hr⟩ : ∃ r, decide (p ∈ l) = r := ⟨_, rfl⟩
  rw [hr]
  have HR := Lib.hid hr
  have HL := Lib.hid hl
  have HN := Lib.hid hln
  clear hr hl hln
  go_enter Tryz.func70, Tryz.ntmps70
  go_wp2_with fail
  go_loop [5] (fun i => ∃ k : Nat, i = .int .i64 k ∧ k ≤ n ∧ Hid (p ∉ l.take k)) (fun i => n - (intOf i).toNat)
  case atStart => exact ⟨0, rfl, by omega, Lib.hid (by simp)⟩
  case round =>
    obtain ⟨k, rfl, hk, HT⟩ := hrel
    by_cases hlt : k < n
    · have hkl : k < l.length := by rw [HN.out]; exact hlt
      obtain ⟨b1, o1, rfl, _, c1⟩ := HL.out.at_ hlt
      rw [u64s_get l k hkl] at c1
      have htk : l.take (k + 1) = l.take k ++ [l[k]] := List.take_succ_eq_append_getElem hkl
      have hmem := List.getElem_mem hkl
      obtain ⟨x, hx⟩ : ∃ x, l[k] = x := ⟨_, rfl⟩
      rw [hx] at c1 htk hmem
      have kk0 : (0 : Int) ≤ (k : Int) := by omega
      have kk1 : (k : Int) < (n : Int) := by omega
      have HTK := Lib.hid htk
      have HMEM := Lib.hid hmem
      clear hx hkl htk hmem
      by_cases hxp : x = p
      · subst hxp
        have hrt : true = r := by rw [← HR.out]; exact (decide_eq_true HMEM.out).symm
        subst hrt
        go_wp2_with fail
        go_ret
        exact ⟨rfl, rfl⟩
      · have hne : ¬ (x : Int) = (p : Int) := by omega
        have hne2 : ((x : Int) == (p : Int)) = false := by simp; omega
        have HT2 : Hid (p ∉ l.take (k + 1)) := Lib.hid (by rw [HTK.out, List.mem_append, List.mem_singleton]; rintro (q | q); exact HT.out q; exact hxp q.symm)
        go_wp2_with fail
        go_round
        case rel => exact ⟨k + 1, by go_num, by omega, HT2⟩
        case measure => simp [intOf]; omega
    · obtain rfl : k = n := by omega
      have hrf : false = r := by
        rw [← HR.out]
        have := HT.out
        rw [List.take_of_length_le (by rw [HN.out]; exact Nat.le_refl _)] at this
        exact (decide_eq_false this).symm
      subst hrf
      go_wp2_with fail
      go_ret
      exact ⟨rfl, rfl⟩
set_option maxRecDepth 20000 in
theorem wrong_any (f n : Int) (w : World) (hf0 : 0 ≤ f) (hf1 : f < 18446744073709551616) (hn0 : -9223372036854775808 ≤ n) (hn1 : n < 9223372036854775808) :
    Calls Tryz.prog 69 #[.int .u64 f, .int .i64 n] w fun e w' => e = .returned (.bool (badP f n)) ∧ w = w' := by
  by_cases h1 : n < 1
  · have hb : badP f n = true := by unfold badP; rw [decide_eq_true h1]; rfl
    rw [hb]
    clear hb
    go_enter Tryz.func69, Tryz.ntmps69
    go_wp2_with fail
    go_ret
    exact ⟨rfl, rfl⟩
  · by_cases h2 : 65536 < n
    · have hb : badP f n = true := by unfold badP; rw [decide_eq_true h2]; simp
      rw [hb]
      clear hb
      go_enter Tryz.func69, Tryz.ntmps69
      go_wp2_with fail
      go_ret
      exact ⟨rfl, rfl⟩
    · by_cases h3 : 65536 ≤ f
      · have hb : badP f n = true := by unfold badP; rw [decide_eq_true h3]; simp
        rw [hb]
        have h3' : 65535 < f := by omega
        clear hb
        go_enter Tryz.func69, Tryz.ntmps69
        go_wp2_with fail
        go_ret
        exact ⟨rfl, rfl⟩
      · have h3' : ¬ 65535 < f := by omega
        have hb : badP f n = decide (65536 < f + n) := by
          unfold badP
          rw [decide_eq_false h1, decide_eq_false h2, decide_eq_false h3]
          simp
        rw [hb]
        have w1 : IntKind.u64.wrap n = n := by rw [IntKind.wrap_u64]; omega
        have w2 : IntKind.u64.wrap (f + n) = f + n := by rw [IntKind.wrap_u64]; omega
        clear hb
        go_enter Tryz.func69, Tryz.ntmps69
        go_wp2_with fail
        go_ret
        exact ⟨rfl, rfl⟩
theorem take_filter (l : List Nat) (p k : Nat) (h : k < l.length) : (l.take (k + 1)).filter (· != p) = (l.take k).filter (· != p) ++ (if l[k] = p then [] else [l[k]]) := by
  rw [List.take_succ_eq_append_getElem h, List.filter_append]
  congr 1
  by_cases e : l[k] = p
  · rw [if_pos e]; simp [e]
  · rw [if_neg e]; simp [e]
set_option maxRecDepth 20000 in
theorem take_any (a : Option Addr) (n c : Nat) (l : List Nat) (p : Nat) (w : World) (hl : Rd w a n (u64s l)) (hn : n ≤ 100000) :
    Calls Tryz.prog 171 #[.slice a n c, .int .u64 (p : Int)] w fun e w' => (∃ ra rc, e = .returned (.slice ra (l.filter (· != p)).length rc) ∧ w'.ownsRow w.heap.size 22 1 (.slice ra (l.filter (· != p)).length rc) (l.filter (· != p)).length (u64s (l.filter (· != p)))) ∧ Below w.heap.size w w' := by
  have hln : l.length = n := by rw [← u64s_length]; exact hl.1
  obtain ⟨L, hL⟩ : ∃ L, l.filter (· != p) = L := ⟨_, rfl⟩
  rw [hL]
  have HLL := Lib.hid hL
  have HL := Lib.hid hl
  have HN := Lib.hid hln
  clear hL hl hln
  go_enter Tryz.func171, Tryz.ntmps171
  go_wp2_with fail
  go_loopw [5, 6] (fun ov i wr => ∃ (k : Nat) (xs : List Nat) (v : Value), ov = v ∧ i = .int .i64 k ∧ k ≤ n ∧ xs.length ≤ k ∧ Hid (xs = (l.take k).filter (· != p)) ∧ Hid (wr.ownsRow w.heap.size 22 1 v xs.length (u64s xs)) ∧ Hid (Below w.heap.size w wr)) (fun _ i _ => n - (intOf i).toNat)
  case atStart => exact ⟨0, [], _, rfl, rfl, by omega, by simp, Lib.hid (by simp), Lib.hid (World.ownsRow_nil _ _ _ _), Lib.hid (Below.refl _ _)⟩
  case round =>
    obtain ⟨k, xs, v, rfl, rfl, hk, hxk, HX, HO, HB⟩ := hrel
    have hsz := HB.out.size
    by_cases hlt : k < n
    · have hkl : k < l.length := by rw [HN.out]; exact hlt
      obtain ⟨b1, o1, rfl, _, c1⟩ := (HL.out.below HB.out).at_ hlt
      rw [u64s_get l k hkl] at c1
      have htk := take_filter l p k hkl
      obtain ⟨x, hx⟩ : ∃ x, l[k] = x := ⟨_, rfl⟩
      rw [hx] at c1 htk
      have kk0 : (0 : Int) ≤ (k : Int) := by omega
      have kk1 : (k : Int) < (n : Int) := by omega
      have HTK := Lib.hid htk
      obtain ⟨va, vc, rfl, -⟩ := own_slice HO.out
      clear hx hkl htk
      by_cases hxp : x = p
      · have hxi : ((x : Int) != (p : Int)) = false := by simp [hxp]
        have hxi2 : (x : Int) = (p : Int) := by omega
        have HX2 : Hid (xs = (l.take (k + 1)).filter (· != p)) := Lib.hid (by rw [HTK.out, if_pos hxp, List.append_nil]; exact HX.out)
        clear hxp
        go_wp2_with fail
        go_roundw
        case rel => exact ⟨k + 1, xs, _, rfl, by go_num, by omega, by omega, HX2, HO, HB⟩
        case measure => simp [intOf]; omega
      · have hxi : ((x : Int) != (p : Int)) = true := by simp; omega
        have hxi2 : ¬ (x : Int) = (p : Int) := by omega
        have HX2 : Hid (xs ++ [x] = (l.take (k + 1)).filter (· != p)) := Lib.hid (by rw [HTK.out, if_neg hxp, HX.out])
        have hlen : (xs ++ [x]).length = xs.length + 1 := by simp
        have HLEN := Lib.hid hlen
        clear hxp hlen
        go_wp2_with (at_builtin; refine wpList_appE 52 22 (.int .u64 0) 1 8 Tryz.underlying52 infoU64 rfl (by decide) (by decide) _ rfl _ _ rfl w.heap.size (.slice va xs.length vc) xs.length (u64s xs) rfl (HO.out.alloc _) (some ⟨wr.heap.size, 0, none⟩) 1 1 [.int .u64 (x : Int)] rfl (Rd.lit wr #[.int .u64 (x : Int)] 22 (by show 1 ≤ maxLen; decide)) (fun u hu => by simp at hu; subst hu; rfl) (by omega) (by rw [size_alloc]; exact Nat.le_succ_of_le hsz) ?_; intro a1 c1 W1 hown1 hgrow1 hat1)
        have HO1 := Lib.hid (show W1.ownsRow w.heap.size 22 1 (.slice a1 (xs.length + 1) c1) (xs.length + 1) (u64s (xs ++ [x])) by rw [u64s_snoc]; exact hown1)
        have HB1 := Lib.hid (grownB (bTrans HB.out (bAlloc (Below.refl _ _) (.cells #[.int .u64 (x : Int)] 22))) hgrow1 (fun r e => (HO.out.lt r e).1))
        clear hown1 hgrow1 hat1
        go_wp2_with fail
        go_roundw
        case rel => exact ⟨k + 1, xs ++ [x], _, rfl, by go_num, by omega, by rw [HLEN.out]; omega, HX2, by rw [HLEN.out]; exact HO1, HB1⟩
        case measure => simp [intOf]; omega
    · obtain rfl : k = n := by omega
      have hxl : xs = L := by
        rw [HX.out, List.take_of_length_le (by rw [HN.out]; exact Nat.le_refl _)]
        exact HLL.out
      subst hxl
      obtain ⟨va, vc, rfl, -⟩ := own_slice HO.out
      go_wp2_with fail
      go_ret
      exact ⟨⟨_, _, rfl, HO.out⟩, HB.out⟩
end Go.Proofs.YtegoddghfjfibaaGreatDoor

namespace Go.Proofs.YtegoddghfjfibaaGreatDoor
set_option linter.unusedVariables false
set_option linter.unusedSimpArgs false
open Go.Joins Go.ChangeShapes Go.WideShapes Go.ChangeAt Go.RowKit Go.Deep

/-- how far a number is put among others -/
def PutInv (p : Nat) (l : List Nat) (k : Nat) (xs : List Nat) (dn : Bool) : Prop := (dn = true → xs ++ l.drop k = ins p l ∧ xs.length = k + 1) ∧ (dn = false → xs = l.take k ∧ l.take k ++ ins p (l.drop k) = ins p l)
theorem putInv_start (p : Nat) (l : List Nat) : PutInv p l 0 [] false := ⟨fun h => (by cases h), fun _ => ⟨by simp, by simp⟩⟩
theorem putInv_step {p : Nat} {l : List Nat} {k : Nat} {xs : List Nat} (h : PutInv p l k xs true) (hk : k < l.length) : PutInv p l (k + 1) (xs ++ [l[k]]) true := by
  obtain ⟨h1, h2⟩ := h.1 rfl
  refine ⟨fun _ => ⟨?_, by rw [List.length_append, h2]; rfl⟩, fun e => (by cases e)⟩
  rw [← h1, List.drop_eq_getElem_cons hk]
  simp
theorem putInv_here {p : Nat} {l : List Nat} {k : Nat} {xs : List Nat} (h : PutInv p l k xs false) (hk : k < l.length) (hp : p < l[k]) : PutInv p l (k + 1) (xs ++ [p] ++ [l[k]]) true := by
  obtain ⟨h1, h2⟩ := h.2 rfl
  refine ⟨fun _ => ⟨?_, by rw [List.length_append, List.length_append, h1, List.length_take]; simp; omega⟩, fun e => (by cases e)⟩
  rw [← h2, List.drop_eq_getElem_cons hk]
  unfold ins
  rw [if_pos hp, h1]
  simp
theorem putInv_past {p : Nat} {l : List Nat} {k : Nat} {xs : List Nat} (h : PutInv p l k xs false) (hk : k < l.length) (hp : ¬ p < l[k]) : PutInv p l (k + 1) (xs ++ [l[k]]) false := by
  obtain ⟨h1, h2⟩ := h.2 rfl
  refine ⟨fun e => (by cases e), fun _ => ⟨?_, ?_⟩⟩
  · rw [h1, List.take_succ_eq_append_getElem hk]
  · rw [← h2, List.drop_eq_getElem_cons hk, List.take_succ_eq_append_getElem hk]
    rw [show ins p (l[k] :: l.drop (k + 1)) = l[k] :: ins p (l.drop (k + 1)) from if_neg hp, List.append_assoc]
    rfl
theorem putInv_end {p : Nat} {l xs : List Nat} {dn : Bool} (h : PutInv p l l.length xs dn) : (if dn then xs else xs ++ [p]) = ins p l := by
  cases dn with
  | true =>
    obtain ⟨h1, -⟩ := h.1 rfl
    rw [List.drop_length, List.append_nil] at h1
    exact h1
  | false =>
    obtain ⟨h1, h2⟩ := h.2 rfl
    rw [List.drop_length, List.take_length] at h2
    rw [List.take_length] at h1
    rw [← h2, h1]
    rfl
set_option maxRecDepth 20000 in
set_option maxHeartbeats 1000000 in
theorem rput_any (a : Option Addr) (n c : Nat) (l : List Nat) (p : Nat) (w : World) (hl : Rd w a n (u64s l)) (hn : n ≤ 100000) :
    Calls Tryz.prog 71 #[.slice a n c, .int .u64 (p : Int)] w fun e w' => (∃ ra rc, e = .returned (.slice ra (ins p l).length rc) ∧ w'.ownsRow w.heap.size 22 1 (.slice ra (ins p l).length rc) (ins p l).length (u64s (ins p l))) ∧ Below w.heap.size w w' := by
  have hln : l.length = n := by rw [← u64s_length]; exact hl.1
  have HL := Lib.hid hl
  have HN := Lib.hid hln
  clear hl hln
  go_enter Tryz.func71, Tryz.ntmps71
  go_wp2_with fail
  go_loopw [5, 6, 7] (fun ov dv i wr => ∃ (k : Nat) (dn : Bool) (xs : List Nat) (v : Value), ov = v ∧ dv = .bool dn ∧ i = .int .i64 k ∧ k ≤ n ∧ xs.length ≤ k + 1 ∧ Hid (PutInv p l k xs dn) ∧ Hid (wr.ownsRow w.heap.size 22 1 v xs.length (u64s xs)) ∧ Hid (Below w.heap.size w wr)) (fun _ _ i _ => n - (intOf i).toNat)
  case atStart => exact ⟨0, false, [], _, rfl, rfl, rfl, by omega, by simp, Lib.hid (putInv_start p l), Lib.hid (World.ownsRow_nil _ _ _ _), Lib.hid (Below.refl _ _)⟩
  case round =>
    obtain ⟨k, dn, xs, v, rfl, rfl, rfl, hk, hxk, HX, HO, HB⟩ := hrel
    have hsz := HB.out.size
    obtain ⟨va, vc, rfl, -⟩ := own_slice HO.out
    by_cases hlt : k < n
    · have hkl : k < l.length := by rw [HN.out]; exact hlt
      obtain ⟨b1, o1, rfl, _, c1⟩ := (HL.out.below HB.out).at_ hlt
      rw [u64s_get l k hkl] at c1
      have H1 := Lib.hid (fun (h : PutInv p l k xs true) => putInv_step h hkl)
      have H2 := Lib.hid (fun (h : PutInv p l k xs false) (hp : p < l[k]) => putInv_here h hkl hp)
      have H3 := Lib.hid (fun (h : PutInv p l k xs false) (hp : ¬ p < l[k]) => putInv_past h hkl hp)
      have HLK : Hid (xs.length = k ∨ dn = true) := Lib.hid (by
        cases dn with
        | true => exact Or.inr rfl
        | false => exact Or.inl (by rw [(HX.out.2 rfl).1, List.length_take]; omega))
      obtain ⟨x, hx⟩ : ∃ x, l[k] = x := ⟨_, rfl⟩
      rw [hx] at c1 H1 H2 H3
      have kk0 : (0 : Int) ≤ (k : Int) := by omega
      have kk1 : (k : Int) < (n : Int) := by omega
      have hlen : (xs ++ [x]).length = xs.length + 1 := by simp
      have HLEN := Lib.hid hlen
      have HG : Hid ((u64s l)[k]? = some (.int .u64 (x : Int))) := Lib.hid (by rw [u64s_get l k hkl, hx])
      clear hx hkl hlen
      cases dn with
      | true =>
        have hx1 : (PutInv p l (k + 1) (xs ++ [x]) true) := H1.out HX.out
        have HX1 := Lib.hid hx1
        clear hx1
        go_wp2_with (at_builtin; refine wpList_appE 52 22 (.int .u64 0) 1 8 Tryz.underlying52 infoU64 rfl (by decide) (by decide) _ rfl _ _ rfl w.heap.size (.slice va xs.length vc) xs.length (u64s xs) rfl (HO.out.alloc _) (some ⟨wr.heap.size, 0, none⟩) 1 1 [.int .u64 (x : Int)] rfl (Rd.lit wr #[.int .u64 (x : Int)] 22 (by show 1 ≤ maxLen; decide)) (fun u hu => by simp at hu; subst hu; rfl) (by omega) (by rw [size_alloc]; exact Nat.le_succ_of_le hsz) ?_; intro a1 c1 W1 hown1 hgrow1 hat1)
        have HO1 := Lib.hid (show W1.ownsRow w.heap.size 22 1 (.slice a1 (xs.length + 1) c1) (xs.length + 1) (u64s (xs ++ [x])) by rw [u64s_snoc]; exact hown1)
        have HB1 := Lib.hid (grownB (bTrans HB.out (bAlloc (Below.refl _ _) (.cells #[.int .u64 (x : Int)] 22))) hgrow1 (fun r e => (HO.out.lt r e).1))
        clear hown1 hgrow1 hat1
        go_wp2_with fail
        go_roundw
        case rel => exact ⟨k + 1, true, xs ++ [x], _, rfl, rfl, by go_num, by omega, by rw [HLEN.out]; omega, HX1, by rw [HLEN.out]; exact HO1, HB1⟩
        case measure => simp [intOf]; omega
      | false =>
        by_cases hp : p < x
        · have hpi : (p : Int) < (x : Int) := by omega
          have HX1 := Lib.hid (H2.out HX.out hp)
          have hlen2 : (xs ++ [p]).length = xs.length + 1 := by simp
          have hlen3 : (xs ++ [p] ++ [x]).length = xs.length + 1 + 1 := by simp
          have HLEN2 := Lib.hid hlen2
          have HLEN3 := Lib.hid hlen3
          clear hlen2 hlen3
          go_upto_region 8 with (at_builtin; refine wpList_appE 52 22 (.int .u64 0) 1 8 Tryz.underlying52 infoU64 rfl (by decide) (by decide) _ rfl _ _ rfl w.heap.size (.slice va xs.length vc) xs.length (u64s xs) rfl (HO.out.alloc _) (some ⟨wr.heap.size, 0, none⟩) 1 1 [.int .u64 (p : Int)] rfl (Rd.lit wr #[.int .u64 (p : Int)] 22 (by show 1 ≤ maxLen; decide)) (fun u hu => by simp at hu; subst hu; rfl) (by omega) (by rw [size_alloc]; exact Nat.le_succ_of_le hsz) ?_; intro a2 c2r W2 hown2 hgrow2 hat2)
          have HO2 := Lib.hid (show W2.ownsRow w.heap.size 22 1 (.slice a2 (xs.length + 1) c2r) (xs.length + 1) (u64s (xs ++ [p])) by rw [u64s_snoc]; exact hown2)
          have HB2 := Lib.hid (grownB (bTrans HB.out (bAlloc (Below.refl _ _) (.cells #[.int .u64 (p : Int)] 22))) hgrow2 (fun r e => (HO.out.lt r e).1))
          clear hown2 hgrow2 hat2
          obtain ⟨b2, o2, e2, _, c2⟩ := (HL.out.below HB2.out).at_ hlt
          cases e2
          rw [HG.out] at c2
          have hs2 := HB2.out.size
          clear c1
          go_wp2_with (at_builtin; refine wpList_appE 52 22 (.int .u64 0) 1 8 Tryz.underlying52 infoU64 rfl (by decide) (by decide) _ rfl _ _ rfl w.heap.size (.slice a2 (xs.length + 1) c2r) (xs.length + 1) (u64s (xs ++ [p])) rfl (HO2.out.alloc _) (some ⟨W2.heap.size, 0, none⟩) 1 1 [.int .u64 (x : Int)] rfl (Rd.lit W2 #[.int .u64 (x : Int)] 22 (by show 1 ≤ maxLen; decide)) (fun u hu => by simp at hu; subst hu; rfl) (by omega) (by rw [size_alloc]; exact Nat.le_succ_of_le hs2) ?_; intro a4 c4 W4 hown4 hgrow4 hat4)
          have HO4 := Lib.hid (show W4.ownsRow w.heap.size 22 1 (.slice a4 (xs.length + 1 + 1) c4) (xs.length + 1 + 1) (u64s (xs ++ [p] ++ [x])) by rw [u64s_snoc]; exact hown4)
          have HB4 := Lib.hid (grownB (bTrans HB2.out (bAlloc (Below.refl _ _) (.cells #[.int .u64 (x : Int)] 22))) hgrow4 (fun r e => (HO2.out.lt r e).1))
          clear hown4 hgrow4 hat4
          go_wp2_with fail
          go_roundw
          case rel => exact ⟨k + 1, true, xs ++ [p] ++ [x], _, rfl, rfl, by go_num, by omega, by have h9 := HLK.out.resolve_right (by decide); rw [HLEN3.out]; omega, HX1, by rw [HLEN3.out]; exact HO4, HB4⟩
          case measure => simp [intOf]; omega
        · have hpi : ¬ (p : Int) < (x : Int) := by omega
          have HX1 := Lib.hid (H3.out HX.out hp)
          go_wp2_with (at_builtin; refine wpList_appE 52 22 (.int .u64 0) 1 8 Tryz.underlying52 infoU64 rfl (by decide) (by decide) _ rfl _ _ rfl w.heap.size (.slice va xs.length vc) xs.length (u64s xs) rfl (HO.out.alloc _) (some ⟨wr.heap.size, 0, none⟩) 1 1 [.int .u64 (x : Int)] rfl (Rd.lit wr #[.int .u64 (x : Int)] 22 (by show 1 ≤ maxLen; decide)) (fun u hu => by simp at hu; subst hu; rfl) (by omega) (by rw [size_alloc]; exact Nat.le_succ_of_le hsz) ?_; intro a1 c1 W1 hown1 hgrow1 hat1)
          have HO1 := Lib.hid (show W1.ownsRow w.heap.size 22 1 (.slice a1 (xs.length + 1) c1) (xs.length + 1) (u64s (xs ++ [x])) by rw [u64s_snoc]; exact hown1)
          have HB1 := Lib.hid (grownB (bTrans HB.out (bAlloc (Below.refl _ _) (.cells #[.int .u64 (x : Int)] 22))) hgrow1 (fun r e => (HO.out.lt r e).1))
          clear hown1 hgrow1 hat1
          go_wp2_with fail
          go_roundw
          case rel => exact ⟨k + 1, false, xs ++ [x], _, rfl, rfl, by go_num, by omega, by rw [HLEN.out]; omega, HX1, by rw [HLEN.out]; exact HO1, HB1⟩
          case measure => simp [intOf]; omega
    · obtain rfl : k = n := by omega
      have hpe := HX.out
      rw [← HN.out] at hpe
      have hend := putInv_end hpe
      clear hpe
      cases dn with
      | true =>
        have hend : xs = ins p l := hend
        rw [hend] at HO
        have HE := Lib.hid hend
        have hle : xs.length = (ins p l).length := by rw [hend]
        rw [hle]
        clear hend hle
        go_wp2_with fail
        go_ret
        exact ⟨⟨_, _, rfl, HO.out⟩, HB.out⟩
      | false =>
        have hend : xs ++ [p] = ins p l := hend
        have HE := Lib.hid hend
        clear hend
        go_wp2_with (at_builtin; refine wpList_appE 52 22 (.int .u64 0) 1 8 Tryz.underlying52 infoU64 rfl (by decide) (by decide) _ rfl _ _ rfl w.heap.size (.slice va xs.length vc) xs.length (u64s xs) rfl (HO.out.alloc _) (some ⟨wr.heap.size, 0, none⟩) 1 1 [.int .u64 (p : Int)] rfl (Rd.lit wr #[.int .u64 (p : Int)] 22 (by show 1 ≤ maxLen; decide)) (fun u hu => by simp at hu; subst hu; rfl) (by omega) (by rw [size_alloc]; exact Nat.le_succ_of_le hsz) ?_; intro a3 c3 W3 hown3 hgrow3 hat3)
        have HO3 := Lib.hid (show W3.ownsRow w.heap.size 22 1 (.slice a3 (xs.length + 1) c3) (xs.length + 1) (u64s (xs ++ [p])) by rw [u64s_snoc]; exact hown3)
        have HB3 := Lib.hid (grownB (bTrans HB.out (bAlloc (Below.refl _ _) (.cells #[.int .u64 (p : Int)] 22))) hgrow3 (fun r e => (HO.out.lt r e).1))
        clear hown3 hgrow3 hat3
        go_wp2_with fail
        go_ret
        have hle : (ins p l).length = xs.length + 1 := by rw [← HE.out]; simp
        rw [hle, ← HE.out]
        exact ⟨⟨_, _, rfl, HO3.out⟩, HB3.out⟩
end Go.Proofs.YtegoddghfjfibaaGreatDoor

namespace Go.Proofs.YtegoddghfjfibaaGreatDoor
set_option linter.unusedVariables false
set_option linter.unusedSimpArgs false
open Go.Joins Go.ChangeShapes Go.WideShapes Go.ChangeAt Go.RowKit Go.Deep

def cellC (p : Nat × Nat) : List Value := [.int .u64 (p.1 : Int), .int .u8 (p.2 : Int)]
def cellsC (l : List (Nat × Nat)) : List Value := l.flatMap cellC
theorem cellsC_get (l : List (Nat × Nat)) (i : Nat) (hi : i < l.length) : (cellsC l)[i * 2]? = some (.int .u64 (l[i].1 : Int)) ∧ (cellsC l)[i * 2 + 1]? = some (.int .u8 (l[i].2 : Int)) := by
  induction l generalizing i with
  | nil => simp at hi
  | cons x r ih =>
    show (cellC x ++ cellsC r)[i * 2]? = _ ∧ (cellC x ++ cellsC r)[i * 2 + 1]? = _
    cases i with
    | zero => exact ⟨rfl, rfl⟩
    | succ i =>
      have := ih i (by simpa using hi)
      rw [List.getElem?_append_right (by show 2 ≤ _; omega), List.getElem?_append_right (by show 2 ≤ _; omega)]
      rw [show (i + 1) * 2 - (cellC x).length = i * 2 by show _ - 2 = _; omega, show (i + 1) * 2 + 1 - (cellC x).length = i * 2 + 1 by show _ - 2 = _; omega]
      simpa using this
def lookF : List (Nat × Nat) → Nat → Nat
  | [], _ => 0
  | p :: r, a => if p.1 = a then p.2 else lookF r a
/-- a row that lies in these blocks, and not in R -/
def RdF (W : World) (F : Nat → Prop) (R : Nat) (a : Option Addr) (n : Nat) (xs : List Value) : Prop := Rd W a n xs ∧ (0 < n → ∃ b off, a = some ⟨b, off, none⟩ ∧ F b ∧ b ≠ R)
structure CellsOk (cs : List (Nat × Nat)) (m : Mm) : Prop where
  look : ∀ a, lookF cs a = m.by_ a
  in_ : ∀ p ∈ cs, p.1 / 256 ∈ m.pgs ∧ p.2 < 256
  nd : (cs.map Prod.fst).Nodup
structure RmO (W : World) (R : Nat) (F : Nat → Prop) (m : Mm) (na ca ka : Option Addr) (nc cc kc : Nat) (cs : List (Nat × Nat)) : Prop where
  ok : Okm m
  box : BoxN W R #[.slice na m.pgs.length nc, .slice ca cs.length cc, .slice ka m.mks.length kc, .int .i64 (m.bud : Int)]
  rn : RdF W F R na m.pgs.length (u64s m.pgs)
  rc : RdF W F R ca (cs.length * 2) (cellsC cs)
  rk : RdF W F R ka m.mks.length (u64s (m.mks.map (32 * ·)))
  co : CellsOk cs m
  fr : F R
  lt : ∀ b, F b → b < W.heap.size
def RmAt (W : World) (R : Nat) (F : Nat → Prop) (m : Mm) : Prop := ∃ na ca ka nc cc kc cs, RmO W R F m na ca ka nc cc kc cs
theorem RdF.blocks {W W' : World} {F : Nat → Prop} {R : Nat} {a : Option Addr} {n : Nat} {xs : List Value} (h : RdF W F R a n xs) (hb : ∀ b, F b → b ≠ R → W'.heap[b]? = W.heap[b]?) (hs : W.heap.size ≤ W'.heap.size) : RdF W' F R a n xs :=
  ⟨⟨h.1.1, fun hn => by
    obtain ⟨b, off, e, hl, hc⟩ := h.1.2 hn
    obtain ⟨b', off', e', hf, hne⟩ := h.2 hn
    rw [e] at e'; cases e'
    exact ⟨b, off, e, Nat.lt_of_lt_of_le hl hs, fun k hk => (World.cell?_of_block (hb b hf hne)).trans (hc k hk)⟩⟩, h.2⟩
theorem RdF.mono {W : World} {F F' : Nat → Prop} {R : Nat} {a : Option Addr} {n : Nat} {xs : List Value} (h : RdF W F R a n xs) (hf : ∀ b, F b → F' b) : RdF W F' R a n xs :=
  ⟨h.1, fun hn => by obtain ⟨b, off, e, h1, h2⟩ := h.2 hn; exact ⟨b, off, e, hf b h1, h2⟩⟩
theorem RmO.blocks {W W' : World} {R : Nat} {F : Nat → Prop} {m : Mm} {na ca ka : Option Addr} {nc cc kc : Nat} {cs : List (Nat × Nat)} (h : RmO W R F m na ca ka nc cc kc cs) (hb : ∀ b, F b → W'.heap[b]? = W.heap[b]?) (hs : W.heap.size ≤ W'.heap.size) : RmO W' R F m na ca ka nc cc kc cs :=
  ⟨h.ok, boxN_block h.box (hb _ h.fr), h.rn.blocks (fun b hf _ => hb b hf) hs, h.rc.blocks (fun b hf _ => hb b hf) hs, h.rk.blocks (fun b hf _ => hb b hf) hs, h.co, h.fr, fun b hf => Nat.lt_of_lt_of_le (h.lt b hf) hs⟩
theorem RmO.below {W W' : World} {R : Nat} {F : Nat → Prop} {m : Mm} {na ca ka : Option Addr} {nc cc kc : Nat} {cs : List (Nat × Nat)} (h : RmO W R F m na ca ka nc cc kc cs) (hb : Below W.heap.size W W') : RmO W' R F m na ca ka nc cc kc cs :=
  h.blocks (fun b hf => hb.block b (h.lt b hf)) hb.size
theorem RmAt.blocks {W W' : World} {R : Nat} {F : Nat → Prop} {m : Mm} (h : RmAt W R F m) (hb : ∀ b, F b → W'.heap[b]? = W.heap[b]?) (hs : W.heap.size ≤ W'.heap.size) : RmAt W' R F m := by
  obtain ⟨na, ca, ka, nc, cc, kc, cs, h⟩ := h
  exact ⟨na, ca, ka, nc, cc, kc, cs, h.blocks hb hs⟩
theorem RmAt.lt {W : World} {R : Nat} {F : Nat → Prop} {m : Mm} (h : RmAt W R F m) : ∀ b, F b → b < W.heap.size := by
  obtain ⟨na, ca, ka, nc, cc, kc, cs, h⟩ := h
  exact h.lt
theorem RmAt.below {W W' : World} {R : Nat} {F : Nat → Prop} {m : Mm} (h : RmAt W R F m) (hb : Below W.heap.size W W') : RmAt W' R F m := h.blocks (fun b hf => hb.block b (h.lt b hf)) hb.size
theorem RmAt.kp {W W' : World} {R : Nat} {F : Nat → Prop} {m : Mm} {S : Nat → Prop} {n : Nat} (h : RmAt W R F m) (hk : KP n S W W') (hn : W.heap.size ≤ n) (hd : ∀ b, F b → ¬ S b) : RmAt W' R F m :=
  h.blocks (fun b hf => hk.block b (Nat.lt_of_lt_of_le (h.lt b hf) hn) (hd b hf)) hk.size
theorem RmAt.ok {W : World} {R : Nat} {F : Nat → Prop} {m : Mm} (h : RmAt W R F m) : Okm m := by
  obtain ⟨na, ca, ka, nc, cc, kc, cs, h⟩ := h
  exact h.ok
theorem nodup_len {xs ys : List Nat} (h : xs.Nodup) (hs : ∀ x ∈ xs, x ∈ ys) : xs.length ≤ ys.length := by
  induction xs generalizing ys with
  | nil => simp
  | cons x r ih =>
    have hx := List.nodup_cons.1 h
    have hm := hs x List.mem_cons_self
    have h1 := ih (ys := ys.erase x) hx.2 (fun y hy => (List.mem_erase_of_ne (fun e => hx.1 (by rw [← e]; exact hy))).2 (hs y (List.mem_cons_of_mem _ hy)))
    rw [List.length_erase_of_mem hm] at h1
    have := List.length_pos_of_mem hm
    rw [List.length_cons]
    omega
theorem addr_len (l : List Nat) : (l.flatMap fun p => (List.range 256).map fun j => 256 * p + j).length = l.length * 256 := by
  induction l with
  | nil => rfl
  | cons x r ih => rw [List.flatMap_cons, List.length_append, ih, List.length_cons, List.length_map, List.length_range]; omega
theorem CellsOk.len {cs : List (Nat × Nat)} {m : Mm} (h : CellsOk cs m) (hk : Okm m) : cs.length ≤ 65536 := by
  have h1 := nodup_len (ys := m.pgs.flatMap fun p => (List.range 256).map fun j => 256 * p + j) h.nd (fun x hx => by
    obtain ⟨p, hp, rfl⟩ := List.mem_map.1 hx
    refine List.mem_flatMap.2 ⟨p.1 / 256, (h.in_ p hp).1, List.mem_map.2 ⟨p.1 % 256, List.mem_range.2 (by omega), by omega⟩⟩)
  rw [List.length_map, addr_len] at h1
  have := hk.len
  have := hk.bud
  omega
theorem rd_cell {W : World} {a : Option Addr} {cs : List (Nat × Nat)} (h : Rd W a (cs.length * 2) (cellsC cs)) {k : Nat} (hk : k < cs.length) : ∃ b off, a = some ⟨b, off, none⟩ ∧ W.cell? ⟨b, off + k * 2, none⟩ = some (.int .u64 (cs[k].1 : Int)) ∧ W.cell? ⟨b, off + k * 2 + 1, none⟩ = some (.int .u8 (cs[k].2 : Int)) := by
  obtain ⟨b, off, e, -, hc⟩ := h.2 (by omega)
  obtain ⟨g1, g2⟩ := cellsC_get cs k hk
  exact ⟨b, off, e, (hc (k * 2) (by omega)).trans g1, by rw [Nat.add_assoc]; exact (hc (k * 2 + 1) (by omega)).trans g2⟩
theorem rin_any (W : World) (R : Nat) (F : Nat → Prop) (m : Mm) (h : RmAt W R F m) (a : Nat) (ha : a < 18446744073709551616) :
    Calls Tryz.prog 119 #[.pointer (some ⟨R, 0, none⟩), .int .u64 (a : Int)] W fun e W' => e = .returned (.bool (isIn m a)) ∧ W = W' := by
  obtain ⟨na, ca, ka, nc, cc, kc, cs, h⟩ := h
  have c0 : W.cell? ⟨R, 0, none⟩ = some (.slice na m.pgs.length nc) := h.box.cell 0
  have hl := h.ok.len
  have hb := h.ok.bud
  have HH := Lib.hid (rhas_any na m.pgs.length nc m.pgs (a / 256) W h.rn.1 (by omega))
  rw [show ((a / 256 : Nat) : Int) = (a : Int) / 256 by omega] at HH
  have hi : isIn m a = decide (a / 256 ∈ m.pgs) := by unfold isIn; rw [show ((a : Int) / 256).toNat = a / 256 by omega]
  rw [hi]
  clear h hi hl hb
  go_enter Tryz.func119, Tryz.ntmps119
  go_wp2_with fail
  refine HH.out.mono ?_; rintro e W1 ⟨rfl, rfl⟩
  go_wp2_with fail
  go_ret
  exact ⟨rfl, rfl⟩
end Go.Proofs.YtegoddghfjfibaaGreatDoor

namespace Go.Proofs.YtegoddghfjfibaaGreatDoor
set_option linter.unusedVariables false
set_option linter.unusedSimpArgs false
open Go.Joins Go.ChangeShapes Go.WideShapes Go.ChangeAt Go.RowKit Go.Deep

theorem infoCell : (Tryz.prog.info? 189).map (fun i => (i.zero, i.size, i.bytes)) = some (some (.agg #[.int .u64 0, .int .u8 0]), 2, 16) := by kernel_rfl
theorem cellsC_snoc (l : List (Nat × Nat)) (x y : Nat) : cellsC (l ++ [(x, y)]) = cellsC l ++ [.int .u64 (x : Int), .int .u8 (y : Int)] := by unfold cellsC; rw [List.flatMap_append]; rfl
theorem mks_filter (l : List Nat) (g : Nat) : (l.map (32 * ·)).filter (· != 32 * g) = (l.filter (· != g)).map (32 * ·) := by
  induction l with
  | nil => rfl
  | cons x r ih =>
    rw [List.map_cons]
    by_cases e : x = g
    · subst e
      rw [List.filter_cons_of_neg (by simp), List.filter_cons_of_neg (by simp), ih]
    · rw [List.filter_cons_of_pos (by simp; omega), List.filter_cons_of_pos (by simpa using e), List.map_cons, ih]
/-- the cells behind a byte's setting -/
def setC (cs : List (Nat × Nat)) (a b : Nat) : List (Nat × Nat) := if b = 0 then cs.filter (fun p => p.1 != a) else cs.filter (fun p => p.1 != a) ++ [(a, b)]
theorem look_filter (cs : List (Nat × Nat)) (a x : Nat) : lookF (cs.filter (fun p => p.1 != a)) x = if x = a then 0 else lookF cs x := by
  induction cs with
  | nil => simp [lookF]
  | cons p r ih =>
    by_cases e : p.1 = a
    · rw [List.filter_cons_of_neg (by simpa using e), ih]
      by_cases hx : x = a
      · rw [if_pos hx, if_pos hx]
      · rw [if_neg hx, if_neg hx]
        conv => rhs; unfold lookF
        rw [if_neg (by omega)]
    · rw [List.filter_cons_of_pos (by simpa using e)]
      conv => lhs; unfold lookF
      rw [ih]
      by_cases hx : x = a
      · rw [if_pos hx, if_neg (by omega), if_pos hx]
      · rw [if_neg hx, if_neg hx]
        conv => rhs; unfold lookF
theorem look_append (cs : List (Nat × Nat)) (a b x : Nat) (h : lookF cs x = 0 ∨ x ≠ a) (hn : x = a → ∀ p ∈ cs, p.1 ≠ a) : lookF (cs ++ [(a, b)]) x = if x = a then b else lookF cs x := by
  induction cs with
  | nil =>
    show (if a = x then b else 0) = if x = a then b else 0
    by_cases e : x = a
    · rw [if_pos e, if_pos e.symm]
    · rw [if_neg e, if_neg (fun q => e q.symm)]
  | cons p r ih =>
    rw [List.cons_append]
    conv => lhs; unfold lookF
    by_cases e : x = a
    · have h1 := hn e p List.mem_cons_self
      rw [if_neg (by rw [e]; exact h1), ih (h.imp (fun h => by unfold lookF at h; rwa [if_neg (by rw [e]; exact h1)] at h) id) (fun q y hy => hn q y (List.mem_cons_of_mem _ hy)), if_pos e, if_pos e]
    · rw [ih (Or.inr e) (fun q => absurd q e), if_neg e, if_neg e]
      conv => rhs; unfold lookF
theorem CellsOk.set {cs : List (Nat × Nat)} {m : Mm} (h : CellsOk cs m) {a b : Nat} (ha : a / 256 ∈ m.pgs) (hb : b < 256) : CellsOk (setC cs a b) (wr1 m a b) := by
  have hne : ∀ p ∈ cs.filter (fun p => p.1 != a), p ∈ cs ∧ p.1 ≠ a := fun p hp => by have := List.mem_filter.1 hp; exact ⟨this.1, by simpa using this.2⟩
  have hnd : ((cs.filter (fun p => p.1 != a)).map Prod.fst).Nodup := List.Nodup.sublist (List.Sublist.map _ List.filter_sublist) h.nd
  unfold setC
  by_cases h0 : b = 0
  · rw [if_pos h0]
    refine ⟨fun x => ?_, fun p hp => h.in_ p (hne p hp).1, hnd⟩
    rw [look_filter, h.look]
    show _ = if x = a then b else m.by_ x
    rw [h0]
  · rw [if_neg h0]
    refine ⟨fun x => ?_, fun p hp => ?_, ?_⟩
    · rw [look_append _ a b x (if e : x = a then Or.inl (by rw [look_filter, if_pos e]) else Or.inr e) (fun _ p hp => (hne p hp).2), look_filter, h.look]
      show _ = if x = a then b else m.by_ x
      by_cases e : x = a
      · rw [if_pos e, if_pos e]
      · rw [if_neg e, if_neg e, if_neg e]
    · rcases List.mem_append.1 hp with q | q
      · exact h.in_ p (hne p q).1
      · rw [List.mem_singleton] at q
        subst q
        exact ⟨ha, hb⟩
    · rw [List.map_append]
      refine List.nodup_append.2 ⟨hnd, by simp, fun x hx y hy e => ?_⟩
      obtain ⟨p, hp, rfl⟩ := List.mem_map.1 hx
      simp at hy
      exact (hne p hp).2 (e.trans hy)
theorem own_kp2 {W W' : World} {B k n : Nat} {e : TypeId} {S : Nat → Prop} {v : Value} {xs : List Value} (h : W.ownsRow B e k v n xs) (hk : KP W.heap.size S W W') (hS : ∀ q, B ≤ q → ¬ S q) : W'.ownsRow B e k v n xs := by
  refine ⟨h.1, ?_⟩
  rcases h.2 with h0 | ⟨g, cap, cur, e1, hg, hb, r⟩
  · exact Or.inl h0
  · refine Or.inr ⟨g, cap, cur, e1, hg, ?_, r⟩
    have hl : g < W.heap.size := (Array.getElem?_eq_some_iff.1 hb).1
    exact (hk.block g hl (hS g hg)).trans hb
theorem own_rd {w : World} {B k n c : Nat} {e : TypeId} {a : Option Addr} {xs : List Value} (h : w.ownsRow B e k (.slice a n c) n xs) : Rd w a (n * k) xs := by
  refine ⟨h.1, fun hn => ?_⟩
  rcases h.2 with ⟨e, h0⟩ | ⟨g, cap, cur, hv, _, hg, hnc, _, hs, htake⟩
  · subst h0; simp at hn
  · cases hv
    refine ⟨g, 0, rfl, (Array.getElem?_eq_some_iff.1 hg).1, fun j hj => ?_⟩
    rw [Nat.zero_add]
    exact h.cellAt j hj
theorem rdF_own {W0 W' : World} {F : Nat → Prop} {R B k n c : Nat} {e : TypeId} {a : Option Addr} {xs : List Value} (h : W'.ownsRow B e k (.slice a n c) n xs) (hB : W0.heap.size ≤ B) (hR : R < W0.heap.size) : RdF W' (fun q => F q ∨ (W0.heap.size ≤ q ∧ q < W'.heap.size)) R a (n * k) xs :=
  ⟨own_rd h, fun hn => by
    rcases h.2 with ⟨e, h0⟩ | ⟨g, cap, cur, hv, hg1, hg, -⟩
    · subst h0; simp at hn
    · cases hv
      have hl : g < W'.heap.size := (Array.getElem?_eq_some_iff.1 hg).1
      exact ⟨g, 0, rfl, Or.inr ⟨by omega, hl⟩, by omega⟩⟩
theorem own_base {W : World} {B B' k n : Nat} {e : TypeId} {v : Value} {xs : List Value} (h : W.ownsRow B e k v n xs) (hB : B' ≤ B) : W.ownsRow B' e k v n xs := by
  refine ⟨h.1, ?_⟩
  rcases h.2 with h0 | ⟨g, cap, cur, e1, hg, r⟩
  · exact Or.inl h0
  · exact Or.inr ⟨g, cap, cur, e1, Nat.le_trans hB hg, r⟩
theorem gran_len (l : List Nat) : (l.flatMap fun p => (List.range 8).map fun j => 8 * p + j).length = l.length * 8 := by
  induction l with
  | nil => rfl
  | cons x r ih => rw [List.flatMap_cons, List.length_append, ih, List.length_cons, List.length_map, List.length_range]; omega
theorem mks_len {m : Mm} (h : Okm m) : m.mks.length ≤ 2048 := by
  have h1 := nodup_len (xs := m.mks) (ys := m.pgs.flatMap fun p => (List.range 8).map fun j => 8 * p + j) (h.mr.imp (fun hab e => by omega)) (fun x hx => by
    exact List.mem_flatMap.2 ⟨x / 8, h.ml x hx, List.mem_map.2 ⟨x % 8, List.mem_range.2 (by omega), by omega⟩⟩)
  rw [gran_len] at h1
  have := h.len
  have := h.bud
  omega
/-- what is behind a byte's setting -/
theorem rset_fin {W : World} {R : Nat} {F : Nat → Prop} {m : Mm} {na ca ka : Option Addr} {nc cc kc : Nat} {cs : List (Nat × Nat)} (h : RmO W R F m na ca ka nc cc kc cs) {a b : Nat} (ha : a / 256 ∈ m.pgs) (hb : b < 256)
    (U : World) (xs : List (Nat × Nat)) (va : Option Addr) (vc : Nat) (ra : Option Addr) (rcc : Nat) (hk : KP W.heap.size (· = R) W U) (hxs : xs = setC cs a b)
    (hbx : BoxN U R #[.slice na m.pgs.length nc, .slice va xs.length vc, .slice ra (m.mks.filter (· != a / 32)).length rcc, .int .i64 (m.bud : Int)])
    (ho : U.ownsRow W.heap.size 189 2 (.slice va xs.length vc) xs.length (cellsC xs))
    (hm : U.ownsRow W.heap.size 22 1 (.slice ra (m.mks.filter (· != a / 32)).length rcc) (m.mks.filter (· != a / 32)).length (u64s ((m.mks.filter (· != a / 32)).map (32 * ·)))) :
    RmAt U R (fun q => F q ∨ (W.heap.size ≤ q ∧ q < U.heap.size)) (wr1 m a b) ∧ KP W.heap.size F W U := by
  have hR : R < W.heap.size := h.lt _ h.fr
  refine ⟨⟨na, va, ra, nc, vc, rcc, xs, okm_wr1 h.ok ha hb, hbx, ?_, rdF_own ho (Nat.le_refl _) hR, ?_, by rw [hxs]; exact h.co.set ha hb, Or.inl h.fr, fun q hq => ?_⟩, hk.mono (Nat.le_refl _) (fun q _ e => by rw [show q = R from e]; exact h.fr)⟩
  · exact (h.rn.blocks (fun q hf hne => hk.block q (h.lt q hf) hne) hk.size).mono (fun q hf => Or.inl hf)
  · have := rdF_own (F := F) (R := R) hm (Nat.le_refl _) hR
    rw [Nat.mul_one] at this
    exact this
  · rcases hq with hq | hq
    · exact Nat.lt_of_lt_of_le (h.lt q hq) hk.size
    · exact hq.2
set_option maxRecDepth 20000 in
set_option maxHeartbeats 1000000 in
theorem rset_any (W : World) (R : Nat) (F : Nat → Prop) (m : Mm) (h : RmAt W R F m) (a b : Nat) (ha : a / 256 ∈ m.pgs) (hb : b < 256) :
    Calls Tryz.prog 129 #[.pointer (some ⟨R, 0, none⟩), .int .u64 (a : Int), .int .u8 (b : Int)] W fun e W' => e = .returned (.tuple #[]) ∧ RmAt W' R (fun q => F q ∨ (W.heap.size ≤ q ∧ q < W'.heap.size)) (wr1 m a b) ∧ KP W.heap.size F W W' := by
  obtain ⟨na, ca, ka, nc, cc, kc, cs, h⟩ := h
  have HFIN := Lib.hid (rset_fin h ha hb)
  have hlen := h.co.len h.ok
  have hnk : m.mks.length ≤ 100000 := Nat.le_trans (mks_len h.ok) (by decide)
  have hal := h.ok.pl _ ha
  have HBOX := Lib.hid h.box
  have HRC := Lib.hid h.rc.1
  have HRK := Lib.hid h.rk
  have HRL := Lib.hid (h.lt _ h.fr)
  have HFL := Lib.hid h.lt
  obtain ⟨n, hn⟩ : ∃ n, cs.length = n := ⟨_, rfl⟩
  obtain ⟨np, hnp⟩ : ∃ n, m.pgs.length = n := ⟨_, rfl⟩
  obtain ⟨nk, hnk0⟩ : ∃ n, m.mks.length = n := ⟨_, rfl⟩
  obtain ⟨bd, hbd⟩ : ∃ n, m.bud = n := ⟨_, rfl⟩
  rw [hn, hnp, hnk0, hbd] at HBOX
  rw [hnp, hbd] at HFIN
  rw [hnk0] at HRK hnk
  rw [hn] at hlen
  have HN := Lib.hid hn
  have hp32 : ((32 * (a / 32) : Nat) : Int) = (a : Int) - (a : Int) % 32 := by omega
  have w1 : IntKind.u64.wrap ((a : Int) - (a : Int) % 32) = (a : Int) - (a : Int) % 32 := by rw [IntKind.wrap_u64]; omega
  clear h hn hnp hnk0 hbd ha
  go_enter Tryz.func129, Tryz.ntmps129
  go_wp2_with fail
  go_loopw [6, 7] (fun ov i wr => ∃ (k : Nat) (xs : List (Nat × Nat)) (v : Value), ov = v ∧ i = .int .i64 k ∧ k ≤ n ∧ xs.length ≤ k ∧ Hid (xs = (cs.take k).filter (fun p => p.1 != a)) ∧ Hid (wr.ownsRow W.heap.size 189 2 v xs.length (cellsC xs)) ∧ Hid (Below W.heap.size W wr)) (fun _ i _ => n - (intOf i).toNat)
  case atStart => exact ⟨0, [], _, rfl, rfl, by omega, by simp, Lib.hid (by simp), Lib.hid (World.ownsRow_nil _ _ _ _), Lib.hid (Below.refl _ _)⟩
  case round =>
    obtain ⟨k, xs, v, rfl, rfl, hk, hxk, HX, HO, HB⟩ := hrel
    have hsz := HB.out.size
    obtain ⟨va, vc, rfl, -⟩ := own_slice HO.out
    have cR : wr.cell? ⟨R, 1, none⟩ = some (.slice ca n cc) := (boxN_below HBOX.out HB.out).cell 1
    by_cases hlt : k < n
    · have hkl : k < cs.length := by rw [HN.out]; exact hlt
      obtain ⟨b1, o1, e1, d0, d1⟩ := rd_cell (HRC.out.below HB.out) hkl
      subst e1
      have htk : (cs.take (k + 1)).filter (fun p => p.1 != a) = (cs.take k).filter (fun p => p.1 != a) ++ (if cs[k].1 = a then [] else [cs[k]]) := by
        rw [List.take_succ_eq_append_getElem hkl, List.filter_append]
        congr 1
        by_cases e : cs[k].1 = a
        · rw [if_pos e]; simp [e]
        · rw [if_neg e]; simp [e]
      obtain ⟨⟨x, y⟩, hx⟩ : ∃ x, cs[k] = x := ⟨_, rfl⟩
      rw [hx] at d0 d1 htk
      simp only [] at d0 d1 htk
      have kk0 : (0 : Int) ≤ (k : Int) := by omega
      have kk1 : (k : Int) < (n : Int) := by omega
      have HTK := Lib.hid htk
      clear hx hkl htk
      by_cases hxp : x = a
      · have hxi : ((x : Int) != (a : Int)) = false := by simp [hxp]
        have hxi2 : (x : Int) = (a : Int) := by omega
        have HX2 : Hid (xs = (cs.take (k + 1)).filter (fun p => p.1 != a)) := Lib.hid (by rw [HTK.out, if_pos hxp, List.append_nil]; exact HX.out)
        clear hxp
        go_wp2_with fail
        go_roundw
        case rel => exact ⟨k + 1, xs, _, rfl, by go_num, by omega, by omega, HX2, HO, HB⟩
        case measure => simp [intOf]; omega
      · have hxi : ((x : Int) != (a : Int)) = true := by simp; omega
        have hxi2 : ¬ (x : Int) = (a : Int) := by omega
        have HX2 : Hid (xs ++ [(x, y)] = (cs.take (k + 1)).filter (fun p => p.1 != a)) := Lib.hid (by rw [HTK.out, if_neg hxp, HX.out])
        have hlen2 : (xs ++ [(x, y)]).length = xs.length + 1 := by simp
        have HLEN := Lib.hid hlen2
        clear hxp hlen2
        go_wp2_with (at_builtin; refine wpList_appE 105 189 (.agg #[.int .u64 0, .int .u8 0]) 2 16 Tryz.underlying105 infoCell rfl (by decide) (by decide) _ rfl _ _ rfl W.heap.size (.slice va xs.length vc) xs.length (cellsC xs) rfl (HO.out.alloc _) (some ⟨wr.heap.size, 0, none⟩) 1 1 [.int .u64 (x : Int), .int .u8 (y : Int)] rfl (Rd.lit wr #[.int .u64 (x : Int), .int .u8 (y : Int)] 189 (by show 2 ≤ maxLen; decide)) (fun u hu => by simp at hu; rcases hu with hu | hu <;> (subst hu; rfl)) (by omega) (by rw [size_alloc]; exact Nat.le_succ_of_le hsz) ?_; intro a1 c1 W1 hown1 hgrow1 hat1)
        have HO1 := Lib.hid (show W1.ownsRow W.heap.size 189 2 (.slice a1 (xs.length + 1) c1) (xs.length + 1) (cellsC (xs ++ [(x, y)])) by rw [cellsC_snoc]; exact hown1)
        have HB1 := Lib.hid (grownB (bTrans HB.out (bAlloc (Below.refl _ _) (.cells #[.int .u64 (x : Int), .int .u8 (y : Int)] 189))) hgrow1 (fun r e => (HO.out.lt r e).1))
        clear hown1 hgrow1 hat1
        go_wp2_with fail
        go_roundw
        case rel => exact ⟨k + 1, xs ++ [(x, y)], _, rfl, by go_num, by omega, by rw [HLEN.out]; omega, HX2, by rw [HLEN.out]; exact HO1, HB1⟩
        case measure => simp [intOf]; omega
    · obtain rfl : n = k := by omega
      have hxl : xs = cs.filter (fun p => p.1 != a) := by
        rw [HX.out, List.take_of_length_le (by rw [HN.out]; exact Nat.le_refl _)]
      have HXL := Lib.hid hxl
      clear hxl
      by_cases hb0 : b = 0
      · subst hb0
        have HSC : Hid (xs = setC cs a 0) := Lib.hid (by unfold setC; rw [if_pos rfl]; exact HXL.out)
        have HBX7 := Lib.hid (boxN_below HBOX.out HB.out)
        have t1 : wr.cell? ⟨R, 1, none⟩ = some (.slice ca n cc) := HBX7.out.cell 1
        have z1 : wr.frozen? ⟨R, 1, none⟩ = false := HBX7.out.frozen 1
        have hRs : R < wr.heap.size := HBX7.out.lt
        go_upto_region 9 with fail
        have HBX5 := Lib.hid (show BoxN _ _ #[.slice na np nc, .slice va xs.length vc, .slice ka nk kc, .int .i64 (bd : Int)] from HBX7.out.set 1 (.slice va xs.length vc))
        have HK5 : Hid (KP W.heap.size (· = R) W (wr.setCell ⟨R, 1, none⟩ (.slice va xs.length vc))) := Lib.hid ((KP.of_below (· = R) HB.out).set ⟨R, 1, none⟩ (Or.inr rfl) _)
        have HO5 := Lib.hid (own_kp2 HO.out (KP.set1 wr R 1 (.slice va xs.length vc)) (by intro q hq e; have h1 : q = R := e; have := HRL.out; omega))
        obtain ⟨U5, hU5⟩ : ∃ U, wr.setCell ⟨R, 1, none⟩ (.slice va xs.length vc) = U := ⟨_, rfl⟩
        rw [hU5] at HBX5 HK5 HO5 ⊢
        clear hU5 t1 z1
        have hs5 := HK5.out.size
        have HRK5 := Lib.hid (HRK.out.blocks (W' := U5) (fun q hf hne => HK5.out.block q (HFL.out q hf) hne) hs5)
        have k2 : U5.cell? ⟨R, 2, none⟩ = some (.slice ka nk kc) := HBX5.out.cell 2
        have HT := Lib.hid (take_any ka nk kc (m.mks.map (32 * ·)) (32 * (a / 32)) U5 HRK5.out.1 hnk)
        rw [mks_filter, List.length_map, hp32] at HT
        obtain ⟨nk', hnk'⟩ : ∃ z, (m.mks.filter (· != a / 32)).length = z := ⟨_, rfl⟩
        rw [hnk'] at HT
        have HNK' := Lib.hid hnk'
        clear hnk'
        go_wp2_with fail
        refine HT.out.mono ?_; rintro e U6 ⟨⟨ra, rcc, rfl, hown⟩, hb6⟩
        have HBX6 := Lib.hid (boxN_below HBX5.out hb6)
        have hs6 := hb6.size
        have t2 : U6.cell? ⟨R, 2, none⟩ = some (.slice ka nk kc) := HBX6.out.cell 2
        have z2 : U6.frozen? ⟨R, 2, none⟩ = false := HBX6.out.frozen 2
        have HK6 : Hid (KP W.heap.size (· = R) W U6) := Lib.hid (HK5.out.below hb6 hs5)
        have HO6 := Lib.hid (own_kp2 HO5.out (KP.of_below (fun _ => False) hb6) (fun _ _ => id))
        have HM6 := Lib.hid hown
        clear hown hb6 k2
        go_wp2_with fail
        have HK7 : Hid (KP W.heap.size (· = R) W (U6.setCell ⟨R, 2, none⟩ (.slice ra nk' rcc))) := Lib.hid (HK6.out.set ⟨R, 2, none⟩ (Or.inr rfl) _)
        have HBX8 := Lib.hid (show BoxN (U6.setCell ⟨R, 2, none⟩ (.slice ra nk' rcc)) R #[.slice na np nc, .slice va xs.length vc, .slice ra nk' rcc, .int .i64 (bd : Int)] from HBX6.out.set 2 (.slice ra nk' rcc))
        have HO7 := Lib.hid (own_kp2 HO6.out (KP.set1 U6 R 2 (.slice ra nk' rcc)) (by intro q hq e; have h1 : q = R := e; have := HRL.out; omega))
        have HM7 := Lib.hid (own_kp2 HM6.out (KP.set1 U6 R 2 (.slice ra nk' rcc)) (by intro q hq e; have h1 : q = R := e; have := HRL.out; omega))
        obtain ⟨U7, hU7⟩ : ∃ U, U6.setCell ⟨R, 2, none⟩ (.slice ra nk' rcc) = U := ⟨_, rfl⟩
        rw [hU7] at HK7 HBX8 HO7 HM7 ⊢
        clear hU7 t2 z2
        go_end0
        exact ⟨rfl, HFIN.out U7 xs va vc ra rcc HK7.out HSC.out (by rw [HNK'.out]; exact HBX8.out) HO7.out (by rw [HNK'.out]; exact (own_base HM7.out (by omega)))⟩
      · have hbi : ¬ (b : Int) = 0 := by omega
        have hbi2 : ((b : Int) != 0) = true := by simp; omega
        have HSC : Hid (xs ++ [(a, b)] = setC cs a b) := Lib.hid (by unfold setC; rw [if_neg hb0, HXL.out])
        have hlen2 : (xs ++ [(a, b)]).length = xs.length + 1 := by simp
        have HLEN := Lib.hid hlen2
        clear hlen2
        go_upto_region 8 with (at_builtin; refine wpList_appE 105 189 (.agg #[.int .u64 0, .int .u8 0]) 2 16 Tryz.underlying105 infoCell rfl (by decide) (by decide) _ rfl _ _ rfl W.heap.size (.slice va xs.length vc) xs.length (cellsC xs) rfl (HO.out.alloc _) (some ⟨wr.heap.size, 0, none⟩) 1 1 [.int .u64 (a : Int), .int .u8 (b : Int)] rfl (Rd.lit wr #[.int .u64 (a : Int), .int .u8 (b : Int)] 189 (by show 2 ≤ maxLen; decide)) (fun u hu => by simp at hu; rcases hu with hu | hu <;> (subst hu; rfl)) (by omega) (by rw [size_alloc]; exact Nat.le_succ_of_le hsz) ?_; intro a2 c2 W2 hown2 hgrow2 hat2)
        have HO2 := Lib.hid (show W2.ownsRow W.heap.size 189 2 (.slice a2 (xs.length + 1) c2) (xs.length + 1) (cellsC (xs ++ [(a, b)])) by rw [cellsC_snoc]; exact hown2)
        have HB2 := Lib.hid (grownB (bTrans HB.out (bAlloc (Below.refl _ _) (.cells #[.int .u64 (a : Int), .int .u8 (b : Int)] 189))) hgrow2 (fun r e => (HO.out.lt r e).1))
        clear hown2 hgrow2 hat2
        have HBX7 := Lib.hid (boxN_below HBOX.out HB2.out)
        have t1 : W2.cell? ⟨R, 1, none⟩ = some (.slice ca n cc) := HBX7.out.cell 1
        have z1 : W2.frozen? ⟨R, 1, none⟩ = false := HBX7.out.frozen 1
        have hRs : R < W2.heap.size := HBX7.out.lt
        go_upto_region 9 with fail
        have HBX5 := Lib.hid (show BoxN _ _ #[.slice na np nc, .slice a2 (xs.length + 1) c2, .slice ka nk kc, .int .i64 (bd : Int)] from HBX7.out.set 1 (.slice a2 (xs.length + 1) c2))
        have HK5 : Hid (KP W.heap.size (· = R) W (W2.setCell ⟨R, 1, none⟩ (.slice a2 (xs.length + 1) c2))) := Lib.hid ((KP.of_below (· = R) HB2.out).set ⟨R, 1, none⟩ (Or.inr rfl) _)
        have HO5 := Lib.hid (own_kp2 HO2.out (KP.set1 W2 R 1 (.slice a2 (xs.length + 1) c2)) (by intro q hq e; have h1 : q = R := e; have := HRL.out; omega))
        obtain ⟨U5, hU5⟩ : ∃ U, W2.setCell ⟨R, 1, none⟩ (.slice a2 (xs.length + 1) c2) = U := ⟨_, rfl⟩
        rw [hU5] at HBX5 HK5 HO5 ⊢
        clear hU5 t1 z1
        have hs5 := HK5.out.size
        have HRK5 := Lib.hid (HRK.out.blocks (W' := U5) (fun q hf hne => HK5.out.block q (HFL.out q hf) hne) hs5)
        have k2 : U5.cell? ⟨R, 2, none⟩ = some (.slice ka nk kc) := HBX5.out.cell 2
        have HT := Lib.hid (take_any ka nk kc (m.mks.map (32 * ·)) (32 * (a / 32)) U5 HRK5.out.1 hnk)
        rw [mks_filter, List.length_map, hp32] at HT
        obtain ⟨nk', hnk'⟩ : ∃ z, (m.mks.filter (· != a / 32)).length = z := ⟨_, rfl⟩
        rw [hnk'] at HT
        have HNK' := Lib.hid hnk'
        clear hnk'
        go_wp2_with fail
        refine HT.out.mono ?_; rintro e U6 ⟨⟨ra, rcc, rfl, hown⟩, hb6⟩
        have HBX6 := Lib.hid (boxN_below HBX5.out hb6)
        have hs6 := hb6.size
        have t2 : U6.cell? ⟨R, 2, none⟩ = some (.slice ka nk kc) := HBX6.out.cell 2
        have z2 : U6.frozen? ⟨R, 2, none⟩ = false := HBX6.out.frozen 2
        have HK6 : Hid (KP W.heap.size (· = R) W U6) := Lib.hid (HK5.out.below hb6 hs5)
        have HO6 := Lib.hid (own_kp2 HO5.out (KP.of_below (fun _ => False) hb6) (fun _ _ => id))
        have HM6 := Lib.hid hown
        clear hown hb6 k2
        go_wp2_with fail
        have HK7 : Hid (KP W.heap.size (· = R) W (U6.setCell ⟨R, 2, none⟩ (.slice ra nk' rcc))) := Lib.hid (HK6.out.set ⟨R, 2, none⟩ (Or.inr rfl) _)
        have HBX8 := Lib.hid (show BoxN (U6.setCell ⟨R, 2, none⟩ (.slice ra nk' rcc)) R #[.slice na np nc, .slice a2 (xs.length + 1) c2, .slice ra nk' rcc, .int .i64 (bd : Int)] from HBX6.out.set 2 (.slice ra nk' rcc))
        have HO7 := Lib.hid (own_kp2 HO6.out (KP.set1 U6 R 2 (.slice ra nk' rcc)) (by intro q hq e; have h1 : q = R := e; have := HRL.out; omega))
        have HM7 := Lib.hid (own_kp2 HM6.out (KP.set1 U6 R 2 (.slice ra nk' rcc)) (by intro q hq e; have h1 : q = R := e; have := HRL.out; omega))
        obtain ⟨U7, hU7⟩ : ∃ U, U6.setCell ⟨R, 2, none⟩ (.slice ra nk' rcc) = U := ⟨_, rfl⟩
        rw [hU7] at HK7 HBX8 HO7 HM7 ⊢
        clear hU7 t2 z2
        go_end0
        exact ⟨rfl, HFIN.out U7 (xs ++ [(a, b)]) a2 c2 ra rcc HK7.out HSC.out (by rw [HNK'.out, HLEN.out]; exact HBX8.out) (by rw [HLEN.out]; exact HO7.out) (by rw [HNK'.out]; exact (own_base HM7.out (by omega)))⟩
end Go.Proofs.YtegoddghfjfibaaGreatDoor

namespace Go.Proofs.YtegoddghfjfibaaGreatDoor
set_option linter.unusedVariables false
set_option linter.unusedSimpArgs false
open Go.Joins Go.ChangeShapes Go.WideShapes Go.ChangeAt Go.RowKit Go.Deep

theorem RmAt.mono {W : World} {R : Nat} {F F' : Nat → Prop} {m : Mm} (h : RmAt W R F m) (hf : ∀ b, F b → F' b) (hl : ∀ b, F' b → b < W.heap.size) : RmAt W R F' m := by
  obtain ⟨na, ca, ka, nc, cc, kc, cs, h⟩ := h
  exact ⟨na, ca, ka, nc, cc, kc, cs, h.ok, h.box, h.rn.mono hf, h.rc.mono hf, h.rk.mono hf, h.co, hf _ h.fr, hl⟩
/-- F, and what is new between two worlds -/
def FN (F : Nat → Prop) (W W' : World) : Nat → Prop := fun q => F q ∨ (W.heap.size ≤ q ∧ q < W'.heap.size)
theorem rnew_any (b : Int) (W : World) :
    Calls Tryz.prog 30 #[.int .i64 b] W fun e W' => (badB b = true ∧ e = .returned (.tuple #[.pointer none, .int .i64 1]) ∧ W = W') ∨ (badB b = false ∧ ∃ R, e = .returned (.tuple #[.pointer (some ⟨R, 0, none⟩), .int .i64 0]) ∧ W.heap.size ≤ R ∧ RmAt W' R (fun q => W.heap.size ≤ q ∧ q < W'.heap.size) (emptyM b.toNat) ∧ Below W.heap.size W W') := by
  by_cases h1 : b < 0
  · have hb : badB b = true := by unfold badB; rw [decide_eq_true h1]; rfl
    have HB := Lib.hid hb
    clear hb
    go_enter Tryz.func30, Tryz.ntmps30
    go_wp2_with fail
    go_ret2
    exact Or.inl ⟨HB.out, rfl, rfl⟩
  · by_cases h2 : 256 < b
    · have hb : badB b = true := by unfold badB; rw [decide_eq_true h2]; simp
      have HB := Lib.hid hb
      clear hb
      go_enter Tryz.func30, Tryz.ntmps30
      go_wp2_with fail
      go_ret2
      exact Or.inl ⟨HB.out, rfl, rfl⟩
    · have hb : badB b = false := by unfold badB; rw [decide_eq_false h1, decide_eq_false h2]; rfl
      have HB := Lib.hid hb
      have HN : Hid (0 ≤ b ∧ b ≤ 256) := Lib.hid (by omega)
      clear hb
      go_enter Tryz.func30, Tryz.ntmps30
      go_wp2_with fail
      go_ret2
      refine Or.inr ⟨HB.out, _, rfl, Nat.le_refl _, ⟨none, none, none, 0, 0, 0, [], okm_empty _ (by have := HN.out; omega), ?_, ⟨Rd.nil _ _, fun h => absurd h (by simp [emptyM])⟩, ⟨Rd.nil _ _, fun h => absurd h (by simp)⟩, ⟨Rd.nil _ _, fun h => absurd h (by simp [emptyM])⟩, ⟨fun a => rfl, by simp, by simp⟩, by simp, fun q hq => hq.2⟩, bAlloc (Below.refl _ _) _⟩
      have h := BoxN.new W #[.slice none 0 0, .slice none 0 0, .slice none 0 0, .int .i64 b] 107
      show BoxN _ _ #[.slice none 0 0, .slice none 0 0, .slice none 0 0, .int .i64 ((b.toNat : Nat) : Int)]
      rw [show ((b.toNat : Nat) : Int) = b by have := HN.out; omega]
      exact h
set_option maxRecDepth 20000 in
theorem rwrite_any (W : World) (R : Nat) (F : Nat → Prop) (m : Mm) (h : RmAt W R F m) (x n c : Nat) (sa : Option Addr) (l : List Nat) (hln : l.length = n) (hin : ∀ i, i < n → (x + i) / 256 ∈ m.pgs) (hn : n ≤ 100000) (hb : ∀ b ∈ l, b < 256) (hs : Rd W sa n (u8s l)) (hne : ∀ g off, sa = some ⟨g, off, none⟩ → ¬ F g) :
    Calls Tryz.prog 81 #[.pointer (some ⟨R, 0, none⟩), .int .u64 (x : Int), .slice sa n c] W fun e W' => e = .returned (.tuple #[]) ∧ RmAt W' R (FN F W W') (wrL m x l) ∧ KP W.heap.size F W W' := by
  have HIN := Lib.hid hin
  have HLN := Lib.hid hln
  have HBL := Lib.hid hb
  have HS := Lib.hid hs
  have HNE := Lib.hid hne
  have HOK := Lib.hid h.ok
  have HM0 : Hid (RmAt W R (FN F W W) m) := Lib.hid (h.mono (fun b hb => Or.inl hb) (fun b hb => by rcases hb with hb | hb; exact h.lt b hb; exact hb.2))
  have HFL := Lib.hid h.lt
  clear h hln hin hb hs hne
  go_enter Tryz.func81, Tryz.ntmps81
  go_wp2_with fail
  go_loopw [6] (fun i wr => ∃ k : Nat, i = .int .i64 k ∧ k ≤ n ∧ Hid (RmAt wr R (FN F W wr) (wrL m x (l.take k))) ∧ Hid (KP W.heap.size F W wr)) (fun i _ => n - (intOf i).toNat)
  case atStart => exact ⟨0, rfl, by omega, HM0, Lib.hid (KP.refl _ _ _)⟩
  case round =>
    clear HM0
    obtain ⟨k, rfl, hk, HM, HK⟩ := hrel
    by_cases hlt : k < n
    · have hkl : k < l.length := by rw [HLN.out]; exact hlt
      have hsr : Rd wr sa n (u8s l) := HK.out.rd HS.out (fun b off h0 e => ⟨by obtain ⟨b', off', e', hl', -⟩ := HS.out.2 h0; rw [e] at e'; cases e'; exact hl', HNE.out b off e⟩)
      obtain ⟨b1, o1, e1, hb1, d0⟩ := hsr.at_ hlt
      subst e1
      rw [u8s_get l k hkl] at d0
      have hpg := HIN.out k hlt
      have hx24 := HOK.out.pl _ hpg
      have hbk := HBL.out _ (List.getElem_mem hkl)
      have htk : wrL m x (l.take (k + 1)) = wr1 (wrL m x (l.take k)) (x + k) l[k] := by
        rw [List.take_succ_eq_append_getElem hkl, wrL_append, List.length_take, HLN.out, show min k n = k by omega]
        rfl
      obtain ⟨y, hy⟩ : ∃ y, l[k] = y := ⟨_, rfl⟩
      rw [hy] at d0 htk hbk
      have HC := Lib.hid (rset_any wr R _ _ HM.out (x + k) y (by rw [(wrL_pgs m x _).1]; exact hpg) hbk)
      rw [← htk] at HC
      have w1 : IntKind.u64.wrap (k : Int) = (k : Int) := by rw [IntKind.wrap_u64]; omega
      have w2 : IntKind.u64.wrap ((x : Int) + (k : Int)) = (x : Int) + (k : Int) := by rw [IntKind.wrap_u64]; omega
      rw [show ((x + k : Nat) : Int) = (x : Int) + (k : Int) by omega] at HC
      have kk0 : (0 : Int) ≤ (k : Int) := by omega
      have kk1 : (k : Int) < (n : Int) := by omega
      have hsz := HK.out.size
      clear hy hpg htk hsr hx24 hbk
      go_wp2_with fail
      refine HC.out.mono ?_; rintro e W3 ⟨rfl, hm3, hk3⟩
      have hs3 := hk3.size
      have HM3 : Hid (RmAt W3 R (FN F W W3) (wrL m x (l.take (k + 1)))) := Lib.hid (hm3.mono (fun q hq => by
        rcases hq with (hq | hq) | hq
        · exact Or.inl hq
        · exact Or.inr ⟨hq.1, by omega⟩
        · exact Or.inr ⟨by omega, hq.2⟩) (fun q hq => by
        rcases hq with hq | hq
        · have := HFL.out q hq; omega
        · exact hq.2))
      have HK3 : Hid (KP W.heap.size F W W3) := Lib.hid (HK.out.trans (hk3.mono hsz (fun q hq e => by
        rcases e with e | e
        · exact e
        · omega)))
      clear hm3 hk3 HM HK
      go_wp2_with fail
      go_roundw
      case rel => exact ⟨k + 1, by go_num, by omega, HM3, HK3⟩
      case measure => simp [intOf]; omega
    · obtain rfl : n = k := by omega
      have hm := HM.out
      rw [List.take_of_length_le (by rw [HLN.out]; exact Nat.le_refl _)] at hm
      have HM3 := Lib.hid hm
      clear hm
      go_wp2_with fail
      go_end0
      exact ⟨rfl, HM3.out, HK.out⟩
theorem rspot_any (W : World) (R : Nat) (F : Nat → Prop) (m : Mm) (h : RmAt W R F m) (a : Nat) (ha : a < 18446744073709551616) :
    Calls Tryz.prog 84 #[.pointer (some ⟨R, 0, none⟩), .int .u64 (a : Int)] W fun e W' => e = .returned (.int .i64 (spotE m a)) ∧ W = W' := by
  have HI := Lib.hid (rin_any W R F m h a ha)
  clear h
  by_cases hal : (a : Int) % 32 = 0
  · have hp : spotE m a = if isIn m a then 0 else 30 := by unfold spotE; rw [if_neg (by omega)]
    rw [hp]
    clear hp
    cases hi : isIn m a with
    | true =>
      rw [hi] at HI
      rw [if_pos rfl]
      clear hi
      go_enter Tryz.func84, Tryz.ntmps84
      go_wp2_with fail
      refine HI.out.mono ?_; rintro e W1 ⟨rfl, rfl⟩
      go_wp2_with fail
      go_ret
      exact ⟨rfl, rfl⟩
    | false =>
      rw [hi] at HI
      rw [if_neg (by decide)]
      clear hi
      go_enter Tryz.func84, Tryz.ntmps84
      go_wp2_with fail
      refine HI.out.mono ?_; rintro e W1 ⟨rfl, rfl⟩
      go_wp2_with fail
      go_ret
      exact ⟨rfl, rfl⟩
  · have hp : spotE m a = 31 := by unfold spotE; rw [if_pos hal]
    rw [hp]
    clear hp HI
    go_enter Tryz.func84, Tryz.ntmps84
    go_wp2_with fail
    go_ret
    exact ⟨rfl, rfl⟩
end Go.Proofs.YtegoddghfjfibaaGreatDoor

namespace Go.Proofs.YtegoddghfjfibaaGreatDoor
set_option linter.unusedVariables false
set_option linter.unusedSimpArgs false
open Go.Joins Go.ChangeShapes Go.WideShapes Go.ChangeAt Go.RowKit Go.Deep

set_option maxRecDepth 20000 in
theorem rbad_any (W : World) (R : Nat) (F : Nat → Prop) (m : Mm) (h : RmAt W R F m) (a : Nat) (n : Int) (ha : a < 18446744073709551616) :
    Calls Tryz.prog 80 #[.pointer (some ⟨R, 0, none⟩), .int .u64 (a : Int), .int .i64 n] W fun e W' => e = .returned (.int .i64 (numE m a n)) ∧ W = W' := by
  have HI := Lib.hid (rin_any W R F m h a ha)
  clear h
  by_cases hn : n = 1 ∨ n = 2 ∨ n = 4 ∨ n = 8
  · have h1 : ¬ (n ≠ 1 ∧ n ≠ 2 ∧ n ≠ 4 ∧ n ≠ 8) := by omega
    by_cases hal : (a : Int) % n = 0
    · have hp : numE m a n = if isIn m a then 0 else 30 := by unfold numE; rw [if_neg h1, if_neg (show ¬ ((a : Int) % n ≠ 0) from fun e => e hal)]
      rw [hp]
      clear hp h1
      cases hi : isIn m a with
      | true =>
        rw [hi] at HI
        rw [if_pos rfl]
        clear hi
        rcases hn with rfl | rfl | rfl | rfl
        all_goals
          go_enter Tryz.func80, Tryz.ntmps80
          go_wp2_with fail
          refine HI.out.mono ?_; rintro e W1 ⟨rfl, rfl⟩
          go_wp2_with fail
          go_ret
          exact ⟨rfl, rfl⟩
      | false =>
        rw [hi] at HI
        rw [if_neg (by decide)]
        clear hi
        rcases hn with rfl | rfl | rfl | rfl
        all_goals
          go_enter Tryz.func80, Tryz.ntmps80
          go_wp2_with fail
          refine HI.out.mono ?_; rintro e W1 ⟨rfl, rfl⟩
          go_wp2_with fail
          go_ret
          exact ⟨rfl, rfl⟩
    · have hp : numE m a n = 31 := by unfold numE; rw [if_neg h1, if_pos hal]
      rw [hp]
      clear hp h1 HI
      have hn1 : n ≠ 1 := fun e => hal (by rw [e]; exact Int.emod_one _)
      replace hn := hn.resolve_left hn1
      clear hn1
      rcases hn with rfl | rfl | rfl
      all_goals
        go_enter Tryz.func80, Tryz.ntmps80
        go_wp2_with fail
        go_ret
        exact ⟨rfl, rfl⟩
  · have hp : numE m a n = 1 := by unfold numE; rw [if_pos (by omega)]
    rw [hp]
    have n1 : ¬ n = 1 := fun e => hn (Or.inl e)
    have n2 : ¬ n = 2 := fun e => hn (Or.inr (Or.inl e))
    have n3 : ¬ n = 4 := fun e => hn (Or.inr (Or.inr (Or.inl e)))
    have n4 : ¬ n = 8 := fun e => hn (Or.inr (Or.inr (Or.inr e)))
    have m1 : (n != 1) = true := by simpa using n1
    have m2 : (n != 2) = true := by simpa using n2
    have m3 : (n != 4) = true := by simpa using n3
    have m4 : (n != 8) = true := by simpa using n4
    clear hp hn HI
    go_enter Tryz.func80, Tryz.ntmps80
    go_wp2_with fail
    go_ret
    exact ⟨rfl, rfl⟩
theorem numE_fits {m : Mm} (hk : Okm m) {a : Nat} {n : Int} (he : numE m a n = 0) : ∃ k : Nat, n = k ∧ 1 ≤ k ∧ k ≤ 8 ∧ a + k ≤ 16777216 ∧ ∀ i, i < k → (a + i) / 256 ∈ m.pgs := by
  rcases num_place (fun _ => 0) m a n with ⟨-, hn, hal, hin, -⟩ | ⟨h, -⟩
  · obtain ⟨k, rfl⟩ : ∃ k : Nat, n = k := ⟨n.toNat, by omega⟩
    rw [Int.toNat_natCast] at hal
    have hp := hk.pl _ hin
    have hkk : k = 1 ∨ k = 2 ∨ k = 4 ∨ k = 8 := by omega
    have hf : a % 256 + k ≤ 256 := by rcases hkk with rfl | rfl | rfl | rfl <;> omega
    exact ⟨k, rfl, by omega, by omega, by omega, fun i hi => by rw [show (a + i) / 256 = a / 256 by omega]; exact hin⟩
  · exact absurd he h
set_option maxRecDepth 20000 in
theorem rstore_any (W : World) (R : Nat) (F : Nat → Prop) (m : Mm) (h : RmAt W R F m) (a : Nat) (n w : Int) (ha : a < 18446744073709551616) (hw0 : 0 ≤ w) (hw1 : w < 18446744073709551616) :
    Calls Tryz.prog 35 #[.pointer (some ⟨R, 0, none⟩), .int .u64 (a : Int), .int .i64 n, .int .u64 w] W fun e W' => e = .returned (.int .i64 (storeF m a n w).2) ∧ RmAt W' R (FN F W W') (storeF m a n w).1 ∧ KP W.heap.size F W W' := by
  have HB := Lib.hid (rbad_any W R F m h a n ha)
  by_cases he : numE m a n = 0
  · obtain ⟨k, rfl, hk1, hk8, hs, hin⟩ := numE_fits h.ok he
    have hl : storeF m a (k : Int) w = (wrL m a (littleN w.toNat k), 0) := by unfold storeF; rw [if_pos he, Int.toNat_natCast, Int.toNat_natCast]
    rw [hl]
    rw [he] at HB
    have HL := Lib.hid (rlittle_any w k W hw0 hw1)
    rw [littleZ_eq w k hk1 hk8, littleN_length] at HL
    have HM := Lib.hid h
    have HIN := Lib.hid hin
    clear hl he h hin
    go_enter Tryz.func35, Tryz.ntmps35
    go_wp2_with fail
    refine HB.out.mono ?_; rintro e W1 ⟨rfl, rfl⟩
    go_wp2_with fail
    refine HL.out.mono ?_; rintro e W2 ⟨v, rfl, hown, hb⟩
    obtain ⟨va, vc, rfl, -⟩ := own_slice hown
    have HWR := Lib.hid (rwrite_any W2 R F m (HM.out.below hb) a k vc va (littleN w.toNat k) (littleN_length _ _) HIN.out (by omega) (littleN_lt _ _) (Rd.of_own hown) (fun g off e hg => by
      rcases hown.2 with ⟨e0, e1⟩ | ⟨g', cap, cur, e1, hg', -⟩
      · omega
      · rw [Value.slice.injEq] at e1
        rw [e1.1] at e
        cases e
        have := HM.out.lt _ hg
        omega))
    have HKB := Lib.hid (KP.of_below F hb)
    have hsz := hb.size
    clear hown hb
    go_wp2_with fail
    refine HWR.out.mono ?_; rintro e W3 ⟨rfl, hm3, hk3⟩
    have HK3 : Hid (KP W.heap.size F W W3) := Lib.hid (HKB.out.trans (hk3.mono hsz (fun _ _ e => e)))
    have HM3 : Hid (RmAt W3 R (FN F W W3) (wrL m a (littleN w.toNat k))) := Lib.hid (hm3.mono (fun q hq => by
      rcases hq with hq | hq
      · exact Or.inl hq
      · exact Or.inr ⟨by omega, hq.2⟩) (fun q hq => by
      rcases hq with hq | hq
      · have h1 := HM.out.lt q hq; have h2 := HK3.out.size; omega
      · exact hq.2))
    clear hm3 hk3
    go_wp2_with fail
    go_ret
    exact ⟨rfl, HM3.out, HK3.out⟩
  · have hl : storeF m a n w = (m, numE m a n) := by unfold storeF; rw [if_neg he]
    rw [hl]
    obtain ⟨e1, he1⟩ : ∃ e, numE m a n = e := ⟨_, rfl⟩
    rw [he1] at HB he ⊢
    have HM : Hid (RmAt W R (FN F W W) m) := Lib.hid (h.mono (fun q hq => Or.inl hq) (fun q hq => by rcases hq with hq | hq; exact h.lt q hq; exact hq.2))
    clear hl he1 h
    go_enter Tryz.func35, Tryz.ntmps35
    go_wp2_with fail
    refine HB.out.mono ?_; rintro e W1 ⟨rfl, rfl⟩
    go_wp2_with fail
    go_ret
    exact ⟨rfl, HM.out, KP.refl _ _ _⟩
end Go.Proofs.YtegoddghfjfibaaGreatDoor

namespace Go.Proofs.YtegoddghfjfibaaGreatDoor
set_option linter.unusedVariables false
set_option linter.unusedSimpArgs false
open Go.Joins Go.ChangeShapes Go.WideShapes Go.ChangeAt Go.RowKit Go.Deep

theorem rmap_step {W U : World} {R : Nat} {F : Nat → Prop} {m : Mm} {na ca ka : Option Addr} {nc cc kc : Nat} {cs : List (Nat × Nat)} (h : RmO W R F m na ca ka nc cc kc cs) {p : Nat} (hp : p ∉ m.pgs) (hp1 : p < 65536) (hl : m.pgs.length < m.bud) (hb : Below W.heap.size W U) {ra : Option Addr} {rc : Nat}
    (ho : U.ownsRow W.heap.size 22 1 (.slice ra (ins p m.pgs).length rc) (ins p m.pgs).length (u64s (ins p m.pgs))) :
    RmAt (U.setCell ⟨R, 0, none⟩ (.slice ra (ins p m.pgs).length rc)) R (FN F W (U.setCell ⟨R, 0, none⟩ (.slice ra (ins p m.pgs).length rc))) (addP m p) ∧ KP W.heap.size F W (U.setCell ⟨R, 0, none⟩ (.slice ra (ins p m.pgs).length rc)) := by
  have hR : R < W.heap.size := h.lt _ h.fr
  have hk : KP W.heap.size (· = R) W (U.setCell ⟨R, 0, none⟩ (.slice ra (ins p m.pgs).length rc)) := (KP.of_below (· = R) hb).set ⟨R, 0, none⟩ (Or.inr rfl) _
  have hbx : BoxN (U.setCell ⟨R, 0, none⟩ (.slice ra (ins p m.pgs).length rc)) R #[.slice ra (ins p m.pgs).length rc, .slice ca cs.length cc, .slice ka m.mks.length kc, .int .i64 (m.bud : Int)] := (boxN_below h.box hb).set 0 (.slice ra (ins p m.pgs).length rc)
  have ho2 := own_kp2 ho (KP.set1 U R 0 (.slice ra (ins p m.pgs).length rc)) (by intro q hq e; have h1 : q = R := e; omega)
  refine ⟨⟨ra, ca, ka, rc, cc, kc, cs, okm_addP h.ok hp hp1 hl, hbx, ?_, ?_, ?_, ⟨h.co.look, fun x hx => ⟨(mem_ins p _ _).2 (Or.inr (h.co.in_ x hx).1), (h.co.in_ x hx).2⟩, h.co.nd⟩, Or.inl h.fr, fun q hq => ?_⟩, hk.mono (Nat.le_refl _) (fun q _ e => by rw [show q = R from e]; exact h.fr)⟩
  · have := rdF_own (F := F) (R := R) ho2 (Nat.le_refl _) hR
    rw [Nat.mul_one] at this
    exact this
  · exact (h.rc.blocks (fun q hf hne => hk.block q (h.lt q hf) hne) hk.size).mono (fun q hf => Or.inl hf)
  · exact (h.rk.blocks (fun q hf hne => hk.block q (h.lt q hf) hne) hk.size).mono (fun q hf => Or.inl hf)
  · rcases hq with hq | hq
    · exact Nat.lt_of_lt_of_le (h.lt q hq) hk.size
    · exact hq.2
theorem fn_step {F : Nat → Prop} {W wr W3 : World} (hW : W.heap.size ≤ wr.heap.size) (h3 : wr.heap.size ≤ W3.heap.size) : ∀ q, FN (FN F W wr) wr W3 q → FN F W W3 q := fun q hq => by
  rcases hq with (hq | hq) | hq
  · exact Or.inl hq
  · exact Or.inr ⟨hq.1, by omega⟩
  · exact Or.inr ⟨by omega, hq.2⟩
set_option maxRecDepth 100000 in
set_option maxHeartbeats 2000000 in
theorem rmap_any (W : World) (R : Nat) (F : Nat → Prop) (m : Mm) (h : RmAt W R F m) (f n : Int) (hf0 : 0 ≤ f) (hf1 : f < 18446744073709551616) (hn0 : -9223372036854775808 ≤ n) (hn1 : n < 9223372036854775808) :
    Calls Tryz.prog 32 #[.pointer (some ⟨R, 0, none⟩), .int .u64 f, .int .i64 n] W fun e W' => e = .returned (.int .i64 (mapF m f n).2) ∧ RmAt W' R (FN F W W') (mapF m f n).1 ∧ KP W.heap.size F W W' := by
  have HA := Lib.hid (wrong_any f n W hf0 hf1 hn0 hn1)
  have HM0 : Hid (RmAt W R (FN F W W) m) := Lib.hid (h.mono (fun q hq => Or.inl hq) (fun q hq => by rcases hq with hq | hq; exact h.lt q hq; exact hq.2))
  clear hn0 hn1
  cases hbad : badP f n with
  | true =>
    have hp : mapF m f n = (m, 1) := by unfold mapF; rw [if_pos hbad]
    rw [hp]
    rw [hbad] at HA
    clear hp hbad h
    go_enter Tryz.func32, Tryz.ntmps32
    go_wp2_with fail
    refine HA.out.mono ?_; rintro e W0 ⟨rfl, rfl⟩
    go_wp2_with fail
    go_ret
    exact ⟨rfl, HM0.out, KP.refl _ _ _⟩
  | false =>
    rw [hbad] at HA
    obtain ⟨g1, g2, g3, g4⟩ : 1 ≤ n ∧ n ≤ 65536 ∧ f < 65536 ∧ f + n ≤ 65536 := by
      unfold badP at hbad
      simp only [Bool.or_eq_false_iff, decide_eq_false_iff_not] at hbad
      omega
    obtain ⟨f, rfl⟩ := Int.eq_ofNat_of_zero_le hf0
    obtain ⟨n, rfl⟩ := Int.eq_ofNat_of_zero_le (show 0 ≤ n by omega)
    have hfn : f + n ≤ 65536 := by omega
    have hn : 0 < n := by omega
    clear hf0 hf1 g1 g2 g3 g4
    obtain ⟨na, ca, ka, nc, cc, kc, cs, hO⟩ := id h
    have c0 : W.cell? ⟨R, 0, none⟩ = some (.slice na m.pgs.length nc) := hO.box.cell 0
    have c3 : W.cell? ⟨R, 3, none⟩ = some (.int .i64 (m.bud : Int)) := hO.box.cell 3
    have HRN := Lib.hid hO.rn.1
    have hl := h.ok.len
    have hbd := h.ok.bud
    obtain ⟨u, hu⟩ : ∃ z, m.pgs.length = z := ⟨_, rfl⟩
    obtain ⟨v, hv⟩ : ∃ z, m.bud = z := ⟨_, rfl⟩
    rw [hu] at c0 HRN hl
    rw [hv] at c3 hl hbd
    have HU := Lib.hid hu
    have HV := Lib.hid hv
    have HBAD := Lib.hid hbad
    have HOK := Lib.hid h.ok
    have HFL := Lib.hid h.lt
    clear hO hu hv hbad h
    go_enter Tryz.func32, Tryz.ntmps32
    go_wp2_with fail
    refine HA.out.mono ?_; rintro e W0 ⟨rfl, rfl⟩
    go_wp2_with fail
    go_loop [8, 9] (fun i _ => ∃ k : Nat, i = .int .i64 k ∧ k ≤ n ∧ Hid (∀ j, j < k → f + j ∉ m.pgs)) (fun i _ => n - (intOf i).toNat)
    case atStart => exact ⟨0, rfl, by omega, Lib.hid (fun j hj => by omega)⟩
    case round =>
      obtain ⟨k, rfl, hk, HT⟩ := hrel
      by_cases hlt : k < n
      · have HC := Lib.hid (rhas_any na u nc m.pgs (f + k) W HRN.out (by omega))
        have w5 : IntKind.u64.wrap (k : Int) = (k : Int) := by rw [IntKind.wrap_u64]; omega
        have w6 : IntKind.u64.wrap ((f : Int) + (k : Int)) = (f : Int) + (k : Int) := by rw [IntKind.wrap_u64]; omega
        rw [show ((f + k : Nat) : Int) = (f : Int) + (k : Int) by omega] at HC
        have kk1 : (k : Int) < (n : Int) := by omega
        by_cases hin : f + k ∈ m.pgs
        · rw [decide_eq_true hin] at HC
          have hp : mapF m (f : Int) (n : Int) = (m, 32) := by
            unfold mapF
            rw [if_neg (by rw [HBAD.out]; decide), Int.toNat_natCast, Int.toNat_natCast, if_pos (show anyIn m f n = true from List.any_eq_true.2 ⟨k, List.mem_range.2 hlt, decide_eq_true hin⟩)]
          have HPP := Lib.hid hp
          clear hin hp
          go_wp2_with fail
          refine HC.out.mono ?_; rintro e W1 ⟨rfl, rfl⟩
          go_wp2_with fail
          go_ret
          rw [HPP.out]
          exact ⟨rfl, HM0.out, KP.refl _ _ _⟩
        · rw [decide_eq_false hin] at HC
          have HT2 : Hid (∀ j, j < k + 1 → f + j ∉ m.pgs) := Lib.hid (fun j hj => by
            by_cases e : j = k
            · rw [e]; exact hin
            · exact HT.out j (by omega))
          clear hin
          go_wp2_with fail
          refine HC.out.mono ?_; rintro e W1 ⟨rfl, rfl⟩
          go_wp2_with fail
          go_round
          case rel => exact ⟨k + 1, by go_num, by omega, HT2⟩
          case measure => simp [intOf]; omega
      · obtain rfl : n = k := by omega
        have HAN : Hid (anyIn m f n = false) := Lib.hid (by
          rw [Bool.eq_false_iff]
          intro hh
          obtain ⟨j, hj, hd⟩ := List.any_eq_true.1 hh
          exact HT.out j (List.mem_range.1 hj) (of_decide_eq_true hd))
        have w0 : IntKind.i64.wrap ((u : Int) + (n : Int)) = (u : Int) + (n : Int) := by rw [IntKind.wrap_i64]; omega
        by_cases hb : v < u + n
        · have hbi : (v : Int) < (u : Int) + (n : Int) := by omega
          have hp : mapF m (f : Int) (n : Int) = (m, 33) := by
            unfold mapF
            rw [if_neg (by rw [HBAD.out]; decide), Int.toNat_natCast, Int.toNat_natCast, if_neg (by rw [HAN.out]; decide), if_pos (by rw [HU.out, HV.out]; exact hb)]
          have HPP := Lib.hid hp
          clear hp
          go_wp2_with fail
          go_quiet (fail)
          go_wp2_with fail
          go_ret
          rw [HPP.out]
          exact ⟨rfl, HM0.out.below (below_dN _ _), KP.of_below _ (below_dN _ _)⟩
        · have hbi : ¬ (v : Int) < (u : Int) + (n : Int) := by omega
          have hp : mapF m (f : Int) (n : Int) = (addN m f n, 0) := by
            unfold mapF
            rw [if_neg (by rw [HBAD.out]; decide), Int.toNat_natCast, Int.toNat_natCast, if_neg (by rw [HAN.out]; decide), if_neg (by rw [HU.out, HV.out]; exact hb)]
          have HPP := Lib.hid hp
          have HBU : Hid (m.pgs.length + n ≤ m.bud) := Lib.hid (by rw [HU.out, HV.out]; omega)
          clear hp
          go_wp2_with fail
          go_quiet (fail)
          go_wp2_with fail
          go_loopw [10] (fun i wr => ∃ k : Nat, i = .int .i64 k ∧ k ≤ n ∧ Hid (RmAt wr R (FN F W wr) (addN m f k)) ∧ Hid (KP W.heap.size F W wr)) (fun i _ => n - (intOf i).toNat)
          case atStart => exact ⟨0, rfl, by omega, Lib.hid (HM0.out.below (below_dN _ _)), Lib.hid (KP.of_below _ (below_dN _ _))⟩
          case round =>
            obtain ⟨k, rfl, hk, HM, HK⟩ := hrel
            clear c0 c3
            by_cases hlt : k < n
            · obtain ⟨na, ca, ka, nc, cc, kc, cs, hO⟩ := HM.out
              have hno : f + k ∉ (addN m f k).pgs := fun e => by
                rcases (addN_mem m f k _).1 e with q | q
                · omega
                · exact HT.out k hlt q
              have hl2 : (addN m f k).pgs.length < (addN m f k).bud := by rw [(addN_len m f k).1, (addN_len m f k).2.1]; have := HBU.out; omega
              have HST := Lib.hid (fun (U : World) (hb : Below wr.heap.size wr U) (ra : Option Addr) (rc : Nat) ho => rmap_step hO hno (by omega) hl2 hb (ra := ra) (rc := rc) ho)
              have c0 : wr.cell? ⟨R, 0, none⟩ = some (.slice na (addN m f k).pgs.length nc) := hO.box.cell 0
              have HBX := Lib.hid hO.box
              have hl3 := hO.ok.len
              have hl4 := hO.ok.bud
              obtain ⟨z, hz⟩ : ∃ z, (addN m f k).pgs.length = z := ⟨_, rfl⟩
              have hrn := hO.rn.1
              rw [hz] at c0 hl3 hrn HBX
              have HC := Lib.hid (rput_any na z nc (addN m f k).pgs (f + k) wr hrn (by omega))
              rw [length_ins, hz] at HC
              simp only [length_ins, hz] at HST
              have w5 : IntKind.u64.wrap (k : Int) = (k : Int) := by rw [IntKind.wrap_u64]; omega
              have w6 : IntKind.u64.wrap ((f : Int) + (k : Int)) = (f : Int) + (k : Int) := by rw [IntKind.wrap_u64]; omega
              rw [show ((f + k : Nat) : Int) = (f : Int) + (k : Int) by omega] at HC
              have kk1 : (k : Int) < (n : Int) := by omega
              have hsz := HK.out.size
              clear hO hno hl2 hl3 hl4 hrn hz HM
              go_wp2_with fail
              refine HC.out.mono ?_; rintro e U ⟨⟨ra, rc, rfl, hown⟩, hb⟩
              have hst := HST.out U hb ra rc hown
              have hbx := boxN_below HBX.out hb
              have t0 : U.cell? ⟨R, 0, none⟩ = some (.slice na z nc) := hbx.cell 0
              have tz : U.frozen? ⟨R, 0, none⟩ = false := hbx.frozen 0
              have hsu := hb.size
              have HST2 := Lib.hid hst
              clear hown hb hst hbx c0
              go_wp2_with fail
              obtain ⟨W3, hW3⟩ : ∃ W3, U.setCell ⟨R, 0, none⟩ (.slice ra (z + 1) rc) = W3 := ⟨_, rfl⟩
              rw [hW3] at HST2 ⊢
              have hs3 := HST2.out.2.size
              have HM3 : Hid (RmAt W3 R (FN F W W3) (addN m f (k + 1))) := Lib.hid (HST2.out.1.mono (fn_step hsz hs3) (fun q hq => by
                rcases hq with hq | hq
                · have := HFL.out q hq; omega
                · exact hq.2))
              have HK3 : Hid (KP W.heap.size F W W3) := Lib.hid (HK.out.trans (HST2.out.2.mono hsz (fun q hq e => by
                rcases e with e | e
                · exact e
                · omega)))
              clear hW3 t0 tz
              go_roundw
              case rel => exact ⟨k + 1, by go_num, by omega, HM3, HK3⟩
              case measure => simp [intOf]; omega
            · obtain rfl : n = k := by omega
              go_wp2_with fail
              go_ret
              rw [HPP.out]
              exact ⟨rfl, HM.out, HK.out⟩
end Go.Proofs.YtegoddghfjfibaaGreatDoor


