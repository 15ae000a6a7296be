/- The document's memory: lists of numbers: contracts. -/
import Derived.Test.YtgfkjlknkbdjiaaTmP
namespace Go.Proofs.Ytgfkjlknkbdjiaa
set_option linter.unusedVariables false
set_option linter.unusedSimpArgs false
open Go.Joins Go.ChangeShapes Go.WideShapes Go.ChangeAt Go.RowKit Go.Deep

def u64s (l : List Nat) : List Value := l.map fun (x : Nat) => Value.int .u64 (x : Int)
theorem u64s_length (l : List Nat) : (u64s l).length = l.length := by simp [u64s]
theorem u64s_get (l : List Nat) (k : Nat) (h : k < l.length) : (u64s l)[k]? = some (.int .u64 ((l[k] : Nat) : Int)) := by simp [u64s, h]
theorem u64s_snoc (l : List Nat) (x : Nat) : u64s (l ++ [x]) = u64s l ++ [.int .u64 (x : Int)] := by simp [u64s]
theorem infoU64 : (Try.prog.info? 39).map (fun i => (i.zero, i.size, i.bytes)) = some (some (.int .u64 0), 1, 8) := by kernel_rfl
theorem rhas_any (a : Option Addr) (n c : Nat) (l : List Nat) (p : Nat) (w : World) (hl : Rd w a n (u64s l)) (hn : n < 9223372036854775808) :
    Calls Try.prog 53 #[.slice a n c, .int .u64 (p : Int)] w fun e w' => e = .returned (.bool (decide (p ∈ l))) ∧ w = w' := by
  have hln : l.length = n := by rw [← u64s_length]; exact hl.1
  obtain ⟨r, hr⟩ : ∃ r, decide (p ∈ l) = r := ⟨_, rfl⟩
  rw [hr]
  have HR := Lib.hid hr
  have HL := Lib.hid hl
  have HN := Lib.hid hln
  clear hr hl hln
  go_enter Try.func53, Try.ntmps53
  go_wp2_with fail
  go_loop [5] (fun i => ∃ k : Nat, i = .int .i64 k ∧ k ≤ n ∧ Hid (p ∉ l.take k)) (fun i => n - (intOf i).toNat)
  case atStart => exact ⟨0, rfl, by omega, Lib.hid (by simp)⟩
  case round =>
    obtain ⟨k, rfl, hk, HT⟩ := hrel
    by_cases hlt : k < n
    · have hkl : k < l.length := by rw [HN.out]; exact hlt
      obtain ⟨b1, o1, rfl, _, c1⟩ := HL.out.at_ hlt
      rw [u64s_get l k hkl] at c1
      have htk : l.take (k + 1) = l.take k ++ [l[k]] := List.take_succ_eq_append_getElem hkl
      have hmem := List.getElem_mem hkl
      obtain ⟨x, hx⟩ : ∃ x, l[k] = x := ⟨_, rfl⟩
      rw [hx] at c1 htk hmem
      have kk0 : (0 : Int) ≤ (k : Int) := by omega
      have kk1 : (k : Int) < (n : Int) := by omega
      have HTK := Lib.hid htk
      have HMEM := Lib.hid hmem
      clear hx hkl htk hmem
      by_cases hxp : x = p
      · subst hxp
        have hrt : true = r := by rw [← HR.out]; exact (decide_eq_true HMEM.out).symm
        subst hrt
        go_wp2_with fail
        go_ret
        exact ⟨rfl, rfl⟩
      · have hne : ¬ (x : Int) = (p : Int) := by omega
        have hne2 : ((x : Int) == (p : Int)) = false := by simp; omega
        have HT2 : Hid (p ∉ l.take (k + 1)) := Lib.hid (by rw [HTK.out, List.mem_append, List.mem_singleton]; rintro (q | q); exact HT.out q; exact hxp q.symm)
        go_wp2_with fail
        go_round
        case rel => exact ⟨k + 1, by go_num, by omega, HT2⟩
        case measure => simp [intOf]; omega
    · obtain rfl : k = n := by omega
      have hrf : false = r := by
        rw [← HR.out]
        have := HT.out
        rw [List.take_of_length_le (by rw [HN.out]; exact Nat.le_refl _)] at this
        exact (decide_eq_false this).symm
      subst hrf
      go_wp2_with fail
      go_ret
      exact ⟨rfl, rfl⟩
set_option maxRecDepth 20000 in
theorem wrong_any (f n : Int) (w : World) (hf0 : 0 ≤ f) (hf1 : f < 18446744073709551616) (hn0 : -9223372036854775808 ≤ n) (hn1 : n < 9223372036854775808) :
    Calls Try.prog 52 #[.int .u64 f, .int .i64 n] w fun e w' => e = .returned (.bool (badP f n)) ∧ w = w' := by
  by_cases h1 : n < 1
  · have hb : badP f n = true := by unfold badP; rw [decide_eq_true h1]; rfl
    rw [hb]
    clear hb
    go_enter Try.func52, Try.ntmps52
    go_wp2_with fail
    go_ret
    exact ⟨rfl, rfl⟩
  · by_cases h2 : 65536 < n
    · have hb : badP f n = true := by unfold badP; rw [decide_eq_true h2]; simp
      rw [hb]
      clear hb
      go_enter Try.func52, Try.ntmps52
      go_wp2_with fail
      go_ret
      exact ⟨rfl, rfl⟩
    · by_cases h3 : 65536 ≤ f
      · have hb : badP f n = true := by unfold badP; rw [decide_eq_true h3]; simp
        rw [hb]
        have h3' : 65535 < f := by omega
        clear hb
        go_enter Try.func52, Try.ntmps52
        go_wp2_with fail
        go_ret
        exact ⟨rfl, rfl⟩
      · have h3' : ¬ 65535 < f := by omega
        have hb : badP f n = decide (65536 < f + n) := by
          unfold badP
          rw [decide_eq_false h1, decide_eq_false h2, decide_eq_false h3]
          simp
        rw [hb]
        have w1 : IntKind.u64.wrap n = n := by rw [IntKind.wrap_u64]; omega
        have w2 : IntKind.u64.wrap (f + n) = f + n := by rw [IntKind.wrap_u64]; omega
        clear hb
        go_enter Try.func52, Try.ntmps52
        go_wp2_with fail
        go_ret
        exact ⟨rfl, rfl⟩
theorem take_filter (l : List Nat) (p k : Nat) (h : k < l.length) : (l.take (k + 1)).filter (· != p) = (l.take k).filter (· != p) ++ (if l[k] = p then [] else [l[k]]) := by
  rw [List.take_succ_eq_append_getElem h, List.filter_append]
  congr 1
  by_cases e : l[k] = p
  · rw [if_pos e]; simp [e]
  · rw [if_neg e]; simp [e]
set_option maxRecDepth 20000 in
theorem take_any (a : Option Addr) (n c : Nat) (l : List Nat) (p : Nat) (w : World) (hl : Rd w a n (u64s l)) (hn : n ≤ 100000) :
    Calls Try.prog 55 #[.slice a n c, .int .u64 (p : Int)] w fun e w' => (∃ ra rc, e = .returned (.slice ra (l.filter (· != p)).length rc) ∧ w'.ownsRow w.heap.size 39 1 (.slice ra (l.filter (· != p)).length rc) (l.filter (· != p)).length (u64s (l.filter (· != p)))) ∧ Below w.heap.size w w' := by
  have hln : l.length = n := by rw [← u64s_length]; exact hl.1
  obtain ⟨L, hL⟩ : ∃ L, l.filter (· != p) = L := ⟨_, rfl⟩
  rw [hL]
  have HLL := Lib.hid hL
  have HL := Lib.hid hl
  have HN := Lib.hid hln
  clear hL hl hln
  go_enter Try.func55, Try.ntmps55
  go_wp2_with fail
  go_loopw [5, 6] (fun ov i wr => ∃ (k : Nat) (xs : List Nat) (v : Value), ov = v ∧ i = .int .i64 k ∧ k ≤ n ∧ xs.length ≤ k ∧ Hid (xs = (l.take k).filter (· != p)) ∧ Hid (wr.ownsRow w.heap.size 39 1 v xs.length (u64s xs)) ∧ Hid (Below w.heap.size w wr)) (fun _ i _ => n - (intOf i).toNat)
  case atStart => exact ⟨0, [], _, rfl, rfl, by omega, by simp, Lib.hid (by simp), Lib.hid (World.ownsRow_nil _ _ _ _), Lib.hid (Below.refl _ _)⟩
  case round =>
    obtain ⟨k, xs, v, rfl, rfl, hk, hxk, HX, HO, HB⟩ := hrel
    have hsz := HB.out.size
    by_cases hlt : k < n
    · have hkl : k < l.length := by rw [HN.out]; exact hlt
      obtain ⟨b1, o1, rfl, _, c1⟩ := (HL.out.below HB.out).at_ hlt
      rw [u64s_get l k hkl] at c1
      have htk := take_filter l p k hkl
      obtain ⟨x, hx⟩ : ∃ x, l[k] = x := ⟨_, rfl⟩
      rw [hx] at c1 htk
      have kk0 : (0 : Int) ≤ (k : Int) := by omega
      have kk1 : (k : Int) < (n : Int) := by omega
      have HTK := Lib.hid htk
      obtain ⟨va, vc, rfl, -⟩ := own_slice HO.out
      clear hx hkl htk
      by_cases hxp : x = p
      · have hxi : ((x : Int) != (p : Int)) = false := by simp [hxp]
        have hxi2 : (x : Int) = (p : Int) := by omega
        have HX2 : Hid (xs = (l.take (k + 1)).filter (· != p)) := Lib.hid (by rw [HTK.out, if_pos hxp, List.append_nil]; exact HX.out)
        clear hxp
        go_wp2_with fail
        go_roundw
        case rel => exact ⟨k + 1, xs, _, rfl, by go_num, by omega, by omega, HX2, HO, HB⟩
        case measure => simp [intOf]; omega
      · have hxi : ((x : Int) != (p : Int)) = true := by simp; omega
        have hxi2 : ¬ (x : Int) = (p : Int) := by omega
        have HX2 : Hid (xs ++ [x] = (l.take (k + 1)).filter (· != p)) := Lib.hid (by rw [HTK.out, if_neg hxp, HX.out])
        have hlen : (xs ++ [x]).length = xs.length + 1 := by simp
        have HLEN := Lib.hid hlen
        clear hxp hlen
        go_wp2_with (at_builtin; refine wpList_appE 32 39 (.int .u64 0) 1 8 Try.underlying32 infoU64 rfl (by decide) (by decide) _ rfl _ _ rfl w.heap.size (.slice va xs.length vc) xs.length (u64s xs) rfl (HO.out.alloc _) (some ⟨wr.heap.size, 0, none⟩) 1 1 [.int .u64 (x : Int)] rfl (Rd.lit wr #[.int .u64 (x : Int)] 39 (by show 1 ≤ maxLen; decide)) (fun u hu => by simp at hu; subst hu; rfl) (by omega) (by rw [size_alloc]; exact Nat.le_succ_of_le hsz) ?_; intro a1 c1 W1 hown1 hgrow1 hat1)
        have HO1 := Lib.hid (show W1.ownsRow w.heap.size 39 1 (.slice a1 (xs.length + 1) c1) (xs.length + 1) (u64s (xs ++ [x])) by rw [u64s_snoc]; exact hown1)
        have HB1 := Lib.hid (grownB (bTrans HB.out (bAlloc (Below.refl _ _) (.cells #[.int .u64 (x : Int)] 39))) hgrow1 (fun r e => (HO.out.lt r e).1))
        clear hown1 hgrow1 hat1
        go_wp2_with fail
        go_roundw
        case rel => exact ⟨k + 1, xs ++ [x], _, rfl, by go_num, by omega, by rw [HLEN.out]; omega, HX2, by rw [HLEN.out]; exact HO1, HB1⟩
        case measure => simp [intOf]; omega
    · obtain rfl : k = n := by omega
      have hxl : xs = L := by
        rw [HX.out, List.take_of_length_le (by rw [HN.out]; exact Nat.le_refl _)]
        exact HLL.out
      subst hxl
      obtain ⟨va, vc, rfl, -⟩ := own_slice HO.out
      go_wp2_with fail
      go_ret
      exact ⟨⟨_, _, rfl, HO.out⟩, HB.out⟩
end Go.Proofs.Ytgfkjlknkbdjiaa
