/- Whether texts, and capabilities, are such as a program may get. -/
import Derived.Test.YtjefkhieihigiaaGreatAbR
import Derived.Test.YtjefkhieihigiaaGreatAbB
import Derived.Test.YtjefkhieihigiaaGreatCp1
import Derived.LoopTactic
import Derived.Lib.OthersKept
namespace Go.Proofs.YtjefkhieihigiaaGreat
set_option linter.unusedVariables false
set_option linter.unusedSimpArgs false
open Go.Joins Go.ChangeShapes Go.WideShapes Go.ChangeAt Go.RowKit Go.Deep

theorem iterPosOf {w : World} {k : Nat} {s : ByteArray} {p : Nat} (h : w.heap[k]? = some (.stringIter s p)) : w.iterPos k = p := by simp [World.iterPos, h]
set_option maxHeartbeats 1000000 in
theorem hasZero_any (s : List UInt8) (w : World) :
    Calls Tryz.prog 51 #[.string ⟨s.toArray⟩] w fun e w' => e = .returned (.bool (s.any (· == 0))) ∧ Below w.heap.size w w' := by
  obtain ⟨r, hr⟩ : ∃ r, s.any (· == 0) = r := ⟨_, rfl⟩
  have HR := Lib.hid hr
  rw [hr]
  clear hr
  go_enter Tryz.func51, Tryz.ntmps51
  go_wp2_with fail
  go_loopw [4] (fun _ wr => ∃ pos : Nat, wr.heap[w.heap.size]? = some (.stringIter ⟨s.toArray⟩ pos) ∧ Hid (noZ s pos) ∧ Hid (Below w.heap.size w wr)) (fun _ wr => s.length - wr.iterPos w.heap.size)
  case atStart => exact ⟨0, World.iter_heap w _ 0, Lib.hid (fun i _ h => absurd h (by omega)), Lib.hid (bAlloc (Below.refl _ _) _)⟩
  case round =>
    obtain ⟨pos, hit, HZ, HB⟩ := hrel
    have hpos0 := iterPosOf hit
    by_cases hp : pos < s.length
    · have hnx : ∀ ty, (Instr.next (.pointer (some ⟨w.heap.size, 0, none⟩)) true ty).run Tryz.prog wr = _ := fun ty => Lib.run_next_any_at wr w.heap.size ⟨s.toArray⟩ pos ty hit hp
      obtain ⟨d1, d2, d3⟩ := dec_next s pos hp
      have hit2 := Lib.iterAt_heap wr w.heap.size ⟨s.toArray⟩ pos (pos + (Utf8.decode ⟨s.toArray⟩ pos).2) hit
      have hb2 := Lib.below_iterAt HB.out (k := w.heap.size) (Nat.le_refl _) ⟨s.toArray⟩ (pos + (Utf8.decode ⟨s.toArray⟩ pos).2)
      obtain ⟨W1, hW1⟩ : ∃ W1, W1 = wr.iterAt w.heap.size ⟨s.toArray⟩ (pos + (Utf8.decode ⟨s.toArray⟩ pos).2) := ⟨_, rfl⟩
      rw [← hW1] at hnx hit2 hb2
      obtain ⟨⟨c, q⟩, hcq⟩ : ∃ cq, Utf8.decode ⟨s.toArray⟩ pos = cq := ⟨_, rfl⟩
      rw [hcq] at hnx d1 d2 d3 hit2
      simp only [] at hnx d1 d2 d3 hit2
      have hyes : c = 0 → true = r := fun h => by rw [← HR.out]; exact (anyZ_yes hp (d2.1 h)).symm
      have hno : c ≠ 0 → noZ s (pos + q) := fun h => d3 HZ.out (fun e => h (d2.2 e))
      have HYES := Lib.hid hyes
      have HNO := Lib.hid hno
      have HB2 := Lib.hid hb2
      have HIT2 := Lib.hid hit2
      have HD1 := Lib.hid d1
      have HPOS := Lib.hid hpos0
      have HP := Lib.hid hp
      clear hW1 hit hcq d1 d2 d3 hyes hno hb2 hit2 hpos0 hp
      by_cases hc : c = 0
      · have hf := HYES.out hc
        subst hf
        subst hc
        go_wp2_with fail
        go_ret
        exact ⟨rfl, HB2.out⟩
      · have HN1 := Lib.hid (HNO.out hc)
        have hcI : ¬ (c : Int) = 0 := by omega
        have e1 : ((c : Int) == 0) = false := by simpa using hcI
        go_wp2_with fail
        go_roundw
        case rel => exact ⟨pos + q, HIT2.out, HN1, HB2⟩
        case measure => rw [iterPosOf HIT2.out, HPOS.out]; have := HD1.out; have := HP.out; omega
    · have hnx : ∀ ty, (Instr.next (.pointer (some ⟨w.heap.size, 0, none⟩)) true ty).run Tryz.prog wr = _ := fun ty => Lib.run_next_end_at wr w.heap.size ⟨s.toArray⟩ pos ty hit hp
      have hf : false = r := by rw [← HR.out, anyZ_no (by omega) HZ.out]
      subst hf
      go_wp2_with fail
      go_ret
      exact ⟨rfl, HB.out⟩
theorem badT_any (s : List UInt8) (w : World) :
    Calls Tryz.prog 50 #[.string ⟨s.toArray⟩] w fun e w' => e = .returned (.bool (!textB s)) ∧ Below w.heap.size w w' := by
  have HZ := Lib.hid (hasZero_any s w)
  have hsz : (⟨s.toArray⟩ : ByteArray).size = s.length := mk_size s
  have ht : (!textB s) = (decide (200 < s.length) || s.any (· == 0)) := by
    unfold textB
    rcases Nat.lt_or_ge 200 s.length with h | h
    · rw [decide_eq_false (by omega), decide_eq_true h]; simp
    · rw [decide_eq_true h, decide_eq_false (by omega)]; simp
  rw [ht]
  obtain ⟨z, hz⟩ : ∃ z, s.any (· == 0) = z := ⟨_, rfl⟩
  rw [hz] at HZ ⊢
  obtain ⟨n, hn⟩ : ∃ n, s.length = n := ⟨_, rfl⟩
  rw [hn] at hsz ⊢
  clear hz ht hn
  by_cases h : 200 < n
  · have hI : (200 : Int) < (n : Int) := by omega
    have d1 : decide ((200 : Int) < (n : Int)) = true := decide_eq_true hI
    have d2 : decide (200 < n) = true := decide_eq_true h
    rw [d2, Bool.true_or]
    go_enter Tryz.func50, Tryz.ntmps50
    go_wp2_with fail
    go_ret
    exact ⟨rfl, Below.refl _ _⟩
  · have hI : ¬ (200 : Int) < (n : Int) := by omega
    have d1 : decide ((200 : Int) < (n : Int)) = false := decide_eq_false hI
    have d2 : decide (200 < n) = false := decide_eq_false h
    rw [d2, Bool.false_or]
    go_enter Tryz.func50, Tryz.ntmps50
    go_wp2_with (go_at_call 51; refine HZ.out.mono ?_; rintro e w1 ⟨rfl, hb⟩; have HB1 := Lib.hid hb; clear hb)
    go_ret
    exact ⟨rfl, HB1.out⟩
set_option maxHeartbeats 1000000 in
theorem idxT_any (a : Option Addr) (c : Nat) (l : List (List UInt8)) (w : World) (hr : Rd w a l.length (strs l)) (hl : l.length < 9223372036854775807) :
    Calls Tryz.prog 67 #[.slice a l.length c, .func (.func 50) #[] #[]] w fun e w' => ∃ r : Int, e = .returned (.int .i64 r) ∧ decide (0 ≤ r) = l.any (fun s => !textB s) ∧ Below w.heap.size w w' := by
  have HRD := Lib.hid hr
  obtain ⟨n, hn⟩ : ∃ n, l.length = n := ⟨_, rfl⟩
  have HN := Lib.hid hn
  rw [hn] at hl HRD ⊢
  have HL := Lib.hid hl
  clear hr hl hn
  go_enter Tryz.func67, Tryz.ntmps67
  go_wp2_with fail
  go_loopw [8] (fun i wr => ∃ k : Nat, i = .int .i64 k ∧ k ≤ n ∧ Hid (∀ j (h : j < l.length), j < k → textB l[j] = true) ∧ Hid (Below w.heap.size w wr)) (fun i _ => n - (intOf i).toNat)
  case atStart => exact ⟨0, rfl, by omega, Lib.hid (fun j h h0 => absurd h0 (by omega)), Lib.hid (Below.refl _ _)⟩
  case round =>
    obtain ⟨k, rfl, hk, HQ, HB⟩ := hrel
    have hl := HL.out
    by_cases hlt : k < n
    · have hkl : k < l.length := by rw [HN.out]; exact hlt
      obtain ⟨g, off, hge, -, hc⟩ := (HRD.out.below HB.out).at_ hlt
      subst hge
      rw [strs_get l k hkl] at hc
      have HC := Lib.hid (badT_any l[k] wr)
      have hst : textB l[k] = true → ∀ j (h : j < l.length), j < k + 1 → textB l[j] = true := fun h j hj hj2 => by
        by_cases e : j = k
        · subst e; exact h
        · exact HQ.out j hj (by omega)
      have hhit : textB l[k] = false → l.any (fun s => !textB s) = true := fun h => by
        rw [List.any_eq_true]; exact ⟨l[k], List.getElem_mem hkl, by rw [h]; rfl⟩
      obtain ⟨x, hx⟩ : ∃ x, l[k] = x := ⟨_, rfl⟩
      rw [hx] at hc HC hst hhit
      obtain ⟨q, hq⟩ : ∃ q, textB x = q := ⟨_, rfl⟩
      rw [hq] at HC hst hhit
      have HST := Lib.hid hst
      have HHI := Lib.hid hhit
      have kk0 : (0 : Int) ≤ (k : Int) := by omega
      have kk1 : (k : Int) < (n : Int) := by omega
      clear hst hhit hkl hx hq
      cases q with
      | false =>
        have HA := Lib.hid (HHI.out rfl)
        go_wp2_with (go_at_call 50; refine HC.out.mono ?_; rintro e w' ⟨rfl, hb'⟩; have HB' := Lib.hid (bTrans HB.out hb'); clear hb')
        go_ret
        exact ⟨_, rfl, by rw [HA.out]; exact decide_eq_true kk0, HB'.out⟩
      | true =>
        have HN1 := Lib.hid (HST.out rfl)
        go_wp2_with (go_at_call 50; refine HC.out.mono ?_; rintro e w' ⟨rfl, hb'⟩; have HB' := Lib.hid (bTrans HB.out hb'); clear hb')
        go_roundw
        case rel => exact ⟨k + 1, by go_num, by omega, HN1, HB'⟩
        case measure => simp [intOf]; omega
    · have hk2 : k = n := by omega
      subst hk2
      have ha : l.any (fun s => !textB s) = false := by
        rw [Bool.eq_false_iff, Ne, List.any_eq_true]
        rintro ⟨x, hx, e⟩
        obtain ⟨j, hj, rfl⟩ := List.getElem_of_mem hx
        rw [HQ.out j hj (by rw [HN.out] at hj; exact hj)] at e
        cases e
      have HA := Lib.hid ha
      clear ha
      go_wp2_with fail
      go_ret
      exact ⟨_, rfl, by rw [HA.out]; rfl, HB.out⟩
theorem hasT_any (a : Option Addr) (c : Nat) (l : List (List UInt8)) (w : World) (hr : Rd w a l.length (strs l)) (hl : l.length < 9223372036854775807) :
    Calls Tryz.prog 49 #[.slice a l.length c, .func (.func 50) #[] #[]] w fun e w' => e = .returned (.bool (l.any (fun s => !textB s))) ∧ Below w.heap.size w w' := by
  have HI := Lib.hid (idxT_any a c l w hr hl)
  obtain ⟨z, hz⟩ : ∃ z, l.any (fun s => !textB s) = z := ⟨_, rfl⟩
  rw [hz] at HI ⊢
  clear hr hl hz
  go_enter Tryz.func49, Tryz.ntmps49
  go_wp2_with (go_at_call 67; refine HI.out.mono ?_; rintro e w1 ⟨r, rfl, hd, hb⟩; have HB := Lib.hid hb; clear hb)
  go_ret
  exact ⟨by rw [← hd]; rfl, HB.out⟩
theorem textsFit_any (a : Option Addr) (c : Nat) (l : List (List UInt8)) (w : World) (hr : Rd w a l.length (strs l)) (hl : l.length < 9223372036854775807) :
    Calls Tryz.prog 29 #[.slice a l.length c] w fun e w' => e = .returned (.bool (textsB l)) ∧ Below w.heap.size w w' := by
  have HH := Lib.hid (hasT_any a c l w hr hl)
  have ht : textsB l = (decide (l.length ≤ 8) && !(l.any (fun s => !textB s))) := by
    unfold textsB
    congr 1
    rw [List.not_any_eq_all_not]
    simp
  rw [ht]
  obtain ⟨z, hz⟩ : ∃ z, l.any (fun s => !textB s) = z := ⟨_, rfl⟩
  rw [hz] at HH ⊢
  obtain ⟨n, hn⟩ : ∃ n, l.length = n := ⟨_, rfl⟩
  rw [hn] at HH ⊢
  clear hr hl hz ht hn
  by_cases h : n ≤ 8
  · have hI : (n : Int) ≤ 8 := by omega
    have d1 : decide ((n : Int) ≤ 8) = true := decide_eq_true hI
    have d2 : decide (n ≤ 8) = true := decide_eq_true h
    rw [d2, Bool.true_and]
    go_enter Tryz.func29, Tryz.ntmps29
    go_wp2_with (go_at_call 49; refine HH.out.mono ?_; rintro e w1 ⟨rfl, hb⟩; have HB1 := Lib.hid hb; clear hb)
    go_ret
    exact ⟨rfl, HB1.out⟩
  · have hI : ¬ (n : Int) ≤ 8 := by omega
    have d1 : decide ((n : Int) ≤ 8) = false := decide_eq_false hI
    have d2 : decide (n ≤ 8) = false := decide_eq_false h
    rw [d2, Bool.false_and]
    go_enter Tryz.func29, Tryz.ntmps29
    go_wp2_with fail
    go_ret
    exact ⟨rfl, Below.refl _ _⟩
end Go.Proofs.YtjefkhieihigiaaGreat
