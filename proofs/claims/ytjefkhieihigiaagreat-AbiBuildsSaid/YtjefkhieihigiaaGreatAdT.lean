/- The document's texts: are these right? -/
import Derived.Test.YtjefkhieihigiaaGreatAbR
import Derived.Test.YtjefkhieihigiaaGreatAbV
import Derived.BigQuiet
namespace Go.Proofs.YtjefkhieihigiaaGreat
set_option linter.unusedVariables false
set_option linter.unusedSimpArgs false
open Go.Joins Go.ChangeShapes Go.WideShapes Go.ChangeAt Go.RowKit Go.Deep

set_option maxRecDepth 100000 in
set_option maxHeartbeats 4000000 in
theorem dtexts_any (a : Option Addr) (c : Nat) (l : List (List UInt8)) (w : World) (hr : Rd w a l.length (strs l)) (hl : l.length < 9223372036854775808) (hf : ∀ s ∈ l, s.length ≤ maxLen) :
    Calls Tryz.prog 59 #[.slice a l.length c] w fun e w' => e = .returned (.bool (textsB l)) ∧ w = w' := by
  have HRD := Lib.hid hr
  have HF := Lib.hid hf
  obtain ⟨n, hn⟩ : ∃ n, l.length = n := ⟨_, rfl⟩
  have HN := Lib.hid hn
  obtain ⟨r, hrr⟩ : ∃ r, textsB l = r := ⟨_, rfl⟩
  have HRR := Lib.hid hrr
  rw [hn] at hl ⊢
  rw [hrr]
  have HL := Lib.hid hl
  have HBAD := Lib.hid (fun k (h : k < l.length) (hb : textB l[k] = false) => (show textsB l = false by
    unfold textsB
    rw [Bool.and_eq_false_iff]
    right
    rw [Bool.eq_false_iff, Ne, List.all_eq_true]
    intro h2
    have := h2 l[k] (List.getElem_mem h)
    rw [hb] at this
    cases this))
  clear hr hf hn hrr hl
  go_enter Tryz.func59, Tryz.ntmps59
  go_wp2_with fail
  go_loopw [3, 4] (fun i kk wr => ∃ k : Nat, i = .int .i64 (k : Int) ∧ k ≤ n ∧ Hid (∀ j (h : j < l.length), j < k → textB l[j] = true) ∧ w = wr) (fun i _ _ => n - (intOf i).toNat)
  case atStart => exact ⟨0, rfl, Nat.zero_le _, Lib.hid (fun j h h0 => absurd h0 (by omega)), rfl⟩
  case round =>
    obtain ⟨k, rfl, hk, HQ, rfl⟩ := hrel
    have hl := HL.out
    by_cases hkn : k < n
    · have hkl : k < l.length := by rw [HN.out]; exact hkn
      obtain ⟨g, off, hge, -, hc⟩ := HRD.out.at_ (show k < l.length from hkl)
      subst hge
      rw [strs_get l k hkl] at hc
      have hbad := HBAD.out k hkl
      have hsl2 := HF.out l[k] (List.getElem_mem hkl)
      have hnext : textB l[k] = true → ∀ j (h : j < l.length), j < k + 1 → textB l[j] = true := fun h j hj hj2 => by
        by_cases e : j = k
        · subst e; exact h
        · exact HQ.out j hj (by omega)
      obtain ⟨s, hs⟩ : ∃ s, l[k] = s := ⟨_, rfl⟩
      rw [hs] at hc hbad hnext hsl2
      have hsz : (ByteArray.mk s.toArray).size = s.length := mk_size s
      have kk0 : (0 : Int) ≤ (k : Int) := by omega
      have kk1 : (k : Int) < (n : Int) := by omega
      have hd1 : decide ((k : Int) < (n : Int)) = true := decide_eq_true kk1
      have HB2 := Lib.hid hbad
      have HN2 := Lib.hid hnext
      have HKN := Lib.hid hkn
      have hmx : s.length < 9223372036854775808 := max_lt3 hsl2
      clear hbad hnext hs hsl2 hkn hk hkl
      by_cases h200 : 200 < s.length
      · have d1 : decide ((200 : Int) < (s.length : Int)) = true := decide_eq_true (by omega)
        have ht : textB s = false := by unfold textB; rw [decide_eq_false (by omega)]; rfl
        have hfin := HB2.out ht
        rw [HRR.out] at hfin
        clear h200 ht hmx
        go_wp2_with fail
        go_ret
        exact ⟨by rw [hfin]; rfl, rfl⟩
      have d1 : decide ((200 : Int) < (s.length : Int)) = false := decide_eq_false (by omega)
      have H200 := Lib.hid h200
      clear h200
      go_wp2_with fail
      go_loopw [4] (fun kk wr => ∃ q : Nat, kk = .int .i64 (q : Int) ∧ q ≤ s.length ∧ Hid ((s.take q).any (· == 0) = false) ∧ w = wr) (fun kk _ => s.length - (intOf kk).toNat)
      case atStart => exact ⟨0, rfl, Nat.zero_le _, Lib.hid rfl, rfl⟩
      case round =>
        obtain ⟨q, rfl, hq, HP, rfl⟩ := hrel
        by_cases h : q < s.length
        · have hst : (s.take (q + 1)).any (· == 0) = ((s.take q).any (· == 0) || s[q] == 0) := by
            rw [List.take_add_one, List.getElem?_eq_getElem h, List.any_append]; simp
          have hmi : s[q] = 0 → textB s = false := fun e => by
            unfold textB
            rw [Bool.and_eq_false_iff]
            right
            rw [Bool.not_eq_false', List.any_eq_true]
            exact ⟨s[q], List.getElem_mem h, by rw [e]; rfl⟩
          rw [HP.out, Bool.false_or] at hst
          obtain ⟨c0, hcc⟩ : ∃ c, s[q] = c := ⟨_, rfl⟩
          rw [hcc] at hst hmi
          obtain ⟨cn, hcn⟩ : ∃ c : Nat, c0.toNat = c := ⟨_, rfl⟩
          have hce : ((ByteArray.mk s.toArray)[q]'h).toNat = cn := by rw [← hcn, ← hcc]; rfl
          have HST := Lib.hid hst
          have HMI := Lib.hid hmi
          have HCN := Lib.hid hcn
          have hlt : cn < 256 := by rw [← hcn]; exact c0.toNat_lt
          have kq0 : (0 : Int) ≤ (q : Int) := by omega
          have kq1 : (q : Int) < (s.length : Int) := by omega
          have hd2 : decide ((q : Int) < (s.length : Int)) = true := decide_eq_true kq1
          clear hst hmi hcc hcn
          by_cases hz : cn = 0
          · have hc0 : c0 = 0 := UInt8.toNat_inj.1 (by rw [HCN.out, hz]; rfl)
            have hfin := HB2.out (HMI.out hc0)
            rw [HRR.out] at hfin
            have e1 : ((cn : Int) == 0) = true := by simp [hz]
            clear hz hc0
            go_wp2_with fail
            go_ret
            exact ⟨by rw [hfin]; rfl, rfl⟩
          · have hc0 : (c0 == 0) = false := by
              rw [beq_eq_false_iff_ne]
              intro e
              apply hz
              rw [← HCN.out, e]; rfl
            have e1 : ((cn : Int) == 0) = false := by simp [hz]
            have hnx := HST.out
            rw [hc0] at hnx
            have HNX := Lib.hid hnx
            clear hnx hc0
            go_wp2_with fail
            go_roundw
            case rel => exact ⟨q + 1, by go_num, by omega, HNX, trivial⟩
            case measure => simp [intOf]; omega
        · obtain rfl : q = s.length := by omega
          have ht : textB s = true := by
            unfold textB
            have h1 := HP.out
            rw [List.take_of_length_le (Nat.le_refl _)] at h1
            rw [h1, decide_eq_true (by have := H200.out; omega)]
            rfl
          have HN3 := Lib.hid (HN2.out ht)
          have hd2 : decide ((s.length : Int) < (s.length : Int)) = false := by simp
          clear h hq ht
          go_wp2_with fail
          have hkn := HKN.out
          go_roundw
          case rel => exact ⟨k + 1, by go_num, by omega, HN3, trivial⟩
          case measure => simp [intOf]; omega
    · obtain rfl : k = n := by omega
      have ha : l.all textB = true := by
        rw [List.all_eq_true]
        intro x hx
        obtain ⟨j, hj, rfl⟩ := List.getElem_of_mem hx
        exact HQ.out j hj (by rw [HN.out] at hj; exact hj)
      have hfin := HRR.out
      unfold textsB at hfin
      rw [ha, HN.out, Bool.and_true] at hfin
      have hd1 : decide ((k : Int) < (k : Int)) = false := by simp
      by_cases h8 : k ≤ 8
      · have d1 : decide ((k : Int) ≤ 8) = true := decide_eq_true (by omega)
        rw [decide_eq_true h8] at hfin
        have HFIN := Lib.hid hfin
        clear ha h8 hkn hk hfin
        go_wp2_with fail
        go_ret
        exact ⟨by rw [← HFIN.out]; rfl, rfl⟩
      · have d1 : decide ((k : Int) ≤ 8) = false := decide_eq_false (by omega)
        rw [decide_eq_false h8] at hfin
        have HFIN := Lib.hid hfin
        clear ha h8 hkn hk hfin
        go_wp2_with fail
        go_ret
        exact ⟨by rw [← HFIN.out]; rfl, rfl⟩
end Go.Proofs.YtjefkhieihigiaaGreat
