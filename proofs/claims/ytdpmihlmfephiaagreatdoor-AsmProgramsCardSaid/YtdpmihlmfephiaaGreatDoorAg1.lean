/- Merged: Ae1 Ae2 Ae3 Ae5 Ae7 Af1 Af2 Af3 Af4 Af5 Af6 Af7. -/
import Derived.Test.YtdpmihlmfephiaaGreatDoorAd2
import Derived.Test.YtdpmihlmfephiaaGreatDoorAd4
namespace Go.Proofs.YtdpmihlmfephiaaGreatDoor
set_option linter.unusedVariables false
set_option linter.unusedSimpArgs false
open Go

theorem trim_id {c : UInt8} {r u : List UInt8} {d : UInt8} (h : c :: r = u ++ [d]) (hc : c ≠ 32) (hd : d ≠ 32) : Lib.trimB (c :: r) 32 = c :: r := by
  have h1 : Lib.trimRightB (c :: r) 32 = c :: r := by
    unfold Lib.trimRightB
    rw [h, List.reverse_append, List.reverse_singleton, List.singleton_append, List.dropWhile_cons_of_neg (by simpa using hd), List.reverse_cons, List.reverse_reverse]
  unfold Lib.trimB
  rw [h1]
  unfold Lib.trimLeftB
  exact List.dropWhile_cons_of_neg (by simpa using hc)
theorem kindS_text (op : Int) (x : Ins) (hok : okI op x = true) : kindS (textF op x.rd x.rs1 x.rs2 x.n) = kindA op := by
  obtain ⟨h1, h2, -, -⟩ := okI_parts hok
  unfold kindS
  rw [(cut_text op x.rd x.rs1 x.rs2 x.n h1 h2).1, findF_name op h1 h2]
/-! Codes. -/
end Go.Proofs.YtdpmihlmfephiaaGreatDoor

namespace Go.Proofs.YtdpmihlmfephiaaGreatDoor
set_option linter.unusedVariables false
set_option linter.unusedSimpArgs false
open Go.Joins Go.ChangeShapes Go.WideShapes Go.ChangeAt Go.RowKit Go.Deep

end Go.Proofs.YtdpmihlmfephiaaGreatDoor

namespace Go.Proofs.YtdpmihlmfephiaaGreatDoor
set_option linter.unusedVariables false
set_option linter.unusedSimpArgs false
open Go

end Go.Proofs.YtdpmihlmfephiaaGreatDoor

namespace Go.Proofs.YtdpmihlmfephiaaGreatDoor
set_option linter.unusedVariables false
set_option linter.unusedSimpArgs false
open Go

theorem trimR_one (u : List UInt8) : Lib.trimRightB (u ++ [32]) 32 = Lib.trimRightB u 32 := by
  unfold Lib.trimRightB
  rw [List.reverse_append, List.reverse_singleton, List.singleton_append, List.dropWhile_cons_of_pos (by decide)]
theorem trim_left (u : List UInt8) : Lib.trimB (32 :: u) 32 = Lib.trimB u 32 := by
  unfold Lib.trimB Lib.trimRightB
  rw [List.reverse_cons, List.dropWhile_append]
  split
  · rename_i h
    have h1 : u.reverse.dropWhile (fun x => x == 32) = [] := List.isEmpty_iff.1 h
    rw [h1]
    rfl
  · rw [List.reverse_append, List.reverse_singleton, List.singleton_append]
    unfold Lib.trimLeftB
    rw [List.dropWhile_cons_of_pos (by decide)]
theorem clean_cut (l : List UInt8) : cleanF l = Lib.trimB (l.takeWhile (fun x => x != 59)) 32 := by unfold cleanF; rw [take_cut]
/-! Numbers one below. -/
end Go.Proofs.YtdpmihlmfephiaaGreatDoor

namespace Go.Proofs.YtdpmihlmfephiaaGreatDoor
set_option linter.unusedVariables false
set_option linter.unusedSimpArgs false
open Go.Joins Go.ChangeShapes Go.WideShapes Go.ChangeAt Go.RowKit Go.Deep

set_option maxHeartbeats 4000000 in
theorem rname_any (s : List UInt8) (w : World) (hs : s.length < 9223372036854775808) :
    Calls Tryz.prog 22 #[.string ⟨s.toArray⟩] w fun e w' => e = .returned (.bool (nameB s)) ∧ w = w' := by
  obtain ⟨r, hr⟩ : ∃ r, nameB s = r := ⟨_, rfl⟩
  have HR := Lib.hid hr
  rw [hr]
  clear hr
  go_enter Tryz.func22, Tryz.ntmps22
  go_wp2_with fail
  go_loop [3] (fun i => ∃ k : Nat, k ≤ s.length ∧ i = .int .i64 k ∧ Hid (∀ j (h : j < s.length), j < k → okB s[j].toNat j = true)) (fun i => s.length - (intOf i).toNat)
  case atStart => exact ⟨0, by omega, rfl, Lib.hid (fun j _ h => absurd h (by omega))⟩
  case round =>
    obtain ⟨k, hk, rfl, HP⟩ := hrel
    by_cases h : k < s.length
    · have hst : okB s[k].toNat k = true → ∀ j (h : j < s.length), j < k + 1 → okB s[j].toNat j = true := fun hq j hj hjk => by
        by_cases e : j = k
        · subst e; exact hq
        · exact HP.out j hj (by omega)
      have hmi : okB s[k].toNat k = false → nameB s = false := nameB_miss h
      have hc := UInt8.toNat_lt s[k]
      obtain ⟨c, hcc⟩ : ∃ c, s[k].toNat = c := ⟨_, rfl⟩
      rw [hcc] at hst hmi hc
      have hce : ((ByteArray.mk s.toArray)[k]'h).toNat = c := hcc
      have HST := Lib.hid hst
      have HMI := Lib.hid hmi
      clear hst hmi hcc
      go_wp2_with fail
      all_goals first
        | (have hq : okB c k = true := by
            (try simp only [Bool.not_eq_true', Bool.not_eq_false', decide_eq_true_eq, decide_eq_false_iff_not, bne_iff_ne, ne_eq, bne_eq_false_iff_eq, beq_iff_eq, beq_eq_false_iff_ne] at *)
            unfold okB
            simp only [Bool.or_eq_true, Bool.and_eq_true, decide_eq_true_eq, beq_iff_eq]
            omega
           refine ⟨⟨k + 1, by omega, by go_num, Lib.hid (HST.out hq)⟩, ?_⟩
           simp [intOf]
           omega)
        | (have hq : okB c k = false := by
            (try simp only [Bool.not_eq_true', Bool.not_eq_false', decide_eq_true_eq, decide_eq_false_iff_not, bne_iff_ne, ne_eq, bne_eq_false_iff_eq, beq_iff_eq, beq_eq_false_iff_ne] at *)
            rw [Bool.eq_false_iff]
            intro hh
            unfold okB at hh
            simp only [Bool.or_eq_true, Bool.and_eq_true, decide_eq_true_eq, beq_iff_eq] at hh
            omega
           go_ret
           exact ⟨ret_bool (by rw [← HR.out, HMI.out hq]), rfl⟩)
    · obtain rfl : k = s.length := by omega
      have ha := HP.out
      have HRR : Hid (r = decide (s ≠ [])) := Lib.hid (by
        rw [← HR.out, Bool.eq_iff_iff, nameB_iff, decide_eq_true_eq]
        exact ⟨fun h => h.1, fun h => ⟨h, fun j hj => ha j hj hj⟩⟩)
      clear ha HP HR
      cases s with
      | nil =>
        go_wp2_with fail
        all_goals (go_ret; exact ⟨ret_bool (by rw [HRR.out]; rfl), rfl⟩)
      | cons c t =>
        go_wp2_with fail
        all_goals (go_ret; exact ⟨ret_bool (by rw [HRR.out]; simp), rfl⟩)
end Go.Proofs.YtdpmihlmfephiaaGreatDoor

namespace Go.Proofs.YtdpmihlmfephiaaGreatDoor
set_option linter.unusedVariables false
set_option linter.unusedSimpArgs false
open Go.Joins Go.ChangeShapes Go.WideShapes Go.ChangeAt Go.RowKit Go.Deep

/-- the label that a line is; nothing: it is none -/
def labD (s : List UInt8) : List UInt8 := match labelF s with
  | some o => o
  | none => []
theorem labD_short {s : List UInt8} (h : s.length < 2) : labD s = [] := by
  unfold labD labelF
  match s, h with
  | [], _ => rfl
  | [c], _ => simp [nameB]
theorem labD_no {s : List UInt8} (h : s.getLast? ≠ some 58) : labD s = [] := by
  unfold labD labelF
  rw [if_neg (fun q => h q.1)]
theorem labD_at {s : List UInt8} (h : s.getLast? = some 58) : labD s = if nameB s.dropLast = true then s.dropLast else [] := by
  unfold labD labelF
  by_cases q : nameB s.dropLast = true
  · rw [if_pos ⟨h, q⟩, if_pos q]
  · rw [if_neg (fun z => q z.2), if_neg q]
set_option maxHeartbeats 1000000 in
theorem rlabel_any (s : List UInt8) (w : World) (hs : s.length < 1000000) :
    Calls Tryz.prog 46 #[.string ⟨s.toArray⟩] w fun e w' => e = .returned (.string ⟨(labD s).toArray⟩) ∧ w = w' := by
  have hsz : (⟨s.toArray⟩ : ByteArray).size = s.length := mk_size s
  by_cases h2 : s.length < 2
  · rw [labD_short h2]
    have h2i : (s.length : Int) < 2 := by omega
    have d1 : decide ((s.length : Int) < 2) = true := decide_eq_true h2i
    have d2 : decide (s.length < 2) = true := decide_eq_true h2
    go_enter Tryz.func46, Tryz.ntmps46
    go_wp2_with fail
    go_ret
    exact ⟨rfl, rfl⟩
  · have h2i : ¬ (s.length : Int) < 2 := by omega
    have d1 : decide ((s.length : Int) < 2) = false := decide_eq_false h2i
    have d2 : decide (s.length < 2) = false := decide_eq_false h2
    have hk : s.length - 1 < s.length := by omega
    have hw1 : IntKind.i64.wrap ((s.length : Int) - 1) = ((s.length - 1 : Nat) : Int) := by rw [IntKind.wrap_i64]; omega
    have hgl : s.getLast? = some s[s.length - 1] := by rw [List.getLast?_eq_getElem?, List.getElem?_eq_getElem hk]
    obtain ⟨cb, hcb⟩ : ∃ cb, s[s.length - 1] = cb := ⟨_, rfl⟩
    obtain ⟨k, hkk⟩ : ∃ k, s.length - 1 = k := ⟨_, rfl⟩
    have hks : k < s.length := by omega
    have hcb' : s[k] = cb := by rw [← hcb]; congr 1; exact hkk.symm
    rw [hcb] at hgl
    rw [hkk] at hw1
    obtain ⟨c, hcc⟩ : ∃ c, cb.toNat = c := ⟨_, rfl⟩
    have hce : ((ByteArray.mk s.toArray)[k]'hks).toNat = c := by show s[k].toNat = c; rw [hcb']; exact hcc
    have hdl : s.take k = s.dropLast := by rw [List.dropLast_eq_take, hkk]
    have hex : (⟨s.toArray⟩ : ByteArray).extract 0 k = ⟨(s.take k).toArray⟩ := by rw [Lib.extract_mk]; simp
    rw [hdl] at hex
    obtain ⟨n, hn⟩ : ∃ n, s.length = n := ⟨_, rfl⟩
    by_cases h58 : cb = 58
    · subst h58
      have hc58 : c = 58 := by rw [← hcc]; rfl
      subst hc58
      rw [labD_at hgl]
      have HN := Lib.hid (fun W => rname_any s.dropLast W (by rw [List.length_dropLast]; omega))
      obtain ⟨dl, hd⟩ : ∃ dl, s.dropLast = dl := ⟨_, rfl⟩
      rw [hd] at HN hex ⊢
      cases hb : nameB dl with
      | true =>
        rw [hb] at HN
        rw [if_pos rfl]
        clear hb hd hdl hgl hcb hcb' hkk hn hcc
        go_enter Tryz.func46, Tryz.ntmps46
        go_wp2_with (go_at_call 22; refine (HN.out _).mono ?_; rintro e v2 ⟨rfl, rfl⟩)
        go_ret
        exact ⟨rfl, rfl⟩
      | false =>
        rw [hb] at HN
        rw [if_neg (by decide)]
        clear hb hd hdl hgl hcb hcb' hkk hn hcc
        go_enter Tryz.func46, Tryz.ntmps46
        go_wp2_with (go_at_call 22; refine (HN.out _).mono ?_; rintro e v2 ⟨rfl, rfl⟩)
        go_ret
        exact ⟨rfl, rfl⟩
    · rw [labD_no (by rw [hgl]; intro e; cases e; exact h58 rfl)]
      have hne : ¬ c = 58 := fun e => h58 (by apply UInt8.toNat_inj.1; rw [hcc, e]; rfl)
      have hneI : ¬ (c : Int) = 58 := by omega
      have e1 : ((c : Int) == 58) = false := by simpa using hneI
      have e2 : ((c : Int) != 58) = true := by simpa using hneI
      clear hdl hgl hcb hcb' hkk hn hcc hex
      go_enter Tryz.func46, Tryz.ntmps46
      go_wp2_with fail
      go_ret
      exact ⟨rfl, rfl⟩
end Go.Proofs.YtdpmihlmfephiaaGreatDoor

namespace Go.Proofs.YtdpmihlmfephiaaGreatDoor
set_option linter.unusedVariables false
set_option linter.unusedSimpArgs false
open Go.Joins Go.ChangeShapes Go.WideShapes Go.ChangeAt Go.RowKit Go.Deep

theorem take_at (b : UInt8) (s : List UInt8) (k : Nat) (hk : k < s.length) (h0 : s[k] = b) (h : ∀ j (hj : j < s.length), j < k → s[j] ≠ b) : s.takeWhile (fun x => x != b) = s.take k := by
  rcases take_split b s with ⟨h1, -⟩ | ⟨r, h1, h2⟩
  · exact absurd (h0 ▸ List.getElem_mem hk) h1
  · obtain ⟨t, ht⟩ : ∃ t, s.takeWhile (fun x => x != b) = t := ⟨_, rfl⟩
    rw [ht] at h1 h2 ⊢
    subst h1
    have e : t.length = k := by
      rcases Nat.lt_trichotomy t.length k with q | q | q
      · exact absurd (by simp) (h t.length (by omega) q)
      · exact q
      · rw [List.getElem_append_left q] at h0
        exact absurd (List.mem_of_getElem h0) h2
    rw [← e, List.take_left]
theorem take_none (b : UInt8) (s : List UInt8) (h : ∀ j (hj : j < s.length), s[j] ≠ b) : s.takeWhile (fun x => x != b) = s := by
  rcases take_split b s with ⟨-, h1⟩ | ⟨r, h1, h2⟩
  · exact h1
  · have hm : b ∈ s := by rw [h1]; simp
    obtain ⟨j, hj, e⟩ := List.getElem_of_mem hm
    exact absurd e (h j hj)
def headOk (u : List UInt8) : Prop := ∀ c r, u = c :: r → c ≠ 32
theorem trim_done {u : List UInt8} (h : headOk u) (hl : u = [] ∨ ∃ v d, u = v ++ [d] ∧ d ≠ 32) : Lib.trimB u 32 = u := by
  rcases hl with rfl | ⟨v, d, h1, h2⟩
  · rfl
  · cases u with
    | nil => rfl
    | cons c r => exact trim_id h1 (h c r rfl) h2
end Go.Proofs.YtdpmihlmfephiaaGreatDoor

namespace Go.Proofs.YtdpmihlmfephiaaGreatDoor
set_option linter.unusedVariables false
set_option linter.unusedSimpArgs false
open Go

/-! The labels. -/
theorem nameB_ne {s : List UInt8} (h : nameB s = true) : s ≠ [] := ((nameB_iff s).1 h).1
theorem labD_some {s o : List UInt8} (h : labelF s = some o) : labD s = o ∧ o ≠ [] ∧ s ≠ [] := by
  refine ⟨by unfold labD; rw [h], ?_, fun e => by subst e; cases h⟩
  unfold labelF at h
  split at h
  · rename_i q
    cases h
    exact nameB_ne q.2
  · cases h
theorem labD_none {s : List UInt8} (h : labelF s = none) : labD s = [] := by unfold labD; rw [h]
theorem labD_inv {s o : List UInt8} (h : labD s = o) (ho : o ≠ []) : labelF s = some o := by
  cases hq : labelF s with
  | none => rw [labD_none hq] at h; exact absurd h.symm ho
  | some p => rw [(labD_some hq).1] at h; rw [h]
theorem labD_inv0 {s : List UInt8} (h : labD s = []) : labelF s = none := by
  cases hq : labelF s with
  | none => rfl
  | some p => have := labD_some hq; exact absurd (this.1.symm.trans h) this.2.1
theorem labD_nil : labD [] = [] := rfl
/-- where the document finds a label -/
def findD (nm : List UInt8) : List (List UInt8) → Nat → Int
  | [], _ => -1
  | s :: r, a => if labD s = nm then (a : Int) else findD nm r (if labD s = [] ∧ s ≠ [] then a + 4 else a)
def lookI : Option (Nat × Nat) → Int
  | some y => (y.2 : Int)
  | none => -1
theorem findD_look {nm : List UInt8} (hn : nm ≠ []) : ∀ (L : List (List UInt8)) (i a : Nat), findD nm L a = lookI (lookN nm (numbF i L) a)
  | [], i, a => rfl
  | s :: r, i, a => by
    unfold findD
    by_cases hs : s = []
    · subst hs
      rw [if_neg (by rw [labD_nil]; exact fun e => hn e.symm), if_neg (fun h => h.2 rfl)]
      rw [show numbF i ([] :: r) = numbF (i + 1) r from rfl]
      exact findD_look hn r (i + 1) a
    · rw [show numbF i (s :: r) = (i, s) :: numbF (i + 1) r by rw [numbF, if_neg hs]]
      unfold lookN
      cases hq : labelF s with
      | none =>
        rw [labD_none hq, if_neg (fun e => hn e.symm), if_pos ⟨rfl, hs⟩]
        exact findD_look hn r (i + 1) (a + 4)
      | some o =>
        obtain ⟨h1, h2, -⟩ := labD_some hq
        rw [h1]
        simp only []
        by_cases ho : o = nm
        · rw [if_pos ho, if_pos ho]; rfl
        · rw [if_neg ho, if_neg ho, if_neg (fun h => h2 h.1)]
          exact findD_look hn r (i + 1) a
theorem findD_le (nm : List UInt8) : ∀ (L : List (List UInt8)) (a : Nat), -1 ≤ findD nm L a ∧ findD nm L a ≤ (a + 4 * L.length : Nat)
  | [], a => by unfold findD; omega
  | s :: r, a => by
    unfold findD
    rw [List.length_cons]
    split
    · omega
    · by_cases q : labD s = [] ∧ s ≠ []
      · rw [if_pos q]; have := findD_le nm r (a + 4); omega
      · rw [if_neg q]; have := findD_le nm r a; omega
/-- the line where a label stands first is none above: what is above has none -/
theorem look_first {o : List UInt8} (ho : o ≠ []) : ∀ (L : List (List UInt8)) (i k a : Nat) (hk : k < L.length), labD L[k] = o → (∀ j (hj : j < L.length), j < k → labD L[j] ≠ o) → (lookN o (numbF i L) a).map (·.1) = some (i + k)
  | [], i, k, a, hk, _, _ => absurd hk (by simp)
  | s :: r, i, k, a, hk, h, hno => by
    cases k with
    | zero =>
      have hq := labD_inv (s := s) h ho
      have hs := (labD_some hq).2.2
      rw [show numbF i (s :: r) = (i, s) :: numbF (i + 1) r by rw [numbF, if_neg hs]]
      unfold lookN
      rw [hq]
      simp
    | succ k =>
      have h0 : labD s ≠ o := hno 0 (by simp) (by omega)
      have ih : ∀ a, (lookN o (numbF (i + 1) r) a).map (·.1) = some (i + (k + 1)) := fun a => by
        rw [look_first ho r (i + 1) k a (by simpa using hk) h (fun j hj hjk => hno (j + 1) (by simpa using hj) (by omega))]
        congr 1; omega
      by_cases hs : s = []
      · subst hs
        exact ih a
      · rw [show numbF i (s :: r) = (i, s) :: numbF (i + 1) r by rw [numbF, if_neg hs]]
        unfold lookN
        cases hq : labelF s with
        | none => exact ih (a + 4)
        | some p =>
          simp only []
          have := (labD_some hq).1
          rw [if_neg (fun e => h0 (this.trans e))]
          exact ih a
/-! Names in place of numbers. -/
def aimD (s : List UInt8) : Int := match aimF s with
  | some (h, _) => (h.length : Int)
  | none => -1
def sepAt (s : List UInt8) (j : Nat) : Prop := s[j]? = some 44 ∧ s[j + 1]? = some 32
theorem occ_sep (s : List UInt8) (j : Nat) : Lib.occAt s sepT j = true ↔ sepAt s j := by
  unfold Lib.occAt sepAt sepT
  rw [List.isPrefixOf_iff_prefix]
  constructor
  · rintro ⟨t, ht⟩
    have h0 : (s.drop j)[0]? = some 44 := by rw [← ht]; rfl
    have h1 : (s.drop j)[1]? = some 32 := by rw [← ht]; rfl
    rw [List.getElem?_drop] at h0 h1
    exact ⟨h0, h1⟩
  · rintro ⟨h0, h1⟩
    obtain ⟨l0, e0⟩ := List.getElem?_eq_some_iff.1 h0
    obtain ⟨l1, e1⟩ := List.getElem?_eq_some_iff.1 h1
    refine ⟨s.drop (j + 2), ?_⟩
    rw [List.drop_eq_getElem_cons l0, List.drop_eq_getElem_cons l1, e0, e1]
    rfl
theorem last_at {s : List UInt8} {i : Nat} (h : sepAt s i) (hno : ∀ j, i < j → ¬ sepAt s j) : Lib.lastIndex s sepT = (i : Int) := by
  have hl : i + 1 < s.length := (List.getElem?_eq_some_iff.1 h.2).1
  have h2 : sepT.length = 2 := rfl
  unfold Lib.lastIndex
  rw [if_pos (by rw [h2]; omega)]
  rcases Lib.lastOcc_spec s sepT (s.length - sepT.length + 1) with ⟨e, hall⟩ | ⟨k, hk, e, ho, hmax⟩
  · have := hall i (by rw [h2]; omega)
    rw [(occ_sep s i).2 h] at this; cases this
  · rw [e]
    rcases Nat.lt_trichotomy i k with q | q | q
    · exact absurd ((occ_sep s k).1 ho) (hno k q)
    · rw [q]
    · have := hmax i q (by rw [h2]; omega)
      rw [(occ_sep s i).2 h] at this; cases this
theorem last_no {s : List UInt8} (hno : ∀ j, ¬ sepAt s j) : Lib.lastIndex s sepT < 0 := by
  unfold Lib.lastIndex
  split
  · rcases Lib.lastOcc_spec s sepT (s.length - sepT.length + 1) with ⟨e, -⟩ | ⟨k, -, -, ho, -⟩
    · rw [e]; decide
    · exact absurd ((occ_sep s k).1 ho) (hno k)
  · decide
theorem aimD_kind {s : List UInt8} (h : ¬ (kindS s = 5 ∨ kindS s = 7)) : aimD s = -1 := by
  unfold aimD aimF
  rw [if_neg (by simpa using h)]
theorem aimD_no {s : List UInt8} (hno : ∀ j, ¬ sepAt s j) : aimD s = -1 := by
  unfold aimD aimF
  split
  · rename_i h
    split at h
    · rw [if_pos (last_no hno)] at h; cases h
    · cases h
  · rfl
theorem aimD_at {s : List UInt8} {i : Nat} (hk : kindS s = 5 ∨ kindS s = 7) (h : sepAt s i) (hno : ∀ j, i < j → ¬ sepAt s j) : aimD s = if nameB (s.drop (i + 2)) = true then ((i + 2 : Nat) : Int) else -1 := by
  have hl : i + 1 < s.length := (List.getElem?_eq_some_iff.1 h.2).1
  unfold aimD aimF
  rw [if_pos (by simpa using hk), last_at h hno, if_neg (by omega), Int.toNat_natCast]
  by_cases hn : nameB (s.drop (i + 2)) = true
  · rw [if_pos hn, if_pos hn]
    simp only [List.length_take]
    omega
  · rw [if_neg hn, if_neg hn]
/-- what a name stands in: its parts -/
theorem aim_parts {s h nm : List UInt8} (ha : aimF s = some (h, nm)) : s = h ++ nm ∧ nm ≠ [] ∧ (kindS s = 5 ∨ kindS s = 7) ∧ ∃ p, h = p ++ [44, 32] := by
  unfold aimF at ha
  split at ha
  · rename_i hk
    split at ha
    · cases ha
    · rename_i hneg
      split at ha
      · rename_i hn
        rcases lastIndex_in s with q | ⟨i, hi, hroom⟩
        · exact absurd q hneg
        · rw [hi, Int.toNat_natCast] at ha hn
          cases ha
          refine ⟨(List.take_append_drop _ _).symm, nameB_ne hn, by simpa using hk, s.take i, ?_⟩
          have hsep : sepAt s i := by
            rw [← occ_sep]
            unfold Lib.lastIndex at hi
            split at hi
            · rcases Lib.lastOcc_spec s sepT (s.length - sepT.length + 1) with ⟨e, -⟩ | ⟨k, -, e, ho, -⟩
              · rw [e] at hi; omega
              · rw [e] at hi
                have : k = i := by omega
                rw [← this]; exact ho
            · omega
          obtain ⟨l0, e0⟩ := List.getElem?_eq_some_iff.1 hsep.1
          obtain ⟨l1, e1⟩ := List.getElem?_eq_some_iff.1 hsep.2
          rw [List.take_succ_eq_append_getElem l1, List.take_succ_eq_append_getElem l0, e0, e1]
          simp
      · cases ha
  · cases ha
theorem aimD_some {s h nm : List UInt8} (ha : aimF s = some (h, nm)) : aimD s = (h.length : Int) := by unfold aimD; rw [ha]
theorem aimD_none {s : List UInt8} (ha : aimF s = none) : aimD s = -1 := by unfold aimD; rw [ha]
/-! A text whose number is 0 is an instruction if it is one with another number. -/
theorem text_pre (op rd rs1 rs2 : Int) (hk : kindA op = 5 ∨ kindA op = 7) : ∃ pre : List UInt8, ∀ n, textF op rd rs1 rs2 n = pre ++ ([44, 32] ++ Lib.itoa n) := by
  have t3 : ∀ a b c : List UInt8, tailT [a, b, c] = 32 :: (a ++ ([44, 32] ++ (b ++ ([44, 32] ++ c)))) := fun a b c => by rw [← join3]; rfl
  have t2 : ∀ a b : List UInt8, tailT [a, b] = 32 :: (a ++ ([44, 32] ++ b)) := fun a b => by rw [← join2]; rfl
  rcases hk with h | h
  · refine ⟨opN op ++ 32 :: (regT rs1 ++ ([44, 32] ++ regT rs2)), fun n => ?_⟩
    unfold textF
    rw [h, show opdF 5 rd rs1 rs2 n = [regT rs1, regT rs2, Lib.itoa n] from rfl, t3]
    simp
  · refine ⟨opN op ++ 32 :: regT rd, fun n => ?_⟩
    unfold textF
    rw [h, show opdF 7 rd rs1 rs2 n = [regT rd, Lib.itoa n] from rfl, t2]
    simp
theorem tail_eq {a b x y : List UInt8} (h : a ++ 32 :: x = b ++ 32 :: y) (hx : 32 ∉ x) (hy : 32 ∉ y) : a = b ∧ x = y := by
  rcases List.append_eq_append_iff.1 h with ⟨c, h1, h2⟩ | ⟨c, h1, h2⟩
  · cases c with
    | nil => simp at h1 h2; exact ⟨h1.symm, h2⟩
    | cons z c =>
      rw [List.cons_append] at h2
      injection h2 with e1 e2
      exact absurd (by rw [e2]; simp) hx
  · cases c with
    | nil => simp at h1 h2; exact ⟨h1, h2.symm⟩
    | cons z c =>
      rw [List.cons_append] at h2
      injection h2 with e1 e2
      exact absurd (by rw [e2]; simp) hy
theorem imm_zero {k s : Int} (hk : k = 5 ∨ k = 7) : immB k s 0 = true := by
  rcases hk with rfl | rfl <;> simp [immB]
theorem par_zero {s h nm : List UInt8} {d : Int} {y : Int × Ins} (ha : aimF s = some (h, nm)) (hp : parF (h ++ Lib.itoa d) = some y) : (parF (h ++ [48])).isNone = false := by
  obtain ⟨hs, hne, hk, p, rfl⟩ := aim_parts ha
  obtain ⟨op, x⟩ := y
  obtain ⟨hok, ht⟩ := (parF_iff _ _ _).1 hp
  obtain ⟨h1, h2, h3, h4⟩ := okI_parts hok
  have hmem : (32 : UInt8) ∈ p ++ [44, 32] := by simp
  have hcut : ∀ z : List UInt8, (Lib.cut (p ++ [44, 32] ++ z) [32]).1 = (p ++ [44, 32]).takeWhile (fun x => x != 32) := fun z => by
    rw [← take_cut]
    have := take_split 32 (p ++ [44, 32])
    rcases this with ⟨h5, -⟩ | ⟨r, h5, h6⟩
    · exact absurd hmem h5
    · obtain ⟨t, htt⟩ : ∃ t, (p ++ [44, 32]).takeWhile (fun x => x != 32) = t := ⟨_, rfl⟩
      rw [htt] at h5 h6 ⊢
      rw [h5, List.append_assoc, List.takeWhile_append_of_pos (fun c hc => by simpa using fun (e : c = 32) => h6 (e ▸ hc))]
      simp
  have hks : kindA op = kindS s := by
    rw [← kindS_text op x hok, ht]
    unfold kindS
    rw [hcut, hs, hcut]
  have hk5 : kindA op = 5 ∨ kindA op = 7 := by rw [hks]; exact hk
  have hkz : kindA op = kindZ (bareN op) := if_pos ⟨h1, h2⟩
  obtain ⟨pre, hpre⟩ := text_pre op x.rd x.rs1 x.rs2 hk5
  rw [hpre x.n] at ht
  have e1 : pre ++ ([44, 32] ++ Lib.itoa x.n) = (pre ++ [44]) ++ 32 :: Lib.itoa x.n := by simp
  have e2 : p ++ [44, 32] ++ Lib.itoa d = (p ++ [44]) ++ 32 :: Lib.itoa d := by simp
  rw [e1, e2] at ht
  obtain ⟨q, -⟩ := tail_eq ht (itoa_not _ 32 (by decide)) (itoa_not _ 32 (by decide))
  have e3 : p ++ [44, 32] ++ [48] = textF op x.rd x.rs1 x.rs2 0 := by
    rw [hpre 0]
    have : pre = p := by simpa using q
    rw [this, show Lib.itoa 0 = [48] by decide +kernel]
    simp
  have hok0 : okI op ⟨x.rd, x.rs1, x.rs2, 0⟩ = true := by
    unfold okI
    rw [decide_eq_true ⟨h1, h2⟩, Bool.true_and, Bool.and_eq_true]
    exact ⟨h3, imm_zero (hkz ▸ hk5)⟩
  rw [e3, parF_text op ⟨x.rd, x.rs1, x.rs2, 0⟩ hok0]
  rfl
/-- the text that a line with a name becomes -/
def aimT (h : List UInt8) (z : Int) (p : Nat) : List UInt8 := if z < 0 then h ++ [48] else h ++ Lib.itoa (z - (p : Int))
/-- a line with a name, as the document assembles it -/
theorem asm_aim {all : List (Nat × List UInt8)} {s h nm : List UInt8} {p : Nat} (ha : aimF s = some (h, nm)) :
    asmN all s p = match parF (aimT h (lookI (lookN nm all 0)) p) with
      | none => .inl 50
      | some y => if lookI (lookN nm all 0) < 0 then .inl 51 else .inr (encO y) := by
  unfold asmN
  rw [ha]
  simp only []
  cases hl : lookN nm all 0 with
  | none =>
    have e1 : aimT h (lookI none) p = h ++ [48] := by unfold aimT; rw [if_pos (by decide)]
    have e2 : lookI none < 0 := by decide
    rw [e1]
    cases hq : parF (h ++ [48]) with
    | none => rfl
    | some y => simp only [Option.isNone_some, if_pos e2]; rfl
  | some y =>
    have hz : ¬ lookI (some y) < 0 := by show ¬ (y.2 : Int) < 0; omega
    have e1 : aimT h (lookI (some y)) p = h ++ Lib.itoa ((y.2 : Int) - (p : Int)) := by unfold aimT; rw [if_neg hz]; rfl
    rw [e1]
    cases hq : parF (h ++ Lib.itoa ((y.2 : Int) - (p : Int))) with
    | none =>
      by_cases hz0 : (parF (h ++ [48])).isNone = true
      · rw [if_pos hz0]
      · rw [if_neg hz0]
        simp only [hq]
    | some v =>
      have hz0 := par_zero ha hq
      rw [hz0]
      simp only [hq, if_neg hz]
      rfl
theorem asm_plain {all : List (Nat × List UInt8)} {s : List UInt8} {p : Nat} (ha : aimF s = none) :
    asmN all s p = match parF s with
      | none => .inl 50
      | some y => .inr (encO y) := by
  unfold asmN
  rw [ha]
  rfl
/-! The document's rounds. -/
theorem goD_blank {all : List (Nat × List UInt8)} {L : List (List UInt8)} {i : Nat} (h : i < L.length) (hs : L[i] = []) (code : List UInt8) : goN all (numbF (i + 1) (L.drop i)) code = goN all (numbF (i + 2) (L.drop (i + 1))) code := by
  rw [List.drop_eq_getElem_cons h, hs]
  rfl
theorem goD_says {all : List (Nat × List UInt8)} {L : List (List UInt8)} {i : Nat} (h : i < L.length) (hs : L[i] ≠ []) (code : List UInt8) : goN all (numbF (i + 1) (L.drop i)) code = goN all ((i + 1, L[i]) :: numbF (i + 2) (L.drop (i + 1))) code := by
  rw [List.drop_eq_getElem_cons h, numbF, if_neg hs]
end Go.Proofs.YtdpmihlmfephiaaGreatDoor

namespace Go.Proofs.YtdpmihlmfephiaaGreatDoor
set_option linter.unusedVariables false
set_option linter.unusedSimpArgs false
open Go.Joins Go.ChangeShapes Go.WideShapes Go.ChangeAt Go.RowKit Go.Deep

set_option maxRecDepth 100000 in
set_option maxHeartbeats 4000000 in
theorem rline_any (s : List UInt8) (w : World) (hs : s.length < 1000000) :
    Calls Tryz.prog 84 #[.string ⟨s.toArray⟩] w fun e w' => e = .returned (.string ⟨(cleanF s).toArray⟩) ∧ w = w' := by
  obtain ⟨out, hout⟩ : ∃ out, cleanF s = out := ⟨_, rfl⟩
  rw [hout]
  rw [clean_cut] at hout
  have HOUT := Lib.hid hout
  have HSL := Lib.hid hs
  clear hout hs
  obtain ⟨w0, rfl⟩ : ∃ w0 : World, w0 = w := ⟨_, rfl⟩
  go_enter Tryz.func84, Tryz.ntmps84
  go_wp2_with fail
  go_loopw [0, 3] (fun x i wr => ∃ (k : Nat), k ≤ s.length ∧ x = .string ⟨s.toArray⟩ ∧ i = .int .i64 (k : Int) ∧ Hid (∀ j (hj : j < s.length), j < k → s[j] ≠ 59) ∧ w0 = wr) (fun _ i _ => s.length - (intOf i).toNat)
  case atStart => exact ⟨0, Nat.zero_le _, rfl, rfl, Lib.hid (fun j _ h => absurd h (by omega)), rfl⟩
  case round =>
    obtain ⟨k, hk, rfl, rfl, HP, rfl⟩ := hrel
    have hssz : (⟨s.toArray⟩ : ByteArray).size = s.length := mk_size s
    by_cases h : k < s.length
    · by_cases hq : s[k] = 59
      · have hce : ((ByteArray.mk s.toArray)[k]'h).toNat = 59 := by show s[k].toNat = 59; rw [hq]; rfl
        have hfi := take_at 59 s k h hq HP.out
        have hex : (⟨s.toArray⟩ : ByteArray).extract 0 k = ⟨(s.take k).toArray⟩ := by rw [Lib.extract_mk]; simp
        have HST : Hid (Lib.trimB (s.take k) 32 = out) := Lib.hid (by rw [← hfi]; exact HOUT.out)
        have HLE : Hid ((s.take k).length ≤ 1000000) := Lib.hid (by rw [List.length_take]; have := HSL.out; omega)
        clear hfi hq
        go_wp2_with fail
        go_loopw [0] (fun x wr => ∃ u : List UInt8, x = .string ⟨u.toArray⟩ ∧ u.length ≤ 1000000 ∧ Hid (Lib.trimB u 32 = out) ∧ w0 = wr) (fun x _ => match x with
          | .string b => b.size
          | _ => 0)
        case atStart => exact ⟨_, rfl, HLE.out, HST.out, rfl⟩
        case round =>
          obtain ⟨u, rfl, hul, HU, rfl⟩ := hrel
          have husz : (⟨u.toArray⟩ : ByteArray).size = u.length := mk_size u
          cases u with
          | nil =>
            have HH0 : Hid (headOk []) := Lib.hid (fun c r e => by cases e)
            go_wp2_with fail
            go_loopw [0] (fun x wr => ∃ u : List UInt8, x = .string ⟨u.toArray⟩ ∧ u.length ≤ 1000000 ∧ Hid (headOk u) ∧ Hid (Lib.trimB u 32 = out) ∧ w0 = wr) (fun x _ => match x with
              | .string b => b.size
              | _ => 0)
            case atStart => exact ⟨_, rfl, hul, HH0, HU, rfl⟩
            case round =>
              obtain ⟨u, rfl, hul, HH, HU, rfl⟩ := hrel
              have husz : (⟨u.toArray⟩ : ByteArray).size = u.length := mk_size u
              rcases List.eq_nil_or_concat u with rfl | ⟨v, d, rfl⟩
              · have HE : Hid (([] : List UInt8) = out) := Lib.hid HU.out
                go_wp2_with fail
                go_ret
                exact ⟨by first | (rw [← HE.out]; rfl) | rw [← HE.out], rfl⟩
              · have hvl : (v.concat d).length = v.length + 1 := by simp
                obtain ⟨n, hnv⟩ : ∃ n, v.length = n := ⟨_, rfl⟩
                rw [hnv] at hvl
                have hk : n < (v.concat d).length := by omega
                have hlast : (v.concat d)[n]'hk = d := by simp [← hnv]
                have hp : (0 : Int) < ((v.concat d).length : Int) := by omega
                have d1 : decide ((0 : Int) < ((v.concat d).length : Int)) = true := decide_eq_true hp
                have d2 : decide (0 < (v.concat d).length) = true := decide_eq_true (by omega)
                have hw1 : IntKind.i64.wrap (((v.concat d).length : Int) - 1) = (n : Int) := by rw [IntKind.wrap_i64]; omega
                have hw2 : IntKind.i64.wrap ((n : Int) + 1 - 1) = (n : Int) := by rw [IntKind.wrap_i64]; omega
                have hcat : v.concat d = v ++ [d] := by simp
                by_cases hd : d = 32
                · have hce : ((ByteArray.mk (v.concat d).toArray)[n]'hk).toNat = 32 := by show ((v.concat d)[n]'hk).toNat = 32; rw [hlast, hd]; rfl
                  have hex : (⟨(v.concat d).toArray⟩ : ByteArray).extract 0 n = ⟨v.toArray⟩ := by rw [Lib.extract_mk, hcat]; simp [← hnv]
                  have HU2 : Hid (Lib.trimB v 32 = out) := Lib.hid (by
                    have h := HU.out
                    rw [hcat, hd] at h
                    unfold Lib.trimB at h ⊢
                    rw [trimR_one] at h
                    exact h)
                  have HH2 : Hid (headOk v) := Lib.hid (fun c r e => HH.out c (r ++ [d]) (by rw [hcat, e]; rfl))
                  have hvs : (⟨v.toArray⟩ : ByteArray).size = v.length := mk_size v
                  obtain ⟨u, hu⟩ : ∃ u, v.concat d = u := ⟨_, rfl⟩
                  simp only [hu] at *
                  clear hu hlast hcat hd
                  go_wp2_with fail
                  go_roundw
                  case rel => exact ⟨v, rfl, by omega, HH2, HU2, trivial⟩
                  case measure => simp only []; omega
                · have hce : ((ByteArray.mk (v.concat d).toArray)[n]'hk).toNat = d.toNat := by show ((v.concat d)[n]'hk).toNat = _; rw [hlast]
                  have hne : ¬ d.toNat = 32 := fun e => hd (UInt8.toNat_inj.1 e)
                  obtain ⟨c, hc⟩ : ∃ c, d.toNat = c := ⟨_, rfl⟩
                  rw [hc] at hce hne
                  have hneI : ¬ (c : Int) = 32 := by omega
                  have e1 : ((c : Int) == 32) = false := by simpa using hneI
                  have e2 : (c == 32) = false := by simpa using hne
                  have hfin : v.concat d = out := by
                    have h := HU.out
                    rw [trim_done HH.out (Or.inr ⟨v, d, hcat, hd⟩)] at h
                    exact h
                  have HF := Lib.hid hfin
                  obtain ⟨u, hu⟩ : ∃ u, v.concat d = u := ⟨_, rfl⟩
                  simp only [hu] at *
                  clear hu hlast hcat hd hfin hc
                  go_wp2_with fail
                  go_ret
                  exact ⟨by first | (rw [HF.out]; rfl) | rw [HF.out], rfl⟩
          | cons c r =>
            have hp : (0 : Int) < ((c :: r).length : Int) := by rw [List.length_cons]; omega
            have d1 : decide ((0 : Int) < ((c :: r).length : Int)) = true := decide_eq_true hp
            have d2 : decide (0 < (c :: r).length) = true := decide_eq_true (by rw [List.length_cons]; omega)
            have hk0 : 0 < (c :: r).length := by rw [List.length_cons]; omega
            have hce : ((ByteArray.mk (c :: r).toArray)[0]'hk0).toNat = c.toNat := rfl
            have hll : (c :: r).length = r.length + 1 := List.length_cons
            have hrs : (⟨r.toArray⟩ : ByteArray).size = r.length := mk_size r
            by_cases hc : c = 32
            · subst hc
              have hce : ((ByteArray.mk (32 :: r).toArray)[0]'hk0).toNat = 32 := rfl
              have hex : (⟨(32 :: r).toArray⟩ : ByteArray).extract 1 (r.length + 1) = ⟨r.toArray⟩ := by rw [Lib.extract_mk]; simp
              have HU2 : Hid (Lib.trimB r 32 = out) := Lib.hid (by rw [← trim_left]; exact HU.out)
              obtain ⟨u, hu⟩ : ∃ u, 32 :: r = u := ⟨_, rfl⟩
              simp only [hu] at *
              clear hu
              go_wp2_with fail
              go_roundw
              case rel => exact ⟨r, rfl, by omega, HU2, trivial⟩
              case measure => simp only []; omega
            · have hne : ¬ c.toNat = 32 := fun e => hc (UInt8.toNat_inj.1 e)
              obtain ⟨x, hx⟩ : ∃ x, c.toNat = x := ⟨_, rfl⟩
              rw [hx] at hce hne
              have hneI : ¬ (x : Int) = 32 := by omega
              have e1 : ((x : Int) == 32) = false := by simpa using hneI
              have e2 : (x == 32) = false := by simpa using hne
              have HH0 : Hid (headOk (c :: r)) := Lib.hid (fun c' r' e => by cases e; exact hc)
              obtain ⟨u, hu⟩ : ∃ u, c :: r = u := ⟨_, rfl⟩
              simp only [hu] at *
              clear hu hx hc
              go_wp2_with fail
              go_loopw [0] (fun x wr => ∃ u : List UInt8, x = .string ⟨u.toArray⟩ ∧ u.length ≤ 1000000 ∧ Hid (headOk u) ∧ Hid (Lib.trimB u 32 = out) ∧ w0 = wr) (fun x _ => match x with
                | .string b => b.size
                | _ => 0)
              case atStart => exact ⟨_, rfl, hul, HH0, HU, rfl⟩
              case round =>
                obtain ⟨u, rfl, hul, HH, HU, rfl⟩ := hrel
                have husz : (⟨u.toArray⟩ : ByteArray).size = u.length := mk_size u
                rcases List.eq_nil_or_concat u with rfl | ⟨v, d, rfl⟩
                · have HE : Hid (([] : List UInt8) = out) := Lib.hid HU.out
                  go_wp2_with fail
                  go_ret
                  exact ⟨by first | (rw [← HE.out]; rfl) | rw [← HE.out], rfl⟩
                · have hvl : (v.concat d).length = v.length + 1 := by simp
                  obtain ⟨n, hnv⟩ : ∃ n, v.length = n := ⟨_, rfl⟩
                  rw [hnv] at hvl
                  have hk : n < (v.concat d).length := by omega
                  have hlast : (v.concat d)[n]'hk = d := by simp [← hnv]
                  have hp : (0 : Int) < ((v.concat d).length : Int) := by omega
                  have d1 : decide ((0 : Int) < ((v.concat d).length : Int)) = true := decide_eq_true hp
                  have d2 : decide (0 < (v.concat d).length) = true := decide_eq_true (by omega)
                  have hw1 : IntKind.i64.wrap (((v.concat d).length : Int) - 1) = (n : Int) := by rw [IntKind.wrap_i64]; omega
                  have hw2 : IntKind.i64.wrap ((n : Int) + 1 - 1) = (n : Int) := by rw [IntKind.wrap_i64]; omega
                  have hcat : v.concat d = v ++ [d] := by simp
                  by_cases hd : d = 32
                  · have hce : ((ByteArray.mk (v.concat d).toArray)[n]'hk).toNat = 32 := by show ((v.concat d)[n]'hk).toNat = 32; rw [hlast, hd]; rfl
                    have hex : (⟨(v.concat d).toArray⟩ : ByteArray).extract 0 n = ⟨v.toArray⟩ := by rw [Lib.extract_mk, hcat]; simp [← hnv]
                    have HU2 : Hid (Lib.trimB v 32 = out) := Lib.hid (by
                      have h := HU.out
                      rw [hcat, hd] at h
                      unfold Lib.trimB at h ⊢
                      rw [trimR_one] at h
                      exact h)
                    have HH2 : Hid (headOk v) := Lib.hid (fun c r e => HH.out c (r ++ [d]) (by rw [hcat, e]; rfl))
                    have hvs : (⟨v.toArray⟩ : ByteArray).size = v.length := mk_size v
                    obtain ⟨u, hu⟩ : ∃ u, v.concat d = u := ⟨_, rfl⟩
                    simp only [hu] at *
                    clear hu hlast hcat hd
                    go_wp2_with fail
                    go_roundw
                    case rel => exact ⟨v, rfl, by omega, HH2, HU2, trivial⟩
                    case measure => simp only []; omega
                  · have hce : ((ByteArray.mk (v.concat d).toArray)[n]'hk).toNat = d.toNat := by show ((v.concat d)[n]'hk).toNat = _; rw [hlast]
                    have hne : ¬ d.toNat = 32 := fun e => hd (UInt8.toNat_inj.1 e)
                    obtain ⟨c, hc⟩ : ∃ c, d.toNat = c := ⟨_, rfl⟩
                    rw [hc] at hce hne
                    have hneI : ¬ (c : Int) = 32 := by omega
                    have e1 : ((c : Int) == 32) = false := by simpa using hneI
                    have e2 : (c == 32) = false := by simpa using hne
                    have hfin : v.concat d = out := by
                      have h := HU.out
                      rw [trim_done HH.out (Or.inr ⟨v, d, hcat, hd⟩)] at h
                      exact h
                    have HF := Lib.hid hfin
                    obtain ⟨u, hu⟩ : ∃ u, v.concat d = u := ⟨_, rfl⟩
                    simp only [hu] at *
                    clear hu hlast hcat hd hfin hc
                    go_wp2_with fail
                    go_ret
                    exact ⟨by first | (rw [HF.out]; rfl) | rw [HF.out], rfl⟩
      · have hst : ∀ j (hj : j < s.length), j < k + 1 → s[j] ≠ 59 := fun j hj hjk => by
          by_cases e : j = k
          · subst e; exact hq
          · exact HP.out j hj (by omega)
        obtain ⟨c, hcc⟩ : ∃ c, s[k].toNat = c := ⟨_, rfl⟩
        have hce : ((ByteArray.mk s.toArray)[k]'h).toNat = c := hcc
        have hne : ¬ c = 59 := fun e => hq (by apply UInt8.toNat_inj.1; rw [hcc, e]; rfl)
        have hneI : ¬ (c : Int) = 59 := by omega
        have d1 : ((c : Int) == 59) = false := by simpa using hneI
        have d2 : (c == 59) = false := by simpa using hne
        have hsl := HSL.out
        have HSTT := Lib.hid hst
        clear hst hcc hq
        go_wp2_with fail
        go_roundw
        case rel => exact ⟨k + 1, by omega, rfl, by go_num, HSTT, trivial⟩
        case measure => simp [intOf]; omega
    · obtain rfl : k = s.length := by omega
      have hfi := take_none 59 s (fun j hj => HP.out j hj hj)
      have HST : Hid (Lib.trimB s 32 = out) := Lib.hid (by have h1 := HOUT.out; rw [hfi] at h1; exact h1)
      have HLE : Hid (s.length ≤ 1000000) := Lib.hid (by have := HSL.out; omega)
      clear hfi
      go_wp2_with fail
      go_loopw [0] (fun x wr => ∃ u : List UInt8, x = .string ⟨u.toArray⟩ ∧ u.length ≤ 1000000 ∧ Hid (Lib.trimB u 32 = out) ∧ w0 = wr) (fun x _ => match x with
        | .string b => b.size
        | _ => 0)
      case atStart => exact ⟨_, rfl, HLE.out, HST.out, rfl⟩
      case round =>
        obtain ⟨u, rfl, hul, HU, rfl⟩ := hrel
        have husz : (⟨u.toArray⟩ : ByteArray).size = u.length := mk_size u
        cases u with
        | nil =>
          have HH0 : Hid (headOk []) := Lib.hid (fun c r e => by cases e)
          go_wp2_with fail
          go_loopw [0] (fun x wr => ∃ u : List UInt8, x = .string ⟨u.toArray⟩ ∧ u.length ≤ 1000000 ∧ Hid (headOk u) ∧ Hid (Lib.trimB u 32 = out) ∧ w0 = wr) (fun x _ => match x with
            | .string b => b.size
            | _ => 0)
          case atStart => exact ⟨_, rfl, hul, HH0, HU, rfl⟩
          case round =>
            obtain ⟨u, rfl, hul, HH, HU, rfl⟩ := hrel
            have husz : (⟨u.toArray⟩ : ByteArray).size = u.length := mk_size u
            rcases List.eq_nil_or_concat u with rfl | ⟨v, d, rfl⟩
            · have HE : Hid (([] : List UInt8) = out) := Lib.hid HU.out
              go_wp2_with fail
              go_ret
              exact ⟨by first | (rw [← HE.out]; rfl) | rw [← HE.out], rfl⟩
            · have hvl : (v.concat d).length = v.length + 1 := by simp
              obtain ⟨n, hnv⟩ : ∃ n, v.length = n := ⟨_, rfl⟩
              rw [hnv] at hvl
              have hk : n < (v.concat d).length := by omega
              have hlast : (v.concat d)[n]'hk = d := by simp [← hnv]
              have hp : (0 : Int) < ((v.concat d).length : Int) := by omega
              have d1 : decide ((0 : Int) < ((v.concat d).length : Int)) = true := decide_eq_true hp
              have d2 : decide (0 < (v.concat d).length) = true := decide_eq_true (by omega)
              have hw1 : IntKind.i64.wrap (((v.concat d).length : Int) - 1) = (n : Int) := by rw [IntKind.wrap_i64]; omega
              have hw2 : IntKind.i64.wrap ((n : Int) + 1 - 1) = (n : Int) := by rw [IntKind.wrap_i64]; omega
              have hcat : v.concat d = v ++ [d] := by simp
              by_cases hd : d = 32
              · have hce : ((ByteArray.mk (v.concat d).toArray)[n]'hk).toNat = 32 := by show ((v.concat d)[n]'hk).toNat = 32; rw [hlast, hd]; rfl
                have hex : (⟨(v.concat d).toArray⟩ : ByteArray).extract 0 n = ⟨v.toArray⟩ := by rw [Lib.extract_mk, hcat]; simp [← hnv]
                have HU2 : Hid (Lib.trimB v 32 = out) := Lib.hid (by
                  have h := HU.out
                  rw [hcat, hd] at h
                  unfold Lib.trimB at h ⊢
                  rw [trimR_one] at h
                  exact h)
                have HH2 : Hid (headOk v) := Lib.hid (fun c r e => HH.out c (r ++ [d]) (by rw [hcat, e]; rfl))
                have hvs : (⟨v.toArray⟩ : ByteArray).size = v.length := mk_size v
                obtain ⟨u, hu⟩ : ∃ u, v.concat d = u := ⟨_, rfl⟩
                simp only [hu] at *
                clear hu hlast hcat hd
                go_wp2_with fail
                go_roundw
                case rel => exact ⟨v, rfl, by omega, HH2, HU2, trivial⟩
                case measure => simp only []; omega
              · have hce : ((ByteArray.mk (v.concat d).toArray)[n]'hk).toNat = d.toNat := by show ((v.concat d)[n]'hk).toNat = _; rw [hlast]
                have hne : ¬ d.toNat = 32 := fun e => hd (UInt8.toNat_inj.1 e)
                obtain ⟨c, hc⟩ : ∃ c, d.toNat = c := ⟨_, rfl⟩
                rw [hc] at hce hne
                have hneI : ¬ (c : Int) = 32 := by omega
                have e1 : ((c : Int) == 32) = false := by simpa using hneI
                have e2 : (c == 32) = false := by simpa using hne
                have hfin : v.concat d = out := by
                  have h := HU.out
                  rw [trim_done HH.out (Or.inr ⟨v, d, hcat, hd⟩)] at h
                  exact h
                have HF := Lib.hid hfin
                obtain ⟨u, hu⟩ : ∃ u, v.concat d = u := ⟨_, rfl⟩
                simp only [hu] at *
                clear hu hlast hcat hd hfin hc
                go_wp2_with fail
                go_ret
                exact ⟨by first | (rw [HF.out]; rfl) | rw [HF.out], rfl⟩
        | cons c r =>
          have hp : (0 : Int) < ((c :: r).length : Int) := by rw [List.length_cons]; omega
          have d1 : decide ((0 : Int) < ((c :: r).length : Int)) = true := decide_eq_true hp
          have d2 : decide (0 < (c :: r).length) = true := decide_eq_true (by rw [List.length_cons]; omega)
          have hk0 : 0 < (c :: r).length := by rw [List.length_cons]; omega
          have hce : ((ByteArray.mk (c :: r).toArray)[0]'hk0).toNat = c.toNat := rfl
          have hll : (c :: r).length = r.length + 1 := List.length_cons
          have hrs : (⟨r.toArray⟩ : ByteArray).size = r.length := mk_size r
          by_cases hc : c = 32
          · subst hc
            have hce : ((ByteArray.mk (32 :: r).toArray)[0]'hk0).toNat = 32 := rfl
            have hex : (⟨(32 :: r).toArray⟩ : ByteArray).extract 1 (r.length + 1) = ⟨r.toArray⟩ := by rw [Lib.extract_mk]; simp
            have HU2 : Hid (Lib.trimB r 32 = out) := Lib.hid (by rw [← trim_left]; exact HU.out)
            obtain ⟨u, hu⟩ : ∃ u, 32 :: r = u := ⟨_, rfl⟩
            simp only [hu] at *
            clear hu
            go_wp2_with fail
            go_roundw
            case rel => exact ⟨r, rfl, by omega, HU2, trivial⟩
            case measure => simp only []; omega
          · have hne : ¬ c.toNat = 32 := fun e => hc (UInt8.toNat_inj.1 e)
            obtain ⟨x, hx⟩ : ∃ x, c.toNat = x := ⟨_, rfl⟩
            rw [hx] at hce hne
            have hneI : ¬ (x : Int) = 32 := by omega
            have e1 : ((x : Int) == 32) = false := by simpa using hneI
            have e2 : (x == 32) = false := by simpa using hne
            have HH0 : Hid (headOk (c :: r)) := Lib.hid (fun c' r' e => by cases e; exact hc)
            obtain ⟨u, hu⟩ : ∃ u, c :: r = u := ⟨_, rfl⟩
            simp only [hu] at *
            clear hu hx hc
            go_wp2_with fail
            go_loopw [0] (fun x wr => ∃ u : List UInt8, x = .string ⟨u.toArray⟩ ∧ u.length ≤ 1000000 ∧ Hid (headOk u) ∧ Hid (Lib.trimB u 32 = out) ∧ w0 = wr) (fun x _ => match x with
              | .string b => b.size
              | _ => 0)
            case atStart => exact ⟨_, rfl, hul, HH0, HU, rfl⟩
            case round =>
              obtain ⟨u, rfl, hul, HH, HU, rfl⟩ := hrel
              have husz : (⟨u.toArray⟩ : ByteArray).size = u.length := mk_size u
              rcases List.eq_nil_or_concat u with rfl | ⟨v, d, rfl⟩
              · have HE : Hid (([] : List UInt8) = out) := Lib.hid HU.out
                go_wp2_with fail
                go_ret
                exact ⟨by first | (rw [← HE.out]; rfl) | rw [← HE.out], rfl⟩
              · have hvl : (v.concat d).length = v.length + 1 := by simp
                obtain ⟨n, hnv⟩ : ∃ n, v.length = n := ⟨_, rfl⟩
                rw [hnv] at hvl
                have hk : n < (v.concat d).length := by omega
                have hlast : (v.concat d)[n]'hk = d := by simp [← hnv]
                have hp : (0 : Int) < ((v.concat d).length : Int) := by omega
                have d1 : decide ((0 : Int) < ((v.concat d).length : Int)) = true := decide_eq_true hp
                have d2 : decide (0 < (v.concat d).length) = true := decide_eq_true (by omega)
                have hw1 : IntKind.i64.wrap (((v.concat d).length : Int) - 1) = (n : Int) := by rw [IntKind.wrap_i64]; omega
                have hw2 : IntKind.i64.wrap ((n : Int) + 1 - 1) = (n : Int) := by rw [IntKind.wrap_i64]; omega
                have hcat : v.concat d = v ++ [d] := by simp
                by_cases hd : d = 32
                · have hce : ((ByteArray.mk (v.concat d).toArray)[n]'hk).toNat = 32 := by show ((v.concat d)[n]'hk).toNat = 32; rw [hlast, hd]; rfl
                  have hex : (⟨(v.concat d).toArray⟩ : ByteArray).extract 0 n = ⟨v.toArray⟩ := by rw [Lib.extract_mk, hcat]; simp [← hnv]
                  have HU2 : Hid (Lib.trimB v 32 = out) := Lib.hid (by
                    have h := HU.out
                    rw [hcat, hd] at h
                    unfold Lib.trimB at h ⊢
                    rw [trimR_one] at h
                    exact h)
                  have HH2 : Hid (headOk v) := Lib.hid (fun c r e => HH.out c (r ++ [d]) (by rw [hcat, e]; rfl))
                  have hvs : (⟨v.toArray⟩ : ByteArray).size = v.length := mk_size v
                  obtain ⟨u, hu⟩ : ∃ u, v.concat d = u := ⟨_, rfl⟩
                  simp only [hu] at *
                  clear hu hlast hcat hd
                  go_wp2_with fail
                  go_roundw
                  case rel => exact ⟨v, rfl, by omega, HH2, HU2, trivial⟩
                  case measure => simp only []; omega
                · have hce : ((ByteArray.mk (v.concat d).toArray)[n]'hk).toNat = d.toNat := by show ((v.concat d)[n]'hk).toNat = _; rw [hlast]
                  have hne : ¬ d.toNat = 32 := fun e => hd (UInt8.toNat_inj.1 e)
                  obtain ⟨c, hc⟩ : ∃ c, d.toNat = c := ⟨_, rfl⟩
                  rw [hc] at hce hne
                  have hneI : ¬ (c : Int) = 32 := by omega
                  have e1 : ((c : Int) == 32) = false := by simpa using hneI
                  have e2 : (c == 32) = false := by simpa using hne
                  have hfin : v.concat d = out := by
                    have h := HU.out
                    rw [trim_done HH.out (Or.inr ⟨v, d, hcat, hd⟩)] at h
                    exact h
                  have HF := Lib.hid hfin
                  obtain ⟨u, hu⟩ : ∃ u, v.concat d = u := ⟨_, rfl⟩
                  simp only [hu] at *
                  clear hu hlast hcat hd hfin hc
                  go_wp2_with fail
                  go_ret
                  exact ⟨by first | (rw [HF.out]; rfl) | rw [HF.out], rfl⟩
end Go.Proofs.YtdpmihlmfephiaaGreatDoor

namespace Go.Proofs.YtdpmihlmfephiaaGreatDoor
set_option linter.unusedVariables false
set_option linter.unusedSimpArgs false
open Go.Joins Go.ChangeShapes Go.WideShapes Go.ChangeAt Go.RowKit Go.Deep

def strs (L : List (List UInt8)) : List Value := L.map strV
theorem strs_snoc (L : List (List UInt8)) (x : List UInt8) : strs (L ++ [x]) = strs L ++ [strV x] := by simp [strs]
theorem strs_get (L : List (List UInt8)) (k : Nat) (h : k < L.length) : (strs L)[k]? = some (.string ⟨L[k].toArray⟩) := by simp [strs, h, strV]
def LinesOf (s : List UInt8) (L : List (List UInt8)) : Prop := numbF 1 L = numbF 1 (linesF s) ∧ L.length ≤ s.length + 1 ∧ ∀ x ∈ L, x.length ≤ s.length
def LnI (w : World) (s : List UInt8) (k q : Nat) (L : List (List UInt8)) (v : Value) (wr : World) : Prop :=
  wr.ownsRow w.heap.size 9 1 v L.length (strs L) ∧ linesF s = L ++ (Lib.split (s.drop q) [10]).map cleanF ∧ (∀ j (hj : j < s.length), q ≤ j → j < k → s[j] ≠ 10) ∧ (∀ x ∈ L, x.length ≤ s.length) ∧ Below w.heap.size w wr
theorem ln_free {s : List UInt8} {k q : Nat} (h : ∀ j (hj : j < s.length), q ≤ j → j < k → s[j] ≠ 10) : 10 ∉ (s.drop q).take (k - q) := by
  intro hm
  obtain ⟨j, hj, e⟩ := List.getElem_of_mem hm
  rw [List.length_take, List.length_drop] at hj
  rw [List.getElem_take, List.getElem_drop] at e
  exact h (q + j) (by omega) (by omega) (by omega) e
theorem ln_cut {s : List UInt8} {k q : Nat} (hq : q ≤ k) (hk : k < s.length) (h0 : s[k] = 10) (h : ∀ j (hj : j < s.length), q ≤ j → j < k → s[j] ≠ 10) : Lib.split (s.drop q) [10] = (s.drop q).take (k - q) :: Lib.split (s.drop (k + 1)) [10] := by
  have e : s.drop q = (s.drop q).take (k - q) ++ (10 :: []) ++ s.drop (k + 1) := by
    rw [List.append_assoc, List.singleton_append, ← h0, ← List.drop_eq_getElem_cons hk]
    have : s.drop k = (s.drop q).drop (k - q) := by rw [List.drop_drop]; congr 1; omega
    rw [this, List.take_append_drop]
  have hs := split_at 10 [] ((s.drop q).take (k - q)) (s.drop (k + 1)) (ln_free h)
  rw [← e] at hs
  exact hs
theorem ln_end {s : List UInt8} {q n : Nat} (hn : s.length = n) (h : ∀ j (hj : j < s.length), q ≤ j → j < n → s[j] ≠ 10) : Lib.split (s.drop q) [10] = [s.drop q] := by
  refine split_one 10 [] _ ?_
  have := ln_free h
  rwa [List.take_of_length_le (by rw [List.length_drop]; omega)] at this
theorem ln_le (s : List UInt8) (q m : Nat) : (cleanF ((s.drop q).take m)).length ≤ s.length :=
  Nat.le_trans (cleanF_le _) (by rw [List.length_take, List.length_drop]; omega)
set_option maxRecDepth 100000 in
set_option maxHeartbeats 4000000 in
theorem rlines_any (s : List UInt8) (w : World) (hs : s.length ≤ 5000) :
    Calls Tryz.prog 45 #[.string ⟨s.toArray⟩] w fun e w' => ∃ a c L, e = .returned (.slice a L.length c) ∧ w'.ownsRow w.heap.size 9 1 (.slice a L.length c) L.length (strs L) ∧ LinesOf s L ∧ Below w.heap.size w w' := by
  have hsz : (⟨s.toArray⟩ : ByteArray).size = s.length := mk_size s
  have HI0 : Hid (LnI w s 0 0 [] (.slice none 0 0) w) := Lib.hid ⟨World.ownsRow_nil _ _ _ 1, by simp [linesF], fun j _ _ h => absurd h (by omega), by simp, Below.refl _ _⟩
  have HLN := Lib.hid (fun (p : List UInt8) W (hp : p.length ≤ 5000) => rline_any p W (by omega))
  obtain ⟨n, hn⟩ : ∃ n, s.length = n := ⟨_, rfl⟩
  rw [hn] at hsz hs
  have HNN := Lib.hid hn
  have HSL := Lib.hid hs
  clear hn hs
  go_enter Tryz.func45, Tryz.ntmps45
  go_wp2_with fail
  go_loopw [3, 4, 5] (fun v f i wr => ∃ (k q m : Nat) (a : Option Addr) (cp : Nat) (Lo : List (List UInt8)), k ≤ n ∧ q ≤ k ∧ v = .slice a m cp ∧ f = .int .i64 (q : Int) ∧ i = .int .i64 (k : Int) ∧ m ≤ q ∧ Hid (Lo.length = m) ∧ Hid (LnI w s k q Lo (.slice a m cp) wr)) (fun _ _ i _ => n - (intOf i).toNat)
  case atStart => exact ⟨0, 0, 0, none, 0, [], Nat.zero_le _, Nat.le_refl _, rfl, rfl, rfl, Nat.le_refl _, Lib.hid rfl, HI0⟩
  case round =>
    obtain ⟨k, q, m, a, cp, Lo, hk, hqk, rfl, rfl, rfl, hmq, HLO, HI⟩ := hrel
    have hs5 := HSL.out
    by_cases hkn : k < n
    · have hks : k < s.length := by rw [HNN.out]; exact hkn
      have hd1 : decide ((k : Int) < (n : Int)) = true := decide_eq_true (by omega)
      have hd2 : decide (k < n) = true := decide_eq_true hkn
      by_cases hq : s[k] = 10
      · have hce : ((ByteArray.mk s.toArray)[k]'hks).toNat = 10 := by show s[k].toNat = 10; rw [hq]; rfl
        obtain ⟨p, hp⟩ : ∃ p, (s.drop q).take (k - q) = p := ⟨_, rfl⟩
        have hex : (⟨s.toArray⟩ : ByteArray).extract q k = ⟨p.toArray⟩ := by rw [Lib.extract_mk, hp]
        have hpl : p.length ≤ 5000 := by rw [← hp, List.length_take, List.length_drop, HNN.out]; omega
        have hcl : (cleanF p).length ≤ s.length := by rw [← hp]; exact ln_le s q _
        obtain ⟨cl, hcc⟩ : ∃ cl, cleanF p = cl := ⟨_, rfl⟩
        have HC := Lib.hid (fun W => HLN.out p W hpl)
        rw [hcc] at HC hcl
        have hnx : linesF s = (Lo ++ [cl]) ++ (Lib.split (s.drop (k + 1)) [10]).map cleanF := by
          rw [HI.out.2.1, ln_cut hqk hks hq HI.out.2.2.1, hp, List.map_cons, hcc]
          simp
        have hal : ∀ x ∈ Lo ++ [cl], x.length ≤ s.length := fun x hx => by
          rcases List.mem_append.1 hx with h | h
          · exact HI.out.2.2.2.1 x h
          · rw [List.mem_singleton] at h; rw [h]; exact hcl
        have HNX := Lib.hid hnx
        have HAL := Lib.hid hal
        have HROW := Lib.hid HI.out.1
        have HBLW := Lib.hid HI.out.2.2.2.2
        have hqi : (q : Int) ≤ (k : Int) := by omega
        clear hp hpl hcl hcc hnx hal hq
        obtain ⟨wo, rfl⟩ : ∃ wo : World, wo = wr := ⟨_, rfl⟩
        go_wp2_with (first
          | (go_at_call 84; refine (HC.out _).mono ?_; rintro e w1 ⟨rfl, rfl⟩)
          | (refine wpList_appE 47 9 (.string ⟨#[]⟩) 1 16 Tryz.underlying47 infoStr rfl (by decide) (by decide) _ rfl _ _ rfl w.heap.size (.slice a m cp) m (strs Lo) rfl ((HLO.out ▸ HROW.out).alloc _) (some ⟨wo.heap.size, 0, none⟩) 1 1 [.string ⟨cl.toArray⟩] rfl (Rd.lit wo #[.string ⟨cl.toArray⟩] 9 (by show 1 ≤ maxLen; decide)) (fun u hu => by simp at hu; subst hu; rfl) (by omega) (by rw [World.size_alloc]; have := HBLW.out.size; omega) ?_; intro a3 c3 W3 hown3 hgrow3 hat3; have HO3 := Lib.hid hown3; have HG3 := Lib.hid hgrow3; clear hown3 hgrow3 hat3))
        go_roundw
        case rel => exact ⟨k + 1, k + 1, m + 1, a3, c3, Lo ++ [cl], by omega, Nat.le_refl _, rfl, by go_num, by go_num, by omega, Lib.hid (by rw [List.length_append, HLO.out]; rfl), Lib.hid ⟨by rw [strs_snoc, List.length_append, HLO.out]; exact HO3.out, HNX.out, fun j _ h1 h2 => absurd h1 (by omega), HAL.out, (HBLW.out.trans ((bAlloc (Below.refl wo.heap.size wo) _).mono HBLW.out.size)).grown HG3.out (by rw [World.size_alloc]; have := HBLW.out.size; omega) (fun b e => (HROW.out.lt b e).1)⟩⟩
        case measure => simp [intOf]; omega
      · obtain ⟨c, hcc⟩ : ∃ c, s[k].toNat = c := ⟨_, rfl⟩
        have hce : ((ByteArray.mk s.toArray)[k]'hks).toNat = c := hcc
        have hne : ¬ c = 10 := fun e => hq (by apply UInt8.toNat_inj.1; rw [hcc, e]; rfl)
        have hneI : ¬ (c : Int) = 10 := by omega
        have d1 : ((c : Int) == 10) = false := by simpa using hneI
        have d2 : (c == 10) = false := by simpa using hne
        have hno : ∀ j (hj : j < s.length), q ≤ j → j < k + 1 → s[j] ≠ 10 := fun j hj h1 h2 => by
          by_cases e : j = k
          · subst e; exact hq
          · exact HI.out.2.2.1 j hj h1 (by omega)
        have HIN : Hid (LnI w s (k + 1) q Lo (.slice a m cp) wr) := Lib.hid ⟨HI.out.1, HI.out.2.1, hno, HI.out.2.2.2.1, HI.out.2.2.2.2⟩
        clear hno hcc hq
        go_wp2_with fail
        go_roundw
        case rel => exact ⟨k + 1, q, m, a, cp, Lo, by omega, by omega, rfl, rfl, by go_num, hmq, HLO, HIN⟩
        case measure => simp [intOf]; omega
    · obtain rfl : k = n := by omega
      have hd1 : decide ((k : Int) < (k : Int)) = false := by simp
      have hd2 : decide (k < k) = false := by simp
      have he := ln_end HNN.out HI.out.2.2.1
      have HROW := Lib.hid HI.out.1
      have HBLW := Lib.hid HI.out.2.2.2.2
      by_cases hql : q < k
      · have hd3 : decide ((q : Int) < (k : Int)) = true := decide_eq_true (by omega)
        have hd4 : decide (q < k) = true := decide_eq_true hql
        obtain ⟨p, hp⟩ : ∃ p, s.drop q = p := ⟨_, rfl⟩
        have hex : (⟨s.toArray⟩ : ByteArray).extract q k = ⟨p.toArray⟩ := by rw [Lib.extract_mk, hp, List.take_of_length_le (by rw [← hp, List.length_drop, HNN.out]; omega)]
        have hpl : p.length ≤ 5000 := by rw [← hp, List.length_drop, HNN.out]; omega
        have hcl : (cleanF p).length ≤ s.length := Nat.le_trans (cleanF_le _) (by rw [← hp, List.length_drop]; omega)
        obtain ⟨cl, hcc⟩ : ∃ cl, cleanF p = cl := ⟨_, rfl⟩
        have HC := Lib.hid (fun W => HLN.out p W hpl)
        rw [hcc] at HC hcl
        have hfin : LinesOf s (Lo ++ [cl]) := by
          refine ⟨?_, ?_, fun x hx => ?_⟩
          · rw [HI.out.2.1, he, hp, List.map_cons, hcc]; rfl
          · rw [List.length_append, HLO.out, HNN.out, List.length_singleton]; omega
          · rcases List.mem_append.1 hx with h | h
            · exact HI.out.2.2.2.1 x h
            · rw [List.mem_singleton] at h; rw [h]; exact hcl
        have HFIN := Lib.hid hfin
        have hqi : (q : Int) ≤ (k : Int) := by omega
        clear hp hpl hcl hcc hfin he
        obtain ⟨wo, rfl⟩ : ∃ wo : World, wo = wr := ⟨_, rfl⟩
        go_wp2_with (first
          | (go_at_call 84; refine (HC.out _).mono ?_; rintro e w1 ⟨rfl, rfl⟩)
          | (refine wpList_appE 47 9 (.string ⟨#[]⟩) 1 16 Tryz.underlying47 infoStr rfl (by decide) (by decide) _ rfl _ _ rfl w.heap.size (.slice a m cp) m (strs Lo) rfl ((HLO.out ▸ HROW.out).alloc _) (some ⟨wo.heap.size, 0, none⟩) 1 1 [.string ⟨cl.toArray⟩] rfl (Rd.lit wo #[.string ⟨cl.toArray⟩] 9 (by show 1 ≤ maxLen; decide)) (fun u hu => by simp at hu; subst hu; rfl) (by omega) (by rw [World.size_alloc]; have := HBLW.out.size; omega) ?_; intro a3 c3 W3 hown3 hgrow3 hat3; have HO3 := Lib.hid hown3; have HG3 := Lib.hid hgrow3; clear hown3 hgrow3 hat3))
        go_ret
        have hll : (Lo ++ [cl]).length = m + 1 := by rw [List.length_append, HLO.out]; rfl
        refine ⟨a3, c3, Lo ++ [cl], by rw [hll]; rfl, ?_, HFIN.out, ?_⟩
        · rw [hll, strs_snoc]; exact HO3.out
        · exact (HBLW.out.trans ((bAlloc (Below.refl wo.heap.size wo) _).mono HBLW.out.size)).grown HG3.out (by rw [World.size_alloc]; have := HBLW.out.size; omega) (fun b e => (HROW.out.lt b e).1)
      · have hd3 : decide ((q : Int) < (k : Int)) = false := decide_eq_false (by omega)
        have hd4 : decide (q < k) = false := decide_eq_false hql
        have hp : s.drop q = [] := List.drop_eq_nil_of_le (by rw [HNN.out]; omega)
        have hfin : LinesOf s Lo := by
          refine ⟨?_, ?_, HI.out.2.2.2.1⟩
          · rw [HI.out.2.1, he, hp, List.map_cons, List.map_nil, show cleanF [] = [] by decide +kernel, numbF_snoc, if_pos rfl, List.append_nil]
          · rw [HLO.out, HNN.out]; omega
        have HFIN := Lib.hid hfin
        clear he hp hfin
        go_wp2_with fail
        go_ret
        exact ⟨a, cp, Lo, by rw [HLO.out]; rfl, by rw [HLO.out]; exact HLO.out ▸ HROW.out, HFIN.out, HBLW.out⟩
end Go.Proofs.YtdpmihlmfephiaaGreatDoor

namespace Go.Proofs.YtdpmihlmfephiaaGreatDoor
set_option linter.unusedVariables false
set_option linter.unusedSimpArgs false
open Go.Joins Go.ChangeShapes Go.WideShapes Go.ChangeAt Go.RowKit Go.Deep

theorem kindS_first (s : List UInt8) : kindS s = kindA (findF (firstF s) : Nat) := by unfold kindS; rw [first_cut]
theorem aim_zero : findF ([] : List UInt8) = 0 := by decide +kernel
set_option maxRecDepth 100000 in
set_option maxHeartbeats 4000000 in
theorem raim_any (s : List UInt8) (w : World) (hs : s.length < 100000) :
    Calls Tryz.prog 47 #[.string ⟨s.toArray⟩] w fun e w' => e = .returned (.int .i64 (aimD s)) ∧ Below w.heap.size w w' := by
  have HFI := Lib.hid (fun W => rfirst_any s W (by omega))
  have hks := kindS_first s
  obtain ⟨nm, hnm⟩ : ∃ nm, firstF s = nm := ⟨_, rfl⟩
  rw [hnm] at HFI hks
  by_cases hn0 : nm = []
  · rw [aimD_kind (by rw [hks, hn0, aim_zero]; decide +kernel)]
    subst hn0
    clear hks hnm hs
    go_enter Tryz.func47, Tryz.ntmps47
    go_wp2_with (go_at_call 37; refine (HFI.out _).mono ?_; rintro e w2 ⟨rfl, rfl⟩)
    go_ret
    exact ⟨rfl, Below.refl _ _⟩
  have hne1 : (nm == []) = false := by simpa using hn0
  have HFD := Lib.hid (fun W => rfind_any nm _ (find_fn nm) W)
  obtain ⟨op, hop⟩ : ∃ op, findF nm = op := ⟨_, rfl⟩
  rw [hop] at HFD hks
  obtain ⟨k, hk⟩ : ∃ k, kindA (op : Int) = k := ⟨_, rfl⟩
  obtain ⟨r2, r3, r4, r5, hof⟩ := rof_kind (op : Int) k hk
  have HOF := Lib.hid hof
  obtain ⟨onm, honm⟩ : ∃ onm, opN (op : Int) = onm := ⟨_, rfl⟩
  rw [honm] at HOF
  rw [hk] at hks
  by_cases hkk : k = 5 ∨ k = 7
  · have hkS : kindS s = 5 ∨ kindS s = 7 := by rw [hks]; exact hkk
    have hln : 0 < s.length := by
      rcases Nat.eq_zero_or_pos s.length with h | h
      · have : s = [] := List.eq_nil_of_length_eq_zero h
        subst this
        exact absurd hnm.symm hn0
      · exact h
    have HKS := Lib.hid hkS
    have hsz : (⟨s.toArray⟩ : ByteArray).size = s.length := mk_size s
    have HNA := Lib.hid (fun (p : List UInt8) W (hp : p.length ≤ 100000) => rname_any p W (by omega))
    obtain ⟨n, hn⟩ : ∃ n, s.length = n := ⟨_, rfl⟩
    have HNN := Lib.hid hn
    rw [hn] at hsz hs hln
    have hw0 : IntKind.i64.wrap ((n : Int) - 1) = ((n - 1 : Nat) : Int) := by rw [IntKind.wrap_i64]; omega
    obtain ⟨n1, hn1⟩ : ∃ n1, n - 1 = n1 := ⟨_, rfl⟩
    rw [hn1] at hw0
    have hn1' : n = n1 + 1 := by omega
    have HEND : Hid (∀ x, n1 ≤ x → ¬ sepAt s x) := Lib.hid (fun x hx h => by
      have := (List.getElem?_eq_some_iff.1 h.2).1
      rw [HNN.out] at this
      omega)
    obtain ⟨r, hr⟩ : ∃ r, aimD s = r := ⟨_, rfl⟩
    rw [hr]
    have HR := Lib.hid hr
    have HNI := Lib.hid hn1'
    have HSL := Lib.hid hs
    clear hks hnm hkS hn hr hop hk hof hn1 hn1' hs honm
    have d1 : (k != 5 && k != 7) = false := by rcases hkk with rfl | rfl <;> rfl
    have h57 : (k = 5 ∧ (k != 5) = false) ∨ (k = 7 ∧ (k != 5) = true ∧ (k != 7) = false) := by rcases hkk with rfl | rfl <;> simp
    clear hkk d1
    have hfk := fun W => field_kind ⟨onm.toArray⟩ k r2 r3 r4 r5 W
    rcases h57 with ⟨rfl, d1⟩ | ⟨rfl, d1, d2⟩
    all_goals
      go_enter Tryz.func47, Tryz.ntmps47
      go_wp2_with (first
        | (go_at_call 37; refine (HFI.out _).mono ?_; rintro e w2 ⟨rfl, rfl⟩)
        | (go_at_call 23; refine (HFD.out _).mono ?_; rintro e w3 ⟨rfl, hb⟩; have HB3 := Lib.hid hb; clear hb)
        | (go_at_call 57; refine (HOF.out _).mono ?_; rintro e w4 ⟨rfl, hb⟩; have HB4 := Lib.hid (HB3.out.trans (hb.mono HB3.out.size)); clear hb))
      go_loopw [5] (fun i wr => ∃ j : Nat, j ≤ n1 ∧ i = .int .i64 (j : Int) ∧ Hid (∀ x, j ≤ x → ¬ sepAt s x) ∧ Hid (Below w.heap.size w wr)) (fun i _ => (intOf i).toNat)
      case atStart => exact ⟨n1, Nat.le_refl _, rfl, HEND, HB4⟩
      case round =>
        obtain ⟨j, hj, rfl, HJ, HB⟩ := hrel
        rcases Nat.eq_zero_or_pos j with h0 | h0
        · subst h0
          have hf : (-1 : Int) = r := by rw [← HR.out, aimD_no (fun x => HJ.out x (Nat.zero_le _))]
          subst hf
          go_wp2_with fail
          go_ret
          exact ⟨rfl, HB.out⟩
        · obtain ⟨p, hp⟩ : ∃ p, j - 1 = p := ⟨_, rfl⟩
          have hjp : j = p + 1 := by omega
          have hjn : j < s.length := by rw [HNN.out, HNI.out]; omega
          have hpn : p < s.length := by omega
          have hw1 : IntKind.i64.wrap ((j : Int) - 1) = (p : Int) := by rw [IntKind.wrap_i64]; have := HSL.out; have := HNI.out; omega
          have hgt : decide ((0 : Int) < (j : Int)) = true := decide_eq_true (by omega)
          have hgt2 : decide (0 < j) = true := decide_eq_true h0
          have hsep : sepAt s p ↔ s[p] = 44 ∧ s[j] = 32 := by
            unfold sepAt
            rw [List.getElem?_eq_getElem hpn]
            subst hjp
            rw [List.getElem?_eq_getElem hjn]
            simp
          obtain ⟨c1, hc1⟩ : ∃ c, s[j].toNat = c := ⟨_, rfl⟩
          obtain ⟨c2, hc2⟩ : ∃ c, s[p].toNat = c := ⟨_, rfl⟩
          have hce1 : ((ByteArray.mk s.toArray)[j]'hjn).toNat = c1 := hc1
          have hce2 : ((ByteArray.mk s.toArray)[p]'hpn).toNat = c2 := hc2
          have hs32 : s[j] = 32 ↔ c1 = 32 := by rw [← hc1]; exact ⟨fun e => by rw [e]; rfl, fun e => UInt8.toNat_inj.1 e⟩
          have hs44 : s[p] = 44 ↔ c2 = 44 := by rw [← hc2]; exact ⟨fun e => by rw [e]; rfl, fun e => UInt8.toNat_inj.1 e⟩
          rw [hs32, hs44] at hsep
          have hnext : ¬ sepAt s p → ∀ x, p ≤ x → ¬ sepAt s x := fun h x hx => by
            by_cases e : x = p
            · rw [e]; exact h
            · exact HJ.out x (by omega)
          have HJP := Lib.hid hjp
          have hjnn : j < n := by rw [← HNN.out]; exact hjn
          have hpnn : p < n := by rw [← HNN.out]; exact hpn
          have hjI : (j : Int) < (n : Int) := by omega
          have hpI : (p : Int) < (n : Int) := by omega
          by_cases h1 : c1 = 32
          · have e1 : ((c1 : Int) == 32) = true := by rw [h1]; rfl
            have e2 : (c1 == 32) = true := by rw [h1]; rfl
            by_cases h2 : c2 = 44
            · have e3 : ((c2 : Int) == 44) = true := by rw [h2]; rfl
              have e4 : (c2 == 44) = true := by rw [h2]; rfl
              have ha := aimD_at HKS.out (hsep.2 ⟨h2, h1⟩) (fun x hx => HJ.out x (by omega))
              rw [show p + 2 = j + 1 by omega] at ha
              have hex : (⟨s.toArray⟩ : ByteArray).extract (j + 1) n = ⟨(s.drop (j + 1)).toArray⟩ := by rw [Lib.extract_mk, ← HNN.out, ← List.length_drop, List.take_length]
              have hnl : (s.drop (j + 1)).length ≤ 100000 := by rw [List.length_drop, HNN.out]; have := HSL.out; omega
              have HN := Lib.hid (fun W => HNA.out (s.drop (j + 1)) W hnl)
              obtain ⟨b, hb⟩ : ∃ b, nameB (s.drop (j + 1)) = b := ⟨_, rfl⟩
              rw [hb] at HN ha
              rw [HR.out] at ha
              obtain ⟨dr, hdr⟩ : ∃ dr, s.drop (j + 1) = dr := ⟨_, rfl⟩
              rw [hdr] at HN hex
              have hroom : j + 1 ≤ n := by rw [← HNN.out]; omega
              have hroomI : (j : Int) + 1 ≤ (n : Int) := by omega
              have HSL2 := HSL.out
              have hwj : IntKind.i64.wrap ((j : Int) + 1) = (j : Int) + 1 := by rw [IntKind.wrap_i64]; omega
              have HA := Lib.hid ha
              subst h1
              subst h2
              clear hsep hs32 hs44 hnext hc1 hc2 ha hb hdr hnl hjp hp HSL2 h0 hj
              cases b with
              | true =>
                have hf : ((j + 1 : Nat) : Int) = r := by rw [HA.out, if_pos rfl]
                clear HA
                subst hf
                go_wp2_with (go_at_call 22; refine (HN.out _).mono ?_; rintro e w5 ⟨rfl, rfl⟩)
                go_ret
                exact ⟨by first | rfl | (congr 1), HB.out⟩
              | false =>
                have hf : (-1 : Int) = r := by rw [HA.out, if_neg (by decide)]
                clear HA
                subst hf
                go_wp2_with (go_at_call 22; refine (HN.out _).mono ?_; rintro e w5 ⟨rfl, rfl⟩)
                go_ret
                exact ⟨rfl, HB.out⟩
            · have e3 : ((c2 : Int) == 44) = false := by simpa using fun e => h2 (by omega)
              have e4 : (c2 == 44) = false := by simpa using h2
              have HNX := Lib.hid (hnext (fun h => h2 (hsep.1 h).1))
              subst h1
              clear hsep hs32 hs44 hnext hc1 hc2 hjp hp h0
              go_wp2_with fail
              go_roundw
              case rel => exact ⟨p, by have := HJP.out; omega, by first | rfl | go_num, HNX, HB⟩
              case measure => simp [intOf]; have := HJP.out; omega
          · have e1 : ((c1 : Int) == 32) = false := by simpa using fun e => h1 (by omega)
            have e2 : (c1 == 32) = false := by simpa using h1
            have HNX := Lib.hid (hnext (fun h => h1 (hsep.1 h).2))
            clear hsep hs32 hs44 hnext hc1 hc2 hjp hp h0
            go_wp2_with fail
            go_roundw
            case rel => exact ⟨p, by have := HJP.out; omega, by first | rfl | go_num, HNX, HB⟩
            case measure => simp [intOf]; have := HJP.out; omega
  · rw [aimD_kind (by rw [hks]; exact hkk)]
    have d3 : (k != 5) = true := by simpa using fun e => hkk (.inl e)
    have d4 : (k != 7) = true := by simpa using fun e => hkk (.inr e)
    have hfk := fun W => field_kind ⟨onm.toArray⟩ k r2 r3 r4 r5 W
    clear hks hnm hop hk hof hs hkk honm
    go_enter Tryz.func47, Tryz.ntmps47
    go_wp2_with (first
      | (go_at_call 37; refine (HFI.out _).mono ?_; rintro e w2 ⟨rfl, rfl⟩)
      | (go_at_call 23; refine (HFD.out _).mono ?_; rintro e w3 ⟨rfl, hb⟩; have HB3 := Lib.hid hb; clear hb)
      | (go_at_call 57; refine (HOF.out _).mono ?_; rintro e w4 ⟨rfl, hb⟩; have HB4 := Lib.hid (HB3.out.trans (hb.mono HB3.out.size)); clear hb))
    go_ret
    exact ⟨rfl, HB4.out⟩
end Go.Proofs.YtdpmihlmfephiaaGreatDoor

namespace Go.Proofs.YtdpmihlmfephiaaGreatDoor
set_option linter.unusedVariables false
set_option linter.unusedSimpArgs false
open Go.Joins Go.ChangeShapes Go.WideShapes Go.ChangeAt Go.RowKit Go.Deep

theorem findD_hit {nm : List UInt8} {L : List (List UInt8)} {k a : Nat} (hk : k < L.length) (h : labD L[k] = nm) : findD nm (L.drop k) a = (a : Int) := by
  rw [List.drop_eq_getElem_cons hk, findD, if_pos h]
theorem findD_skip {nm : List UInt8} {L : List (List UInt8)} {k a : Nat} (hk : k < L.length) (h : labD L[k] ≠ nm) : findD nm (L.drop k) a = findD nm (L.drop (k + 1)) (if labD L[k] = [] ∧ L[k] ≠ [] then a + 4 else a) := by
  rw [List.drop_eq_getElem_cons hk, findD, if_neg h]
set_option maxRecDepth 100000 in
set_option maxHeartbeats 4000000 in
theorem rfindl_any (ad : Option Addr) (c : Nat) (L : List (List UInt8)) (nm : List UInt8) (w : World) (hr : Rd w ad L.length (strs L)) (hl : L.length ≤ 10000) (hx : ∀ x ∈ L, x.length ≤ 5000) :
    Calls Tryz.prog 48 #[.slice ad L.length c, .string ⟨nm.toArray⟩] w fun e w' => e = .returned (.int .i64 (findD nm L 0)) ∧ w = w' := by
  obtain ⟨r, hre⟩ : ∃ r, findD nm L 0 = r := ⟨_, rfl⟩
  rw [hre]
  have HR : Hid (findD nm (L.drop 0) 0 = r) := Lib.hid hre
  have HRD := Lib.hid hr
  have HX := Lib.hid hx
  obtain ⟨n, hn⟩ : ∃ n, L.length = n := ⟨_, rfl⟩
  have HNN := Lib.hid hn
  rw [hn] at hl HRD ⊢
  have HL := Lib.hid hl
  clear hre hr hx hn hl
  obtain ⟨w0, rfl⟩ : ∃ w0 : World, w0 = w := ⟨_, rfl⟩
  go_enter Tryz.func48, Tryz.ntmps48
  go_wp2_with fail
  go_loopw [5, 6] (fun x i wr => ∃ k a : Nat, k ≤ n ∧ a ≤ 4 * k ∧ x = .int .i64 (a : Int) ∧ i = .int .i64 (k : Int) ∧ Hid (findD nm (L.drop k) a = r) ∧ w0 = wr) (fun _ i _ => n - (intOf i).toNat)
  case atStart => exact ⟨0, 0, Nat.zero_le _, Nat.le_refl _, rfl, rfl, HR, rfl⟩
  case round =>
    obtain ⟨k, a, hk, ha, rfl, rfl, HF, rfl⟩ := hrel
    have hl := HL.out
    by_cases hkn : k < n
    · have hkL : k < L.length := by rw [HNN.out]; exact hkn
      obtain ⟨g, off, hge, -, hc⟩ := HRD.out.at_ hkn
      subst hge
      rw [strs_get L k hkL] at hc
      have HLB := Lib.hid (fun W => rlabel_any L[k] W (by have := HX.out L[k] (List.getElem_mem hkL); omega))
      have hhit := fun (h : labD L[k] = nm) => (findD_hit (a := a) hkL h).symm.trans HF.out
      have hskip := fun (h : labD L[k] ≠ nm) => (findD_skip (a := a) (nm := nm) hkL h).symm.trans HF.out
      obtain ⟨y, hy⟩ : ∃ y, L[k] = y := ⟨_, rfl⟩
      rw [hy] at hc HLB hhit hskip
      obtain ⟨o, ho⟩ : ∃ o, labD y = o := ⟨_, rfl⟩
      rw [ho] at HLB hhit hskip
      have hd1 : decide ((k : Int) < (n : Int)) = true := decide_eq_true (by omega)
      have hd2 : decide (k < n) = true := decide_eq_true hkn
      have kk0 : (0 : Int) ≤ (k : Int) := by omega
      have kk1 : (k : Int) < (n : Int) := by omega
      by_cases hon : o = nm
      · have hf := hhit hon
        subst hf
        subst hon
        clear hhit hskip hy ho
        go_wp2_with (go_at_call 46; refine (HLB.out _).mono ?_; rintro e w2 ⟨rfl, rfl⟩)
        go_ret
        exact ⟨rfl, rfl⟩
      · have hb0 : (o == nm) = false := by simpa using hon
        have hsk := hskip hon
        by_cases hoe : o = []
        · by_cases hye : y = []
          · rw [if_neg (fun h => h.2 hye)] at hsk
            have HSK := Lib.hid hsk
            have b1 : (y != []) = false := by simpa using hye
            subst hoe
            subst hye
            clear hhit hskip hy ho hsk
            go_wp2_with (go_at_call 46; refine (HLB.out _).mono ?_; rintro e w2 ⟨rfl, rfl⟩)
            go_roundw
            case rel => exact ⟨k + 1, a, by omega, by omega, rfl, by go_num, HSK, trivial⟩
            case measure => simp [intOf]; omega
          · rw [if_pos ⟨hoe, hye⟩] at hsk
            have HSK := Lib.hid hsk
            have b1 : (y != []) = true := by simpa using hye
            have b2 : (y == []) = false := by simpa using hye
            subst hoe
            clear hhit hskip hy ho hsk
            go_wp2_with (go_at_call 46; refine (HLB.out _).mono ?_; rintro e w2 ⟨rfl, rfl⟩)
            go_roundw
            case rel => exact ⟨k + 1, a + 4, by omega, by omega, by go_num, by go_num, HSK, trivial⟩
            case measure => simp [intOf]; omega
        · rw [if_neg (fun h => hoe h.1)] at hsk
          have HSK := Lib.hid hsk
          have b1 : (o == []) = false := by simpa using hoe
          have b2 : (o != []) = true := by simpa using hoe
          clear hhit hskip hy ho hsk
          go_wp2_with (go_at_call 46; refine (HLB.out _).mono ?_; rintro e w2 ⟨rfl, rfl⟩)
          go_roundw
          case rel => exact ⟨k + 1, a, by omega, by omega, rfl, by go_num, HSK, trivial⟩
          case measure => simp [intOf]; omega
    · obtain rfl : k = n := by omega
      have hf : (-1 : Int) = r := by rw [← HF.out, List.drop_eq_nil_of_le (by rw [HNN.out]; omega)]; rfl
      subst hf
      go_wp2_with fail
      go_ret
      exact ⟨rfl, rfl⟩
end Go.Proofs.YtdpmihlmfephiaaGreatDoor

