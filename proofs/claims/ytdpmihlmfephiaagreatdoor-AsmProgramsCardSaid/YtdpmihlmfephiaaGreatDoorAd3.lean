/- The document's first and numbers. -/
import Derived.Test.YtdpmihlmfephiaaGreatDoorAd2
namespace Go.Proofs.YtdpmihlmfephiaaGreatDoor
set_option linter.unusedVariables false
set_option linter.unusedSimpArgs false
open Go.Joins Go.ChangeShapes Go.WideShapes Go.ChangeAt Go.RowKit Go.Deep

theorem first_at (s : List UInt8) (k : Nat) (hk : k < s.length) (h0 : s[k] = 32) (h : ∀ j (hj : j < s.length), j < k → s[j] ≠ 32) : firstF s = s.take k := by
  unfold firstF
  rcases take_split 32 s with ⟨h1, -⟩ | ⟨r, h1, h2⟩
  · exact absurd (List.mem_of_getElem h0) h1
  · obtain ⟨t, ht⟩ : ∃ t, s.takeWhile (fun x => x != 32) = t := ⟨_, rfl⟩
    rw [ht] at h1 h2 ⊢
    subst h1
    have e : t.length = k := by
      rcases Nat.lt_trichotomy t.length k with q | q | q
      · exact absurd (by simp) (h t.length (by omega) q)
      · exact q
      · rw [List.getElem_append_left q] at h0
        exact absurd (List.mem_of_getElem h0) h2
    rw [← e, List.take_left]
theorem first_all (s : List UInt8) (h : ∀ j (hj : j < s.length), s[j] ≠ 32) : firstF s = s := by
  unfold firstF
  rcases take_split 32 s with ⟨-, h1⟩ | ⟨r, h1, h2⟩
  · exact h1
  · have hm : (32 : UInt8) ∈ s := by rw [h1]; simp
    obtain ⟨j, hj, e⟩ := List.getElem_of_mem hm
    exact absurd e (h j hj)
set_option maxHeartbeats 1000000 in
theorem rfirst_any (s : List UInt8) (w : World) (hs : s.length < 1000000) :
    Calls Tryz.prog 37 #[.string ⟨s.toArray⟩] w fun e w' => e = .returned (.string ⟨(firstF s).toArray⟩) ∧ w = w' := by
  obtain ⟨r, hr⟩ : ∃ r, firstF s = r := ⟨_, rfl⟩
  have HR := Lib.hid hr
  rw [hr]
  clear hr
  go_enter Tryz.func37, Tryz.ntmps37
  go_wp2_with fail
  go_loop [3] (fun i => ∃ k : Nat, k ≤ s.length ∧ i = .int .i64 k ∧ Hid (∀ j (hj : j < s.length), j < k → s[j] ≠ 32)) (fun i => s.length - (intOf i).toNat)
  case atStart => exact ⟨0, by omega, rfl, Lib.hid (fun j _ h => absurd h (by omega))⟩
  case round =>
    obtain ⟨k, hk, rfl, HP⟩ := hrel
    by_cases h : k < s.length
    · have hc := UInt8.toNat_lt s[k]
      by_cases hq : s[k] = 32
      · have hce : ((ByteArray.mk s.toArray)[k]'h).toNat = 32 := by show s[k].toNat = 32; rw [hq]; rfl
        have hfi := first_at s k h hq HP.out
        have hex : (⟨s.toArray⟩ : ByteArray).extract 0 k = ⟨(s.take k).toArray⟩ := by rw [Lib.extract_mk]; simp
        have hsz : (⟨s.toArray⟩ : ByteArray).size = s.length := mk_size s
        rw [HR.out] at hfi
        rw [← hfi] at hex
        have HF := Lib.hid hfi
        clear hfi hq
        go_wp2_with fail
        go_ret
        exact ⟨rfl, rfl⟩
      · have hst : ∀ j (hj : j < s.length), j < k + 1 → s[j] ≠ 32 := fun j hj hjk => by
          by_cases e : j = k
          · subst e; exact hq
          · exact HP.out j hj (by omega)
        obtain ⟨c, hcc⟩ : ∃ c, s[k].toNat = c := ⟨_, rfl⟩
        have hce : ((ByteArray.mk s.toArray)[k]'h).toNat = c := hcc
        have hne : ¬ c = 32 := fun e => hq (by apply UInt8.toNat_inj.1; rw [hcc, e]; rfl)
        have hneI : ¬ (c : Int) = 32 := by omega
        have d1 : ((c : Int) == 32) = false := by simpa using hneI
        have d2 : (c == 32) = false := by simpa using hne
        have HST := Lib.hid hst
        clear hst hcc hq
        go_wp2_with fail
        refine ⟨⟨k + 1, by omega, by go_num, HST⟩, ?_⟩
        simp [intOf]
        omega
    · obtain rfl : k = s.length := by omega
      have hfi := first_all s (fun j hj => HP.out j hj hj)
      rw [HR.out] at hfi
      subst hfi
      go_wp2_with fail
      go_ret
      exact ⟨rfl, rfl⟩
/-! Numbers. -/
def i64v (l : List Int) : List Value := l.map fun n => Value.int .i64 n
theorem i64v_snoc (l : List Int) (n : Int) : i64v (l ++ [n]) = i64v l ++ [.int .i64 n] := by simp [i64v]
def aheadB (s : List UInt8) (k : Nat) : UInt8 := if k = 0 then 0 else s.getD (k - 1) 0
theorem drop_at (s : List UInt8) (k : Nat) (h : k < s.length) : s.drop k = s[k] :: s.drop (k + 1) := List.drop_eq_getElem_cons h
theorem ahead_next (s : List UInt8) (k : Nat) (h : k < s.length) : aheadB s (k + 1) = s[k] := by unfold aheadB; simp [h]
theorem nums_any_end (p q : UInt8) (r : List UInt8) (h : endD r) : numsG p none r = numsG q none r := by
  cases r with
  | nil => rfl
  | cons c r =>
    have hc := h c (by simp)
    rw [nums_skip _ _ _ hc, nums_skip _ _ _ hc]
theorem nums_begin (p c : UInt8) (r : List UInt8) (h : isDg c = true) : numsG p none (c :: r) = numsG p (some (0, 0)) (c :: r) := by simp [numsG, h]
theorem nums_step (p c : UInt8) (r : List UInt8) (k a : Nat) (h : isDg c = true) : numsG p (some (k, a)) (c :: r) = numsG p (some (k + 1, if k < 12 then 10 * a + (c.toNat - 48) else a)) r := by simp [numsG, h]
theorem end_drop (s : List UInt8) (q : Nat) (h : q = s.length ∨ ∃ hq : q < s.length, isDg s[q] = false) : endD (s.drop q) := by
  intro c hc
  rcases h with rfl | ⟨hq, h⟩
  · simp at hc
  · have e : s[q] = c := by simpa [hq] using hc
    rw [← e]; exact h
theorem infoI64 : (Tryz.prog.info? 2).map (fun i => (i.zero, i.size, i.bytes)) = some (some (.int .i64 0), 1, 8) := by kernel_rfl
def numsX (s : List UInt8) : List Int := (numsG 0 none s).take 4
def NumI (w : World) (s : List UInt8) (res : List Int) (k : Nat) (out : List Int) (v : Value) (wr : World) : Prop :=
  wr.ownsRow w.heap.size 2 1 v out.length (i64v out) ∧ (out ++ numsG (aheadB s k) none (s.drop k)).take 4 = res ∧ Below w.heap.size w wr
theorem nums_next {out : List Int} {s : List UInt8} {k q m : Nat} {res : List Int} (hr : (out ++ numsG (aheadB s k) none (s.drop k)).take 4 = res) (he : numsG (aheadB s k) none (s.drop k) = numsG (aheadB s k) (some (q - k, m)) (s.drop q)) (hend : endD (s.drop q)) :
    ((out ++ [sgnD (aheadB s k) m]) ++ numsG (aheadB s q) none (s.drop q)).take 4 = res := by
  rw [he, nums_end _ _ _ _ hend, nums_any_end 0 (aheadB s q) _ hend] at hr
  rw [List.append_assoc]
  exact hr
theorem isDg_iff (c : UInt8) : isDg c = true ↔ 48 ≤ c.toNat ∧ c.toNat ≤ 57 := by unfold isDg; simp
theorem pow_step {j m d : Nat} (h : m < 10 ^ j) (hd : d < 10) : 10 * m + d < 10 ^ (j + 1) := by rw [Nat.pow_succ]; omega
theorem pow12 {j : Nat} (h : j ≤ 12) : 10 ^ j ≤ 1000000000000 := Nat.le_trans (Nat.pow_le_pow_right (by decide) h) (by decide)
set_option maxRecDepth 100000 in
set_option maxHeartbeats 8000000 in
theorem rnumbers_any (s : List UInt8) (w : World) (hs : s.length < 100000) :
    Calls Tryz.prog 39 #[.string ⟨s.toArray⟩] w fun e w' => ∃ v, e = .returned v ∧ w'.ownsRow w.heap.size 2 1 v (numsX s).length (i64v (numsX s)) ∧ Below w.heap.size w w' := by
  obtain ⟨res, hres⟩ : ∃ res, numsX s = res := ⟨_, rfl⟩
  rw [hres]
  have HI0 : Hid (NumI w s res 0 [] (.slice none 0 0) w) := Lib.hid ⟨World.ownsRow_nil _ _ _ 1, by rw [← hres]; rfl, Below.refl _ _⟩
  have hsz : (⟨s.toArray⟩ : ByteArray).size = s.length := mk_size s
  obtain ⟨n, hn⟩ : ∃ n, s.length = n := ⟨_, rfl⟩
  rw [hn] at hsz hs
  have HNN := Lib.hid hn
  have HSL := Lib.hid hs
  clear hres hn
  go_enter Tryz.func39, Tryz.ntmps39
  go_wp2_with fail
  go_loopw [3, 4] (fun v i wr => ∃ (k m : Nat) (a : Option Addr) (cp : Nat) (out : List Int), k ≤ n ∧ i = .int .i64 (k : Int) ∧ v = .slice a m cp ∧ m ≤ 4 ∧ Hid (out.length = m) ∧ Hid (NumI w s res k out (.slice a m cp) wr)) (fun _ i _ => n - (intOf i).toNat)
  case atStart => exact ⟨0, 0, none, 0, [], Nat.zero_le _, rfl, rfl, by decide, Lib.hid rfl, HI0⟩
  case round =>
    obtain ⟨k, m, a, cp, out, hk, rfl, rfl, hm4, HOL, HI⟩ := hrel
    by_cases hgo : k < n ∧ m < 4
    · obtain ⟨hkn, hm⟩ := hgo
      have hks : k < s.length := by rw [HNN.out]; exact hkn
      have hdl := drop_at s k hks
      obtain ⟨cb, hcb⟩ : ∃ cb, s[k] = cb := ⟨_, rfl⟩
      rw [hcb] at hdl
      have hce : ((ByteArray.mk s.toArray)[k]'hks).toNat = cb.toNat := by show s[k].toNat = _; rw [hcb]
      have hc256 := cb.toNat_lt
      have hd1 : decide ((k : Int) < (n : Int)) = true := decide_eq_true (by omega)
      have hd2 : decide (k < n) = true := decide_eq_true hkn
      have hd3 : decide ((m : Int) < 4) = true := decide_eq_true (by omega)
      have hd4 : decide (m < 4) = true := decide_eq_true hm
      by_cases hdg : isDg cb = true
      · have hcr := (isDg_iff cb).1 hdg
        have HDK : Hid (isDg s[k] = true) := Lib.hid (by rw [hcb]; exact hdg)
        have hbeg : numsG (aheadB s k) none (s.drop k) = numsG (aheadB s k) (some (k - k, 0)) (s.drop k) := by rw [hdl, Nat.sub_self]; exact nums_begin _ _ _ hdg
        have HBEG := Lib.hid hbeg
        obtain ⟨c, hc⟩ : ∃ c, cb.toNat = c := ⟨_, rfl⟩
        rw [hc] at hce hc256 hcr
        have e1 : decide (c < 48) = false := decide_eq_false (by omega)
        have e2 : decide (57 < c) = false := decide_eq_false (by omega)
        have e3 : ¬ (c : Int) < 48 := by omega
        have e4 : ¬ (57 : Int) < (c : Int) := by omega
        clear hbeg hdl hcb hc hdg
        go_wp2_with fail
        clear e1 e2 e3 e4 hce hcr hc256 hd1 hd2 hd3 hd4
        obtain ⟨wo, rfl⟩ : ∃ wo : World, wo = wr := ⟨_, rfl⟩
        go_loopw [4, 6] (fun i x wr => ∃ (q y : Nat), k ≤ q ∧ q ≤ n ∧ i = .int .i64 (q : Int) ∧ x = .int .i64 (y : Int) ∧ y < 1000000000000 ∧ Hid (q - k < 12 → y < 10 ^ (q - k)) ∧ Hid (numsG (aheadB s k) none (s.drop k) = numsG (aheadB s k) (some (q - k, y)) (s.drop q)) ∧ wo = wr) (fun i _ _ => n - (intOf i).toNat)
        case atStart => exact ⟨k, 0, Nat.le_refl _, by omega, rfl, rfl, by decide, Lib.hid (fun _ => by rw [Nat.sub_self]; decide), HBEG, rfl⟩
        case round =>
          obtain ⟨q, y, hkq, hqn, rfl, rfl, hy12, HY, HQ, rfl⟩ := hrel
          by_cases hq : q < n
          · have hqs : q < s.length := by rw [HNN.out]; exact hq
            have hdl := drop_at s q hqs
            obtain ⟨cq, hcq⟩ : ∃ cq, s[q] = cq := ⟨_, rfl⟩
            rw [hcq] at hdl
            obtain ⟨d, hd⟩ : ∃ d, cq.toNat = d := ⟨_, rfl⟩
            have hcd : ((ByteArray.mk s.toArray)[q]'hqs).toNat = d := by show s[q].toNat = _; rw [hcq]; exact hd
            have hd256 : d < 256 := hd ▸ cq.toNat_lt
            have f1 : decide ((q : Int) < (n : Int)) = true := decide_eq_true (by omega)
            have f2 : decide (q < n) = true := decide_eq_true hq
            by_cases hdq : isDg cq = true
            · have hdr := (isDg_iff cq).1 hdq
              rw [hd] at hdr
              have f3 : decide (48 ≤ d) = true := decide_eq_true hdr.1
              have f4 : decide (d ≤ 57) = true := decide_eq_true hdr.2
              have f5 : (48 : Int) ≤ (d : Int) := by omega
              have f6 : (d : Int) ≤ 57 := by omega
              have hst : numsG (aheadB s k) none (s.drop k) = numsG (aheadB s k) (some (q + 1 - k, if q - k < 12 then 10 * y + (d - 48) else y)) (s.drop (q + 1)) := by
                rw [HQ.out, hdl, nums_step _ _ _ _ _ hdq, hd, show q + 1 - k = q - k + 1 by omega]
              obtain ⟨j, hj⟩ : ∃ j, q - k = j := ⟨_, rfl⟩
              have hws : IntKind.i64.wrap ((q : Int) - (k : Int)) = (j : Int) := by rw [IntKind.wrap_i64]; have := HSL.out; omega
              have hy := HY.out
              rw [hj] at hst hy
              by_cases h12 : j < 12
              · rw [if_pos h12] at hst
                have hyj := hy h12
                have h12i : (j : Int) < 12 := by omega
                have f7 : decide ((j : Int) < 12) = true := decide_eq_true h12i
                have f8 : decide (j < 12) = true := decide_eq_true h12
                obtain ⟨g, hg⟩ : ∃ g, d - 48 = g := ⟨_, rfl⟩
                rw [hg] at hst
                have hps := pow_step hyj (show g < 10 by omega)
                have hp12 := pow12 (show j + 1 ≤ 12 by omega)
                have hu8 : IntKind.u8.wrap ((d : Int) - 48) = (g : Int) := by rw [IntKind.wrap_u8]; omega
                have hcv : IntKind.i64.wrap (g : Int) = (g : Int) := by rw [IntKind.wrap_i64]; omega
                have hmu : IntKind.i64.wrap (10 * (y : Int)) = 10 * (y : Int) := by rw [IntKind.wrap_i64]; omega
                have had : IntKind.i64.wrap (10 * (y : Int) + (g : Int)) = 10 * (y : Int) + (g : Int) := by rw [IntKind.wrap_i64]; omega
                have HST := Lib.hid hst
                have HPS := Lib.hid hps
                have HJ := Lib.hid hj
                have hlt12 : 10 * y + g < 1000000000000 := Nat.lt_of_lt_of_le hps hp12
                clear hst hdl hcq hd hdq hy hyj hps hp12 hg hj
                go_wp2_with fail
                go_roundw
                case rel => exact ⟨q + 1, 10 * y + g, by omega, by omega, by go_num, by go_num, hlt12, Lib.hid (fun _ => by rw [show q + 1 - k = j + 1 by have := HJ.out; omega]; exact HPS.out), HST, trivial⟩
                case measure => simp [intOf]; omega
              · rw [if_neg h12] at hst
                have h12i : ¬ (j : Int) < 12 := by omega
                have f7 : decide ((j : Int) < 12) = false := decide_eq_false h12i
                have f8 : decide (j < 12) = false := decide_eq_false h12
                have HST := Lib.hid hst
                have HJ := Lib.hid hj
                clear hst hdl hcq hd hdq hy hj
                go_wp2_with fail
                go_roundw
                case rel => exact ⟨q + 1, y, by omega, by omega, by go_num, rfl, hy12, Lib.hid (fun h => absurd h (by have := HJ.out; omega)), HST, trivial⟩
                case measure => simp [intOf]; omega
            · have hdn : isDg cq = false := by simpa using hdq
              have hend : endD (s.drop q) := end_drop s q (Or.inr ⟨hqs, by rw [hcq]; exact hdn⟩)
              have hkq' : k < q := by
                rcases Nat.lt_or_ge k q with h | h
                · exact h
                · obtain rfl : k = q := by omega
                  have := HDK.out
                  rw [hcq, hdn] at this
                  cases this
              have hor : d < 48 ∨ 57 < d := by
                rcases Nat.lt_or_ge d 48 with h | h
                · exact .inl h
                · right
                  rcases Nat.lt_or_ge 57 d with h' | h'
                  · exact h'
                  · exact absurd ((isDg_iff cq).2 (by rw [hd]; omega)) hdq
              clear hdl hcq hd hdq hdn
              rcases hor with h48 | h57
              · have f3 : decide (48 ≤ d) = false := decide_eq_false (by omega)
                have f5 : ¬ (48 : Int) ≤ (d : Int) := by omega
                have HROW := Lib.hid HI.out.1
                have HBLW := Lib.hid HI.out.2.2
                have HOLL := Lib.hid HOL.out
                rcases Nat.eq_zero_or_pos k with hk0 | hk0
                · subst hk0
                  have HZ : Hid (sgnD (aheadB s 0) y = (y : Int)) := Lib.hid rfl
                  have HEND := Lib.hid hend
                  have hz : sgnD (aheadB s 0) y = (y : Int) := HZ.out
                  have HNX := Lib.hid (nums_next HI.out.2.1 HQ.out HEND.out)
                  rw [hz] at HNX
                  clear hz
                  go_wp2_with (refine wpList_appE 58 2 (.int .i64 0) 1 8 Tryz.underlying58 infoI64 rfl (by decide) (by decide) _ rfl _ _ rfl w.heap.size (.slice a m cp) m (i64v out) rfl ((HOLL.out ▸ HROW.out).alloc _) (some ⟨wo.heap.size, 0, none⟩) 1 1 [.int .i64 ((y : Int))] rfl (Rd.lit wo #[.int .i64 ((y : Int))] 2 (by show 1 ≤ maxLen; decide)) (fun u hu => by simp at hu; subst hu; rfl) (by omega) (by rw [World.size_alloc]; have := HBLW.out.size; omega) ?_; intro a3 c3 W3 hown3 hgrow3 hat3; have HO3 := Lib.hid hown3; have HG3 := Lib.hid hgrow3; clear hown3 hgrow3 hat3)
                  go_roundw
                  case rel => exact ⟨q, m + 1, a3, c3, out ++ [(y : Int)], by omega, rfl, rfl, by omega, Lib.hid (by rw [List.length_append, HOLL.out]; rfl), Lib.hid ⟨by rw [i64v_snoc, List.length_append, HOLL.out]; exact HO3.out, HNX.out, (HBLW.out.trans ((bAlloc (Below.refl wo.heap.size wo) _).mono HBLW.out.size)).grown HG3.out (by rw [World.size_alloc]; have := HBLW.out.size; omega) (fun b e => (HROW.out.lt b e).1)⟩⟩
                  case measure => simp [intOf]; omega
                · have hks1 : k - 1 < s.length := by rw [HNN.out]; omega
                  have hah : aheadB s k = s[k - 1] := by unfold aheadB; rw [if_neg (by omega)]; simp [hks1]
                  have hwk : IntKind.i64.wrap ((k : Int) - 1) = ((k - 1 : Nat) : Int) := by rw [IntKind.wrap_i64]; omega
                  have hdk : decide ((0 : Int) < (k : Int)) = true := decide_eq_true (by omega)
                  have hdk2 : decide (0 < k) = true := decide_eq_true hk0
                  have HEND := Lib.hid hend
                  obtain ⟨pv, hpv⟩ : ∃ pv, s[k - 1].toNat = pv := ⟨_, rfl⟩
                  have hcp : ((ByteArray.mk s.toArray)[k - 1]'hks1).toNat = pv := hpv
                  by_cases h45 : pv = 45
                  · subst h45
                    have h45' : s[k - 1] = 45 := UInt8.toNat_inj.1 hpv
                    have HZ : Hid (sgnD (aheadB s k) y = -(y : Int)) := Lib.hid (by rw [hah, h45']; rfl)
                    have hwn : IntKind.i64.wrap (-(y : Int)) = -(y : Int) := by rw [IntKind.wrap_i64]; omega
                    have hwn2 : IntKind.i64.wrap (0 - (y : Int)) = -(y : Int) := by rw [IntKind.wrap_i64]; omega
                    clear hah hpv h45'
                    have hz : sgnD (aheadB s k) y = -(y : Int) := HZ.out
                    have HNX := Lib.hid (nums_next HI.out.2.1 HQ.out HEND.out)
                    rw [hz] at HNX
                    clear hz
                    go_wp2_with (refine wpList_appE 58 2 (.int .i64 0) 1 8 Tryz.underlying58 infoI64 rfl (by decide) (by decide) _ rfl _ _ rfl w.heap.size (.slice a m cp) m (i64v out) rfl ((HOLL.out ▸ HROW.out).alloc _) (some ⟨wo.heap.size, 0, none⟩) 1 1 [.int .i64 (-(y : Int))] rfl (Rd.lit wo #[.int .i64 (-(y : Int))] 2 (by show 1 ≤ maxLen; decide)) (fun u hu => by simp at hu; subst hu; rfl) (by omega) (by rw [World.size_alloc]; have := HBLW.out.size; omega) ?_; intro a3 c3 W3 hown3 hgrow3 hat3; have HO3 := Lib.hid hown3; have HG3 := Lib.hid hgrow3; clear hown3 hgrow3 hat3)
                    go_roundw
                    case rel => exact ⟨q, m + 1, a3, c3, out ++ [-(y : Int)], by omega, rfl, rfl, by omega, Lib.hid (by rw [List.length_append, HOLL.out]; rfl), Lib.hid ⟨by rw [i64v_snoc, List.length_append, HOLL.out]; exact HO3.out, HNX.out, (HBLW.out.trans ((bAlloc (Below.refl wo.heap.size wo) _).mono HBLW.out.size)).grown HG3.out (by rw [World.size_alloc]; have := HBLW.out.size; omega) (fun b e => (HROW.out.lt b e).1)⟩⟩
                    case measure => simp [intOf]; omega
                  · have h45' : ¬ s[k - 1] = 45 := fun e => h45 (by rw [← hpv, e]; rfl)
                    have HZ : Hid (sgnD (aheadB s k) y = (y : Int)) := Lib.hid (by rw [hah]; unfold sgnD; rw [if_neg (by simpa using h45')])
                    have h45i : ¬ (pv : Int) = 45 := by omega
                    have g1 : ((pv : Int) == 45) = false := by simpa using h45i
                    have g2 : (pv == 45) = false := by simpa using h45
                    clear hah hpv h45'
                    have hz : sgnD (aheadB s k) y = (y : Int) := HZ.out
                    have HNX := Lib.hid (nums_next HI.out.2.1 HQ.out HEND.out)
                    rw [hz] at HNX
                    clear hz
                    go_wp2_with (refine wpList_appE 58 2 (.int .i64 0) 1 8 Tryz.underlying58 infoI64 rfl (by decide) (by decide) _ rfl _ _ rfl w.heap.size (.slice a m cp) m (i64v out) rfl ((HOLL.out ▸ HROW.out).alloc _) (some ⟨wo.heap.size, 0, none⟩) 1 1 [.int .i64 ((y : Int))] rfl (Rd.lit wo #[.int .i64 ((y : Int))] 2 (by show 1 ≤ maxLen; decide)) (fun u hu => by simp at hu; subst hu; rfl) (by omega) (by rw [World.size_alloc]; have := HBLW.out.size; omega) ?_; intro a3 c3 W3 hown3 hgrow3 hat3; have HO3 := Lib.hid hown3; have HG3 := Lib.hid hgrow3; clear hown3 hgrow3 hat3)
                    go_roundw
                    case rel => exact ⟨q, m + 1, a3, c3, out ++ [(y : Int)], by omega, rfl, rfl, by omega, Lib.hid (by rw [List.length_append, HOLL.out]; rfl), Lib.hid ⟨by rw [i64v_snoc, List.length_append, HOLL.out]; exact HO3.out, HNX.out, (HBLW.out.trans ((bAlloc (Below.refl wo.heap.size wo) _).mono HBLW.out.size)).grown HG3.out (by rw [World.size_alloc]; have := HBLW.out.size; omega) (fun b e => (HROW.out.lt b e).1)⟩⟩
                    case measure => simp [intOf]; omega
              · have f3 : decide (48 ≤ d) = true := decide_eq_true (by omega)
                have f4 : decide (d ≤ 57) = false := decide_eq_false (by omega)
                have f5 : (48 : Int) ≤ (d : Int) := by omega
                have f6 : ¬ (d : Int) ≤ 57 := by omega
                have HROW := Lib.hid HI.out.1
                have HBLW := Lib.hid HI.out.2.2
                have HOLL := Lib.hid HOL.out
                rcases Nat.eq_zero_or_pos k with hk0 | hk0
                · subst hk0
                  have HZ : Hid (sgnD (aheadB s 0) y = (y : Int)) := Lib.hid rfl
                  have HEND := Lib.hid hend
                  have hz : sgnD (aheadB s 0) y = (y : Int) := HZ.out
                  have HNX := Lib.hid (nums_next HI.out.2.1 HQ.out HEND.out)
                  rw [hz] at HNX
                  clear hz
                  go_wp2_with (refine wpList_appE 58 2 (.int .i64 0) 1 8 Tryz.underlying58 infoI64 rfl (by decide) (by decide) _ rfl _ _ rfl w.heap.size (.slice a m cp) m (i64v out) rfl ((HOLL.out ▸ HROW.out).alloc _) (some ⟨wo.heap.size, 0, none⟩) 1 1 [.int .i64 ((y : Int))] rfl (Rd.lit wo #[.int .i64 ((y : Int))] 2 (by show 1 ≤ maxLen; decide)) (fun u hu => by simp at hu; subst hu; rfl) (by omega) (by rw [World.size_alloc]; have := HBLW.out.size; omega) ?_; intro a3 c3 W3 hown3 hgrow3 hat3; have HO3 := Lib.hid hown3; have HG3 := Lib.hid hgrow3; clear hown3 hgrow3 hat3)
                  go_roundw
                  case rel => exact ⟨q, m + 1, a3, c3, out ++ [(y : Int)], by omega, rfl, rfl, by omega, Lib.hid (by rw [List.length_append, HOLL.out]; rfl), Lib.hid ⟨by rw [i64v_snoc, List.length_append, HOLL.out]; exact HO3.out, HNX.out, (HBLW.out.trans ((bAlloc (Below.refl wo.heap.size wo) _).mono HBLW.out.size)).grown HG3.out (by rw [World.size_alloc]; have := HBLW.out.size; omega) (fun b e => (HROW.out.lt b e).1)⟩⟩
                  case measure => simp [intOf]; omega
                · have hks1 : k - 1 < s.length := by rw [HNN.out]; omega
                  have hah : aheadB s k = s[k - 1] := by unfold aheadB; rw [if_neg (by omega)]; simp [hks1]
                  have hwk : IntKind.i64.wrap ((k : Int) - 1) = ((k - 1 : Nat) : Int) := by rw [IntKind.wrap_i64]; omega
                  have hdk : decide ((0 : Int) < (k : Int)) = true := decide_eq_true (by omega)
                  have hdk2 : decide (0 < k) = true := decide_eq_true hk0
                  have HEND := Lib.hid hend
                  obtain ⟨pv, hpv⟩ : ∃ pv, s[k - 1].toNat = pv := ⟨_, rfl⟩
                  have hcp : ((ByteArray.mk s.toArray)[k - 1]'hks1).toNat = pv := hpv
                  by_cases h45 : pv = 45
                  · subst h45
                    have h45' : s[k - 1] = 45 := UInt8.toNat_inj.1 hpv
                    have HZ : Hid (sgnD (aheadB s k) y = -(y : Int)) := Lib.hid (by rw [hah, h45']; rfl)
                    have hwn : IntKind.i64.wrap (-(y : Int)) = -(y : Int) := by rw [IntKind.wrap_i64]; omega
                    have hwn2 : IntKind.i64.wrap (0 - (y : Int)) = -(y : Int) := by rw [IntKind.wrap_i64]; omega
                    clear hah hpv h45'
                    have hz : sgnD (aheadB s k) y = -(y : Int) := HZ.out
                    have HNX := Lib.hid (nums_next HI.out.2.1 HQ.out HEND.out)
                    rw [hz] at HNX
                    clear hz
                    go_wp2_with (refine wpList_appE 58 2 (.int .i64 0) 1 8 Tryz.underlying58 infoI64 rfl (by decide) (by decide) _ rfl _ _ rfl w.heap.size (.slice a m cp) m (i64v out) rfl ((HOLL.out ▸ HROW.out).alloc _) (some ⟨wo.heap.size, 0, none⟩) 1 1 [.int .i64 (-(y : Int))] rfl (Rd.lit wo #[.int .i64 (-(y : Int))] 2 (by show 1 ≤ maxLen; decide)) (fun u hu => by simp at hu; subst hu; rfl) (by omega) (by rw [World.size_alloc]; have := HBLW.out.size; omega) ?_; intro a3 c3 W3 hown3 hgrow3 hat3; have HO3 := Lib.hid hown3; have HG3 := Lib.hid hgrow3; clear hown3 hgrow3 hat3)
                    go_roundw
                    case rel => exact ⟨q, m + 1, a3, c3, out ++ [-(y : Int)], by omega, rfl, rfl, by omega, Lib.hid (by rw [List.length_append, HOLL.out]; rfl), Lib.hid ⟨by rw [i64v_snoc, List.length_append, HOLL.out]; exact HO3.out, HNX.out, (HBLW.out.trans ((bAlloc (Below.refl wo.heap.size wo) _).mono HBLW.out.size)).grown HG3.out (by rw [World.size_alloc]; have := HBLW.out.size; omega) (fun b e => (HROW.out.lt b e).1)⟩⟩
                    case measure => simp [intOf]; omega
                  · have h45' : ¬ s[k - 1] = 45 := fun e => h45 (by rw [← hpv, e]; rfl)
                    have HZ : Hid (sgnD (aheadB s k) y = (y : Int)) := Lib.hid (by rw [hah]; unfold sgnD; rw [if_neg (by simpa using h45')])
                    have h45i : ¬ (pv : Int) = 45 := by omega
                    have g1 : ((pv : Int) == 45) = false := by simpa using h45i
                    have g2 : (pv == 45) = false := by simpa using h45
                    clear hah hpv h45'
                    have hz : sgnD (aheadB s k) y = (y : Int) := HZ.out
                    have HNX := Lib.hid (nums_next HI.out.2.1 HQ.out HEND.out)
                    rw [hz] at HNX
                    clear hz
                    go_wp2_with (refine wpList_appE 58 2 (.int .i64 0) 1 8 Tryz.underlying58 infoI64 rfl (by decide) (by decide) _ rfl _ _ rfl w.heap.size (.slice a m cp) m (i64v out) rfl ((HOLL.out ▸ HROW.out).alloc _) (some ⟨wo.heap.size, 0, none⟩) 1 1 [.int .i64 ((y : Int))] rfl (Rd.lit wo #[.int .i64 ((y : Int))] 2 (by show 1 ≤ maxLen; decide)) (fun u hu => by simp at hu; subst hu; rfl) (by omega) (by rw [World.size_alloc]; have := HBLW.out.size; omega) ?_; intro a3 c3 W3 hown3 hgrow3 hat3; have HO3 := Lib.hid hown3; have HG3 := Lib.hid hgrow3; clear hown3 hgrow3 hat3)
                    go_roundw
                    case rel => exact ⟨q, m + 1, a3, c3, out ++ [(y : Int)], by omega, rfl, rfl, by omega, Lib.hid (by rw [List.length_append, HOLL.out]; rfl), Lib.hid ⟨by rw [i64v_snoc, List.length_append, HOLL.out]; exact HO3.out, HNX.out, (HBLW.out.trans ((bAlloc (Below.refl wo.heap.size wo) _).mono HBLW.out.size)).grown HG3.out (by rw [World.size_alloc]; have := HBLW.out.size; omega) (fun b e => (HROW.out.lt b e).1)⟩⟩
                    case measure => simp [intOf]; omega
          · have hkq' : k < q := by omega
            have f1 : decide ((q : Int) < (n : Int)) = false := decide_eq_false (by omega)
            have f2 : decide (q < n) = false := decide_eq_false (by omega)
            have hend : endD (s.drop q) := end_drop s q (Or.inl (by rw [HNN.out]; omega))
            have HROW := Lib.hid HI.out.1
            have HBLW := Lib.hid HI.out.2.2
            have HOLL := Lib.hid HOL.out
            rcases Nat.eq_zero_or_pos k with hk0 | hk0
            · subst hk0
              have HZ : Hid (sgnD (aheadB s 0) y = (y : Int)) := Lib.hid rfl
              have HEND := Lib.hid hend
              have hz : sgnD (aheadB s 0) y = (y : Int) := HZ.out
              have HNX := Lib.hid (nums_next HI.out.2.1 HQ.out HEND.out)
              rw [hz] at HNX
              clear hz
              go_wp2_with (refine wpList_appE 58 2 (.int .i64 0) 1 8 Tryz.underlying58 infoI64 rfl (by decide) (by decide) _ rfl _ _ rfl w.heap.size (.slice a m cp) m (i64v out) rfl ((HOLL.out ▸ HROW.out).alloc _) (some ⟨wo.heap.size, 0, none⟩) 1 1 [.int .i64 ((y : Int))] rfl (Rd.lit wo #[.int .i64 ((y : Int))] 2 (by show 1 ≤ maxLen; decide)) (fun u hu => by simp at hu; subst hu; rfl) (by omega) (by rw [World.size_alloc]; have := HBLW.out.size; omega) ?_; intro a3 c3 W3 hown3 hgrow3 hat3; have HO3 := Lib.hid hown3; have HG3 := Lib.hid hgrow3; clear hown3 hgrow3 hat3)
              go_roundw
              case rel => exact ⟨q, m + 1, a3, c3, out ++ [(y : Int)], by omega, rfl, rfl, by omega, Lib.hid (by rw [List.length_append, HOLL.out]; rfl), Lib.hid ⟨by rw [i64v_snoc, List.length_append, HOLL.out]; exact HO3.out, HNX.out, (HBLW.out.trans ((bAlloc (Below.refl wo.heap.size wo) _).mono HBLW.out.size)).grown HG3.out (by rw [World.size_alloc]; have := HBLW.out.size; omega) (fun b e => (HROW.out.lt b e).1)⟩⟩
              case measure => simp [intOf]; omega
            · have hks1 : k - 1 < s.length := by rw [HNN.out]; omega
              have hah : aheadB s k = s[k - 1] := by unfold aheadB; rw [if_neg (by omega)]; simp [hks1]
              have hwk : IntKind.i64.wrap ((k : Int) - 1) = ((k - 1 : Nat) : Int) := by rw [IntKind.wrap_i64]; omega
              have hdk : decide ((0 : Int) < (k : Int)) = true := decide_eq_true (by omega)
              have hdk2 : decide (0 < k) = true := decide_eq_true hk0
              have HEND := Lib.hid hend
              obtain ⟨pv, hpv⟩ : ∃ pv, s[k - 1].toNat = pv := ⟨_, rfl⟩
              have hcp : ((ByteArray.mk s.toArray)[k - 1]'hks1).toNat = pv := hpv
              by_cases h45 : pv = 45
              · subst h45
                have h45' : s[k - 1] = 45 := UInt8.toNat_inj.1 hpv
                have HZ : Hid (sgnD (aheadB s k) y = -(y : Int)) := Lib.hid (by rw [hah, h45']; rfl)
                have hwn : IntKind.i64.wrap (-(y : Int)) = -(y : Int) := by rw [IntKind.wrap_i64]; omega
                have hwn2 : IntKind.i64.wrap (0 - (y : Int)) = -(y : Int) := by rw [IntKind.wrap_i64]; omega
                clear hah hpv h45'
                have hz : sgnD (aheadB s k) y = -(y : Int) := HZ.out
                have HNX := Lib.hid (nums_next HI.out.2.1 HQ.out HEND.out)
                rw [hz] at HNX
                clear hz
                go_wp2_with (refine wpList_appE 58 2 (.int .i64 0) 1 8 Tryz.underlying58 infoI64 rfl (by decide) (by decide) _ rfl _ _ rfl w.heap.size (.slice a m cp) m (i64v out) rfl ((HOLL.out ▸ HROW.out).alloc _) (some ⟨wo.heap.size, 0, none⟩) 1 1 [.int .i64 (-(y : Int))] rfl (Rd.lit wo #[.int .i64 (-(y : Int))] 2 (by show 1 ≤ maxLen; decide)) (fun u hu => by simp at hu; subst hu; rfl) (by omega) (by rw [World.size_alloc]; have := HBLW.out.size; omega) ?_; intro a3 c3 W3 hown3 hgrow3 hat3; have HO3 := Lib.hid hown3; have HG3 := Lib.hid hgrow3; clear hown3 hgrow3 hat3)
                go_roundw
                case rel => exact ⟨q, m + 1, a3, c3, out ++ [-(y : Int)], by omega, rfl, rfl, by omega, Lib.hid (by rw [List.length_append, HOLL.out]; rfl), Lib.hid ⟨by rw [i64v_snoc, List.length_append, HOLL.out]; exact HO3.out, HNX.out, (HBLW.out.trans ((bAlloc (Below.refl wo.heap.size wo) _).mono HBLW.out.size)).grown HG3.out (by rw [World.size_alloc]; have := HBLW.out.size; omega) (fun b e => (HROW.out.lt b e).1)⟩⟩
                case measure => simp [intOf]; omega
              · have h45' : ¬ s[k - 1] = 45 := fun e => h45 (by rw [← hpv, e]; rfl)
                have HZ : Hid (sgnD (aheadB s k) y = (y : Int)) := Lib.hid (by rw [hah]; unfold sgnD; rw [if_neg (by simpa using h45')])
                have h45i : ¬ (pv : Int) = 45 := by omega
                have g1 : ((pv : Int) == 45) = false := by simpa using h45i
                have g2 : (pv == 45) = false := by simpa using h45
                clear hah hpv h45'
                have hz : sgnD (aheadB s k) y = (y : Int) := HZ.out
                have HNX := Lib.hid (nums_next HI.out.2.1 HQ.out HEND.out)
                rw [hz] at HNX
                clear hz
                go_wp2_with (refine wpList_appE 58 2 (.int .i64 0) 1 8 Tryz.underlying58 infoI64 rfl (by decide) (by decide) _ rfl _ _ rfl w.heap.size (.slice a m cp) m (i64v out) rfl ((HOLL.out ▸ HROW.out).alloc _) (some ⟨wo.heap.size, 0, none⟩) 1 1 [.int .i64 ((y : Int))] rfl (Rd.lit wo #[.int .i64 ((y : Int))] 2 (by show 1 ≤ maxLen; decide)) (fun u hu => by simp at hu; subst hu; rfl) (by omega) (by rw [World.size_alloc]; have := HBLW.out.size; omega) ?_; intro a3 c3 W3 hown3 hgrow3 hat3; have HO3 := Lib.hid hown3; have HG3 := Lib.hid hgrow3; clear hown3 hgrow3 hat3)
                go_roundw
                case rel => exact ⟨q, m + 1, a3, c3, out ++ [(y : Int)], by omega, rfl, rfl, by omega, Lib.hid (by rw [List.length_append, HOLL.out]; rfl), Lib.hid ⟨by rw [i64v_snoc, List.length_append, HOLL.out]; exact HO3.out, HNX.out, (HBLW.out.trans ((bAlloc (Below.refl wo.heap.size wo) _).mono HBLW.out.size)).grown HG3.out (by rw [World.size_alloc]; have := HBLW.out.size; omega) (fun b e => (HROW.out.lt b e).1)⟩⟩
                case measure => simp [intOf]; omega
      · have hdn : isDg cb = false := by simpa using hdg
        have hnx : numsG (aheadB s k) none (s.drop k) = numsG (aheadB s (k + 1)) none (s.drop (k + 1)) := by
          rw [hdl, nums_skip _ _ _ hdn, ahead_next s k hks, hcb]
        have hor : cb.toNat < 48 ∨ 57 < cb.toNat := by
          rcases Nat.lt_or_ge cb.toNat 48 with h | h
          · exact .inl h
          · right
            rcases Nat.lt_or_ge 57 cb.toNat with h' | h'
            · exact h'
            · exact absurd ((isDg_iff cb).2 ⟨h, h'⟩) hdg
        have HIN : Hid (NumI w s res (k + 1) out (.slice a m cp) wr) := Lib.hid (by
          obtain ⟨i1, i2, i3⟩ := HI.out
          exact ⟨i1, by rw [← hnx]; exact i2, i3⟩)
        obtain ⟨c, hc⟩ : ∃ c, cb.toNat = c := ⟨_, rfl⟩
        rw [hc] at hce hc256 hor
        clear hnx hdl hcb hc hdg hdn
        rcases hor with h48 | h57
        · have e1 : decide (c < 48) = true := decide_eq_true h48
          have e3 : (c : Int) < 48 := by omega
          go_wp2_with fail
          go_roundw
          case rel => exact ⟨k + 1, m, a, cp, out, by omega, by go_num, rfl, hm4, HOL, HIN⟩
          case measure => simp [intOf]; omega
        · have e1 : decide (c < 48) = false := decide_eq_false (by omega)
          have e2 : decide (57 < c) = true := decide_eq_true h57
          have e3 : ¬ (c : Int) < 48 := by omega
          have e4 : (57 : Int) < (c : Int) := by omega
          go_wp2_with fail
          go_roundw
          case rel => exact ⟨k + 1, m, a, cp, out, by omega, by go_num, rfl, hm4, HOL, HIN⟩
          case measure => simp [intOf]; omega
    · have hfin : out = res := by
        have h := HI.out.2.1
        rcases Nat.lt_or_ge k n with h1 | h1
        · have h4 : m = 4 := by
            rcases Nat.lt_or_ge m 4 with q | q
            · exact absurd ⟨h1, q⟩ hgo
            · omega
          rw [← h, List.take_append_of_le_length (by rw [HOL.out]; omega), List.take_of_length_le (by rw [HOL.out]; omega)]
        · have hd0 : s.drop k = [] := List.drop_eq_nil_of_le (by rw [HNN.out]; omega)
          rw [hd0, show numsG (aheadB s k) none [] = [] from rfl, List.append_nil, List.take_of_length_le (by rw [HOL.out]; omega)] at h
          exact h
      subst hfin
      have HROW := Lib.hid HI.out.1
      have HBLW := Lib.hid HI.out.2.2
      rcases Nat.lt_or_ge k n with h1 | h1
      · have h4 : ¬ m < 4 := fun q => hgo ⟨h1, q⟩
        have hd1 : decide ((k : Int) < (n : Int)) = true := decide_eq_true (by omega)
        have hd2 : decide (k < n) = true := decide_eq_true h1
        have hd3 : decide ((m : Int) < 4) = false := decide_eq_false (by omega)
        have hd4 : decide (m < 4) = false := decide_eq_false h4
        go_wp2_with fail
        go_ret
        exact ⟨_, rfl, HROW.out, HBLW.out⟩
      · have hd1 : decide ((k : Int) < (n : Int)) = false := decide_eq_false (by omega)
        have hd2 : decide (k < n) = false := decide_eq_false (by omega)
        go_wp2_with fail
        go_ret
        exact ⟨_, rfl, HROW.out, HBLW.out⟩
end Go.Proofs.YtdpmihlmfephiaaGreatDoor
