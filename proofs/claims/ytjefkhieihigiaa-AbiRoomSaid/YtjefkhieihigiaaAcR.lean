/- AbiRoom: the document's Right, and the walk. -/
import Derived.Test.YtjefkhieihigiaaAcT
import Derived.Test.YtjefkhieihigiaaAcN
import Derived.BigQuiet
namespace Go.Proofs.Ytjefkhieihigiaa
set_option linter.unusedVariables false
set_option linter.unusedSimpArgs false
open Go.Joins Go.ChangeShapes Go.WideShapes Go.ChangeAt Go.RowKit Go.Deep

set_option maxRecDepth 100000 in
set_option maxHeartbeats 4000000 in
theorem dtexts_any (a : Option Addr) (c : Nat) (l : List (List UInt8)) (w : World) (hr : Rd w a l.length (strs l)) (hl : l.length < 9223372036854775808) (hf : ∀ s ∈ l, s.length ≤ maxLen) :
    Calls Try.prog 30 #[.slice a l.length c] w fun e w' => e = .returned (.bool (textsB l)) ∧ w = w' := by
  have HRD := Lib.hid hr
  have HF := Lib.hid hf
  obtain ⟨n, hn⟩ : ∃ n, l.length = n := ⟨_, rfl⟩
  have HN := Lib.hid hn
  obtain ⟨r, hrr⟩ : ∃ r, textsB l = r := ⟨_, rfl⟩
  have HRR := Lib.hid hrr
  rw [hn] at hl ⊢
  rw [hrr]
  have HL := Lib.hid hl
  have HBAD := Lib.hid (fun k (h : k < l.length) (hb : textB l[k] = false) => (show textsB l = false by
    unfold textsB
    rw [Bool.and_eq_false_iff]
    right
    rw [Bool.eq_false_iff, Ne, List.all_eq_true]
    intro h2
    have := h2 l[k] (List.getElem_mem h)
    rw [hb] at this
    cases this))
  clear hr hf hn hrr hl
  go_enter Try.func30, Try.ntmps30
  go_wp2_with fail
  go_loopw [3, 4] (fun i kk wr => ∃ k : Nat, i = .int .i64 (k : Int) ∧ k ≤ n ∧ Hid (∀ j (h : j < l.length), j < k → textB l[j] = true) ∧ w = wr) (fun i _ _ => n - (intOf i).toNat)
  case atStart => exact ⟨0, rfl, Nat.zero_le _, Lib.hid (fun j h h0 => absurd h0 (by omega)), rfl⟩
  case round =>
    obtain ⟨k, rfl, hk, HQ, rfl⟩ := hrel
    have hl := HL.out
    by_cases hkn : k < n
    · have hkl : k < l.length := by rw [HN.out]; exact hkn
      obtain ⟨g, off, hge, -, hc⟩ := HRD.out.at_ (show k < l.length from hkl)
      subst hge
      rw [strs_get l k hkl] at hc
      have hbad := HBAD.out k hkl
      have hsl2 := HF.out l[k] (List.getElem_mem hkl)
      have hnext : textB l[k] = true → ∀ j (h : j < l.length), j < k + 1 → textB l[j] = true := fun h j hj hj2 => by
        by_cases e : j = k
        · subst e; exact h
        · exact HQ.out j hj (by omega)
      obtain ⟨s, hs⟩ : ∃ s, l[k] = s := ⟨_, rfl⟩
      rw [hs] at hc hbad hnext hsl2
      have hsz : (ByteArray.mk s.toArray).size = s.length := mk_size s
      have kk0 : (0 : Int) ≤ (k : Int) := by omega
      have kk1 : (k : Int) < (n : Int) := by omega
      have hd1 : decide ((k : Int) < (n : Int)) = true := decide_eq_true kk1
      have HB2 := Lib.hid hbad
      have HN2 := Lib.hid hnext
      have HKN := Lib.hid hkn
      have hmx : s.length < 9223372036854775808 := max_lt3 hsl2
      clear hbad hnext hs hsl2 hkn hk hkl
      by_cases h200 : 200 < s.length
      · have d1 : decide ((200 : Int) < (s.length : Int)) = true := decide_eq_true (by omega)
        have ht : textB s = false := by unfold textB; rw [decide_eq_false (by omega)]; rfl
        have hfin := HB2.out ht
        rw [HRR.out] at hfin
        clear h200 ht hmx
        go_wp2_with fail
        go_ret
        exact ⟨by rw [hfin]; rfl, rfl⟩
      have d1 : decide ((200 : Int) < (s.length : Int)) = false := decide_eq_false (by omega)
      have H200 := Lib.hid h200
      clear h200
      go_wp2_with fail
      go_loopw [4] (fun kk wr => ∃ q : Nat, kk = .int .i64 (q : Int) ∧ q ≤ s.length ∧ Hid ((s.take q).any (· == 0) = false) ∧ w = wr) (fun kk _ => s.length - (intOf kk).toNat)
      case atStart => exact ⟨0, rfl, Nat.zero_le _, Lib.hid rfl, rfl⟩
      case round =>
        obtain ⟨q, rfl, hq, HP, rfl⟩ := hrel
        by_cases h : q < s.length
        · have hst : (s.take (q + 1)).any (· == 0) = ((s.take q).any (· == 0) || s[q] == 0) := by
            rw [List.take_add_one, List.getElem?_eq_getElem h, List.any_append]; simp
          have hmi : s[q] = 0 → textB s = false := fun e => by
            unfold textB
            rw [Bool.and_eq_false_iff]
            right
            rw [Bool.not_eq_false', List.any_eq_true]
            exact ⟨s[q], List.getElem_mem h, by rw [e]; rfl⟩
          rw [HP.out, Bool.false_or] at hst
          obtain ⟨c0, hcc⟩ : ∃ c, s[q] = c := ⟨_, rfl⟩
          rw [hcc] at hst hmi
          obtain ⟨cn, hcn⟩ : ∃ c : Nat, c0.toNat = c := ⟨_, rfl⟩
          have hce : ((ByteArray.mk s.toArray)[q]'h).toNat = cn := by rw [← hcn, ← hcc]; rfl
          have HST := Lib.hid hst
          have HMI := Lib.hid hmi
          have HCN := Lib.hid hcn
          have hlt : cn < 256 := by rw [← hcn]; exact c0.toNat_lt
          have kq0 : (0 : Int) ≤ (q : Int) := by omega
          have kq1 : (q : Int) < (s.length : Int) := by omega
          have hd2 : decide ((q : Int) < (s.length : Int)) = true := decide_eq_true kq1
          clear hst hmi hcc hcn
          by_cases hz : cn = 0
          · have hc0 : c0 = 0 := UInt8.toNat_inj.1 (by rw [HCN.out, hz]; rfl)
            have hfin := HB2.out (HMI.out hc0)
            rw [HRR.out] at hfin
            have e1 : ((cn : Int) == 0) = true := by simp [hz]
            clear hz hc0
            go_wp2_with fail
            go_ret
            exact ⟨by rw [hfin]; rfl, rfl⟩
          · have hc0 : (c0 == 0) = false := by
              rw [beq_eq_false_iff_ne]
              intro e
              apply hz
              rw [← HCN.out, e]; rfl
            have e1 : ((cn : Int) == 0) = false := by simp [hz]
            have hnx := HST.out
            rw [hc0] at hnx
            have HNX := Lib.hid hnx
            clear hnx hc0
            go_wp2_with fail
            go_roundw
            case rel => exact ⟨q + 1, by go_num, by omega, HNX, trivial⟩
            case measure => simp [intOf]; omega
        · obtain rfl : q = s.length := by omega
          have ht : textB s = true := by
            unfold textB
            have h1 := HP.out
            rw [List.take_of_length_le (Nat.le_refl _)] at h1
            rw [h1, decide_eq_true (by have := H200.out; omega)]
            rfl
          have HN3 := Lib.hid (HN2.out ht)
          have hd2 : decide ((s.length : Int) < (s.length : Int)) = false := by simp
          clear h hq ht
          go_wp2_with fail
          have hkn := HKN.out
          go_roundw
          case rel => exact ⟨k + 1, by go_num, by omega, HN3, trivial⟩
          case measure => simp [intOf]; omega
    · obtain rfl : k = n := by omega
      have ha : l.all textB = true := by
        rw [List.all_eq_true]
        intro x hx
        obtain ⟨j, hj, rfl⟩ := List.getElem_of_mem hx
        exact HQ.out j hj (by rw [HN.out] at hj; exact hj)
      have hfin := HRR.out
      unfold textsB at hfin
      rw [ha, HN.out, Bool.and_true] at hfin
      have hd1 : decide ((k : Int) < (k : Int)) = false := by simp
      by_cases h8 : k ≤ 8
      · have d1 : decide ((k : Int) ≤ 8) = true := decide_eq_true (by omega)
        rw [decide_eq_true h8] at hfin
        have HFIN := Lib.hid hfin
        clear ha h8 hkn hk hfin
        go_wp2_with fail
        go_ret
        exact ⟨by rw [← HFIN.out]; rfl, rfl⟩
      · have d1 : decide ((k : Int) ≤ 8) = false := decide_eq_false (by omega)
        rw [decide_eq_false h8] at hfin
        have HFIN := Lib.hid hfin
        clear ha h8 hkn hk hfin
        go_wp2_with fail
        go_ret
        exact ⟨by rw [← HFIN.out]; rfl, rfl⟩
set_option maxRecDepth 100000 in
set_option maxHeartbeats 4000000 in
theorem dright_nil (a1 a2 : Option Addr) (c1 c2 : Nat) (l1 l2 : List (List UInt8)) (w : World) (h1 : Rd w a1 l1.length (strs l1)) (h2 : Rd w a2 l2.length (strs l2)) (m1 : l1.length < 9223372036854775808) (m2 : l2.length < 9223372036854775808) (f1 : ∀ s ∈ l1, s.length ≤ maxLen) (f2 : ∀ s ∈ l2, s.length ≤ maxLen) :
    Calls Try.prog 14 #[.slice a1 l1.length c1, .slice a2 l2.length c2, .slice none 0 0] w fun e w' => e = .returned (.bool (textsB l1 && textsB l2)) ∧ w = w' := by
  have H1 := Lib.hid (dtexts_any a1 c1 l1 w h1 m1 f1)
  have H2 := Lib.hid (dtexts_any a2 c2 l2 w h2 m2 f2)
  generalize textsB l1 = t1 at *
  generalize textsB l2 = t2 at *
  generalize l1.length = n1 at *
  generalize l2.length = n2 at *
  clear h1 h2 m1 m2 f1 f2
  go_enter Try.func14, Try.ntmps14
  go_wp2_with fail
  refine H1.out.mono ?_; rintro e w1 ⟨rfl, rfl⟩
  go_wp2_with fail
  refine H2.out.mono ?_; rintro e w1 ⟨rfl, rfl⟩
  go_wp2_with fail
  go_loopw [9, 10] (fun i kk wr => i = .int .i64 0 ∧ w = wr) (fun i _ _ => 1)
  case atStart => exact ⟨rfl, rfl⟩
  case round =>
    obtain ⟨rfl, rfl⟩ := hrel
    cases t1 <;> cases t2 <;> (go_wp2_with fail) <;> go_ret <;> exact ⟨rfl, rfl⟩
/-- with enough pages it is built, with one less never -/
theorem room_all (l1 l2 : List (List UInt8)) (h1 : textsB l1 = true) (h2 : textsB l2 = true) (more : Int) (m0 : 0 ≤ more) (m1 : more ≤ 50) :
    ∃ nd pg : Nat, needN l1 l2 0 = nd ∧ (nd + 319) / 256 = pg ∧ 1 ≤ pg ∧ pg ≤ 20 ∧ nd ≤ 5000 ∧ (buildF (emptyM 200) 9 ((pg : Int) + more) l1 l2 []).2.2 = 0 ∧ (buildF (emptyM 200) 9 ((pg : Int) - 1) l1 l2 []).2.2 = 190 := by
  obtain ⟨n1, f1⟩ := texts_fit h1
  obtain ⟨n2, f2⟩ := texts_fit h2
  have s1 := lensN_le l1 f1
  have s2 := lensN_le l2 f2
  have hnd : needN l1 l2 0 ≤ 5000 ∧ 96 ≤ needN l1 l2 0 := by unfold needN upN; omega
  obtain ⟨nd, hn⟩ : ∃ nd, needN l1 l2 0 = nd := ⟨_, rfl⟩
  rw [hn] at hnd
  obtain ⟨pg, hp⟩ : ∃ pg, (nd + 319) / 256 = pg := ⟨_, rfl⟩
  have hz : (textsB l1 && (textsB l2 && auxB [])) = true := by rw [h1, h2]; rfl
  refine ⟨nd, pg, hn, hp, by omega, by omega, hnd.1, ?_, ?_⟩
  · unfold buildF
    rw [hz, if_neg (by decide), show ([] : List Cp).length = 0 from rfl, hn]
    have hr : roomB (nd : Int) ((pg : Int) + more) = true := by
      unfold roomB
      rw [decide_eq_false (by omega), decide_eq_true (by omega), decide_eq_true (by omega)]
      rfl
    rw [hr, if_neg (by decide)]
    have hm : (mapF (emptyM 200) 9 ((pg : Int) + more)).2 = 0 := by
      unfold mapF
      have hb : badP 9 ((pg : Int) + more) = false := by
        unfold badP
        rw [decide_eq_false (by omega), decide_eq_false (by omega), decide_eq_false (by omega), decide_eq_false (by omega)]
        rfl
      rw [hb, if_neg (by decide)]
      have ha : anyIn (emptyM 200) (9 : Int).toNat ((pg : Int) + more).toNat = false := by
        unfold anyIn
        rw [List.any_eq_false]
        intro x hx
        simp [emptyM]
      rw [ha, if_neg (by decide), if_neg (by show ¬ 200 < 0 + _; omega)]
    rw [if_neg (by rw [hm]; decide)]
  · unfold buildF
    rw [hz, if_neg (by decide), show ([] : List Cp).length = 0 from rfl, hn]
    have hr : roomB (nd : Int) ((pg : Int) - 1) = false := by
      unfold roomB
      rw [decide_eq_false (by omega), Bool.false_or, Bool.and_eq_false_iff]
      by_cases h : 0 < (pg : Int) - 1
      · right; exact decide_eq_false (by omega)
      · left; exact decide_eq_false h
    rw [hr, if_pos (by rfl)]
set_option maxRecDepth 100000 in
set_option maxHeartbeats 4000000 in
theorem room_out (W : World) (a1 a2 : Option Addr) (c1 c2 : Nat) (l1 l2 : List (List UInt8)) (mo : Int) (r1 : Rd W a1 l1.length (strs l1)) (r2 : Rd W a2 l2.length (strs l2)) (m1 : l1.length < 9223372036854775808) (m2 : l2.length < 9223372036854775808) (f1 : ∀ s ∈ l1, s.length ≤ maxLen) (f2 : ∀ s ∈ l2, s.length ≤ maxLen)
    (h : (textsB l1 && textsB l2) = false ∨ mo < 0 ∨ 50 < mo) :
    Calls Try.prog 5 #[.slice a1 l1.length c1, .slice a2 l2.length c2, .int .i64 mo] W fun e W' => e = .returned (.bool true) ∧ Below W.heap.size W W' := by
  have HA := Lib.hid (awake_any W)
  have HR := Lib.hid (fun w (hb : Below W.heap.size W w) => dright_nil a1 a2 c1 c2 l1 l2 w (r1.below hb) (r2.below hb) m1 m2 f1 f2)
  obtain ⟨q, hq⟩ : ∃ q, (textsB l1 && textsB l2) = q := ⟨_, rfl⟩
  rw [hq] at HR h
  have HH := Lib.hid h
  generalize l1.length = n1 at *
  generalize l2.length = n2 at *
  clear r1 r2 m1 m2 f1 f2 h hq
  go_enter Try.func5, Try.ntmps5
  go_wp2_with fail
  refine HA.out.mono ?_; rintro e W1 ⟨rfl, hb1⟩
  have B1 := Lib.hid hb1
  clear hb1 HA
  go_wp2_with fail
  refine (HR.out W1 B1.out).mono ?_; rintro e W2 ⟨rfl, rfl⟩
  cases q with
  | false =>
    go_wp2_with fail
    go_ret
    exact ⟨rfl, B1.out⟩
  | true =>
    have h2 : mo < 0 ∨ 50 < mo := by simpa using HH.out
    clear HH
    by_cases g1 : mo < 0
    · have d1 : decide (mo < 0) = true := decide_eq_true g1
      clear h2 g1
      go_wp2_with fail
      go_ret
      exact ⟨rfl, B1.out⟩
    have d1 : decide (mo < 0) = false := decide_eq_false g1
    have d2 : decide (50 < mo) = true := decide_eq_true (by omega)
    clear h2 g1
    go_wp2_with fail
    go_ret
    exact ⟨rfl, B1.out⟩
set_option maxRecDepth 100000 in
set_option maxHeartbeats 4000000 in
theorem room_in (W : World) (a1 a2 : Option Addr) (c1 c2 : Nat) (l1 l2 : List (List UInt8)) (mo : Int) (r1 : Rd W a1 l1.length (strs l1)) (r2 : Rd W a2 l2.length (strs l2)) (m1 : l1.length < 9223372036854775808) (m2 : l2.length < 9223372036854775808) (f1 : ∀ s ∈ l1, s.length ≤ maxLen) (f2 : ∀ s ∈ l2, s.length ≤ maxLen)
    (h : (textsB l1 && textsB l2) = true) (g0 : 0 ≤ mo) (g1 : mo ≤ 50) :
    Calls Try.prog 5 #[.slice a1 l1.length c1, .slice a2 l2.length c2, .int .i64 mo] W fun e W' => e = .returned (.bool true) ∧ Below W.heap.size W W' := by
  have HA := Lib.hid (awake_any W)
  have HR := Lib.hid (fun w (hb : Below W.heap.size W w) => dright_nil a1 a2 c1 c2 l1 l2 w (r1.below hb) (r2.below hb) m1 m2 f1 f2)
  rw [h] at HR
  obtain ⟨t1, t2⟩ := Bool.and_eq_true_iff.1 h
  obtain ⟨n1, e1⟩ := texts_fit t1
  obtain ⟨n2, e2⟩ := texts_fit t2
  have s1 := lensN_le l1 e1
  have s2 := lensN_le l2 e2
  obtain ⟨nd, pg, hnd, hpg, p1, p2, hle, b1, b2⟩ := room_all l1 l2 t1 t2 mo g0 g1
  have hw := needW_big l1 l2 0 (by omega) (by omega) (by omega) (by omega)
  rw [hnd] at hw
  have HN := Lib.hid (fun w (hb : Below W.heap.size W w) => need_mod a1 a2 none c1 c2 0 0 l1 l2 w (r1.below hb) (r2.below hb) (by omega) (by omega) (by omega))
  rw [hw] at HN
  have HNE := Lib.hid (fun w => snew_any 200 (by decide) w)
  rw [show (200 : Int).toNat = 200 from rfl] at HNE
  obtain ⟨qa, hqa⟩ : ∃ qa : Int, (pg : Int) + mo = qa := ⟨_, rfl⟩
  obtain ⟨qb, hqb⟩ : ∃ qb : Int, (pg : Int) - 1 = qb := ⟨_, rfl⟩
  rw [hqa] at b1
  rw [hqb] at b2
  have HB1 := Lib.hid (fun (w : World) (M : Nat) (F : Nat → Prop) (hb : Below W.heap.size W w) (h : Own1 w W.heap.size F M (emptyM 200)) => build_any w W.heap.size M F (emptyM 200) 9 qa a1 a2 none c1 c2 0 l1 l2 [] h (RdT.old h r1 hb rfl) (RdT.old h r2 hb rfl) (rdC_nil _ _) (by omega) (by omega) (by omega) (by omega) (by omega) (by decide) (fun c hc => by cases hc))
  have HB2 := Lib.hid (fun (w : World) (M : Nat) (F : Nat → Prop) (hb : Below W.heap.size W w) (h : Own1 w W.heap.size F M (emptyM 200)) => build_any w W.heap.size M F (emptyM 200) 9 qb a1 a2 none c1 c2 0 l1 l2 [] h (RdT.old h r1 hb rfl) (RdT.old h r2 hb rfl) (rdC_nil _ _) (by omega) (by omega) (by omega) (by omega) (by omega) (by decide) (fun c hc => by cases hc))
  rw [show ((9 : Nat) : Int) = 9 from rfl, b1, show ([] : List Cp).length = 0 from rfl] at HB1
  rw [show ((9 : Nat) : Int) = 9 from rfl, b2, show ([] : List Cp).length = 0 from rfl] at HB2
  obtain ⟨V1, hV1⟩ : ∃ V, startV (buildF (emptyM 200) 9 qa l1 l2 []).2.1 = V := ⟨_, rfl⟩
  obtain ⟨V2, hV2⟩ : ∃ V, startV (buildF (emptyM 200) 9 qb l1 l2 []).2.1 = V := ⟨_, rfl⟩
  rw [hV1] at HB1
  rw [hV2] at HB2
  have HV1 : Hid (V1.size = 24 ∧ V1.all (·.oneCell') = true) := Lib.hid ⟨by rw [← hV1]; exact startV_size _, by rw [← hV1]; exact startV_one _⟩
  have HV2 : Hid (V2.size = 24 ∧ V2.all (·.oneCell') = true) := Lib.hid ⟨by rw [← hV2]; exact startV_size _, by rw [← hV2]; exact startV_one _⟩
  generalize (buildF (emptyM 200) 9 qa l1 l2 []).1 = mm1 at HB1
  generalize (buildF (emptyM 200) 9 qb l1 l2 []).1 = mm2 at HB2
  have w1 : IntKind.i64.wrap ((nd : Int) + 64) = (nd : Int) + 64 := by rw [IntKind.wrap_i64]; omega
  have w2 : IntKind.i64.wrap ((nd : Int) + 64 + 255) = (nd : Int) + 64 + 255 := by rw [IntKind.wrap_i64]; omega
  have w3 : ((nd : Int) + 64 + 255).tdiv 256 = (pg : Int) := by rw [Int.tdiv_eq_ediv_of_nonneg (by omega)]; omega
  have w4 : ((nd : Int) + 64 + 255) / 256 = (pg : Int) := by omega
  have w5 : IntKind.i64.wrap (pg : Int) = (pg : Int) := by rw [IntKind.wrap_i64]; omega
  have w6 : IntKind.i64.wrap ((pg : Int) + mo) = qa := by rw [IntKind.wrap_i64]; omega
  have w7 : IntKind.i64.wrap ((pg : Int) - 1) = qb := by rw [IntKind.wrap_i64]; omega
  have d1 : decide (mo < 0) = false := decide_eq_false (by omega)
  have d2 : decide (50 < mo) = false := decide_eq_false (by omega)
  have d3 : decide (200 < qa) = false := decide_eq_false (by omega)
  have HW := Lib.hid (And.intro w1 (And.intro w2 (And.intro w3 (And.intro w4 (And.intro w5 (And.intro w6 w7))))))
  generalize l1.length = n1 at *
  generalize l2.length = n2 at *
  clear r1 r2 m1 m2 f1 f2 h t1 t2 n1 n2 e1 e2 s1 s2 hnd hpg p1 p2 hle b1 b2 hw hqa hqb hV1 hV2 w1 w2 w3 w4 w5 w6 w7 g0 g1
  go_enter Try.func5, Try.ntmps5
  go_wp2_with fail
  refine HA.out.mono ?_; rintro e W1 ⟨rfl, hb1⟩
  have B1 := Lib.hid hb1
  clear hb1 HA
  go_wp2_with fail
  refine (HR.out W1 B1.out).mono ?_; rintro e W2 ⟨rfl, rfl⟩
  clear HR
  go_wp2_with fail
  refine (HN.out W1 B1.out).mono ?_; rintro e W3 ⟨rfl, hb⟩
  have B3 := Lib.hid (B1.out.trans (hb.mono B1.out.size))
  clear hb B1 HN
  obtain ⟨w1, w2, w3, w4, w5, w6, w7⟩ := HW.out
  go_wp2_with fail
  refine (HNE.out W3).mono ?_; rintro e W4 ⟨M, F, rfl, h4, hb⟩
  have O4 := Lib.hid (show Own1 W4 W.heap.size F M (emptyM 200) from ⟨h4.mem, fun q hq => Nat.le_trans B3.out.size (h4.ge q hq), Nat.le_trans B3.out.size h4.sz⟩)
  have B4 := Lib.hid (bTrans B3.out hb)
  clear hb h4 B3
  go_wp2_with fail
  refine (HNE.out W4).mono ?_; rintro e W5 ⟨M2, F2, rfl, h5, hb⟩
  have P5 := Lib.hid (show Own1 W5 W.heap.size F2 M2 (emptyM 200) from ⟨h5.mem, fun q hq => Nat.le_trans B4.out.size (h5.ge q hq), Nat.le_trans B4.out.size h5.sz⟩)
  have hdis : ∀ q, F2 q → ¬ F q := fun q h1 h2 => by have := h5.ge q h1; have := O4.out.lt q h2; omega
  have HD := Lib.hid hdis
  have O5 := Lib.hid (O4.out.below hb)
  have B5 := Lib.hid (bTrans B4.out hb)
  clear hb h5 hdis O4 B4 HNE
  go_wp2_with fail
  refine (HB1.out W5 M F B5.out O5.out).mono ?_; rintro e W6 ⟨rfl, F', h6, mv⟩
  have P6 := Lib.hid (P5.out.beside mv HD.out).1
  have B6 := Lib.hid (B5.out.trans (mv.belowN O5.out))
  clear h6 mv O5 P5 B5 HB1 HD
  simp only []
  go_at_K
  rename_i hK
  refine hK _ _ ?_
  clear hK
  refine Great.wpList_readTo rfl (some 70) rfl (.tuple #[.agg V1, .int .i64 0]) rfl ?_
  refine Great.wpList_readTo rfl (some 78) rfl (.agg V1) rfl ?_
  refine Great.wpList_readTo rfl (some 79) rfl (.int .i64 0) rfl ?_
  refine Great.wpList_allocTo rfl (some 15) rfl (.pointer (some ⟨W6.heap.size, 0, none⟩)) (.cells zero24 34) (by kernel_rfl) ?_
  refine wpList_store_mid rfl _ _ _ rfl W6.heap.size 0 V1 rfl rfl (by rw [HV1.out.1]; exact (BoxN.new W6 zero24 34).there) (by rw [HV1.out.1]; exact startSize) HV1.out.2 ?_
  have hb7 : Below W6.heap.size W6 ((W6.alloc (.cells zero24 34)).setCells W6.heap.size 0 V1.toList) := below_setCells _ (Nat.le_refl _) _ _ _ (bAlloc (Below.refl _ _) _)
  obtain ⟨W7, hW7⟩ : ∃ W7, (W6.alloc (.cells zero24 34)).setCells W6.heap.size 0 V1.toList = W7 := ⟨_, rfl⟩
  rw [hW7] at hb7
  (try rw [hW7])
  have P7 := Lib.hid (P6.out.below hb7)
  have B7 := Lib.hid (B6.out.trans (hb7.mono B6.out.size))
  clear hW7 hb7 P6 B6
  obtain ⟨R1, hR1⟩ : ∃ R, W6.heap.size = R := ⟨_, rfl⟩
  rw [hR1]
  clear hR1
  go_wp2_with fail
  refine (HB2.out W7 M2 F2 B7.out P7.out).mono ?_; rintro e W8 ⟨rfl, F8, h8, mv⟩
  have B8 := Lib.hid (B7.out.trans (mv.belowN P7.out))
  clear h8 mv P7 B7 HB2
  simp only []
  go_at_K
  rename_i hK
  refine hK _ _ ?_
  clear hK
  refine Great.wpList_readTo rfl (some 80) rfl (.tuple #[.agg V2, .int .i64 190]) rfl ?_
  refine Great.wpList_readTo rfl (some 87) rfl (.agg V2) rfl ?_
  refine Great.wpList_readTo rfl (some 88) rfl (.int .i64 190) rfl ?_
  refine Great.wpList_allocTo rfl (some 17) rfl (.pointer (some ⟨W8.heap.size, 0, none⟩)) (.cells zero24 34) (by kernel_rfl) ?_
  refine wpList_store_mid rfl _ _ _ rfl W8.heap.size 0 V2 rfl rfl (by rw [HV2.out.1]; exact (BoxN.new W8 zero24 34).there) (by rw [HV2.out.1]; exact startSize) HV2.out.2 ?_
  have hb9 : Below W8.heap.size W8 ((W8.alloc (.cells zero24 34)).setCells W8.heap.size 0 V2.toList) := below_setCells _ (Nat.le_refl _) _ _ _ (bAlloc (Below.refl _ _) _)
  obtain ⟨W9, hW9⟩ : ∃ W9, (W8.alloc (.cells zero24 34)).setCells W8.heap.size 0 V2.toList = W9 := ⟨_, rfl⟩
  rw [hW9] at hb9
  (try rw [hW9])
  have B9 := Lib.hid (B8.out.trans (hb9.mono B8.out.size))
  clear hW9 hb9 B8
  obtain ⟨R2, hR2⟩ : ∃ R, W8.heap.size = R := ⟨_, rfl⟩
  rw [hR2]
  clear hR2
  go_wp2_with fail
  go_ret
  exact ⟨rfl, B9.out⟩
theorem AbiRoom_walk (W : World) (a1 a2 : Option Addr) (c1 c2 : Nat) (l1 l2 : List (List UInt8)) (mo : Int) (r1 : Rd W a1 l1.length (strs l1)) (r2 : Rd W a2 l2.length (strs l2)) (g1 : ∀ s ∈ l1, s.length ≤ maxLen) (g2 : ∀ s ∈ l2, s.length ≤ maxLen) (m1 : l1.length < 9223372036854775808) (m2 : l2.length < 9223372036854775808) :
    Calls Try.prog 5 #[.slice a1 l1.length c1, .slice a2 l2.length c2, .int .i64 mo] W fun e W' => e = .returned (.bool true) ∧ Below W.heap.size W W' := by
  by_cases h : (textsB l1 && textsB l2) = true
  · by_cases h1 : mo < 0
    · exact room_out W a1 a2 c1 c2 l1 l2 mo r1 r2 m1 m2 g1 g2 (Or.inr (Or.inl h1))
    by_cases h2 : 50 < mo
    · exact room_out W a1 a2 c1 c2 l1 l2 mo r1 r2 m1 m2 g1 g2 (Or.inr (Or.inr h2))
    exact room_in W a1 a2 c1 c2 l1 l2 mo r1 r2 m1 m2 g1 g2 h (by omega) (by omega)
  · exact room_out W a1 a2 c1 c2 l1 l2 mo r1 r2 m1 m2 g1 g2 (Or.inl (by simpa using h))
end Go.Proofs.Ytjefkhieihigiaa
