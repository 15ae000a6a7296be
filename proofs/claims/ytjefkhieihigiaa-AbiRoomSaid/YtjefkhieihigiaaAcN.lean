/- AbiNeeds: the walk. -/
import Derived.Test.YtjefkhieihigiaaAbX
namespace Go.Proofs.Ytjefkhieihigiaa
set_option linter.unusedVariables false
set_option linter.unusedSimpArgs false
open Go.Joins Go.ChangeShapes Go.WideShapes Go.ChangeAt Go.RowKit Go.Deep

theorem lensN_max (l : List (List UInt8)) (b : Nat) (h : ∀ s ∈ l, s.length ≤ b) : lensN l ≤ (b + 1) * l.length := by
  induction l with
  | nil => simp [lensN]
  | cons s r ih =>
    rw [lensN_cons, List.length_cons, Nat.mul_add, Nat.mul_one]
    have := h s (by simp)
    have := ih (fun t ht => h t (List.mem_cons_of_mem _ ht))
    omega
theorem needW_big (a e : List (List UInt8)) (k : Nat) (h : lensN a + lensN e ≤ 4000000000000000000) (ha : a.length ≤ 1000000) (he : e.length ≤ 1000000) (hk : k ≤ 1000000) : needW a e k = (needN a e k : Nat) := by
  have h1 : upW (lensN a + lensN e) = (upN (lensN a + lensN e) : Nat) := by
    unfold upW upN
    rw [IntKind.wrap_u64]
    omega
  unfold needW needN
  rw [h1]
  have h2 : upN (lensN a + lensN e) ≤ 4000000000000000031 := by unfold upN; omega
  rw [IntKind.wrap_i64, IntKind.wrap_i64]
  omega
theorem strs_snoc (l : List (List UInt8)) (s : List UInt8) : strs (l ++ [s]) = strs l ++ [strV s] := by simp [strs]
/-- texts, and another one, in a new row -/
theorem ext_any (W : World) (ty : TypeId) (a : Option Addr) (c : Nat) (l : List (List UInt8)) (mo : List UInt8) (hr : Rd W a l.length (strs l)) (hl : l.length ≤ 400) :
    ∃ a1 c1 W1 a2 c2 W2, (Builtin.append_ #[23, 23] ty #[.slice (some ⟨W.heap.size, 0, none⟩) 0 0, .slice a l.length c]).run Try.prog (W.alloc (.cells #[] 9)) = .ok (.slice a1 l.length c1) W1 ∧
      (Builtin.append_ #[23, 23] ty #[.slice a1 l.length c1, .slice (some ⟨W1.heap.size, 0, none⟩) 1 1]).run Try.prog (W1.alloc (.cells #[.string ⟨mo.toArray⟩] 9)) = .ok (.slice a2 (l.length + 1) c2) W2 ∧
      Rd W2 a2 (l ++ [mo]).length (strs (l ++ [mo])) ∧ Below W.heap.size W W2 := by
  have hb0 : Below W.heap.size W (W.alloc (.cells #[] 9)) := bAlloc (Below.refl _ _) _
  have ho0 : (W.alloc (.cells #[] 9)).ownsRow W.heap.size 9 1 (.slice (some ⟨W.heap.size, 0, none⟩) 0 0) 0 [] := ⟨rfl, Or.inr ⟨W.heap.size, 0, #[], rfl, Nat.le_refl _, heap_alloc_new W _, Nat.le_refl _, Nat.zero_le _, rfl, rfl⟩⟩
  obtain ⟨a1, c1, W1, run1, own1, gr1, at1⟩ := run_appE (P := Try.prog) 23 9 (.string ⟨#[]⟩) 1 16 Try.underlying23 infoStr rfl (by decide) (by decide) (W.alloc (.cells #[] 9)) ty W.heap.size _ 0 [] ho0 a l.length c (strs l) (by rw [Nat.mul_one]; exact hr.below hb0) (strs_one l) (by omega) (Nat.le_of_lt (by rw [size_alloc]; omega))
  rw [Nat.zero_add, List.nil_append] at own1
  rw [Nat.zero_add] at run1 at1
  have hb1 : Below W.heap.size W W1 := grownB hb0 gr1 (fun r e => by cases e; exact Nat.le_refl _)
  obtain ⟨V, hV⟩ : ∃ V, W1.alloc (.cells #[.string ⟨mo.toArray⟩] 9) = V := ⟨_, rfl⟩
  have hb2 : Below W1.heap.size W1 V := by rw [← hV]; exact bAlloc (Below.refl _ _) _
  have own2 := own_kp2 own1 (KP.of_below (fun _ => False) hb2) (fun _ _ => id)
  have hrd : Rd V (some ⟨W1.heap.size, 0, none⟩) (1 * 1) [.string ⟨mo.toArray⟩] := by rw [← hV]; exact Rd.lit W1 #[.string ⟨mo.toArray⟩] 9 (by show 1 ≤ maxLen; decide)
  obtain ⟨a2, c2, W2, run2, own3, gr2, at2⟩ := run_appE (P := Try.prog) 23 9 (.string ⟨#[]⟩) 1 16 Try.underlying23 infoStr rfl (by decide) (by decide) V ty W.heap.size _ l.length (strs l) own2 (some ⟨W1.heap.size, 0, none⟩) 1 1 [.string ⟨mo.toArray⟩] hrd (fun u hu => by rw [List.mem_singleton] at hu; rw [hu]; rfl) (by omega) (Nat.le_trans hb1.size hb2.size)
  refine ⟨a1, c1, W1, a2, c2, W2, run1, by rw [hV]; exact run2, ?_, ?_⟩
  · rw [List.length_append, strs_snoc]
    have := own_rd own3
    rwa [Nat.mul_one] at this
  · refine grownB (hb1.trans (hb2.mono hb1.size)) gr2 (fun r e => ?_)
    rcases at1 with h | h
    · rw [h] at e; cases e; exact Nat.le_refl _
    · rw [h] at e; cases e; rw [size_alloc]; exact Nat.le_succ _
set_option maxRecDepth 100000 in
set_option maxHeartbeats 4000000 in
theorem needs_out (W : World) (a1 a2 a3 : Option Addr) (c1 c2 c3 n1 n2 n3 : Nat) (mo : ByteArray) (h : 200 < mo.size ∨ 100 < n1 ∨ 100 < n2 ∨ 100 < n3) :
    Calls Try.prog 6 #[.slice a1 n1 c1, .slice a2 n2 c2, .slice a3 n3 c3, .string mo] W fun e W' => e = .returned (.bool true) ∧ Below W.heap.size W W' := by
  have HA := Lib.hid (awake_any W)
  obtain ⟨n4, hn4⟩ : ∃ n, mo.size = n := ⟨_, rfl⟩
  rw [hn4] at h
  have HH := Lib.hid h
  clear h
  go_enter Try.func6, Try.ntmps6
  go_wp2_with fail
  refine HA.out.mono ?_; rintro e W1 ⟨rfl, hb1⟩
  have B1 := Lib.hid hb1
  clear hb1 HA
  by_cases g1 : 200 < n4
  · have d1 : decide ((200 : Int) < (n4 : Int)) = true := decide_eq_true (by omega)
    clear g1
    go_wp2_with fail
    go_ret
    exact ⟨rfl, B1.out⟩
  have d1 : decide ((200 : Int) < (n4 : Int)) = false := decide_eq_false (by omega)
  by_cases g2 : 100 < n1
  · have d2 : decide ((100 : Int) < (n1 : Int)) = true := decide_eq_true (by omega)
    clear g1 g2
    go_wp2_with fail
    go_ret
    exact ⟨rfl, B1.out⟩
  have d2 : decide ((100 : Int) < (n1 : Int)) = false := decide_eq_false (by omega)
  by_cases g3 : 100 < n2
  · have d3 : decide ((100 : Int) < (n2 : Int)) = true := decide_eq_true (by omega)
    clear g1 g2 g3
    go_wp2_with fail
    go_ret
    exact ⟨rfl, B1.out⟩
  have d3 : decide ((100 : Int) < (n2 : Int)) = false := decide_eq_false (by omega)
  have d4 : decide ((100 : Int) < (n3 : Int)) = true := decide_eq_true (by have := HH.out; omega)
  clear g1 g2 g3
  go_wp2_with fail
  go_ret
  exact ⟨rfl, B1.out⟩
set_option maxRecDepth 100000 in
set_option maxHeartbeats 4000000 in
theorem AbiNeeds_walk (W : World) (a1 a2 a3 : Option Addr) (c1 c2 c3 : Nat) (l1 l2 : List (List UInt8)) (k : List Cp) (mo : List UInt8) (r1 : Rd W a1 l1.length (strs l1)) (r2 : Rd W a2 l2.length (strs l2)) (q1 : ∀ t ∈ l1, t.length ≤ 140737488351232) (q2 : ∀ t ∈ l2, t.length ≤ 140737488351232) :
    Calls Try.prog 6 #[.slice a1 l1.length c1, .slice a2 l2.length c2, .slice a3 k.length c3, .string ⟨mo.toArray⟩] W fun e W' => e = .returned (.bool true) ∧ Below W.heap.size W W' := by
  have hsz : (⟨mo.toArray⟩ : ByteArray).size = mo.length := mk_size mo
  by_cases hout : 200 < (⟨mo.toArray⟩ : ByteArray).size ∨ 100 < l1.length ∨ 100 < l2.length ∨ 100 < k.length
  · exact needs_out W a1 a2 a3 c1 c2 c3 _ _ _ _ hout
  rw [hsz] at hout
  have s1 := lensN_max l1 140737488351232 q1
  have s2 := lensN_max l2 140737488351232 q2
  have e0 := needW_big l1 l2 k.length (by omega) (by omega) (by omega) (by omega)
  have e1 := needW_big (l1 ++ [mo]) l2 k.length (by rw [lensN_app, lensN_cons, lensN_nil]; omega) (by rw [List.length_append]; simp; omega) (by omega) (by omega)
  have e2 := needW_big l1 (l2 ++ [mo]) k.length (by rw [lensN_app, lensN_cons, lensN_nil]; omega) (by omega) (by rw [List.length_append]; simp; omega) (by omega)
  have f1 : needN (l1 ++ [mo]) l2 k.length = upN (lensN l1 + lensN l2 + (mo.length + 1)) + (l1.length + l2.length + k.length + 4) * 32 := by
    unfold needN
    rw [lensN_app, lensN_cons, lensN_nil, List.length_append, List.length_singleton, show lensN l1 + (mo.length + 1 + 0) + lensN l2 = lensN l1 + lensN l2 + (mo.length + 1) by omega]
    omega
  have f2 : needN l1 (l2 ++ [mo]) k.length = upN (lensN l1 + lensN l2 + (mo.length + 1)) + (l1.length + l2.length + k.length + 4) * 32 := by
    unfold needN
    rw [lensN_app, lensN_cons, lensN_nil, List.length_append, List.length_singleton, show lensN l1 + (lensN l2 + (mo.length + 1 + 0)) = lensN l1 + lensN l2 + (mo.length + 1) by omega]
    omega
  have f0 : needN l1 l2 k.length = upN (lensN l1 + lensN l2) + (l1.length + l2.length + k.length + 3) * 32 := by unfold needN; omega
  rw [f0] at e0
  rw [f1] at e1
  rw [f2] at e2
  obtain ⟨A, hA⟩ : ∃ A, upN (lensN l1 + lensN l2) + (l1.length + l2.length + k.length + 3) * 32 = A := ⟨_, rfl⟩
  obtain ⟨C, hC⟩ : ∃ C, upN (lensN l1 + lensN l2 + (mo.length + 1)) + (l1.length + l2.length + k.length + 4) * 32 = C := ⟨_, rfl⟩
  rw [hA] at e0
  rw [hC] at e1 e2
  have b1 : A % 32 = 0 := by rw [← hA]; unfold upN; omega
  have b2 : A + 32 ≤ C := by rw [← hA, ← hC]; unfold upN; omega
  have b3 : C ≤ A + 32 + mo.length + 32 := by rw [← hA, ← hC]; unfold upN; omega
  have b4 : C ≤ 4000000000000000000 := by rw [← hC]; unfold upN; omega
  have N0 := Lib.hid (fun w (hb : Below W.heap.size W w) => need_mod a1 a2 a3 c1 c2 c3 k.length l1 l2 w (r1.below hb) (r2.below hb) (by omega) (by omega) (by omega))
  rw [e0] at N0
  have N1 := Lib.hid (fun w a c (hb : Below W.heap.size W w) (hr : Rd w a (l1 ++ [mo]).length (strs (l1 ++ [mo]))) => need_mod a a2 a3 c c2 c3 k.length (l1 ++ [mo]) l2 w hr (r2.below hb) (by rw [List.length_append]; simp; omega) (by omega) (by omega))
  rw [e1] at N1
  have N2 := Lib.hid (fun w a c (hb : Below W.heap.size W w) (hr : Rd w a (l2 ++ [mo]).length (strs (l2 ++ [mo]))) => need_mod a1 a a3 c1 c c3 k.length l1 (l2 ++ [mo]) w (r1.below hb) hr (by omega) (by rw [List.length_append]; simp; omega) (by omega))
  rw [e2] at N2
  have E1 := Lib.hid (fun w (hb : Below W.heap.size W w) => ext_any w 23 a1 c1 l1 mo (r1.below hb) (by omega))
  have E2 := Lib.hid (fun w (hb : Below W.heap.size W w) => ext_any w 23 a2 c2 l2 mo (r2.below hb) (by omega))
  have h1 : (l1 ++ [mo]).length = l1.length + 1 := by rw [List.length_append]; rfl
  have h2 : (l2 ++ [mo]).length = l2.length + 1 := by rw [List.length_append]; rfl
  rw [h1] at N1 E1
  rw [h2] at N2 E2
  have d1 : decide ((200 : Int) < (mo.length : Int)) = false := decide_eq_false (by omega)
  have d2 : decide ((100 : Int) < (l1.length : Int)) = false := decide_eq_false (by omega)
  have d3 : decide ((100 : Int) < (l2.length : Int)) = false := decide_eq_false (by omega)
  have d4 : decide ((100 : Int) < (k.length : Int)) = false := decide_eq_false (by omega)
  have HA := Lib.hid (awake_any W)
  generalize l1.length = n1 at *
  generalize l2.length = n2 at *
  generalize k.length = n3 at *
  generalize strs (l1 ++ [mo]) = S1 at *
  generalize strs (l2 ++ [mo]) = S2 at *
  obtain ⟨n4, hn4⟩ : ∃ n, mo.length = n := ⟨_, rfl⟩
  rw [hn4] at hsz d1 b3 hout
  generalize (⟨mo.toArray⟩ : ByteArray) = mv at *
  have HB := Lib.hid (And.intro b1 (And.intro b2 (And.intro b3 (And.intro b4 hout))))
  clear b1 b2 b3 b4 hout e0 e1 e2 f0 f1 f2 hA hC s1 s2 q1 q2 h1 h2 hn4 r1 r2
  go_enter Try.func6, Try.ntmps6
  go_wp2_with fail
  refine HA.out.mono ?_; rintro e W1 ⟨rfl, hb1⟩
  have B1 := Lib.hid hb1
  clear hb1 HA
  go_wp2_with fail
  refine (N0.out W1 B1.out).mono ?_; rintro e W2 ⟨rfl, hb⟩
  have B2 := Lib.hid (B1.out.trans (hb.mono B1.out.size))
  clear hb B1 N0
  obtain ⟨p1, o1, V1, p2, o2, V2, run1, run2, rd2, hb⟩ := E1.out W2 B2.out
  have B3 := Lib.hid (B2.out.trans (hb.mono B2.out.size))
  have C3 := Lib.hid (N1.out V2 p2 o2 B3.out rd2)
  clear hb rd2 E1 N1
  go_wp2_with (first | refine wpList_appM _ rfl _ _ rfl _ _ _ _ rfl rfl run1 ?_ | refine wpList_appM _ rfl _ _ rfl _ _ _ _ rfl rfl run2 ?_ | fail)
  refine C3.out.mono ?_; rintro e W3 ⟨rfl, hb⟩
  have B4 := Lib.hid (B3.out.trans (hb.mono B3.out.size))
  clear hb B3 C3 run1 run2 B2
  obtain ⟨p3, o3, V3, p4, o4, V4, run1, run2, rd2, hb⟩ := E2.out W3 B4.out
  have B5 := Lib.hid (B4.out.trans (hb.mono B4.out.size))
  have C5 := Lib.hid (N2.out V4 p4 o4 B5.out rd2)
  clear hb rd2 E2 N2
  go_wp2_with (first | refine wpList_appM _ rfl _ _ rfl _ _ _ _ rfl rfl run1 ?_ | refine wpList_appM _ rfl _ _ rfl _ _ _ _ rfl rfl run2 ?_ | fail)
  refine C5.out.mono ?_; rintro e W6 ⟨rfl, hb⟩
  have B6 := Lib.hid (B5.out.trans (hb.mono B5.out.size))
  clear hb B5 C5 run1 run2 B4
  obtain ⟨b1, b2, b3, b4, b5⟩ := HB.out
  have x0 : IntKind.i64.wrap ((A : Int) + 32) = (A : Int) + 32 := by rw [IntKind.wrap_i64]; omega
  have x1 : IntKind.i64.wrap ((A : Int) + 32 + (n4 : Int)) = (A : Int) + 32 + (n4 : Int) := by rw [IntKind.wrap_i64]; omega
  have x2 : IntKind.i64.wrap ((A : Int) + 32 + (n4 : Int) + 32) = (A : Int) + 32 + (n4 : Int) + 32 := by rw [IntKind.wrap_i64]; omega
  have x3 : (A : Int) % 32 = 0 := by omega
  have x4 : (A : Int).tmod 32 = 0 := by rw [Int.tmod_eq_emod_of_nonneg (by omega)]; omega
  have x5 : decide ((A : Int) + 32 ≤ (C : Int)) = true := decide_eq_true (by omega)
  have x6 : decide ((C : Int) ≤ (A : Int) + 32 + (n4 : Int) + 32) = true := decide_eq_true (by omega)
  have x7 : A + 32 ≤ C := b2
  have x8 : C ≤ A + 32 + n4 + 32 := by omega
  have x9 : IntKind.i64.wrap (0 : Int) = 0 := by rw [IntKind.wrap_i64]; rfl
  clear b1 b2 b3 b4 b5
  go_wp2_with fail
  go_ret
  exact ⟨by first | rfl | simp, B6.out⟩
end Go.Proofs.Ytjefkhieihigiaa
