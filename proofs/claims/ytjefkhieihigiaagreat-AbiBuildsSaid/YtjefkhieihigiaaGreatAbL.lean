/- What a program's beginning needs: Need. -/
import Derived.Test.YtjefkhieihigiaaGreatAbK
namespace Go.Proofs.YtjefkhieihigiaaGreat
set_option linter.unusedVariables false
set_option linter.unusedSimpArgs false
open Go.Joins Go.ChangeShapes Go.WideShapes Go.ChangeAt Go.RowKit Go.Deep

theorem lensN_le (l : List (List UInt8)) (h : ∀ s ∈ l, s.length ≤ 200) : lensN l ≤ 201 * l.length := by
  induction l with
  | nil => simp [lensN]
  | cons s r ih =>
    rw [lensN_cons, List.length_cons]
    have := ih (fun x hx => h x (List.mem_cons_of_mem _ hx))
    have := h s List.mem_cons_self
    omega
theorem lensN_take (l : List (List UInt8)) (k : Nat) : lensN (l.take k) ≤ lensN l := by
  induction l generalizing k with
  | nil => simp
  | cons s r ih =>
    cases k with
    | zero => simp [lensN]
    | succ k => rw [List.take_succ_cons, lensN_cons, lensN_cons]; have := ih k; omega
set_option maxRecDepth 100000 in
set_option maxHeartbeats 4000000 in
theorem need_any (a1 a2 a3 : Option Addr) (c1 c2 c3 k : Nat) (l1 l2 : List (List UInt8)) (W : World) (h1 : Rd W a1 l1.length (strs l1)) (h2 : Rd W a2 l2.length (strs l2)) (hl1 : l1.length ≤ 400) (hl2 : l2.length ≤ 400) (hk : k ≤ 400) (hs1 : ∀ s ∈ l1, s.length ≤ 200) (hs2 : ∀ s ∈ l2, s.length ≤ 200) :
    Calls Tryz.prog 10 #[.slice a1 l1.length c1, .slice a2 l2.length c2, .slice a3 k c3] W fun e W' => e = .returned (.int .i64 ((needN l1 l2 k : Nat) : Int)) ∧ Below W.heap.size W W' := by
  obtain ⟨W0, hW0⟩ : ∃ W0, W.alloc (.cells #[.slice a1 l1.length c1, .slice a2 l2.length c2] 23) = W0 := ⟨_, rfl⟩
  have hb0 : Below W.heap.size W W0 := by rw [← hW0]; exact bAlloc (Below.refl _ _) _
  have hx0 : W0.cell? ⟨W.heap.size, 0, none⟩ = some (.slice a1 l1.length c1) := by rw [← hW0]; exact (cell_of_row _ _ _ _ _ _ (heap_alloc_new W _)).trans rfl
  have hx1 : W0.cell? ⟨W.heap.size, 1, none⟩ = some (.slice a2 l2.length c2) := by rw [← hW0]; exact (cell_of_row _ _ _ _ _ _ (heap_alloc_new W _)).trans rfl
  have hg : W.heap.size < W0.heap.size := by rw [← hW0, size_alloc]; exact Nat.lt_succ_self _
  have HC := Lib.hid (concat_any W.heap.size a1 a2 c1 c2 l1 l2 W0 hx0 hx1 hg (h1.below hb0) (h2.below hb0) hl1 hl2)
  have HB0 := Lib.hid hb0
  have hlen := lensN_le l1 hs1
  have hlen2 := lensN_le l2 hs2
  have happ := lensN_app l1 l2
  have htk := fun q => lensN_take (l1 ++ l2) q
  have hup := fun W1 => up_any (lensN (l1 ++ l2)) W1 (by omega)
  have hne : needN l1 l2 k = upN (lensN (l1 ++ l2)) + ((l1.length + 1) + (l2.length + 1) + (k + 1)) * 32 := by unfold needN; rw [happ]
  rw [hne]
  have hul : upN (lensN (l1 ++ l2)) ≤ lensN (l1 ++ l2) + 31 := by unfold upN; omega
  obtain ⟨l, hl⟩ : ∃ l, l1 ++ l2 = l := ⟨_, rfl⟩
  have hll : l.length = l1.length + l2.length := by rw [← hl, List.length_append]
  rw [hl] at HC happ htk hup hul ⊢
  have hlu : ∀ s ∈ l1 ++ l2, s.length ≤ 200 := fun s hs => by
    rcases List.mem_append.1 hs with h | h
    · exact hs1 s h
    · exact hs2 s h
  rw [hl] at hlu
  clear h1 h2 hs1 hs2
  generalize l1.length = n1 at *
  generalize l2.length = n2 at *
  obtain ⟨n, hn⟩ : ∃ n, n1 + n2 = n := ⟨_, rfl⟩
  rw [hn] at HC hll
  obtain ⟨z, hz⟩ : ∃ z, lensN l = z := ⟨_, rfl⟩
  rw [hz] at htk hup happ hul ⊢
  obtain ⟨u, hu⟩ : ∃ u, upN z = u := ⟨_, rfl⟩
  rw [hu] at hup hul ⊢
  have hz9 : z ≤ 200000 := by omega
  have HTK := Lib.hid htk
  have HUP := Lib.hid hup
  have HLL := Lib.hid hll
  have HZ := Lib.hid hz
  have HZ9 := Lib.hid hz9
  have v1 : IntKind.i64.wrap ((n1 : Int) + 1) = (n1 : Int) + 1 := by rw [IntKind.wrap_i64]; omega
  have v2 : IntKind.i64.wrap ((n2 : Int) + 1) = (n2 : Int) + 1 := by rw [IntKind.wrap_i64]; omega
  have v3 : IntKind.i64.wrap ((k : Int) + 1) = (k : Int) + 1 := by rw [IntKind.wrap_i64]; omega
  have v4 : IntKind.i64.wrap ((n1 : Int) + 1 + ((n2 : Int) + 1)) = (n1 : Int) + 1 + ((n2 : Int) + 1) := by rw [IntKind.wrap_i64]; omega
  have v5 : IntKind.i64.wrap ((n1 : Int) + 1 + ((n2 : Int) + 1) + ((k : Int) + 1)) = (n1 : Int) + 1 + ((n2 : Int) + 1) + ((k : Int) + 1) := by rw [IntKind.wrap_i64]; omega
  have v6 : IntKind.i64.wrap (((n1 : Int) + 1 + ((n2 : Int) + 1) + ((k : Int) + 1)) * 32) = ((n1 : Int) + 1 + ((n2 : Int) + 1) + ((k : Int) + 1)) * 32 := by rw [IntKind.wrap_i64]; omega
  have v7 : IntKind.i64.wrap (u : Int) = (u : Int) := by rw [IntKind.wrap_i64]; omega
  have v8 : IntKind.i64.wrap ((u : Int) + ((n1 : Int) + 1 + ((n2 : Int) + 1) + ((k : Int) + 1)) * 32) = ((u + ((n1 + 1) + (n2 + 1) + (k + 1)) * 32 : Nat) : Int) := by rw [IntKind.wrap_i64]; omega
  have V := Lib.hid (And.intro v1 (And.intro v2 (And.intro v3 (And.intro v4 (And.intro v5 (And.intro v6 (And.intro v7 v8)))))))
  have H200 := Lib.hid hlu
  have HNN : Hid (n ≤ 800) := Lib.hid (by omega)
  clear v1 v2 v3 v4 v5 v6 v7 v8 hl1 hl2 hk hb0 hx0 hx1 hg hlen hlen2 happ htk hup hne hul hl hll hn hz hu hz9 hlu
  go_enter Tryz.func10, Tryz.ntmps10
  go_wp2_with fail
  (try rw [hW0])
  clear hW0
  refine HC.out.mono ?_; rintro e w1 ⟨ra, rc, rfl, hown, hb⟩
  have HRD := Lib.hid (Rd.of_own hown)
  have HB1 := Lib.hid (HB0.out.trans (hb.mono HB0.out.size))
  clear hown hb
  go_wp2_with fail
  go_loopw [7, 16] (fun v i wr => ∃ q : Nat, q ≤ n ∧ i = .int .i64 (q : Int) ∧ v = .int .u64 ((lensN (l.take q) : Nat) : Int) ∧ w1 = wr) (fun _ i _ => n - (intOf i).toNat)
  case atStart => exact ⟨0, Nat.zero_le _, rfl, rfl, rfl⟩
  case round =>
    obtain ⟨q, hq, rfl, rfl, rfl⟩ := hrel
    have hnn := HNN.out
    by_cases hqn : q < n
    · have hql : q < l.length := by rw [HLL.out]; exact hqn
      obtain ⟨g, off, hge, -, hc⟩ := HRD.out.at_ hqn
      subst hge
      rw [strs_get l q hql] at hc
      have h200 := H200.out l[q] (List.getElem_mem hql)
      have hnx : lensN (l.take (q + 1)) = lensN (l.take q) + (l[q].length + 1) := by
        rw [List.take_succ_eq_append_getElem hql, lensN_app, lensN_cons, lensN_nil]
      have htq := HTK.out (q + 1)
      obtain ⟨s, hs⟩ : ∃ s, l[q] = s := ⟨_, rfl⟩
      rw [hs] at hc h200 hnx
      obtain ⟨y, hy⟩ : ∃ y, lensN (l.take q) = y := ⟨_, rfl⟩
      rw [hy] at hnx ⊢
      rw [hnx] at htq
      have hz9 := HZ9.out
      have hsz : (⟨s.toArray⟩ : ByteArray).size = s.length := mk_size s
      have w1' : IntKind.u64.wrap (s.length : Int) = (s.length : Int) := by rw [IntKind.wrap_u64]; omega
      have w2' : IntKind.u64.wrap ((s.length : Int) + 1) = (s.length : Int) + 1 := by rw [IntKind.wrap_u64]; omega
      have w3' : IntKind.u64.wrap ((y : Int) + ((s.length : Int) + 1)) = ((y + (s.length + 1) : Nat) : Int) := by rw [IntKind.wrap_u64]; omega
      have HNX := Lib.hid hnx
      have kk0 : (0 : Int) ≤ (q : Int) := by omega
      have kk1 : (q : Int) < (n : Int) := by omega
      have hd1 : decide ((q : Int) < (n : Int)) = true := decide_eq_true kk1
      clear hql hnx htq hs hy h200 hz9
      go_wp2_with fail
      go_roundw
      case rel => exact ⟨q + 1, by omega, by go_num, by rw [HNX.out]; exact congrArg (Value.int IntKind.u64) (by omega), trivial⟩
      case measure => simp [intOf]; omega
    · obtain rfl : q = n := by omega
      have htl : lensN (l.take q) = z := by rw [List.take_of_length_le (by rw [HLL.out]; omega)]; exact HZ.out
      rw [htl]
      have hd1 : decide ((q : Int) < (q : Int)) = false := by simp
      have hd2 : decide (q < q) = false := by simp
      obtain ⟨v1, v2, v3, v4, v5, v6, v7, v8⟩ := V.out
      clear htl hnn
      go_wp2_with (go_at_call 28; refine (HUP.out _).mono ?_; rintro e w2 ⟨rfl, rfl⟩)
      go_ret
      exact ⟨by first | rfl | simp, HB1.out⟩
end Go.Proofs.YtjefkhieihigiaaGreat
