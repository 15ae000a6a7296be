/- What a program's beginning needs, whatever the lengths: modulo 2^64. -/
import Derived.Test.YtjefkhieihigiaaGreatAbP
namespace Go.Proofs.YtjefkhieihigiaaGreat
set_option linter.unusedVariables false
set_option linter.unusedSimpArgs false
open Go.Joins Go.ChangeShapes Go.WideShapes Go.ChangeAt Go.RowKit Go.Deep

/-- the length that is needed, modulo 2^64 -/
def upW (z : Nat) : Int := IntKind.u64.wrap ((z : Int) + 31) / 32 * 32
def needW (a e : List (List UInt8)) (k : Nat) : Int := IntKind.i64.wrap (IntKind.i64.wrap (upW (lensN a + lensN e)) + ((((a.length + 1) + (e.length + 1) + (k + 1)) * 32 : Nat) : Int))
theorem up_mod (z : Nat) (w : World) :
    Calls Tryz.prog 28 #[.int .u64 (IntKind.u64.wrap (z : Int))] w fun e w' => e = .returned (.int .u64 (upW z)) ∧ w = w' := by
  obtain ⟨n, hn⟩ : ∃ n : Nat, z % 18446744073709551616 = n := ⟨_, rfl⟩
  have hn0 : n < 18446744073709551616 := by omega
  have e0 : IntKind.u64.wrap (z : Int) = (n : Int) := by rw [IntKind.wrap_u64]; omega
  obtain ⟨b, hb⟩ : ∃ b : Nat, (n + 31) % 18446744073709551616 = b := ⟨_, rfl⟩
  obtain ⟨a, ha⟩ : ∃ a : Nat, (n + 32) % 18446744073709551616 = a := ⟨_, rfl⟩
  obtain ⟨q, hq⟩ : ∃ q, b / 32 = q := ⟨_, rfl⟩
  have hu : upW z = ((q * 32 : Nat) : Int) := by
    unfold upW
    have : IntKind.u64.wrap ((z : Int) + 31) = (b : Int) := by rw [IntKind.wrap_u64]; omega
    rw [this]
    omega
  rw [hu, e0]
  have h1 : IntKind.u64.wrap ((n : Int) + 32) = (a : Int) := by rw [IntKind.wrap_u64]; omega
  have h2 : IntKind.u64.wrap ((a : Int) - 1) = (b : Int) := by rw [IntKind.wrap_u64]; omega
  have h3 : (b : Int).tdiv 32 = (q : Int) := by rw [Int.tdiv_eq_ediv_of_nonneg (by omega)]; omega
  have h4 : IntKind.u64.wrap (q : Int) = (q : Int) := by rw [IntKind.wrap_u64]; omega
  have h5 : IntKind.u64.wrap ((q : Int) * 32) = ((q * 32 : Nat) : Int) := by rw [IntKind.wrap_u64]; omega
  have h6 : (b : Int) / 32 = (q : Int) := by omega
  clear hu hq ha hb hn e0 hn0
  go_enter Tryz.func28, Tryz.ntmps28
  go_wp2_with fail
  go_ret
  exact ⟨by first | rfl | simp, rfl⟩
set_option maxRecDepth 100000 in
set_option maxHeartbeats 4000000 in
theorem need_mod (a1 a2 a3 : Option Addr) (c1 c2 c3 k : Nat) (l1 l2 : List (List UInt8)) (W : World) (h1 : Rd W a1 l1.length (strs l1)) (h2 : Rd W a2 l2.length (strs l2)) (hl1 : l1.length ≤ 400) (hl2 : l2.length ≤ 400) (hk : k ≤ 400) :
    Calls Tryz.prog 10 #[.slice a1 l1.length c1, .slice a2 l2.length c2, .slice a3 k c3] W fun e W' => e = .returned (.int .i64 (needW l1 l2 k)) ∧ Below W.heap.size W W' := by
  obtain ⟨W0, hW0⟩ : ∃ W0, W.alloc (.cells #[.slice a1 l1.length c1, .slice a2 l2.length c2] 23) = W0 := ⟨_, rfl⟩
  have hb0 : Below W.heap.size W W0 := by rw [← hW0]; exact bAlloc (Below.refl _ _) _
  have hx0 : W0.cell? ⟨W.heap.size, 0, none⟩ = some (.slice a1 l1.length c1) := by rw [← hW0]; exact (cell_of_row _ _ _ _ _ _ (heap_alloc_new W _)).trans rfl
  have hx1 : W0.cell? ⟨W.heap.size, 1, none⟩ = some (.slice a2 l2.length c2) := by rw [← hW0]; exact (cell_of_row _ _ _ _ _ _ (heap_alloc_new W _)).trans rfl
  have hg : W.heap.size < W0.heap.size := by rw [← hW0, size_alloc]; exact Nat.lt_succ_self _
  have HC := Lib.hid (concat_any W.heap.size a1 a2 c1 c2 l1 l2 W0 hx0 hx1 hg (h1.below hb0) (h2.below hb0) hl1 hl2)
  have HB0 := Lib.hid hb0
  have happ := lensN_app l1 l2
  have hup := fun W1 => up_mod (lensN (l1 ++ l2)) W1
  have hne : needW l1 l2 k = IntKind.i64.wrap (IntKind.i64.wrap (upW (lensN (l1 ++ l2))) + ((((l1.length + 1) + (l2.length + 1) + (k + 1)) * 32 : Nat) : Int)) := by unfold needW; rw [happ]
  rw [hne]
  obtain ⟨l, hl⟩ : ∃ l, l1 ++ l2 = l := ⟨_, rfl⟩
  have hll : l.length = l1.length + l2.length := by rw [← hl, List.length_append]
  rw [hl] at HC happ hup ⊢
  clear h1 h2
  generalize l1.length = n1 at *
  generalize l2.length = n2 at *
  obtain ⟨n, hn⟩ : ∃ n, n1 + n2 = n := ⟨_, rfl⟩
  rw [hn] at HC hll
  obtain ⟨z, hz⟩ : ∃ z, lensN l = z := ⟨_, rfl⟩
  rw [hz] at hup happ ⊢
  obtain ⟨u, hu⟩ : ∃ u, upW z = u := ⟨_, rfl⟩
  rw [hu] at hup ⊢
  obtain ⟨u', hu'⟩ : ∃ u', IntKind.i64.wrap u = u' := ⟨_, rfl⟩
  rw [hu']
  have HUP := Lib.hid hup
  have HLL := Lib.hid hll
  have HZ := Lib.hid hz
  have v1 : IntKind.i64.wrap ((n1 : Int) + 1) = (n1 : Int) + 1 := by rw [IntKind.wrap_i64]; omega
  have v2 : IntKind.i64.wrap ((n2 : Int) + 1) = (n2 : Int) + 1 := by rw [IntKind.wrap_i64]; omega
  have v3 : IntKind.i64.wrap ((k : Int) + 1) = (k : Int) + 1 := by rw [IntKind.wrap_i64]; omega
  have v4 : IntKind.i64.wrap ((n1 : Int) + 1 + ((n2 : Int) + 1)) = (n1 : Int) + 1 + ((n2 : Int) + 1) := by rw [IntKind.wrap_i64]; omega
  have v5 : IntKind.i64.wrap ((n1 : Int) + 1 + ((n2 : Int) + 1) + ((k : Int) + 1)) = (n1 : Int) + 1 + ((n2 : Int) + 1) + ((k : Int) + 1) := by rw [IntKind.wrap_i64]; omega
  have v6 : IntKind.i64.wrap (((n1 : Int) + 1 + ((n2 : Int) + 1) + ((k : Int) + 1)) * 32) = ((n1 : Int) + 1 + ((n2 : Int) + 1) + ((k : Int) + 1)) * 32 := by rw [IntKind.wrap_i64]; omega
  have v7 := hu'
  obtain ⟨r, hr⟩ : ∃ r, IntKind.i64.wrap (u' + ((n1 : Int) + 1 + ((n2 : Int) + 1) + ((k : Int) + 1)) * 32) = r := ⟨_, rfl⟩
  have v8 := hr
  have hr' : IntKind.i64.wrap (u' + ((((n1 + 1) + (n2 + 1) + (k + 1)) * 32 : Nat) : Int)) = r := by rw [← hr]; exact congrArg (fun x => IntKind.i64.wrap (u' + x)) (by omega)
  rw [hr']
  have V := Lib.hid (And.intro v1 (And.intro v2 (And.intro v3 (And.intro v4 (And.intro v5 (And.intro v6 (And.intro v7 v8)))))))
  have HNN : Hid (n ≤ 800) := Lib.hid (by omega)
  clear v1 v2 v3 v4 v5 v6 v7 v8 hl1 hl2 hk hb0 hx0 hx1 hg happ hup hne hl hll hn hz hu hu' hr hr'
  go_enter Tryz.func10, Tryz.ntmps10
  go_wp2_with fail
  (try rw [hW0])
  clear hW0
  refine HC.out.mono ?_; rintro e w1 ⟨ra, rc, rfl, hown, hb⟩
  have HRD := Lib.hid (Rd.of_own hown)
  have HB1 := Lib.hid (HB0.out.trans (hb.mono HB0.out.size))
  clear hown hb
  go_wp2_with fail
  go_loopw [7, 16] (fun v i wr => ∃ q : Nat, q ≤ n ∧ i = .int .i64 (q : Int) ∧ v = .int .u64 (IntKind.u64.wrap ((lensN (l.take q) : Nat) : Int)) ∧ w1 = wr) (fun _ i _ => n - (intOf i).toNat)
  case atStart => exact ⟨0, Nat.zero_le _, rfl, rfl, rfl⟩
  case round =>
    obtain ⟨q, hq, rfl, rfl, rfl⟩ := hrel
    have hnn := HNN.out
    by_cases hqn : q < n
    · have hql : q < l.length := by rw [HLL.out]; exact hqn
      obtain ⟨g, off, hge, -, hc⟩ := HRD.out.at_ hqn
      subst hge
      rw [strs_get l q hql] at hc
      have hnx : lensN (l.take (q + 1)) = lensN (l.take q) + (l[q].length + 1) := by
        rw [List.take_succ_eq_append_getElem hql, lensN_app, lensN_cons, lensN_nil]
      obtain ⟨s, hs⟩ : ∃ s, l[q] = s := ⟨_, rfl⟩
      rw [hs] at hc hnx
      obtain ⟨y, hy⟩ : ∃ y, lensN (l.take q) = y := ⟨_, rfl⟩
      rw [hy] at hnx ⊢
      have hsz : (⟨s.toArray⟩ : ByteArray).size = s.length := mk_size s
      obtain ⟨yw, hyw⟩ : ∃ yw, IntKind.u64.wrap (y : Int) = yw := ⟨_, rfl⟩
      rw [hyw]
      obtain ⟨sw, hsw⟩ : ∃ sw, IntKind.u64.wrap (s.length : Int) = sw := ⟨_, rfl⟩
      obtain ⟨sv, hsv⟩ : ∃ sv, IntKind.u64.wrap (sw + 1) = sv := ⟨_, rfl⟩
      obtain ⟨yv, hyv⟩ : ∃ yv, IntKind.u64.wrap (yw + sv) = yv := ⟨_, rfl⟩
      have hfin : yv = IntKind.u64.wrap ((y + (s.length + 1) : Nat) : Int) := by
        rw [← hyv, ← hsv, ← hsw, ← hyw]
        simp only [IntKind.wrap_u64]
        omega
      have HFIN := Lib.hid hfin
      have HNX := Lib.hid hnx
      have kk0 : (0 : Int) ≤ (q : Int) := by omega
      have kk1 : (q : Int) < (n : Int) := by omega
      have hd1 : decide ((q : Int) < (n : Int)) = true := decide_eq_true kk1
      clear hql hnx hs hy hfin hyw
      go_wp2_with fail
      go_roundw
      case rel => exact ⟨q + 1, by omega, by go_num, by rw [HNX.out, HFIN.out], trivial⟩
      case measure => simp [intOf]; omega
    · obtain rfl : q = n := by omega
      have htl : lensN (l.take q) = z := by rw [List.take_of_length_le (by rw [HLL.out]; omega)]; exact HZ.out
      rw [htl]
      have hd1 : decide ((q : Int) < (q : Int)) = false := by simp
      have hd2 : decide (q < q) = false := by simp
      obtain ⟨v1, v2, v3, v4, v5, v6, v7, v8⟩ := V.out
      clear htl hnn
      go_wp2_with (go_at_call 28; refine (HUP.out _).mono ?_; rintro e w2 ⟨rfl, rfl⟩)
      go_ret
      exact ⟨by first | rfl | simp, HB1.out⟩
end Go.Proofs.YtjefkhieihigiaaGreat
