/- What a program begins with: Build, whatever comes of it. -/
import Derived.Test.YtjefkhieihigiaaGreatAbO
namespace Go.Proofs.YtjefkhieihigiaaGreat
set_option linter.unusedVariables false
set_option linter.unusedSimpArgs false
open Go.Joins Go.ChangeShapes Go.WideShapes Go.ChangeAt Go.RowKit Go.Deep

theorem startV_no : startV noSt = zero24 := by kernel_rfl
theorem build_any (W : World) (N M : Nat) (F : Nat → Prop) (m : Mm) (f : Nat) (p : Int) (a1 a2 a3 : Option Addr) (c1 c2 c3 : Nat) (l1 l2 : List (List UInt8)) (k : List Cp) (hm : Own1 W N F M m) (h1 : RdT W F a1 l1) (h2 : RdT W F a2 l2) (h3 : RdC W F a3 k) (hf : f < 18446744073709551616) (hp0 : -9223372036854775808 ≤ p) (hp1 : p < 9223372036854775808)
    (hl1 : l1.length ≤ 400) (hl2 : l2.length ≤ 400) (hk : k.length ≤ 400) (hfit : ∀ c ∈ k, FitC c) :
    Calls Tryz.prog 11 #[.pointer (some ⟨M, 0, none⟩), .int .u64 (f : Int), .int .i64 p, .slice a1 l1.length c1, .slice a2 l2.length c2, .slice a3 k.length c3] W fun e W' => e = .returned (.tuple #[.agg (startV (buildF m f p l1 l2 k).2.1), .int .i64 (buildF m f p l1 l2 k).2.2]) ∧ ∃ F', Own1 W' N F' M (buildF m f p l1 l2 k).1 ∧ Moves W W' F F' := by
  unfold buildF
  rcases hno : (textsB l1 && (textsB l2 && auxB k)) with _ | _
  · rw [if_pos (by rfl)]
    refine (build_no W M m f p a1 a2 a3 c1 c2 c3 l1 l2 k h1.1 h2.1 h3.1 hl1 hl2 hk hno).mono ?_
    rintro e W' ⟨rfl, hb⟩
    exact ⟨by rw [startV_no], F, hm.below hb, Moves.of_below F hb⟩
  rw [if_neg (by simp)]
  obtain ⟨ht1, hq⟩ := Bool.and_eq_true_iff.1 hno
  obtain ⟨ht2, ht3⟩ := Bool.and_eq_true_iff.1 hq
  rcases hr : roomB (needN l1 l2 k.length : Nat) p with _ | _
  · rw [if_pos (by rfl)]
    refine (build_room W N M F m f p a1 a2 a3 c1 c2 c3 l1 l2 k hm h1 h2 h3 hf hp0 hp1 ht1 ht2 ht3 hr).mono ?_
    rintro e W' ⟨rfl, hb⟩
    exact ⟨by rw [startV_no], F, hm.below hb, Moves.of_below F hb⟩
  rw [if_neg (by simp)]
  by_cases he : (mapF m f p).2 ≠ 0
  · rw [if_pos he]
    refine (build_err W N M F m f p a1 a2 a3 c1 c2 c3 l1 l2 k hm h1 h2 h3 hf hp0 hp1 ht1 ht2 ht3 hr he).mono ?_
    rintro e W' ⟨rfl, hh⟩
    exact ⟨by rw [startV_no], hh⟩
  · rw [if_neg he]
    have hz : (mapF m f p).2 = 0 := by simpa using he
    exact (build_yes W N M F m f p a1 a2 a3 c1 c2 c3 l1 l2 k hm h1 h2 h3 hf hp0 hp1 ht1 ht2 ht3 hfit hr (mapF m f p).1 (by rw [← hz])).mono fun e W' h => h
end Go.Proofs.YtjefkhieihigiaaGreat
