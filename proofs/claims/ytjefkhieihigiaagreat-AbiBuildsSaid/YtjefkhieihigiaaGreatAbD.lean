/- A capability of bytes. -/
import Derived.Test.YtjefkhieihigiaaGreatCp1
import Derived.BigQuiet
import Derived.BigRegion
namespace Go.Proofs.YtjefkhieihigiaaGreat.Ce
set_option linter.unusedVariables false
set_option linter.unusedSimpArgs false
open Go.Joins Go.ChangeShapes Go.WideShapes Go.ChangeAt Go.RowKit

theorem bytes_any (x y pm : Int) (w : World) (hx : 0 ≤ x) (hxy : x ≤ y) (hyy : y < 18446744073709551616) (hp0 : 0 ≤ pm) (hp1 : pm ≤ 255) :
    Calls Tryz.prog 55 #[.int .u64 x, .int .u64 y, .int .i64 pm] w fun e w' => e = .returned (.agg #[.int .u64 x, .int .u64 y, .int .u64 x, .int .i64 pm, .int .i64 (-1), .bool true]) ∧ Below w.heap.size w w' := by
  obtain ⟨z, hz⟩ : ∃ z, y - x = z := ⟨_, rfl⟩
  have hw : IntKind.u64.wrap (y - x) = z := by rw [IntKind.wrap_u64]; omega
  have C1 := Lib.hid (fun w => root_x 18446744073709551615 w)
  have C2 := Lib.hid (fun w => move_x 0 18446744073709551615 0 255 x w)
  have C3 := Lib.hid (fun w => bound_x 0 18446744073709551615 x 255 z y w hx (by omega) (by omega) (by decide) hx (by omega) (by omega))
  have C4 := Lib.hid (fun w => and_x x y x pm w hp0 hp1)
  clear hx hxy hyy hp0 hp1 hz
  go_enter Tryz.func55, Tryz.ntmps55
  go_wp2_with fail
  refine (C1.out _).mono ?_; rintro e w1 ⟨rfl, hb⟩
  have B1 := Lib.hid ((bAlloc (Below.refl w.heap.size w) _).trans (hb.mono (by rw [size_alloc]; omega)))
  have X1 := Lib.hid ((BoxN.new w _ _).below hb (by rw [size_alloc]; omega))
  clear hb
  go_wp2_with fail
  refine (C2.out _).mono ?_; rintro e w2 ⟨rfl, hb⟩
  have B2 := Lib.hid (B1.out.trans (hb.mono B1.out.size))
  have X2 := Lib.hid (boxN_below X1.out hb)
  clear hb
  go_wp2_with fail
  refine (C3.out _).mono ?_; rintro e w3 ⟨rfl, hb⟩
  have B3 := Lib.hid (B2.out.trans (hb.mono B2.out.size))
  have X3 := Lib.hid (boxN_below X2.out hb)
  clear hb
  go_wp2_with fail
  refine (C4.out _).mono ?_; rintro e w4 ⟨rfl, hb⟩
  have B4 := Lib.hid (B3.out.trans (hb.mono B3.out.size))
  have X4 := Lib.hid (boxN_below X3.out hb)
  clear hb
  obtain ⟨⟨c0, c1, c2, c3, c4, c5⟩, f0, f1, f2, f3, f4, f5⟩ := boxN6 X4.out
  go_wp2_with fail
  exact bodyPost_ret (v := .agg #[.int .u64 x, .int .u64 y, .int .u64 x, .int .i64 pm, .int .i64 (-1), .bool true]) (by simp [results, Tryz.results55, go_sem, c0, c1, c2, c3, c4, c5]) rfl ⟨rfl, below_set6 B4.out (Nat.le_refl _)⟩
end Go.Proofs.YtjefkhieihigiaaGreat.Ce
