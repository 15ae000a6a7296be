/- Merged: TmUn TmPn TmLc TmLd TmX TmY TmZ. -/
import Derived.Test.YtjefkhieihigiaaTa4
import Derived.Test.YtjefkhieihigiaaTa2
import Derived.Test.YtjefkhieihigiaaTa3
import Derived.Deep.Cut
import Derived.Deep.QuietTactic
namespace Go.Proofs.Ytjefkhieihigiaa
set_option linter.unusedVariables false
set_option linter.unusedSimpArgs false
open Go.Joins Go.ChangeShapes Go.WideShapes Go.ChangeAt Go.RowKit Go.Deep

theorem mks_del (l : List Nat) (p : Nat) : (l.map (32 * ·)).filter (fun g => g / 256 != p) = (l.filter (fun g => g / 8 != p)).map (32 * ·) := by
  induction l with
  | nil => rfl
  | cons x r ih =>
    rw [List.map_cons]
    have e : 32 * x / 256 = x / 8 := by omega
    by_cases h : x / 8 = p
    · rw [List.filter_cons_of_neg (by rw [e]; simpa using h), List.filter_cons_of_neg (by simpa using h), ih]
    · rw [List.filter_cons_of_pos (by rw [e]; simpa using h), List.filter_cons_of_pos (by simpa using h), List.map_cons, ih]
theorem look_del (cs : List (Nat × Nat)) (p x : Nat) : lookF (cs.filter (fun c => c.1 / 256 != p)) x = if x / 256 = p then 0 else lookF cs x := by
  induction cs with
  | nil => simp [lookF]
  | cons c r ih =>
    by_cases e : c.1 / 256 = p
    · rw [List.filter_cons_of_neg (by simpa using e), ih]
      by_cases hx : x / 256 = p
      · rw [if_pos hx, if_pos hx]
      · rw [if_neg hx, if_neg hx]
        conv => rhs; unfold lookF
        rw [if_neg (fun h => hx (by rw [← h]; exact e))]
    · rw [List.filter_cons_of_pos (by simpa using e)]
      conv => lhs; unfold lookF
      rw [ih]
      by_cases hx : x / 256 = p
      · rw [if_pos hx, if_neg (fun h => e (by rw [h]; exact hx)), if_pos hx]
      · rw [if_neg hx, if_neg hx]
        conv => rhs; unfold lookF
theorem CellsOk.del {cs : List (Nat × Nat)} {m : Mm} (h : CellsOk cs m) (p : Nat) : CellsOk (cs.filter (fun c => c.1 / 256 != p)) (delP m p) := by
  refine ⟨fun x => ?_, fun c hc => ?_, List.Nodup.sublist (List.Sublist.map _ List.filter_sublist) h.nd⟩
  · rw [look_del, h.look]
    rfl
  · obtain ⟨h1, h2⟩ := List.mem_filter.1 hc
    obtain ⟨h3, h4⟩ := h.in_ c h1
    exact ⟨List.mem_filter.2 ⟨h3, by simpa using h2⟩, h4⟩
end Go.Proofs.Ytjefkhieihigiaa

namespace Go.Proofs.Ytjefkhieihigiaa
set_option linter.unusedVariables false
set_option linter.unusedSimpArgs false
open Go.Joins Go.ChangeShapes Go.WideShapes Go.ChangeAt Go.RowKit Go.Deep

theorem put_nil (W : World) (M : Nat) (F : Nat → Prop) (m : Mm) (h : MemAt W M F m) (x c : Nat) (sa : Option Addr) (hx : x < 18446744073709551616) :
    Calls Try.prog 43 #[.pointer (some ⟨M, 0, none⟩), .int .u64 (x : Int), .slice sa 0 c] W fun e W' => e = .returned (.int .i64 0) ∧ W = W' := by
  obtain ⟨B, D, pb, h⟩ := h
  have HH := Lib.hid (has_any W M B D pb F m h x 0 hx (by decide))
  rw [show allB m x 0 = true from rfl, show ((0 : Nat) : Int) = 0 from rfl] at HH
  clear h
  go_enter Try.func43, Try.ntmps43
  go_wp2_with fail
  refine HH.out.mono ?_; rintro e W0 ⟨rfl, rfl⟩
  go_wp2_with fail
  go_loopw [1, 2, 7, 8] (fun av sv _ _ wr => av = .int .u64 (x : Int) ∧ sv = .slice sa 0 c ∧ W = wr) (fun i _ _ _ _ => 0)
  case atStart => exact ⟨rfl, rfl, rfl⟩
  case round =>
    obtain ⟨rfl, rfl, rfl⟩ := hrel
    go_wp2_with fail
    go_ret
    exact ⟨rfl, rfl⟩
theorem putF_nil (m : Mm) (x : Int) : putF m x [] = (m, 0) := by
  unfold putF
  rw [show allB m x.toNat ([] : List Nat).length = true from rfl]
  rfl
theorem putA_any (W : World) (M : Nat) (F : Nat → Prop) (m : Mm) (h : MemAt W M F m) (x n c : Nat) (sa : Option Addr) (l : List Nat) (hx : x < 18446744073709551616) (hln : l.length = n) (hnc : n ≤ c) (hn : n < 9223372036854775808) (hbl : ∀ b ∈ l, b < 256) (hs : Rd W sa n (u8s l)) (hne : 0 < n → ∀ g off, sa = some ⟨g, off, none⟩ → ¬ F g) :
    Calls Try.prog 43 #[.pointer (some ⟨M, 0, none⟩), .int .u64 (x : Int), .slice sa n c] W fun e W' => e = .returned (.int .i64 (putF m x l).2) ∧ MemAt W' M F (putF m x l).1 ∧ KP W.heap.size F W W' := by
  rcases Nat.eq_zero_or_pos n with h0 | h0
  · subst h0
    obtain rfl : l = [] := List.length_eq_zero_iff.1 hln
    rw [putF_nil]
    refine (put_nil W M F m h x c sa hx).mono ?_
    rintro e W' ⟨rfl, rfl⟩
    exact ⟨rfl, h, KP.refl _ _ _⟩
  · exact put_any W M F m h x n c sa l hx hln hnc hn hbl hs (hne h0)
end Go.Proofs.Ytjefkhieihigiaa

namespace Go.Proofs.Ytjefkhieihigiaa
set_option linter.unusedVariables false
set_option linter.unusedSimpArgs false
open Go.Joins Go.ChangeShapes Go.WideShapes Go.ChangeAt Go.RowKit Go.Deep

theorem run_midB (w : World) (b o n m l c : Nat) (hm : n ≤ m) (hl : m ≤ c) (hne : n < c) : (Instr.sliceAt 47 (.slice (some ⟨b, o, none⟩) l c) (some (.int .i64 (n : Int))) (some (.int .i64 (m : Int))) none).run Try.prog w = .ok (.slice (some ⟨b, o + n, none⟩) (m - n) (c - n)) w := by
  have hu := Try.underlying47
  have ho : (sizeOf 5).run Try.prog w = .ok 1 w := by kernel_rfl
  have he : Try.prog.elem 47 = 5 := by kernel_rfl
  rw [run_sliceAt_slice w 47 _ _ _ _ (by rw [he]; exact hu), run_slice_lh w 47 _ l c (by rw [he]; exact hu) .i64 .i64 (n : Int) (m : Int) (by omega) (by omega) (by omega), he, ho]
  simp only [Result.andThen, sliced]
  rw [Int.toNat_natCast, Int.toNat_natCast, if_neg (by omega)]
  simp [Addr.add]
theorem many_at {m : Mm} {a n k : Nat} (h : k < n) : (u8s (manyB m a n))[k]? = some (.int .u8 (m.by_ (a + k) : Int)) := by
  rw [u8s_get _ _ (by rw [manyB_len]; exact h), manyB_get]
theorem many_sub (m : Mm) (a n k j : Nat) (h : k + j ≤ n) {W : World} {b o : Nat} (hr : Rd W (some ⟨b, o, none⟩) n (u8s (manyB m a n))) : Rd W (some ⟨b, o + k, none⟩) j (u8s (manyB m (a + k) j)) := by
  refine ⟨by rw [u8s_length, manyB_len], fun h0 => ?_⟩
  obtain ⟨b', o', e, hl, hc⟩ := hr.2 (by omega)
  cases e
  refine ⟨_, _, rfl, hl, fun i hi => ?_⟩
  rw [Nat.add_assoc, hc (k + i) (by omega), many_at (by omega), many_at hi, Nat.add_assoc]
end Go.Proofs.Ytjefkhieihigiaa

namespace Go.Proofs.Ytjefkhieihigiaa
set_option linter.unusedVariables false
set_option linter.unusedSimpArgs false
open Go.Joins Go.ChangeShapes Go.WideShapes Go.ChangeAt Go.RowKit Go.Deep

theorem boxN_drew {W : World} {B : Nat} {cs : Array Value} (h : BoxN W B cs) : BoxN W.drew B cs := h
theorem cell_off {W : World} {g S k j : Nat} {x : Value} (hg : g ≠ S) : (W.setCell ⟨S, k, none⟩ x).cell? ⟨g, j, none⟩ = W.cell? ⟨g, j, none⟩ :=
  World.cell?_setCell_other _ _ _ _ (fun e => by have h1 := congrArg Addr.block e; simp only at h1; exact hg (by omega))
theorem keep6 {W : World} {g S j : Nat} {v : Value} (hg : g ≠ S) (x0 x1 x2 x3 x4 x5 : Value) (h : W.cell? ⟨g, j, none⟩ = some v) :
    ((((((W.setCell ⟨S, 0, none⟩ x0).setCell ⟨S, 1, none⟩ x1).setCell ⟨S, 2, none⟩ x2).setCell ⟨S, 3, none⟩ x3).setCell ⟨S, 4, none⟩ x4).setCell ⟨S, 5, none⟩ x5).drew.cell? ⟨g, j, none⟩ = some v := by
  have e : ∀ U : World, U.drew.cell? ⟨g, j, none⟩ = U.cell? ⟨g, j, none⟩ := fun U => rfl
  rw [e, cell_off hg, cell_off hg, cell_off hg, cell_off hg, cell_off hg, cell_off hg]
  exact h
end Go.Proofs.Ytjefkhieihigiaa

namespace Go.Proofs.Ytjefkhieihigiaa
set_option linter.unusedVariables false
set_option linter.unusedSimpArgs false
open Go.Joins Go.ChangeShapes Go.WideShapes Go.ChangeAt Go.RowKit Go.Deep

theorem ins_map (g : Nat) (l : List Nat) : ins (32 * g) (l.map (32 * ·)) = (ins g l).map (32 * ·) := by
  induction l with
  | nil => rfl
  | cons x r ih =>
    rw [List.map_cons]
    unfold ins
    by_cases h : g < x
    · rw [if_pos h, if_pos (by omega)]; rfl
    · rw [if_neg h, if_neg (by omega), ih]; rfl
/-- a tag is put -/
theorem rtag_step {W U : World} {R : Nat} {F : Nat → Prop} {m : Mm} {na ca ka : Option Addr} {nc cc kc : Nat} {cs : List (Nat × Nat)} (h : RmO W R F m na ca ka nc cc kc cs) {g : Nat} (hg : g ∉ m.mks) (hp : g / 8 ∈ m.pgs) (hb : Below W.heap.size W U) {ra : Option Addr} {rc : Nat}
    (ho : U.ownsRow W.heap.size 22 1 (.slice ra (m.mks.length + 1) rc) (m.mks.length + 1) (u64s ((ins g m.mks).map (32 * ·)))) :
    RmAt (U.setCell ⟨R, 2, none⟩ (.slice ra (m.mks.length + 1) rc)) R (FN F W (U.setCell ⟨R, 2, none⟩ (.slice ra (m.mks.length + 1) rc))) (tagP m g) ∧ KP W.heap.size F W (U.setCell ⟨R, 2, none⟩ (.slice ra (m.mks.length + 1) rc)) := by
  have hR : R < W.heap.size := h.lt _ h.fr
  have hk : KP W.heap.size (· = R) W (U.setCell ⟨R, 2, none⟩ (.slice ra (m.mks.length + 1) rc)) := (KP.of_below (· = R) hb).set ⟨R, 2, none⟩ (Or.inr rfl) _
  have hbx : BoxN (U.setCell ⟨R, 2, none⟩ (.slice ra (m.mks.length + 1) rc)) R #[.slice na m.pgs.length nc, .slice ca cs.length cc, .slice ra (m.mks.length + 1) rc, .int .i64 (m.bud : Int)] := (boxN_below h.box hb).set 2 (.slice ra (m.mks.length + 1) rc)
  have ho2 := own_kp2 ho (KP.set1 U R 2 (.slice ra (m.mks.length + 1) rc)) (by intro q hq e; have h1 : q = R := e; omega)
  have hl : (tagP m g).mks.length = m.mks.length + 1 := length_ins g m.mks
  refine ⟨⟨na, ca, ra, nc, cc, rc, cs, okm_tagP h.ok hg hp, by rw [hl]; exact hbx, ?_, ?_, ?_, ⟨h.co.look, h.co.in_, h.co.nd⟩, Or.inl h.fr, fun q hq => ?_⟩, hk.mono (Nat.le_refl _) (fun q _ e => by rw [show q = R from e]; exact h.fr)⟩
  · exact (h.rn.blocks (fun q hf hne => hk.block q (h.lt q hf) hne) hk.size).mono (fun q hf => Or.inl hf)
  · exact (h.rc.blocks (fun q hf hne => hk.block q (h.lt q hf) hne) hk.size).mono (fun q hf => Or.inl hf)
  · have := rdF_own (F := F) (R := R) ho2 (Nat.le_refl _) hR
    rw [Nat.mul_one] at this
    rw [hl]
    exact this
  · rcases hq with hq | hq
    · exact Nat.lt_of_lt_of_le (h.lt q hq) hk.size
    · exact hq.2
theorem spotE_fits {m : Mm} {a : Nat} (he : spotE m a = 0) : a % 32 = 0 ∧ a / 256 ∈ m.pgs := by
  rcases spot_place (fun _ => 0) m a with ⟨-, h1, h2, -⟩ | ⟨h, -⟩
  · exact ⟨h1, h2⟩
  · exact absurd he h
theorem putC_steps (m : Mm) (a : Nat) (c : Cp) : wrL m a (capB c) = wrL (wrL (wrL (wrL m a (littleN c.b.toNat 8)) (a + 8) (littleN c.t.toNat 8)) (a + 16) (littleN c.a.toNat 8)) (a + 24) [(c.p % 256).toNat, typeB c.y, 0, 0, 0, 0, 0, 0] := by
  unfold capB
  rw [wrL_append, wrL_append, wrL_append, littleN_length, littleN_length, littleN_length]
end Go.Proofs.Ytjefkhieihigiaa

namespace Go.Proofs.Ytjefkhieihigiaa
set_option linter.unusedVariables false
set_option linter.unusedSimpArgs false
open Go.Joins Go.ChangeShapes Go.WideShapes Go.ChangeAt Go.RowKit Go.Deep

end Go.Proofs.Ytjefkhieihigiaa

namespace Go.Proofs.Ytjefkhieihigiaa
set_option linter.unusedVariables false
set_option linter.unusedSimpArgs false
open Go.Joins Go.ChangeShapes Go.WideShapes Go.ChangeAt Go.RowKit Go.Deep

def rightB (c : Cp) : Bool := decide (0 ≤ c.p) && (decide (c.p ≤ 255) && (decide (-1 ≤ c.y) && decide (c.y ≤ 63)))
theorem right_any (c : Cp) (w : World) :
    Calls Try.prog 19 #[.agg (capC c).toArray] w fun e w' => e = .returned (.bool (rightB c)) ∧ Below w.heap.size w w' := by
  obtain ⟨cb, ct, ca, cp, cy, cg⟩ := c
  have hcc : (capC ⟨cb, ct, ca, cp, cy, cg⟩).toArray = #[.int .u64 cb, .int .u64 ct, .int .u64 ca, .int .i64 cp, .int .i64 cy, .bool cg] := rfl
  rw [hcc]
  clear hcc
  obtain ⟨q, hq⟩ : ∃ q, rightB ⟨cb, ct, ca, cp, cy, cg⟩ = q := ⟨_, rfl⟩
  rw [hq]
  have hq2 : (decide (0 ≤ cp) && (decide (cp ≤ 255) && (decide (-1 ≤ cy) && decide (cy ≤ 63)))) = q := hq
  clear hq
  by_cases a1 : 0 ≤ cp
  · by_cases a2 : cp ≤ 255
    · by_cases a3 : -1 ≤ cy
      · by_cases a4 : cy ≤ 63
        · have hqt : true = q := by rw [← hq2, decide_eq_true a1, decide_eq_true a2, decide_eq_true a3, decide_eq_true a4]; rfl
          subst hqt
          clear hq2
          go_enter Try.func19, Try.ntmps19
          go_wp2_with fail
          go_ret
          exact ⟨rfl, bAlloc (Below.refl _ _) _⟩
        · have hqf : false = q := by rw [← hq2, decide_eq_false a4]; simp
          subst hqf
          clear hq2
          go_enter Try.func19, Try.ntmps19
          go_wp2_with fail
          go_ret
          exact ⟨rfl, bAlloc (Below.refl _ _) _⟩
      · have hqf : false = q := by rw [← hq2, decide_eq_false a3]; simp
        subst hqf
        clear hq2
        go_enter Try.func19, Try.ntmps19
        go_wp2_with fail
        go_ret
        exact ⟨rfl, bAlloc (Below.refl _ _) _⟩
    · have hqf : false = q := by rw [← hq2, decide_eq_false a2]; simp
      subst hqf
      clear hq2
      go_enter Try.func19, Try.ntmps19
      go_wp2_with fail
      go_ret
      exact ⟨rfl, bAlloc (Below.refl _ _) _⟩
  · have hqf : false = q := by rw [← hq2, decide_eq_false a1]; simp
    subst hqf
    clear hq2
    go_enter Try.func19, Try.ntmps19
    go_wp2_with fail
    go_ret
    exact ⟨rfl, bAlloc (Below.refl _ _) _⟩
end Go.Proofs.Ytjefkhieihigiaa

