/- The document's capabilities of bytes, and its lists. -/
import Derived.Test.YtjefkhieihigiaaGreatAbN
import Derived.Test.YtjefkhieihigiaaGreatAbT
import Derived.Test.YtjefkhieihigiaaGreatTa5
namespace Go.Proofs.YtjefkhieihigiaaGreat
set_option linter.unusedVariables false
set_option linter.unusedSimpArgs false
open Go.Joins Go.ChangeShapes Go.WideShapes Go.ChangeAt Go.RowKit Go.Deep

/-- the document's memory, in blocks from N on -/
structure ROw (W : World) (N : Nat) (G : Nat → Prop) (R : Nat) (m : Mm) : Prop where
  mem : RmAt W R G m
  ge : ∀ q, G q → N ≤ q
  sz : N ≤ W.heap.size
theorem ROw.lt {W : World} {N R : Nat} {G : Nat → Prop} {m : Mm} (h : ROw W N G R m) : ∀ q, G q → q < W.heap.size := h.mem.lt
theorem ROw.below {W W' : World} {N R : Nat} {G : Nat → Prop} {m : Mm} (h : ROw W N G R m) (hb : Below W.heap.size W W') : ROw W' N G R m := ⟨h.mem.below hb, h.ge, Nat.le_trans h.sz hb.size⟩
theorem ROw.beside {W W' : World} {N R : Nat} {F G G' : Nat → Prop} {m : Mm} (h : ROw W N F R m) (hm : Moves W W' G G') (hd : ∀ b, F b → ¬ G b) : ROw W' N F R m ∧ (∀ b, F b → ¬ G' b) :=
  ⟨⟨h.mem.kp hm.kp (Nat.le_refl _) hd, h.ge, Nat.le_trans h.sz hm.kp.size⟩, fun b hb hg => by
    rcases hm.sub b hg with h1 | h1
    · exact hd b hb h1
    · have := h.lt b hb; omega⟩
theorem row_step {W W' : World} {N R : Nat} {G : Nat → Prop} {m m' : Mm} (h : ROw W N G R m) (h1 : RmAt W' R (FN G W W') m') (hk : KP W.heap.size G W W') : ∃ G', ROw W' N G' R m' ∧ Moves W W' G G' :=
  ⟨FN G W W', ⟨h1, fun q hq => by
    rcases hq with h2 | h2
    · exact h.ge q h2
    · have := h.sz; have := h2.1; omega, Nat.le_trans h.sz hk.size⟩, fun b hb => hb.imp id (fun q => q.1), hk⟩
theorem mv_refl (W : World) (F : Nat → Prop) : Moves W W F F := ⟨fun b h => Or.inl h, KP.refl _ _ _⟩
theorem mv_trans {A B C : World} {F G H : Nat → Prop} (h : Moves A B F G) (k : Moves B C G H) : Moves A C F H :=
  ⟨fun b hb => by
    rcases k.sub b hb with h1 | h1
    · exact h.sub b h1
    · exact Or.inr (Nat.le_trans h.kp.size h1), h.kp.trans (k.kp.mono h.kp.size (fun b hb hg => by
      rcases h.sub b hg with h1 | h1
      · exact h1
      · omega))⟩
theorem mv_below {A B C : World} {F G : Nat → Prop} (h : Moves A B F G) (k : Below B.heap.size B C) : Moves A C F G := mv_trans h (Moves.of_below G k)
set_option maxHeartbeats 1000000 in
theorem dof_any (x n p : Int) (y : Int) (W : World) (h : IntKind.u64.wrap (x + n) = y) :
    Calls Tryz.prog 37 #[.int .u64 x, .int .u64 n, .int .i64 p] W fun e W' => e = .returned (.agg #[.int .u64 x, .int .u64 y, .int .u64 x, .int .i64 p, .int .i64 (-1), .bool true]) ∧ Below W.heap.size W W' := by
  go_enter Tryz.func37, Tryz.ntmps37
  go_wp2_with fail
  exact bodyPost_ret (v := .agg #[.int .u64 x, .int .u64 y, .int .u64 x, .int .i64 p, .int .i64 (-1), .bool true]) (by simp [results, Tryz.results37, go_sem]) rfl ⟨rfl, (by repeat' (first | (with_reducible refine Below.setCell ?_ ?_ _) | (with_reducible refine bAlloc ?_ _) | (with_reducible refine bDrewN ?_ _) | (with_reducible refine Below.drew ?_) | (with_reducible exact Below.refl _ _) | (simp; done) | (simp; omega)))⟩
set_option maxHeartbeats 1000000 in
theorem rnull_any (W : World) :
    Calls Tryz.prog 38 #[.int .u64 0] W fun e W' => e = .returned (.agg #[.int .u64 0, .int .u64 0, .int .u64 0, .int .i64 0, .int .i64 (-1), .bool false]) ∧ Below W.heap.size W W' := by
  go_enter Tryz.func38, Tryz.ntmps38
  go_wp2_with fail
  exact bodyPost_ret (v := .agg #[.int .u64 0, .int .u64 0, .int .u64 0, .int .i64 0, .int .i64 (-1), .bool false]) (by simp [results, Tryz.results38, go_sem]) rfl ⟨rfl, (by repeat' (first | (with_reducible refine Below.setCell ?_ ?_ _) | (with_reducible refine bAlloc ?_ _) | (with_reducible refine bDrewN ?_ _) | (with_reducible refine Below.drew ?_) | (with_reducible exact Below.refl _ _) | (simp; done) | (simp; omega)))⟩
set_option maxHeartbeats 4000000 in
theorem rlist_any (W : World) (N R : Nat) (G : Nat → Prop) (m : Mm) (x : Nat) (a : Option Addr) (cp : Nat) (l : List Cp) (h : ROw W N G R m) (hr : RdC W G a l) (hx : x < 100000000) (hl : l.length ≤ 1000) (hf : ∀ c ∈ l, FitC c) :
    Calls Tryz.prog 39 #[.pointer (some ⟨R, 0, none⟩), .int .u64 (x : Int), .slice a l.length cp] W fun e W' => e = .returned (.int .u64 ((x + 32 * l.length : Nat) : Int)) ∧ ∃ G', ROw W' N G' R (layC m x l) ∧ Moves W W' G G' := by
  have HR0 := Lib.hid h
  have HRC0 := Lib.hid hr
  have HFI := Lib.hid hf
  have HX := Lib.hid hx
  have HGV := Lib.hid (fun (c : Cp) (m1 : Mm) (G1 : Nat → Prop) (y : Nat) W1 (h1 : ROw W1 N G1 R m1) (hy : y < 1000000000) (hc : FitC c) => rstoreC_any W1 R G1 m1 h1.mem y c (by omega) hc)
  unfold capC at HGV
  obtain ⟨n, hn⟩ : ∃ n, l.length = n := ⟨_, rfl⟩
  have HN := Lib.hid hn
  rw [hn] at hl ⊢
  have HL := Lib.hid hl
  clear h hr hx hl hf hn
  go_enter Tryz.func39, Tryz.ntmps39
  go_wp2_with fail
  go_loopw [1, 7] (fun xv i wr => ∃ (k : Nat) (G1 : Nat → Prop), k ≤ n ∧ xv = .int .u64 ((x + 32 * k : Nat) : Int) ∧ i = .int .i64 (k : Int) ∧ Hid (ROw wr N G1 R (layC m x (l.take k))) ∧ Hid (Moves W wr G G1)) (fun _ i _ => n - (intOf i).toNat)
  case atStart => exact ⟨0, G, Nat.zero_le _, rfl, rfl, HR0, Lib.hid (mv_refl W G)⟩
  case round =>
    obtain ⟨k, G1, hk, rfl, rfl, HR, HM⟩ := hrel
    have hx := HX.out
    have hl := HL.out
    by_cases hkn : k < n
    · have hkl : k < l.length := by rw [HN.out]; exact hkn
      obtain ⟨g, off, hge, hcs⟩ := RdC.at_ (HRC0.out.move HM.out) hkl
      subst hge
      have hfc := HFI.out l[k] (List.getElem_mem hkl)
      have hlay : layC m x (l.take (k + 1)) = (storeC (layC m x (l.take k)) ((x + 32 * k : Nat) : Int) l[k]).1 := by
        rw [List.take_succ_eq_append_getElem hkl, layC_snoc, List.length_take, Nat.min_eq_left (Nat.le_of_lt hkl)]
      obtain ⟨c, hc⟩ : ∃ c, l[k] = c := ⟨_, rfl⟩
      rw [hc] at hcs hfc hlay
      obtain ⟨c0, c1, c2, c3, c4, c5⟩ := hcs
      have HG := Lib.hid (HGV.out c (layC m x (l.take k)) G1 (x + 32 * k) wr HR.out (by omega) hfc)
      obtain ⟨cb, ct, ca, cp', cy, cg⟩ := c
      simp only [] at c0 c1 c2 c3 c4 c5 HG
      have HLAY := Lib.hid hlay
      have kk0 : (0 : Int) ≤ (k : Int) := by omega
      have kk1 : (k : Int) < (n : Int) := by omega
      have hd1 : decide ((k : Int) < (n : Int)) = true := decide_eq_true kk1
      obtain ⟨y, hy⟩ : ∃ y, x + 32 * k = y := ⟨_, rfl⟩
      have hy32 : x + 32 * (k + 1) = y + 32 := by omega
      rw [hy] at HG HLAY ⊢
      have hw : IntKind.u64.wrap ((y : Int) + 32) = ((y + 32 : Nat) : Int) := by rw [IntKind.wrap_u64]; omega
      have HY := Lib.hid hy32
      clear hkl hfc hlay hc hx hy hy32
      go_wp2_with fail
      refine HG.out.mono ?_; rintro e w2 ⟨rfl, hr2, hk2⟩
      obtain ⟨G2, hr3, hm3⟩ := row_step HR.out hr2 hk2
      have HR2 := Lib.hid hr3
      have HM2 := Lib.hid (mv_trans HM.out hm3)
      clear hr2 hk2 hr3 hm3
      go_wp2_with fail
      go_roundw
      case rel => exact ⟨k + 1, G2, by omega, by rw [HY.out]; first | rfl | exact congrArg (Value.int IntKind.u64) (by omega), by go_num, Lib.hid (by rw [HLAY.out]; exact HR2.out), HM2⟩
      case measure => simp [intOf]; omega
    · obtain rfl : k = n := by omega
      have htk : l.take k = l := List.take_of_length_le (by rw [HN.out]; omega)
      have HRL : Hid (ROw wr N G1 R (layC m x l)) := Lib.hid (by have := HR.out; rw [htk] at this; exact this)
      have hd1 : decide ((k : Int) < (k : Int)) = false := by simp
      have hd2 : decide (k < k) = false := by simp
      clear hx hl htk HR
      go_wp2_with fail
      go_ret
      exact ⟨rfl, G1, HRL.out, HM.out⟩
end Go.Proofs.YtjefkhieihigiaaGreat
