/- Merged: SoA SoB SoC SoD. -/
import Derived.Test.YtjefkhieihigiaaGreatTa1
import Derived.Sort.Walk13a
import Derived.Sort.LotB
import Derived.CellFam
import Derived.BigQuiet
import Derived.BigGuard
import Derived.BigCall
import Derived.Deep.LoopGhost
import Derived.Deep.QuietTactic
import Derived.Deep.Draws
namespace Go.Proofs.YtjefkhieihigiaaGreat
set_option linter.unusedVariables false
set_option linter.unusedSimpArgs false
open Go.Joins Go.ChangeShapes Go.WideShapes Go.ChangeAt Go.RowKit Go.Deep

abbrev ltI : Int → Int → Bool := Sort.ltInt
/-- the world w0 with row g holding d; what is new lies behind -/
structure Sw (w0 : World) (g cap : Nat) (e : TypeId) (d : Array Int) (W : World) : Prop where
  kp : KP w0.heap.size (· = g) w0 W
  gl : g < w0.heap.size
  sz : d.size ≤ cap
  blk : ∃ cur, W.heap[g]? = some (.cells cur e (0, 0)) ∧ cur.size = cap ∧ ∀ j, j < d.size → cur[j]? = some (.int .u64 d[j]!)
theorem Sw.c {w0 W : World} {g cap : Nat} {e : TypeId} {d : Array Int} (h : Sw w0 g cap e d W) (t : Nat) (ht : t < d.size) : W.cell? ⟨g, t, none⟩ = some (.int .u64 d[t]!) := by
  obtain ⟨cur, hb, -, hc⟩ := h.blk
  simp [World.cell?, hb, hc t ht]
theorem Sw.f {w0 W : World} {g cap : Nat} {e : TypeId} {d : Array Int} (h : Sw w0 g cap e d W) (t : Nat) : W.frozen? ⟨g, t, none⟩ = false := by
  obtain ⟨cur, hb, -, hc⟩ := h.blk
  simp [World.frozen?, hb]
theorem Sw.glW {w0 W : World} {g cap : Nat} {e : TypeId} {d : Array Int} (h : Sw w0 g cap e d W) : g < W.heap.size := Nat.lt_of_lt_of_le h.gl h.kp.size
theorem Sw.drewN {w0 W : World} {g cap : Nat} {e : TypeId} {d : Array Int} (h : Sw w0 g cap e d W) (n : Nat) : Sw w0 g cap e d (W.drewN n) :=
  ⟨h.kp.trans ⟨rfl, rfl, rfl, Nat.le_refl _, fun _ _ _ => rfl⟩, h.gl, h.sz, h.blk⟩
theorem Sw.drew {w0 W : World} {g cap : Nat} {e : TypeId} {d : Array Int} (h : Sw w0 g cap e d W) : Sw w0 g cap e d W.drew := h.drewN 1
theorem Sw.alloc {w0 W : World} {g cap : Nat} {e : TypeId} {d : Array Int} (h : Sw w0 g cap e d W) (o : Obj) : Sw w0 g cap e d (W.alloc o) :=
  ⟨h.kp.alloc o h.kp.size, h.gl, h.sz, by
    obtain ⟨cur, hb, r⟩ := h.blk
    exact ⟨cur, by rw [← hb]; exact (bAlloc (Below.refl W.heap.size W) o).block g h.glW, r⟩⟩
theorem Sw.setNew {w0 W : World} {g cap : Nat} {e : TypeId} {d : Array Int} (h : Sw w0 g cap e d W) (b off : Nat) (hb : w0.heap.size ≤ b) (v : Value) : Sw w0 g cap e d (W.setCell ⟨b, off, none⟩ v) :=
  ⟨h.kp.set ⟨b, off, none⟩ (Or.inl hb) v, h.gl, h.sz, by
    obtain ⟨cur, hc, r⟩ := h.blk
    exact ⟨cur, by rw [← hc]; exact Below.heap_setCell _ _ _ _ (by have := h.gl; show g ≠ b; omega), r⟩⟩
theorem Sw.store {w0 W : World} {g cap : Nat} {e : TypeId} {d : Array Int} (h : Sw w0 g cap e d W) (i : Nat) (x : Int) : Sw w0 g cap e (d.setIfInBounds i x) (W.setCell ⟨g, i, none⟩ (.int .u64 x)) :=
  ⟨h.kp.set ⟨g, i, none⟩ (Or.inr rfl) _, h.gl, by rw [Array.size_setIfInBounds]; exact h.sz, by
    obtain ⟨cur, hc, hs, r⟩ := h.blk
    refine ⟨cur.setIfInBounds i (.int .u64 x), ?_, by rw [Array.size_setIfInBounds]; exact hs, fun j hj => ?_⟩
    · show (W.heap.modify g _)[g]? = _
      obtain ⟨hlt, hk⟩ := Array.getElem?_eq_some_iff.1 hc
      rw [Array.getElem?_eq_getElem (by rw [Array.size_modify]; exact hlt), Array.getElem_modify_self, hk]
      rfl
    · rw [Array.size_setIfInBounds] at hj
      by_cases e : j = i
      · subst e
        have hjc : j < cur.size := by
          have := r j hj
          exact (Array.getElem?_eq_some_iff.1 this).1
        rw [Sort.getElem!_set_same d j x hj, Array.getElem?_setIfInBounds_self_of_lt hjc]
      · rw [Sort.getElem!_set_other d i j x e, Array.getElem?_setIfInBounds_ne (fun q => e q.symm), r j hj]⟩
theorem Sw.swap {w0 W : World} {g cap : Nat} {e : TypeId} {d : Array Int} (h : Sw w0 g cap e d W) (i j : Nat) (x y : Int) (hx : x = d[j]!) (hy : y = d[i]!) : Sw w0 g cap e (Sort.swp d i j) ((W.setCell ⟨g, i, none⟩ (.int .u64 x)).setCell ⟨g, j, none⟩ (.int .u64 y)).drew := by
  subst hx; subst hy
  exact ((h.store i d[j]!).store j d[i]!).drew
theorem Sw.start {W : World} {g cap : Nat} {e : TypeId} {d : Array Int} (hb : ∃ cur, W.heap[g]? = some (.cells cur e (0, 0)) ∧ cur.size = cap ∧ ∀ j, j < d.size → cur[j]? = some (.int .u64 d[j]!)) (hs : d.size ≤ cap) : Sw W g cap e d W := by
  obtain ⟨cur, h, r⟩ := hb
  exact ⟨KP.refl _ _ _, (Array.getElem?_eq_some_iff.1 h).1, hs, cur, h, r⟩
theorem isNaN_any (x : Int) (w : World) : Calls Tryz.prog 105 #[.int .u64 x] w fun e w' => e = .returned (.bool false) ∧ w = w' := by
  go_enter Tryz.func105, Tryz.ntmps105
  go_wp2
  go_ret
  exact ⟨by simp, rfl⟩
theorem less_any (x y : Int) (w : World) : Calls Tryz.prog 94 #[.int .u64 x, .int .u64 y] w fun e w' => e = .returned (.bool (ltI x y)) ∧ w' = w := by
  go_enter Tryz.func94, Tryz.ntmps94
  go_wp2_with (go_at_call 105; refine (isNaN_any _ _).mono ?_; rintro e w' ⟨rfl, rfl⟩)
  go_ret
  exact ⟨rfl, rfl⟩
end Go.Proofs.YtjefkhieihigiaaGreat

namespace Go.Proofs.YtjefkhieihigiaaGreat
set_option linter.unusedVariables false
set_option linter.unusedSimpArgs false
open Go.Joins Go.ChangeShapes Go.WideShapes Go.ChangeAt Go.RowKit Go.Deep

section
variable {α : Type} [Inhabited α] (lt : α → α → Bool)
theorem insI_go (a j : Nat) (d : Array α) (hj : a < j) (hl : lt d[j]! d[j - 1]! = true) : Sort.insInner lt a j d = Sort.insInner lt a (j - 1) (Sort.swp d j (j - 1)) := by
  cases j with
  | zero => omega
  | succ k => rw [Nat.add_sub_cancel] at *; conv => lhs; unfold Sort.insInner
              rw [hl]; simp; intro h; omega
theorem insI_stop (a j : Nat) (d : Array α) (h : j ≤ a ∨ lt d[j]! d[j - 1]! = false) : Sort.insInner lt a j d = d := by
  cases j with
  | zero => rfl
  | succ k =>
    rw [Nat.add_sub_cancel] at h
    unfold Sort.insInner
    rcases h with h | h
    · simp; intro h1; omega
    · simp [h]
theorem insO_go (a b i : Nat) (d : Array α) (h : i < b) : Sort.insOuter lt a b i d = Sort.insOuter lt a b (i + 1) (Sort.insInner lt a i d) := by
  conv => lhs; unfold Sort.insOuter
  exact if_pos h
theorem insO_stop (a b i : Nat) (d : Array α) (h : ¬ i < b) : Sort.insOuter lt a b i d = d := by
  unfold Sort.insOuter
  exact if_neg h
end
theorem swp_sz (d : Array Int) (i j : Nat) : (Sort.swp d i j).size = d.size := by simp [Sort.swp]
set_option maxRecDepth 100000 in
set_option maxHeartbeats 2000000 in
theorem ins_any (w0 : World) (g cap : Nat) (e : TypeId) (d : Array Int) (w : World) (S : Sw w0 g cap e d w) (a b : Nat) (hab : a ≤ b) (hb : b ≤ d.size) (hsz : d.size < 100000) :
    Calls Tryz.prog 88 #[.slice (some ⟨g, 0, none⟩) d.size cap, .int .i64 a, .int .i64 b] w fun e' w' => e' = .returned (.tuple #[]) ∧ Sw w0 g cap e (Sort.insertionSort ltI d a b) w' := by
  have S0 := Lib.hid S
  obtain ⟨N, hN⟩ : ∃ N, d.size = N := ⟨_, rfl⟩
  rw [hN] at hb hsz
  rw [hN]
  have HN := Lib.hid hN
  clear S hN
  go_enter Tryz.func88, Tryz.ntmps88
  go_wp2
  go_loopg [6] (b - a) (fun k vi wr => ∃ (i : Nat) (dk : Array Int), vi = .int .i64 i ∧ a < i ∧ i ≤ b + 1 ∧ b + 1 - i ≤ k + 1 ∧ dk.size = N ∧ Hid (Sw w0 g cap e dk wr) ∧ Hid (Sort.insOuter ltI a b i dk = Sort.insOuter ltI a b (a + 1) d))
  case atStart => exact ⟨a + 1, d, by go_num, by omega, by omega, by omega, HN.out, S0, Lib.hid rfl⟩
  case round =>
    clear S0
    obtain ⟨i, dk, rfl, hai, hib, hk, hds, S1, HO⟩ := hrel
    by_cases hlt : i < b
    · have hltz : (i : Int) < (b : Int) := by omega
      go_wp2
      go_loopg [7] i (fun k2 vj wr2 => ∃ (j : Nat) (dj : Array Int), vj = .int .i64 j ∧ a ≤ j ∧ j ≤ i ∧ j ≤ k2 ∧ dj.size = N ∧ Hid (Sw w0 g cap e dj wr2) ∧ Hid (Sort.insInner ltI a j dj = Sort.insInner ltI a i dk))
      case atStart => exact ⟨i, dk, rfl, by omega, Nat.le_refl _, Nat.le_refl _, hds, S1, Lib.hid rfl⟩
      case round =>
        clear S1
        obtain ⟨j, dj, rfl, haj, hji, hk2, hdj, SJ, HI⟩ := hrel
        have OUT := Lib.hid (fun (hs : j ≤ a ∨ ltI dj[j]! dj[j - 1]! = false) => show Sort.insOuter ltI a b (i + 1) dj = Sort.insOuter ltI a b (a + 1) d by
          rw [← HO.out, insO_go _ _ _ _ _ hlt, ← HI.out, insI_stop _ _ _ _ hs])
        have hcw : ∀ t, t < N → wr.cell? ⟨g, t, none⟩ = some (.int .u64 dj[t]!) := fun t ht => SJ.out.c t (by omega)
        have hfw : ∀ t, wr.frozen? ⟨g, t, none⟩ = false := SJ.out.f
        by_cases hja : a < j
        · obtain ⟨p, rfl⟩ : ∃ p, j = p + 1 := ⟨j - 1, by omega⟩
          have hjaz : (a : Int) < (p : Int) + 1 := by omega
          have hp : p < N := by omega
          have hp1 : p + 1 < N := by omega
          have e0 : wr.cell? ⟨g, p + 1, none⟩ = some (.int .u64 dj[p + 1]!) := hcw _ hp1
          have e1 : wr.cell? ⟨g, p, none⟩ = some (.int .u64 dj[p]!) := hcw _ hp
          rw [Nat.add_sub_cancel] at OUT
          obtain ⟨x, hx⟩ : ∃ x, dj[p + 1]! = x := ⟨_, rfl⟩
          obtain ⟨y, hy⟩ : ∃ y, dj[p]! = y := ⟨_, rfl⟩
          rw [hx] at e0 OUT
          rw [hy] at e1 OUT
          have HX := Lib.hid hx
          have HY := Lib.hid hy
          clear hcw hx hy
          cases hl : ltI x y
          · go_wp2_with fail
            go_big_quiet (first | (go_at_call 94; refine Calls.quiet_of_same (less_any _ _ _)))
            go_wp2_with fail
            go_roundg (b - (i + 1))
            case measure => omega
            case rel => exact ⟨i + 1, dj, by go_num, by omega, by omega, by omega, hdj, Lib.hid (SJ.out.drewN nq), Lib.hid (OUT.out (Or.inr hl))⟩
          · go_wp2_with fail
            go_big_quiet (first | (go_at_call 94; refine Calls.quiet_of_same (less_any _ _ _)))
            have SQ := Lib.hid (SJ.out.drewN nq)
            have e0' : (wr.drewN nq).cell? ⟨g, p + 1, none⟩ = some (.int .u64 x) := e0
            have e1' : (wr.drewN nq).cell? ⟨g, p, none⟩ = some (.int .u64 y) := e1
            have hfw' : ∀ t, (wr.drewN nq).frozen? ⟨g, t, none⟩ = false := hfw
            clear e0 e1 hfw SJ
            generalize wr.drewN nq = W2 at SQ e0' e1' hfw' ⊢
            clear nq
            go_wp2_with fail
            go_region
            go_wp2_with fail
            go_roundg p
            case measure => omega
            case rel => exact ⟨p, Sort.swp dj (p + 1) p, by go_num, by omega, by omega, Nat.le_refl _, by rw [swp_sz]; exact hdj, Lib.hid (SQ.out.swap (p + 1) p y x HY.out.symm HX.out.symm), Lib.hid (by rw [← HI.out, insI_go ltI a (p + 1) dj hja (by rw [Nat.add_sub_cancel, HX.out, HY.out]; exact hl), Nat.add_sub_cancel])⟩
        · have hjaz : decide ((j : Int) > (a : Int)) = false := decide_eq_false (by omega)
          go_wp2_with fail
          go_big_quiet (first | (go_at_call 94; refine Calls.quiet_of_same (less_any _ _ _)))
          go_wp2_with fail
          go_roundg (b - (i + 1))
          case measure => omega
          case rel => exact ⟨i + 1, dj, by go_num, by omega, by omega, by omega, hdj, Lib.hid (SJ.out.drewN nq), Lib.hid (OUT.out (Or.inl (by omega)))⟩
    · have hltz : ¬ (i : Int) < (b : Int) := by omega
      go_wp2_with fail
      go_end0
      refine ⟨rfl, ?_⟩
      have e : Sort.insertionSort ltI d a b = dk := by unfold Sort.insertionSort; rw [← HO.out, insO_stop _ _ _ _ _ hlt]
      rw [e]
      exact S1.out
end Go.Proofs.YtjefkhieihigiaaGreat

namespace Go.Proofs.YtjefkhieihigiaaGreat
set_option linter.unusedVariables false
set_option linter.unusedSimpArgs false
open Go.Joins Go.ChangeShapes Go.WideShapes Go.ChangeAt Go.RowKit Go.Deep

section
variable {α : Type} [Inhabited α] (lt : α → α → Bool)
/-- the child that a hole at root goes down to, of those below hi -/
def kid (hi F root : Nat) (d : Array α) : Nat := if 2 * root + 2 < hi ∧ lt d[F + (2 * root + 1)]! d[F + (2 * root + 2)]! = true then 2 * root + 2 else 2 * root + 1
theorem sift_end (hi F root : Nat) (d : Array α) (h : hi ≤ 2 * root + 1) : Sort.siftDown lt hi F root d = d := by
  unfold Sort.siftDown
  exact dif_pos h
theorem sift_kid (hi F root : Nat) (d : Array α) (h : ¬ hi ≤ 2 * root + 1) : Sort.siftDown lt hi F root d = if lt d[F + root]! d[F + kid lt hi F root d]! = true then Sort.siftDown lt hi F (kid lt hi F root d) (Sort.swp d (F + root) (F + kid lt hi F root d)) else d := by
  conv => lhs; unfold Sort.siftDown
  rw [dif_neg h]
  rw [show F + (2 * root + 1) + 1 = F + (2 * root + 2) by omega, show (decide (2 * root + 1 + 1 < hi)) = decide (2 * root + 2 < hi) from rfl]
  by_cases h2 : 2 * root + 2 < hi
  · rw [decide_eq_true h2, Bool.true_and, dif_pos h2]
    cases hl : lt d[F + (2 * root + 1)]! d[F + (2 * root + 2)]!
    · have hk : kid lt hi F root d = 2 * root + 1 := by unfold kid; exact if_neg (fun h => by rw [hl] at h; cases h.2)
      rw [hk]
      cases lt d[F + root]! d[F + (2 * root + 1)]! <;> rfl
    · have hk : kid lt hi F root d = 2 * root + 2 := by unfold kid; exact if_pos ⟨h2, hl⟩
      rw [hk]
      cases lt d[F + root]! d[F + (2 * root + 2)]! <;> rfl
  · have hk : kid lt hi F root d = 2 * root + 1 := by unfold kid; exact if_neg (fun h => h2 h.1)
    rw [hk, decide_eq_false h2, Bool.false_and]
    cases lt d[F + root]! d[F + (2 * root + 1)]! <;> rfl
end
theorem kid_lt (hi F root : Nat) (d : Array Int) (h : ¬ hi ≤ 2 * root + 1) : root < kid ltI hi F root d ∧ kid ltI hi F root d < hi := by
  unfold kid
  split <;> omega

set_option maxRecDepth 100000 in
set_option maxHeartbeats 4000000 in
theorem sift_any (w0 : World) (g cap : Nat) (e : TypeId) (d : Array Int) (w : World) (S : Sw w0 g cap e d w) (lo hi F : Nat) (hlo : lo ≤ hi) (hb : F + hi ≤ d.size) (hsz : d.size < 100000) :
    Calls Tryz.prog 100 #[.slice (some ⟨g, 0, none⟩) d.size cap, .int .i64 lo, .int .i64 hi, .int .i64 F] w fun e' w' => e' = .returned (.tuple #[]) ∧ Sw w0 g cap e (Sort.siftDown ltI hi F lo d) w' := by
  have S0 := Lib.hid S
  obtain ⟨N, hN⟩ : ∃ N, d.size = N := ⟨_, rfl⟩
  rw [hN] at hb hsz
  rw [hN]
  have HN := Lib.hid hN
  clear S hN
  go_enter Tryz.func100, Tryz.ntmps100
  go_wp2
  go_loopg [8] (hi - lo) (fun k vi wr => ∃ (root : Nat) (dk : Array Int), vi = .int .i64 root ∧ root ≤ hi ∧ hi - root ≤ k ∧ dk.size = N ∧ Hid (Sw w0 g cap e dk wr) ∧ Hid (Sort.siftDown ltI hi F root dk = Sort.siftDown ltI hi F lo d))
  case atStart => exact ⟨lo, d, rfl, hlo, Nat.le_refl _, HN.out, S0, Lib.hid rfl⟩
  case round =>
    clear S0
    obtain ⟨r, dk, rfl, hr, hk, hds, S1, HO⟩ := hrel
    by_cases h0 : hi ≤ 2 * r + 1
    · have h0z : (hi : Int) ≤ 2 * (r : Int) + 1 := by omega
      go_wp2
      go_end0
      exact ⟨rfl, by rw [← HO.out, sift_end _ _ _ _ _ h0]; exact S1.out⟩
    · have h0z : ¬ (hi : Int) ≤ 2 * (r : Int) + 1 := by omega
      have HK := Lib.hid (sift_kid ltI hi F r dk h0)
      have HL := Lib.hid (kid_lt hi F r dk h0)
      have hcw : ∀ t, t < N → wr.cell? ⟨g, t, none⟩ = some (.int .u64 dk[t]!) := fun t ht => S1.out.c t (by omega)
      have hfw : ∀ t, wr.frozen? ⟨g, t, none⟩ = false := S1.out.f
      obtain ⟨p, hp⟩ : ∃ p, F + (2 * r + 1) = p := ⟨_, rfl⟩
      have hpz : (F : Int) + (2 * (r : Int) + 1) = (p : Int) := by omega
      have hpN : p < N := by omega
      have e0 : wr.cell? ⟨g, p, none⟩ = some (.int .u64 dk[p]!) := hcw _ hpN
      obtain ⟨q, hq⟩ : ∃ q, F + r = q := ⟨_, rfl⟩
      have hqz : (F : Int) + (r : Int) = (q : Int) := by omega
      have hqN : q < N := by omega
      have eq0 : wr.cell? ⟨g, q, none⟩ = some (.int .u64 dk[q]!) := hcw _ hqN
      have hkd : kid ltI hi F r dk = if 2 * r + 2 < hi ∧ ltI dk[p]! dk[F + (2 * r + 2)]! = true then 2 * r + 2 else 2 * r + 1 := by unfold kid; rw [hp]
      have HKD := Lib.hid hkd
      clear hkd
      rw [hq] at HK
      obtain ⟨x, hx⟩ : ∃ x, dk[p]! = x := ⟨_, rfl⟩
      obtain ⟨z, hz⟩ : ∃ z, dk[q]! = z := ⟨_, rfl⟩
      rw [hx] at e0 HKD
      rw [hz] at eq0 HK
      by_cases h2 : 2 * r + 2 < hi
      · have h2z : 2 * (r : Int) + 1 + 1 < (hi : Int) := by omega
        have hp1N : p + 1 < N := by omega
        have e1 : wr.cell? ⟨g, p + 1, none⟩ = some (.int .u64 dk[p + 1]!) := hcw _ hp1N
        rw [show F + (2 * r + 2) = p + 1 by omega] at HKD
        obtain ⟨y, hy⟩ : ∃ y, dk[p + 1]! = y := ⟨_, rfl⟩
        rw [hy] at e1 HKD
        have HX := Lib.hid hx
        have HY := Lib.hid hy
        have HZ := Lib.hid hz
        clear hx hy hz hcw
        cases hl : ltI x y
        · have hkv : kid ltI hi F r dk = 2 * r + 1 := by rw [HKD.out, if_neg (by rw [hl]; simp)]
          rw [hkv] at HK HL
          rw [show F + (2 * r + 1) = p by omega] at HK
          rw [HX.out] at HK
          clear hkv HKD
          go_wp2_with fail
          go_big_quiet (first | (go_at_call 94; refine Calls.quiet_of_same (less_any _ _ _)))
          have SQ := Lib.hid (S1.out.drewN nq)
          have ec' : (wr.drewN nq).cell? ⟨g, p, none⟩ = some (.int .u64 x) := e0
          have eq' : (wr.drewN nq).cell? ⟨g, q, none⟩ = some (.int .u64 z) := eq0
          have hfw' : ∀ t, (wr.drewN nq).frozen? ⟨g, t, none⟩ = false := hfw
          clear e0 eq0 hfw S1 e1
          generalize wr.drewN nq = W2 at SQ ec' eq' hfw' ⊢
          clear nq
          go_wp2_with fail
          cases hs : ltI z x
          · go_big_quiet (first | (go_at_call 94; refine Calls.quiet_of_same (less_any _ _ _)))
            go_wp2_with fail
            (try simp only [Exit.inBlock, Exit.then]); refine bodyPost_ret (results_none rfl _ _ _) rfl ?_
            refine ⟨rfl, ?_⟩
            rw [← HO.out, HK.out, if_neg (by rw [hs]; simp)]
            exact SQ.out.drewN nq
          · go_big_quiet (first | (go_at_call 94; refine Calls.quiet_of_same (less_any _ _ _)))
            have SR := Lib.hid (SQ.out.drewN nq)
            have ed : (W2.drewN nq).cell? ⟨g, p, none⟩ = some (.int .u64 x) := ec'
            have er : (W2.drewN nq).cell? ⟨g, q, none⟩ = some (.int .u64 z) := eq'
            have hfr : ∀ t, (W2.drewN nq).frozen? ⟨g, t, none⟩ = false := hfw'
            clear ec' eq' hfw' SQ
            generalize W2.drewN nq = W3 at SR ed er hfr ⊢
            clear nq
            have hqc : q ≠ p := by omega
            go_wp2_with fail
            go_region
            go_wp2_with fail
            go_roundg (hi - (2 * r + 1))
            case measure => omega
            case rel => exact ⟨2 * r + 1, Sort.swp dk q (p), by go_num, by omega, Nat.le_refl _, by rw [swp_sz]; exact hds, Lib.hid (SR.out.swap q (p) x z HX.out.symm HZ.out.symm), Lib.hid (by rw [← HO.out, HK.out, if_pos hs])⟩
        · have hpz2 : (F : Int) + (2 * (r : Int) + 1 + 1) = (p : Int) + 1 := by omega
          have hkv : kid ltI hi F r dk = 2 * r + 2 := by rw [HKD.out, if_pos ⟨h2, hl⟩]
          rw [hkv] at HK HL
          rw [show F + (2 * r + 2) = p + 1 by omega] at HK
          rw [HY.out] at HK
          clear hkv HKD
          go_wp2_with fail
          go_big_quiet (first | (go_at_call 94; refine Calls.quiet_of_same (less_any _ _ _)))
          have SQ := Lib.hid (S1.out.drewN nq)
          have ec' : (wr.drewN nq).cell? ⟨g, p + 1, none⟩ = some (.int .u64 y) := e1
          have eq' : (wr.drewN nq).cell? ⟨g, q, none⟩ = some (.int .u64 z) := eq0
          have hfw' : ∀ t, (wr.drewN nq).frozen? ⟨g, t, none⟩ = false := hfw
          clear e0 eq0 hfw S1 e1
          generalize wr.drewN nq = W2 at SQ ec' eq' hfw' ⊢
          clear nq
          go_wp2_with fail
          cases hs : ltI z y
          · go_big_quiet (first | (go_at_call 94; refine Calls.quiet_of_same (less_any _ _ _)))
            go_wp2_with fail
            (try simp only [Exit.inBlock, Exit.then]); refine bodyPost_ret (results_none rfl _ _ _) rfl ?_
            refine ⟨rfl, ?_⟩
            rw [← HO.out, HK.out, if_neg (by rw [hs]; simp)]
            exact SQ.out.drewN nq
          · go_big_quiet (first | (go_at_call 94; refine Calls.quiet_of_same (less_any _ _ _)))
            have SR := Lib.hid (SQ.out.drewN nq)
            have ed : (W2.drewN nq).cell? ⟨g, p + 1, none⟩ = some (.int .u64 y) := ec'
            have er : (W2.drewN nq).cell? ⟨g, q, none⟩ = some (.int .u64 z) := eq'
            have hfr : ∀ t, (W2.drewN nq).frozen? ⟨g, t, none⟩ = false := hfw'
            clear ec' eq' hfw' SQ
            generalize W2.drewN nq = W3 at SR ed er hfr ⊢
            clear nq
            have hqc : q ≠ p + 1 := by omega
            go_wp2_with fail
            go_region
            go_wp2_with fail
            go_roundg (hi - (2 * r + 2))
            case measure => omega
            case rel => exact ⟨2 * r + 2, Sort.swp dk q (p + 1), by go_num, by omega, Nat.le_refl _, by rw [swp_sz]; exact hds, Lib.hid (SR.out.swap q (p + 1) y z HY.out.symm HZ.out.symm), Lib.hid (by rw [← HO.out, HK.out, if_pos hs])⟩
      · have h2z : decide (2 * (r : Int) + 1 + 1 < (hi : Int)) = false := decide_eq_false (by omega)
        have hkv : kid ltI hi F r dk = 2 * r + 1 := by rw [HKD.out, if_neg (fun h => h2 h.1)]
        have HX := Lib.hid hx
        have HZ := Lib.hid hz
        clear hx hz hcw
        rw [hkv] at HK HL
        rw [show F + (2 * r + 1) = p by omega] at HK
        rw [HX.out] at HK
        clear hkv HKD
        go_wp2_with fail
        go_big_quiet (first | (go_at_call 94; refine Calls.quiet_of_same (less_any _ _ _)))
        have SQ := Lib.hid (S1.out.drewN nq)
        have ec' : (wr.drewN nq).cell? ⟨g, p, none⟩ = some (.int .u64 x) := e0
        have eq' : (wr.drewN nq).cell? ⟨g, q, none⟩ = some (.int .u64 z) := eq0
        have hfw' : ∀ t, (wr.drewN nq).frozen? ⟨g, t, none⟩ = false := hfw
        clear e0 eq0 hfw S1 
        generalize wr.drewN nq = W2 at SQ ec' eq' hfw' ⊢
        clear nq
        go_wp2_with fail
        cases hs : ltI z x
        · go_big_quiet (first | (go_at_call 94; refine Calls.quiet_of_same (less_any _ _ _)))
          go_wp2_with fail
          (try simp only [Exit.inBlock, Exit.then]); refine bodyPost_ret (results_none rfl _ _ _) rfl ?_
          refine ⟨rfl, ?_⟩
          rw [← HO.out, HK.out, if_neg (by rw [hs]; simp)]
          exact SQ.out.drewN nq
        · go_big_quiet (first | (go_at_call 94; refine Calls.quiet_of_same (less_any _ _ _)))
          have SR := Lib.hid (SQ.out.drewN nq)
          have ed : (W2.drewN nq).cell? ⟨g, p, none⟩ = some (.int .u64 x) := ec'
          have er : (W2.drewN nq).cell? ⟨g, q, none⟩ = some (.int .u64 z) := eq'
          have hfr : ∀ t, (W2.drewN nq).frozen? ⟨g, t, none⟩ = false := hfw'
          clear ec' eq' hfw' SQ
          generalize W2.drewN nq = W3 at SR ed er hfr ⊢
          clear nq
          have hqc : q ≠ p := by omega
          go_wp2_with fail
          go_region
          go_wp2_with fail
          go_roundg (hi - (2 * r + 1))
          case measure => omega
          case rel => exact ⟨2 * r + 1, Sort.swp dk q (p), by go_num, by omega, Nat.le_refl _, by rw [swp_sz]; exact hds, Lib.hid (SR.out.swap q (p) x z HX.out.symm HZ.out.symm), Lib.hid (by rw [← HO.out, HK.out, if_pos hs])⟩
end Go.Proofs.YtjefkhieihigiaaGreat

namespace Go.Proofs.YtjefkhieihigiaaGreat
set_option linter.unusedVariables false
set_option linter.unusedSimpArgs false
open Go.Joins Go.ChangeShapes Go.WideShapes Go.ChangeAt Go.RowKit Go.Deep

theorem sift_sz (hi F : Nat) : ∀ (n root : Nat) (d : Array Int), hi - root ≤ n → (Sort.siftDown ltI hi F root d).size = d.size := by
  intro n
  induction n with
  | zero => intro root d h; rw [sift_end _ _ _ _ _ (by omega)]
  | succ n ih =>
    intro root d h
    by_cases h0 : hi ≤ 2 * root + 1
    · rw [sift_end _ _ _ _ _ h0]
    · rw [sift_kid _ _ _ _ _ h0]
      have := kid_lt hi F root d h0
      split
      · rw [ih _ _ (by omega), swp_sz]
      · rfl
theorem sift_size (hi F root : Nat) (d : Array Int) : (Sort.siftDown ltI hi F root d).size = d.size := sift_sz hi F _ root d (Nat.le_refl _)
set_option maxRecDepth 100000 in
set_option maxHeartbeats 1000000 in
theorem heap_any (w0 : World) (g cap : Nat) (e : TypeId) (d : Array Int) (w : World) (S : Sw w0 g cap e d w) (a L : Nat) (hb : a + L ≤ d.size) (hsz : d.size < 100000) :
    Calls Tryz.prog 89 #[.slice (some ⟨g, 0, none⟩) d.size cap, .int .i64 a, .int .i64 ((a + L : Nat) : Int)] w fun e' w' => e' = .returned (.tuple #[]) ∧ Sw w0 g cap e (Sort.heapSort ltI d a (a + L)) w' := by
  have S0 := Lib.hid S
  obtain ⟨N, hN⟩ : ∃ N, d.size = N := ⟨_, rfl⟩
  rw [hN] at hb hsz
  rw [hN]
  have HN := Lib.hid hN
  have hhs : Sort.heapSort ltI d a (a + L) = Sort.heapPop ltI a L (Sort.heapBuild ltI L a ((L - 1) / 2 + 1) d) := by unfold Sort.heapSort; rw [Nat.add_sub_cancel_left]
  rw [hhs]
  obtain ⟨K, hK⟩ : ∃ K, (L - 1) / 2 + 1 = K := ⟨_, rfl⟩
  rw [hK]
  have hl1 : ((a + L : Nat) : Int) - (a : Int) = (L : Int) := by omega
  have hl2 : (a : Int) + (L : Int) - (a : Int) = (L : Int) := by omega
  have hl3 : ((L : Int) - 1).tdiv 2 = (K : Int) - 1 := by
    rcases Nat.eq_zero_or_pos L with h | h
    · subst h
      simp at hK
      subst hK
      decide
    · rw [Int.tdiv_eq_ediv_of_nonneg (by omega)]; omega
  have hKL : K ≤ L + 1 := by omega
  clear S hN hhs hK
  go_enter Tryz.func89, Tryz.ntmps89
  go_wp2
  go_loopg [9] K (fun k vi wr => ∃ (j : Nat) (dk : Array Int), vi = .int .i64 ((j : Int) - 1) ∧ j ≤ k ∧ j ≤ K ∧ dk.size = N ∧ Hid (Sw w0 g cap e dk wr) ∧ Hid (Sort.heapBuild ltI L a j dk = Sort.heapBuild ltI L a K d))
  case atStart => exact ⟨K, d, by first | rfl | (rw [hl3]), Nat.le_refl _, Nat.le_refl _, HN.out, S0, Lib.hid rfl⟩
  case round =>
    clear S0
    obtain ⟨j, dk, rfl, hk, hjK, hds, S1, HO⟩ := hrel
    rcases Nat.eq_zero_or_pos j with h0 | h0
    · subst h0
      have HB : Hid (dk = Sort.heapBuild ltI L a K d) := Lib.hid HO.out
      clear HO
      go_wp2_with fail
      go_loopg [10] L (fun k vi wr2 => ∃ (j : Nat) (dj : Array Int), vi = .int .i64 ((j : Int) - 1) ∧ j ≤ k ∧ j ≤ L ∧ dj.size = N ∧ Hid (Sw w0 g cap e dj wr2) ∧ Hid (Sort.heapPop ltI a j dj = Sort.heapPop ltI a L dk))
      case atStart => exact ⟨L, dk, rfl, Nat.le_refl _, Nat.le_refl _, hds, S1, Lib.hid rfl⟩
      case round =>
        clear S1
        obtain ⟨j, dj, rfl, hk2, hjL, hdj, SJ, HP⟩ := hrel
        rcases Nat.eq_zero_or_pos j with h1 | h1
        · subst h1
          go_wp2_with fail
          go_end0
          refine ⟨rfl, ?_⟩
          rw [← HB.out, ← HP.out]
          exact SJ.out
        · obtain ⟨i, rfl⟩ : ∃ i, j = i + 1 := ⟨j - 1, by omega⟩
          have hi1 : ((i + 1 : Nat) : Int) - 1 = (i : Int) := by omega
          have hi2 : (i : Int) + 1 - 1 = (i : Int) := by omega
          have i0 : (0 : Int) ≤ (i : Int) := by omega
          have hcw : ∀ t, t < N → wr.cell? ⟨g, t, none⟩ = some (.int .u64 dj[t]!) := fun t ht => SJ.out.c t (by omega)
          have hfw : ∀ t, wr.frozen? ⟨g, t, none⟩ = false := SJ.out.f
          obtain ⟨q, hq⟩ : ∃ q, a + i = q := ⟨_, rfl⟩
          have hqz : (a : Int) + (i : Int) = (q : Int) := by omega
          have haN : a < N := by omega
          have hqN : q < N := by omega
          have ea : wr.cell? ⟨g, a, none⟩ = some (.int .u64 dj[a]!) := hcw _ haN
          have eq : wr.cell? ⟨g, q, none⟩ = some (.int .u64 dj[q]!) := hcw _ hqN
          obtain ⟨x, hx⟩ : ∃ x, dj[a]! = x := ⟨_, rfl⟩
          obtain ⟨y, hy⟩ : ∃ y, dj[q]! = y := ⟨_, rfl⟩
          rw [hx] at ea
          rw [hy] at eq
          have HC : Hid (∀ w1, Sw w0 g cap e (Sort.swp dj a q) w1 → Calls Tryz.prog 100 #[.slice (some ⟨g, 0, none⟩) N cap, .int .i64 ((0 : Nat) : Int), .int .i64 i, .int .i64 a] w1 fun e' w' => e' = .returned (.tuple #[]) ∧ Sw w0 g cap e (Sort.siftDown ltI i a 0 (Sort.swp dj a q)) w') := Lib.hid (fun w1 s => by
            have hsw : (Sort.swp dj a q).size = N := by rw [swp_sz, hdj]
            have := sift_any w0 g cap e (Sort.swp dj a q) w1 s 0 i a (Nat.zero_le _) (by omega) (by omega)
            rw [hsw] at this
            exact this)
          rw [show ((0 : Nat) : Int) = 0 from rfl] at HC
          have HQ : Hid (Sort.heapPop ltI a i (Sort.siftDown ltI i a 0 (Sort.swp dj a q)) = Sort.heapPop ltI a L dk) := Lib.hid (by rw [← HP.out, ← hq]; rfl)
          have HX := Lib.hid hx
          have HY := Lib.hid hy
          clear hx hy hcw HP
          rcases Nat.eq_zero_or_pos i with hi0 | hi0
          · subst hi0
            obtain rfl : q = a := by omega
            obtain rfl : x = y := by rw [← HX.out, ← HY.out]
            go_wp2_with fail
            go_region
            have SR := Lib.hid (SJ.out.swap q q x x HX.out.symm HX.out.symm)
            clear SJ ea eq hfw
            go_wp2_with fail
            have HC2 := HC.out _ SR.out
            rw [show ((0 : Nat) : Int) = 0 from rfl] at HC2
            with_reducible refine HC2.mono ?_
            rintro e' W3 ⟨rfl, S3⟩
            have S4 := Lib.hid S3
            clear S3 SR
            go_wp2_with fail
            go_roundg 0
            case measure => omega
            case rel => exact ⟨0, _, by first | rfl | go_num, Nat.le_refl _, by omega, by rw [sift_size, swp_sz]; exact hdj, S4, HQ⟩
          · have hqa : q ≠ a := by omega
            have haq : a ≠ q := by omega
            go_wp2_with fail
            go_region
            have SR := Lib.hid (SJ.out.swap a q y x HY.out.symm HX.out.symm)
            clear SJ ea eq hfw
            go_wp2_with fail
            have HC2 := HC.out _ SR.out
            with_reducible refine HC2.mono ?_
            rintro e' W3 ⟨rfl, S3⟩
            have S4 := Lib.hid S3
            clear S3 SR
            go_wp2_with fail
            go_roundg i
            case measure => omega
            case rel => exact ⟨i, _, by first | rfl | go_num, Nat.le_refl _, by omega, by rw [sift_size, swp_sz]; exact hdj, S4, HQ⟩
    · obtain ⟨i, rfl⟩ : ∃ i, j = i + 1 := ⟨j - 1, by omega⟩
      have hi1 : ((i + 1 : Nat) : Int) - 1 = (i : Int) := by omega
      have hi2 : (i : Int) + 1 - 1 = (i : Int) := by omega
      have i0 : (0 : Int) ≤ (i : Int) := by omega
      have HC := Lib.hid (sift_any w0 g cap e dk wr S1.out i L a (by omega) (by omega) (by omega))
      rw [hds] at HC
      have HQ : Hid (Sort.heapBuild ltI L a i (Sort.siftDown ltI L a i dk) = Sort.heapBuild ltI L a K d) := Lib.hid HO.out
      clear HO
      go_wp2_with fail
      refine HC.out.mono ?_
      rintro e' W3 ⟨rfl, S3⟩
      have S4 := Lib.hid S3
      clear S3
      go_wp2_with fail
      go_roundg i
      case measure => omega
      case rel => exact ⟨i, _, by first | rfl | go_num, Nat.le_refl _, by omega, by rw [sift_size]; exact hds, S4, HQ⟩
/-- it is turned: a permutation -/
theorem rev_perm (a b i j : Nat) (d : Array Int) (hi : a ≤ i) (hij : i < j) (hj : j < b) (hb : b ≤ d.size) {d0 : Array Int} (h : Sort.PermIn a b d0 d) : Sort.PermIn a b d0 (Sort.swp d i j) :=
  Sort.permIn_trans _ _ _ a b h (Sort.swp_permIn d a b i j hi (by omega) (by omega) hj hb)
set_option maxRecDepth 100000 in
set_option maxHeartbeats 1000000 in
theorem rev_any (w0 : World) (g cap : Nat) (e : TypeId) (d : Array Int) (w : World) (S : Sw w0 g cap e d w) (a b : Nat) (hab : a ≤ b) (hb : b ≤ d.size) (hsz : d.size < 100000) :
    Calls Tryz.prog 92 #[.slice (some ⟨g, 0, none⟩) d.size cap, .int .i64 a, .int .i64 b] w fun e' w' => e' = .returned (.tuple #[]) ∧ ∃ d', Sort.PermIn a b d d' ∧ Sw w0 g cap e d' w' := by
  have S0 := Lib.hid S
  obtain ⟨N, hN⟩ : ∃ N, d.size = N := ⟨_, rfl⟩
  rw [hN] at hb hsz
  rw [hN]
  have HN := Lib.hid hN
  clear S hN
  go_enter Tryz.func92, Tryz.ntmps92
  go_wp2
  go_loopg [6, 7] b (fun k vi vj wr => ∃ (i j : Nat) (dk : Array Int), vi = .int .i64 i ∧ vj = .int .i64 ((j : Int) - 1) ∧ a ≤ i ∧ i ≤ b ∧ j ≤ b ∧ j ≤ k ∧ dk.size = N ∧ Hid (Sw w0 g cap e dk wr) ∧ Hid (Sort.PermIn a b d dk))
  case atStart => exact ⟨a, b, d, rfl, rfl, Nat.le_refl _, hab, Nat.le_refl _, Nat.le_refl _, HN.out, S0, Lib.hid (Sort.permIn_refl _ _ _)⟩
  case round =>
    clear S0
    obtain ⟨i, j, dk, rfl, rfl, hai, hib, hjb, hk, hds, S1, HO⟩ := hrel
    by_cases hlt : i + 1 < j
    · obtain ⟨q, rfl⟩ : ∃ q, j = q + 1 := ⟨j - 1, by omega⟩
      have hi1 : ((q + 1 : Nat) : Int) - 1 = (q : Int) := by omega
      have hi2 : (q : Int) + 1 - 1 = (q : Int) := by omega
      have hz : (i : Int) < (q : Int) := by omega
      have hiN : i < N := by omega
      have hqN : q < N := by omega
      have ei : wr.cell? ⟨g, i, none⟩ = some (.int .u64 dk[i]!) := S1.out.c i (by omega)
      have eq : wr.cell? ⟨g, q, none⟩ = some (.int .u64 dk[q]!) := S1.out.c q (by omega)
      have hfw : ∀ t, wr.frozen? ⟨g, t, none⟩ = false := S1.out.f
      obtain ⟨x, hx⟩ : ∃ x, dk[i]! = x := ⟨_, rfl⟩
      obtain ⟨y, hy⟩ : ∃ y, dk[q]! = y := ⟨_, rfl⟩
      rw [hx] at ei
      rw [hy] at eq
      have HX := Lib.hid hx
      have HY := Lib.hid hy
      have hne : i ≠ q := by omega
      clear hx hy
      go_wp2_with fail
      go_region
      go_wp2_with fail
      go_roundg q
      case measure => omega
      case rel => exact ⟨i + 1, q, Sort.swp dk i q, by go_num, by first | rfl | go_num, by omega, by omega, by omega, Nat.le_refl _, by rw [swp_sz]; exact hds, Lib.hid (S1.out.swap i q y x HY.out.symm HX.out.symm), Lib.hid (rev_perm a b i q dk hai (by omega) (by omega) (by omega) HO.out)⟩
    · have hz : ¬ (i : Int) < (j : Int) - 1 := by omega
      go_wp2_with fail
      go_end0
      exact ⟨rfl, dk, HO.out, S1.out⟩
end Go.Proofs.YtjefkhieihigiaaGreat

