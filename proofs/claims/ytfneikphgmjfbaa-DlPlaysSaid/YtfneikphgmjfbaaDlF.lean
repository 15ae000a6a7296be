/- All that is needed by those that are open; what is struck of a list: contracts. -/
import Derived.Test.YtfneikphgmjfbaaDlE
import Derived.Shelf.SlicesE.DeleteFunc
namespace Go.Proofs.Ytfneikphgmjfbaa
set_option linter.unusedVariables false
set_option linter.unusedSimpArgs false
open Go.Joins Go.ChangeShapes Go.WideShapes Go.ChangeAt Go.RowKit Go.Deep Go.Sort

def NeedPost (w : World) (l : List Obj) (op : List Nat) (e : Ending) (w' : World) : Prop :=
  ∃ a' c' nd, e = .returned (.slice a' nd.length c') ∧ w'.ownsRow w.heap.size 3 1 (.slice a' nd.length c') nd.length (i64s (ordZ nd)) ∧ (∀ j, j ∈ nd ↔ ∃ p ∈ op, RE l p j) ∧ nd.Nodup ∧ (∀ j ∈ nd, j < l.length) ∧ Below w.heap.size w w'
set_option maxHeartbeats 2000000 in
set_option maxRecDepth 100000 in
theorem needed_any (a : Option Addr) (l : List Obj) (c : Nat) (b : Option Addr) (op : List Nat) (d : Nat) (w : World) (hl : RdO w a l) (hm : l.length ≤ 100) (hnm : Named l) (ho : Rd w b op.length (i64s (ordZ op))) (hop : ∀ k ∈ op, k < l.length) (hon : op.length ≤ 100) :
    Calls Try.prog 40 #[.slice a l.length c, .slice b op.length d] w (NeedPost w l op) := by
  have HL := Lib.hid hl
  have HOP := Lib.hid hop
  have HON := Lib.hid (once_any b d op w ho (by omega) (fun k hk => by have := hop k hk; omega))
  have HRE := Lib.hid (fun s W (hW : RdO W a l) (h : s < l.length) => reach_any a l c s W hW (by omega) hnm h)
  have hole := onceL_le op
  clear hl hnm ho hop
  obtain ⟨n, hn⟩ : ∃ n, (onceL op).length = n := ⟨_, rfl⟩
  obtain ⟨ml, hml⟩ : ∃ n, l.length = n := ⟨_, rfl⟩
  rw [hn] at hole HON
  rw [hml] at hm HRE ⊢
  have HN := Lib.hid hn
  have HML := Lib.hid hml
  clear hn hml
  go_enter Try.func40, Try.ntmps40
  go_wp2_with fail
  refine HON.out.mono ?_; rintro e w1 ⟨a1, c1, rfl, ho1, hb1⟩
  have R1 := Lib.hid (Rd.of_own ho1)
  have B1 := Lib.hid hb1
  clear ho1 hb1
  go_wp2_with fail
  go_loopw [5, 11] (fun v i wr => ∃ (k m : Nat) (acc : List Nat) (a2 : Option Addr) (c2 : Nat), v = .slice a2 m c2 ∧ i = .int .i64 k ∧ k ≤ n ∧ Hid (m = acc.length) ∧ m ≤ k * 100 ∧ Hid (∀ j, j ∈ acc ↔ ∃ p ∈ (onceL op).take k, RE l p j) ∧ Hid (∀ j ∈ acc, j < l.length) ∧ Hid (wr.ownsRow w1.heap.size 3 1 (.slice a2 m c2) m (i64s (ordZ acc))) ∧ Hid (Below w1.heap.size w1 wr)) (fun _ i _ => n - (intOf i).toNat)
  case atStart => exact ⟨0, 0, [], none, 0, rfl, rfl, by omega, Lib.hid rfl, by omega, Lib.hid (fun j => by simp), Lib.hid (by simp), Lib.hid (World.ownsRow_nil _ _ _ _), Lib.hid (Below.refl _ _)⟩
  case round =>
    obtain ⟨k, m, acc, a2, c2, rfl, rfl, hk, HM, hmk, HA, HLT, HO, HB⟩ := hrel
    by_cases hlt : k < n
    · have hkl : k < (onceL op).length := by rw [HN.out]; exact hlt
      obtain ⟨g, off, rfl, -, hc⟩ := (R1.out.below HB.out).at_ hlt
      rw [ordZ_get _ k hkl] at hc
      have htk := List.take_succ_eq_append_getElem hkl
      obtain ⟨s, hs⟩ : ∃ s, (onceL op)[k] = s := ⟨_, rfl⟩
      have hsl : s < l.length := by
        have h1 := List.getElem_mem hkl
        rw [hs] at h1
        exact HOP.out s ((mem_onceL op s).1 h1)
      rw [hs] at hc htk
      have HTK := Lib.hid htk
      have HRS := Lib.hid (HRE.out s wr ((HL.out.below B1.out).below HB.out) (by rw [← HML.out]; exact hsl))
      have hbs := HB.out.size
      clear htk hs hsl hkl
      go_wp2_with fail
      refine HRS.out.mono ?_; rintro e w3 ⟨a3, c3, o3, rfl, hr3, hO3, hm3, -, hb3⟩
      have hol3 := hO3.le
      rw [HML.out] at hol3
      obtain ⟨n3, hn3⟩ : ∃ n, o3.length = n := ⟨_, rfl⟩
      rw [hn3] at hr3 hol3 ⊢
      have HN3 := Lib.hid hn3
      have R3 := Lib.hid hr3
      have M3 := Lib.hid hm3
      have O3 := Lib.hid hO3.2
      have B3 := Lib.hid hb3
      have hz3 := hb3.size
      have HO3 := Lib.hid (own_below HO.out hb3)
      have hmul : k * 100 ≤ n * 100 := Nat.mul_le_mul_right _ hk
      clear hr3 hm3 hO3 hb3 hn3
      go_wp2_with (at_builtin; refine wpList_app _ rfl _ _ rfl w1.heap.size (.slice a2 m c2) m (ordZ acc) rfl HO3.out a3 n3 c3 (ordZ o3) rfl R3.out (by omega) (by omega) ?_; intro a' c' w4 hown4 hgrow4 hat4; have HO4 := Lib.hid hown4; have HG4 := Lib.hid hgrow4; clear hown4 hgrow4 hat4)
      go_roundw
      case rel =>
        refine ⟨k + 1, m + n3, acc ++ o3, a', c', rfl, by go_num, by omega, Lib.hid (by rw [List.length_append, HN3.out, ← HM.out]), by omega, Lib.hid (fun j => ?_), Lib.hid (fun j hj => ?_), Lib.hid ?_, Lib.hid ?_⟩
        · rw [List.mem_append, HA.out, M3.out, HTK.out]
          constructor
          · rintro (⟨p, hp, hr⟩ | hr)
            · exact ⟨p, List.mem_append_left _ hp, hr⟩
            · exact ⟨s, by simp, hr⟩
          · rintro ⟨p, hp, hr⟩
            rcases List.mem_append.1 hp with hp | hp
            · exact Or.inl ⟨p, hp, hr⟩
            · simp at hp; subst hp; exact Or.inr hr
        · rcases List.mem_append.1 hj with hj | hj
          · exact HLT.out j hj
          · exact O3.out j hj
        · have := HO4.out
          simpa [ordZ] using this
        · exact grownB (bTrans HB.out B3.out) HG4.out (fun q hq => (HO3.out.lt q hq).1)
      case measure => simp [intOf]; omega
    · have hall : (onceL op).take k = onceL op := List.take_of_length_le (by rw [HN.out]; omega)
      have hA := HA.out
      rw [hall] at hA
      have hm' := HM.out
      subst hm'
      have hmul : k * 100 ≤ n * 100 := Nat.mul_le_mul_right _ hk
      have HON2 := Lib.hid (once_any a2 c2 acc wr (Rd.of_own HO.out) (by omega) (fun j hj => by have := HLT.out j hj; have := HML.out; omega))
      have HAA := Lib.hid hA
      clear hall hA
      go_wp2_with fail
      refine HON2.out.mono ?_; rintro e w5 ⟨a5, c5, rfl, ho5, hb5⟩
      have HB5 := Lib.hid (bTrans (bTrans B1.out HB.out) hb5)
      have R5 := Lib.hid (ho5.mono (base' := w.heap.size) (bTrans B1.out HB.out).size)
      clear ho5 hb5
      go_wp2_with fail
      go_ret
      refine ⟨a5, c5, onceL acc, rfl, R5.out, fun j => ?_, nodup_onceL _, fun j hj => HLT.out j ((mem_onceL _ _).1 hj), HB5.out⟩
      rw [mem_onceL, HAA.out]
      exact ⟨fun ⟨p, hp, hr⟩ => ⟨p, (mem_onceL _ _).1 hp, hr⟩, fun ⟨p, hp, hr⟩ => ⟨p, (mem_onceL _ _).2 hp, hr⟩⟩
/-! What is struck of a list. -/
/-- what lay in other blocks than the row's stays while the row is written -/
theorem cell_grown {w W : World} {g b off : Nat} {v : Value} (h : w.cell? ⟨b, off, none⟩ = some v) (hg : w.grownBy W (some g)) (hb : b ≠ g) : W.cell? ⟨b, off, none⟩ = some v :=
  (World.cell?_of_block (hg.block b (heap_lt_of_cell h) (by simpa using hb))).trans h
theorem rd_grown {w W : World} {g : Nat} {a : Option Addr} {n : Nat} {xs : List Value} (h : Rd w a n xs) (hg : w.grownBy W (some g)) (hb : ∀ b off, 0 < n → a = some ⟨b, off, none⟩ → b ≠ g) : Rd W a n xs :=
  ⟨h.1, fun hn => by
    obtain ⟨b, off, e, hlt, hc⟩ := h.2 hn
    exact ⟨b, off, e, Nat.lt_of_lt_of_le hlt hg.size, fun k hk => (World.cell?_of_block (hg.block b hlt (by have := hb b off hn e; simpa using this))).trans (hc k hk)⟩⟩
theorem below_grownBy {w W : World} (h : Below w.heap.size w W) (r : Option Nat) : w.grownBy W r := ⟨h.os, h.tape, h.output, h.size, fun k hk _ => h.block k hk⟩
theorem int_one : OneCell (Value.int .i64) := fun _ => rfl
theorem zeroVInt (w : World) : (zeroValue 3).run Try.prog w = .ok (Value.int .i64 0) w := by kernel_rfl
theorem predo_any (cb : Nat) (a : Option Addr) (n c : Nat) (z : List Int) (x : Int) (W : World) (hc : W.cell? ⟨cb, 0, none⟩ = some (.slice a n c)) (hr : Rd W a n (i64s z)) (hn : n ≤ 1000000) :
    Calls Try.prog 35 #[.int .i64 x, .pointer (some ⟨cb, 0, none⟩)] W fun e w' => e = .returned (.bool (z.contains x)) ∧ W = w' := by
  have HR := Lib.hid hr
  clear hr
  go_enter Try.func35, Try.ntmps35
  go_wp2_with fail
  refine (contains_any a n c z x _ HR.out hn).mono ?_; rintro e w' ⟨rfl, rfl⟩
  go_wp2_with fail
  go_ret
  exact ⟨ret_bool (by simp), rfl⟩
/-- what a list has is struck of a row of one's own -/
theorem delfo_any (a : Option Addr) (n c B : Nat) (z : List Int) (cb : Nat) (a2 : Option Addr) (n2 c2 : Nat) (y : List Int) (w : World) (ho : w.ownsRow B 3 1 (.slice a n c) n (i64s z)) (hn : n ≤ 1000000)
    (hc : w.cell? ⟨cb, 0, none⟩ = some (.slice a2 n2 c2)) (hr : Rd w a2 n2 (i64s y)) (hn2 : n2 ≤ 1000000) (hcb : ∀ g, (Value.slice a n c).ownBlock = some g → cb ≠ g ∧ ∀ b off, 0 < n2 → a2 = some ⟨b, off, none⟩ → b ≠ g) :
    Calls Try.prog 34 #[.slice a n c, .func (.func 35) #[] #[.pointer (some ⟨cb, 0, none⟩)]] w fun e w' => ∃ m, e = .returned (.slice a m c) ∧ m = (z.filter fun x => !y.contains x).length ∧ w'.ownsRow B 3 1 (.slice a m c) m (i64s (z.filter fun x => !y.contains x)) ∧ w.grownBy w' (Value.slice a n c).ownBlock := by
  rcases ho.2 with ⟨h1, h2⟩ | ⟨g, cap, cur, h1, -⟩
  · cases h1
    have hz : z = [] := List.eq_nil_of_length_eq_zero (by have := ho.1; rw [i64s_length] at this; omega)
    subst hz
    have HO := Lib.hid ho
    clear ho hcb hr
    go_enter Try.func34, Try.ntmps34
    go_wp2_with fail
    refine (Try.slices_IndexFunc_empty (α := Int) none 0 _ _).mono ?_; rintro e w' ⟨rfl, rfl⟩
    go_wp2_with fail
    go_ret
    exact ⟨0, rfl, rfl, HO.out, ⟨rfl, rfl, rfl, Nat.le_refl _, fun _ _ _ => rfl⟩⟩
  · cases h1
    obtain ⟨hH, hz, hnc, hcm, hBg, hgl⟩ := own_holds ho
    unfold maxLen at hcm
    obtain ⟨hcb1, hcb2⟩ := hcb g rfl
    subst hz
    have hpred : ∀ (W : World) (x : Int), w.grownBy W (some g) → Calls Try.prog 35 (#[.int .i64 x] ++ #[.pointer (some ⟨cb, 0, none⟩)]) W fun e w' => e = .returned (.bool (y.contains x)) ∧ ∃ q, w' = W.drewN q := fun W x hW =>
      (predo_any cb a2 n2 c2 y x W (cell_grown hc hW hcb1) (rd_grown hr hW hcb2) hn2).mono fun e w' ⟨he, hw⟩ => ⟨he, 0, hw.symm⟩
    have hp : PredAt Try.prog 35 #[.pointer (some ⟨cb, 0, none⟩)] (Value.int .i64) (fun x => y.contains x) w := fun W x hb => hpred W x (below_grownBy hb _)
    have hpo : PredOver Try.prog 35 #[.pointer (some ⟨cb, 0, none⟩)] (Value.int .i64) (fun x => y.contains x) g 0 z.toArray.size w := fun m os dk x _ => hpred _ x (grownBy_sortedI dk)
    have hd := Try.slices_DeleteFunc (Value.int .i64) int_one (fun x => y.contains x) 35 #[.pointer (some ⟨cb, 0, none⟩)] (enters_of Try.func35 (by kernel_rfl) rfl) 0 zeroVInt g 0 c z.toArray w hp hpo hH (by simp; omega) (by simpa using hnc)
    simp only [List.size_toArray] at hd
    refine hd.mono ?_
    rintro e w' ⟨rfl, q, rfl⟩
    have hle : (z.filter fun x => !y.contains x).length ≤ z.length := List.length_filter_le _ _
    obtain ⟨h3, h4⟩ := own_put q (z.filter fun x => !y.contains x) (List.replicate (z.length - (z.filter fun x => !y.contains x).length) 0) ho (by rw [List.length_replicate]; omega)
    exact ⟨_, rfl, rfl, h3, h4⟩
theorem predc_any (cb : Nat) (a : Option Addr) (n c : Nat) (z : List Int) (x : Int) (W : World) (hc : W.cell? ⟨cb, 0, none⟩ = some (.slice a n c)) (hr : Rd W a n (i64s z)) (hn : n ≤ 1000000) :
    Calls Try.prog 42 #[.int .i64 x, .pointer (some ⟨cb, 0, none⟩)] W fun e w' => e = .returned (.bool (z.contains x)) ∧ W = w' := by
  have HR := Lib.hid hr
  clear hr
  go_enter Try.func42, Try.ntmps42
  go_wp2_with fail
  refine (contains_any a n c z x _ HR.out hn).mono ?_; rintro e w' ⟨rfl, rfl⟩
  go_wp2_with fail
  go_ret
  exact ⟨ret_bool (by simp), rfl⟩
/-- what a list has is struck of a row of one's own -/
theorem delfc_any (a : Option Addr) (n c B : Nat) (z : List Int) (cb : Nat) (a2 : Option Addr) (n2 c2 : Nat) (y : List Int) (w : World) (ho : w.ownsRow B 3 1 (.slice a n c) n (i64s z)) (hn : n ≤ 1000000)
    (hc : w.cell? ⟨cb, 0, none⟩ = some (.slice a2 n2 c2)) (hr : Rd w a2 n2 (i64s y)) (hn2 : n2 ≤ 1000000) (hcb : ∀ g, (Value.slice a n c).ownBlock = some g → cb ≠ g ∧ ∀ b off, 0 < n2 → a2 = some ⟨b, off, none⟩ → b ≠ g) :
    Calls Try.prog 34 #[.slice a n c, .func (.func 42) #[] #[.pointer (some ⟨cb, 0, none⟩)]] w fun e w' => ∃ m, e = .returned (.slice a m c) ∧ m = (z.filter fun x => !y.contains x).length ∧ w'.ownsRow B 3 1 (.slice a m c) m (i64s (z.filter fun x => !y.contains x)) ∧ w.grownBy w' (Value.slice a n c).ownBlock := by
  rcases ho.2 with ⟨h1, h2⟩ | ⟨g, cap, cur, h1, -⟩
  · cases h1
    have hz : z = [] := List.eq_nil_of_length_eq_zero (by have := ho.1; rw [i64s_length] at this; omega)
    subst hz
    have HO := Lib.hid ho
    clear ho hcb hr
    go_enter Try.func34, Try.ntmps34
    go_wp2_with fail
    refine (Try.slices_IndexFunc_empty (α := Int) none 0 _ _).mono ?_; rintro e w' ⟨rfl, rfl⟩
    go_wp2_with fail
    go_ret
    exact ⟨0, rfl, rfl, HO.out, ⟨rfl, rfl, rfl, Nat.le_refl _, fun _ _ _ => rfl⟩⟩
  · cases h1
    obtain ⟨hH, hz, hnc, hcm, hBg, hgl⟩ := own_holds ho
    unfold maxLen at hcm
    obtain ⟨hcb1, hcb2⟩ := hcb g rfl
    subst hz
    have hpred : ∀ (W : World) (x : Int), w.grownBy W (some g) → Calls Try.prog 42 (#[.int .i64 x] ++ #[.pointer (some ⟨cb, 0, none⟩)]) W fun e w' => e = .returned (.bool (y.contains x)) ∧ ∃ q, w' = W.drewN q := fun W x hW =>
      (predc_any cb a2 n2 c2 y x W (cell_grown hc hW hcb1) (rd_grown hr hW hcb2) hn2).mono fun e w' ⟨he, hw⟩ => ⟨he, 0, hw.symm⟩
    have hp : PredAt Try.prog 42 #[.pointer (some ⟨cb, 0, none⟩)] (Value.int .i64) (fun x => y.contains x) w := fun W x hb => hpred W x (below_grownBy hb _)
    have hpo : PredOver Try.prog 42 #[.pointer (some ⟨cb, 0, none⟩)] (Value.int .i64) (fun x => y.contains x) g 0 z.toArray.size w := fun m os dk x _ => hpred _ x (grownBy_sortedI dk)
    have hd := Try.slices_DeleteFunc (Value.int .i64) int_one (fun x => y.contains x) 42 #[.pointer (some ⟨cb, 0, none⟩)] (enters_of Try.func42 (by kernel_rfl) rfl) 0 zeroVInt g 0 c z.toArray w hp hpo hH (by simp; omega) (by simpa using hnc)
    simp only [List.size_toArray] at hd
    refine hd.mono ?_
    rintro e w' ⟨rfl, q, rfl⟩
    have hle : (z.filter fun x => !y.contains x).length ≤ z.length := List.length_filter_le _ _
    obtain ⟨h3, h4⟩ := own_put q (z.filter fun x => !y.contains x) (List.replicate (z.length - (z.filter fun x => !y.contains x).length) 0) ho (by rw [List.length_replicate]; omega)
    exact ⟨_, rfl, rfl, h3, h4⟩
end Go.Proofs.Ytfneikphgmjfbaa
