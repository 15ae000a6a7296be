/- append to a new empty row; the document's Open where a name is missing. -/
import Derived.Test.YtfneikphgmjfbaaDlO
import Derived.Deep.AppendSrc
import Derived.Deep.DeepAppendWide
import Derived.Deep.RegionHeld3
namespace Go.Proofs.Ytfneikphgmjfbaa
set_option linter.unusedVariables false
set_option linter.unusedSimpArgs false
open Go.Joins Go.ChangeShapes Go.WideShapes Go.ChangeAt Go.RowKit Go.Deep

theorem own_empty (w : World) (t : TypeId) : (w.alloc (.cells #[] 3)).ownsRow w.heap.size 3 1 (.slice (some ⟨w.heap.size, 0, none⟩) 0 0) 0 (i64s []) := World.ownsRow_lit (base := w.heap.size) (e := 3) (size := 1) w #[] 0 (Nat.le_refl _) (by decide) rfl
theorem run_app0 (w : World) (ty : TypeId) (B g : Nat) (hown : w.ownsRow B 3 1 (.slice (some ⟨g, 0, none⟩) 0 0) 0 (i64s [])) (am : Option Addr) (m c : Nat) (ys : List Int) (hr : Rd w am m (i64s ys)) (hm : m ≤ 100000) (hB : B ≤ w.heap.size) :
    ∃ a' c' w', (Builtin.append_ #[26, 26] ty #[.slice (some ⟨g, 0, none⟩) 0 0, .slice am m c]).run Try.prog w = .ok (.slice a' m c') w' ∧ w'.ownsRow B 3 1 (.slice a' m c') m (i64s ys) ∧ Below w.heap.size w w' ∧ ((Value.slice a' m c').ownBlock = some g ∨ (Value.slice a' m c').ownBlock = some w.heap.size) := by
  obtain ⟨i0, hi, hz0, hz1, hz2⟩ := info_parts infoInt
  have hlen : (i64s ys).length = m := hr.1
  rcases Nat.eq_zero_or_pos m with h0 | hpos
  · subst h0
    have hy : ys = [] := List.eq_nil_of_length_eq_zero (by have := hr.1; simpa [i64s] using this)
    subst hy
    have hs : Src Try.prog i0.size 26 (.slice am 0 c) 0 [] w := by
      cases am with
      | none => exact Src.ofNil w Try.underlying26 c
      | some ad => exact Src.ofSlice w Try.underlying26 ad 0 c [] (by simp) (by simp) (by simp)
    have h := run_append_room_src w 26 26 ty 3 i0 Try.underlying26 hi g 0 0 0 (.slice am 0 c) 0 [] hs (by omega) (by simp) (by simp)
    exact ⟨some ⟨g, 0, none⟩, 0, w, h, hown, Below.refl _ _, Or.inl rfl⟩
  · obtain ⟨b, off, rfl, hlt, hc⟩ := hr.2 hpos
    have hs : Src Try.prog i0.size 26 (.slice (some ⟨b, off, none⟩) m c) m (i64s ys) w := by
      refine Src.ofSlice w Try.underlying26 ⟨b, off, none⟩ m c (i64s ys) (by rw [hz1, hlen, Nat.mul_one]) (fun j u hj => ?_) (fun u hu => ?_)
      · have hjm : j < m := by rw [← hlen]; exact (List.getElem?_eq_some_iff.1 hj).1
        have := hc j hjm
        rw [hj] at this
        rw [← this, Addr.add_lit]
      · simp only [i64s, List.mem_map] at hu
        obtain ⟨x, -, rfl⟩ := hu
        rfl
    have hold : (Builtin.firstCells i0.size 0 (.slice (some ⟨g, 0, none⟩) 0 0)).run Try.prog w.drew = .ok ([] : List Value).toArray w.drew :=
      run_firstCells_some w.drew i0.size 0 ⟨g, 0, none⟩ 0 0 [] (by simp) (by simp)
    have h := run_append_grow_src w 26 26 ty 3 i0 (.int .i64 0) Try.underlying26 hi hz0 (some ⟨g, 0, none⟩) 0 0 [] hold (.slice (some ⟨b, off, none⟩) m c) m (i64s ys) hs (by omega) (by omega)
      (growslice_fits_wide (by omega) (by rw [hz2]; omega))
    rw [Nat.zero_add, List.nil_append] at h
    have hge := grownCap_ge w m 0 3
    refine ⟨_, _, _, h, ⟨by rw [hlen, Nat.mul_one], .inr ⟨w.heap.size, _, _, rfl, hB, heap_alloc_new w.drew _, hge, grownCap_le_maxLen w m 0 3 (by unfold maxLen; omega), ?_, ?_⟩⟩, (Below.drew (Below.refl _ _)).alloc (Nat.le_refl _) _, Or.inr rfl⟩
    · rw [Array.size_append, size_zeroCells, List.size_toArray, hlen]
      simp [Value.cells]
      omega
    · rw [Array.toList_append, Nat.mul_one, List.take_append_of_le_length (by simp [hlen]), List.take_of_length_le (by simp [hlen])]
theorem wp_app0 (w : World) {o : Oper} {a : Act} {K : Act → World → Prop} {Q : Exit → Act → World → Prop} (s x : Operand) (ho : o.op = .call { callee := .builtin .append, args := #[s, x], argTypes := #[26, 26] })
    (B g : Nat) (hs : a.eval s = .slice (some ⟨g, 0, none⟩) 0 0) (hown : w.ownsRow B 3 1 (.slice (some ⟨g, 0, none⟩) 0 0) 0 (i64s [])) (am : Option Addr) (m c : Nat) (ys : List Int) (hx : a.eval x = .slice am m c) (hr : Rd w am m (i64s ys)) (hm : m ≤ 100000) (hB : B ≤ w.heap.size)
    (h : ∀ a' c' w', w'.ownsRow B 3 1 (.slice a' m c') m (i64s ys) → Below w.heap.size w w' → ((Value.slice a' m c').ownBlock = some g ∨ (Value.slice a' m c').ownBlock = some w.heap.size) → K (a.put o.dst (.slice a' m c')) w') : o.wp Try.prog a w K Q := by
  obtain ⟨a', c', w', hr, h2, h3, h4⟩ := run_app0 w o.type B g hown am m c ys hr hm hB
  unfold Oper.wp execOp
  simp only [ho, resolve, invoke, builtin, Sem.run_bind, Sem.run_pure, Result.andThen_ok, List.map_toArray, List.map_cons, List.map_nil, hs, hx, hr]
  exact h a' c' w' h2 h3 h4
theorem wpList_app0 (w : World) {ops : Array Oper} {rest : List Oper} {o : Oper} {a : Act} {Q : Exit → Act → World → Prop} (hgd : o.guard = none) (s x : Operand) (ho : o.op = .call { callee := .builtin .append, args := #[s, x], argTypes := #[26, 26] })
    (B g : Nat) (hs : a.eval s = .slice (some ⟨g, 0, none⟩) 0 0) (hown : w.ownsRow B 3 1 (.slice (some ⟨g, 0, none⟩) 0 0) 0 (i64s [])) (am : Option Addr) (m c : Nat) (ys : List Int) (hx : a.eval x = .slice am m c) (hr : Rd w am m (i64s ys)) (hm : m ≤ 100000) (hB : B ≤ w.heap.size)
    (h : ∀ a' c' w', w'.ownsRow B 3 1 (.slice a' m c') m (i64s ys) → Below w.heap.size w w' → ((Value.slice a' m c').ownBlock = some g ∨ (Value.slice a' m c').ownBlock = some w.heap.size) → wpList Try.prog ops Q rest (a.put o.dst (.slice a' m c')) w') : wpList Try.prog ops Q (o :: rest) a w :=
  wpList_plain hgd fun _ hK => wp_app0 w s x ho B g hs hown am m c ys hx hr hm hB fun a' c' w' h2 h3 h4 => hK _ _ (h a' c' w' h2 h3 h4)
theorem step_app0 (w : World) {ops : Array Oper} {o : Oper} {a : Act} {K : Act → World → Prop} {Q : Exit → Act → World → Prop} {E : Prop} (hgd : o.guard = none) (s x : Operand) (ho : o.op = .call { callee := .builtin .append, args := #[s, x], argTypes := #[26, 26] })
    (B g : Nat) (hs : a.eval s = .slice (some ⟨g, 0, none⟩) 0 0) (hown : w.ownsRow B 3 1 (.slice (some ⟨g, 0, none⟩) 0 0) 0 (i64s [])) (am : Option Addr) (m c : Nat) (ys : List Int) (hx : a.eval x = .slice am m c) (hr : Rd w am m (i64s ys)) (hm : m ≤ 100000) (hB : B ≤ w.heap.size)
    (h : ∀ a' c' w', w'.ownsRow B 3 1 (.slice a' m c') m (i64s ys) → Below w.heap.size w w' → ((Value.slice a' m c').ownBlock = some g ∨ (Value.slice a' m c').ownBlock = some w.heap.size) → K (a.put o.dst (.slice a' m c')) w') :
    if Region.wanted o (yielded ops a.tmps) = true then Oper.wp Try.prog o a w K Q else E := by
  have hw : Region.wanted o (yielded ops a.tmps) = true := by simp [Region.wanted, hgd]
  rw [if_pos hw]
  exact wp_app0 w s x ho B g hs hown am m c ys hx hr hm hB h
set_option maxRecDepth 100000 in
set_option maxHeartbeats 4000000 in
theorem ropen_no (a : Option Addr) (l : List Obj) (c : Nat) (a1 a2 : Option Addr) (c1 c2 : Nat) (s : St) (name nn : List UInt8) (w : World) (hl : RdO w a l) (hm : l.length ≤ 100) (hnm : Named l) (hs : RdSt w a1 a2 s) (hcr : closR l name = .inr nn) :
    Calls Try.prog 12 #[.slice a l.length c, .agg #[.slice a1 s.ld.length c1, .slice a2 s.op.length c2], .string ⟨name.toArray⟩] w (StepPost w (Ope l s name)) := by
  have HL := Lib.hid hl
  have HCL := Lib.hid (fun W (hW : RdO W a l) => rclosure_any a l c name W hW (by omega) hnm)
  have HR := Lib.hid (show Ope l s name s [] 130 from Or.inl ⟨⟨nn, hcr⟩, rfl, rfl, rfl⟩)
  have HCR := Lib.hid hcr
  have HRD := Lib.hid hs
  clear hl hnm hs hcr
  obtain ⟨n1, hn1⟩ : ∃ n, s.ld.length = n := ⟨_, rfl⟩
  obtain ⟨n2, hn2⟩ : ∃ n, s.op.length = n := ⟨_, rfl⟩
  obtain ⟨m, hlm⟩ : ∃ m, l.length = m := ⟨_, rfl⟩
  unfold RdSt at HRD
  have HP := Lib.hid (fun (W : World) d1 d2 r1 r2 hb => step_of (w := w) (w' := W) (R := Ope l s name) (a1 := a1) (a2 := a2) (a3 := none) (c1 := d1) (c2 := d2) (c3 := 0) s [] HR.out hn1 hn2 rfl r1 r2 (Rd.nil _ _) hb)
  rw [hn1, hn2] at HRD
  rw [hlm] at HCL
  rw [hn1, hn2, hlm]
  clear hn1 hn2 hlm
  go_enter Try.func12, Try.ntmps12
  go_wp2_with fail
  have H0 := Lib.hid (bAlloc (bAlloc (Below.refl w.heap.size w) (.cells #[.slice a1 n1 c1, .slice a2 n2 c2] 32)) (.cells #[.slice none 0 0, .slice none 0 0] 32))
  refine (HCL.out _ (HL.out.below H0.out)).mono ?_; rintro e w1 ⟨hb1, hp⟩
  rw [HCR.out] at hp
  subst hp
  obtain ⟨⟨x1, x2⟩, ⟨x3, x4⟩, -, x6, x7, hbw⟩ := two_new (w := w) (W := w1) (x1 := .slice a1 n1 c1) (x2 := .slice a2 n2 c2) (y1 := .slice none 0 0) (y2 := .slice none 0 0) (t := 32) (t' := 32) hb1
  have x8 := x6 0
  have x9 := x6 1
  have bx := Lib.hid ((BoxS.new (w.alloc (.cells #[.slice a1 n1 c1, .slice a2 n2 c2] 32)) (.slice none 0 0) (.slice none 0 0) 32).below hb1)
  rw [size_alloc] at bx
  have BW := Lib.hid hbw
  clear hb1 x6 hbw H0
  go_wp2_with fail
  have kc := set2 (.slice a1 n1 c1) (.slice a2 n2 c2) x3 x4
  refine bodyPost_ret (v := .tuple #[.agg #[.slice a1 n1 c1, .slice a2 n2 c2], .slice none 0 0, .int .i64 130]) ?_ rfl (HP.out _ _ _ (rd_box2 bx.out (HRD.out.1.below BW.out)) (rd_box2 bx.out (HRD.out.2.below BW.out)) ((BW.out.setCell (by simp) _).setCell (by simp) _))
  simp [results, Try.results12, go_sem, kc.1, kc.2]
end Go.Proofs.Ytfneikphgmjfbaa
