/- CuK Inv CuL -/
import Derived.Test.YtegoddghfjfibaaGreatDoorZ27
import Derived.Deep.RegionHeld3
import Derived.Test.YtegoddghfjfibaaGreatDoorZ25
namespace Go.Proofs.YtegoddghfjfibaaGreatDoor
set_option linter.unusedVariables false
set_option linter.unusedSimpArgs false
open Go.Joins Go.ChangeShapes Go.WideShapes Go.ChangeAt Go.RowKit Go.Deep

abbrev zer5 : Array Value := #[.int .i64 0, .int .i64 0, .int .i64 0, .int .i64 0, .int .i64 0]
theorem box5 {W : World} {B : Nat} {v0 v1 v2 v3 v4 : Value} (h : BoxN W B #[v0, v1, v2, v3, v4]) :
    (W.cell? ⟨B, 0, none⟩ = some v0 ∧ W.cell? ⟨B, 1, none⟩ = some v1 ∧ W.cell? ⟨B, 2, none⟩ = some v2 ∧ W.cell? ⟨B, 3, none⟩ = some v3 ∧ W.cell? ⟨B, 4, none⟩ = some v4) ∧
      (W.frozen? ⟨B, 0, none⟩ = false ∧ W.frozen? ⟨B, 1, none⟩ = false ∧ W.frozen? ⟨B, 2, none⟩ = false ∧ W.frozen? ⟨B, 3, none⟩ = false ∧ W.frozen? ⟨B, 4, none⟩ = false) :=
  ⟨⟨h.cell 0, h.cell 1, h.cell 2, h.cell 3, h.cell 4⟩, ⟨h.frozen 0, h.frozen 1, h.frozen 2, h.frozen 3, h.frozen 4⟩⟩
theorem below_set5 {B b : Nat} {w W : World} {v0 v1 v2 v3 v4 : Value} (h : Below B w W) (hb : B ≤ b) : Below B w (((((W.setCell ⟨b, 0, none⟩ v0).setCell ⟨b, 1, none⟩ v1).setCell ⟨b, 2, none⟩ v2).setCell ⟨b, 3, none⟩ v3).setCell ⟨b, 4, none⟩ v4) :=
  Below.setCell (p := ⟨b, 4, none⟩) (Below.setCell (p := ⟨b, 3, none⟩) (Below.setCell (p := ⟨b, 2, none⟩) (Below.setCell (p := ⟨b, 1, none⟩) (Below.setCell (p := ⟨b, 0, none⟩) h hb _) hb _) hb _) hb _) hb _
/-- the number that stands at a place, and what it says -/
theorem decN_P (x : Nat) : Is.DecP x (decN x) := by
  unfold decN
  rcases h : ((List.range 83).find? fun (r : Nat) => decide (1 ≤ r) && Is.hitB (Is.bareN (r : Int)) x) with _ | r
  · refine Or.inl ⟨rfl, fun k hk => ?_⟩
    rw [List.find?_eq_none] at h
    have := h (k + 1) (List.mem_range.2 (by omega))
    rw [decide_eq_true (by omega), Bool.true_and, show (((k + 1 : Nat)) : Int) = (k : Int) + 1 by omega] at this
    simpa using this
  · have h1 := List.find?_some h
    have h2 := List.mem_range.1 (List.mem_of_find?_eq_some h)
    rw [Bool.and_eq_true, decide_eq_true_eq] at h1
    exact Or.inr ⟨h1.1, by show r ≤ 82; omega, h1.2⟩
set_option maxHeartbeats 4000000 in
theorem fetch_bad (W : World) (N A M : Nat) (F : Nat → Prop) (b t a p y : Int) (g : Bool) (rs : List Cp) (m : Mm) (h : McS W N A M F ⟨⟨b, t, a, p, y, g⟩, rs, m⟩) (nt : Is.NT W) (an : Nat) (ha : a = (an : Int)) (x : Int) (hx : checkP ⟨b, t, (an : Int), p, y, g⟩ 4 4 = x) (hz : x ≠ 0) :
    Calls Tryz.prog 40 #[.pointer (some ⟨A, 0, none⟩)] W fun e w' => e = .returned (.tuple #[.agg zer5, .int .i64 x]) ∧ Below W.heap.size W w' := by
  subst ha
  have hc := h.fpc
  have hK := ccheck_any ⟨b, t, (an : Int), p, y, g⟩ hc 4 4 (by decide)
  rw [hx] at hK
  unfold capC at hK
  simp only [] at hK
  have hb1 := bAlloc (Below.refl W.heap.size W) (.cells zer5 61)
  obtain ⟨W0, hW0⟩ : ∃ W0, W.alloc (.cells zer5 61) = W0 := ⟨_, rfl⟩
  have hz0 : BoxN W0 W.heap.size zer5 := by rw [← hW0]; exact BoxN.new _ _ _
  rw [hW0] at hb1
  have HK := Lib.hid hK
  have HW0 := Lib.hid hW0
  have HB := Lib.hid hb1
  have HZ := Lib.hid hz0
  have HM := Lib.hid h
  obtain ⟨p0, p1, p2, p3, p4, p5⟩ := (h.below hb1).mc.pc6
  have q1 : (x == 0) = false := by simpa using hz
  have q2 : (x != 0) = true := by simpa using hz
  clear hz
  clear hW0 hK hb1 hz0 h hx hc nt
  go_enter Tryz.func40, Tryz.ntmps40
  go_upto_region 1 with fail
  (try rw [HW0.out])
  clear HW0
  go_wp2_with fail
  refine (HK.out W0).mono ?_; rintro e w1 ⟨rfl, hb⟩
  have HB1 := Lib.hid (HB.out.trans (hb.mono HB.out.size))
  have HZ1 := Lib.hid (boxN_below HZ.out hb)
  obtain ⟨⟨i0, i1, i2, i3, i4⟩, j0, j1, j2, j3, j4⟩ := box5 HZ1.out
  clear hb HK p0 p1 p2 p3 p4 p5
  go_wp2_with fail
  exact bodyPost_ret (v := .tuple #[.agg zer5, .int .i64 x]) (by simp [results, Tryz.results40, go_sem, *]) rfl ⟨rfl, below_set5 HB1.out (Nat.le_refl _)⟩
set_option maxHeartbeats 4000000 in
theorem fetch_page (W : World) (N A M : Nat) (F : Nat → Prop) (b t a p y : Int) (g : Bool) (rs : List Cp) (m : Mm) (h : McS W N A M F ⟨⟨b, t, a, p, y, g⟩, rs, m⟩) (nt : Is.NT W) (an : Nat) (ha : a = (an : Int)) (hx : checkP ⟨b, t, (an : Int), p, y, g⟩ 4 4 = 0) (v er : Int) (hl : loadF m an 4 = (v, er)) (hz : er ≠ 0) :
    Calls Tryz.prog 40 #[.pointer (some ⟨A, 0, none⟩)] W fun e w' => e = .returned (.tuple #[.agg zer5, .int .i64 er]) ∧ Below W.heap.size W w' := by
  subst ha
  have hc := h.fpc
  have hK := ccheck_any ⟨b, t, (an : Int), p, y, g⟩ hc 4 4 (by decide)
  rw [hx] at hK
  unfold capC at hK
  simp only [] at hK
  have hb1 := bAlloc (Below.refl W.heap.size W) (.cells zer5 61)
  obtain ⟨W0, hW0⟩ : ∃ W0, W.alloc (.cells zer5 61) = W0 := ⟨_, rfl⟩
  have hz0 : BoxN W0 W.heap.size zer5 := by rw [← hW0]; exact BoxN.new _ _ _
  rw [hW0] at hb1
  have HK := Lib.hid hK
  have HW0 := Lib.hid hW0
  have HB := Lib.hid hb1
  have HZ := Lib.hid hz0
  have HM := Lib.hid h
  obtain ⟨p0, p1, p2, p3, p4, p5⟩ := (h.below hb1).mc.pc6
  have hal : an < 18446744073709551616 := by have := hc.a1; simp only [] at this; omega
  have HLC := Lib.hid (fun (w : World) (hb : Below W.heap.size W w) => sload_any w N M F m (h.own.below hb) an 4 hal)
  rw [hl] at HLC
  simp only [] at HLC
  clear hal hl
  have q1 : (er == 0) = false := by simpa using hz
  have q2 : (er != 0) = true := by simpa using hz
  clear hz
  clear hW0 hK hb1 hz0 h hx hc nt
  go_enter Tryz.func40, Tryz.ntmps40
  go_upto_region 1 with fail
  (try rw [HW0.out])
  clear HW0
  go_wp2_with fail
  refine (HK.out W0).mono ?_; rintro e w1 ⟨rfl, hb⟩
  have HB1 := Lib.hid (HB.out.trans (hb.mono HB.out.size))
  have HZ1 := Lib.hid (boxN_below HZ.out hb)
  obtain ⟨⟨i0, i1, i2, i3, i4⟩, j0, j1, j2, j3, j4⟩ := box5 HZ1.out
  clear hb HK p0 p1 p2 p3 p4 p5
  have HSX := Lib.hid (fun (w : World) (hb : Below w1.heap.size w1 w) => (show w.cell? ⟨A, 198, none⟩ = some (.pointer (some ⟨M, 0, none⟩)) ∧ w.cell? ⟨A, 2, none⟩ = some (.int .u64 (an : Int)) from ⟨((HM.out.below HB1.out).below hb).mc.mem, ((HM.out.below HB1.out).below hb).mc.pc6.2.2.1⟩))
  have HN0 := Lib.hid (Below.refl w1.heap.size w1)
  clear i0 i1 i2 i3 i4 j0 j1 j2 j3 j4
  go_upto_region 4 with fail
  go_region_held3 (fun W1 => W1.cell? ⟨A, 198, none⟩ = some (.pointer (some ⟨M, 0, none⟩)) ∧ W1.cell? ⟨A, 2, none⟩ = some (.int .u64 (an : Int)))
    (first | exact HSX.out _ (by first | ((repeat (first | with_reducible exact HN0.out | with_reducible refine Below.drew ?_)); done) | fail))
    (first
      | (go_at_call 86; refine (HLC.out _ (by first | exact HB1.out | exact Below.drew HB1.out)).mono ?_; rintro e W5 ⟨rfl, rfl⟩))
  have HBd : Hid (Below W.heap.size W w1.drew) := Lib.hid (Below.drew HB1.out)
  have hz1 : BoxN w1.drew W.heap.size zer5 := HZ1.out
  have HZd := Lib.hid hz1
  obtain ⟨⟨i0, i1, i2, i3, i4⟩, j0, j1, j2, j3, j4⟩ := box5 HZ1.out
  clear hz1
  go_wp2_with fail
  exact bodyPost_ret (v := .tuple #[.agg zer5, .int .i64 er]) (by simp [results, Tryz.results40, go_sem, *]) rfl ⟨rfl, below_set5 HBd.out (Nat.le_refl _)⟩
set_option maxHeartbeats 4000000 in
theorem fetch_go (W : World) (N A M : Nat) (F : Nat → Prop) (b t a p y : Int) (g : Bool) (rs : List Cp) (m : Mm) (h : McS W N A M F ⟨⟨b, t, a, p, y, g⟩, rs, m⟩) (nt : Is.NT W) (an : Nat) (ha : a = (an : Int)) (hx : checkP ⟨b, t, (an : Int), p, y, g⟩ 4 4 = 0) (v : Int) (hl : loadF m an 4 = (v, 0)) (x : Nat) (hv : IntKind.u32.wrap v = (x : Int)) (hx2 : x < 4294967296) :
    Calls Tryz.prog 40 #[.pointer (some ⟨A, 0, none⟩)] W fun e w' => e = .returned (.tuple #[Is.decV x (decN x), .int .i64 (Is.decE (decN x))]) ∧ Below W.heap.size W w' := by
  subst ha
  have hc := h.fpc
  have hK := ccheck_any ⟨b, t, (an : Int), p, y, g⟩ hc 4 4 (by decide)
  rw [hx] at hK
  unfold capC at hK
  simp only [] at hK
  have hb1 := bAlloc (Below.refl W.heap.size W) (.cells zer5 61)
  obtain ⟨W0, hW0⟩ : ∃ W0, W.alloc (.cells zer5 61) = W0 := ⟨_, rfl⟩
  have hz0 : BoxN W0 W.heap.size zer5 := by rw [← hW0]; exact BoxN.new _ _ _
  rw [hW0] at hb1
  have HK := Lib.hid hK
  have HW0 := Lib.hid hW0
  have HB := Lib.hid hb1
  have HZ := Lib.hid hz0
  have HM := Lib.hid h
  obtain ⟨p0, p1, p2, p3, p4, p5⟩ := (h.below hb1).mc.pc6
  have hal : an < 18446744073709551616 := by have := hc.a1; simp only [] at this; omega
  have HLC := Lib.hid (fun (w : World) (hb : Below W.heap.size W w) => sload_any w N M F m (h.own.below hb) an 4 hal)
  rw [hl] at HLC
  simp only [] at HLC
  clear hal hl
  have HDC := Lib.hid (fun w (hb : Below W.heap.size W w) => Is.decode_any x (decN x) hx2 (decN_P x) w (nt.on hb))
  obtain ⟨o0, o1, o2, o3, o4, hdv⟩ : ∃ o0 o1 o2 o3 o4 : Int, Is.decV x (decN x) = .agg #[.int .i64 o0, .int .i64 o1, .int .i64 o2, .int .i64 o3, .int .i64 o4] := by
    unfold Is.decV Is.instV
    split <;> exact ⟨_, _, _, _, _, rfl⟩
  rw [hdv] at HDC ⊢
  obtain ⟨er, her⟩ : ∃ er, Is.decE (decN x) = er := ⟨_, rfl⟩
  rw [her] at HDC ⊢
  clear hdv her hx2
  clear hW0 hK hb1 hz0 h hx hc nt
  go_enter Tryz.func40, Tryz.ntmps40
  go_upto_region 1 with fail
  (try rw [HW0.out])
  clear HW0
  go_wp2_with fail
  refine (HK.out W0).mono ?_; rintro e w1 ⟨rfl, hb⟩
  have HB1 := Lib.hid (HB.out.trans (hb.mono HB.out.size))
  have HZ1 := Lib.hid (boxN_below HZ.out hb)
  obtain ⟨⟨i0, i1, i2, i3, i4⟩, j0, j1, j2, j3, j4⟩ := box5 HZ1.out
  clear hb HK p0 p1 p2 p3 p4 p5
  have HSX := Lib.hid (fun (w : World) (hb : Below w1.heap.size w1 w) => (show w.cell? ⟨A, 198, none⟩ = some (.pointer (some ⟨M, 0, none⟩)) ∧ w.cell? ⟨A, 2, none⟩ = some (.int .u64 (an : Int)) from ⟨((HM.out.below HB1.out).below hb).mc.mem, ((HM.out.below HB1.out).below hb).mc.pc6.2.2.1⟩))
  have HN0 := Lib.hid (Below.refl w1.heap.size w1)
  clear i0 i1 i2 i3 i4 j0 j1 j2 j3 j4
  go_upto_region 4 with fail
  go_region_held3 (fun W1 => W1.cell? ⟨A, 198, none⟩ = some (.pointer (some ⟨M, 0, none⟩)) ∧ W1.cell? ⟨A, 2, none⟩ = some (.int .u64 (an : Int)))
    (first | exact HSX.out _ (by first | ((repeat (first | with_reducible exact HN0.out | with_reducible refine Below.drew ?_)); done) | fail))
    (first
      | (go_at_call 86; refine (HLC.out _ (by first | exact HB1.out | exact Below.drew HB1.out)).mono ?_; rintro e W5 ⟨rfl, rfl⟩))
  have HBd : Hid (Below W.heap.size W w1.drew) := Lib.hid (Below.drew HB1.out)
  have hz1 : BoxN w1.drew W.heap.size zer5 := HZ1.out
  have HZd := Lib.hid hz1
  obtain ⟨⟨i0, i1, i2, i3, i4⟩, j0, j1, j2, j3, j4⟩ := box5 HZ1.out
  clear hz1
  go_wp2_with fail
  refine (HDC.out _ HBd.out).mono ?_; rintro e w5 ⟨rfl, hb5⟩
  have HB5 := Lib.hid (HBd.out.trans (hb5.mono HBd.out.size))
  clear i0 i1 i2 i3 i4 j0 j1 j2 j3 j4
  obtain ⟨⟨i0, i1, i2, i3, i4⟩, j0, j1, j2, j3, j4⟩ := box5 (boxN_below HZd.out hb5)
  clear hb5
  go_wp2_with fail
  exact bodyPost_ret (v := .tuple #[.agg #[.int .i64 o0, .int .i64 o1, .int .i64 o2, .int .i64 o3, .int .i64 o4], .int .i64 er]) (by simp [results, Tryz.results40, go_sem, *]) rfl ⟨rfl, below_set5 HB5.out (Nat.le_refl _)⟩
end Go.Proofs.YtegoddghfjfibaaGreatDoor

namespace Go.Proofs.YtegoddghfjfibaaGreatDoor
set_option linter.unusedVariables false
set_option linter.unusedSimpArgs false
open Go
section
variable {P : Program} {ops : Array Oper} {Q : Exit → Act → World → Prop} {md : Region.Mode}
/-- what is to be shown of each operation, one behind the other -/
def Steps (P : Program) (md : Region.Mode) (ops : Array Oper) (Q : Exit → Act → World → Prop) (T : (Nat → Bool) → Act → World → Prop) : Nat → List Oper → Prop
  | _, [] => True
  | i, o :: r => (∀ (d : Nat → Bool) (a : Act) (w : World), d i = false → (∀ e ∈ o.after, Region.binds md e = true → d e.on = true) → T d a w → ∀ K' : Act → World → Prop, Shut (∀ a w, T (fun k => d k || k == i) a w → K' a w) → if Region.wanted o (yielded ops a.tmps) = true then Oper.wp P o a w K' Q else K' (a.put o.dst undef) w) ∧ Steps P md ops Q T (i + 1) r
theorem Steps.get {T : (Nat → Bool) → Act → World → Prop} : ∀ (l : List Oper) (n : Nat), Steps P md ops Q T n l → ∀ i o, l[i]? = some o → ∀ (d : Nat → Bool) (a : Act) (w : World), d (n + i) = false → (∀ e ∈ o.after, Region.binds md e = true → d e.on = true) → T d a w → ∀ K' : Act → World → Prop, Shut (∀ a w, T (fun k => d k || k == n + i) a w → K' a w) → if Region.wanted o (yielded ops a.tmps) = true then Oper.wp P o a w K' Q else K' (a.put o.dst undef) w
  | [], n, h, i, o, ho => by simp at ho
  | x :: r, n, h, 0, o, ho => by
    simp only [List.getElem?_cons_zero, Option.some.injEq] at ho
    subst ho
    exact h.1
  | x :: r, n, h, i + 1, o, ho => by
    rw [List.getElem?_cons_succ] at ho
    have := Steps.get r (n + 1) h.2 i o ho
    rwa [show n + 1 + i = n + (i + 1) by omega] at this
theorem count_set {l : List Bool} {i : Nat} (h : l[i]? = some false) : (l.set i true).count false + 1 = l.count false := by
  induction l generalizing i with
  | nil => simp at h
  | cons x r ih =>
    cases i with
    | zero => simp only [List.getElem?_cons_zero, Option.some.injEq] at h; subst h; simp
    | succ i =>
      rw [List.getElem?_cons_succ] at h
      have := ih h
      rw [List.set_cons_succ, List.count_cons, List.count_cons]
      omega
theorem wpAny_inv (T : (Nat → Bool) → Act → World → Prop)
    (step : Steps P md ops Q T 0 ops.toList)
    (last : ∀ d a w, (∀ i o, ops[i]? = some o → (∀ e ∈ o.after, Region.binds md e = true → d e.on = true) → d i = true) → T d a w → Q .normal a w) :
    ∀ (fuel : Nat) (listed : Array Bool) (a : Act) (w : World), listed.size = ops.size → listed.toList.count false ≤ fuel → T (fun k => listed.getD k false) a w → wpAny P md ops Q fuel listed a w := by
  have lst : ∀ (listed : Array Bool) (a : Act) (w : World), listed.size = ops.size → Region.ready md ops listed = [] → T (fun k => listed.getD k false) a w → Q .normal a w := fun listed a w hs hr hT => by
    refine last _ a w (fun i o ho hall => ?_) hT
    have hlt : i < ops.size := (Array.getElem?_eq_some_iff.1 ho).1
    have hn : i ∉ Region.ready md ops listed := by rw [hr]; simp
    rw [mem_ready] at hn
    have h1 : ¬ listed.getD i true = false := fun h0 => hn ⟨h0, o, ho, hall⟩
    have hl : i < listed.size := by omega
    simp only [Array.getD_eq_getD_getElem?, Array.getElem?_eq_getElem hl, Option.getD_some] at h1 ⊢
    simpa using h1
  intro fuel
  induction fuel with
  | zero =>
    intro listed a w hs hc hT
    have hr : Region.ready md ops listed = [] := by
      cases hq : Region.ready md ops listed with
      | nil => rfl
      | cons i r =>
        have hi : i ∈ Region.ready md ops listed := by rw [hq]; simp
        obtain ⟨h0, o, ho, -⟩ := mem_ready.1 hi
        have hlt : i < listed.size := by rw [hs]; exact (Array.getElem?_eq_some_iff.1 ho).1
        simp only [Array.getD_eq_getD_getElem?, Array.getElem?_eq_getElem hlt, Option.getD_some] at h0
        have h2 : false ∈ listed.toList := by rw [← h0]; exact Array.getElem_mem_toList hlt
        have := List.count_pos_iff.2 h2
        omega
    exact ⟨hr, lst listed a w hs hr hT⟩
  | succ fuel ih =>
    intro listed a w hs hc hT
    refine ⟨fun hr => lst listed a w hs hr hT, fun i hi => ?_⟩
    obtain ⟨h0, o, ho, hall⟩ := mem_ready.1 hi
    have hlt : i < listed.size := by rw [hs]; exact (Array.getElem?_eq_some_iff.1 ho).1
    have h0' : listed[i] = false := by simpa only [Array.getD_eq_getD_getElem?, Array.getElem?_eq_getElem hlt, Option.getD_some] using h0
    have hd : listed.getD i false = false := by simp only [Array.getD_eq_getD_getElem?, Array.getElem?_eq_getElem hlt, Option.getD_some]; exact h0'
    have hg := Steps.get ops.toList 0 step i o (by simpa using ho) (fun k => listed.getD k false) a w (by rw [Nat.zero_add]; exact hd) hall hT
    refine wpOp_step ho (fun K' hK => hg K' (fun a w hT' => hK a w ?_))
    refine ih _ a w (by simpa using hs) ?_ ?_
    · have := count_set (l := listed.toList) (i := i) (by rw [Array.getElem?_toList, Array.getElem?_eq_getElem hlt, h0'])
      rw [Array.toList_setIfInBounds]
      omega
    · have e : (fun k => (listed.setIfInBounds i true).getD k false) = (fun k => listed.getD k false || k == 0 + i) := by
        funext k
        rw [Nat.zero_add]
        by_cases hk : k = i
        · subst hk; simp [hlt]
        · rw [getD_set_ne false (Ne.symm hk)]; simp [hk]
      rw [e]; exact hT'
theorem wp_region_inv {id : Nat} {a : Act} {w : World} (hm : P.follows .mixedOrders = true) (T : (Nat → Bool) → Act → World → Prop)
    (first : T (fun _ => false) a w.drew) (step : Steps P .any ops Q T 0 ops.toList)
    (last : ∀ d a w, (∀ i o, ops[i]? = some o → (∀ e ∈ o.after, Region.binds .any e = true → d e.on = true) → d i = true) → T d a w → Q .normal a w) : (Code.region id ops true).wp P Q a w := by
  refine wp_region_any hm (wpAny_inv T step last ops.size _ a w.drew (by simp) ?_ ?_)
  · simp
  · have e : (fun k => (Array.replicate ops.size false).getD k false) = (fun _ => false) := by
      funext k
      by_cases h : k < ops.size <;> simp [Array.getD_eq_getD_getElem?, h]
    rw [e]; exact first
theorem Steps.cons {T : (Nat → Bool) → Act → World → Prop} {i : Nat} {o : Oper} {r : List Oper}
    (h : ∀ (d : Nat → Bool) (a : Act) (w : World), d i = false → (∀ e ∈ o.after, Region.binds md e = true → d e.on = true) → T d a w → ∀ K' : Act → World → Prop, Shut (∀ a w, T (fun k => d k || k == i) a w → K' a w) → if Region.wanted o (yielded ops a.tmps) = true then Oper.wp P o a w K' Q else K' (a.put o.dst undef) w)
    (hr : Steps P md ops Q T (i + 1) r) : Steps P md ops Q T i (o :: r) := ⟨h, hr⟩
theorem Steps.nil {T : (Nat → Bool) → Act → World → Prop} {i : Nat} : Steps P md ops Q T i [] := trivial
/-- each operation waits for earlier ones alone -/
def chkL (md : Region.Mode) : Nat → List Oper → Bool
  | _, [] => true
  | i, o :: r => (o.after.toList.all fun e => !Region.binds md e || decide (e.on < i)) && chkL md (i + 1) r
theorem chkL_get : ∀ (l : List Oper) (n : Nat), chkL md n l = true → ∀ i o, l[i]? = some o → ∀ e ∈ o.after, Region.binds md e = true → e.on < n + i
  | [], n, h, i, o, ho => by simp at ho
  | x :: r, n, h, 0, o, ho => by
    simp only [List.getElem?_cons_zero, Option.some.injEq] at ho
    subst ho
    intro e he hb
    unfold chkL at h
    rw [Bool.and_eq_true, List.all_eq_true] at h
    have := h.1 e (by simpa using he)
    rw [hb] at this
    simpa using this
  | x :: r, n, h, i + 1, o, ho => by
    rw [List.getElem?_cons_succ] at ho
    unfold chkL at h
    rw [Bool.and_eq_true] at h
    have := chkL_get r (n + 1) h.2 i o ho
    intro e he hb
    have := this e he hb
    omega
theorem all_done {l : List Oper} {d : Nat → Bool} (hc : chkL md 0 l = true) (h : ∀ i o, l.toArray[i]? = some o → (∀ e ∈ o.after, Region.binds md e = true → d e.on = true) → d i = true) : ∀ i, i < l.length → d i = true := by
  intro i
  induction i using Nat.strongRecOn with
  | _ i ih =>
    intro hi
    have ho : l[i]? = some l[i] := List.getElem?_eq_getElem hi
    refine h i l[i] (by simp) (fun e he hb => ?_)
    have := chkL_get l 0 hc i l[i] ho e he hb
    exact ih e.on (by omega) (by omega)
/-- a drawn region, by one statement; the frame in which it begins is handed to it -/
theorem wp_region_invA {l : List Oper} {id : Nat} {a : Act} {w : World} (hm : P.follows .mixedOrders = true) (hc : chkL .any 0 l = true) (T : Act → (Nat → Bool) → Act → World → Prop)
    (first : T a (fun _ => false) a w.drew) (step : Steps P .any l.toArray Q (T a) 0 l)
    (last : ∀ d a' w, (∀ i, i < l.length → d i = true) → T a d a' w → Q .normal a' w) : (Code.region id l.toArray true).wp P Q a w :=
  wp_region_inv hm (T a) first (by simpa using step) (fun d a' w' h hT => last d a' w' (all_done hc h) hT)
end
end Go.Proofs.YtegoddghfjfibaaGreatDoor

namespace Go.Proofs.YtegoddghfjfibaaGreatDoor
set_option linter.unusedVariables false
set_option linter.unusedSimpArgs false
open Go.Joins Go.ChangeShapes Go.WideShapes Go.ChangeAt Go.RowKit Go.Deep

theorem dn {d : Nat → Bool} {k i : Nat} (h : (d k || k == i) = true) (hn : (k == i) = false) : d k = true := by rw [hn, Bool.or_false] at h; exact h
/-- a box of six cells, whatever they are -/
def Bx6 (w : World) (b : Nat) : Prop := ∃ c0 c1 c2 c3 c4 c5 : Value, BoxN w b #[c0, c1, c2, c3, c4, c5]
theorem Bx6.below {w w' : World} {b : Nat} (h : Bx6 w b) (hb : Below w.heap.size w w') : Bx6 w' b := by
  obtain ⟨c0, c1, c2, c3, c4, c5, h⟩ := h
  exact ⟨c0, c1, c2, c3, c4, c5, boxN_below h hb⟩
theorem Bx6.lt {w : World} {b : Nat} (h : Bx6 w b) : b < w.heap.size := by
  obtain ⟨c0, c1, c2, c3, c4, c5, h⟩ := h
  exact h.lt
theorem Bx6.off {w : World} {b R : Nat} (h : Bx6 w b) (hR : R ≠ b) (v0 v1 v2 v3 v4 v5 : Value) : Bx6 ((((((w.setCell ⟨R, 0, none⟩ v0).setCell ⟨R, 1, none⟩ v1).setCell ⟨R, 2, none⟩ v2).setCell ⟨R, 3, none⟩ v3).setCell ⟨R, 4, none⟩ v4).setCell ⟨R, 5, none⟩ v5) b := by
  obtain ⟨c0, c1, c2, c3, c4, c5, h⟩ := h
  exact ⟨c0, c1, c2, c3, c4, c5, h.kp (kp6 (KP.refl w.heap.size (· = R) w) R (Or.inr rfl) v0 v1 v2 v3 v4 v5) h.lt (fun e => hR e.symm)⟩
theorem box_off6 {w : World} {b R : Nat} {cs : Array Value} (h : BoxN w b cs) (hR : R ≠ b) (v0 v1 v2 v3 v4 v5 : Value) : BoxN ((((((w.setCell ⟨R, 0, none⟩ v0).setCell ⟨R, 1, none⟩ v1).setCell ⟨R, 2, none⟩ v2).setCell ⟨R, 3, none⟩ v3).setCell ⟨R, 4, none⟩ v4).setCell ⟨R, 5, none⟩ v5) b cs :=
  h.kp (kp6 (KP.refl w.heap.size (· = R) w) R (Or.inr rfl) v0 v1 v2 v3 v4 v5) h.lt (fun e => hR e.symm)
theorem box_s6' {W : World} {R : Nat} {c0 c1 c2 c3 c4 c5 : Value} (h : BoxN W R #[c0, c1, c2, c3, c4, c5]) (v0 v1 v2 v3 v4 v5 : Value) : BoxN ((((((W.setCell ⟨R, 0, none⟩ v0).setCell ⟨R, 1, none⟩ v1).setCell ⟨R, 2, none⟩ v2).setCell ⟨R, 3, none⟩ v3).setCell ⟨R, 4, none⟩ v4).setCell ⟨R, 5, none⟩ v5) R #[v0, v1, v2, v3, v4, v5] :=
  ((((((h.set 0 v0).set 1 v1).set 2 v2).set 3 v3).set 4 v4).set 5 v5)
/-- what stands behind the reading: the instruction's box, the result's box, both registers' boxes -/
structure RkS (W w : World) (b5 b6 : Nat) (XV D E : Array Value) : Prop where
  b : Below W.heap.size W w
  x : BoxN w W.heap.size XV
  z : BoxN w (W.heap.size + 1) zer6
  d : BoxN w b5 D
  e : BoxN w b6 E
  n1 : W.heap.size + 1 < b5
  n2 : W.heap.size + 1 < b6
  n3 : b5 ≠ b6
theorem RkS.below {W w w' : World} {b5 b6 : Nat} {XV D E : Array Value} (h : RkS W w b5 b6 XV D E) (hb : Below w.heap.size w w') : RkS W w' b5 b6 XV D E :=
  ⟨h.b.trans (hb.mono h.b.size), boxN_below h.x hb, boxN_below h.z hb, boxN_below h.d hb, boxN_below h.e hb, h.n1, h.n2, h.n3⟩
theorem RkS.alloc {W w : World} {b5 b6 : Nat} {XV D E : Array Value} (h : RkS W w b5 b6 XV D E) (o : Obj) : RkS W (w.alloc o) b5 b6 XV D E := h.below (bAlloc (Below.refl _ _) _)
theorem bits8 (x : Int) (h0 : 0 ≤ x) (h1 : x < 18446744073709551616) : bitsZ x 0 8 = x % 256 := by
  unfold bitsZ
  rw [if_neg (by omega)]
  show ((bitsN x.toNat 0 8 : Nat) : Int) = _
  unfold bitsN
  simp only [Nat.pow_zero, Nat.div_one]
  omega
theorem reckon_in (op : Nat) (h1 : 1 ≤ op) (h2 : op ≤ 41) (a b : Int) (w : World) (ha : Al.Inw a) (hb : Al.Inw b) : Calls Tryz.prog 138 #[.int .i64 (op : Int), .int .u64 a, .int .u64 b] w fun e w' => e = .returned (.tuple #[.int .u64 (Al.reckZ op a b), .bool true]) ∧ Below w.heap.size w w' := by
  match op, h1, h2 with
  | 1, _, _ => exact Al.reckon_1 a b w ha hb
  | 2, _, _ => exact Al.reckon_2 a b w ha hb
  | 3, _, _ => exact Al.reckon_3 a b w ha hb
  | 4, _, _ => exact Al.reckon_4 a b w ha hb
  | 5, _, _ => exact Al.reckon_5 a b w ha hb
  | 6, _, _ => exact Al.reckon_6 a b w ha hb
  | 7, _, _ => exact Al.reckon_7 a b w ha hb
  | 8, _, _ => exact Al.reckon_8 a b w ha hb
  | 9, _, _ => exact Al.reckon_9 a b w ha hb
  | 10, _, _ => exact Al.reckon_10 a b w ha hb
  | 11, _, _ => exact Al.reckon_11 a b w ha hb
  | 12, _, _ => exact Al.reckon_12 a b w ha hb
  | 13, _, _ => exact Al.reckon_13 a b w ha hb
  | 14, _, _ => exact Al.reckon_14 a b w ha hb
  | 15, _, _ => exact Al.reckon_15 a b w ha hb
  | 16, _, _ => exact Al.reckon_16 a b w ha hb
  | 17, _, _ => exact Al.reckon_17 a b w ha hb
  | 18, _, _ => exact Al.reckon_18 a b w ha hb
  | 19, _, _ => exact Al.reckon_19 a b w ha hb
  | 20, _, _ => exact Al.reckon_20 a b w ha hb
  | 21, _, _ => exact Al.reckon_21 a b w ha hb
  | 22, _, _ => exact Al.reckon_22 a b w ha hb
  | 23, _, _ => exact Al.reckon_23 a b w ha hb
  | 24, _, _ => exact Al.reckon_24 a b w ha hb
  | 25, _, _ => exact Al.reckon_25 a b w ha hb
  | 26, _, _ => exact Al.reckon_26 a b w ha hb
  | 27, _, _ => exact Al.reckon_27 a b w ha hb
  | 28, _, _ => exact Al.reckon_28 a b w ha hb
  | 29, _, _ => exact Al.reckon_29 a b w ha hb
  | 30, _, _ => exact Al.reckon_30 a b w ha hb
  | 31, _, _ => exact Al.reckon_31 a b w ha hb
  | 32, _, _ => exact Al.reckon_32 a b w ha hb
  | 33, _, _ => exact Al.reckon_33 a b w ha hb
  | 34, _, _ => exact Al.reckon_34 a b w ha hb
  | 35, _, _ => exact Al.reckon_35 a b w ha hb
  | 36, _, _ => exact Al.reckon_36 a b w ha hb
  | 37, _, _ => exact Al.reckon_37 a b w ha hb
  | 38, _, _ => exact Al.reckon_38 a b w ha hb
  | 39, _, _ => exact Al.reckon_39 a b w ha hb
  | 40, _, _ => exact Al.reckon_40 a b w ha hb
  | 41, _, _ => exact Al.reckon_41 a b w ha hb
  | 0, h, _ => exact absurd h (by omega)
  | n + 42, _, h => exact absurd h (by omega)
end Go.Proofs.YtegoddghfjfibaaGreatDoor

