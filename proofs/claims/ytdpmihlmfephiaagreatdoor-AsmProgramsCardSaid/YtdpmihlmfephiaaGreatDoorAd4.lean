/- The document's fill: an instruction of numbers. -/
import Derived.Test.YtdpmihlmfephiaaGreatDoorAd3
namespace Go.Proofs.YtdpmihlmfephiaaGreatDoor
set_option linter.unusedVariables false
set_option linter.unusedSimpArgs false
open Go.Joins Go.ChangeShapes Go.WideShapes Go.ChangeAt Go.RowKit Go.Deep

theorem i64v_at (l : List Int) (k : Nat) (h : k < l.length) : (i64v l)[k]? = some (.int .i64 (l.getD k 0)) := by unfold i64v; simp [h]
def zeroI : Go.Obj := .cells #[.int .i64 0, .int .i64 0, .int .i64 0, .int .i64 0, .int .i64 0] 23 (0, 0)
def firstI (op : Int) : Go.Obj := .cells #[.int .i64 op, .int .i64 0, .int .i64 0, .int .i64 0, .int .i64 0] 23 (0, 0)
structure FilI (w : World) (op : Int) (B0 : Nat) (l : List Int) (a : Option Addr) (m c : Nat) (xs : List Int) (wr : World) : Prop where
  row : wr.ownsRow B0 2 1 (.slice a m c) m (i64v xs)
  len : xs.length = m
  eq : ∀ i, xs.getD i 0 = l.getD i 0
  b1 : wr.heap[w.heap.size]? = some zeroI
  b2 : wr.heap[w.heap.size + 1]? = some (firstI op)
  bel : Below B0 w wr
theorem getD_zero (xs : List Int) (i : Nat) : (xs ++ [0]).getD i 0 = xs.getD i 0 := by
  rcases Nat.lt_trichotomy i xs.length with h | h | h
  · simp [List.getElem?_append_left h]
  · subst h; simp
  · have h1 : (xs ++ [0]).length ≤ i := by rw [List.length_append]; simp; omega
    simp [List.getElem?_eq_none h1, List.getElem?_eq_none (Nat.le_of_lt h)]
theorem FilI.more {w W : World} {op : Int} {B0 : Nat} {l : List Int} {a a' : Option Addr} {m c c' : Nat} {xs : List Int} {wr W3 : World} (h : FilI w op B0 l a m c xs wr) (hB : B0 ≤ w.heap.size) (hW : wr.alloc (.cells #[.int .i64 0] 2) = W) (ho : W3.ownsRow B0 2 1 (.slice a' (m + 1) c') (m + 1) (i64v xs ++ [.int .i64 0])) (hg : W.grownBy W3 (Value.slice a m c).ownBlock) : FilI w op B0 l a' (m + 1) c' (xs ++ [0]) W3 := by
  have hrow := h.row.alloc (.cells #[.int .i64 0] 2)
  rw [hW] at hrow
  have k1 : W.heap[w.heap.size]? = some zeroI := by rw [← hW]; exact (Below.heap_alloc _ _ _ (by have := (Array.getElem?_eq_some_iff.1 h.b1).1; omega)).trans h.b1
  have k2 : W.heap[w.heap.size + 1]? = some (firstI op) := by rw [← hW]; exact (Below.heap_alloc _ _ _ (by have := (Array.getElem?_eq_some_iff.1 h.b2).1; omega)).trans h.b2
  have n1 := Lib.ownBlock_ne hrow k1 (by decide)
  have n2 := Lib.ownBlock_ne hrow k2 (by decide)
  have hs : wr.heap.size ≤ W.heap.size := by rw [← hW]; simp
  have hbl : Below B0 w W := by rw [← hW]; exact h.bel.trans ((bAlloc (Below.refl _ _) _).mono (Nat.le_trans hB h.bel.size))
  refine ⟨by rw [i64v_snoc]; exact ho, by rw [List.length_append, h.len]; rfl, fun i => (getD_zero xs i).trans (h.eq i), (hg.block _ (Array.getElem?_eq_some_iff.1 k1).1 (fun e => n1 e.symm)).trans k1, (hg.block _ (Array.getElem?_eq_some_iff.1 k2).1 (fun e => n2 e.symm)).trans k2, hbl.grown hg (Nat.le_trans hB hbl.size) (fun b e => (hrow.lt b e).1)⟩
theorem FilI.below {w : World} {op : Int} {B0 : Nat} {l : List Int} {a : Option Addr} {m c : Nat} {xs : List Int} {wr W3 : World} (h : FilI w op B0 l a m c xs wr) (hB : B0 ≤ w.heap.size) (hb : Below wr.heap.size wr W3) : FilI w op B0 l a m c xs W3 :=
  ⟨h.row.kept (grown_of_below hb) (by cases (Value.slice a m c).ownBlock <;> simp), h.len, h.eq, (hb.block _ (Array.getElem?_eq_some_iff.1 h.b1).1).trans h.b1, (hb.block _ (Array.getElem?_eq_some_iff.1 h.b2).1).trans h.b2, h.bel.trans (hb.mono (Nat.le_trans hB h.bel.size))⟩
theorem FilI.cells {w : World} {op : Int} {B0 : Nat} {l : List Int} {a : Option Addr} {m c : Nat} {xs : List Int} {wr : World} (h : FilI w op B0 l a m c xs wr) (hm : 3 ≤ m) : ∃ g, a = some ⟨g, 0, none⟩ ∧ wr.cell? ⟨g, 0, none⟩ = some (.int .i64 (l.getD 0 0)) ∧ wr.cell? ⟨g, 1, none⟩ = some (.int .i64 (l.getD 1 0)) ∧ wr.cell? ⟨g, 2, none⟩ = some (.int .i64 (l.getD 2 0)) := by
  rcases h.row.2 with ⟨hv, h0⟩ | ⟨g, cap, cur, hv, -⟩
  · omega
  · cases hv
    refine ⟨g, rfl, ?_⟩
    have hr := Rd.of_own h.row
    obtain ⟨b, off, e, hl, hc⟩ := hr.2 (by omega)
    cases e
    have c0 := hc 0 (by omega)
    have c1 := hc 1 (by omega)
    have c2 := hc 2 (by omega)
    rw [i64v_at xs _ (by rw [h.len]; omega), h.eq] at c0 c1 c2
    exact ⟨by simpa using c0, by simpa using c1, by simpa using c2⟩
theorem rfill_res (W : World) (B : Nat) (a b c d e : Value) (tmps : Array Value) (ht : tmps[4]? = some (.pointer (some ⟨B, 0, none⟩))) (hb : BoxN W B #[a, b, c, d, e]) : (results Tryz.f38 tmps).run Tryz.prog W = .ok (.agg #[a, b, c, d, e]) W := by
  obtain ⟨⟨k0, k1, k2, k3, k4⟩, -⟩ := box5 hb
  simp [results, Tryz.results38, go_sem, ht, k0, k1, k2, k3, k4]
theorem filI_start (w : World) (op : Int) (B0 : Nat) (l : List Int) (a : Option Addr) (n c : Nat) (hl : l.length = n) (hB : B0 ≤ w.heap.size) (ho : w.ownsRow B0 2 1 (.slice a n c) n (i64v l)) : FilI w op B0 l a n c l (fillW w op) := by
  unfold fillW
  have h1 : ((w.alloc (.cells #[.int .i64 0, .int .i64 0, .int .i64 0, .int .i64 0, .int .i64 0] 23)).alloc (.cells #[.int .i64 op, .int .i64 0, .int .i64 0, .int .i64 0, .int .i64 0] 23)).heap[w.heap.size]? = some zeroI := (Below.heap_alloc _ _ _ (by simp)).trans (heap_alloc_new w _)
  have h2 := heap_alloc_new (w.alloc (.cells #[.int .i64 0, .int .i64 0, .int .i64 0, .int .i64 0, .int .i64 0] 23)) (.cells #[.int .i64 op, .int .i64 0, .int .i64 0, .int .i64 0, .int .i64 0] 23)
  rw [World.size_alloc] at h2
  exact ⟨(ho.alloc _).alloc _, hl, fun i => rfl, h1, h2, ((bAlloc (bAlloc (Below.refl w.heap.size w) _) _).mono hB)⟩
theorem field_kind (nm : ByteArray) (k r2 r3 r4 r5 : Int) (W : World) : (Instr.field 85 (.agg #[.string nm, .int .i64 k, .int .i64 r2, .int .i64 r3, .int .i64 r4, .int .i64 r5]) 1).run Tryz.prog W = .ok (.int .i64 k) W := by
  have hu := Tryz.underlying85
  unfold Instr.field
  simp [Sem.run_bind, run_underlying hu, go_sem]
  rfl
set_option maxRecDepth 100000 in
set_option maxHeartbeats 8000000 in
theorem rfill_any (op : Int) (l : List Int) (B0 : Nat) (v : Value) (w : World) (ho : 1 ≤ op ∧ op ≤ 82) (hl : l.length ≤ 4) (hown : w.ownsRow B0 2 1 v l.length (i64v l)) (hB : B0 ≤ w.heap.size) :
    Calls Tryz.prog 38 #[.int .i64 op, v] w fun e w' => e = .returned (insV op (fillD (kindA op) l)) ∧ Below B0 w w' := by
  obtain ⟨R, hR⟩ : ∃ R, insV op (fillD (kindA op) l) = R := ⟨_, rfl⟩
  have HRR := Lib.hid hR
  rw [hR]
  obtain ⟨n, hn⟩ : ∃ n, l.length = n := ⟨_, rfl⟩
  rw [hn] at hl hown
  obtain ⟨a, c, rfl, -⟩ := own_slice hown
  have HST := Lib.hid (filI_start w op B0 l a n c hn hB hown)
  have HBB := Lib.hid hB
  obtain ⟨W2, hW2⟩ : ∃ W2, fillW w op = W2 := ⟨_, rfl⟩
  rw [hW2] at HST
  unfold fillW at hW2
  have HW2 := Lib.hid hW2
  clear hW2 hown hn hB hR
  go_enter Tryz.func38, Tryz.ntmps38
  go_upto_region 2 with fail
  rw [HW2.out]
  clear HW2
  go_wp2_with fail
  go_loopw [1] (fun v wr => ∃ (a : Option Addr) (m c : Nat) (xs : List Int), v = .slice a m c ∧ m ≤ 4 ∧ Hid (FilI w op B0 l a m c xs wr)) (fun v _ => match v with
    | .slice _ m _ => 4 - m
    | _ => 0)
  case atStart => exact ⟨a, n, c, l, rfl, hl, HST⟩
  case round =>
    obtain ⟨a, m, c, xs, rfl, hm4, HF⟩ := hrel
    by_cases hm : m < 3
    · have hd1 : decide ((m : Int) < 3) = true := decide_eq_true (by omega)
      have hd2 : decide (m < 3) = true := decide_eq_true hm
      have hmi : (m : Int) < 3 := by omega
      go_wp2_with (refine wpList_appE 58 2 (.int .i64 0) 1 8 Tryz.underlying58 infoI64 rfl (by decide) (by decide) _ rfl _ _ rfl B0 (.slice a m c) m (i64v xs) rfl (HF.out.row.alloc _) (some ⟨wr.heap.size, 0, none⟩) 1 1 [.int .i64 0] rfl (Rd.lit wr #[.int .i64 0] 2 (by show 1 ≤ maxLen; decide)) (fun u hu => by simp at hu; subst hu; rfl) (by omega) (by rw [World.size_alloc]; have := HF.out.bel.size; have := HBB.out; omega) ?_; intro a3 c3 W3 hown3 hgrow3 hat3; have HO3 := Lib.hid hown3; have HG3 := Lib.hid hgrow3; clear hown3 hgrow3 hat3)
      go_roundw
      case rel => exact ⟨a3, m + 1, c3, xs ++ [0], rfl, by omega, Lib.hid (HF.out.more HBB.out rfl HO3.out HG3.out)⟩
      case measure => simp only []; omega
    · have hd1 : decide ((m : Int) < 3) = false := decide_eq_false (by omega)
      have hd2 : decide (m < 3) = false := decide_eq_false hm
      have hmi : ¬ (m : Int) < 3 := by omega
      have i0 : (0 : Int) < (m : Int) := by omega
      have i1 : (1 : Int) < (m : Int) := by omega
      have i2 : (2 : Int) < (m : Int) := by omega
      have j0 : 0 < m := by omega
      have j1 : 1 < m := by omega
      have j2 : 2 < m := by omega
      obtain ⟨g, rfl, c0, c1, c2⟩ := HF.out.cells (by omega)
      have HCE := Lib.hid (fun W (hb : Below wr.heap.size wr W) => (HF.out.below HBB.out hb).cells (show 3 ≤ m by omega))
      have HBX := Lib.hid (fun W (hb : Below wr.heap.size wr W) => show BoxN W w.heap.size #[.int .i64 0, .int .i64 0, .int .i64 0, .int .i64 0, .int .i64 0] ∧ BoxN W (w.heap.size + 1) #[.int .i64 op, .int .i64 0, .int .i64 0, .int .i64 0, .int .i64 0] from ⟨⟨_, (HF.out.below HBB.out hb).b1⟩, ⟨_, (HF.out.below HBB.out hb).b2⟩⟩)
      have HBE := Lib.hid (fun W (hb : Below wr.heap.size wr W) => (HF.out.below HBB.out hb).bel)
      have hkk : kindA op = kindZ (bareN op) := if_pos ho
      rcases kinds_op op ho.1 ho.2 with h | h | h | h | h | h | h | h | h | h
      · have hk := hkk.trans h
        obtain ⟨r2, r3, r4, r5, hof⟩ := rof_kind op 1 hk
        have HO := Lib.hid hof
        have hv : R = .agg #[.int .i64 op, .int .i64 (l.getD 0 0), .int .i64 (l.getD 1 0), .int .i64 (l.getD 2 0), .int .i64 (0)] := by rw [← HRR.out, hk]; rfl
        obtain ⟨a0, ha0⟩ : ∃ x, l.getD 0 0 = x := ⟨_, rfl⟩
        obtain ⟨a1, ha1⟩ : ∃ x, l.getD 1 0 = x := ⟨_, rfl⟩
        obtain ⟨a2, ha2⟩ : ∃ x, l.getD 2 0 = x := ⟨_, rfl⟩
        simp only [ha0, ha1, ha2] at c0 c1 c2 HCE hv
        have HV := Lib.hid hv
        clear hof hv ha0 ha1 ha2 hk h hkk
        have hfk := fun W => field_kind ⟨(opN op).toArray⟩ 1 r2 r3 r4 r5 W
        go_wp2_with (go_at_call 57; refine (HO.out _).mono ?_; rintro e w3 ⟨rfl, hb⟩; have HB3 := Lib.hid hb; obtain ⟨g', eg, d0, d1, d2⟩ := HCE.out _ hb; cases eg; obtain ⟨b1, b2⟩ := HBX.out _ hb; obtain ⟨⟨p0, p1, p2, p3, p4⟩, q0, q1, q2, q3, q4⟩ := box5 b1; obtain ⟨⟨s0, s1, s2, s3, s4⟩, -⟩ := box5 b2; clear hb b1 b2)
        have hfin := ((((((HBX.out _ HB3.out).1.set 0 (.int .i64 op)).set 1 (.int .i64 a0)).set 2 (.int .i64 a1)).set 3 (.int .i64 a2)).set 4 (.int .i64 0))
        refine bodyPost_ret (v := .agg #[.int .i64 op, .int .i64 a0, .int .i64 a1, .int .i64 a2, .int .i64 0]) (rfill_res _ w.heap.size _ _ _ _ _ _ rfl hfin) rfl ⟨by rw [HV.out], ?_⟩
        repeat (with_reducible refine Below.setCell ?_ (by exact HBB.out) _)
        exact HBE.out _ HB3.out
      · have hk := hkk.trans h
        obtain ⟨r2, r3, r4, r5, hof⟩ := rof_kind op 2 hk
        have HO := Lib.hid hof
        have hv : R = .agg #[.int .i64 op, .int .i64 (l.getD 0 0), .int .i64 (l.getD 1 0), .int .i64 (0), .int .i64 (l.getD 2 0)] := by rw [← HRR.out, hk]; rfl
        obtain ⟨a0, ha0⟩ : ∃ x, l.getD 0 0 = x := ⟨_, rfl⟩
        obtain ⟨a1, ha1⟩ : ∃ x, l.getD 1 0 = x := ⟨_, rfl⟩
        obtain ⟨a2, ha2⟩ : ∃ x, l.getD 2 0 = x := ⟨_, rfl⟩
        simp only [ha0, ha1, ha2] at c0 c1 c2 HCE hv
        have HV := Lib.hid hv
        clear hof hv ha0 ha1 ha2 hk h hkk
        have hfk := fun W => field_kind ⟨(opN op).toArray⟩ 2 r2 r3 r4 r5 W
        go_wp2_with (go_at_call 57; refine (HO.out _).mono ?_; rintro e w3 ⟨rfl, hb⟩; have HB3 := Lib.hid hb; obtain ⟨g', eg, d0, d1, d2⟩ := HCE.out _ hb; cases eg; obtain ⟨b1, b2⟩ := HBX.out _ hb; obtain ⟨⟨p0, p1, p2, p3, p4⟩, q0, q1, q2, q3, q4⟩ := box5 b1; obtain ⟨⟨s0, s1, s2, s3, s4⟩, -⟩ := box5 b2; clear hb b1 b2)
        have hfin := ((((((HBX.out _ HB3.out).1.set 0 (.int .i64 op)).set 1 (.int .i64 a0)).set 2 (.int .i64 a1)).set 3 (.int .i64 0)).set 4 (.int .i64 a2))
        refine bodyPost_ret (v := .agg #[.int .i64 op, .int .i64 a0, .int .i64 a1, .int .i64 0, .int .i64 a2]) (rfill_res _ w.heap.size _ _ _ _ _ _ rfl hfin) rfl ⟨by rw [HV.out], ?_⟩
        repeat (with_reducible refine Below.setCell ?_ (by exact HBB.out) _)
        exact HBE.out _ HB3.out
      · have hk := hkk.trans h
        obtain ⟨r2, r3, r4, r5, hof⟩ := rof_kind op 3 hk
        have HO := Lib.hid hof
        have hv : R = .agg #[.int .i64 op, .int .i64 (l.getD 0 0), .int .i64 (l.getD 2 0), .int .i64 (0), .int .i64 (l.getD 1 0)] := by rw [← HRR.out, hk]; rfl
        obtain ⟨a0, ha0⟩ : ∃ x, l.getD 0 0 = x := ⟨_, rfl⟩
        obtain ⟨a1, ha1⟩ : ∃ x, l.getD 1 0 = x := ⟨_, rfl⟩
        obtain ⟨a2, ha2⟩ : ∃ x, l.getD 2 0 = x := ⟨_, rfl⟩
        simp only [ha0, ha1, ha2] at c0 c1 c2 HCE hv
        have HV := Lib.hid hv
        clear hof hv ha0 ha1 ha2 hk h hkk
        have hfk := fun W => field_kind ⟨(opN op).toArray⟩ 3 r2 r3 r4 r5 W
        go_wp2_with (go_at_call 57; refine (HO.out _).mono ?_; rintro e w3 ⟨rfl, hb⟩; have HB3 := Lib.hid hb; obtain ⟨g', eg, d0, d1, d2⟩ := HCE.out _ hb; cases eg; obtain ⟨b1, b2⟩ := HBX.out _ hb; obtain ⟨⟨p0, p1, p2, p3, p4⟩, q0, q1, q2, q3, q4⟩ := box5 b1; obtain ⟨⟨s0, s1, s2, s3, s4⟩, -⟩ := box5 b2; clear hb b1 b2)
        have hfin := ((((((HBX.out _ HB3.out).1.set 0 (.int .i64 op)).set 1 (.int .i64 a0)).set 2 (.int .i64 a2)).set 3 (.int .i64 0)).set 4 (.int .i64 a1))
        refine bodyPost_ret (v := .agg #[.int .i64 op, .int .i64 a0, .int .i64 a2, .int .i64 0, .int .i64 a1]) (rfill_res _ w.heap.size _ _ _ _ _ _ rfl hfin) rfl ⟨by rw [HV.out], ?_⟩
        repeat (with_reducible refine Below.setCell ?_ (by exact HBB.out) _)
        exact HBE.out _ HB3.out
      · have hk := hkk.trans h
        obtain ⟨r2, r3, r4, r5, hof⟩ := rof_kind op 4 hk
        have HO := Lib.hid hof
        have hv : R = .agg #[.int .i64 op, .int .i64 (0), .int .i64 (l.getD 2 0), .int .i64 (l.getD 0 0), .int .i64 (l.getD 1 0)] := by rw [← HRR.out, hk]; rfl
        obtain ⟨a0, ha0⟩ : ∃ x, l.getD 0 0 = x := ⟨_, rfl⟩
        obtain ⟨a1, ha1⟩ : ∃ x, l.getD 1 0 = x := ⟨_, rfl⟩
        obtain ⟨a2, ha2⟩ : ∃ x, l.getD 2 0 = x := ⟨_, rfl⟩
        simp only [ha0, ha1, ha2] at c0 c1 c2 HCE hv
        have HV := Lib.hid hv
        clear hof hv ha0 ha1 ha2 hk h hkk
        have hfk := fun W => field_kind ⟨(opN op).toArray⟩ 4 r2 r3 r4 r5 W
        go_wp2_with (go_at_call 57; refine (HO.out _).mono ?_; rintro e w3 ⟨rfl, hb⟩; have HB3 := Lib.hid hb; obtain ⟨g', eg, d0, d1, d2⟩ := HCE.out _ hb; cases eg; obtain ⟨b1, b2⟩ := HBX.out _ hb; obtain ⟨⟨p0, p1, p2, p3, p4⟩, q0, q1, q2, q3, q4⟩ := box5 b1; obtain ⟨⟨s0, s1, s2, s3, s4⟩, -⟩ := box5 b2; clear hb b1 b2)
        have hfin := ((((((HBX.out _ HB3.out).1.set 0 (.int .i64 op)).set 1 (.int .i64 0)).set 2 (.int .i64 a2)).set 3 (.int .i64 a0)).set 4 (.int .i64 a1))
        refine bodyPost_ret (v := .agg #[.int .i64 op, .int .i64 0, .int .i64 a2, .int .i64 a0, .int .i64 a1]) (rfill_res _ w.heap.size _ _ _ _ _ _ rfl hfin) rfl ⟨by rw [HV.out], ?_⟩
        repeat (with_reducible refine Below.setCell ?_ (by exact HBB.out) _)
        exact HBE.out _ HB3.out
      · have hk := hkk.trans h
        obtain ⟨r2, r3, r4, r5, hof⟩ := rof_kind op 5 hk
        have HO := Lib.hid hof
        have hv : R = .agg #[.int .i64 op, .int .i64 (0), .int .i64 (l.getD 0 0), .int .i64 (l.getD 1 0), .int .i64 (l.getD 2 0)] := by rw [← HRR.out, hk]; rfl
        obtain ⟨a0, ha0⟩ : ∃ x, l.getD 0 0 = x := ⟨_, rfl⟩
        obtain ⟨a1, ha1⟩ : ∃ x, l.getD 1 0 = x := ⟨_, rfl⟩
        obtain ⟨a2, ha2⟩ : ∃ x, l.getD 2 0 = x := ⟨_, rfl⟩
        simp only [ha0, ha1, ha2] at c0 c1 c2 HCE hv
        have HV := Lib.hid hv
        clear hof hv ha0 ha1 ha2 hk h hkk
        have hfk := fun W => field_kind ⟨(opN op).toArray⟩ 5 r2 r3 r4 r5 W
        go_wp2_with (go_at_call 57; refine (HO.out _).mono ?_; rintro e w3 ⟨rfl, hb⟩; have HB3 := Lib.hid hb; obtain ⟨g', eg, d0, d1, d2⟩ := HCE.out _ hb; cases eg; obtain ⟨b1, b2⟩ := HBX.out _ hb; obtain ⟨⟨p0, p1, p2, p3, p4⟩, q0, q1, q2, q3, q4⟩ := box5 b1; obtain ⟨⟨s0, s1, s2, s3, s4⟩, -⟩ := box5 b2; clear hb b1 b2)
        have hfin := ((((((HBX.out _ HB3.out).1.set 0 (.int .i64 op)).set 1 (.int .i64 0)).set 2 (.int .i64 a0)).set 3 (.int .i64 a1)).set 4 (.int .i64 a2))
        refine bodyPost_ret (v := .agg #[.int .i64 op, .int .i64 0, .int .i64 a0, .int .i64 a1, .int .i64 a2]) (rfill_res _ w.heap.size _ _ _ _ _ _ rfl hfin) rfl ⟨by rw [HV.out], ?_⟩
        repeat (with_reducible refine Below.setCell ?_ (by exact HBB.out) _)
        exact HBE.out _ HB3.out
      · have hk := hkk.trans h
        obtain ⟨r2, r3, r4, r5, hof⟩ := rof_kind op 6 hk
        have HO := Lib.hid hof
        have hv : R = .agg #[.int .i64 op, .int .i64 (l.getD 0 0), .int .i64 (0), .int .i64 (0), .int .i64 (l.getD 1 0)] := by rw [← HRR.out, hk]; rfl
        obtain ⟨a0, ha0⟩ : ∃ x, l.getD 0 0 = x := ⟨_, rfl⟩
        obtain ⟨a1, ha1⟩ : ∃ x, l.getD 1 0 = x := ⟨_, rfl⟩
        obtain ⟨a2, ha2⟩ : ∃ x, l.getD 2 0 = x := ⟨_, rfl⟩
        simp only [ha0, ha1, ha2] at c0 c1 c2 HCE hv
        have HV := Lib.hid hv
        clear hof hv ha0 ha1 ha2 hk h hkk
        have hfk := fun W => field_kind ⟨(opN op).toArray⟩ 6 r2 r3 r4 r5 W
        go_wp2_with (go_at_call 57; refine (HO.out _).mono ?_; rintro e w3 ⟨rfl, hb⟩; have HB3 := Lib.hid hb; obtain ⟨g', eg, d0, d1, d2⟩ := HCE.out _ hb; cases eg; obtain ⟨b1, b2⟩ := HBX.out _ hb; obtain ⟨⟨p0, p1, p2, p3, p4⟩, q0, q1, q2, q3, q4⟩ := box5 b1; obtain ⟨⟨s0, s1, s2, s3, s4⟩, -⟩ := box5 b2; clear hb b1 b2)
        have hfin := ((((((HBX.out _ HB3.out).1.set 0 (.int .i64 op)).set 1 (.int .i64 a0)).set 2 (.int .i64 0)).set 3 (.int .i64 0)).set 4 (.int .i64 a1))
        refine bodyPost_ret (v := .agg #[.int .i64 op, .int .i64 a0, .int .i64 0, .int .i64 0, .int .i64 a1]) (rfill_res _ w.heap.size _ _ _ _ _ _ rfl hfin) rfl ⟨by rw [HV.out], ?_⟩
        repeat (with_reducible refine Below.setCell ?_ (by exact HBB.out) _)
        exact HBE.out _ HB3.out
      · have hk := hkk.trans h
        obtain ⟨r2, r3, r4, r5, hof⟩ := rof_kind op 7 hk
        have HO := Lib.hid hof
        have hv : R = .agg #[.int .i64 op, .int .i64 (l.getD 0 0), .int .i64 (0), .int .i64 (0), .int .i64 (l.getD 1 0)] := by rw [← HRR.out, hk]; rfl
        obtain ⟨a0, ha0⟩ : ∃ x, l.getD 0 0 = x := ⟨_, rfl⟩
        obtain ⟨a1, ha1⟩ : ∃ x, l.getD 1 0 = x := ⟨_, rfl⟩
        obtain ⟨a2, ha2⟩ : ∃ x, l.getD 2 0 = x := ⟨_, rfl⟩
        simp only [ha0, ha1, ha2] at c0 c1 c2 HCE hv
        have HV := Lib.hid hv
        clear hof hv ha0 ha1 ha2 hk h hkk
        have hfk := fun W => field_kind ⟨(opN op).toArray⟩ 7 r2 r3 r4 r5 W
        go_wp2_with (go_at_call 57; refine (HO.out _).mono ?_; rintro e w3 ⟨rfl, hb⟩; have HB3 := Lib.hid hb; obtain ⟨g', eg, d0, d1, d2⟩ := HCE.out _ hb; cases eg; obtain ⟨b1, b2⟩ := HBX.out _ hb; obtain ⟨⟨p0, p1, p2, p3, p4⟩, q0, q1, q2, q3, q4⟩ := box5 b1; obtain ⟨⟨s0, s1, s2, s3, s4⟩, -⟩ := box5 b2; clear hb b1 b2)
        have hfin := ((((((HBX.out _ HB3.out).1.set 0 (.int .i64 op)).set 1 (.int .i64 a0)).set 2 (.int .i64 0)).set 3 (.int .i64 0)).set 4 (.int .i64 a1))
        refine bodyPost_ret (v := .agg #[.int .i64 op, .int .i64 a0, .int .i64 0, .int .i64 0, .int .i64 a1]) (rfill_res _ w.heap.size _ _ _ _ _ _ rfl hfin) rfl ⟨by rw [HV.out], ?_⟩
        repeat (with_reducible refine Below.setCell ?_ (by exact HBB.out) _)
        exact HBE.out _ HB3.out
      · have hk := hkk.trans h
        obtain ⟨r2, r3, r4, r5, hof⟩ := rof_kind op 8 hk
        have HO := Lib.hid hof
        have hv : R = .agg #[.int .i64 op, .int .i64 (l.getD 0 0), .int .i64 (l.getD 1 0), .int .i64 (0), .int .i64 (0)] := by rw [← HRR.out, hk]; rfl
        obtain ⟨a0, ha0⟩ : ∃ x, l.getD 0 0 = x := ⟨_, rfl⟩
        obtain ⟨a1, ha1⟩ : ∃ x, l.getD 1 0 = x := ⟨_, rfl⟩
        obtain ⟨a2, ha2⟩ : ∃ x, l.getD 2 0 = x := ⟨_, rfl⟩
        simp only [ha0, ha1, ha2] at c0 c1 c2 HCE hv
        have HV := Lib.hid hv
        clear hof hv ha0 ha1 ha2 hk h hkk
        have hfk := fun W => field_kind ⟨(opN op).toArray⟩ 8 r2 r3 r4 r5 W
        go_wp2_with (go_at_call 57; refine (HO.out _).mono ?_; rintro e w3 ⟨rfl, hb⟩; have HB3 := Lib.hid hb; obtain ⟨g', eg, d0, d1, d2⟩ := HCE.out _ hb; cases eg; obtain ⟨b1, b2⟩ := HBX.out _ hb; obtain ⟨⟨p0, p1, p2, p3, p4⟩, q0, q1, q2, q3, q4⟩ := box5 b1; obtain ⟨⟨s0, s1, s2, s3, s4⟩, -⟩ := box5 b2; clear hb b1 b2)
        have hfin := ((((((HBX.out _ HB3.out).1.set 0 (.int .i64 op)).set 1 (.int .i64 a0)).set 2 (.int .i64 a1)).set 3 (.int .i64 0)).set 4 (.int .i64 0))
        refine bodyPost_ret (v := .agg #[.int .i64 op, .int .i64 a0, .int .i64 a1, .int .i64 0, .int .i64 0]) (rfill_res _ w.heap.size _ _ _ _ _ _ rfl hfin) rfl ⟨by rw [HV.out], ?_⟩
        repeat (with_reducible refine Below.setCell ?_ (by exact HBB.out) _)
        exact HBE.out _ HB3.out
      · have hk := hkk.trans h
        obtain ⟨r2, r3, r4, r5, hof⟩ := rof_kind op 9 hk
        have HO := Lib.hid hof
        have hv : R = .agg #[.int .i64 op, .int .i64 (0), .int .i64 (0), .int .i64 (0), .int .i64 (0)] := by rw [← HRR.out, hk]; rfl
        obtain ⟨a0, ha0⟩ : ∃ x, l.getD 0 0 = x := ⟨_, rfl⟩
        obtain ⟨a1, ha1⟩ : ∃ x, l.getD 1 0 = x := ⟨_, rfl⟩
        obtain ⟨a2, ha2⟩ : ∃ x, l.getD 2 0 = x := ⟨_, rfl⟩
        simp only [ha0, ha1, ha2] at c0 c1 c2 HCE hv
        have HV := Lib.hid hv
        clear hof hv ha0 ha1 ha2 hk h hkk
        have hfk := fun W => field_kind ⟨(opN op).toArray⟩ 9 r2 r3 r4 r5 W
        go_wp2_with (go_at_call 57; refine (HO.out _).mono ?_; rintro e w3 ⟨rfl, hb⟩; have HB3 := Lib.hid hb; obtain ⟨g', eg, d0, d1, d2⟩ := HCE.out _ hb; cases eg; obtain ⟨b1, b2⟩ := HBX.out _ hb; obtain ⟨⟨p0, p1, p2, p3, p4⟩, q0, q1, q2, q3, q4⟩ := box5 b1; obtain ⟨⟨s0, s1, s2, s3, s4⟩, -⟩ := box5 b2; clear hb b1 b2)
        have hfin := ((((((HBX.out _ HB3.out).1.set 0 (.int .i64 op)).set 1 (.int .i64 0)).set 2 (.int .i64 0)).set 3 (.int .i64 0)).set 4 (.int .i64 0))
        refine bodyPost_ret (v := .agg #[.int .i64 op, .int .i64 0, .int .i64 0, .int .i64 0, .int .i64 0]) (rfill_res _ w.heap.size _ _ _ _ _ _ rfl hfin) rfl ⟨by rw [HV.out], ?_⟩
        repeat (with_reducible refine Below.setCell ?_ (by exact HBB.out) _)
        exact HBE.out _ HB3.out
      · have hk := hkk.trans h
        obtain ⟨r2, r3, r4, r5, hof⟩ := rof_kind op 10 hk
        have HO := Lib.hid hof
        have hv : R = .agg #[.int .i64 op, .int .i64 (0), .int .i64 (l.getD 0 0), .int .i64 (l.getD 1 0), .int .i64 (0)] := by rw [← HRR.out, hk]; rfl
        obtain ⟨a0, ha0⟩ : ∃ x, l.getD 0 0 = x := ⟨_, rfl⟩
        obtain ⟨a1, ha1⟩ : ∃ x, l.getD 1 0 = x := ⟨_, rfl⟩
        obtain ⟨a2, ha2⟩ : ∃ x, l.getD 2 0 = x := ⟨_, rfl⟩
        simp only [ha0, ha1, ha2] at c0 c1 c2 HCE hv
        have HV := Lib.hid hv
        clear hof hv ha0 ha1 ha2 hk h hkk
        have hfk := fun W => field_kind ⟨(opN op).toArray⟩ 10 r2 r3 r4 r5 W
        go_wp2_with (go_at_call 57; refine (HO.out _).mono ?_; rintro e w3 ⟨rfl, hb⟩; have HB3 := Lib.hid hb; obtain ⟨g', eg, d0, d1, d2⟩ := HCE.out _ hb; cases eg; obtain ⟨b1, b2⟩ := HBX.out _ hb; obtain ⟨⟨p0, p1, p2, p3, p4⟩, q0, q1, q2, q3, q4⟩ := box5 b1; obtain ⟨⟨s0, s1, s2, s3, s4⟩, -⟩ := box5 b2; clear hb b1 b2)
        have hfin := ((((((HBX.out _ HB3.out).1.set 0 (.int .i64 op)).set 1 (.int .i64 0)).set 2 (.int .i64 a0)).set 3 (.int .i64 a1)).set 4 (.int .i64 0))
        refine bodyPost_ret (v := .agg #[.int .i64 op, .int .i64 0, .int .i64 a0, .int .i64 a1, .int .i64 0]) (rfill_res _ w.heap.size _ _ _ _ _ _ rfl hfin) rfl ⟨by rw [HV.out], ?_⟩
        repeat (with_reducible refine Below.setCell ?_ (by exact HBB.out) _)
        exact HBE.out _ HB3.out
end Go.Proofs.YtdpmihlmfephiaaGreatDoor
