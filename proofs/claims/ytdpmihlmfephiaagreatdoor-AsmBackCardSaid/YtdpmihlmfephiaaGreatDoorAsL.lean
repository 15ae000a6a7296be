/- The instruction of a text: the program's Parse. -/
import Derived.Test.YtdpmihlmfephiaaGreatDoorAsK
namespace Go.Proofs.YtdpmihlmfephiaaGreatDoor
set_option linter.unusedVariables false
set_option linter.unusedSimpArgs false
open Go.Joins Go.ChangeShapes Go.WideShapes Go.ChangeAt Go.RowKit Go.Deep

def insV (op : Int) (x : Ins) : Value := .agg #[.int .i64 op, .int .i64 x.rd, .int .i64 x.rs1, .int .i64 x.rs2, .int .i64 x.n]
theorem fill_any (op : Int) (B c : Nat) (l : List (List UInt8)) (w : World) (hn : NA w) (hT : TX w B l) (hx : ∀ x ∈ l, x.length < 1000000) (hl : l.length < 1000000) :
    Calls Tryz.prog 34 #[.int .i64 op, .slice (some ⟨B, 0, none⟩) l.length c] w fun e w' => e = .returned (insV op (fillF (kindA op) l)) ∧ Below w.heap.size w w' := by
  have hc : kindA op = 0 ∨ kindsA (kindA op) := by
    unfold kindA
    split
    · rename_i h; exact .inr (kinds_op op h.1 h.2)
    · exact .inl rfl
  rcases hc with h | h | h | h | h | h | h | h | h | h | h
  · have := fill_0 op B c l w hn hT hx hl (.inl h); rw [h]; exact this
  · have := fill_1 op B c l w hn hT hx hl h; rw [h]; exact this
  · have := fill_2 op B c l w hn hT hx hl h; rw [h]; exact this
  · have := fill_3 op B c l w hn hT hx hl h; rw [h]; exact this
  · have := fill_4 op B c l w hn hT hx hl h; rw [h]; exact this
  · have := fill_5 op B c l w hn hT hx hl h; rw [h]; exact this
  · have := fill_6 op B c l w hn hT hx hl h; rw [h]; exact this
  · have := fill_7 op B c l w hn hT hx hl h; rw [h]; exact this
  · have := fill_8 op B c l w hn hT hx hl h; rw [h]; exact this
  · have := fill_0 op B c l w hn hT hx hl (.inr h); rw [h]; exact this
  · have := fill_10 op B c l w hn hT hx hl h; rw [h]; exact this
theorem fillF_in (k : Int) (l : List (List UInt8)) : I64 (fillF k l).n := by
  have h0 : I64 0 := ⟨by decide, by decide⟩
  unfold fillF
  repeat' split
  all_goals first | exact h0 | exact numAt_in l _
theorem parts_le (k : Int) (rest : List UInt8) (h : rest.length < 10000) : (∀ x ∈ partsF k rest, x.length < 1000000) ∧ (partsF k rest).length < 1000000 := by
  have h1 := split_le rest sepT
  have h2 := split_len rest sepT
  have h3 := split_pos rest sepT
  unfold partsF
  simp only []
  obtain ⟨l, hl⟩ : ∃ l, Lib.split rest sepT = l := ⟨_, rfl⟩
  rw [hl] at h1 h2 h3 ⊢
  split
  · have hy : (l.getLastD []).length ≤ rest.length := by
      cases l with
      | nil => exact absurd rfl h3
      | cons a r =>
        exact h1 _ (by
          have : (a :: r).getLastD [] = (a :: r).getLast (by simp) := by simp [List.getLastD]
          rw [this]; exact List.getLast_mem _)
    obtain ⟨c1, c2⟩ := cut_le (l.getLastD []) [40]
    have c3 := Lib.trimSuffix_le (Lib.cut (l.getLastD []) [40]).2.1 [41]
    refine ⟨fun x hx => ?_, ?_⟩
    · rcases List.mem_append.1 hx with hx | hx
      · have := h1 x (List.dropLast_subset l hx)
        omega
      · simp only [List.mem_cons, List.not_mem_nil, or_false] at hx
        rcases hx with rfl | rfl <;> omega
    · rw [List.length_append, List.length_dropLast]
      simp only [List.length_cons, List.length_nil]
      omega
  · exact ⟨fun x hx => by have := h1 x hx; omega, by omega⟩
def parV (s : List UInt8) : Value := match parF s with
  | some y => insV y.1 y.2
  | none => insV 0 ⟨0, 0, 0, 0⟩
def parE (s : List UInt8) : Int := match parF s with
  | some _ => 0
  | none => 50
theorem inst_res (W : World) (B : Nat) (a b c d e z : Value) (tmps : Array Value) (ht : tmps[2]? = some (.pointer (some ⟨B, 0, none⟩))) (hz : tmps[3]? = some z) (hb : BoxN W B #[a, b, c, d, e]) : (results Tryz.f15 tmps).run Tryz.prog W = .ok (.tuple #[.agg #[a, b, c, d, e], z]) W := by
  obtain ⟨⟨k0, k1, k2, k3, k4⟩, -⟩ := box5 hb
  simp [results, Tryz.results15, go_sem, ht, hz, k0, k1, k2, k3, k4]
set_option maxRecDepth 100000 in
set_option maxHeartbeats 2000000 in
theorem parse_any (s : List UInt8) (w : World) (hn : NA w) (hl : s.length < 10000) :
    Calls Tryz.prog 15 #[.string ⟨s.toArray⟩] w fun e w' => e = .returned (.tuple #[parV s, .int .i64 (parE s)]) ∧ Below w.heap.size w w' := by
  obtain ⟨W1, hW1⟩ : ∃ W1, w.alloc (.cells #[.int .i64 0, .int .i64 0, .int .i64 0, .int .i64 0, .int .i64 0] 23) = W1 := ⟨_, rfl⟩
  have HBW := Lib.hid (show Below w.heap.size w W1 from hW1 ▸ bAlloc (Below.refl _ _) _)
  have HNW := Lib.hid (hn.on HBW.out)
  have HZ := Lib.hid (show BoxN W1 w.heap.size _ from hW1 ▸ BoxN.new w _ _)
  have HLT := Lib.hid (show w.heap.size < W1.heap.size from HZ.out.lt)
  have H1 := Lib.hid (cut_any s [32] W1 HNW.out (by omega))
  have hc2 := (cut_le s [32]).2
  have H2 := Lib.hid (fun W (hW : NA W) => find_any (Lib.cut s [32]).1 _ (find_fn _) W hW.nt)
  have H3 := Lib.hid (fun W (hW : NA W) => kind_any ((findF (Lib.cut s [32]).1 : Nat)) W hW.nt)
  simp only [kindA_eq] at H3
  have H4 := Lib.hid (fun W (hW : NA W) => parts_any (kindA ((findF (Lib.cut s [32]).1 : Nat))) (Lib.cut s [32]).2.1 W hW (by omega))
  obtain ⟨hp1, hp2⟩ := parts_le (kindA ((findF (Lib.cut s [32]).1 : Nat))) (Lib.cut s [32]).2.1 (by omega)
  have H5 := Lib.hid (fun W B c (hW : NA W) (hT : TX W B _) => fill_any ((findF (Lib.cut s [32]).1 : Nat)) B c (partsF (kindA ((findF (Lib.cut s [32]).1 : Nat))) (Lib.cut s [32]).2.1) W hW hT hp1 hp2)
  have hex : exP s = (((findF (Lib.cut s [32]).1 : Nat) : Int), fillF (kindA ((findF (Lib.cut s [32]).1 : Nat))) (partsF (kindA ((findF (Lib.cut s [32]).1 : Nat))) (Lib.cut s [32]).2.1)) := rfl
  have hfi := fillF_in (kindA ((findF (Lib.cut s [32]).1 : Nat))) (partsF (kindA ((findF (Lib.cut s [32]).1 : Nat))) (Lib.cut s [32]).2.1)
  obtain ⟨op, hop⟩ : ∃ op, findF (Lib.cut s [32]).1 = op := ⟨_, rfl⟩
  rw [hop] at H2 H3 H4 H5 hex hfi
  obtain ⟨xs, hxs⟩ : ∃ xs, partsF (kindA (op : Int)) (Lib.cut s [32]).2.1 = xs := ⟨_, rfl⟩
  unfold PartsPost at H4
  rw [hxs] at H4 H5 hex hfi
  obtain ⟨x, hx⟩ : ∃ x, fillF (kindA (op : Int)) xs = x := ⟨_, rfl⟩
  rw [hx] at H5 hex hfi
  have H6 := Lib.hid (fun W (hW : NA W) => print_any (op : Int) x W hW hfi)
  have hpar : parF s = if okI (op : Int) x = true ∧ textF op x.rd x.rs1 x.rs2 x.n = s then some ((op : Int), x) else none := by unfold parF; rw [hex]
  have HLX : Hid (w.heap.size < W1.heap.size) := HLT
  have HNM := Lib.hid hn
  obtain ⟨k, hk⟩ : ∃ k, kindA (op : Int) = k := ⟨_, rfl⟩
  rw [hk] at H3 H4
  obtain ⟨nm, hnm⟩ : ∃ nm, (Lib.cut s [32]).1 = nm := ⟨_, rfl⟩
  obtain ⟨rest, hrest⟩ : ∃ rest, (Lib.cut s [32]).2.1 = rest := ⟨_, rfl⟩
  rw [hnm, hrest] at H1
  rw [hnm] at H2
  rw [hrest] at H4
  have HW1 := Lib.hid hW1
  have HPAR := Lib.hid hpar
  unfold insV at H5
  unfold priT priE at H6
  by_cases hok : okI (op : Int) x = true
  · simp only [if_pos hok] at H6
    obtain ⟨t, ht⟩ : ∃ t, textF op x.rd x.rs1 x.rs2 x.n = t := ⟨_, rfl⟩
    rw [ht] at H6
    by_cases hts : t = s
    · have hp : parF s = some ((op : Int), x) := by rw [hpar, if_pos ⟨hok, ht.trans hts⟩]
      unfold parV parE
      rw [hp]
      simp only []
      unfold insV
      subst hts
      clear hn hl hW1 hc2 hp1 hp2 hex hfi hop hxs hx hpar hok ht hp hk hnm hrest HPAR
      obtain ⟨rd, rs1, rs2, n⟩ := x
      go_enter Tryz.func15, Tryz.ntmps15
      go_upto_region 1 with fail
      rw [HW1.out]
      clear HW1
      go_wp2_with (first
        | (go_at_call 32; refine H1.out.mono ?_; rintro e w2 ⟨rfl, hb⟩; have HBD := Lib.hid hb; have HND := Lib.hid (HNW.out.on hb); clear hb)
        | (go_at_call 33; refine (H2.out _ HND.out).mono ?_; rintro e w3 ⟨rfl, rfl⟩)
        | (go_at_call 36; refine (H3.out _ HND.out).mono ?_; rintro e w4 ⟨rfl, hb⟩; have HBD := Lib.hid (HBD.out.trans (hb.mono HBD.out.size)); have HND := Lib.hid (HND.out.on hb); clear hb)
        | (go_at_call 35; refine (H4.out _ HND.out).mono ?_; rintro e w5 ⟨B, c, rfl, hT, hb⟩; have HBD := Lib.hid (HBD.out.trans (hb.mono HBD.out.size)); have HND := Lib.hid (HND.out.on hb); have HT := Lib.hid hT; clear hb hT)
        | (go_at_call 34; refine (H5.out _ _ _ HND.out HT.out).mono ?_; rintro e w6 ⟨rfl, hb⟩; have HBD := Lib.hid (HBD.out.trans (hb.mono HBD.out.size)); have HND := Lib.hid (HND.out.on hb); clear hb)
        | (go_at_call 13; refine (H6.out _ (HND.out.alloc _)).mono ?_; rintro e w8 ⟨rfl, hb⟩; have hb6 := (bAlloc (Below.refl w6.heap.size w6) _).trans (hb.mono (Nat.le_of_lt (by simp))); have HB8 := Lib.hid (HBD.out.trans (hb6.mono HBD.out.size)); have bz := HZ.out.below HB8.out HLT.out; have bi := (BoxN.new w6 _ _).below hb (by simp); have BZ := Lib.hid bz; obtain ⟨⟨p0, p1, p2, p3, p4⟩, q0, q1, q2, q3, q4⟩ := box5 bz; obtain ⟨⟨r0, r1, r2, r3, r4⟩, -⟩ := box5 bi; clear hb hb6 bz bi))
      have hfin := (((((BZ.out.set 0 (.int .i64 op)).set 1 (.int .i64 rd)).set 2 (.int .i64 rs1)).set 3 (.int .i64 rs2)).set 4 (.int .i64 n))
      refine bodyPost_ret (v := .tuple #[.agg #[.int .i64 op, .int .i64 rd, .int .i64 rs1, .int .i64 rs2, .int .i64 n], .int .i64 0]) (inst_res _ w.heap.size _ _ _ _ _ _ _ rfl rfl hfin) rfl ⟨rfl, ?_⟩
      repeat (with_reducible refine Below.setCell ?_ (by exact Nat.le_refl _) _)
      exact HBW.out.trans (HB8.out.mono HBW.out.size)
    · have hp : parF s = none := by rw [hpar, if_neg (fun h => hts (ht.symm.trans h.2))]
      unfold parV parE
      rw [hp]
      simp only []
      unfold insV
      have d1 : (t == s) = false := by simpa using hts
      have d2 : (t != s) = true := by simpa using hts
      clear hn hl hW1 hc2 hp1 hp2 hex hfi hop hxs hx hpar hok ht hp hk hnm hrest HPAR hts
      obtain ⟨rd, rs1, rs2, n⟩ := x
      go_enter Tryz.func15, Tryz.ntmps15
      go_upto_region 1 with fail
      rw [HW1.out]
      clear HW1
      go_wp2_with (first
        | (go_at_call 32; refine H1.out.mono ?_; rintro e w2 ⟨rfl, hb⟩; have HBD := Lib.hid hb; have HND := Lib.hid (HNW.out.on hb); clear hb)
        | (go_at_call 33; refine (H2.out _ HND.out).mono ?_; rintro e w3 ⟨rfl, rfl⟩)
        | (go_at_call 36; refine (H3.out _ HND.out).mono ?_; rintro e w4 ⟨rfl, hb⟩; have HBD := Lib.hid (HBD.out.trans (hb.mono HBD.out.size)); have HND := Lib.hid (HND.out.on hb); clear hb)
        | (go_at_call 35; refine (H4.out _ HND.out).mono ?_; rintro e w5 ⟨B, c, rfl, hT, hb⟩; have HBD := Lib.hid (HBD.out.trans (hb.mono HBD.out.size)); have HND := Lib.hid (HND.out.on hb); have HT := Lib.hid hT; clear hb hT)
        | (go_at_call 34; refine (H5.out _ _ _ HND.out HT.out).mono ?_; rintro e w6 ⟨rfl, hb⟩; have HBD := Lib.hid (HBD.out.trans (hb.mono HBD.out.size)); have HND := Lib.hid (HND.out.on hb); clear hb)
        | (go_at_call 13; refine (H6.out _ (HND.out.alloc _)).mono ?_; rintro e w8 ⟨rfl, hb⟩; have hb6 := (bAlloc (Below.refl w6.heap.size w6) _).trans (hb.mono (Nat.le_of_lt (by simp))); have HB8 := Lib.hid (HBD.out.trans (hb6.mono HBD.out.size)); have bz := HZ.out.below HB8.out HLT.out; have bi := (BoxN.new w6 _ _).below hb (by simp); have BZ := Lib.hid bz; obtain ⟨⟨p0, p1, p2, p3, p4⟩, q0, q1, q2, q3, q4⟩ := box5 bz; obtain ⟨⟨r0, r1, r2, r3, r4⟩, -⟩ := box5 bi; clear hb hb6 bz bi))
      have hfin := (((((BZ.out.set 0 (.int .i64 0)).set 1 (.int .i64 0)).set 2 (.int .i64 0)).set 3 (.int .i64 0)).set 4 (.int .i64 0))
      refine bodyPost_ret (v := .tuple #[.agg #[.int .i64 0, .int .i64 0, .int .i64 0, .int .i64 0, .int .i64 0], .int .i64 50]) (inst_res _ w.heap.size _ _ _ _ _ _ _ rfl rfl hfin) rfl ⟨rfl, ?_⟩
      repeat (with_reducible refine Below.setCell ?_ (by exact Nat.le_refl _) _)
      exact HBW.out.trans (HB8.out.mono HBW.out.size)
  · simp only [if_neg hok] at H6
    case neg =>
      have hp : parF s = none := by rw [hpar, if_neg (fun h => hok h.1)]
      unfold parV parE
      rw [hp]
      simp only []
      unfold insV
      clear hn hl hW1 hc2 hp1 hp2 hex hfi hop hxs hx hpar hok hp hk hnm hrest HPAR
      obtain ⟨rd, rs1, rs2, n⟩ := x
      go_enter Tryz.func15, Tryz.ntmps15
      go_upto_region 1 with fail
      rw [HW1.out]
      clear HW1
      go_wp2_with (first
        | (go_at_call 32; refine H1.out.mono ?_; rintro e w2 ⟨rfl, hb⟩; have HBD := Lib.hid hb; have HND := Lib.hid (HNW.out.on hb); clear hb)
        | (go_at_call 33; refine (H2.out _ HND.out).mono ?_; rintro e w3 ⟨rfl, rfl⟩)
        | (go_at_call 36; refine (H3.out _ HND.out).mono ?_; rintro e w4 ⟨rfl, hb⟩; have HBD := Lib.hid (HBD.out.trans (hb.mono HBD.out.size)); have HND := Lib.hid (HND.out.on hb); clear hb)
        | (go_at_call 35; refine (H4.out _ HND.out).mono ?_; rintro e w5 ⟨B, c, rfl, hT, hb⟩; have HBD := Lib.hid (HBD.out.trans (hb.mono HBD.out.size)); have HND := Lib.hid (HND.out.on hb); have HT := Lib.hid hT; clear hb hT)
        | (go_at_call 34; refine (H5.out _ _ _ HND.out HT.out).mono ?_; rintro e w6 ⟨rfl, hb⟩; have HBD := Lib.hid (HBD.out.trans (hb.mono HBD.out.size)); have HND := Lib.hid (HND.out.on hb); clear hb)
        | (go_at_call 13; refine (H6.out _ (HND.out.alloc _)).mono ?_; rintro e w8 ⟨rfl, hb⟩; have hb6 := (bAlloc (Below.refl w6.heap.size w6) _).trans (hb.mono (Nat.le_of_lt (by simp))); have HB8 := Lib.hid (HBD.out.trans (hb6.mono HBD.out.size)); have bz := HZ.out.below HB8.out HLT.out; have bi := (BoxN.new w6 _ _).below hb (by simp); have BZ := Lib.hid bz; obtain ⟨⟨p0, p1, p2, p3, p4⟩, q0, q1, q2, q3, q4⟩ := box5 bz; obtain ⟨⟨r0, r1, r2, r3, r4⟩, -⟩ := box5 bi; clear hb hb6 bz bi))
      have hfin := (((((BZ.out.set 0 (.int .i64 0)).set 1 (.int .i64 0)).set 2 (.int .i64 0)).set 3 (.int .i64 0)).set 4 (.int .i64 0))
      refine bodyPost_ret (v := .tuple #[.agg #[.int .i64 0, .int .i64 0, .int .i64 0, .int .i64 0, .int .i64 0], .int .i64 50]) (inst_res _ w.heap.size _ _ _ _ _ _ _ rfl rfl hfin) rfl ⟨rfl, ?_⟩
      repeat (with_reducible refine Below.setCell ?_ (by exact Nat.le_refl _) _)
      exact HBW.out.trans (HB8.out.mono HBW.out.size)
end Go.Proofs.YtdpmihlmfephiaaGreatDoor
