/- The document's Parse; AsmParses: the law's walk. -/
import Derived.Test.YtdpmihlmfephiaaGreatDoorAd4
namespace Go.Proofs.YtdpmihlmfephiaaGreatDoor
set_option linter.unusedVariables false
set_option linter.unusedSimpArgs false
open Go.Joins Go.ChangeShapes Go.WideShapes Go.ChangeAt Go.RowKit Go.Deep

def NumOk : Option (Nat × Nat) → Prop
  | none => True
  | some (k, a) => a < 1000000000000 ∧ (k < 12 → a < 10 ^ k)
theorem sgnD_in (p : UInt8) (a : Nat) (h : a < 1000000000000) : I64 (sgnD p a) := by
  unfold sgnD I64
  split <;> omega
theorem numsG_in : ∀ (r : List UInt8) (p : UInt8) (st : Option (Nat × Nat)), NumOk st → ∀ x ∈ numsG p st r, I64 x
  | [], p, none, _, x, hx => by simp [numsG] at hx
  | [], p, some (k, a), h, x, hx => by
    simp [numsG] at hx
    subst hx
    exact sgnD_in p a h.1
  | c :: r, p, none, _, x, hx => by
    unfold numsG at hx
    split at hx
    · rename_i hc
      have hc' := (isDg_iff c).1 hc
      exact numsG_in r p (some (1, c.toNat - 48)) ⟨by omega, fun _ => by rw [Nat.pow_one]; omega⟩ x hx
    · exact numsG_in r c none trivial x hx
  | c :: r, p, some (k, a), h, x, hx => by
    unfold numsG at hx
    split at hx
    · rename_i hc
      have hc' := (isDg_iff c).1 hc
      refine numsG_in r p _ ?_ x hx
      by_cases hk : k < 12
      · rw [if_pos hk]
        have h1 := pow_step (h.2 hk) (show c.toNat - 48 < 10 by omega)
        exact ⟨Nat.lt_of_lt_of_le h1 (pow12 (by omega)), fun _ => h1⟩
      · rw [if_neg hk]
        exact ⟨h.1, fun h' => absurd h' (by omega)⟩
    · rcases List.mem_cons.1 hx with rfl | hx
      · exact sgnD_in p a h.1
      · exact numsG_in r c none trivial x hx
theorem getD_in {l : List Int} (h : ∀ x ∈ l, I64 x) (i : Nat) : I64 (l.getD i 0) := by
  rcases Nat.lt_or_ge i l.length with q | q
  · have e : l.getD i 0 = l[i] := by simp [q]
    rw [e]; exact h _ (List.getElem_mem q)
  · have e : l.getD i 0 = 0 := by simp [List.getElem?_eq_none q]
    rw [e]; exact ⟨by decide, by decide⟩
theorem fillD_in (k : Int) (l : List Int) (h : ∀ x ∈ l, I64 x) : I64 (fillD k l).n := by
  have h0 : I64 0 := ⟨by decide, by decide⟩
  unfold fillD
  simp only []
  repeat' split
  all_goals first | exact h0 | exact getD_in h _
theorem numsX_in (s : List UInt8) : ∀ x ∈ numsX s, I64 x := fun x hx => numsG_in s 0 none trivial x (List.mem_of_mem_take hx)
theorem findF_nil : findF [] = 0 := by decide +kernel
theorem par_of {s : List UInt8} (h : parD s = none) : parV s = insV 0 ⟨0, 0, 0, 0⟩ ∧ parE s = 50 := par_none (by rw [← parD_eq]; exact h)
theorem first_le (s : List UInt8) : (firstF s).length ≤ s.length := by unfold firstF; exact (List.takeWhile_sublist _).length_le
theorem rinst_res (W : World) (B : Nat) (a b c d e z : Value) (tmps : Array Value) (ht : tmps[2]? = some (.pointer (some ⟨B, 0, none⟩))) (hz : tmps[3]? = some z) (hb : BoxN W B #[a, b, c, d, e]) : (results Tryz.f16 tmps).run Tryz.prog W = .ok (.tuple #[.agg #[a, b, c, d, e], z]) W := by
  obtain ⟨⟨k0, k1, k2, k3, k4⟩, -⟩ := box5 hb
  simp [results, Tryz.results16, go_sem, ht, hz, k0, k1, k2, k3, k4]
set_option maxRecDepth 100000 in
set_option maxHeartbeats 2000000 in
theorem rparse_any (s : List UInt8) (w : World) (hl : s.length < 10000) :
    Calls Tryz.prog 16 #[.string ⟨s.toArray⟩] w fun e w' => e = .returned (.tuple #[parV s, .int .i64 (parE s)]) ∧ Below w.heap.size w w' := by
  obtain ⟨W1, hW1⟩ : ∃ W1, w.alloc (.cells #[.int .i64 0, .int .i64 0, .int .i64 0, .int .i64 0, .int .i64 0] 23) = W1 := ⟨_, rfl⟩
  have HBW := Lib.hid (show Below w.heap.size w W1 from hW1 ▸ bAlloc (Below.refl _ _) _)
  have HZ := Lib.hid (show BoxN W1 w.heap.size _ from hW1 ▸ BoxN.new w _ _)
  have HLT := Lib.hid (show w.heap.size < W1.heap.size from HZ.out.lt)
  have HFI := Lib.hid (fun W => rfirst_any s W (by omega))
  have hpar : parD s = if findF (firstF s) ≠ 0 ∧ okI (exD s).1 (exD s).2 = true ∧ textF (exD s).1 (exD s).2.rd (exD s).2.rs1 (exD s).2.rs2 (exD s).2.n = s then some (exD s) else none := rfl
  have hfl := first_le s
  have hex : exD s = (((findF (firstF s) : Nat) : Int), fillD (kindA (findF (firstF s) : Nat)) (numsX (s.drop (firstF s).length))) := rfl
  obtain ⟨nm, hnm⟩ : ∃ nm, firstF s = nm := ⟨_, rfl⟩
  rw [hnm] at HFI hpar hfl hex
  have HW1 := Lib.hid hW1
  by_cases hn0 : nm = []
  · have hp : parD s = none := by rw [hpar, if_neg (fun h => h.1 (by rw [hn0]; exact findF_nil))]
    rw [(par_of hp).1, (par_of hp).2]
    unfold insV
    subst hn0
    clear hp hpar hex hnm hfl hW1 hl
    go_enter Tryz.func16, Tryz.ntmps16
    go_upto_region 1 with fail
    rw [HW1.out]
    clear HW1
    obtain ⟨⟨p0, p1, p2, p3, p4⟩, q0, q1, q2, q3, q4⟩ := box5 HZ.out
    go_wp2_with (go_at_call 37; refine (HFI.out _).mono ?_; rintro e w2 ⟨rfl, rfl⟩)
    have hfin := (((((HZ.out.set 0 (.int .i64 0)).set 1 (.int .i64 0)).set 2 (.int .i64 0)).set 3 (.int .i64 0)).set 4 (.int .i64 0))
    refine bodyPost_ret (v := .tuple #[.agg #[.int .i64 0, .int .i64 0, .int .i64 0, .int .i64 0, .int .i64 0], .int .i64 50]) (rinst_res _ w.heap.size _ _ _ _ _ _ _ rfl rfl hfin) rfl ⟨rfl, ?_⟩
    repeat (with_reducible refine Below.setCell ?_ (by exact Nat.le_refl _) _)
    exact HBW.out
  have hne1 : (nm == []) = false := by simpa using hn0
  have HFD := Lib.hid (fun W => rfind_any nm _ (find_fn nm) W)
  obtain ⟨op, hop⟩ : ∃ op, findF nm = op := ⟨_, rfl⟩
  rw [hop] at HFD hpar hex
  by_cases ho0 : op = 0
  · have hp : parD s = none := by rw [hpar, if_neg (fun h => h.1 ho0)]
    rw [(par_of hp).1, (par_of hp).2]
    unfold insV
    subst ho0
    clear hp hpar hex hnm hfl hW1 hl hop
    go_enter Tryz.func16, Tryz.ntmps16
    go_upto_region 1 with fail
    rw [HW1.out]
    clear HW1
    go_wp2_with (first
      | (go_at_call 37; refine (HFI.out _).mono ?_; rintro e w2 ⟨rfl, rfl⟩)
      | (go_at_call 23; refine (HFD.out _).mono ?_; rintro e w3 ⟨rfl, hb⟩; have HB3 := Lib.hid hb; have bz := HZ.out.below hb HLT.out; obtain ⟨⟨p0, p1, p2, p3, p4⟩, q0, q1, q2, q3, q4⟩ := box5 bz; clear hb bz))
    have hfin := ((((((HZ.out.below HB3.out HLT.out).set 0 (.int .i64 0)).set 1 (.int .i64 0)).set 2 (.int .i64 0)).set 3 (.int .i64 0)).set 4 (.int .i64 0))
    refine bodyPost_ret (v := .tuple #[.agg #[.int .i64 0, .int .i64 0, .int .i64 0, .int .i64 0, .int .i64 0], .int .i64 50]) (rinst_res _ w.heap.size _ _ _ _ _ _ _ rfl rfl hfin) rfl ⟨rfl, ?_⟩
    repeat (with_reducible refine Below.setCell ?_ (by exact Nat.le_refl _) _)
    exact HBW.out.trans (HB3.out.mono HBW.out.size)
  have hole := findF_le nm
  rw [hop] at hole
  have hd0 : ((op : Int) == 0) = false := by
    have : ¬ (op : Int) = 0 := by omega
    simpa using this
  have hd0n : (op == 0) = false := by simpa using ho0
  have hsz : (⟨s.toArray⟩ : ByteArray).size = s.length := mk_size s
  have hsn : (⟨nm.toArray⟩ : ByteArray).size = nm.length := mk_size nm
  have hex1 : (⟨s.toArray⟩ : ByteArray).extract nm.length s.length = ⟨(s.drop nm.length).toArray⟩ := by rw [Lib.extract_mk, ← List.length_drop, List.take_length]
  have HNU := Lib.hid (fun W => rnumbers_any (s.drop nm.length) W (by rw [List.length_drop]; omega))
  have hnl4 : (numsX (s.drop nm.length)).length ≤ 4 := List.length_take_le _ _
  have HFL := Lib.hid (fun v B0 W ho hB => rfill_any (op : Int) (numsX (s.drop nm.length)) B0 v W (by omega) hnl4 ho hB)
  have hfi := fillD_in (kindA (op : Int)) _ (numsX_in (s.drop nm.length))
  obtain ⟨x, hx⟩ : ∃ x, fillD (kindA (op : Int)) (numsX (s.drop nm.length)) = x := ⟨_, rfl⟩
  rw [hx] at HFL hex hfi
  have HRP := Lib.hid (fun W => rprint_any (op : Int) x W hfi)
  unfold priT priE at HRP
  rw [hex] at hpar
  simp only [] at hpar
  unfold insV at HFL
  obtain ⟨xs, hxs⟩ : ∃ xs, numsX (s.drop nm.length) = xs := ⟨_, rfl⟩
  rw [hxs] at HNU HFL
  obtain ⟨dr, hdr⟩ : ∃ dr, s.drop nm.length = dr := ⟨_, rfl⟩
  rw [hdr] at HNU hex1
  obtain ⟨ln, hln⟩ : ∃ ln, nm.length = ln := ⟨_, rfl⟩
  rw [hln] at hsn hex1 hfl
  have hfli : (ln : Int) ≤ (s.length : Int) := by omega
  by_cases hok : okI (op : Int) x = true
  · simp only [if_pos hok] at HRP
    obtain ⟨t, ht⟩ : ∃ t, textF op x.rd x.rs1 x.rs2 x.n = t := ⟨_, rfl⟩
    rw [ht] at HRP hpar
    by_cases hts : t = s
    · have hp : parF s = some ((op : Int), x) := by rw [← parD_eq, hpar, if_pos ⟨ho0, hok, hts⟩]
      rw [(par_some hp).1, (par_some hp).2]
      unfold insV
      subst hts
      clear hl hW1 hpar hok hp hfl hex hop hnm hx hfi hxs hdr hln hole hnl4 ht
      obtain ⟨rd, rs1, rs2, n⟩ := x
      go_enter Tryz.func16, Tryz.ntmps16
      go_upto_region 1 with fail
      rw [HW1.out]
      clear HW1
      go_wp2_with (first
        | (go_at_call 37; refine (HFI.out _).mono ?_; rintro e w2 ⟨rfl, rfl⟩)
        | (go_at_call 23; refine (HFD.out _).mono ?_; rintro e w3 ⟨rfl, hb⟩; have HB3 := Lib.hid hb; clear hb)
        | (go_at_call 39; refine (HNU.out _).mono ?_; rintro e w4 ⟨v, rfl, hown, hb⟩; have HOW := Lib.hid hown; have HB4 := Lib.hid hb; clear hown hb)
        | (go_at_call 38; refine (HFL.out _ _ _ HOW.out HB4.out.size).mono ?_; rintro e w5 ⟨rfl, hb⟩; have HB5 : Hid (Below W1.heap.size W1 w5) := Lib.hid (HB3.out.trans ((HB4.out.trans hb).mono HB3.out.size)); clear hb)
        | (go_at_call 14; refine (HRP.out _).mono ?_; rintro e w6 ⟨rfl, hb⟩; have hb6 := (bAlloc (Below.refl w5.heap.size w5) _).trans (hb.mono (Nat.le_of_lt (by simp))); have HB6 := Lib.hid (HB5.out.trans (hb6.mono HB5.out.size)); have bz := HZ.out.below HB6.out HLT.out; have bi := (BoxN.new w5 _ _).below hb (by simp); have BZ := Lib.hid bz; obtain ⟨⟨p0, p1, p2, p3, p4⟩, q0, q1, q2, q3, q4⟩ := box5 bz; obtain ⟨⟨r0, r1, r2, r3, r4⟩, -⟩ := box5 bi; clear hb hb6 bz bi))
      have hfin := (((((BZ.out.set 0 (.int .i64 op)).set 1 (.int .i64 rd)).set 2 (.int .i64 rs1)).set 3 (.int .i64 rs2)).set 4 (.int .i64 n))
      refine bodyPost_ret (v := .tuple #[.agg #[.int .i64 op, .int .i64 rd, .int .i64 rs1, .int .i64 rs2, .int .i64 n], .int .i64 0]) (rinst_res _ w.heap.size _ _ _ _ _ _ _ rfl rfl hfin) rfl ⟨rfl, ?_⟩
      repeat (with_reducible refine Below.setCell ?_ (by exact Nat.le_refl _) _)
      exact HBW.out.trans (HB6.out.mono HBW.out.size)
    · have hp : parD s = none := by rw [hpar, if_neg (fun h => hts h.2.2)]
      rw [(par_of hp).1, (par_of hp).2]
      unfold insV
      have d1 : (t == s) = false := by simpa using hts
      have d2 : (t != s) = true := by simpa using hts
      clear hl hW1 hpar hok hp hfl hex hop hnm hx hfi hxs hdr hln hole hnl4 ht hts
      obtain ⟨rd, rs1, rs2, n⟩ := x
      go_enter Tryz.func16, Tryz.ntmps16
      go_upto_region 1 with fail
      rw [HW1.out]
      clear HW1
      go_wp2_with (first
        | (go_at_call 37; refine (HFI.out _).mono ?_; rintro e w2 ⟨rfl, rfl⟩)
        | (go_at_call 23; refine (HFD.out _).mono ?_; rintro e w3 ⟨rfl, hb⟩; have HB3 := Lib.hid hb; clear hb)
        | (go_at_call 39; refine (HNU.out _).mono ?_; rintro e w4 ⟨v, rfl, hown, hb⟩; have HOW := Lib.hid hown; have HB4 := Lib.hid hb; clear hown hb)
        | (go_at_call 38; refine (HFL.out _ _ _ HOW.out HB4.out.size).mono ?_; rintro e w5 ⟨rfl, hb⟩; have HB5 : Hid (Below W1.heap.size W1 w5) := Lib.hid (HB3.out.trans ((HB4.out.trans hb).mono HB3.out.size)); clear hb)
        | (go_at_call 14; refine (HRP.out _).mono ?_; rintro e w6 ⟨rfl, hb⟩; have hb6 := (bAlloc (Below.refl w5.heap.size w5) _).trans (hb.mono (Nat.le_of_lt (by simp))); have HB6 := Lib.hid (HB5.out.trans (hb6.mono HB5.out.size)); have bz := HZ.out.below HB6.out HLT.out; have bi := (BoxN.new w5 _ _).below hb (by simp); have BZ := Lib.hid bz; obtain ⟨⟨p0, p1, p2, p3, p4⟩, q0, q1, q2, q3, q4⟩ := box5 bz; obtain ⟨⟨r0, r1, r2, r3, r4⟩, -⟩ := box5 bi; clear hb hb6 bz bi))
      have hfin := (((((BZ.out.set 0 (.int .i64 0)).set 1 (.int .i64 0)).set 2 (.int .i64 0)).set 3 (.int .i64 0)).set 4 (.int .i64 0))
      refine bodyPost_ret (v := .tuple #[.agg #[.int .i64 0, .int .i64 0, .int .i64 0, .int .i64 0, .int .i64 0], .int .i64 50]) (rinst_res _ w.heap.size _ _ _ _ _ _ _ rfl rfl hfin) rfl ⟨rfl, ?_⟩
      repeat (with_reducible refine Below.setCell ?_ (by exact Nat.le_refl _) _)
      exact HBW.out.trans (HB6.out.mono HBW.out.size)
  · simp only [if_neg hok] at HRP
    have hp : parD s = none := by rw [hpar, if_neg (fun h => hok h.2.1)]
    rw [(par_of hp).1, (par_of hp).2]
    unfold insV
    clear hl hW1 hpar hok hp hfl hex hop hnm hx hfi hxs hdr hln hole hnl4
    obtain ⟨rd, rs1, rs2, n⟩ := x
    go_enter Tryz.func16, Tryz.ntmps16
    go_upto_region 1 with fail
    rw [HW1.out]
    clear HW1
    go_wp2_with (first
      | (go_at_call 37; refine (HFI.out _).mono ?_; rintro e w2 ⟨rfl, rfl⟩)
      | (go_at_call 23; refine (HFD.out _).mono ?_; rintro e w3 ⟨rfl, hb⟩; have HB3 := Lib.hid hb; clear hb)
      | (go_at_call 39; refine (HNU.out _).mono ?_; rintro e w4 ⟨v, rfl, hown, hb⟩; have HOW := Lib.hid hown; have HB4 := Lib.hid hb; clear hown hb)
      | (go_at_call 38; refine (HFL.out _ _ _ HOW.out HB4.out.size).mono ?_; rintro e w5 ⟨rfl, hb⟩; have HB5 : Hid (Below W1.heap.size W1 w5) := Lib.hid (HB3.out.trans ((HB4.out.trans hb).mono HB3.out.size)); clear hb)
      | (go_at_call 14; refine (HRP.out _).mono ?_; rintro e w6 ⟨rfl, hb⟩; have hb6 := (bAlloc (Below.refl w5.heap.size w5) _).trans (hb.mono (Nat.le_of_lt (by simp))); have HB6 := Lib.hid (HB5.out.trans (hb6.mono HB5.out.size)); have bz := HZ.out.below HB6.out HLT.out; have bi := (BoxN.new w5 _ _).below hb (by simp); have BZ := Lib.hid bz; obtain ⟨⟨p0, p1, p2, p3, p4⟩, q0, q1, q2, q3, q4⟩ := box5 bz; obtain ⟨⟨r0, r1, r2, r3, r4⟩, -⟩ := box5 bi; clear hb hb6 bz bi))
    have hfin := (((((BZ.out.set 0 (.int .i64 0)).set 1 (.int .i64 0)).set 2 (.int .i64 0)).set 3 (.int .i64 0)).set 4 (.int .i64 0))
    refine bodyPost_ret (v := .tuple #[.agg #[.int .i64 0, .int .i64 0, .int .i64 0, .int .i64 0, .int .i64 0], .int .i64 50]) (rinst_res _ w.heap.size _ _ _ _ _ _ _ rfl rfl hfin) rfl ⟨rfl, ?_⟩
    repeat (with_reducible refine Below.setCell ?_ (by exact Nat.le_refl _) _)
    exact HBW.out.trans (HB6.out.mono HBW.out.size)
end Go.Proofs.YtdpmihlmfephiaaGreatDoor
