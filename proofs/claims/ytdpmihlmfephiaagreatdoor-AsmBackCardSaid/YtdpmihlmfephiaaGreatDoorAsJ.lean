/- The texts of operands: the program's parts. -/
import Derived.Test.YtdpmihlmfephiaaGreatDoorAsI
import Derived.Deep.AppendSrc
import Derived.Maps.AppendAt
import Derived.Deep.RegionLaw
namespace Go.Proofs.YtdpmihlmfephiaaGreatDoor
set_option linter.unusedVariables false
set_option linter.unusedSimpArgs false
open Go.Joins Go.ChangeShapes Go.WideShapes Go.ChangeAt Go.RowKit Go.Deep

theorem infoStr : (Tryz.prog.info? 9).map (fun i => (i.zero, i.size, i.bytes)) = some (some (.string ⟨#[]⟩), 1, 16) := by kernel_rfl
/-- texts behind others, in a new row: there is no room -/
theorem app_texts (W : World) (ty : TypeId) (B C m : Nat) (ys zs : List (List UInt8)) (hy : ys.length = m) (hz : zs.length = 2) (hB : TX W B ys) (hC : TX W C zs) (hm : m ≤ 1000000) :
    ∃ cap W', (Builtin.append_ #[47, 47] ty #[.slice (some ⟨B, 0, none⟩) m (m + 1), .slice (some ⟨C, 0, none⟩) 2 2]).run Tryz.prog W = .ok (.slice (some ⟨W.heap.size, 0, none⟩) (m + 2) cap) W' ∧ TX W' W.heap.size (ys ++ zs) ∧ Below W.heap.size W W' := by
  obtain ⟨i0, hi, hz0, hz1, hz2⟩ := info_parts infoStr
  have hb : Builtin.nextslicecap (m + 2) (m + 1) * i0.bytes ≤ 281474976710656 := by
    rw [hz2]; exact growslice_fits (by omega) (by omega)
  have hrun := run_append_grow_src (P := Tryz.prog) (w := W) 47 47 ty 9 i0 _ Tryz.underlying47 hi hz0 (some ⟨B, 0, none⟩) m (m + 1) (ys.map strV)
    (by rw [hz1]; exact run_firstCells_some W.drew 1 m ⟨B, 0, none⟩ m (m + 1) (ys.map strV) (by simp [hy]) (fun j u hj => by
      rw [List.getElem?_map] at hj
      cases hq : ys[j]? with
      | none => rw [hq] at hj; cases hj
      | some y =>
        rw [hq] at hj
        obtain rfl := Option.some.inj hj
        rw [add_plain]
        simpa using hB.cell j y hq)) (.slice (some ⟨C, 0, none⟩) 2 2) 2 (zs.map strV)
    (by rw [hz1]; exact Src.ofSlice W Tryz.underlying47 ⟨C, 0, none⟩ 2 2 (zs.map strV) (by simp [hz]) (fun j u hj => by
      rw [List.getElem?_map] at hj
      cases hq : zs[j]? with
      | none => rw [hq] at hj; cases hj
      | some y =>
        rw [hq] at hj
        obtain rfl := Option.some.inj hj
        rw [add_plain]
        simpa using hC.cell j y hq) (fun u hu => by
      obtain ⟨y, -, rfl⟩ := List.mem_map.1 hu
      rfl)) (by omega) (by omega) hb
  refine ⟨_, _, hrun, ⟨by simp, fun j x hx => ?_⟩, bAlloc (Below.drew (Below.refl _ _)) _⟩
  have : (W.drew.alloc (.cells ((ys.map strV ++ zs.map strV).toArray ++ Builtin.zeroCells (Value.cells (Value.string ⟨#[]⟩)) (grownCap W (m + 2) (m + 1) 9 - (m + 2))) 9)).cell? ⟨W.drew.heap.size, j, none⟩ = some (strV x) := by
    rw [World.cell?_alloc_new]
    have hj : j < (ys.map strV ++ zs.map strV).toArray.size := by
      have := (List.getElem?_eq_some_iff.1 hx).1
      simpa using this
    rw [Array.getElem?_append_left hj, List.getElem?_toArray, ← List.map_append, List.getElem?_map, hx]
    rfl
  exact this
def PartsPost (k : Int) (rest : List UInt8) (w : World) (e : Ending) (w' : World) : Prop :=
  ∃ B c, e = .returned (.slice (some ⟨B, 0, none⟩) (partsF k rest).length c) ∧ TX w' B (partsF k rest) ∧ Below w.heap.size w w'
theorem split_pos (l sep : List UInt8) : Lib.split l sep ≠ [] := by
  unfold Lib.split
  cases Lib.count l sep with
  | zero => simp [Lib.splitK]
  | succ k =>
    unfold Lib.splitK
    split <;> simp
theorem splitK_le (sep : List UInt8) : ∀ (k : Nat) (s : List UInt8), ∀ x ∈ Lib.splitK sep 0 k s, x.length ≤ s.length
  | 0, s, x, hx => by
    simp only [Lib.splitK, List.mem_singleton] at hx
    subst hx; exact Nat.le_refl _
  | k + 1, s, x, hx => by
    unfold Lib.splitK at hx
    split at hx
    · simp only [List.mem_singleton] at hx
      subst hx; exact Nat.le_refl _
    · rcases List.mem_cons.1 hx with rfl | hx
      · rw [List.length_take]; omega
      · have := splitK_le sep k _ x hx
        rw [List.length_drop] at this; omega
theorem split_le (l sep : List UInt8) : ∀ x ∈ Lib.split l sep, x.length ≤ l.length := splitK_le sep _ l
theorem split_len (l sep : List UInt8) : (Lib.split l sep).length ≤ l.length + 2 := by
  have h := Lib.splitB_length_le ⟨sep.toArray⟩ 0 (Lib.count l sep) ⟨l.toArray⟩
  have h2 := congrArg List.length (Lib.splitB_data ⟨sep.toArray⟩ 0 (Lib.count l sep) ⟨l.toArray⟩)
  rw [List.length_map] at h2
  have h3 := Lib.count_le l sep
  have e : Lib.split l sep = Lib.splitK (⟨sep.toArray⟩ : ByteArray).data.toList 0 (Lib.count l sep) (⟨l.toArray⟩ : ByteArray).data.toList := rfl
  rw [e, ← h2]
  omega
theorem cut_le (l sep : List UInt8) : (Lib.cut l sep).1.length ≤ l.length ∧ (Lib.cut l sep).2.1.length ≤ l.length := by
  unfold Lib.cut
  split
  · simp only [List.length_take, List.length_drop]; omega
  · simp
theorem step_run (w : World) {ops : Array Oper} {o : Oper} {a : Act} {K : Act → World → Prop} {Q : Exit → Act → World → Prop} {E : Prop} (hgd : o.guard = none) (s x : Operand) (ho : o.op = .call { callee := .builtin .append, args := #[s, x], argTypes := #[47, 47] })
    (v u r : Value) (w' : World) (hs : a.eval s = v) (hx : a.eval x = u) (hrun : (Builtin.append_ #[47, 47] o.type #[v, u]).run Tryz.prog w = .ok r w') (h : K (a.put o.dst r) w') :
    if Region.wanted o (yielded ops a.tmps) = true then Oper.wp Tryz.prog o a w K Q else E := by
  have hw : Region.wanted o (yielded ops a.tmps) = true := by simp [Region.wanted, hgd]
  rw [if_pos hw]
  unfold Oper.wp execOp
  simp only [ho, resolve, invoke, builtin, Sem.run_bind, Sem.run_pure, Result.andThen_ok, List.map_toArray, List.map_cons, List.map_nil, hs, hx, hrun]
  exact h
theorem slice_less (m B : Nat) (W : World) : (Instr.slice 47 (.slice (some ⟨B, 0, none⟩) (m + 1) (m + 1)) none (some (.int .i64 (m : Int))) none).run Tryz.prog W = .ok (.slice (some ⟨B, 0, none⟩) m (m + 1)) W := by
  have ht : Tryz.prog.underlying 47 = some (.slice (Tryz.prog.elem 47)) := by kernel_rfl
  have hz : (sizeOf (Tryz.prog.elem 47)).run Tryz.prog W = .ok 1 W := by kernel_rfl
  rw [run_slice_h W 47 (some ⟨B, 0, none⟩) (m + 1) (m + 1) ht .i64 (m : Int) (Int.natCast_nonneg _) (by omega), hz]
  simp [Result.andThen, sliced, Addr.add]
theorem sliceAt_less (m B : Nat) (W : World) : (Instr.sliceAt 47 (.slice (some ⟨B, 0, none⟩) (m + 1) (m + 1)) none (some (.int .i64 (m : Int))) none).run Tryz.prog W = .ok (.slice (some ⟨B, 0, none⟩) m (m + 1)) W := by
  have ht : Tryz.prog.underlying 47 = some (.slice (Tryz.prog.elem 47)) := by kernel_rfl
  rw [run_sliceAt_slice W _ _ _ _ _ ht]
  exact slice_less m B W
set_option maxHeartbeats 1000000 in
set_option maxRecDepth 100000 in
theorem parts_any (k : Int) (rest : List UInt8) (w : World) (hn : NA w) (hl : rest.length < 10000) :
    Calls Tryz.prog 35 #[.int .i64 k, .string ⟨rest.toArray⟩] w (PartsPost k rest w) := by
  have H1 := Lib.hid (split_any rest sepT w hn (by omega) (by decide))
  have hne := split_pos rest sepT
  have hle := split_le rest sepT
  have hln := split_len rest sepT
  have HTX := Lib.hid (TX.split w (Lib.split rest sepT))
  have HBS := Lib.hid (below_split w (Lib.split rest sepT))
  have HNS := Lib.hid (hn.on (below_split w (Lib.split rest sepT)))
  unfold PartsPost partsF
  obtain ⟨l, hlx⟩ : ∃ l, Lib.split rest sepT = l := ⟨_, rfl⟩
  rw [hlx] at H1 hne hle hln HTX HBS HNS ⊢
  simp only []
  obtain ⟨W2, hW2⟩ : ∃ W2, splitW w l = W2 := ⟨_, rfl⟩
  rw [hW2] at H1 HTX HBS HNS
  by_cases hk : (k == 3) = true ∨ (k == 4) = true
  · rw [if_pos hk]
    obtain ⟨ys, y, rfl⟩ : ∃ ys y, l = ys ++ [y] := ⟨l.dropLast, l.getLast hne, (List.dropLast_concat_getLast hne).symm⟩
    rw [List.dropLast_concat, List.getLastD_concat]
    obtain ⟨m, hm⟩ : ∃ m, ys.length = m := ⟨_, rfl⟩
    rw [List.length_append, hm, List.length_singleton] at H1
    have hyl := hle y (by simp)
    have hcy := HTX.out.cell m y (by rw [List.getElem?_append_right (by omega), hm, Nat.sub_self]; rfl)
    have HCUT := Lib.hid (cut_any y [40] W2 HNS.out (by omega))
    have hcl := (cut_le y [40]).2
    have HTS := Lib.hid (fun W => trimS_any (Lib.cut y [40]).2.1 [41] W (by omega))
    obtain ⟨a, ha⟩ : ∃ a, (Lib.cut y [40]).1 = a := ⟨_, rfl⟩
    obtain ⟨b, hb⟩ : ∃ b, Lib.trimSuffix (Lib.cut y [40]).2.1 [41] = b := ⟨_, rfl⟩
    rw [ha] at HCUT ⊢
    rw [hb] at HTS ⊢
    have HTY : ∀ W, Below W2.heap.size W2 W → TX W w.heap.size ys := fun W hW => ⟨Nat.lt_of_lt_of_le HTX.out.lt hW.size, fun j x hx => (hW.cell (p := ⟨w.heap.size, j, none⟩) HTX.out.lt).trans (HTX.out.cell j x (by
      have := (List.getElem?_eq_some_iff.1 hx).1
      rw [List.getElem?_append_left this]; exact hx))⟩
    have HTY := Lib.hid HTY
    have hmb : m ≤ 1000000 := by simp only [List.length_append, List.length_singleton, hm] at hln; omega
    have HAP := Lib.hid (fun W ty C (hW : TX W w.heap.size ys) (hC : TX W C [a, b]) => app_texts W ty w.heap.size C m ys [a, b] hm rfl hW hC hmb)
    have HLEN : Hid ((ys ++ [a, b]).length = m + 2) := Lib.hid (by rw [List.length_append, hm]; rfl)
    have hd1 : (k != 3 && k != 4) = false := by rcases hk with h | h <;> (have := beq_iff_eq.1 h; subst this; rfl)
    unfold strV at hcy
    clear hn hl hne hle hln hlx hyl hcl ha hb hm hW2
    rcases hk with h | h
    all_goals
      have := beq_iff_eq.1 h
      subst this
      clear h hd1
      go_enter Tryz.func35, Tryz.ntmps35
      go_wp2_with (first
        | (go_at_call 76; refine H1.out.mono ?_; rintro e w1 ⟨rfl, rfl⟩)
        | (go_at_call 32; refine HCUT.out.mono ?_; rintro e w3 ⟨rfl, hb⟩; have HB3 := Lib.hid hb; clear hb))
      have hU := (HTY.out w3 HB3.out).on (bAlloc (Below.drew (Below.refl w3.heap.size w3)) (.cells #[.string ⟨a.toArray⟩, .string ⟨b.toArray⟩] 9))
      have hC := tx_new w3.drew [a, b] 9 #[.string ⟨a.toArray⟩, .string ⟨b.toArray⟩] rfl
      obtain ⟨cap, W4, hrun, hT4, hB4⟩ := HAP.out _ 47 _ hU hC
      have hz : (w3.drew.alloc (.cells #[.string ⟨a.toArray⟩, .string ⟨b.toArray⟩] 9)).heap.size = w3.heap.size + 1 := by simp
      rw [hz] at hrun hT4
      have hrun : (Builtin.append_ #[47, 47] 47 #[.slice (some ⟨w.heap.size, 0, none⟩) m (m + 1), .slice (some ⟨w3.heap.size, 0, none⟩) 2 2]).run Tryz.prog (w3.drew.alloc (.cells #[.string ⟨a.toArray⟩, .string ⟨b.toArray⟩] 9)) = .ok (.slice (some ⟨w3.heap.size + 1, 0, none⟩) (m + 2) cap) W4 := hrun
      clear hz
      have HT4 := Lib.hid hT4
      have HB4 : Hid (Below w3.heap.size w3 W4) := Lib.hid ((bAlloc (Below.drew (Below.refl w3.heap.size w3)) _).trans (hB4.mono (by simp)))
      have hs1 := slice_less m w.heap.size
      have hs2 := sliceAt_less m w.heap.size
      have hw1 : IntKind.i64.wrap ((m : Int) + 1 - 1) = (m : Int) := by rw [IntKind.wrap_i64]; omega
      have hw2 : IntKind.i64.wrap (m : Int) = (m : Int) := by rw [IntKind.wrap_i64]; omega
      clear hU hC hT4 hB4 hcy
      go_region_law (first
        | (go_simp; go_at_call 77; refine (HTS.out _).mono ?_; rintro e v0 ⟨rfl, rfl⟩; dsimp only)
        | (refine step_run _ rfl _ _ rfl _ _ _ _ rfl rfl hrun ?_; dsimp only))
      all_goals go_wp2_with fail
      all_goals
        go_ret
        exact ⟨w3.heap.size + 1, cap, by rw [HLEN.out]; rfl, HT4.out, HBS.out.trans ((HB3.out.trans (HB4.out.mono HB3.out.size)).mono HBS.out.size)⟩
  · rw [if_neg hk]
    obtain ⟨n, hnl⟩ : ∃ n, l.length = n := ⟨_, rfl⟩
    rw [hnl] at H1 ⊢
    have d1 : (k == 3) = false := by simpa using fun e => hk (.inl (by simpa using e))
    have d2 : (k == 4) = false := by simpa using fun e => hk (.inr (by simpa using e))
    have d3 : (k != 3) = true := by simpa using fun e => hk (.inl (by simpa using e))
    have d4 : (k != 4) = true := by simpa using fun e => hk (.inr (by simpa using e))
    clear hn hl hne hle hln hlx hk hW2 hnl
    go_enter Tryz.func35, Tryz.ntmps35
    go_wp2_with (go_at_call 76; refine H1.out.mono ?_; rintro e w1 ⟨rfl, rfl⟩)
    go_ret
    exact ⟨_, _, rfl, HTX.out, HBS.out⟩
end Go.Proofs.YtdpmihlmfephiaaGreatDoor
