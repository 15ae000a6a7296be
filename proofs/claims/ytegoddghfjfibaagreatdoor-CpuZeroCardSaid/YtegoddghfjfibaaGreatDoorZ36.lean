/- CuW CuX -/
import Derived.Test.YtegoddghfjfibaaGreatDoorZ34
import Derived.Test.YtegoddghfjfibaaGreatDoorZ35
import Derived.Test.YtegoddghfjfibaaGreatDoorZ28
namespace Go.Proofs.YtegoddghfjfibaaGreatDoor
set_option linter.unusedVariables false
set_option linter.unusedSimpArgs false
open Go.Joins Go.ChangeShapes Go.WideShapes Go.ChangeAt Go.RowKit Go.Deep

theorem cap_same (w : World) (c : Cp) : (Op.equalIn 9999 24 (.agg (capC c).toArray) (.agg (capC c).toArray)).run Tryz.prog w = .ok true w := by
  obtain ⟨cb, ct, ca, cp, cy, cg⟩ := c
  rw [show (capC ⟨cb, ct, ca, cp, cy, cg⟩).toArray = #[.int .u64 cb, .int .u64 ct, .int .u64 ca, .int .i64 cp, .int .i64 cy, .bool cg] from rfl]
  have hu := Tryz.underlying24
  have ht : Tryz.prog.underlying 24 = some (.struct (Tryz.prog.fieldsOf 24)) := by
    unfold Program.fieldsOf
    rw [hu]
  have hs : Tryz.prog.stoodInHeld 24 = false := by kernel_rfl
  rw [run_equalIn_agg w 9998 _ _ _ ht hs]
  unfold Program.fieldsOf
  rw [hu]
  have hU := Tryz.underlying22
  have hI := Tryz.underlying3
  have hB := Tryz.underlying4
  obtain ⟨X, hX⟩ : ∃ X : Array Value, #[.int .u64 cb, .int .u64 ct, .int .u64 ca, .int .i64 cp, .int .i64 cy, .bool cg] = X := ⟨_, rfl⟩
  have p0 : (part 22 X 0).run Tryz.prog w = .ok (.int .u64 cb) w := by rw [← hX]; simp [part, isAgg, run_underlying hU]
  have p1 : (part 22 X 1).run Tryz.prog w = .ok (.int .u64 ct) w := by rw [← hX]; simp [part, isAgg, run_underlying hU]
  have p2 : (part 22 X 2).run Tryz.prog w = .ok (.int .u64 ca) w := by rw [← hX]; simp [part, isAgg, run_underlying hU]
  have p3 : (part 3 X 3).run Tryz.prog w = .ok (.int .i64 cp) w := by rw [← hX]; simp [part, isAgg, run_underlying hI]
  have p4 : (part 3 X 4).run Tryz.prog w = .ok (.int .i64 cy) w := by rw [← hX]; simp [part, isAgg, run_underlying hI]
  have p5 : (part 4 X 5).run Tryz.prog w = .ok (.bool cg) w := by rw [← hX]; simp [part, isAgg, run_underlying hB]
  have e0 : ∀ a, (Op.equalIn 9998 22 (.int .u64 a) (.int .u64 a)).run Tryz.prog w = .ok true w := fun a => by rw [run_equalIn_int w 9997 _ .u64 .u64 a a hU]; simp
  have e1 : ∀ a, (Op.equalIn 9998 3 (.int .i64 a) (.int .i64 a)).run Tryz.prog w = .ok true w := fun a => by rw [run_equalIn_int w 9997 _ .i64 .i64 a a hI]; simp
  have e2 : ∀ a, (Op.equalIn 9998 4 (.bool a) (.bool a)).run Tryz.prog w = .ok true w := fun a => by rw [run_equalIn_bool' w 9997 _ a a hB]; simp
  rw [hX]
  simp [Op.eqFields, p0, p1, p2, p3, p4, p5, e0, e1, e2]
theorem isAgg_cap (w : World) : (isAgg 24).run Tryz.prog w = .ok true w := by
  simp only [isAgg, Sem.run_bind, run_underlying Tryz.underlying24, Result.andThen_ok, Sem.run_pure]
theorem size_cap (w : World) : (sizeOf 24).run Tryz.prog w = .ok 6 w := by
  have h : (Tryz.prog.info? 24).map (·.size) = some 6 := by kernel_rfl
  cases hi : Tryz.prog.info? 24 with
  | none => rw [hi] at h; cases h
  | some i =>
    rw [hi] at h
    have h : i.size = 6 := by simpa using h
    simp [sizeOf, typeInfo, hi, h]
theorem caps_eq0 (w : World) (qs : List Cp) (h : qs.length = 32) : (Op.equalIn 10000 35 (.agg (capsV qs).toArray) (.agg (capsV qs).toArray)).run Tryz.prog w = .ok true w := by
  rw [Op.equalIn]
  simp only [Sem.run_bind, run_underlying Tryz.underlying35, Result.andThen_ok, size_cap, Std.Legacy.Range.forIn_eq_forIn_range', Std.Legacy.Range.size, Nat.sub_zero, Nat.add_sub_cancel, Nat.div_one]
  have hl : ∀ i ∈ List.range' 0 32 1, i < 32 := fun i hi => by simpa using (List.mem_range'_1.1 hi).2
  generalize List.range' 0 32 1 = l at hl ⊢
  induction l with
  | nil => simp
  | cons i l ih =>
    have hi : i < qs.length := by rw [h]; exact hl i (by simp)
    have px : (part 24 (capsV qs).toArray (i * 6)).run Tryz.prog w = .ok (.agg (capC qs[i]).toArray) w := by
      simp only [part, Sem.run_bind, isAgg_cap, Result.andThen_ok, if_true, size_cap, Sem.run_pure]
      congr 2
      have e : qs = qs.take i ++ (qs[i] :: qs.drop (i + 1)) := by rw [← List.drop_eq_getElem_cons hi, List.take_append_drop]
      have e2 : capsV qs = capsV (qs.take i) ++ (capC qs[i] ++ capsV (qs.drop (i + 1))) := by
        conv => lhs; rw [e]
        rw [capsV_app, capsV_cons]
      have e3 : (capsV (qs.take i)).length = i * 6 := by rw [capsV_len, List.length_take, Nat.min_eq_left (by omega), Nat.mul_comm]
      rw [e2]
      rw [List.extract_toArray, List.extract_eq_take_drop, List.drop_append_of_le_length (by omega), List.drop_of_length_le (by omega), List.nil_append, Nat.add_sub_cancel_left, List.take_append_of_le_length (by show 6 ≤ 6; omega), List.take_of_length_le (by show 6 ≤ 6; omega)]
    simp only [List.forIn_cons, Sem.run_bind, px, cap_same, Result.andThen_ok]
    simp only [Bool.not_true, Bool.false_eq_true, if_false, Sem.run_pure, Result.andThen_ok]
    exact ih fun j hj => hl j (by simp [hj])
theorem caps_neq (w : World) (qs : List Cp) (h : qs.length = 32) : (binOp .neq 35 (.agg (capsV qs).toArray) (.agg (capsV qs).toArray)).run Tryz.prog w = .ok (.bool false) w := by
  rw [run_neq_struct, caps_eq0 w qs h]
  rfl
theorem capsSize : (Tryz.prog.info? 35).map (·.size) = some 192 := by kernel_rfl
theorem capsV_one (qs : List Cp) : ∀ v ∈ capsV qs, v.oneCell' = true := fun v hv => by
  unfold capsV at hv
  obtain ⟨c, -, hc⟩ := List.mem_flatMap.1 hv
  unfold capC at hc
  simp only [List.mem_cons, List.not_mem_nil, or_false] at hc
  rcases hc with rfl | rfl | rfl | rfl | rfl | rfl <;> rfl
/-! An instruction is done. -/
def kindsC : Bool := (List.range 82).all fun k => let z := Is.kindZ (Is.bareN ((k + 1 : Nat) : Int)); decide (1 ≤ z ∧ z ≤ 10)
theorem kinds_ok : kindsC = true := by decide +kernel
theorem kind_in (op : Nat) (h1 : 1 ≤ op) (h2 : op ≤ 82) : 1 ≤ Is.kindZ (Is.bareN (op : Int)) ∧ Is.kindZ (Is.bareN (op : Int)) ≤ 10 := by
  have h := kinds_ok
  unfold kindsC at h
  rw [List.all_eq_true] at h
  have h3 := h (op - 1) (List.mem_range.2 (by omega))
  rw [show op - 1 + 1 = op by omega] at h3
  simpa using h3
theorem DoR.pair {W : World} {N A M : Nat} {F : Nat → Prop} {s s' : Mch} {er : Int} {e : Ending} {w' : World} (h : DoR W N A M F s s' er e w') : DoR W N A M F s (if er ≠ 0 then (s, er) else (s', 0)).1 (if er ≠ 0 then (s, er) else (s', 0)).2 e w' := by
  by_cases hz : er = 0
  · rw [if_neg (by simpa using hz)]
    subst hz
    exact h
  · rw [if_pos hz]
    exact h.eq0 hz
/-- an instruction that may be -/
structure InsOk (x : Ins) : Prop where
  o1 : 1 ≤ x.op
  o2 : x.op ≤ 82
  rd : x.rd < 32
  r1 : x.r1 < 32
  r2 : x.r2 < 32
theorem do_any (W : World) (N A M : Nat) (F : Nat → Prop) (s : Mch) (h : McS W N A M F s) (nt : Is.NT W) (x : Ins) (hx : InsOk x) :
    Calls Tryz.prog 41 #[.pointer (some ⟨A, 0, none⟩), .agg (insV x)] W fun e w' => DoR W N A M F s (doP s x).1 (doP s x).2 e w' := by
  obtain ⟨op, rd, r1, r2, n⟩ := x
  obtain ⟨o1, o2, hrd, h1, h2⟩ := hx
  simp only [] at o1 o2 hrd h1 h2
  have hko := kindO_in op o1 o2
  have hki := kind_in op o1 o2
  unfold doP insV
  simp only []
  have hkp : kindP ⟨op, rd, r1, r2, n⟩ = Is.kindZ (Is.bareN (op : Int)) := rfl
  obtain ⟨k, hk⟩ : ∃ k, Is.kindZ (Is.bareN (op : Int)) = k := ⟨_, rfl⟩
  rw [hk] at hki hkp hko
  rw [hkp]
  have hkk : k = 1 ∨ k = 2 ∨ k = 3 ∨ k = 4 ∨ k = 5 ∨ k = 6 ∨ k = 7 ∨ k = 8 ∨ k = 9 ∨ k = 10 := by omega
  clear hkp hk hki
  rcases hkk with rfl | rfl | rfl | rfl | rfl | rfl | rfl | rfl | rfl | rfl
  · exact do_r1 W N A M F s h nt op rd r1 r2 n o1 o2 hrd h1 h2 hko
  · exact do_r2 W N A M F s h nt op rd r1 r2 n o1 o2 hrd h1 h2 hko
  · exact do_load W N A M F s h nt op rd r1 r2 n o1 o2 hrd h1 h2 hko
  · exact (do_save W N A M F s h nt op rd r1 r2 n o1 o2 hrd h1 h2 hko).mono fun e w' q => q.pair
  · cases hh : (Al.holdZ (nameP ⟨op, rd, r1, r2, n⟩) (regP s.rs r1).a (regP s.rs r2).a).1 with
    | true => exact do_iff W N A M F s h nt op rd r1 r2 n o1 o2 hrd h1 h2 hko hh
    | false => exact do_ifn W N A M F s h nt op rd r1 r2 n o1 o2 hrd h1 h2 hko hh
  · exact do_high W N A M F s h nt op rd r1 r2 n o1 o2 hrd h1 h2 hko
  · exact do_jump W N A M F s h nt op rd r1 r2 n o1 o2 hrd h1 h2 hko
  · exact do_ask W N A M F s h nt op rd r1 r2 n o1 o2 hrd h1 h2 hko
  · exact do_none W N A M F s h nt op rd r1 r2 n o1 o2 hrd h1 h2 hko
  · exact (do_two W N A M F s h nt op rd r1 r2 n o1 o2 hrd h1 h2 hko).mono fun e w' q => q.pair
/-! The instruction that it stands at. -/
theorem insP_ok (x r : Nat) (h : Is.DecP x r) (h0 : r ≠ 0) : InsOk (insP x r) := by
  rcases h with h | ⟨h1, h2, -⟩
  · exact absurd h.1 h0
  · refine ⟨h1, h2, ?_, ?_, ?_⟩
    · show Is.rdN _ x < 32
      unfold Is.rdN; split <;> omega
    · show Is.rs1N _ x < 32
      unfold Is.rs1N; split <;> omega
    · show Is.rs2N _ x < 32
      unfold Is.rs2N; split <;> omega
theorem decV_ins (x r : Nat) (h0 : r ≠ 0) : Is.decV x r = .agg (insV (insP x r)) := by
  unfold Is.decV
  rw [if_neg h0]
  rfl
/-- what the fetch answers: an error, or the instruction -/
theorem fetch_any (W : World) (N A M : Nat) (F : Nat → Prop) (s : Mch) (h : McS W N A M F s) (nt : Is.NT W) :
    (∃ o0 o1 o2 o3 o4 er : Int, (Calls Tryz.prog 40 #[.pointer (some ⟨A, 0, none⟩)] W fun e w' => Below W.heap.size W w' ∧ e = .returned (.tuple #[.agg #[.int .i64 o0, .int .i64 o1, .int .i64 o2, .int .i64 o3, .int .i64 o4], .int .i64 er])) ∧ er ≠ 0 ∧ stepP s = (s, er)) ∨
       (∃ x : Ins, (Calls Tryz.prog 40 #[.pointer (some ⟨A, 0, none⟩)] W fun e w' => Below W.heap.size W w' ∧ e = .returned (.tuple #[.agg (insV x), .int .i64 0])) ∧ InsOk x ∧ stepP s = doP s x) := by
  obtain ⟨⟨b, t, a, p, y, g⟩, rs, m⟩ := s
  obtain ⟨an, ha⟩ : ∃ an : Nat, a = (an : Int) := ⟨a.toNat, by have := h.fpc.a0; simp only [] at this; omega⟩
  have hst : stepP ⟨⟨b, t, a, p, y, g⟩, rs, m⟩ = if checkP ⟨b, t, (an : Int), p, y, g⟩ 4 4 ≠ 0 then (⟨⟨b, t, a, p, y, g⟩, rs, m⟩, checkP ⟨b, t, (an : Int), p, y, g⟩ 4 4)
      else if (loadF m an 4).2 ≠ 0 then (⟨⟨b, t, a, p, y, g⟩, rs, m⟩, (loadF m an 4).2)
      else if decN ((loadF m an 4).1.toNat % 4294967296) = 0 then (⟨⟨b, t, a, p, y, g⟩, rs, m⟩, 40) else doP ⟨⟨b, t, a, p, y, g⟩, rs, m⟩ (insP ((loadF m an 4).1.toNat % 4294967296) (decN ((loadF m an 4).1.toNat % 4294967296))) := by
    unfold stepP
    simp only [ha, Int.toNat_natCast]
  rw [hst]
  by_cases hx : checkP ⟨b, t, (an : Int), p, y, g⟩ 4 4 = 0
  · rw [if_neg (by simpa using hx)]
    obtain ⟨⟨v, er⟩, hl⟩ : ∃ q, loadF m an 4 = q := ⟨_, rfl⟩
    rw [hl]
    simp only []
    by_cases he : er = 0
    · subst he
      rw [if_neg (by decide)]
      have hv0 : 0 ≤ v := by have := load_in m an 4; rw [hl] at this; exact this
      obtain ⟨x, hxx⟩ : ∃ x, v.toNat % 4294967296 = x := ⟨_, rfl⟩
      rw [hxx]
      have hv : IntKind.u32.wrap v = (x : Int) := by
        rw [← hxx, IntKind.wrap_u32]; omega
      have hf := fetch_go W N A M F b t a p y g rs m h nt an ha hx v hl x hv (by omega)
      by_cases hd : decN x = 0
      · rw [if_pos hd]
        rw [hd] at hf
        exact Or.inl ⟨0, 0, 0, 0, 0, 40, hf.mono fun e w' q => ⟨q.2, q.1⟩, by decide, rfl⟩
      · rw [if_neg hd]
        rw [decV_ins x _ hd] at hf
        have hde : Is.decE (decN x) = 0 := by unfold Is.decE; rw [if_neg hd]
        rw [hde] at hf
        exact Or.inr ⟨_, hf.mono fun e w' q => ⟨q.2, q.1⟩, insP_ok x _ (decN_P x) hd, rfl⟩
    · rw [if_pos he]
      exact Or.inl ⟨0, 0, 0, 0, 0, er, (fetch_page W N A M F b t a p y g rs m h nt an ha hx v er hl he).mono fun e w' q => ⟨q.2, q.1⟩, he, rfl⟩
  · rw [if_pos hx]
    exact Or.inl ⟨0, 0, 0, 0, 0, _, (fetch_bad W N A M F b t a p y g rs m h nt an ha _ rfl hx).mono fun e w' q => ⟨q.2, q.1⟩, hx, rfl⟩
/-- with an error nothing is changed -/
theorem doP_err {s : Mch} {x : Ins} (h : (doP s x).2 ≠ 0) : (doP s x).1 = s := by
  unfold doP at *
  simp only [] at *
  repeat' split
  all_goals first | rfl | (exfalso; simp_all; done)
/-- what is done stays in its words -/
theorem fit_doP {s : Mch} (hp : FitC s.pc) (hr : ∀ c ∈ s.rs, FitC c) (x : Ins) : FitC (doP s x).1.pc := by
  unfold doP
  simp only []
  repeat' split
  all_goals first
    | exact hp
    | exact fit_ahead hp _
    | exact fit_place hr x
    | exact fit_open (regP_fit hr _)
end Go.Proofs.YtegoddghfjfibaaGreatDoor

namespace Go.Proofs.YtegoddghfjfibaaGreatDoor
set_option linter.unusedVariables false
set_option linter.unusedSimpArgs false
open Go.Joins Go.ChangeShapes Go.WideShapes Go.ChangeAt Go.RowKit Go.Deep

set_option maxHeartbeats 4000000 in
theorem step_err (W : World) (A : Nat) (o0 o1 o2 o3 o4 er : Int) (he : er ≠ 0) (hf : Calls Tryz.prog 40 #[.pointer (some ⟨A, 0, none⟩)] W fun e w' => Below W.heap.size W w' ∧ e = .returned (.tuple #[.agg #[.int .i64 o0, .int .i64 o1, .int .i64 o2, .int .i64 o3, .int .i64 o4], .int .i64 er])) :
    Calls Tryz.prog 11 #[.pointer (some ⟨A, 0, none⟩)] W fun e w' => e = .returned (.int .i64 er) ∧ Below W.heap.size W w' := by
  have HF := Lib.hid hf
  have q1 : (er == 0) = false := by simpa using he
  have q2 : (er != 0) = true := by simpa using he
  clear hf he
  go_enter Tryz.func11, Tryz.ntmps11
  go_wp2_with fail
  refine HF.out.mono ?_; rintro e w1 ⟨hb, rfl⟩
  have HB := Lib.hid (bAlloc hb (.cells #[.int .i64 o0, .int .i64 o1, .int .i64 o2, .int .i64 o3, .int .i64 o4] 61))
  clear hb HF
  go_wp2_with fail
  go_ret
  exact ⟨rfl, HB.out⟩
def zero192 : Array Value := ((List.replicate 32 (zer6.toList)).flatten).toArray
theorem zero192_len : zero192.toList.length = 192 := by decide +kernel
/-- a row's box: what is copied out of a machine -/
theorem row_box (W : World) (rs : List Cp) (h : rs.length = 32) : BoxN ((W.alloc (.cells zero192 35)).setCells W.heap.size 0 (capsV rs)) W.heap.size (capsV rs).toArray ∧ Below W.heap.size W ((W.alloc (.cells zero192 35)).setCells W.heap.size 0 (capsV rs)) := by
  constructor
  · have h1 : BoxN (W.alloc (.cells zero192 35)) W.heap.size ([] ++ (zero192.toList ++ [])).toArray := by
      rw [List.append_nil, List.nil_append]
      exact BoxN.new W zero192 35
    have := boxN_mid W.heap.size (capsV rs) [] zero192.toList [] _ (by rw [zero192_len, capsV_len, h]) h1
    rwa [List.append_nil, List.nil_append] at this
  · exact below_setCells _ (Nat.le_refl _) _ _ _ (bAlloc (Below.refl _ _) _)
abbrev StT (W9 : World) (A B : Nat) (R : Array Value) (A0 : Act) (d : Nat → Bool) (a : Act) (w : World) : Prop :=
  ∃ v29 v30 v31 v32 v33 v34 : Value, a = (((((A0.put (some 29) v29).put (some 30) v30).put (some 31) v31).put (some 32) v32).put (some 33) v33).put (some 34) v34 ∧ w = W9 ∧
    (d 0 = true → v29 = .pointer (some ⟨A, 0, none⟩)) ∧ (d 1 = true → v30 = .pointer (some ⟨A, 0, none⟩)) ∧ (d 2 = true → v31 = .pointer (some ⟨A, 6, none⟩)) ∧
    (d 3 = true → v32 = .agg R) ∧ (d 4 = true → v33 = .agg R) ∧ (d 5 = true → v34 = .bool false)
set_option maxRecDepth 100000 in
set_option maxHeartbeats 16000000 in
theorem step_do (W : World) (N A M : Nat) (F : Nat → Prop) (s : Mch) (h : McS W N A M F s) (nt : Is.NT W) (x : Ins) (hx : InsOk x) (hf : Calls Tryz.prog 40 #[.pointer (some ⟨A, 0, none⟩)] W fun e w' => Below W.heap.size W w' ∧ e = .returned (.tuple #[.agg (insV x), .int .i64 0])) :
    Calls Tryz.prog 11 #[.pointer (some ⟨A, 0, none⟩)] W fun e w' => e = .returned (.int .i64 (doP s x).2) ∧ ∃ F', McS w' N A M F' (if (doP s x).2 = 0 then (doP s x).1 else s) ∧ McMv W w' F F' A := by
  have HF := Lib.hid hf
  have HFD := Lib.hid (fit_doP h.fpc h.frs x)
  have HDO := Lib.hid (fun w (hb : Below W.heap.size W w) => do_any w N A M F s (h.below hb) (nt.on hb) x hx)
  obtain ⟨⟨s1, er⟩, hdp⟩ : ∃ q, doP s x = q := ⟨_, rfl⟩
  rw [hdp] at HDO HFD ⊢
  simp only [] at HDO HFD ⊢
  clear hdp hx nt
  obtain ⟨op, rd, r1, r2, n⟩ := x
  unfold insV at HF HDO
  simp only [] at HF HDO
  obtain ⟨o0, hh0⟩ : ∃ i : Int, (op : Int) = i := ⟨_, rfl⟩
  obtain ⟨o1, hh1⟩ : ∃ i : Int, (rd : Int) = i := ⟨_, rfl⟩
  obtain ⟨o2, hh2⟩ : ∃ i : Int, (r1 : Int) = i := ⟨_, rfl⟩
  obtain ⟨o3, hh3⟩ : ∃ i : Int, (r2 : Int) = i := ⟨_, rfl⟩
  rw [hh0, hh1, hh2, hh3] at HF HDO
  obtain ⟨o4, hh4⟩ : ∃ i : Int, n = i := ⟨_, rfl⟩
  rw [hh4] at HF HDO
  clear hh0 hh1 hh2 hh3 hh4 hf
  have HM := Lib.hid h
  have hlen : s.rs.length = 32 := h.mc.len
  have HLEN := Lib.hid hlen
  clear h hlen
  go_enter Tryz.func11, Tryz.ntmps11
  go_wp2_with fail
  refine HF.out.mono ?_; rintro e w1 ⟨hb, rfl⟩
  obtain ⟨w2, hw2⟩ : ∃ w2, w1.alloc (.cells #[.int .i64 o0, .int .i64 o1, .int .i64 o2, .int .i64 o3, .int .i64 o4] 61) = w2 := ⟨_, rfl⟩
  have hba : Below w1.heap.size w1 w2 := by rw [← hw2]; exact bAlloc (Below.refl _ _) _
  have hx2 : BoxN w2 w1.heap.size #[.int .i64 o0, .int .i64 o1, .int .i64 o2, .int .i64 o3, .int .i64 o4] := by rw [← hw2]; exact BoxN.new _ _ _
  have HB2 := Lib.hid (hb.trans (hba.mono hb.size))
  have HX2 := Lib.hid hx2
  have HG := Lib.hid hb.size
  have HW2 := Lib.hid hw2
  clear hb hba hx2 hw2 HF
  go_upto_region 6 with fail
  rw [HW2.out]
  clear HW2
  obtain ⟨B3, hB3⟩ : ∃ b, w1.heap.size = b := ⟨_, rfl⟩
  rw [hB3] at HX2 HG ⊢
  clear hB3
  have hrg : w2.rangeAt A 6 (capsV s.rs) := by
    have hm := ((HM.out.below HB2.out).mc).box
    have := range_mid (W := w2) (B := A) (pre := capC s.pc) (mid := capsV s.rs) (post := [.pointer (some ⟨M, 0, none⟩)]) hm
    exact this
  have hn : (capsV s.rs).length = 192 := by rw [capsV_len, HLEN.out]
  obtain ⟨hr1, hr2⟩ := row_box w2 s.rs HLEN.out
  have hth : (w2.alloc (.cells zero192 35)).there w2.heap.size 0 (capsV s.rs).toArray.size := by
    have h1 : BoxN (w2.alloc (.cells zero192 35)) w2.heap.size ([] ++ (zero192.toList ++ [])).toArray := by
      rw [List.append_nil, List.nil_append]
      exact BoxN.new w2 zero192 35
    have := there_mid h1
    rw [zero192_len] at this
    show (w2.alloc (.cells zero192 35)).there w2.heap.size 0 (capsV s.rs).length
    rw [hn]
    exact this
  apply wp_region_lit
  refine Great.wpList_readTo rfl (some 17) rfl (.pointer (some ⟨A, 0, none⟩)) (by kernel_rfl) ?_
  refine Great.wpList_readTo rfl (some 18) rfl (.pointer (some ⟨A, 0, none⟩)) (by kernel_rfl) ?_
  refine Great.wpList_readTo rfl (some 19) rfl (.pointer (some ⟨A, 6, none⟩)) (by kernel_rfl) ?_
  refine wpList_load_mid rfl _ _ rfl A 6 rfl (capsV s.rs) _ hrg Tryz.underlying35 rfl (by rw [hn]; exact capsSize) ?_
  refine Great.wpList_allocTo rfl (some 5) rfl (.pointer (some ⟨w2.heap.size, 0, none⟩)) (.cells zero192 35) (by kernel_rfl) ?_
  refine wpList_store_mid rfl _ _ _ rfl w2.heap.size 0 (capsV s.rs).toArray rfl rfl hth (by rw [List.size_toArray, hn]; exact capsSize) (all_oneCell_toArray (capsV_one s.rs)) ?_
  obtain ⟨w3, hw3⟩ : ∃ w3, (w2.alloc (.cells zero192 35)).setCells w2.heap.size 0 (capsV s.rs) = w3 := ⟨_, rfl⟩
  rw [hw3] at hr1 hr2
  show wpList _ _ _ _ _ ((w2.alloc (.cells zero192 35)).setCells w2.heap.size 0 (capsV s.rs))
  rw [hw3]
  have HB4 := Lib.hid (HB2.out.trans (hr2.mono HB2.out.size))
  have HR4 := Lib.hid hr1
  have hx4 := boxN_below HX2.out hr2
  have HX4 := Lib.hid hx4
  obtain ⟨B5, hB5⟩ : ∃ b, w2.heap.size = b := ⟨_, rfl⟩
  have HL5 : Hid (W.heap.size ≤ B5) := Lib.hid (by rw [← hB5]; exact HB2.out.size)
  rw [hB5] at HR4 ⊢
  obtain ⟨⟨p0, p1, p2, p3, p4⟩, -⟩ := box5 hx4
  simp only [Act.put, List.setIfInBounds_toArray, List.set_cons_zero, List.set_cons_succ]
  clear hw3 hr1 hr2 hth hrg hn hB5 hx4 HB2 HX2
  go_wp2_with fail
  refine (HDO.out w3 HB4.out).mono ?_; rintro e w4 ⟨⟨gb, gt, ga, gp, gy, gg⟩, F', rfl, hor, hm⟩
  have hcg : (capC ⟨gb, gt, ga, gp, gy, gg⟩).toArray = #[.int .u64 gb, .int .u64 gt, .int .u64 ga, .int .i64 gp, .int .i64 gy, .bool gg] := rfl
  rw [hcg]
  clear hcg p0 p1 p2 p3 p4 HDO
  have hr5 : BoxN w4 B5 (capsV s.rs).toArray := McMv.box HM.out HB4.out HR4.out HL5.out hm
  obtain ⟨w5, hw5⟩ : ∃ w5, w4.alloc (.cells #[.int .u64 gb, .int .u64 gt, .int .u64 ga, .int .i64 gp, .int .i64 gy, .bool gg] 24) = w5 := ⟨_, rfl⟩
  have hba : Below w4.heap.size w4 w5 := by rw [← hw5]; exact bAlloc (Below.refl _ _) _
  have hx5 : BoxN w5 w4.heap.size #[.int .u64 gb, .int .u64 gt, .int .u64 ga, .int .i64 gp, .int .i64 gy, .bool gg] := by rw [← hw5]; exact BoxN.new _ _ _
  have HMV := Lib.hid ((((McMv.of_below F A HB4.out).trans hm HM.out.mc.lt)).trans (McMv.of_below F' A hba) HM.out.mc.lt)
  have HR5 := Lib.hid (boxN_below hr5 hba)
  have HOR : Hid ((er ≠ 0 ∧ McS w5 N A M F' s) ∨ (er = 0 ∧ (⟨gb, gt, ga, gp, gy, gg⟩ : Cp) = s1.pc ∧ McS w5 N A M F' ⟨s.pc, s1.rs, s1.m⟩)) := Lib.hid (by
    rcases hor with ⟨q1, q2⟩ | ⟨q1, q2, q3⟩
    · exact Or.inl ⟨q1, q2.below hba⟩
    · exact Or.inr ⟨q1, q2, q3.below hba⟩)
  have HX5 := Lib.hid hx5
  have HW5 := Lib.hid hw5
  clear hor hm hr5 hba hx5 hw5 HR4 HX4
  go_upto_region 8 with fail
  rw [HW5.out]
  clear HW5
  obtain ⟨B6, hB6⟩ : ∃ b, w4.heap.size = b := ⟨_, rfl⟩
  rw [hB6] at HX5 ⊢
  clear hB6
  by_cases hz : er = 0
  · subst hz
    have HQ : Hid ((⟨gb, gt, ga, gp, gy, gg⟩ : Cp) = s1.pc ∧ McS w5 N A M F' ⟨s.pc, s1.rs, s1.m⟩) := Lib.hid (by
      rcases HOR.out with ⟨q1, -⟩ | ⟨-, q2, q3⟩
      · exact absurd rfl q1
      · exact ⟨q2, q3⟩)
    obtain ⟨⟨c0, c1, c2, c3, c4, c5⟩, -⟩ := boxN6 HX5.out
    obtain ⟨a0, a1, a2, a3, a4, a5⟩ := range6 HQ.out.2.mc.pcAt
    obtain ⟨f0, f1, f2, f3, f4, f5⟩ := there6 HQ.out.2.mc.pcThere
    simp only [Nat.zero_add] at a0 a1 a2 a3 a4 a5 f0 f1 f2 f3 f4 f5
    clear HOR
    go_wp2_with fail
    go_ret
    refine ⟨rfl, F', ?_⟩
    have hk : KP w5.heap.size (fun b => b = A) w5 (w5.setCells A 0 (capC ⟨gb, gt, ga, gp, gy, gg⟩)) := kp_setCells (S := fun b => b = A) A (Or.inr rfl) _ _ _ (KP.refl _ _ _)
    have hfit : FitC (⟨gb, gt, ga, gp, gy, gg⟩ : Cp) := by rw [HQ.out.1]; exact HFD.out
    have hs := HQ.out.2.mach (HQ.out.2.mc.setPc ⟨gb, gt, ga, gp, gy, gg⟩) hk hfit HQ.out.2.frs
    have e1 : s1 = ⟨⟨gb, gt, ga, gp, gy, gg⟩, s1.rs, s1.m⟩ := by rw [HQ.out.1]
    have hs2 := hs.2
    rw [e1]
    exact ⟨hs.1, HMV.out.trans hs2 HM.out.mc.lt⟩
  · have HQ : Hid (McS w5 N A M F' s) := Lib.hid (by
      rcases HOR.out with ⟨-, q2⟩ | ⟨q1, -⟩
      · exact q2
      · exact absurd q1 hz)
    have q1 : (er == 0) = false := by simpa using hz
    have q2 : (er != 0) = true := by simpa using hz
    have HZ := Lib.hid hz
    clear hz HOR
    go_upto_region 9 with fail
    have hne : ∀ Wq, (binOp .neq 35 (.agg (capsV s.rs).toArray) (.agg (capsV s.rs).toArray)).run Tryz.prog Wq = .ok (.bool false) Wq := fun Wq => caps_neq Wq s.rs HLEN.out
    obtain ⟨wd, hwd⟩ : ∃ wd, w5.drew = wd := ⟨_, rfl⟩
    have hbd : Below w5.heap.size w5 wd := by rw [← hwd]; exact Below.drew (Below.refl _ _)
    have hn : (capsV s.rs).length = 192 := by rw [capsV_len, HLEN.out]
    have HRA : Hid (wd.rangeAt A 6 (capsV s.rs)) := Lib.hid (by
      have hm := ((HQ.out.below hbd).mc).box
      exact range_mid (W := wd) (B := A) (pre := capC s.pc) (mid := capsV s.rs) (post := [.pointer (some ⟨M, 0, none⟩)]) hm)
    have HRB : Hid (wd.rangeAt B5 0 (capsV s.rs)) := Lib.hid (by
      have hm := boxN_below HR5.out hbd
      exact range_mid (W := wd) (B := B5) (pre := []) (mid := capsV s.rs) (post := []) (by rw [List.append_nil, List.nil_append]; exact hm))
    have HSZ : Hid ((Tryz.prog.info? 35).map (·.size) = some (capsV s.rs).length) := Lib.hid (by rw [hn]; exact capsSize)
    have HBD := Lib.hid hbd
    clear hbd hn
    obtain ⟨R, hR⟩ : ∃ R, capsV s.rs = R := ⟨_, rfl⟩
    rw [hR] at HRA HRB HSZ hne
    clear hR
    refine wp_region_invA (by kernel_rfl) (by kernel_rfl) (StT wd A B5 R.toArray) ?_ (Steps.cons ?_ (Steps.cons ?_ (Steps.cons ?_ (Steps.cons ?_ (Steps.cons ?_ (Steps.cons ?_ Steps.nil)))))) ?_
    · exact ⟨_, _, _, _, _, _, (by simp only [Act.put, List.setIfInBounds_toArray, List.set_cons_zero, List.set_cons_succ]; rfl), hwd, fun h => (by cases h), fun h => (by cases h), fun h => (by cases h), fun h => (by cases h), fun h => (by cases h), fun h => (by cases h)⟩
    · rintro d a w hd hall ⟨v29, v30, v31, v32, v33, v34, rfl, rfl, h0, h1, h2, h3, h4, h5⟩ K' hK
      clear hall
      simp only [Act.put, List.setIfInBounds_toArray, List.set_cons_zero, List.set_cons_succ]
      go_simp
      exact hK.out _ _ ⟨.pointer (some ⟨A, 0, none⟩), v30, v31, v32, v33, v34, (by simp only [Act.put, List.setIfInBounds_toArray, List.set_cons_zero, List.set_cons_succ]), rfl, fun _ => rfl, fun h => h1 (dn h rfl), fun h => h2 (dn h rfl), fun h => h3 (dn h rfl), fun h => h4 (dn h rfl), fun h => h5 (dn h rfl)⟩
    · rintro d a w hd hall ⟨v29, v30, v31, v32, v33, v34, rfl, rfl, h0, h1, h2, h3, h4, h5⟩ K' hK
      have e0 : d 0 = true := hall ⟨0, .data⟩ (by simp) rfl
      clear hall
      obtain rfl := h0 e0
      simp only [Act.put, List.setIfInBounds_toArray, List.set_cons_zero, List.set_cons_succ]
      go_simp
      exact hK.out _ _ ⟨.pointer (some ⟨A, 0, none⟩), .pointer (some ⟨A, 0, none⟩), v31, v32, v33, v34, (by simp only [Act.put, List.setIfInBounds_toArray, List.set_cons_zero, List.set_cons_succ]), rfl, fun _ => rfl, fun _ => rfl, fun h => h2 (dn h rfl), fun h => h3 (dn h rfl), fun h => h4 (dn h rfl), fun h => h5 (dn h rfl)⟩
    · rintro d a w hd hall ⟨v29, v30, v31, v32, v33, v34, rfl, rfl, h0, h1, h2, h3, h4, h5⟩ K' hK
      have e1 : d 1 = true := hall ⟨1, .data⟩ (by simp) rfl
      clear hall
      obtain rfl := h1 e1
      simp only [Act.put, List.setIfInBounds_toArray, List.set_cons_zero, List.set_cons_succ]
      go_simp
      exact hK.out _ _ ⟨v29, .pointer (some ⟨A, 0, none⟩), .pointer (some ⟨A, 6, none⟩), v32, v33, v34, (by simp only [Act.put, List.setIfInBounds_toArray, List.set_cons_zero, List.set_cons_succ]), rfl, fun h => h0 (dn h rfl), fun _ => rfl, fun _ => rfl, fun h => h3 (dn h rfl), fun h => h4 (dn h rfl), fun h => h5 (dn h rfl)⟩
    · rintro d a w hd hall ⟨v29, v30, v31, v32, v33, v34, rfl, rfl, h0, h1, h2, h3, h4, h5⟩ K' hK
      have e2 : d 2 = true := hall ⟨2, .data⟩ (by simp) rfl
      clear hall
      obtain rfl := h2 e2
      simp only [Act.put, List.setIfInBounds_toArray, List.set_cons_zero, List.set_cons_succ]
      rw [if_pos (by rfl)]
      refine wp_load_mid _ _ rfl A 6 rfl R _ HRA.out Tryz.underlying35 rfl HSZ.out ?_
      exact hK.out _ _ ⟨v29, v30, .pointer (some ⟨A, 6, none⟩), .agg R.toArray, v33, v34, (by simp only [Act.put, List.setIfInBounds_toArray, List.set_cons_zero, List.set_cons_succ]), rfl, fun h => h0 (dn h rfl), fun h => h1 (dn h rfl), fun _ => rfl, fun _ => rfl, fun h => h4 (dn h rfl), fun h => h5 (dn h rfl)⟩
    · rintro d a w hd hall ⟨v29, v30, v31, v32, v33, v34, rfl, rfl, h0, h1, h2, h3, h4, h5⟩ K' hK
      clear hall
      simp only [Act.put, List.setIfInBounds_toArray, List.set_cons_zero, List.set_cons_succ]
      rw [if_pos (by rfl)]
      refine wp_load_mid _ _ rfl B5 0 rfl R _ HRB.out Tryz.underlying35 rfl HSZ.out ?_
      exact hK.out _ _ ⟨v29, v30, v31, v32, .agg R.toArray, v34, (by simp only [Act.put, List.setIfInBounds_toArray, List.set_cons_zero, List.set_cons_succ]), rfl, fun h => h0 (dn h rfl), fun h => h1 (dn h rfl), fun h => h2 (dn h rfl), fun h => h3 (dn h rfl), fun _ => rfl, fun h => h5 (dn h rfl)⟩
    · rintro d a w hd hall ⟨v29, v30, v31, v32, v33, v34, rfl, rfl, h0, h1, h2, h3, h4, h5⟩ K' hK
      have e3 : d 3 = true := hall ⟨3, .data⟩ (by simp) rfl
      have e4 : d 4 = true := hall ⟨4, .data⟩ (by simp) rfl
      clear hall
      obtain rfl := h3 e3
      obtain rfl := h4 e4
      simp only [Act.put, List.setIfInBounds_toArray, List.set_cons_zero, List.set_cons_succ]
      go_simp
      exact hK.out _ _ ⟨v29, v30, v31, .agg R.toArray, .agg R.toArray, .bool false, (by simp only [Act.put, List.setIfInBounds_toArray, List.set_cons_zero, List.set_cons_succ]), rfl, fun h => h0 (dn h rfl), fun h => h1 (dn h rfl), fun h => h2 (dn h rfl), fun _ => rfl, fun _ => rfl, fun _ => rfl⟩
    · rintro d a w hl ⟨v29, v30, v31, v32, v33, v34, rfl, rfl, h0, h1, h2, h3, h4, h5⟩
      have hf5 := h5 (hl 5 (by decide))
      subst hf5
      clear h0 h1 h2 h3 h4 h5 hl
      simp only [Act.put, List.setIfInBounds_toArray, List.set_cons_zero, List.set_cons_succ]
      go_wp2_with fail
      go_ret
      refine ⟨rfl, F', ?_⟩
      exact ⟨HQ.out.below HBD.out, HMV.out.trans (McMv.of_below F' A HBD.out) HM.out.mc.lt⟩
/-- a step: what it does, or why it does nothing -/
theorem step_any (W : World) (N A M : Nat) (F : Nat → Prop) (s : Mch) (h : McS W N A M F s) (nt : Is.NT W) :
    Calls Tryz.prog 11 #[.pointer (some ⟨A, 0, none⟩)] W fun e w' => e = .returned (.int .i64 (stepP s).2) ∧ ∃ F', McS w' N A M F' (stepP s).1 ∧ McMv W w' F F' A := by
  rcases fetch_any W N A M F s h nt with ⟨o0, o1, o2, o3, o4, er, hc, he, hs⟩ | ⟨x, hc, hx, hs⟩
  · rw [hs]
    exact (step_err W A o0 o1 o2 o3 o4 er he hc).mono fun e w' q => ⟨q.1, F, h.below q.2, McMv.of_below F A q.2⟩
  · rw [hs]
    refine (step_do W N A M F s h nt x hx hc).mono fun e w' q => ⟨q.1, ?_⟩
    obtain ⟨-, F', q1, q2⟩ := q
    refine ⟨F', ?_, q2⟩
    by_cases hz : (doP s x).2 = 0
    · rwa [if_pos hz] at q1
    · rw [if_neg hz] at q1
      rw [doP_err hz]
      exact q1
theorem NT_mv {W W' : World} {N A M : Nat} {F F' : Nat → Prop} {s : Mch} (nt : Is.NT W) (h : McS W N A M F s) (hm : McMv W W' F F' A) (g1 : 1 < N) (g2 : 0 < N) : Is.NT W' := by
  have hb : ∀ g, g < N → ¬ (F g ∨ g = A) := fun g hg e => by
    rcases e with e | e
    · have := h.own.ge g e; omega
    · have := h.na; omega
  exact ⟨⟨Nat.lt_of_lt_of_le nt.1.1 hm.kp.size, fun i hi => hm.kp.cell nt.1.1 (hb _ g1) (nt.1.2 i hi)⟩,
   ⟨Nat.lt_of_lt_of_le nt.2.1 hm.kp.size, fun i hi => hm.kp.cell nt.2.1 (hb _ g2) (nt.2.2 i hi)⟩⟩
end Go.Proofs.YtegoddghfjfibaaGreatDoor

