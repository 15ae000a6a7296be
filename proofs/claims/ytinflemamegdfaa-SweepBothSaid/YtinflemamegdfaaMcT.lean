/- SweepBoth: the walk. -/
import Derived.Test.YtinflemamegdfaaMcR
import Derived.Test.YtinflemamegdfaaMcS
import Derived.Test.YtinflemamegdfaaMcK
namespace Go.Proofs.Ytinflemamegdfaa
set_option linter.unusedVariables false
set_option linter.unusedSimpArgs false
open Go.Joins Go.ChangeShapes Go.WideShapes Go.ChangeAt Go.RowKit Go.Deep

/-- a machine of its own in its memory -/
structure OneAt (N : Nat) (W : World) (A M : Nat) (F : Nat → Prop) (m : Mm) (pc : Cp) (rs : List Cp) : Prop where
  own : Own1 W N F M m
  ma : McAt W A M pc rs
  fa : ¬ F A
  na : N ≤ A
theorem OneAt.below {N : Nat} {W W' : World} {A M : Nat} {F : Nat → Prop} {m : Mm} {pc : Cp} {rs : List Cp} (h : OneAt N W A M F m pc rs) (hb : Below W.heap.size W W') : OneAt N W' A M F m pc rs := ⟨h.own.below hb, h.ma.below hb, h.fa, h.na⟩
theorem OneAt.kp {N : Nat} {W W' : World} {A M : Nat} {F S : Nat → Prop} {m : Mm} {pc : Cp} {rs : List Cp} (h : OneAt N W A M F m pc rs) (hk : KP W.heap.size S W W') (hF : ∀ b, F b → ¬ S b) (hA : ¬ S A) : OneAt N W' A M F m pc rs :=
  ⟨(h.own.beside (G := S) (G' := S) ⟨fun b hb => Or.inl hb, hk⟩ hF).1, h.ma.kp hk h.ma.lt hA, h.fa, h.na⟩
/-- a sweep of one of two -/
theorem sweep_one (W : World) (N A M : Nat) (F : Nat → Prop) (m : Mm) (pc : Cp) (rs : List Cp) (f n ty : Int) (h : OneAt N W A M F m pc rs) :
    Calls Try.prog 14 #[.pointer (some ⟨A, 0, none⟩), .int .u64 f, .int .u64 n, .int .i64 ty] W fun e W' => e = .returned (.int .i64 (cnt f n ty pc + cntN f n ty rs 32 + (swD m (gran f n ty m)).2)) ∧
      ∃ F', OneAt N W' A M F' (swD m (gran f n ty m)).1 (swp f n ty pc) (swR f n ty rs) ∧ (∀ b, F' b → F b ∨ W.heap.size ≤ b) ∧ KP W.heap.size (fun b => F b ∨ b = A) W W' ∧ Below N W W' := by
  refine (psweep_any W N M A F m pc rs f n ty h.own h.ma h.fa).mono ?_
  rintro e W' ⟨rfl, F', h1, h2, h3, h4, h5⟩
  rw [sw_same h.own.ok f n ty] at h1 ⊢
  exact ⟨rfl, F', ⟨h1, h4, h3, h.na⟩, h2, h5, h5.to_below (m := N) h.own.sz (fun b hb hg => by
    rcases hg with e | e
    · have := h.own.ge b e; omega
    · have := h.na; omega)⟩
theorem swD_len (m : Mm) (l : List Nat) : (swD m l).2 = (l.length : Int) := by
  have := swD_cnt m l l.length (Nat.le_refl _)
  rwa [List.take_of_length_le (Nat.le_refl _)] at this
theorem cap_same (w : World) (c : Cp) : (Op.equalIn 9999 24 (.agg (capC c).toArray) (.agg (capC c).toArray)).run Try.prog w = .ok true w := by
  obtain ⟨cb, ct, ca, cp, cy, cg⟩ := c
  rw [show (capC ⟨cb, ct, ca, cp, cy, cg⟩).toArray = #[.int .u64 cb, .int .u64 ct, .int .u64 ca, .int .i64 cp, .int .i64 cy, .bool cg] from rfl]
  have hu := Try.underlying24
  have ht : Try.prog.underlying 24 = some (.struct (Try.prog.fieldsOf 24)) := by
    unfold Program.fieldsOf
    rw [hu]
  have hs : Try.prog.stoodInHeld 24 = false := by kernel_rfl
  rw [run_equalIn_agg w 9998 _ _ _ ht hs]
  unfold Program.fieldsOf
  rw [hu]
  have hU := Try.underlying22
  have hI := Try.underlying3
  have hB := Try.underlying4
  obtain ⟨X, hX⟩ : ∃ X : Array Value, #[.int .u64 cb, .int .u64 ct, .int .u64 ca, .int .i64 cp, .int .i64 cy, .bool cg] = X := ⟨_, rfl⟩
  have p0 : (part 22 X 0).run Try.prog w = .ok (.int .u64 cb) w := by rw [← hX]; simp [part, isAgg, run_underlying hU]
  have p1 : (part 22 X 1).run Try.prog w = .ok (.int .u64 ct) w := by rw [← hX]; simp [part, isAgg, run_underlying hU]
  have p2 : (part 22 X 2).run Try.prog w = .ok (.int .u64 ca) w := by rw [← hX]; simp [part, isAgg, run_underlying hU]
  have p3 : (part 3 X 3).run Try.prog w = .ok (.int .i64 cp) w := by rw [← hX]; simp [part, isAgg, run_underlying hI]
  have p4 : (part 3 X 4).run Try.prog w = .ok (.int .i64 cy) w := by rw [← hX]; simp [part, isAgg, run_underlying hI]
  have p5 : (part 4 X 5).run Try.prog w = .ok (.bool cg) w := by rw [← hX]; simp [part, isAgg, run_underlying hB]
  have e0 : ∀ a, (Op.equalIn 9998 22 (.int .u64 a) (.int .u64 a)).run Try.prog w = .ok true w := fun a => by rw [run_equalIn_int w 9997 _ .u64 .u64 a a hU]; simp
  have e1 : ∀ a, (Op.equalIn 9998 3 (.int .i64 a) (.int .i64 a)).run Try.prog w = .ok true w := fun a => by rw [run_equalIn_int w 9997 _ .i64 .i64 a a hI]; simp
  have e2 : ∀ a, (Op.equalIn 9998 4 (.bool a) (.bool a)).run Try.prog w = .ok true w := fun a => by rw [run_equalIn_bool' w 9997 _ a a hB]; simp
  rw [hX]
  simp [Op.eqFields, p0, p1, p2, p3, p4, p5, e0, e1, e2]
theorem isAgg_cap (w : World) : (isAgg 24).run Try.prog w = .ok true w := by
  simp only [isAgg, Sem.run_bind, run_underlying Try.underlying24, Result.andThen_ok, Sem.run_pure]
theorem size_cap (w : World) : (sizeOf 24).run Try.prog w = .ok 6 w := by
  have h : (Try.prog.info? 24).map (·.size) = some 6 := by kernel_rfl
  cases hi : Try.prog.info? 24 with
  | none => rw [hi] at h; cases h
  | some i =>
    rw [hi] at h
    have h : i.size = 6 := by simpa using h
    simp [sizeOf, typeInfo, hi, h]
theorem caps_eql (w : World) (qs : List Cp) (h : qs.length = 32) : (binOp .eql 39 (.agg (capsV qs).toArray) (.agg (capsV qs).toArray)).run Try.prog w = .ok (.bool true) w := by
  rw [run_eql_struct, Op.equalIn]
  simp only [Sem.run_bind, run_underlying Try.underlying39, Result.andThen_ok, size_cap, Std.Legacy.Range.forIn_eq_forIn_range', Std.Legacy.Range.size, Nat.sub_zero, Nat.add_sub_cancel, Nat.div_one]
  have hl : ∀ i ∈ List.range' 0 32 1, i < 32 := fun i hi => by simpa using (List.mem_range'_1.1 hi).2
  generalize List.range' 0 32 1 = l at hl ⊢
  induction l with
  | nil => simp
  | cons i l ih =>
    have hi : i < qs.length := by rw [h]; exact hl i (by simp)
    have px : (part 24 (capsV qs).toArray (i * 6)).run Try.prog w = .ok (.agg (capC qs[i]).toArray) w := by
      simp only [part, Sem.run_bind, isAgg_cap, Result.andThen_ok, if_true, size_cap, Sem.run_pure]
      congr 2
      have e : qs = qs.take i ++ (qs[i] :: qs.drop (i + 1)) := by rw [← List.drop_eq_getElem_cons hi, List.take_append_drop]
      have e2 : capsV qs = capsV (qs.take i) ++ (capC qs[i] ++ capsV (qs.drop (i + 1))) := by
        conv => lhs; rw [e]
        rw [capsV_app, capsV_cons]
      have e3 : (capsV (qs.take i)).length = i * 6 := by rw [capsV_len, List.length_take, Nat.min_eq_left (by omega), Nat.mul_comm]
      rw [e2]
      rw [List.extract_toArray, List.extract_eq_take_drop, List.drop_append_of_le_length (by omega), List.drop_of_length_le (by omega), List.nil_append, Nat.add_sub_cancel_left, List.take_append_of_le_length (by show 6 ≤ 6; omega), List.take_of_length_le (by show 6 ≤ 6; omega)]
    simp only [List.forIn_cons, Sem.run_bind, px, cap_same, Result.andThen_ok]
    simp only [Bool.not_true, Bool.false_eq_true, if_false, Sem.run_pure, Result.andThen_ok]
    exact ih fun j hj => hl j (by simp [hj])
set_option maxRecDepth 100000 in
set_option maxHeartbeats 8000000 in
theorem SweepBoth_walk (W : World) (pc : Cp) (pa : Option Addr) (pcap : Nat) (l : List Pt) (f n ty o : Int) (hp : RdPt W pa l) (hm : l.length < 9223372036854775808) (hfp : FitC pc) (hfl : ∀ p ∈ l, FitC p.c) :
    Calls Try.prog 6 #[.agg (capC pc).toArray, .slice pa l.length pcap, .int .u64 f, .int .u64 n, .int .i64 ty, .int .u64 o] W fun e W' => e = .returned (.bool true) ∧ Below W.heap.size W W' := by
  have CB := Lib.hid (fun w (hb : Below W.heap.size W w) => both2_any w pc pa pcap l (hp.below hb) hm hfp hfl)
  obtain ⟨bf, hbf⟩ : ∃ bf, bothF l = bf := ⟨_, rfl⟩
  rw [hbf] at CB
  obtain ⟨cb, ct, ca, cp, cy, cg⟩ := pc
  rw [show (capC ⟨cb, ct, ca, cp, cy, cg⟩).toArray = #[.int .u64 cb, .int .u64 ct, .int .u64 ca, .int .i64 cp, .int .i64 cy, .bool cg] from rfl] at CB ⊢
  generalize l.length = pn at *
  clear hp hm hfp hfl hbf
  go_enter Try.func6, Try.ntmps6
  go_wp2_with fail
  refine (awake_any _).mono ?_; rintro e W1 ⟨rfl, hb⟩
  have B1 := Lib.hid (bTrans (bAlloc (Below.refl _ _) _) hb)
  have X1 := Lib.hid (boxN_below (BoxN.new W #[.int .u64 cb, .int .u64 ct, .int .u64 ca, .int .i64 cp, .int .i64 cy, .bool cg] 24) hb)
  obtain ⟨⟨x0, x1, x2, x3, x4, x5⟩, -⟩ := boxN6 X1.out
  clear hb
  go_wp2_with fail
  refine (CB.out W1 B1.out).mono ?_; rintro e W2 ⟨hb, hor⟩
  have B2 := Lib.hid (B1.out.trans (hb.mono B1.out.size))
  have X2 := Lib.hid (boxN_below X1.out hb)
  have HZ1 := Lib.hid (And.intro B1.out.size hb.size)
  clear x0 x1 x2 x3 x4 x5 hb X1
  obtain ⟨⟨x0, x1, x2, x3, x4, x5⟩, -⟩ := boxN6 X2.out
  rcases hor with hno | ⟨A, B, M, R, F, G, mm, rs, rfl, hs, hmr⟩
  · unfold NoBoth at hno
    subst hno
    go_wp2_with fail
    refine (CB.out W2 B2.out).mono ?_; rintro e W3 ⟨hb, hor⟩
    have B3 := Lib.hid (B2.out.trans (hb.mono B2.out.size))
    clear x0 x1 x2 x3 x4 x5 hb X2 B1 B2
    rcases hor with hno | ⟨A, B, M, R, F, G, mm, rs, rfl, hs, hmr⟩
    · unfold NoBoth at hno
      subst hno
      go_wp2_with fail
      go_ret
      exact ⟨rfl, B3.out⟩
    · clear hs hmr
      go_wp2_with fail
      go_ret
      exact ⟨rfl, B3.out⟩
  obtain ⟨N, hN⟩ : ∃ N, W1.heap.size = N := ⟨_, rfl⟩
  rw [hN] at hs HZ1
  have S2 : Hid (OneAt N W2 A M F mm ⟨cb, ct, ca, cp, cy, cg⟩ rs) := Lib.hid ⟨hs.own, hs.ma, hs.fa, hs.na⟩
  have HMR := Lib.hid hmr
  clear hs hmr hN B1
  go_wp2_with fail
  refine (CB.out W2 B2.out).mono ?_; rintro e W3 ⟨hb, hor⟩
  have B3 := Lib.hid (B2.out.trans (hb.mono B2.out.size))
  have S3 := Lib.hid (S2.out.below hb)
  have HZ2 : Hid (W2.heap.size ≤ W3.heap.size ∧ (∀ b, F b → b < W2.heap.size) ∧ A < W2.heap.size) := Lib.hid ⟨hb.size, S2.out.own.lt, S2.out.ma.lt⟩
  clear x0 x1 x2 x3 x4 x5 hb X2 B2 S2 CB
  rcases hor with hno | ⟨A', B', M', R', F', G', mm', rs', rfl, hs, hmr⟩
  · unfold NoBoth at hno
    subst hno
    go_wp2_with fail
    go_ret
    exact ⟨rfl, B3.out⟩
  have e1 : mm' = mm ∧ rs' = rs := by
    have h1 := hmr.trans HMR.out.symm
    exact ⟨congrArg Prod.fst h1, congrArg Prod.snd h1⟩
  obtain ⟨rfl, rfl⟩ := e1
  obtain ⟨N', hN'⟩ : ∃ N', W2.heap.size = N' := ⟨_, rfl⟩
  rw [hN'] at hs HZ2
  have T3 : Hid (OneAt N' W3 A' M' F' mm' ⟨cb, ct, ca, cp, cy, cg⟩ rs') := Lib.hid ⟨hs.own, hs.ma, hs.fa, hs.na⟩
  have HZ3 : Hid (W.heap.size ≤ N ∧ N ≤ N' ∧ N' ≤ W3.heap.size ∧ (∀ b, F' b → N' ≤ b ∧ b < W3.heap.size) ∧ N' ≤ A' ∧ A' < W3.heap.size) := Lib.hid ⟨HZ1.out.1, by rw [← hN']; exact HZ1.out.2, HZ2.out.1, fun b hb => ⟨hs.own.ge b hb, hs.own.lt b hb⟩, hs.na, hs.ma.lt⟩
  have HOK := Lib.hid hs.own.ok
  clear hs hmr HMR hN' HZ1
  have C := Lib.hid (sweep_one W3 N A M F mm' ⟨cb, ct, ca, cp, cy, cg⟩ rs' f n ty S3.out)
  go_wp2_with fail
  refine C.out.mono ?_; rintro e W4 ⟨rfl, F4, h4, hs4, hk4, hb4⟩
  have S4 := Lib.hid h4
  have HS4 := Lib.hid hs4
  have T4 := Lib.hid (T3.out.kp hk4 (fun b hb hg => by
    have h1 := HZ3.out.2.2.2.1 b hb
    rcases hg with e | e
    · have := HZ2.out.2.1 b e; omega
    · have := HZ2.out.2.2; omega) (fun hg => by
    have h1 := HZ3.out.2.2.2.2.1
    rcases hg with e | e
    · have := HZ2.out.2.1 A' e; omega
    · have := HZ2.out.2.2; omega))
  have B4 := Lib.hid (B3.out.trans (hb4.mono HZ3.out.1))
  have hz4 := hk4.size
  have C := Lib.hid (sweep_one W4 N A M F4 (swD mm' (gran f n ty mm')).1 (swp f n ty ⟨cb, ct, ca, cp, cy, cg⟩) (swR f n ty rs') o 256 (-1) h4)
  have HZ4 : Hid (W3.heap.size ≤ W4.heap.size) := Lib.hid hz4
  clear h4 hs4 hk4 hb4 hz4 S3 T3 B3
  obtain ⟨c1, hc1⟩ : ∃ c, cnt f n ty ⟨cb, ct, ca, cp, cy, cg⟩ + cntN f n ty rs' 32 + (swD mm' (gran f n ty mm')).2 = c := ⟨_, rfl⟩
  rw [hc1]
  obtain ⟨c2, hc2⟩ : ∃ c, cnt o 256 (-1) (swp f n ty ⟨cb, ct, ca, cp, cy, cg⟩) + cntN o 256 (-1) (swR f n ty rs') 32 + (swD (swD mm' (gran f n ty mm')).1 (gran o 256 (-1) (swD mm' (gran f n ty mm')).1)).2 = c := ⟨_, rfl⟩
  rw [hc2] at C
  have HC1 := Lib.hid hc1
  have HC2 := Lib.hid hc2
  have HOK1 := Lib.hid S4.out.own.ok
  clear hc1 hc2
  go_wp2_with fail
  refine C.out.mono ?_; rintro e W5 ⟨rfl, F5, h5, hs5, hk5, hb5⟩
  have S5 := Lib.hid h5
  have HS5 : Hid (∀ b, F5 b → b < N' ∨ W3.heap.size ≤ b) := Lib.hid (fun b hb => by
    have := HZ4.out
    rcases hs5 b hb with h1 | h1
    · rcases HS4.out b h1 with h2 | h2
      · exact Or.inl (HZ2.out.2.1 b h2)
      · exact Or.inr h2
    · exact Or.inr (by omega))
  have T5 := Lib.hid (T4.out.kp hk5 (fun b hb hg => by
    have h1 := HZ3.out.2.2.2.1 b hb
    rcases hg with e | e
    · rcases HS4.out b e with h2 | h2
      · have := HZ2.out.2.1 b h2; omega
      · omega
    · have := HZ2.out.2.2; omega) (fun hg => by
    have h1 := HZ3.out.2.2.2.2
    rcases hg with e | e
    · rcases HS4.out A' e with h2 | h2
      · have := HZ2.out.2.1 A' h2; omega
      · omega
    · have := HZ2.out.2.2; omega))
  have B5 := Lib.hid (B4.out.trans (hb5.mono HZ3.out.1))
  clear h5 hs5 hk5 hb5 S4 T4 B4 HS4 C
  have C := Lib.hid (sweep_one W5 N' A' M' F' mm' ⟨cb, ct, ca, cp, cy, cg⟩ rs' o 256 (-1) T5.out)
  obtain ⟨c3, hc3⟩ : ∃ c, cnt o 256 (-1) ⟨cb, ct, ca, cp, cy, cg⟩ + cntN o 256 (-1) rs' 32 + (swD mm' (gran o 256 (-1) mm')).2 = c := ⟨_, rfl⟩
  rw [hc3] at C
  have HC3 := Lib.hid hc3
  obtain ⟨c4, hc4⟩ : ∃ c, cnt f n ty (swp o 256 (-1) ⟨cb, ct, ca, cp, cy, cg⟩) + cntN f n ty (swR o 256 (-1) rs') 32 + (swD (swD mm' (gran o 256 (-1) mm')).1 (gran f n ty (swD mm' (gran o 256 (-1) mm')).1)).2 = c := ⟨_, rfl⟩
  have HC4 := Lib.hid hc4
  clear hc3 hc4
  go_wp2_with fail
  refine C.out.mono ?_; rintro e W6 ⟨rfl, F6, h6, hs6, hk6, hb6⟩
  have T6 := Lib.hid h6
  have HS6 := Lib.hid hs6
  have S6 := Lib.hid (S5.out.kp hk6 (fun b hb hg => by
    have h0 := HZ3.out
    rcases HS5.out b hb with h1 | h1
    · rcases hg with e | e
      · have := (h0.2.2.2.1 b e).1; omega
      · have := h0.2.2.2.2.1; omega
    · rcases hg with e | e
      · have := (h0.2.2.2.1 b e).2; omega
      · have := h0.2.2.2.2.2; omega) (fun hg => by
    have h0 := HZ3.out
    have h1 := HZ2.out.2.2
    rcases hg with e | e
    · have := (h0.2.2.2.1 A e).1; omega
    · have := h0.2.2.2.2.1; omega))
  have B6 := Lib.hid (B5.out.trans (hb6.mono (Nat.le_trans HZ3.out.1 HZ3.out.2.1)))
  have HOK2 := Lib.hid h6.own.ok
  have C := Lib.hid (sweep_one W6 N' A' M' F6 (swD mm' (gran o 256 (-1) mm')).1 (swp o 256 (-1) ⟨cb, ct, ca, cp, cy, cg⟩) (swR o 256 (-1) rs') f n ty h6)
  rw [HC4.out] at C
  have HF5 : Hid (∀ b, F5 b → b < W5.heap.size) := Lib.hid (fun b hb => S5.out.own.lt b hb)
  clear h6 hs6 hk6 hb6 S5 T5 B5
  go_wp2_with fail
  refine C.out.mono ?_; rintro e W7 ⟨rfl, F7, h7, hs7, hk7, hb7⟩
  have T7 := Lib.hid h7
  have S7 := Lib.hid (S6.out.kp hk7 (fun b hb hg => by
    have h0 := HZ3.out
    have hlt := HF5.out b hb
    have hA : b ≠ A' := fun e => by
      rcases HS5.out b hb with h1 | h1
      · have := h0.2.2.2.2.1; omega
      · have := h0.2.2.2.2.2; omega
    rcases hg with e | e
    · rcases HS6.out b e with h2 | h2
      · have h3 := h0.2.2.2.1 b h2
        rcases HS5.out b hb with h1 | h1 <;> omega
      · omega
    · exact hA e) (fun hg => by
    have h0 := HZ3.out
    have h1 := HZ2.out.2.2
    have h2 := S6.out.own
    rcases hg with e | e
    · have := T6.out.own.ge A e; omega
    · have := h0.2.2.2.2.1; omega))
  have B7 := Lib.hid (B6.out.trans (hb7.mono (Nat.le_trans HZ3.out.1 HZ3.out.2.1)))
  clear h7 hs7 hk7 hb7 S6 T6 B6 HS5 HS6 HF5 C HZ2 HZ3 HZ4
  obtain ⟨hm1, hm2⟩ := two_marks HOK.out f n ty o 256 (-1) HOK1.out
  obtain ⟨hn1, hn2⟩ := two_marks HOK.out o 256 (-1) f n ty HOK2.out
  have hsum : c3 + c4 = c1 + c2 := by
    rw [← HC1.out, ← HC2.out, ← HC3.out, ← HC4.out]
    simp only [swD_len]
    have e1 := cnt_two f n ty o 256 (-1) ⟨cb, ct, ca, cp, cy, cg⟩
    have e2 := cntN_two f n ty o 256 (-1) rs' 32
    have e3 : mm'.mks.countP (fun g => tch f n ty (capOf mm' (32 * g)) || tch o 256 (-1) (capOf mm' (32 * g))) = mm'.mks.countP (fun g => tch o 256 (-1) (capOf mm' (32 * g)) || tch f n ty (capOf mm' (32 * g))) := List.countP_congr (fun g _ => by rw [Bool.or_comm])
    rw [e3, ← hn2] at hm2
    omega
  rw [List.filter_congr (q := fun g => !tch f n ty (capOf mm' (32 * g)) && !tch o 256 (-1) (capOf mm' (32 * g))) (fun g _ => Bool.and_comm _ _), ← hm1] at hn1
  have HSM := Lib.hid hsum
  rw [swp_two f n ty o 256 (-1), swR_two f n ty o 256 (-1)] at T7
  generalize swp o 256 (-1) (swp f n ty ⟨cb, ct, ca, cp, cy, cg⟩) = pq at *
  generalize swR o 256 (-1) (swR f n ty rs') = qs at *
  generalize (swD (swD mm' (gran f n ty mm')).1 (gran o 256 (-1) (swD mm' (gran f n ty mm')).1)).1 = ma at *
  generalize (swD (swD mm' (gran o 256 (-1) mm')).1 (gran f n ty (swD mm' (gran o 256 (-1) mm')).1)).1 = mb at *
  clear hm1 hm2 hn2 hsum HOK HOK1 HOK2 HC1 HC2 HC3 HC4
  have am := S7.out.ma.mem
  have C := Lib.hid (stags_any W7 N M F5 ma S7.out.own)
  obtain ⟨tl, htl⟩ : ∃ t, ma.mks.map (32 * ·) = t := ⟨_, rfl⟩
  obtain ⟨kn, hkn⟩ : ∃ k, ma.mks.length = k := ⟨_, rfl⟩
  have hkl : kn ≤ 2048 := by rw [← hkn]; exact mks_len S7.out.own.ok
  rw [htl, hkn] at C
  rw [← hn1] at htl hkn
  have HKL := Lib.hid hkl
  have HTL := Lib.hid (And.intro htl hkn)
  clear htl hkn hkl hn1
  go_wp2_with fail
  refine C.out.mono ?_; rintro e W8 ⟨ta, tc, rfl, hor, hb⟩
  have S8 := Lib.hid (S7.out.below hb)
  have T8 := Lib.hid (T7.out.below hb)
  have G8 := Lib.hid (RowAt.of hor)
  have B8 := Lib.hid (B7.out.trans (hb.mono B7.out.size))
  clear hor hb C S7 T7 B7 am
  have am := T8.out.ma.mem
  have C := Lib.hid (stags_any W8 N' M' F7 mb T8.out.own)
  rw [HTL.out.1, HTL.out.2] at C
  go_wp2_with fail
  refine C.out.mono ?_; rintro e W9 ⟨ua, uc, rfl, hor, hb⟩
  have S9 := Lib.hid (S8.out.below hb)
  have T9 := Lib.hid (T8.out.below hb)
  have G9 := Lib.hid (G8.out.below hb)
  have H9 := Lib.hid (RowAt.of hor)
  have B9 := Lib.hid (B8.out.trans (hb.mono B8.out.size))
  clear hor hb C S8 T8 B8 am
  have HQL := Lib.hid S9.out.ma.len
  have hpr := range6 S9.out.ma.pcAt
  have hpr2 := range6 T9.out.ma.pcAt
  simp only [Nat.zero_add] at hpr hpr2
  have hrg := S9.out.ma.regs
  have hrg2 := T9.out.ma.regs
  have heq := fun w => caps_eql w qs HQL.out
  have hu := Try.underlying39
  have hsz := arrSize qs HQL.out
  obtain ⟨eb, et, ea, ep, ey, eg⟩ := pq
  obtain ⟨p0, p1, p2, p3, p4, p5⟩ := hpr
  obtain ⟨r0, r1, r2, r3, r4, r5⟩ := hpr2
  simp only [] at p0 p1 p2 p3 p4 p5 r0 r1 r2 r3 r4 r5
  have HS0 : Hid (W9.cell? ⟨A, 0, none⟩ = some (.int .u64 eb) ∧ W9.cell? ⟨A, 1, none⟩ = some (.int .u64 et) ∧ W9.cell? ⟨A, 2, none⟩ = some (.int .u64 ea) ∧ W9.cell? ⟨A, 3, none⟩ = some (.int .i64 ep) ∧ W9.cell? ⟨A, 4, none⟩ = some (.int .i64 ey) ∧ W9.cell? ⟨A, 5, none⟩ = some (.bool eg) ∧ W9.rangeAt A 6 (capsV qs) ∧ W9.cell? ⟨A', 0, none⟩ = some (.int .u64 eb) ∧ W9.cell? ⟨A', 1, none⟩ = some (.int .u64 et) ∧ W9.cell? ⟨A', 2, none⟩ = some (.int .u64 ea) ∧ W9.cell? ⟨A', 3, none⟩ = some (.int .i64 ep) ∧ W9.cell? ⟨A', 4, none⟩ = some (.int .i64 ey) ∧ W9.cell? ⟨A', 5, none⟩ = some (.bool eg) ∧ W9.rangeAt A' 6 (capsV qs)) := Lib.hid ⟨p0, p1, p2, p3, p4, p5, hrg, r0, r1, r2, r3, r4, r5, hrg2⟩
  have HSd : Hid (W9.drew.cell? ⟨A, 0, none⟩ = some (.int .u64 eb) ∧ W9.drew.cell? ⟨A, 1, none⟩ = some (.int .u64 et) ∧ W9.drew.cell? ⟨A, 2, none⟩ = some (.int .u64 ea) ∧ W9.drew.cell? ⟨A, 3, none⟩ = some (.int .i64 ep) ∧ W9.drew.cell? ⟨A, 4, none⟩ = some (.int .i64 ey) ∧ W9.drew.cell? ⟨A, 5, none⟩ = some (.bool eg) ∧ W9.drew.rangeAt A 6 (capsV qs) ∧ W9.drew.cell? ⟨A', 0, none⟩ = some (.int .u64 eb) ∧ W9.drew.cell? ⟨A', 1, none⟩ = some (.int .u64 et) ∧ W9.drew.cell? ⟨A', 2, none⟩ = some (.int .u64 ea) ∧ W9.drew.cell? ⟨A', 3, none⟩ = some (.int .i64 ep) ∧ W9.drew.cell? ⟨A', 4, none⟩ = some (.int .i64 ey) ∧ W9.drew.cell? ⟨A', 5, none⟩ = some (.bool eg) ∧ W9.drew.rangeAt A' 6 (capsV qs)) := Lib.hid HS0.out
  clear p0 p1 p2 p3 p4 p5 r0 r1 r2 r3 r4 r5 hrg hrg2
  go_upto_region 12 with fail
  (try rw [HSM.out])
  refine wp_region_held_drew (S := fun W => W.cell? ⟨A, 0, none⟩ = some (.int .u64 eb) ∧ W.cell? ⟨A, 1, none⟩ = some (.int .u64 et) ∧ W.cell? ⟨A, 2, none⟩ = some (.int .u64 ea) ∧ W.cell? ⟨A, 3, none⟩ = some (.int .i64 ep) ∧ W.cell? ⟨A, 4, none⟩ = some (.int .i64 ey) ∧ W.cell? ⟨A, 5, none⟩ = some (.bool eg) ∧ W.rangeAt A 6 (capsV qs) ∧ W.cell? ⟨A', 0, none⟩ = some (.int .u64 eb) ∧ W.cell? ⟨A', 1, none⟩ = some (.int .u64 et) ∧ W.cell? ⟨A', 2, none⟩ = some (.int .u64 ea) ∧ W.cell? ⟨A', 3, none⟩ = some (.int .i64 ep) ∧ W.cell? ⟨A', 4, none⟩ = some (.int .i64 ey) ∧ W.cell? ⟨A', 5, none⟩ = some (.bool eg) ∧ W.rangeAt A' 6 (capsV qs)) (by kernel_rfl) HSd.out (fun hHeld => ?_)
  refine wpAnyH_take (i := 0) (oi := { dst := some 72, op := .move (.tmp 13), type := 4, pos := "law.go:176", after := #[], guard := none }) (v := ?_) rfl (by kernel_rfl) (by kernel_rfl) (by kernel_rfl) (fun _ _ _ h => h) (Or.inl ⟨by rfl, ?_⟩) (by assumption) ?_
  rotate_left
  · (intro w hSw; (try dsimp only at hSw); go_simp); all_goals with_reducible rfl
  (try simp only [Act.put, List.setIfInBounds_toArray, List.set_cons_zero, List.set_cons_succ])
  refine wpAnyH_take (i := 1) (oi := { dst := some 73, op := .move (.tmp 72), type := 4, pos := "law.go:176", after := #[{ on := 0, ground := .data }], guard := none }) (v := ?_) rfl (by kernel_rfl) (by kernel_rfl) (by kernel_rfl) (fun _ _ _ h => h) (Or.inl ⟨by rfl, ?_⟩) (by assumption) ?_
  rotate_left
  · (intro w hSw; (try dsimp only at hSw); go_simp); all_goals with_reducible rfl
  (try simp only [Act.put, List.setIfInBounds_toArray, List.set_cons_zero, List.set_cons_succ])
  refine wpAnyH_take (i := 2) (oi := { dst := some 74, op := .move (.tmp 18), type := 3, pos := "law.go:176", after := #[{ on := 1, ground := .guard }], guard := some (1, true) }) (v := ?_) rfl (by kernel_rfl) (by kernel_rfl) (by kernel_rfl) (fun _ _ _ h => h) (Or.inl ⟨by rfl, ?_⟩) (by assumption) ?_
  rotate_left
  · (intro w hSw; (try dsimp only at hSw); go_simp); all_goals with_reducible rfl
  (try simp only [Act.put, List.setIfInBounds_toArray, List.set_cons_zero, List.set_cons_succ])
  refine wpAnyH_take (i := 3) (oi := { dst := some 75, op := .move (.tmp 19), type := 3, pos := "law.go:176", after := #[{ on := 1, ground := .guard }], guard := some (1, true) }) (v := ?_) rfl (by kernel_rfl) (by kernel_rfl) (by kernel_rfl) (fun _ _ _ h => h) (Or.inl ⟨by rfl, ?_⟩) (by assumption) ?_
  rotate_left
  · (intro w hSw; (try dsimp only at hSw); go_simp); all_goals with_reducible rfl
  (try simp only [Act.put, List.setIfInBounds_toArray, List.set_cons_zero, List.set_cons_succ])
  refine wpAnyH_take (i := 4) (oi := { dst := some 76, op := .binOp .eql 3 (.tmp 74) (.tmp 75) 3, type := 4, pos := "law.go:176", after := #[{ on := 2, ground := .data }, { on := 3, ground := .data }, { on := 1, ground := .guard }], guard := some (1, true) }) (v := ?_) rfl (by kernel_rfl) (by kernel_rfl) (by kernel_rfl) (fun _ _ _ h => h) (Or.inl ⟨by rfl, ?_⟩) (by assumption) ?_
  rotate_left
  · (intro w hSw; (try dsimp only at hSw); go_simp); all_goals with_reducible rfl
  (try simp only [Act.put, List.setIfInBounds_toArray, List.set_cons_zero, List.set_cons_succ])
  refine wpAnyH_take (i := 5) (oi := { dst := some 77, op := .pick (.tmp 73) (.tmp 76) (.const (.bool false)), type := 4, pos := "law.go:176", after := #[{ on := 1, ground := .data }, { on := 4, ground := .data }], guard := none }) (v := ?_) rfl (by kernel_rfl) (by kernel_rfl) (by kernel_rfl) (fun _ _ _ h => h) (Or.inl ⟨by rfl, ?_⟩) (by assumption) ?_
  rotate_left
  · (intro w hSw; (try dsimp only at hSw); go_simp); all_goals with_reducible rfl
  (try simp only [Act.put, List.setIfInBounds_toArray, List.set_cons_zero, List.set_cons_succ])
  refine wpAnyH_take (i := 6) (oi := { dst := some 78, op := .move (.tmp 77), type := 4, pos := "law.go:176", after := #[{ on := 5, ground := .data }, { on := 1, ground := .chain }], guard := none }) (v := ?_) rfl (by kernel_rfl) (by kernel_rfl) (by kernel_rfl) (fun _ _ _ h => h) (Or.inl ⟨by rfl, ?_⟩) (by assumption) ?_
  rotate_left
  · (intro w hSw; (try dsimp only at hSw); go_simp); all_goals with_reducible rfl
  (try simp only [Act.put, List.setIfInBounds_toArray, List.set_cons_zero, List.set_cons_succ])
  refine wpAnyH_take (i := 7) (oi := { dst := some 79, op := .move (.tmp 14), type := 29, pos := "law.go:176", after := #[{ on := 6, ground := .guard }], guard := some (6, true) }) (v := ?_) rfl (by kernel_rfl) (by kernel_rfl) (by kernel_rfl) (fun _ _ _ h => h) (Or.inl ⟨by rfl, ?_⟩) (by assumption) ?_
  rotate_left
  · (intro w hSw; (try dsimp only at hSw); go_simp); all_goals with_reducible rfl
  (try simp only [Act.put, List.setIfInBounds_toArray, List.set_cons_zero, List.set_cons_succ])
  refine wpAnyH_take (i := 8) (oi := { dst := some 80, op := .nilCheck (.tmp 79), type := 0, pos := "law.go:176", after := #[{ on := 7, ground := .data }, { on := 6, ground := .guard }], guard := some (6, true) }) (v := ?_) rfl (by kernel_rfl) (by kernel_rfl) (by kernel_rfl) (fun _ _ _ h => h) (Or.inl ⟨by rfl, ?_⟩) (by assumption) ?_
  rotate_left
  · (intro w hSw; (try dsimp only at hSw); go_simp); all_goals with_reducible rfl
  (try simp only [Act.put, List.setIfInBounds_toArray, List.set_cons_zero, List.set_cons_succ])
  refine wpAnyH_take (i := 9) (oi := { dst := some 81, op := .fieldAddr 42 (.tmp 80) 0, type := 0, pos := "law.go:176", after := #[{ on := 8, ground := .data }, { on := 6, ground := .guard }], guard := some (6, true) }) (v := ?_) rfl (by kernel_rfl) (by kernel_rfl) (by kernel_rfl) (fun _ _ _ h => h) (Or.inl ⟨by rfl, ?_⟩) (by assumption) ?_
  rotate_left
  · (intro w hSw; (try dsimp only at hSw); go_simp); all_goals with_reducible rfl
  (try simp only [Act.put, List.setIfInBounds_toArray, List.set_cons_zero, List.set_cons_succ])
  refine wpAnyH_take (i := 10) (oi := { dst := some 82, op := .load 24 (.tmp 81), type := 24, pos := "law.go:176", after := #[{ on := 9, ground := .data }, { on := 6, ground := .guard }], guard := some (6, true) }) (v := ?_) rfl (by kernel_rfl) (by kernel_rfl) (by kernel_rfl) (fun _ _ _ h => h) (Or.inl ⟨by rfl, ?_⟩) (by assumption) ?_
  rotate_left
  · (intro w hSw; (try dsimp only at hSw); go_simp); all_goals with_reducible rfl
  (try simp only [Act.put, List.setIfInBounds_toArray, List.set_cons_zero, List.set_cons_succ])
  refine wpAnyH_take (i := 11) (oi := { dst := some 83, op := .move (.tmp 16), type := 29, pos := "law.go:176", after := #[{ on := 6, ground := .guard }], guard := some (6, true) }) (v := ?_) rfl (by kernel_rfl) (by kernel_rfl) (by kernel_rfl) (fun _ _ _ h => h) (Or.inl ⟨by rfl, ?_⟩) (by assumption) ?_
  rotate_left
  · (intro w hSw; (try dsimp only at hSw); go_simp); all_goals with_reducible rfl
  (try simp only [Act.put, List.setIfInBounds_toArray, List.set_cons_zero, List.set_cons_succ])
  refine wpAnyH_take (i := 12) (oi := { dst := some 84, op := .nilCheck (.tmp 83), type := 0, pos := "law.go:176", after := #[{ on := 11, ground := .data }, { on := 6, ground := .guard }], guard := some (6, true) }) (v := ?_) rfl (by kernel_rfl) (by kernel_rfl) (by kernel_rfl) (fun _ _ _ h => h) (Or.inl ⟨by rfl, ?_⟩) (by assumption) ?_
  rotate_left
  · (intro w hSw; (try dsimp only at hSw); go_simp); all_goals with_reducible rfl
  (try simp only [Act.put, List.setIfInBounds_toArray, List.set_cons_zero, List.set_cons_succ])
  refine wpAnyH_take (i := 13) (oi := { dst := some 85, op := .fieldAddr 42 (.tmp 84) 0, type := 0, pos := "law.go:176", after := #[{ on := 12, ground := .data }, { on := 6, ground := .guard }], guard := some (6, true) }) (v := ?_) rfl (by kernel_rfl) (by kernel_rfl) (by kernel_rfl) (fun _ _ _ h => h) (Or.inl ⟨by rfl, ?_⟩) (by assumption) ?_
  rotate_left
  · (intro w hSw; (try dsimp only at hSw); go_simp); all_goals with_reducible rfl
  (try simp only [Act.put, List.setIfInBounds_toArray, List.set_cons_zero, List.set_cons_succ])
  refine wpAnyH_take (i := 14) (oi := { dst := some 86, op := .load 24 (.tmp 85), type := 24, pos := "law.go:176", after := #[{ on := 13, ground := .data }, { on := 6, ground := .guard }], guard := some (6, true) }) (v := ?_) rfl (by kernel_rfl) (by kernel_rfl) (by kernel_rfl) (fun _ _ _ h => h) (Or.inl ⟨by rfl, ?_⟩) (by assumption) ?_
  rotate_left
  · (intro w hSw; (try dsimp only at hSw); go_simp); all_goals with_reducible rfl
  (try simp only [Act.put, List.setIfInBounds_toArray, List.set_cons_zero, List.set_cons_succ])
  refine wpAnyH_take (i := 15) (oi := { dst := some 87, op := .binOp .eql 24 (.tmp 82) (.tmp 86) 24, type := 4, pos := "law.go:176", after := #[{ on := 10, ground := .data }, { on := 14, ground := .data }, { on := 6, ground := .guard }], guard := some (6, true) }) (v := ?_) rfl (by kernel_rfl) (by kernel_rfl) (by kernel_rfl) (fun _ _ _ h => h) (Or.inl ⟨by rfl, ?_⟩) (by assumption) ?_
  rotate_left
  · (intro w hSw; (try dsimp only at hSw); go_simp); all_goals with_reducible rfl
  (try simp only [Act.put, List.setIfInBounds_toArray, List.set_cons_zero, List.set_cons_succ])
  refine wpAnyH_take (i := 16) (oi := { dst := some 88, op := .pick (.tmp 78) (.tmp 87) (.const (.bool false)), type := 4, pos := "law.go:176", after := #[{ on := 6, ground := .data }, { on := 15, ground := .data }], guard := none }) (v := ?_) rfl (by kernel_rfl) (by kernel_rfl) (by kernel_rfl) (fun _ _ _ h => h) (Or.inl ⟨by rfl, ?_⟩) (by assumption) ?_
  rotate_left
  · (intro w hSw; (try dsimp only at hSw); go_simp); all_goals with_reducible rfl
  (try simp only [Act.put, List.setIfInBounds_toArray, List.set_cons_zero, List.set_cons_succ])
  refine wpAnyH_take (i := 17) (oi := { dst := some 89, op := .move (.tmp 88), type := 4, pos := "law.go:176", after := #[{ on := 16, ground := .data }, { on := 6, ground := .chain }], guard := none }) (v := ?_) rfl (by kernel_rfl) (by kernel_rfl) (by kernel_rfl) (fun _ _ _ h => h) (Or.inl ⟨by rfl, ?_⟩) (by assumption) ?_
  rotate_left
  · (intro w hSw; (try dsimp only at hSw); go_simp); all_goals with_reducible rfl
  (try simp only [Act.put, List.setIfInBounds_toArray, List.set_cons_zero, List.set_cons_succ])
  refine wpAnyH_take (i := 18) (oi := { dst := some 90, op := .move (.tmp 14), type := 29, pos := "law.go:176", after := #[{ on := 17, ground := .guard }], guard := some (17, true) }) (v := ?_) rfl (by kernel_rfl) (by kernel_rfl) (by kernel_rfl) (fun _ _ _ h => h) (Or.inl ⟨by rfl, ?_⟩) (by assumption) ?_
  rotate_left
  · (intro w hSw; (try dsimp only at hSw); go_simp); all_goals with_reducible rfl
  (try simp only [Act.put, List.setIfInBounds_toArray, List.set_cons_zero, List.set_cons_succ])
  refine wpAnyH_take (i := 19) (oi := { dst := some 91, op := .nilCheck (.tmp 90), type := 0, pos := "law.go:176", after := #[{ on := 18, ground := .data }, { on := 17, ground := .guard }], guard := some (17, true) }) (v := ?_) rfl (by kernel_rfl) (by kernel_rfl) (by kernel_rfl) (fun _ _ _ h => h) (Or.inl ⟨by rfl, ?_⟩) (by assumption) ?_
  rotate_left
  · (intro w hSw; (try dsimp only at hSw); go_simp); all_goals with_reducible rfl
  (try simp only [Act.put, List.setIfInBounds_toArray, List.set_cons_zero, List.set_cons_succ])
  refine wpAnyH_take (i := 20) (oi := { dst := some 92, op := .fieldAddr 42 (.tmp 91) 1, type := 0, pos := "law.go:176", after := #[{ on := 19, ground := .data }, { on := 17, ground := .guard }], guard := some (17, true) }) (v := ?_) rfl (by kernel_rfl) (by kernel_rfl) (by kernel_rfl) (fun _ _ _ h => h) (Or.inl ⟨by rfl, ?_⟩) (by assumption) ?_
  rotate_left
  · (intro w hSw; (try dsimp only at hSw); go_simp); all_goals with_reducible rfl
  (try simp only [Act.put, List.setIfInBounds_toArray, List.set_cons_zero, List.set_cons_succ])
  refine wpAnyH_take (i := 21) (oi := { dst := some 93, op := .load 39 (.tmp 92), type := 39, pos := "law.go:176", after := #[{ on := 20, ground := .data }, { on := 17, ground := .guard }], guard := some (17, true) }) (v := .agg (capsV qs).toArray) rfl (by kernel_rfl) (by kernel_rfl) (by kernel_rfl) (fun _ _ _ h => h) (yieldsIf_load_mid (by rfl) _ _ rfl _ _ rfl (capsV qs) _ ?_ hu rfl hsz) (by assumption) ?_
  · intro w hSw; (try dsimp only at hSw); go_split_ands; assumption
  (try simp only [Act.put, List.setIfInBounds_toArray, List.set_cons_zero, List.set_cons_succ])
  refine wpAnyH_take (i := 22) (oi := { dst := some 94, op := .move (.tmp 16), type := 29, pos := "law.go:176", after := #[{ on := 17, ground := .guard }], guard := some (17, true) }) (v := ?_) rfl (by kernel_rfl) (by kernel_rfl) (by kernel_rfl) (fun _ _ _ h => h) (Or.inl ⟨by rfl, ?_⟩) (by assumption) ?_
  rotate_left
  · (intro w hSw; (try dsimp only at hSw); go_simp); all_goals with_reducible rfl
  (try simp only [Act.put, List.setIfInBounds_toArray, List.set_cons_zero, List.set_cons_succ])
  refine wpAnyH_take (i := 23) (oi := { dst := some 95, op := .nilCheck (.tmp 94), type := 0, pos := "law.go:176", after := #[{ on := 22, ground := .data }, { on := 17, ground := .guard }], guard := some (17, true) }) (v := ?_) rfl (by kernel_rfl) (by kernel_rfl) (by kernel_rfl) (fun _ _ _ h => h) (Or.inl ⟨by rfl, ?_⟩) (by assumption) ?_
  rotate_left
  · (intro w hSw; (try dsimp only at hSw); go_simp); all_goals with_reducible rfl
  (try simp only [Act.put, List.setIfInBounds_toArray, List.set_cons_zero, List.set_cons_succ])
  refine wpAnyH_take (i := 24) (oi := { dst := some 96, op := .fieldAddr 42 (.tmp 95) 1, type := 0, pos := "law.go:176", after := #[{ on := 23, ground := .data }, { on := 17, ground := .guard }], guard := some (17, true) }) (v := ?_) rfl (by kernel_rfl) (by kernel_rfl) (by kernel_rfl) (fun _ _ _ h => h) (Or.inl ⟨by rfl, ?_⟩) (by assumption) ?_
  rotate_left
  · (intro w hSw; (try dsimp only at hSw); go_simp); all_goals with_reducible rfl
  (try simp only [Act.put, List.setIfInBounds_toArray, List.set_cons_zero, List.set_cons_succ])
  refine wpAnyH_take (i := 25) (oi := { dst := some 97, op := .load 39 (.tmp 96), type := 39, pos := "law.go:176", after := #[{ on := 24, ground := .data }, { on := 17, ground := .guard }], guard := some (17, true) }) (v := .agg (capsV qs).toArray) rfl (by kernel_rfl) (by kernel_rfl) (by kernel_rfl) (fun _ _ _ h => h) (yieldsIf_load_mid (by rfl) _ _ rfl _ _ rfl (capsV qs) _ ?_ hu rfl hsz) (by assumption) ?_
  · intro w hSw; (try dsimp only at hSw); go_split_ands; assumption
  (try simp only [Act.put, List.setIfInBounds_toArray, List.set_cons_zero, List.set_cons_succ])
  refine wpAnyH_take (i := 26) (oi := { dst := some 98, op := .binOp .eql 39 (.tmp 93) (.tmp 97) 39, type := 4, pos := "law.go:176", after := #[{ on := 21, ground := .data }, { on := 25, ground := .data }, { on := 17, ground := .guard }], guard := some (17, true) }) (v := ?_) rfl (by kernel_rfl) (by kernel_rfl) (by kernel_rfl) (fun _ _ _ h => h) (Or.inl ⟨by rfl, ?_⟩) (by assumption) ?_
  rotate_left
  · (intro w hSw; (try dsimp only at hSw); go_simp); all_goals with_reducible rfl
  (try simp only [Act.put, List.setIfInBounds_toArray, List.set_cons_zero, List.set_cons_succ])
  refine wpAnyH_take (i := 27) (oi := { dst := some 99, op := .pick (.tmp 89) (.tmp 98) (.const (.bool false)), type := 4, pos := "law.go:176", after := #[{ on := 17, ground := .data }, { on := 26, ground := .data }], guard := none }) (v := ?_) rfl (by kernel_rfl) (by kernel_rfl) (by kernel_rfl) (fun _ _ _ h => h) (Or.inl ⟨by rfl, ?_⟩) (by assumption) ?_
  rotate_left
  · (intro w hSw; (try dsimp only at hSw); go_simp); all_goals with_reducible rfl
  (try simp only [Act.put, List.setIfInBounds_toArray, List.set_cons_zero, List.set_cons_succ])
  refine wpAnyH_take (i := 28) (oi := { dst := some 100, op := .move (.tmp 99), type := 4, pos := "law.go:176", after := #[{ on := 27, ground := .data }, { on := 17, ground := .chain }], guard := none }) (v := ?_) rfl (by kernel_rfl) (by kernel_rfl) (by kernel_rfl) (fun _ _ _ h => h) (Or.inl ⟨by rfl, ?_⟩) (by assumption) ?_
  rotate_left
  · (intro w hSw; (try dsimp only at hSw); go_simp); all_goals with_reducible rfl
  (try simp only [Act.put, List.setIfInBounds_toArray, List.set_cons_zero, List.set_cons_succ])
  refine wpAnyH_take (i := 29) (oi := { dst := some 101, op := .move (.tmp 20), type := 33, pos := "law.go:176", after := #[{ on := 28, ground := .guard }], guard := some (28, true) }) (v := ?_) rfl (by kernel_rfl) (by kernel_rfl) (by kernel_rfl) (fun _ _ _ h => h) (Or.inl ⟨by rfl, ?_⟩) (by assumption) ?_
  rotate_left
  · (intro w hSw; (try dsimp only at hSw); go_simp); all_goals with_reducible rfl
  (try simp only [Act.put, List.setIfInBounds_toArray, List.set_cons_zero, List.set_cons_succ])
  refine wpAnyH_take (i := 30) (oi := { dst := some 102, op := .move (.tmp 21), type := 33, pos := "law.go:176", after := #[{ on := 28, ground := .guard }], guard := some (28, true) }) (v := ?_) rfl (by kernel_rfl) (by kernel_rfl) (by kernel_rfl) (fun _ _ _ h => h) (Or.inl ⟨by rfl, ?_⟩) (by assumption) ?_
  rotate_left
  · (intro w hSw; (try dsimp only at hSw); go_simp); all_goals with_reducible rfl
  (try simp only [Act.put, List.setIfInBounds_toArray, List.set_cons_zero, List.set_cons_succ])
  refine wpAnyH_ready (rs := [31]) (by kernel_rfl) (by simp) ?_
  refine AllReadyH.cons (o := { dst := some 103, op := .call { callee := .value (.func 19), args := #[.tmp 101, .tmp 102], argTypes := #[33, 33] }, type := 4, pos := "law.go:176", after := #[{ on := 29, ground := .data }, { on := 30, ground := .data }, { on := 28, ground := .chain }, { on := 28, ground := .guard }], guard := some (28, true) }) rfl (fun K hK => ?_) AllReadyH.nil
  go_simp
  go_at_call 19
  ((with_reducible refine (usame_any ta ua kn tc kn uc tl tl W9.drew (G9.out.rd.below (Below.drew (Below.refl _ _))) (H9.out.rd.below (Below.drew (Below.refl _ _))) (by have := HKL.out; omega) (by have := HKL.out; omega)).mono ?_); rintro e v1 ⟨rfl, hb⟩; have hb := undrewB hb; rw [decide_eq_true rfl]; have q := HS0.out; have HS1 : Hid (v1.cell? ⟨A, 0, none⟩ = some (.int .u64 eb) ∧ v1.cell? ⟨A, 1, none⟩ = some (.int .u64 et) ∧ v1.cell? ⟨A, 2, none⟩ = some (.int .u64 ea) ∧ v1.cell? ⟨A, 3, none⟩ = some (.int .i64 ep) ∧ v1.cell? ⟨A, 4, none⟩ = some (.int .i64 ey) ∧ v1.cell? ⟨A, 5, none⟩ = some (.bool eg) ∧ v1.rangeAt A 6 (capsV qs) ∧ v1.cell? ⟨A', 0, none⟩ = some (.int .u64 eb) ∧ v1.cell? ⟨A', 1, none⟩ = some (.int .u64 et) ∧ v1.cell? ⟨A', 2, none⟩ = some (.int .u64 ea) ∧ v1.cell? ⟨A', 3, none⟩ = some (.int .i64 ep) ∧ v1.cell? ⟨A', 4, none⟩ = some (.int .i64 ey) ∧ v1.cell? ⟨A', 5, none⟩ = some (.bool eg) ∧ v1.rangeAt A' 6 (capsV qs)) := Lib.hid (And.intro ((hb.cell (heap_lt_of_cell q.1)).trans q.1) (And.intro ((hb.cell (heap_lt_of_cell q.2.1)).trans q.2.1) (And.intro ((hb.cell (heap_lt_of_cell q.2.2.1)).trans q.2.2.1) (And.intro ((hb.cell (heap_lt_of_cell q.2.2.2.1)).trans q.2.2.2.1) (And.intro ((hb.cell (heap_lt_of_cell q.2.2.2.2.1)).trans q.2.2.2.2.1) (And.intro ((hb.cell (heap_lt_of_cell q.2.2.2.2.2.1)).trans q.2.2.2.2.2.1) (And.intro (fun j v hv => (hb.cell (heap_lt_of_cell (q.2.2.2.2.2.2.1 j v hv))).trans (q.2.2.2.2.2.2.1 j v hv)) (And.intro ((hb.cell (heap_lt_of_cell q.2.2.2.2.2.2.2.1)).trans q.2.2.2.2.2.2.2.1) (And.intro ((hb.cell (heap_lt_of_cell q.2.2.2.2.2.2.2.2.1)).trans q.2.2.2.2.2.2.2.2.1) (And.intro ((hb.cell (heap_lt_of_cell q.2.2.2.2.2.2.2.2.2.1)).trans q.2.2.2.2.2.2.2.2.2.1) (And.intro ((hb.cell (heap_lt_of_cell q.2.2.2.2.2.2.2.2.2.2.1)).trans q.2.2.2.2.2.2.2.2.2.2.1) (And.intro ((hb.cell (heap_lt_of_cell q.2.2.2.2.2.2.2.2.2.2.2.1)).trans q.2.2.2.2.2.2.2.2.2.2.2.1) (And.intro ((hb.cell (heap_lt_of_cell q.2.2.2.2.2.2.2.2.2.2.2.2.1)).trans q.2.2.2.2.2.2.2.2.2.2.2.2.1) (fun j v hv => (hb.cell (heap_lt_of_cell (q.2.2.2.2.2.2.2.2.2.2.2.2.2 j v hv))).trans (q.2.2.2.2.2.2.2.2.2.2.2.2.2 j v hv))))))))))))))); have HB1 := Lib.hid hb; clear hb q; dsimp only)
  refine hK.out _ _ HS1.out (fun hHeld2 => ?_)
  clear hK K hHeld
  (try simp only [Act.put, List.setIfInBounds_toArray, List.set_cons_zero, List.set_cons_succ])
  refine wpAnyH_take (i := 32) (oi := { dst := some 104, op := .pick (.tmp 100) (.tmp 103) (.const (.bool false)), type := 4, pos := "law.go:176", after := #[{ on := 28, ground := .data }, { on := 31, ground := .data }], guard := none }) (v := ?_) rfl (by kernel_rfl) (by kernel_rfl) (by kernel_rfl) (fun _ _ _ h => h) (Or.inl ⟨by rfl, ?_⟩) (by assumption) ?_
  rotate_left
  · (intro w hSw; (try dsimp only at hSw); go_simp); all_goals with_reducible rfl
  (try simp only [Act.put, List.setIfInBounds_toArray, List.set_cons_zero, List.set_cons_succ])
  refine wpAnyH_take (i := 33) (oi := { dst := some 12, op := .assign (.tmp 104), type := 4, pos := "law.go:176", after := #[{ on := 32, ground := .data }, { on := 31, ground := .chain }, { on := 0, ground := .phase }, { on := 1, ground := .phase }, { on := 2, ground := .phase }, { on := 3, ground := .phase }, { on := 4, ground := .phase }, { on := 5, ground := .phase }, { on := 6, ground := .phase }, { on := 7, ground := .phase }, { on := 8, ground := .phase }, { on := 9, ground := .phase }, { on := 10, ground := .phase }, { on := 11, ground := .phase }, { on := 12, ground := .phase }, { on := 13, ground := .phase }, { on := 14, ground := .phase }, { on := 15, ground := .phase }, { on := 16, ground := .phase }, { on := 17, ground := .phase }, { on := 18, ground := .phase }, { on := 19, ground := .phase }, { on := 20, ground := .phase }, { on := 21, ground := .phase }, { on := 22, ground := .phase }, { on := 23, ground := .phase }, { on := 24, ground := .phase }, { on := 25, ground := .phase }, { on := 26, ground := .phase }, { on := 27, ground := .phase }, { on := 28, ground := .phase }, { on := 29, ground := .phase }, { on := 30, ground := .phase }, { on := 31, ground := .phase }, { on := 32, ground := .phase }], guard := none }) (v := ?_) rfl (by kernel_rfl) (by kernel_rfl) (by kernel_rfl) (fun _ _ _ h => h) (Or.inl ⟨by rfl, ?_⟩) (by assumption) ?_
  rotate_left
  · (intro w hSw; (try dsimp only at hSw); go_simp); all_goals with_reducible rfl
  (try simp only [Act.put, List.setIfInBounds_toArray, List.set_cons_zero, List.set_cons_succ])
  refine wpAnyH_done (by kernel_rfl) ?_ _
  have B10 := Lib.hid (B9.out.trans (HB1.out.mono B9.out.size))
  clear hsz heq
  go_wp2_with fail
  go_ret
  exact ⟨rfl, B10.out⟩
end Go.Proofs.Ytinflemamegdfaa
