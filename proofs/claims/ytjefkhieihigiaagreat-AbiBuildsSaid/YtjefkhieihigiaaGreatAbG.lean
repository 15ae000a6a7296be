/- The region: texts. -/
import Derived.Test.YtjefkhieihigiaaGreatAbF
import Derived.Deep.RegionLaw
namespace Go.Proofs.YtjefkhieihigiaaGreat
set_option linter.unusedVariables false
set_option linter.unusedSimpArgs false
open Go.Joins Go.ChangeShapes Go.WideShapes Go.ChangeAt Go.RowKit Go.Deep

theorem RegO.offS {W W' : World} {N b M : Nat} {F S : Nat → Prop} {m : Mm} {x : Nat} (h : RegO W N b M F m x) (hk : KP W.heap.size S W W') (hS : ∀ q, S q → ¬ withB F b q) : RegO W' N b M F m x :=
  ⟨⟨h.own.mem.kp hk (Nat.le_refl _) (fun q hq e => hS q e (Or.inl hq)), h.own.ge, Nat.le_trans h.own.sz hk.size⟩, h.box.kp hk h.lt (fun e => hS b e (Or.inr rfl)), h.nb, h.ge⟩
theorem capC_one (c : Cp) : ∀ u ∈ capC c, u.oneCell' = true := fun u hu => by
  unfold capC at hu
  simp only [List.mem_cons, List.not_mem_nil, or_false] at hu
  rcases hu with rfl | rfl | rfl | rfl | rfl | rfl <;> rfl
theorem step_appR {P : Program} {t : TypeId} (w : World) {ops : Array Oper} {o : Oper} {a : Act} {K : Act → World → Prop} {Q : Exit → Act → World → Prop} {E : Prop} (hgd : o.guard = none) (s x : Operand) (ho : o.op = .call { callee := .builtin .append, args := #[s, x], argTypes := #[t, t] }) (sv xv r : Value) (W' : World) (hs : a.eval s = sv) (hx : a.eval x = xv)
    (hrun : (Builtin.append_ #[t, t] o.type #[sv, xv]).run P w = .ok r W') (h : K (a.put o.dst r) W') : if Region.wanted o (yielded ops a.tmps) = true then Oper.wp P o a w K Q else E := by
  have hw : Region.wanted o (yielded ops a.tmps) = true := by simp [Region.wanted, hgd]
  rw [if_pos hw]
  unfold Oper.wp execOp
  simp only [ho, resolve, invoke, builtin, Sem.run_bind, Sem.run_pure, Result.andThen_ok, List.map_toArray, List.map_cons, List.map_nil, hs, hx, hrun]
  exact h
set_option maxRecDepth 100000 in
set_option maxHeartbeats 4000000 in
theorem texts_any (W : World) (N b M : Nat) (F : Nat → Prop) (m : Mm) (x : Nat) (a : Option Addr) (cp : Nat) (l : List (List UInt8)) (h : RegO W N b M F m x) (hr : RdT W (withB F b) a l) (hx : x < 100000000) (hl : l.length ≤ 1000) (hf : ∀ s ∈ l, s.length ≤ 200) :
    Calls Tryz.prog 32 #[.pointer (some ⟨b, 0, none⟩), .slice a l.length cp] W fun e W' => ∃ ra rc, e = .returned (.slice ra l.length rc) ∧ W'.ownsRow W.heap.size 37 6 (.slice ra l.length rc) l.length (capsV (capsT x l)) ∧ RegO W' N b M F (layT m x l) (x + lensN l) ∧ KP W.heap.size (withB F b) W W' := by
  have HR0 := Lib.hid h
  have HRC0 := Lib.hid hr
  have HNEW := Lib.hid (fun q (hq : W.heap.size ≤ q) => h.new (W' := W) hq)
  have HFI := Lib.hid hf
  have HX := Lib.hid hx
  obtain ⟨n, hn⟩ : ∃ n, l.length = n := ⟨_, rfl⟩
  have HN := Lib.hid hn
  rw [hn] at hl ⊢
  have HL := Lib.hid hl
  have hlens : ∀ k, k ≤ n → lensN (l.take k) ≤ 201 * k := fun k => by
    induction k with
    | zero => intro _; simp [lensN]
    | succ k ih =>
      intro hk
      have hkl : k < l.length := by omega
      rw [List.take_succ_eq_append_getElem hkl, lensN_app, lensN_cons, lensN_nil]
      have := ih (by omega)
      have := hf l[k] (List.getElem_mem hkl)
      omega
  have HLN := Lib.hid hlens
  have hB : W.heap.size = W.heap.size := rfl
  clear h hr hx hl hf hn hlens hB
  go_enter Tryz.func32, Tryz.ntmps32
  go_wp2_with fail
  go_loopw [5, 11] (fun v i wr => ∃ (k : Nat) (ra : Option Addr) (rc : Nat), k ≤ n ∧ i = .int .i64 (k : Int) ∧ v = .slice ra k rc ∧ Hid (wr.ownsRow W.heap.size 37 6 (.slice ra k rc) k (capsV (capsT x (l.take k)))) ∧ Hid (RegO wr N b M F (layT m x (l.take k)) (x + lensN (l.take k))) ∧ Hid (KP W.heap.size (withB F b) W wr)) (fun _ i _ => n - (intOf i).toNat)
  case atStart => exact ⟨0, none, 0, Nat.zero_le _, rfl, rfl, Lib.hid (World.ownsRow_nil _ _ _ 6), HR0, Lib.hid (KP.refl _ _ _)⟩
  case round =>
    obtain ⟨k, ra, rc, hk, rfl, rfl, HO, HR, HK⟩ := hrel
    have hx := HX.out
    have hl := HL.out
    by_cases hkn : k < n
    · have hkl : k < l.length := by rw [HN.out]; exact hkn
      obtain ⟨g, off, hge, hc⟩ := RdT.at_ (HRC0.out.kp HK.out) hkl
      subst hge
      have hlen := HLN.out k hk
      have hs200 := HFI.out l[k] (List.getElem_mem hkl)
      have hlay : layT m x (l.take (k + 1)) = (putF (layT m x (l.take k)) ((x + lensN (l.take k) : Nat) : Int) (byteS l[k])).1 := by
        rw [List.take_succ_eq_append_getElem hkl, layT_snoc]
      have hcap : capsT x (l.take (k + 1)) = capsT x (l.take k) ++ [spanC ((x + lensN (l.take k) : Nat) : Int) ((x + lensN (l.take k) + (l[k].length + 1) : Nat) : Int) 1] := by
        rw [List.take_succ_eq_append_getElem hkl, capsT_snoc]
      have hlen2 : lensN (l.take (k + 1)) = lensN (l.take k) + (l[k].length + 1) := by
        rw [List.take_succ_eq_append_getElem hkl, lensN_app, lensN_cons, lensN_nil]
      obtain ⟨s, hs⟩ : ∃ s, l[k] = s := ⟨_, rfl⟩
      rw [hs] at hc hs200 hlay hcap hlen2
      obtain ⟨y, hy⟩ : ∃ y, x + lensN (l.take k) = y := ⟨_, rfl⟩
      rw [hy] at HR hlay hcap
      have hy9 : y < 200000000 := by omega
      have kk0 : (0 : Int) ≤ (k : Int) := by omega
      have kk1 : (k : Int) < (n : Int) := by omega
      have hd1 : decide ((k : Int) < (n : Int)) = true := decide_eq_true kk1
      have q0 : wr.cell? ⟨b, 0, none⟩ = some (.pointer (some ⟨M, 0, none⟩)) := HR.out.box.cell 0
      have q1 : wr.cell? ⟨b, 1, none⟩ = some (.int .u64 (y : Int)) := HR.out.box.cell 1
      have HLAY := Lib.hid hlay
      have HCAP := Lib.hid hcap
      have HLEN2 := Lib.hid hlen2
      have HY := Lib.hid hy
      clear hkl hlay hcap hlen2 hs hy hlen hx hl
      go_upto_region 6 with fail
      obtain ⟨c1, U1, e1, B1, L1, z1⟩ := conv_any s wr.drew
      obtain ⟨p1, d1, V1, e2, R1, D1, O1, K1⟩ := app_any (U1.alloc (.cells #[.int .u8 0] 5)) 52 wr.heap.size U1.heap.size c1 s (B1.below (bAlloc (Below.refl _ _) _)) ((cell_of_row _ _ _ _ _ _ (heap_alloc_new U1 _)).trans rfl) (by omega)
      obtain ⟨c2, U2, e3, B2, L2, z2⟩ := conv_any s (wr.alloc (.cells #[.int .u8 0] 5)).drew
      have hz2 : U2.cell? ⟨wr.heap.size, 0, none⟩ = some (.int .u8 0) := (L2.cell (p := ⟨wr.heap.size, 0, none⟩) (by show wr.heap.size < (wr.alloc _).heap.size; rw [size_alloc]; exact Nat.lt_succ_self _)).trans ((cell_of_row _ _ _ _ _ _ (heap_alloc_new wr _)).trans rfl)
      obtain ⟨p2, d2, V2, e4, R2, D2, O2, K2⟩ := app_any U2 52 _ wr.heap.size c2 s B2 hz2 (by omega)
      have hV1 : Below wr.heap.size wr V1 := (Below.drew (Below.refl _ _)).trans ((L1.trans ((bAlloc (Below.refl U1.heap.size U1) _).mono L1.size)).trans (K1 wr.heap.size (Nat.le_refl _) (by rw [size_alloc]; have := L1.size; exact Nat.le_trans this (Nat.le_succ _))))
      have hzz : (wr.alloc (.cells #[.int .u8 0] 5)).drew.heap.size = wr.heap.size + 1 := size_alloc _ _
      rw [hzz] at B2 L2 K2 O2 e4
      have hU2 : Below wr.heap.size wr U2 := (Below.drew (bAlloc (Below.refl wr.heap.size wr) _)).trans (L2.mono (Nat.le_succ _))
      have hs2 : wr.heap.size + 1 ≤ U2.heap.size := by rw [← hzz]; exact (hzz ▸ L2.size)
      have hV2 : Below wr.heap.size wr V2 := hU2.trans (K2 wr.heap.size (Nat.le_succ _) (by omega))
      have hP1 : wr.heap.size ≤ p1 := by
        rcases O1 with h | h
        · omega
        · rw [h, size_alloc]; have := L1.size; exact Nat.le_trans this (Nat.le_succ _)
      have hP2 : wr.heap.size ≤ p2 := by
        rcases O2 with h | h
        · omega
        · omega
      have hnf : ∀ q, wr.heap.size ≤ q → ¬ F q := fun q hq hf => absurd (HR.out.own.lt q hf) (Nat.not_lt.2 hq)
      have C1 := Lib.hid (putA_any V1 M F _ (HR.out.own.mem.below hV1) y (s.length + 1) d1 (some ⟨p1, 0, none⟩) (byteS s) (by omega) (byteS_len s) D1 (by omega) (byteS_lt s) R1 (fun _ q o e => by cases e; exact hnf _ hP1))
      have C2 := Lib.hid (putA_any V2 M F _ (HR.out.own.mem.below hV2) y (s.length + 1) d2 (some ⟨p2, 0, none⟩) (byteS s) (by omega) (byteS_len s) D2 (by omega) (byteS_lt s) R2 (fun _ q o e => by cases e; exact hnf _ hP2))
      have zz1 : U1.heap.size = wr.heap.size + 1 := z1
      rw [zz1] at e2
      have hU1 : Below wr.heap.size wr U1 := (Below.drew (Below.refl _ _)).trans L1
      have q2 := (hU1.cell (p := ⟨b, 0, none⟩) HR.out.lt).trans q0
      have q3 := (hU2.cell (p := ⟨b, 0, none⟩) HR.out.lt).trans q0
      have q4 := (hV1.cell (p := ⟨b, 0, none⟩) HR.out.lt).trans q0
      have q5 := (hV2.cell (p := ⟨b, 0, none⟩) HR.out.lt).trans q0
      have q6 : (U1.alloc (.cells #[.int .u8 0] 5)).cell? ⟨b, 0, none⟩ = _ := ((hU1.trans ((bAlloc (Below.refl U1.heap.size U1) _).mono hU1.size)).cell (p := ⟨b, 0, none⟩) HR.out.lt).trans q0
      have q7 : (wr.alloc (.cells #[.int .u8 0] 5)).cell? ⟨b, 0, none⟩ = _ := ((bAlloc (Below.refl wr.heap.size wr) _).cell (p := ⟨b, 0, none⟩) HR.out.lt).trans q0
      have q8 : (wr.alloc (.cells #[.int .u8 0] 5)).drew.cell? ⟨b, 0, none⟩ = _ := q7
      have HV1 := Lib.hid hV1
      have HV2 := Lib.hid hV2
      clear B1 L1 R1 D1 O1 K1 B2 L2 R2 D2 O2 K2 hz2 hV1 hV2 hP1 hP2 hnf hU1 hU2 hs2
      go_region_law (first
        | (refine step_appR (t := 52) _ rfl (.tmp 25) (.tmp 26) rfl (.slice (some ⟨wr.heap.size, 0, none⟩) s.length c1) (.slice (some ⟨wr.heap.size + 1, 0, none⟩) 1 1) _ _ rfl rfl e2 ?_; dsimp only)
        | (refine step_appR (t := 52) _ rfl (.tmp 25) (.tmp 26) rfl (.slice (some ⟨wr.heap.size + 1, 0, none⟩) s.length c2) (.slice (some ⟨wr.heap.size, 0, none⟩) 1 1) _ _ rfl rfl e4 ?_; dsimp only)
        | (go_simp; go_at_call 54; (with_reducible refine C1.out.mono ?_); rintro e W5 ⟨rfl, hm5, hk5⟩; have HR5 := Lib.hid ((HR.out.below HV1.out).mem hm5 hk5); have HK5 := Lib.hid (kp_trans2 (KP.of_below (withB F b) HV1.out) (kp_with b hk5) HV1.out.size); clear hm5 hk5)
        | (go_simp; go_at_call 54; (with_reducible refine C2.out.mono ?_); rintro e W5 ⟨rfl, hm5, hk5⟩; have HR5 := Lib.hid ((HR.out.below HV2.out).mem hm5 hk5); have HK5 := Lib.hid (kp_trans2 (KP.of_below (withB F b) HV2.out) (kp_with b hk5) HV2.out.size); clear hm5 hk5))
      all_goals
        clear q2 q3 q4 q5 q6 q7 q8 e1 e2 e3 e4 q0 q1
        have hsz : (⟨s.toArray⟩ : ByteArray).size = s.length := mk_size s
        have q1 : W5.cell? ⟨b, 1, none⟩ = some (.int .u64 (y : Int)) := HR5.out.box.cell 1
        have f1 : W5.frozen? ⟨b, 1, none⟩ = false := HR5.out.box.frozen 1
        have hw1 : IntKind.u64.wrap (s.length : Int) = (s.length : Int) := by rw [IntKind.wrap_u64]; omega
        have hw2 : IntKind.u64.wrap ((s.length : Int) + 1) = (s.length : Int) + 1 := by rw [IntKind.wrap_u64]; omega
        have hw3 : IntKind.u64.wrap ((y : Int) + ((s.length : Int) + 1)) = (y : Int) + ((s.length : Int) + 1) := by rw [IntKind.wrap_u64]; omega
        have HR6 := Lib.hid (HR5.out.stepI (y + (s.length + 1)) ((y : Int) + ((s.length : Int) + 1)) (by omega))
        have HK6 := Lib.hid (KP.setB HK5.out (.int .u64 ((y : Int) + ((s.length : Int) + 1))))
        have HBY := Lib.hid (fun W1 => Ce.bytes_any (y : Int) ((y : Int) + ((s.length : Int) + 1)) 1 W1 (by omega) (by omega) (by omega) (by decide) (by decide))
        clear HR5 HK5
        go_wp2_with fail
        refine (HBY.out _).mono ?_; rintro e w7 ⟨rfl, hb⟩
        have HR7 := Lib.hid (HR6.out.below hb)
        have HK7 := Lib.hid (kp_trans2 HK6.out (KP.of_below (withB F b) hb) HK6.out.size)
        clear hb HR6 HK6 q1 f1
        have hcc : capC (spanC ((y : Nat) : Int) ((y + (s.length + 1) : Nat) : Int) 1) = [.int .u64 (y : Int), .int .u64 ((y : Int) + ((s.length : Int) + 1)), .int .u64 (y : Int), .int .i64 1, .int .i64 (-1), .bool true] := by
          unfold capC spanC
          simp only [Int.natCast_add, Int.natCast_one]
        have HCC := Lib.hid hcc
        have HR8 := Lib.hid (HR7.out.below (bAlloc (Below.refl w7.heap.size w7) (.cells #[.int .u64 (y : Int), .int .u64 ((y : Int) + ((s.length : Int) + 1)), .int .u64 (y : Int), .int .i64 1, .int .i64 (-1), .bool true] 37)))
        have HK8 := Lib.hid (kp_trans2 HK7.out (KP.of_below (withB F b) (bAlloc (Below.refl w7.heap.size w7) (.cells #[.int .u64 (y : Int), .int .u64 ((y : Int) + ((s.length : Int) + 1)), .int .u64 (y : Int), .int .i64 1, .int .i64 (-1), .bool true] 37))) HK7.out.size)
        have HO8 := Lib.hid (own_kp2 HO.out HK8.out (fun q hq => HNEW.out q hq))
        have hsW : W.heap.size ≤ w7.heap.size := Nat.le_trans HK.out.size HK7.out.size
        have HSW := Lib.hid hsW
        have hk9 : k + 1 ≤ 1000000 := by have := HL.out; omega
        clear hcc hsW HR7 HK7
        go_wp2_with (refine wpList_appE 24 37 (.agg #[.int .u64 0, .int .u64 0, .int .u64 0, .int .i64 0, .int .i64 0, .bool false]) 6 48 Tryz.underlying24 infoCap rfl (by decide) (by decide) _ rfl _ _ rfl W.heap.size (.slice ra k rc) k (capsV (capsT x (l.take k))) rfl HO8.out (some ⟨w7.heap.size, 0, none⟩) 1 1 [.int .u64 (y : Int), .int .u64 ((y : Int) + ((s.length : Int) + 1)), .int .u64 (y : Int), .int .i64 1, .int .i64 (-1), .bool true] rfl (Rd.lit w7 #[.int .u64 (y : Int), .int .u64 ((y : Int) + ((s.length : Int) + 1)), .int .u64 (y : Int), .int .i64 1, .int .i64 (-1), .bool true] 37 (by show 6 ≤ maxLen; decide)) (fun u hu => capC_one (spanC ((y : Nat) : Int) ((y + (s.length + 1) : Nat) : Int) 1) u (by rw [HCC.out]; exact hu)) hk9 (by rw [size_alloc]; exact Nat.le_succ_of_le HSW.out) ?_; intro a9 c9 W9 hown9 hg9 hob9; have HO9 := Lib.hid hown9; have HG9 := Lib.hid hg9; clear hown9 hg9 hob9)
        have HKG : Hid (KP (w7.alloc (.cells #[.int .u64 (y : Int), .int .u64 ((y : Int) + ((s.length : Int) + 1)), .int .u64 (y : Int), .int .i64 1, .int .i64 (-1), .bool true] 37)).heap.size (fun q => W.heap.size ≤ q) (w7.alloc (.cells #[.int .u64 (y : Int), .int .u64 ((y : Int) + ((s.length : Int) + 1)), .int .u64 (y : Int), .int .i64 1, .int .i64 (-1), .bool true] 37)) W9) := Lib.hid ((KP.refl _ _ _).grown HG9.out (Nat.le_refl _) (fun r e => Or.inr (HO8.out.lt r e).1))
        have HR9 := Lib.hid (HR8.out.offS HKG.out (fun q hq => HNEW.out q hq))
        have HKW := kp_trans2 HK.out HK8.out HK.out.size
        have HKF := Lib.hid (HKW.grown HG9.out HKW.size (fun r e => Or.inl (HO8.out.lt r e).1))
        clear HKW hw1 hw2 hw3 hsz hk9
        go_roundw
        case rel => exact ⟨k + 1, a9, c9, by omega, by go_num, rfl, Lib.hid (by rw [HCAP.out, capsV_app, capsV_one, HCC.out]; exact HO9.out), Lib.hid (by rw [HLAY.out, HLEN2.out, ← Nat.add_assoc, HY.out]; exact HR9.out), HKF⟩
        case measure => simp [intOf]; omega
    · obtain rfl : k = n := by omega
      have htk : l.take k = l := List.take_of_length_le (by rw [HN.out]; omega)
      have hd1 : decide ((k : Int) < (k : Int)) = false := by simp
      have hd2 : decide (k < k) = false := by simp
      rw [htk] at HO HR
      clear htk
      go_wp2_with fail
      go_ret
      exact ⟨ra, rc, rfl, HO.out, HR.out, HK.out⟩
end Go.Proofs.YtjefkhieihigiaaGreat
