/- Granules that touch: contract. -/
import Derived.Test.YtinflemamegdfaaMcC
namespace Go.Proofs.Ytinflemamegdfaa
set_option linter.unusedVariables false
set_option linter.unusedSimpArgs false
open Go.Joins Go.ChangeShapes Go.WideShapes Go.ChangeAt Go.RowKit Go.Deep

theorem wpList_appR {P : Program} {t u : TypeId} (w : World) {ops : Array Oper} {rest : List Oper} {o : Oper} {a : Act} {Q : Exit → Act → World → Prop} (hgd : o.guard = none) (s x : Operand) (ho : o.op = .call { callee := .builtin .append, args := #[s, x], argTypes := #[t, u] }) (sv xv r : Value) (W' : World) (hs : a.eval s = sv) (hx : a.eval x = xv)
    (hrun : (Builtin.append_ #[t, u] o.type #[sv, xv]).run P w = .ok r W') (h : wpList P ops Q rest (a.put o.dst r) W') : wpList P ops Q (o :: rest) a w := by
  refine wpList_plain hgd fun K hK => ?_
  unfold Oper.wp execOp
  simp only [ho, resolve, invoke, builtin, Sem.run_bind, Sem.run_pure, Result.andThen_ok, List.map_toArray, List.map_cons, List.map_nil, hs, hx, hrun]
  exact hK _ _ h
theorem u64s_one (l : List Nat) : ∀ u ∈ u64s l, u.oneCell' = true := fun u hu => by
  unfold u64s at hu
  obtain ⟨x, -, rfl⟩ := List.mem_map.1 hu
  rfl
/-- the granules whose capability touches -/
def gran (f n ty : Int) (m : Mm) : List Nat := (m.mks.map (32 * ·)).filter fun (x : Nat) => tch f n ty (loadC m (x : Int)).1
theorem mark_load {m : Mm} (h : Okm m) {x : Nat} (hx : x ∈ m.mks.map (32 * ·)) : x < 16777216 ∧ x % 32 = 0 ∧ x / 256 ∈ m.pgs ∧ (loadC m (x : Int)) = (capOf m x, 0) := by
  obtain ⟨g, hg, rfl⟩ := List.mem_map.1 hx
  have h1 := h.ml g hg
  have h2 := h.pl _ h1
  have h3 : 32 * g / 256 ∈ m.pgs := by rwa [show 32 * g / 256 = g / 8 by omega]
  refine ⟨by omega, by omega, h3, ?_⟩
  unfold loadC spotE isIn
  rw [if_neg (show ¬ (((32 * g : Nat) : Int) % 32 ≠ 0) by omega), show (((32 * g : Nat) : Int) / 256).toNat = 32 * g / 256 by omega, decide_eq_true h3, if_pos rfl, if_pos rfl, Int.toNat_natCast]
theorem filter_snoc {p : Nat → Bool} {l : List Nat} {k : Nat} (h : k < l.length) : (l.take (k + 1)).filter p = (l.take k).filter p ++ (if p l[k] = true then [l[k]] else []) := by
  rw [List.take_succ_eq_append_getElem h, List.filter_append]
  congr 1
  by_cases hp : p l[k] = true
  · rw [if_pos hp]; simp [hp]
  · rw [if_neg hp]; simp [hp]
theorem u64s_app (a b : List Nat) : u64s (a ++ b) = u64s a ++ u64s b := List.map_append
set_option maxRecDepth 100000 in
set_option maxHeartbeats 4000000 in
theorem gran_any (W : World) (N M A bT bN bF bL : Nat) (F : Nat → Prop) (m : Mm) (pc : Cp) (rs : List Cp) (f n ty : Int) (hO : Own1 W N F M m) (hm : McAt W A M pc rs) (htc : TchAt W bT bN bF bL f n ty) :
    Calls Try.prog 35 #[.pointer (some ⟨A, 0, none⟩), tchV bT bN bF bL] W fun e W' => ∃ (ra : Option Addr) (rc : Nat), e = .returned (.slice ra (gran f n ty m).length rc) ∧ W'.ownsRow W.heap.size 22 1 (.slice ra (gran f n ty m).length rc) (gran f n ty m).length (u64s (gran f n ty m)) ∧ Below W.heap.size W W' := by
  have HO := Lib.hid hO
  have HM := Lib.hid hm
  have HTC := Lib.hid htc
  have HOK := Lib.hid hO.ok
  have HG := Lib.hid (show gran f n ty m = (m.mks.map (32 * ·)).filter fun (x : Nat) => tch f n ty (loadC m (x : Int)).1 from rfl)
  have hml : m.mks.length ≤ 2048 := mks_len hO.ok
  obtain ⟨T, hT⟩ : ∃ T, m.mks.map (32 * ·) = T := ⟨_, rfl⟩
  obtain ⟨q, hq⟩ : ∃ q, m.mks.length = q := ⟨_, rfl⟩
  have hTq : T.length = q := by rw [← hT, List.length_map, hq]
  have HMK := Lib.hid (fun (x : Nat) (hx : x ∈ T) => mark_load hO.ok (x := x) (by rw [hT]; exact hx))
  rw [hT] at HG
  have CT := Lib.hid (fun w (hb : Below W.heap.size W w) => stags_any w N M F m (hO.below hb))
  rw [hT, hq] at CT
  rw [hq] at hml
  have HTQ := Lib.hid hTq
  have m0 := hm.mem
  obtain ⟨S, hS⟩ : ∃ S, W.heap.size = S := ⟨_, rfl⟩
  have HS := Lib.hid hS
  rw [hS]
  have HL := Lib.hid hml
  unfold tchV
  clear hO hm htc hT hq hTq hS hml
  go_enter Try.func35, Try.ntmps35
  go_wp2_with fail
  refine (CT.out W (Below.refl _ _)).mono ?_; rintro e W1 ⟨ta, tc, rfl, hor, hb⟩
  have B1 := Lib.hid hb
  have HO1 := Lib.hid hor
  clear hor hb m0 CT
  go_wp2_with fail
  obtain ⟨V, hV⟩ : ∃ V, W1.heap.size = V := ⟨_, rfl⟩
  have HV := Lib.hid hV
  clear hV
  go_loopw [5, 7, 8, 9, 16] (fun v x0 c0 e0 i wr => ∃ (k : Nat) (ra : Option Addr) (rc : Nat) (d : Nat), i = .int .i64 (k : Int) ∧ k ≤ q ∧ v = .slice ra d rc ∧ d ≤ k ∧ Hid (d = ((T.take k).filter fun (x : Nat) => tch f n ty (loadC m (x : Int)).1).length) ∧ Hid (wr.ownsRow V 22 1 (.slice ra d rc) d (u64s ((T.take k).filter fun (x : Nat) => tch f n ty (loadC m (x : Int)).1))) ∧ Hid (Below V W1 wr)) (fun _ _ _ _ i _ => q - (intOf i).toNat)
  case atStart => exact ⟨0, none, 0, 0, rfl, Nat.zero_le _, rfl, Nat.le_refl _, Lib.hid (by simp), Lib.hid (by rw [List.take_zero]; exact World.ownsRow_nil _ _ _ 1), Lib.hid (Below.refl _ _)⟩
  case round =>
    obtain ⟨k, ra, rc, d, rfl, hk, rfl, hdk, HD, HOW, HB⟩ := hrel
    have hBW : Below W.heap.size W wr := B1.out.trans (HB.out.mono (by rw [← HV.out]; exact B1.out.size))
    by_cases hlt : k < q
    · have hkl : k < T.length := by rw [HTQ.out]; exact hlt
      have hql := HL.out
      obtain ⟨g, off, hge, -, hc⟩ := (row_later HO1.out (show Below W1.heap.size W1 wr by rw [HV.out]; exact HB.out)).at_ hlt
      subst hge
      rw [u64s_get T k hkl] at hc
      have hsn := filter_snoc (p := fun (x : Nat) => tch f n ty (loadC m (x : Int)).1) hkl
      obtain ⟨x1, x2, x3, x4⟩ := HMK.out T[k] (List.getElem_mem hkl)
      obtain ⟨x, hx⟩ : ∃ x, T[k] = x := ⟨_, rfl⟩
      rw [hx] at hc hsn x1 x2 x3 x4
      (try dsimp only at hsn)
      rw [x4] at hsn
      have C := Lib.hid (sloadC_any wr N M F m (HO.out.below hBW) x (by omega))
      rw [x4] at C
      obtain ⟨c, hcc⟩ : ∃ c, capOf m x = c := ⟨_, rfl⟩
      rw [hcc] at C hsn
      (try dsimp only at C)
      (try dsimp only at hsn)
      obtain ⟨r, hrr⟩ : ∃ r, tch f n ty c = r := ⟨_, rfl⟩
      have CC := Lib.hid (fun w h => tch_any c bT bN bF bL f n ty w h)
      rw [hrr] at CC hsn
      have HSN := Lib.hid hsn
      have mem := (HM.out.below hBW).mem
      obtain ⟨cb, ct, ca, cp, cy, cg⟩ := c
      rw [show (capC ⟨cb, ct, ca, cp, cy, cg⟩).toArray = #[.int .u64 cb, .int .u64 ct, .int .u64 ca, .int .i64 cp, .int .i64 cy, .bool cg] from rfl] at C
      simp only [] at CC
      have kk0 : (0 : Int) ≤ (k : Int) := by omega
      have kk1 : (k : Int) < (q : Int) := by omega
      have hd1 : decide ((k : Int) < (q : Int)) = true := decide_eq_true kk1
      have HLT := Lib.hid (And.intro hlt hql)
      have HTC1 := Lib.hid (HTC.out.below hBW)
      clear hsn x1 x2 x3 x4 hx hcc hrr hkl hlt hk hql hBW
      go_wp2_with fail
      refine C.out.mono ?_; rintro e w2 ⟨rfl, hb⟩
      have B2 := Lib.hid (HB.out.trans (hb.mono (by rw [← HV.out]; exact HB.out.size)))
      have HTC2 := Lib.hid (HTC1.out.below hb)
      have HOW2 := Lib.hid (own_kp2 HOW.out (KP.of_below (fun _ => False) hb) (fun _ _ => id))
      clear hb C hc mem HTC1 HOW HB
      go_upto_region 6 with fail
      obtain ⟨W7, hW7⟩ : ∃ W7, w2.alloc (.cells #[.int .u64 cb, .int .u64 ct, .int .u64 ca, .int .i64 cp, .int .i64 cy, .bool cg] 24) = W7 := ⟨_, rfl⟩
      (try rw [hW7])
      obtain ⟨R, hR⟩ : ∃ R, w2.heap.size = R := ⟨_, rfl⟩
      (try rw [hR])
      have hb7 : Below w2.heap.size w2 W7 := by rw [← hW7]; exact bAlloc (Below.refl _ _) _
      have hc7 : BoxN W7 R #[.int .u64 cb, .int .u64 ct, .int .u64 ca, .int .i64 cp, .int .i64 cy, .bool cg] := by rw [← hW7, ← hR]; exact BoxN.new _ _ _
      have hz2 : V ≤ w2.heap.size := by rw [← HV.out]; exact B2.out.size
      have B7 := Lib.hid (B2.out.trans (hb7.mono hz2))
      have HTC7 := Lib.hid (HTC2.out.below hb7)
      have HOW7 := Lib.hid (own_kp2 HOW2.out (KP.of_below (fun _ => False) hb7) (fun _ _ => id))
      obtain ⟨⟨c0, c1, c2, c3, c4, c5⟩, -⟩ := boxN6 hc7
      clear hW7 hR hb7 hc7 hz2 B2 HTC2 HOW2
      go_wp2_with fail
      refine (CC.out _ HTC7.out).mono ?_; rintro e w8 ⟨rfl, hb⟩
      have B8 := Lib.hid (B7.out.trans (hb.mono (by rw [← HV.out]; exact B7.out.size)))
      have HOW8 := Lib.hid (own_kp2 HOW7.out (KP.of_below (fun _ => False) hb) (fun _ _ => id))
      clear hb HTC7 HOW7 B7 CC c0 c1 c2 c3 c4 c5
      cases r with
      | false =>
        have h0 := HSN.out
        rw [if_neg (by decide), List.append_nil] at h0
        have HN1 : Hid (d = ((T.take (k + 1)).filter fun (x : Nat) => tch f n ty (loadC m (x : Int)).1).length) := Lib.hid (by rw [h0]; exact HD.out)
        have HN2 : Hid (w8.ownsRow V 22 1 (.slice ra d rc) d (u64s ((T.take (k + 1)).filter fun (x : Nat) => tch f n ty (loadC m (x : Int)).1))) := Lib.hid (by rw [h0]; exact HOW8.out)
        clear h0 HSN HOW8 HD
        obtain ⟨h1, h2⟩ := HLT.out
        go_wp2_with fail
        go_roundw
        case rel => exact ⟨k + 1, ra, rc, d, by go_num, by omega, rfl, by omega, HN1, HN2, B8⟩
        case measure => simp [intOf]; omega
      | true =>
        have h0 := HSN.out
        rw [if_pos rfl] at h0
        have hz8 : V ≤ w8.heap.size := by rw [← HV.out]; exact B8.out.size
        obtain ⟨U, hU⟩ : ∃ U, w8.alloc (.cells #[.int .u64 (x : Int)] 22) = U := ⟨_, rfl⟩
        have hbU : Below w8.heap.size w8 U := by rw [← hU]; exact bAlloc (Below.refl _ _) _
        have hrd : Rd U (some ⟨w8.heap.size, 0, none⟩) (1 * 1) [.int .u64 (x : Int)] := by rw [← hU]; exact Rd.lit w8 #[.int .u64 (x : Int)] 22 (by show 1 ≤ maxLen; decide)
        have ownU := own_kp2 HOW8.out (KP.of_below (fun _ => False) hbU) (fun _ _ => id)
        obtain ⟨h1, h2⟩ := HLT.out
        obtain ⟨a9, c9, W9, run9, own9, gr9, at9⟩ := run_appE (P := Try.prog) 33 22 (.int .u64 0) 1 8 Try.underlying33 infoU64 rfl (by decide) (by decide) U 33 V (.slice ra d rc) d _ ownU (some ⟨w8.heap.size, 0, none⟩) 1 1 [.int .u64 (x : Int)] hrd (fun u hu => by rw [List.mem_singleton] at hu; rw [hu]; rfl) (by omega) (Nat.le_trans hz8 hbU.size)
        rw [← hU] at run9
        have hb9 : Below V W1 W9 := by
          refine (B8.out.trans (hbU.mono hz8)).trans ?_
          refine ⟨gr9.os, gr9.tape, gr9.output, gr9.size, fun b hb => gr9.block b (Nat.lt_of_lt_of_le hb (Nat.le_trans hz8 hbU.size)) (fun e => ?_)⟩
          rcases ownU.2 with ⟨e1, -⟩ | ⟨g', cap', cur', e1, hg', -⟩
          · rw [e1] at e; cases e
          · rw [e1] at e; cases e; exact absurd hb (Nat.not_lt.2 hg')
        have B9 := Lib.hid hb9
        have HN1 : Hid (d + 1 = ((T.take (k + 1)).filter fun (x : Nat) => tch f n ty (loadC m (x : Int)).1).length) := Lib.hid (by rw [h0, List.length_append, ← HD.out]; rfl)
        have HN2 : Hid (W9.ownsRow V 22 1 (.slice a9 (d + 1) c9) (d + 1) (u64s ((T.take (k + 1)).filter fun (x : Nat) => tch f n ty (loadC m (x : Int)).1))) := Lib.hid (by rw [h0, u64s_app]; exact own9)
        have RUN := run9
        clear h0 h1 h2 HSN HOW8 HD hU hbU hrd ownU own9 gr9 at9 hb9 hz8 B8 run9
        obtain ⟨h1, h2⟩ := HLT.out
        go_wp2_with (refine wpList_appR _ rfl _ _ rfl _ _ _ _ rfl rfl RUN ?_)
        go_roundw
        case rel => exact ⟨k + 1, a9, c9, d + 1, by go_num, by omega, rfl, by omega, HN1, HN2, B9⟩
        case measure => simp [intOf]; omega
    · obtain rfl : k = q := by omega
      have ht : T.take k = T := List.take_of_length_le (by rw [HTQ.out]; exact Nat.le_refl _)
      have hd := HD.out
      have ho := HOW.out
      rw [ht, ← HG.out] at hd ho
      have HD2 := Lib.hid hd
      have HO2 := Lib.hid ho
      have HBW := Lib.hid hBW
      have hd1 : decide ((k : Int) < (k : Int)) = false := by simp
      have hd2 : decide (k < k) = false := by simp
      clear hd ho ht hBW hlt hk
      go_wp2_with fail
      go_ret
      refine ⟨ra, rc, by rw [← HD2.out]; rfl, ?_, by rw [← HS.out]; exact HBW.out⟩
      rw [← HD2.out]
      refine ⟨HO2.out.1, ?_⟩
      rcases HO2.out.2 with h0 | ⟨g', cap', cur', e1, hg', r⟩
      · exact Or.inl h0
      · have := B1.out.size
        have := HV.out
        have := HS.out
        exact Or.inr ⟨g', cap', cur', e1, by omega, r⟩
end Go.Proofs.Ytinflemamegdfaa
