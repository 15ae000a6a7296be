/- The law's own: does a list tell these texts? -/
import Derived.Test.YtjefkhieihigiaaAcA
import Derived.Test.YtjefkhieihigiaaTa6
import Derived.BigQuiet
import Derived.Deep.RegionHeld3
namespace Go.Proofs.Ytjefkhieihigiaa
set_option linter.unusedVariables false
set_option linter.unusedSimpArgs false
open Go.Joins Go.ChangeShapes Go.WideShapes Go.ChangeAt Go.RowKit Go.Deep

theorem foldl_pushN (l : List UInt8) : ∀ (s : ByteArray), (l.map (fun b => (b.toNat : Int))).foldl (fun r n => r.push (UInt8.ofNat n.toNat)) s = ⟨s.data ++ l.toArray⟩ := by
  induction l with
  | nil => intro s; cases s; simp
  | cons b l ih =>
    intro s
    rw [List.map_cons, List.foldl_cons, ih]
    simp [ByteArray.push]
/-- the bytes of a row, as a text -/
theorem run_strR (W : World) (a : Option Addr) (c : Nat) (l : List UInt8) (h : Rd W a l.length (u8s (l.map UInt8.toNat))) : (convert 47 9 (.slice a l.length c)).run Try.prog W = .ok (.string ⟨l.toArray⟩) W := by
  rw [run_convert_bytes_string W 47 9 5 a l.length c Try.underlying47 Try.underlying5 Try.underlying9]
  have hu : u8s (l.map UInt8.toNat) = l.map (fun b => Value.int .u8 (b.toNat : Int)) := by simp [u8s, Function.comp_def]
  cases a with
  | none =>
    have hl : l = [] := by
      rcases Nat.eq_zero_or_pos l.length with h0 | h0
      · exact List.eq_nil_of_length_eq_zero h0
      · obtain ⟨b, off, e, -⟩ := h.2 h0; cases e
    subst hl
    simp [Conv.bytesToString, Sem.run_pure]
    try rfl
  | some ad =>
    have hld : (loadCells ad l.length).run Try.prog W = .ok ((l.map (fun b => (b.toNat : Int))).map (Value.int .u8)).toArray W := by
      have hll : (l.map (fun b => Value.int .u8 (b.toNat : Int))).length = l.length := List.length_map _
      have h2 := run_loadCells_list (P := Try.prog) W ad (l.map (fun b => Value.int .u8 (b.toNat : Int))) (fun j v hj => by
        have hj2 : j < l.length := by rw [← hll]; exact (List.getElem?_eq_some_iff.1 hj).1
        obtain ⟨b, off, e, -, hc⟩ := h.2 (by omega)
        cases e
        rw [add_plain, hc j hj2, hu, hj])
      rw [hll] at h2
      rw [h2]
      simp [Function.comp_def]
    rw [run_bytesToString W ad l.length c (l.map (fun b => (b.toNat : Int))) hld, foldl_pushN]
    simp
    try rfl
theorem Rd.init {W : World} {a : Option Addr} {n : Nat} {xs ys : List Value} (h : Rd W a (n + 1) (xs ++ ys)) (hx : xs.length = n) : Rd W a n xs := by
  refine ⟨hx, fun h0 => ?_⟩
  obtain ⟨b, off, e, hl, hc⟩ := h.2 (by omega)
  exact ⟨b, off, e, hl, fun j hj => by rw [hc j (by omega), List.getElem?_append_left (by omega)]⟩
theorem cell_below {W W' : World} {p : Addr} {v : Value} (hb : Below W.heap.size W W') (h : W.cell? p = some v) : W'.cell? p = some v := (hb.cell (heap_lt_of_cell h)).trans h
theorem undrewB {W W' : World} (h : Below W.drew.heap.size W.drew W') : Below W.heap.size W W' := ⟨h.os, h.tape, h.output, h.size, h.block⟩
set_option maxRecDepth 100000 in
set_option maxHeartbeats 4000000 in
theorem told_any (W : World) (N M : Nat) (F : Nat → Prop) (m : Mm) (h : Own1 W N F M m) (p q x : Nat) (l : List (List UInt8)) (a : Option Addr) (cp : Nat) (hr : Rd W a l.length (strs l)) (hq : q = p + 32 * l.length) (hp : q < 18446744073709551616) (hn : l.length ≤ 8) (hx : x + lensN l < 9223372036854775807) (ht : Told m p x l) :
    Calls Try.prog 13 #[.pointer (some ⟨M, 0, none⟩), .agg #[.int .u64 (p : Int), .int .u64 (q : Int), .int .u64 (p : Int), .int .i64 9, .int .i64 (-1), .bool true], .slice a l.length cp] W fun e W' => e = .returned (.bool true) ∧ Below W.heap.size W W' := by
  have HO := Lib.hid h
  have HR := Lib.hid hr
  have HT := Lib.hid ht
  have HX := Lib.hid hx
  obtain ⟨n, hnn⟩ : ∃ n, l.length = n := ⟨_, rfl⟩
  have HN := Lib.hid hnn
  have hfin := ht.fin
  rw [hnn] at hq hn hfin ⊢
  rw [← hq] at hfin
  have HF := Lib.hid hfin
  have HQ := Lib.hid (And.intro hq (And.intro hp hn))
  have g0 : ((IntKind.u64.wrap ((q : Int) - (p : Int))) != IntKind.u64.wrap (32 * IntKind.u64.wrap (n : Int))) = false := by
    rw [show IntKind.u64.wrap (n : Int) = (n : Int) by rw [IntKind.wrap_u64]; omega]
    rw [bne_eq_false_iff_eq, IntKind.wrap_u64, IntKind.wrap_u64]; omega
  obtain ⟨W0, hW0⟩ : ∃ W0, W.alloc (.cells #[.int .u64 (p : Int), .int .u64 (q : Int), .int .u64 (p : Int), .int .i64 9, .int .i64 (-1), .bool true] 32) = W0 := ⟨_, rfl⟩
  have hb0 : Below W.heap.size W W0 := by rw [← hW0]; exact bAlloc (Below.refl _ _) _
  have hx0 : BoxN W0 W.heap.size #[.int .u64 (p : Int), .int .u64 (q : Int), .int .u64 (p : Int), .int .i64 9, .int .i64 (-1), .bool true] := by rw [← hW0]; exact BoxN.new _ _ _
  have HB0 := Lib.hid hb0
  have HX0 := Lib.hid hx0
  obtain ⟨B, hB⟩ : ∃ B, W.heap.size = B := ⟨_, rfl⟩
  have HB := Lib.hid hB
  rw [hB] at HX0 HB0
  have l0 : W0.cell? ⟨B, 0, none⟩ = some (.int .u64 (p : Int)) := HX0.out.cell 0
  have l1 : W0.cell? ⟨B, 1, none⟩ = some (.int .u64 (q : Int)) := HX0.out.cell 1
  have l5 : W0.cell? ⟨B, 5, none⟩ = some (.bool true) := HX0.out.cell 5
  clear h hr ht hx hnn hfin hq hp hn hb0 hx0
  go_enter Try.func13, Try.ntmps13
  go_upto_region 1 with fail
  (try rw [hW0])
  (try rw [hB])
  clear hW0 hB
  go_wp2_with fail
  go_loopw [7, 8, 9, 10] (fun i c e b wr => ∃ k : Nat, i = .int .i64 (k : Int) ∧ k ≤ n ∧ Hid (Below W.heap.size W wr) ∧ Hid (BoxN wr B #[.int .u64 (p : Int), .int .u64 (q : Int), .int .u64 (p : Int), .int .i64 9, .int .i64 (-1), .bool true]) ∧ Hid (Own1 wr N F M m)) (fun i _ _ _ _ => n - (intOf i).toNat)
  case atStart => exact ⟨0, rfl, Nat.zero_le _, Lib.hid (by rw [HB.out]; exact HB0.out), HX0, Lib.hid (HO.out.below (by rw [HB.out]; exact HB0.out))⟩
  case round =>
    obtain ⟨k, rfl, hk, BB, BX, O1⟩ := hrel
    clear l0 l1 l5 HX0 HB0
    have l0 : wr.cell? ⟨B, 0, none⟩ = some (.int .u64 (p : Int)) := BX.out.cell 0
    have l1 : wr.cell? ⟨B, 1, none⟩ = some (.int .u64 (q : Int)) := BX.out.cell 1
    by_cases hkn : k < n
    · have hkl : k < l.length := by rw [HN.out]; exact hkn
      have hcap := HT.out.cap k hkl
      have hbyt := HT.out.byt k hkl
      obtain ⟨g, off, hge, -, hc⟩ := (HR.out.below BB.out).at_ (show k < l.length from hkl)
      subst hge
      rw [strs_get l k hkl] at hc
      have hle := lensN_take_lt l k hkl
      obtain ⟨s, hs⟩ : ∃ s, l[k] = s := ⟨_, rfl⟩
      rw [hs] at hc hcap hbyt hle
      obtain ⟨x0, hx0⟩ : ∃ x0, x + lensN (l.take k) = x0 := ⟨_, rfl⟩
      rw [hx0] at hcap hbyt
      have hxx := HX.out
      obtain ⟨sl, hsl⟩ : ∃ n, s.length = n := ⟨_, rfl⟩
      rw [hsl] at hcap hbyt hle
      have hsz : (⟨s.toArray⟩ : ByteArray).size = sl := (mk_size s).trans hsl
      obtain ⟨n1, hn1⟩ : ∃ n1, sl + 1 = n1 := ⟨_, rfl⟩
      rw [hn1] at hcap hbyt hle
      obtain ⟨sv, hsv⟩ : ∃ v, (⟨s.toArray⟩ : ByteArray) = v := ⟨_, rfl⟩
      rw [hsv] at hc hsz
      obtain ⟨pk, hpk⟩ : ∃ pk, p + 32 * k = pk := ⟨_, rfl⟩
      rw [hpk] at hcap
      have hq3 := HQ.out
      have C := Lib.hid (sloadC_any wr N M F m O1.out pk (by omega))
      rw [hcap] at C
      unfold spanC at C
      rw [show (capC ⟨(x0 : Int), ((x0 + n1 : Nat) : Int), (x0 : Int), 1, -1, true⟩).toArray = #[.int .u64 (x0 : Int), .int .u64 ((x0 + n1 : Nat) : Int), .int .u64 (x0 : Int), .int .i64 1, .int .i64 (-1), .bool true] from rfl] at C
      obtain ⟨x1, hx1⟩ : ∃ x1, x0 + n1 = x1 := ⟨_, rfl⟩
      rw [hx1] at C
      have HSB := Lib.hid (fun w (h : Own1 w N F M m) => sbytes_any w N M F m h x0 (n1 : Int) (by omega) (by omega) (by omega))
      rw [hbyt] at HSB
      have hbl : (byteS s).length = n1 := by rw [byteS_len, hsl, hn1]
      rw [hbl] at HSB
      have wk : IntKind.u64.wrap (k : Int) = (k : Int) := by rw [IntKind.wrap_u64]; omega
      have wk2 : IntKind.u64.wrap (32 * (k : Int)) = 32 * (k : Int) := by rw [IntKind.wrap_u64]; omega
      have wk3 : IntKind.u64.wrap ((p : Int) + 32 * (k : Int)) = (pk : Int) := by rw [IntKind.wrap_u64]; omega
      have wn : IntKind.i64.wrap ((sl : Int) + 1) = (n1 : Int) := by rw [IntKind.wrap_i64]; omega
      have wm : IntKind.i64.wrap ((n1 : Int) - 1) = (sl : Int) := by rw [IntKind.wrap_i64]; omega
      have wx : IntKind.u64.wrap ((x1 : Int) - (x0 : Int)) = (n1 : Int) := by rw [IntKind.wrap_u64]; omega
      have wu : IntKind.u64.wrap (n1 : Int) = (n1 : Int) := by rw [IntKind.wrap_u64]; omega
      have kk0 : (0 : Int) ≤ (k : Int) := by omega
      have kk1 : (k : Int) < (n : Int) := by omega
      have hd1 : decide ((k : Int) < (n : Int)) = true := decide_eq_true kk1
      have HW := Lib.hid (And.intro wn (And.intro wm (And.intro wx wu)))
      have HS := Lib.hid (And.intro hs (And.intro hsl (And.intro hn1 hsv)))
      have HKN := Lib.hid hkn
      clear wn wm wx wu hs hsl hn1 hsv hle hxx hq3 hx0 hx1 hpk hcap hbyt hbl hkn hk
      go_wp2_with fail
      refine C.out.mono ?_; rintro e w2 ⟨rfl, hb⟩
      have B2 := Lib.hid (BB.out.trans (hb.mono BB.out.size))
      have X2 := Lib.hid (boxN_below BX.out hb)
      have O2 := Lib.hid (O1.out.below hb)
      have c2 := cell_below hb hc
      clear hb C BB BX O1 hc l0 l1
      go_upto_region 7 with fail
      obtain ⟨W7, hW7⟩ : ∃ W7, w2.alloc (.cells #[.int .u64 (x0 : Int), .int .u64 (x1 : Int), .int .u64 (x0 : Int), .int .i64 1, .int .i64 (-1), .bool true] 32) = W7 := ⟨_, rfl⟩
      (try rw [hW7])
      obtain ⟨R, hR⟩ : ∃ R, w2.heap.size = R := ⟨_, rfl⟩
      (try rw [hR])
      have hb7 : Below w2.heap.size w2 W7 := by rw [← hW7]; exact bAlloc (Below.refl _ _) _
      have hc7 : BoxN W7 R #[.int .u64 (x0 : Int), .int .u64 (x1 : Int), .int .u64 (x0 : Int), .int .i64 1, .int .i64 (-1), .bool true] := by rw [← hW7, ← hR]; exact BoxN.new _ _ _
      have B7 := Lib.hid (B2.out.trans (hb7.mono B2.out.size))
      have X7 := Lib.hid (boxN_below X2.out hb7)
      have O7 := Lib.hid (O2.out.below hb7)
      have K7 := Lib.hid hc7
      have c7 := cell_below hb7 c2
      have k0 : W7.cell? ⟨R, 0, none⟩ = some (.int .u64 (x0 : Int)) := hc7.cell 0
      have HS0 := Lib.hid (And.intro k0 c7)
      have HSd : Hid (W7.drew.cell? ⟨R, 0, none⟩ = some (.int .u64 (x0 : Int)) ∧ W7.drew.cell? ⟨g, off + k, none⟩ = some (.string sv)) := Lib.hid HS0.out
      obtain ⟨wn, wm, wx, wu⟩ := HW.out
      clear hW7 hR hb7 hc7 c2 c7 k0 B2 X2 O2 wm wx wu
      go_region_held3 (fun W => W.cell? ⟨R, 0, none⟩ = some (.int .u64 (x0 : Int)) ∧ W.cell? ⟨g, off + k, none⟩ = some (.string sv))
        (first | with_reducible exact HSd.out | with_reducible exact HS8.out | go_keep)
        (first
          | (go_at_call 16; refine (HSB.out _ (O7.out.below (Below.drew (Below.refl _ _)))).mono ?_; rintro e w8 ⟨⟨qa, qc, rfl, hor⟩, hb⟩; have hb8 := undrewB hb; have HS8 := Lib.hid (And.intro (cell_below hb8 HS0.out.1) (cell_below hb8 HS0.out.2)); have X8 := Lib.hid (boxN_below X7.out hb8); have O8 := Lib.hid (O7.out.below hb8); have K8 := Lib.hid (boxN_below K7.out hb8); have B8 := Lib.hid (B7.out.trans (hb8.mono B7.out.size)); have HOR := Lib.hid hor; clear hb hb8 hor))
      have hcs : w8.cell? ⟨g, off + k, none⟩ = some (.string sv) := HS8.out.2
      have r0 : w8.cell? ⟨R, 0, none⟩ = some (.int .u64 (x0 : Int)) := K8.out.cell 0
      have r1 : w8.cell? ⟨R, 1, none⟩ = some (.int .u64 (x1 : Int)) := K8.out.cell 1
      have r2 : w8.cell? ⟨R, 2, none⟩ = some (.int .u64 (x0 : Int)) := K8.out.cell 2
      have r3 : w8.cell? ⟨R, 3, none⟩ = some (.int .i64 1) := K8.out.cell 3
      have r5 : w8.cell? ⟨R, 5, none⟩ = some (.bool true) := K8.out.cell 5
      obtain ⟨wn, wm, wx, wu⟩ := HW.out
      have e1 : ((x0 : Int) != (x0 : Int)) = false := bne_self_eq_false _
      have e2 : ((n1 : Int) != (n1 : Int)) = false := bne_self_eq_false _
      clear HS0 HSd HS8
      go_wp2_with fail
      go_quiet (fail)
      obtain ⟨W9, hW9⟩ : ∃ W9, w8.drewN nq = W9 := ⟨_, rfl⟩
      rw [hW9]
      have hb9 : Below w8.heap.size w8 W9 := by rw [← hW9]; exact below_drewN _ nq
      have hrow := row_later HOR.out hb9
      have hqc : n1 ≤ qc := by
        rcases HOR.out.2 with ⟨e, h0⟩ | ⟨g', cap', cur', e, -, -, h1, -⟩
        · cases e; omega
        · cases e; exact h1
      have hsx : s.length = sl := by have := HS.out.2.1; exact this
      have hn1' : sl + 1 = n1 := HS.out.2.2.1
      have hub : u8s (byteS s) = u8s (s.map UInt8.toNat) ++ [.int .u8 0] := by simp [u8s, byteS]
      rw [hub, ← hn1'] at hrow
      have hul : (u8s (s.map UInt8.toNat)).length = sl := by simp [u8s, hsx]
      have hini : Rd W9 qa s.length (u8s (s.map UInt8.toNat)) := by rw [hsx]; exact hrow.init hul
      have hst : ∀ n, (convert 47 9 (.slice qa sl qc)).run Try.prog (W9.drewN n) = .ok (.string sv) (W9.drewN n) := fun n => by
        have h0 := run_strR (W9.drewN n) qa qc s (hini.below (below_drewN _ n))
        rw [hsx, HS.out.2.2.2] at h0
        exact h0
      obtain ⟨qb, qo, rfl, -, hcl⟩ := hrow.2 (by omega)
      have hz : W9.cell? ⟨qb, qo + sl, none⟩ = some (.int .u8 0) := by
        rw [hcl sl (by omega), List.getElem?_append_right (by rw [hul]; exact Nat.le_refl _), hul, Nat.sub_self]; rfl
      have hcs9 : W9.cell? ⟨g, off + k, none⟩ = some (.string sv) := cell_below hb9 hcs
      have X9 := Lib.hid (boxN_below X8.out hb9)
      have O9 := Lib.hid (O8.out.below hb9)
      have B9 := Lib.hid (B8.out.trans (hb9.mono B8.out.size))
      have f1 : (0 : Int) ≤ (sl : Int) := by omega
      have f2 : (sl : Int) ≤ (qc : Int) := by omega
      have f3 : (sl : Int) < (n1 : Int) := by omega
      clear hW9 hb9 hrow hqc hsx hn1' hub hul hini hcl hcs r0 r1 r2 r3 r5 X8 O8 B8 K8 HOR e1 e2 wn wx wu X7 O7 B7 K7 HSB
      go_wp2_with fail
      go_quiet (fail)
      obtain ⟨WA, hWA⟩ : ∃ WA, W9.drewN nq = WA := ⟨_, rfl⟩
      (try rw [hWA])
      have hbA : Below W9.heap.size W9 WA := by rw [← hWA]; exact below_drewN _ _
      have XA := Lib.hid (boxN_below X9.out hbA)
      have OA := Lib.hid (O9.out.below hbA)
      have BA := Lib.hid (B9.out.trans (hbA.mono B9.out.size))
      clear hWA hbA X9 O9 B9 hst hz hcs9
      have hn8 := HQ.out.2.2
      have hkn2 := HKN.out
      go_wp2_with fail
      go_roundw
      case rel => exact ⟨k + 1, by go_num, by omega, BA, XA, OA⟩
      case measure => simp [intOf]; omega
    · obtain rfl : k = n := by omega
      have hd1 : decide ((k : Int) < (k : Int)) = false := by simp
      have hd2 : decide (k < k) = false := by simp
      have C := Lib.hid (sloadC_any wr N M F m O1.out q HQ.out.2.1)
      rw [HF.out, show (capC nullC).toArray = #[.int .u64 0, .int .u64 0, .int .u64 0, .int .i64 0, .int .i64 (-1), .bool false] from rfl] at C
      clear hkn hk l0
      go_wp2_with fail
      refine C.out.mono ?_; rintro e w2 ⟨rfl, hb⟩
      have B2 := Lib.hid (BB.out.trans (hb.mono BB.out.size))
      clear hb C BB BX O1 l1
      go_wp2_with fail
      obtain ⟨W7, hW7⟩ : ∃ W7, w2.alloc (.cells #[.int .u64 0, .int .u64 0, .int .u64 0, .int .i64 0, .int .i64 (-1), .bool false] 32) = W7 := ⟨_, rfl⟩
      (try rw [hW7])
      have hb7 : Below w2.heap.size w2 W7 := by rw [← hW7]; exact bAlloc (Below.refl _ _) _
      have B7 := Lib.hid (B2.out.trans (hb7.mono B2.out.size))
      go_ret
      exact ⟨rfl, B7.out⟩
end Go.Proofs.Ytjefkhieihigiaa
