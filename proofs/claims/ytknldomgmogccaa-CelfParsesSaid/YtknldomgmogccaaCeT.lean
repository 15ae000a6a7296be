/- The reader's numbers and texts: contracts. -/
import Derived.Test.YtknldomgmogccaaCeR
namespace Go.Proofs.Ytknldomgmogccaa
set_option linter.unusedVariables false
set_option linter.unusedSimpArgs false
open Go.Joins Go.ChangeShapes Go.WideShapes Go.ChangeAt Go.RowKit

theorem num_any (base R : Nat) (s : St) (n : Nat) (W : World) (h : RdAt base R W s) (hn : n ≤ 8) :
    Calls Try.prog 64 #[.pointer (some ⟨R, 0, none⟩), .int .i64 n] W fun e W' => e = .returned (.int .u64 ((numP n s).1 : Int)) ∧ RdAt base R W' (numP n s).2 ∧ KP W.heap.size (· = R) W W' := by
  have HT := Lib.hid (take_any base R s n W h (by omega))
  have HL := Lib.hid (takeP_len n s)
  unfold numP
  obtain ⟨⟨l1, s1⟩, hx⟩ : ∃ x, takeP n s = x := ⟨_, rfl⟩
  rw [hx] at HT HL ⊢
  clear hx h
  go_enter Try.func64, Try.ntmps64
  go_wp2_with fail
  refine HT.out.mono ?_; rintro e W1 ⟨⟨a, c, rfl, hby⟩, hrd, hkp⟩
  have HO := Lib.hid (of_any a l1.length c (nats l1) W1 (by rw [← u8v_nats]; exact hby.1) (nats_lt l1) (by have h1 : l1.length ≤ n := HL.out; omega))
  have HRD := Lib.hid hrd
  have HKP := Lib.hid hkp
  clear hby hrd hkp
  go_wp2_with fail
  refine HO.out.mono ?_; rintro e W2 ⟨rfl, rfl⟩
  go_wp2_with fail
  go_ret
  exact ⟨rfl, HRD.out, HKP.out⟩
theorem byte_any (base R : Nat) (s : St) (W : World) (h : RdAt base R W s) :
    Calls Try.prog 62 #[.pointer (some ⟨R, 0, none⟩)] W fun e W' => e = .returned (.int .i64 ((numP 1 s).1 : Int)) ∧ RdAt base R W' (numP 1 s).2 ∧ KP W.heap.size (· = R) W W' := by
  have HT := Lib.hid (num_any base R s 1 W h (by omega))
  have hlt := numP_lt 1 s
  obtain ⟨⟨x, s1⟩, hx⟩ : ∃ x, numP 1 s = x := ⟨_, rfl⟩
  rw [hx] at HT hlt ⊢
  have hlt : x < 256 := hlt
  have hw : IntKind.i64.wrap (x : Int) = (x : Int) := IntWalk.i64_in _ (by omega)
  clear hx h
  go_enter Try.func62, Try.ntmps62
  go_wp2_with fail
  refine HT.out.mono ?_; rintro e W1 ⟨rfl, hrd, hkp⟩
  have HRD := Lib.hid hrd
  have HKP := Lib.hid hkp
  clear hrd hkp
  go_wp2_with fail
  go_ret
  exact ⟨rfl, HRD.out, HKP.out⟩
theorem half_any (base R : Nat) (s : St) (W : World) (h : RdAt base R W s) :
    Calls Try.prog 47 #[.pointer (some ⟨R, 0, none⟩)] W fun e W' => e = .returned (.int .i64 ((numP 2 s).1 : Int)) ∧ RdAt base R W' (numP 2 s).2 ∧ KP W.heap.size (· = R) W W' := by
  have HT := Lib.hid (num_any base R s 2 W h (by omega))
  have hlt := numP_lt 2 s
  obtain ⟨⟨x, s1⟩, hx⟩ : ∃ x, numP 2 s = x := ⟨_, rfl⟩
  rw [hx] at HT hlt ⊢
  have hlt : x < 65536 := hlt
  have hw : IntKind.i64.wrap (x : Int) = (x : Int) := IntWalk.i64_in _ (by omega)
  clear hx h
  go_enter Try.func47, Try.ntmps47
  go_wp2_with fail
  refine HT.out.mono ?_; rintro e W1 ⟨rfl, hrd, hkp⟩
  have HRD := Lib.hid hrd
  have HKP := Lib.hid hkp
  clear hrd hkp
  go_wp2_with fail
  go_ret
  exact ⟨rfl, HRD.out, HKP.out⟩
theorem full_any (base R : Nat) (s : St) (W : World) (h : RdAt base R W s) :
    Calls Try.prog 63 #[.pointer (some ⟨R, 0, none⟩)] W fun e W' => e = .returned (.int .u64 ((numP 4 s).1 : Int)) ∧ RdAt base R W' (numP 4 s).2 ∧ KP W.heap.size (· = R) W W' := by
  have HT := Lib.hid (num_any base R s 4 W h (by omega))
  obtain ⟨⟨x, s1⟩, hx⟩ : ∃ x, numP 4 s = x := ⟨_, rfl⟩
  rw [hx] at HT ⊢
  clear hx h
  go_enter Try.func63, Try.ntmps63
  go_wp2_with fail
  refine HT.out.mono ?_; rintro e W1 ⟨rfl, hrd, hkp⟩
  have HRD := Lib.hid hrd
  have HKP := Lib.hid hkp
  clear hrd hkp
  go_wp2_with fail
  go_ret
  exact ⟨rfl, HRD.out, HKP.out⟩
theorem foldl_push (l : List UInt8) : ∀ (s : ByteArray), (l.map (fun b => (b.toNat : Int))).foldl (fun r n => r.push (UInt8.ofNat n.toNat)) s = ⟨s.data ++ l.toArray⟩ := by
  induction l with
  | nil => intro s; cases s; simp
  | cons b l ih =>
    intro s
    rw [List.map_cons, List.foldl_cons, ih]
    simp [ByteArray.push]
theorem run_str (W : World) (base : Nat) (a : Option Addr) (c : Nat) (l : List UInt8) (h : BytesIn base W a l) : (convert 22 9 (.slice a l.length c)).run Try.prog W = .ok (.string ⟨l.toArray⟩) W := by
  rw [run_convert_bytes_string W 22 9 5 a l.length c Try.underlying22 Try.underlying5 Try.underlying9]
  cases a with
  | none =>
    have hl : l = [] := by
      rcases Nat.eq_zero_or_pos l.length with h0 | h0
      · exact List.eq_nil_of_length_eq_zero h0
      · obtain ⟨b, off, e, -⟩ := h.2 h0; cases e
    subst hl
    simp [Conv.bytesToString, Sem.run_pure]
    try rfl
  | some ad =>
    have hld : (loadCells ad l.length).run Try.prog W = .ok ((l.map (fun b => (b.toNat : Int))).map (Value.int .u8)).toArray W := by
      have h2 := run_loadCells_list (P := Try.prog) W ad (u8v l) (fun j v hj => by
        have hj2 : j < l.length := by rw [← u8v_len l]; exact (List.getElem?_eq_some_iff.1 hj).1
        obtain ⟨b, off, e, -, hc⟩ := h.1.2 (by omega)
        cases e
        rw [add_plain, hc j hj2, hj])
      rw [u8v_len] at h2
      rw [h2]
      simp [u8v, Function.comp_def]
    rw [run_bytesToString W ad l.length c (l.map (fun b => (b.toNat : Int))) hld, foldl_push]
    simp
    try rfl
theorem text_any (base R : Nat) (s : St) (W : World) (h : RdAt base R W s) :
    Calls Try.prog 38 #[.pointer (some ⟨R, 0, none⟩)] W fun e W' => e = .returned (.string ⟨(textP s).1.toArray⟩) ∧ RdAt base R W' (textP s).2 ∧ KP W.heap.size (· = R) W W' := by
  have HB := Lib.hid (byte_any base R s W h)
  have hlt := numP_lt 1 s
  unfold textP
  obtain ⟨⟨x, s1⟩, hx⟩ : ∃ x, numP 1 s = x := ⟨_, rfl⟩
  rw [hx] at HB hlt ⊢
  have hlt : x < 256 := hlt
  have hlo := h.lt
  have HT := Lib.hid (fun W (hW : RdAt base R W s1) => take_any base R s1 x W hW (by omega))
  simp only [] at HT ⊢
  obtain ⟨⟨l2, s2⟩, hy⟩ : ∃ x', takeP x s1 = x' := ⟨_, rfl⟩
  rw [hy] at HT ⊢
  clear hx hy h
  go_enter Try.func38, Try.ntmps38
  go_wp2_with fail
  refine HB.out.mono ?_; rintro e W1 ⟨rfl, hrd, hkp⟩
  have HRD := Lib.hid hrd
  have HKP := Lib.hid hkp
  clear hrd hkp
  go_wp2_with fail
  refine (HT.out W1 HRD.out).mono ?_; rintro e W2 ⟨⟨a, c, rfl, hby⟩, hrd, hkp⟩
  have hst := run_str W2 base a c l2 hby
  have HRD2 := Lib.hid hrd
  have HKP2 := Lib.hid (HKP.out.trans (hkp.mono HKP.out.size (fun _ _ => id)))
  clear hby hrd hkp
  simp only [] at hst ⊢
  go_wp2_with fail
  go_ret
  exact ⟨rfl, HRD2.out, HKP2.out⟩
end Go.Proofs.Ytknldomgmogccaa
