/- The reader's numbers and texts: contracts. -/
import Derived.Test.YtidnojjhchmmgaaCeR
namespace Go.Proofs.Ytidnojjhchmmgaa
set_option linter.unusedVariables false
set_option linter.unusedSimpArgs false
open Go.Joins Go.ChangeShapes Go.WideShapes Go.ChangeAt Go.RowKit

theorem foldl_push (l : List UInt8) : ∀ (s : ByteArray), (l.map (fun b => (b.toNat : Int))).foldl (fun r n => r.push (UInt8.ofNat n.toNat)) s = ⟨s.data ++ l.toArray⟩ := by
  induction l with
  | nil => intro s; cases s; simp
  | cons b l ih =>
    intro s
    rw [List.map_cons, List.foldl_cons, ih]
    simp [ByteArray.push]
theorem run_str (W : World) (base : Nat) (a : Option Addr) (c : Nat) (l : List UInt8) (h : BytesIn base W a l) : (convert 59 9 (.slice a l.length c)).run Try.prog W = .ok (.string ⟨l.toArray⟩) W := by
  rw [run_convert_bytes_string W 59 9 5 a l.length c Try.underlying59 Try.underlying5 Try.underlying9]
  cases a with
  | none =>
    have hl : l = [] := by
      rcases Nat.eq_zero_or_pos l.length with h0 | h0
      · exact List.eq_nil_of_length_eq_zero h0
      · obtain ⟨b, off, e, -⟩ := h.2 h0; cases e
    subst hl
    simp [Conv.bytesToString, Sem.run_pure]
    try rfl
  | some ad =>
    have hld : (loadCells ad l.length).run Try.prog W = .ok ((l.map (fun b => (b.toNat : Int))).map (Value.int .u8)).toArray W := by
      have h2 := run_loadCells_list (P := Try.prog) W ad (u8v l) (fun j v hj => by
        have hj2 : j < l.length := by rw [← u8v_len l]; exact (List.getElem?_eq_some_iff.1 hj).1
        obtain ⟨b, off, e, -, hc⟩ := h.1.2 (by omega)
        cases e
        rw [add_plain, hc j hj2, hj])
      rw [u8v_len] at h2
      rw [h2]
      simp [u8v, Function.comp_def]
    rw [run_bytesToString W ad l.length c (l.map (fun b => (b.toNat : Int))) hld, foldl_push]
    simp
    try rfl
end Go.Proofs.Ytidnojjhchmmgaa
