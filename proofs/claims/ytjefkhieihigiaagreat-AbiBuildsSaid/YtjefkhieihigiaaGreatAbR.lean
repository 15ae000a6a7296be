/- Rows: texts, capabilities. -/
import Derived.Test.YtjefkhieihigiaaGreatTa6
import Derived.Test.YtjefkhieihigiaaGreatAbA
namespace Go.Proofs.YtjefkhieihigiaaGreat
set_option linter.unusedVariables false
set_option linter.unusedSimpArgs false
open Go.Joins Go.ChangeShapes Go.WideShapes Go.ChangeAt Go.RowKit Go.Deep

theorem flat_len {α : Type} {f : α → List Value} {k : Nat} (hf : ∀ x, (f x).length = k) (l : List α) : (l.flatMap f).length = l.length * k := by
  induction l with
  | nil => simp
  | cons s l ih => rw [List.flatMap_cons, List.length_append, List.length_cons, ih, hf, Nat.succ_mul, Nat.add_comm]
theorem flat_get {α : Type} {f : α → List Value} {k : Nat} (hf : ∀ x, (f x).length = k) (l : List α) (i : Nat) (hi : i < l.length) (j : Nat) (hj : j < k) : (l.flatMap f)[i * k + j]? = (f l[i])[j]? := by
  induction l generalizing i with
  | nil => simp at hi
  | cons s l ih =>
    rw [List.flatMap_cons]
    rcases Nat.eq_zero_or_pos i with rfl | hp
    · rw [List.getElem?_append_left (by rw [hf]; omega)]; simp
    · obtain ⟨i, rfl⟩ : ∃ q, i = q + 1 := ⟨i - 1, by omega⟩
      rw [List.getElem?_append_right (by rw [hf, Nat.succ_mul]; omega), hf, show (i + 1) * k + j - k = i * k + j by rw [Nat.succ_mul]; omega]
      simp only [List.getElem_cons_succ]
      exact ih i (by simpa using hi)
theorem rdE_at {α : Type} {f : α → List Value} {k : Nat} (hf : ∀ x, (f x).length = k) (hk : 0 < k) {w : World} {a : Option Addr} {l : List α} (h : Rd w a (l.length * k) (l.flatMap f)) {i : Nat} (hi : i < l.length) :
    ∃ b off, a = some ⟨b, off, none⟩ ∧ b < w.heap.size ∧ ∀ j, j < k → w.cell? ⟨b, off + i * k + j, none⟩ = (f l[i])[j]? := by
  have hpos : 0 < l.length * k := Nat.mul_pos (by omega) hk
  obtain ⟨b, off, e, hl, hc⟩ := h.2 hpos
  refine ⟨b, off, e, hl, fun j hj => ?_⟩
  have hlt : i * k + j < l.length * k := Nat.lt_of_lt_of_le (by omega : i * k + j < i * k + k) (by rw [← Nat.succ_mul]; exact Nat.mul_le_mul_right k hi)
  rw [Nat.add_assoc, hc (i * k + j) hlt]
  exact flat_get hf l i hi j hj
def strV (l : List UInt8) : Value := .string ⟨l.toArray⟩
def strs (l : List (List UInt8)) : List Value := l.map strV
theorem strs_app (L K : List (List UInt8)) : strs (L ++ K) = strs L ++ strs K := List.map_append
theorem strs_get (L : List (List UInt8)) (k : Nat) (h : k < L.length) : (strs L)[k]? = some (.string ⟨L[k].toArray⟩) := by simp [strs, h, strV]
theorem infoStr : (Tryz.prog.info? 9).map (fun i => (i.zero, i.size, i.bytes)) = some (some (.string ⟨#[]⟩), 1, 16) := by kernel_rfl
theorem infoCap : (Tryz.prog.info? 37).map (fun i => (i.zero, i.size, i.bytes)) = some (some (.agg #[.int .u64 0, .int .u64 0, .int .u64 0, .int .i64 0, .int .i64 0, .bool false]), 6, 48) := by kernel_rfl
theorem mk_size (l : List UInt8) : (⟨l.toArray⟩ : ByteArray).size = l.length := by show l.toArray.size = l.length; simp
theorem capC_len (c : Cp) : (capC c).length = 6 := rfl
def capsV (l : List Cp) : List Value := l.flatMap capC
theorem capsV_app (L K : List Cp) : capsV (L ++ K) = capsV L ++ capsV K := List.flatMap_append
theorem capsV_one (c : Cp) : capsV [c] = capC c := by simp [capsV]
/-- a row of texts, or of capabilities, none of it in S -/
def RdT (W : World) (S : Nat → Prop) (a : Option Addr) (l : List (List UInt8)) : Prop := Rd W a l.length (strs l) ∧ ∀ b off, 0 < l.length → a = some ⟨b, off, none⟩ → ¬ S b ∧ b < W.heap.size
def RdC (W : World) (S : Nat → Prop) (a : Option Addr) (l : List Cp) : Prop := Rd W a (l.length * 6) (capsV l) ∧ ∀ b off, 0 < l.length → a = some ⟨b, off, none⟩ → ¬ S b ∧ b < W.heap.size
theorem RdT.kp {W W' : World} {S : Nat → Prop} {a : Option Addr} {l : List (List UInt8)} (h : RdT W S a l) (hk : KP W.heap.size S W W') : RdT W' S a l :=
  ⟨hk.rd h.1 (fun b off h0 e => ⟨(h.2 b off h0 e).2, (h.2 b off h0 e).1⟩), fun b off h0 e => ⟨(h.2 b off h0 e).1, Nat.lt_of_lt_of_le (h.2 b off h0 e).2 hk.size⟩⟩
theorem RdC.kp {W W' : World} {S : Nat → Prop} {a : Option Addr} {l : List Cp} (h : RdC W S a l) (hk : KP W.heap.size S W W') : RdC W' S a l :=
  ⟨hk.rd h.1 (fun b off h0 e => ⟨(h.2 b off (by omega) e).2, (h.2 b off (by omega) e).1⟩), fun b off h0 e => ⟨(h.2 b off h0 e).1, Nat.lt_of_lt_of_le (h.2 b off h0 e).2 hk.size⟩⟩
theorem RdT.at_ {W : World} {S : Nat → Prop} {a : Option Addr} {l : List (List UInt8)} (h : RdT W S a l) {k : Nat} (hk : k < l.length) : ∃ g off, a = some ⟨g, off, none⟩ ∧ W.cell? ⟨g, off + k, none⟩ = some (.string ⟨l[k].toArray⟩) := by
  obtain ⟨g, off, e, -, hc⟩ := h.1.at_ hk
  rw [strs_get l k hk] at hc
  exact ⟨g, off, e, hc⟩
theorem RdC.at_ {W : World} {S : Nat → Prop} {a : Option Addr} {l : List Cp} (h : RdC W S a l) {k : Nat} (hk : k < l.length) : ∃ g off, a = some ⟨g, off, none⟩ ∧ (W.cell? ⟨g, off + k * 6, none⟩ = some (.int .u64 l[k].b) ∧ W.cell? ⟨g, off + k * 6 + 1, none⟩ = some (.int .u64 l[k].t) ∧ W.cell? ⟨g, off + k * 6 + 2, none⟩ = some (.int .u64 l[k].a) ∧ W.cell? ⟨g, off + k * 6 + 3, none⟩ = some (.int .i64 l[k].p) ∧ W.cell? ⟨g, off + k * 6 + 4, none⟩ = some (.int .i64 l[k].y) ∧ W.cell? ⟨g, off + k * 6 + 5, none⟩ = some (.bool l[k].g)) := by
  obtain ⟨b, off, e, hl, g⟩ := rdE_at capC_len (by decide) h.1 hk
  exact ⟨b, off, e, g 0 (by decide), g 1 (by decide), g 2 (by decide), g 3 (by decide), g 4 (by decide), g 5 (by decide)⟩
end Go.Proofs.YtjefkhieihigiaaGreat
