/- The bytes of a text, with a byte 0 behind them. -/
import Derived.Test.YtjefkhieihigiaaGreatAbE
import Derived.Deep.AppendSrc
import Derived.Laws.IdiomStrings
import Derived.Deep.DeepAppendWide
import Derived.WalkMore
namespace Go.Proofs.YtjefkhieihigiaaGreat
set_option linter.unusedVariables false
set_option linter.unusedSimpArgs false
open Go.Joins Go.ChangeShapes Go.WideShapes Go.ChangeAt Go.RowKit Go.Deep

theorem infoU8' : (Tryz.prog.info? 5).map (fun i => (i.zero, i.size, i.bytes)) = some (some (.int .u8 0), 1, 1) := by kernel_rfl
/-- the bytes of a text, as they were made of it -/
structure ByteR (W : World) (g : Nat) (s : List UInt8) (c : Nat) : Prop where
  le : s.length ≤ c
  row : ∃ cur : Array Value, W.heap[g]? = some (.cells cur 5 (c, c + 1)) ∧ cur.size = c ∧ ∀ j (h : j < s.length), cur[j]? = some (.int .u8 (s[j].toNat : Int))
theorem ByteR.cell {W : World} {g c : Nat} {s : List UInt8} (h : ByteR W g s c) (j : Nat) (hj : j < s.length) : W.cell? ⟨g, j, none⟩ = some (.int .u8 (s[j].toNat : Int)) := by
  obtain ⟨cur, h1, h2, h3⟩ := h.row
  exact (cell_of_row W g j cur _ _ h1).trans (h3 j hj)
theorem ByteR.some {W : World} {g c : Nat} {s : List UInt8} (h : ByteR W g s c) (j : Nat) (hj : j < c) : (W.cell? ⟨g, j, none⟩).isSome = true := by
  obtain ⟨cur, h1, h2, h3⟩ := h.row
  rw [cell_of_row W g j cur _ _ h1, Array.getElem?_eq_getElem (by omega)]
  rfl
theorem ByteR.frozen {W : World} {g c : Nat} {s : List UInt8} (h : ByteR W g s c) (j : Nat) (hj : j < c) : W.frozen? ⟨g, j, none⟩ = false := by
  obtain ⟨cur, h1, h2, h3⟩ := h.row
  unfold World.frozen?
  rw [h1]
  simp only [Bool.and_eq_false_iff, decide_eq_false_iff_not]
  omega
theorem ByteR.lt {W : World} {g c : Nat} {s : List UInt8} (h : ByteR W g s c) : g < W.heap.size := by
  obtain ⟨cur, h1, -⟩ := h.row
  exact (Array.getElem?_eq_some_iff.1 h1).1
theorem ByteR.below {W W' : World} {g c : Nat} {s : List UInt8} (h : ByteR W g s c) (hb : Below W.heap.size W W') : ByteR W' g s c := by
  have hl := h.lt
  obtain ⟨cur, h1, h2⟩ := h.row
  exact ⟨h.le, cur, (hb.block g hl).trans h1, h2⟩
theorem conv_any (s : List UInt8) (W : World) : ∃ c W', (convert 9 52 (.string ⟨s.toArray⟩)).run Tryz.prog W = .ok (.slice (Option.some ⟨W.heap.size, 0, none⟩) s.length c) W' ∧ ByteR W' W.heap.size s c ∧ Below W.heap.size W W' ∧ W'.heap.size = W.heap.size + 1 := by
  have hr := run_bytes_of_string (P := Tryz.prog) W 9 52 5 ⟨s.toArray⟩ Tryz.underlying9 Tryz.underlying52 Tryz.underlying5
  have hge := grownCap_ge W s.length 0 5
  have hs : (ByteArray.mk s.toArray).size = s.length := mk_size s
  rw [hs] at hr
  obtain ⟨c, hc⟩ : ∃ c, grownCap W s.length 0 5 = c := ⟨_, rfl⟩
  rw [hc] at hr hge
  have hsz : (bytesRow ⟨s.toArray⟩ c).size = c := by
    unfold bytesRow
    rw [Array.size_append, Array.size_map, Array.size_replicate]
    show s.toArray.size + (c - (ByteArray.mk s.toArray).size) = c
    rw [hs]; simp; omega
  rw [hsz] at hr
  refine ⟨c, _, hr, ⟨hge, bytesRow ⟨s.toArray⟩ c, ?_, hsz, fun j hj => ?_⟩, (Below.drew (Below.refl _ _)).alloc (Nat.le_refl _) _, by simp⟩
  · exact heap_alloc_new W.drew _
  · unfold bytesRow
    rw [Array.getElem?_append_left (by simp; exact hj)]
    simp [hj]
theorem rd_u8 (W : World) (q : Nat) (l : List Nat) (hq : q < W.heap.size) (h : ∀ j (hj : j < l.length), W.cell? ⟨q, j, none⟩ = Option.some (.int .u8 (l[j] : Int))) : Rd W (Option.some ⟨q, 0, none⟩) l.length (u8s l) :=
  ⟨u8s_length l, fun _ => ⟨q, 0, rfl, hq, fun k hk => by rw [Nat.zero_add, h k hk]; simp [u8s, hk]⟩⟩
theorem app_any (W : World) (ty : TypeId) (g h c : Nat) (s : List UInt8) (hb : ByteR W g s c) (hz : W.cell? ⟨h, 0, none⟩ = Option.some (.int .u8 0)) (hl : s.length ≤ 1000000) :
    ∃ q c' W', (Builtin.append_ #[52, 52] ty #[.slice (Option.some ⟨g, 0, none⟩) s.length c, .slice (Option.some ⟨h, 0, none⟩) 1 1]).run Tryz.prog W = .ok (.slice (Option.some ⟨q, 0, none⟩) (s.length + 1) c') W' ∧ Rd W' (Option.some ⟨q, 0, none⟩) (s.length + 1) (u8s (byteS s)) ∧ s.length + 1 ≤ c' ∧ (q = g ∨ q = W.heap.size) ∧ (∀ n0, n0 ≤ g → n0 ≤ W.heap.size → Below n0 W W') := by
  obtain ⟨i0, hi, hz0, hz1, hz2⟩ := info_parts infoU8'
  have hsrc : Src Tryz.prog i0.size 52 (.slice (Option.some ⟨h, 0, none⟩) 1 1) 1 [.int .u8 0] W := by
    refine Src.ofSlice W Tryz.underlying52 ⟨h, 0, none⟩ 1 1 [.int .u8 0] (by rw [hz1]; rfl) (fun j u hj => ?_) (fun u hu => by rw [List.mem_singleton] at hu; rw [hu]; rfl)
    match j, hj with
    | 0, hj => simp at hj; subst hj; simpa [Addr.add] using hz
    | j + 1, hj => simp at hj
  by_cases hroom : s.length + 1 ≤ c
  · have hr := run_append_room_src W 52 52 ty 5 i0 Tryz.underlying52 hi g 0 s.length c _ 1 [.int .u8 0] hsrc hroom
      (fun j hj => by simp at hj; subst hj; rw [hz1]; simp; exact hb.some _ (by omega)) (fun j hj => by simp at hj; subst hj; rw [hz1]; simp; exact hb.frozen _ (by omega))
    rw [hz1, Nat.mul_one, Nat.zero_add] at hr
    have hset : W.setCells g s.length [.int .u8 0] = W.setCell ⟨g, s.length, none⟩ (.int .u8 0) := rfl
    rw [hset] at hr
    refine ⟨g, c, _, hr, ?_, hroom, Or.inl rfl, fun n0 h1 h2 => (Below.refl n0 W).setCell h1 _⟩
    have := rd_u8 (W.setCell ⟨g, s.length, none⟩ (.int .u8 0)) g (byteS s) (by rw [World.size_setCell]; exact hb.lt) (fun j hj => ?_)
    · rw [byteS_len] at this; exact this
    · rw [byteS_len] at hj
      by_cases e : j = s.length
      · subst e
        obtain ⟨v, hv⟩ := Option.isSome_iff_exists.1 (hb.some s.length (by omega))
        rw [World.cell?_setCell_same _ _ _ hv]
        have hbj : (byteS s)[s.length]'(by rw [byteS_len]; omega) = 0 := by unfold byteS; simp
        rw [hbj]; rfl
      · have hbj : (byteS s)[j]'(by rw [byteS_len]; omega) = s[j].toNat := by
          unfold byteS
          rw [List.getElem_append_left (by simp; omega)]
          simp
        rw [World.cell?_setCell_other _ _ _ _ (by intro q; cases q; exact e rfl), hb.cell j (by omega), hbj]
  · have hce : c = s.length := by have := hb.le; omega
    subst hce
    have hold : (Builtin.firstCells i0.size s.length (.slice (Option.some ⟨g, 0, none⟩) s.length s.length)).run Tryz.prog W.drew = .ok (u8s (s.map UInt8.toNat)).toArray W.drew :=
      run_firstCells_some W.drew i0.size s.length ⟨g, 0, none⟩ s.length s.length _ (by rw [u8s_length, hz1]; simp) (fun j v hj => by
        have hjl : j < s.length := by have := (List.getElem?_eq_some_iff.1 hj).1; simpa [u8s] using this
        have := hb.cell j hjl
        simp [u8s, hjl] at hj
        rw [← hj, Addr.add_lit, Nat.zero_add]
        exact this)
    have hr := run_append_grow_src W 52 52 ty 5 i0 (.int .u8 0) Tryz.underlying52 hi hz0 (Option.some ⟨g, 0, none⟩) s.length s.length _ hold _ 1 [.int .u8 0] hsrc (by omega) (by omega) (growslice_fits_wide (by omega) (by rw [hz2]; omega))
    refine ⟨W.heap.size, _, _, hr, ?_, grownCap_ge W _ _ _, Or.inr rfl, fun n0 h1 h2 => (Below.drew (Below.refl _ _)).alloc h2 _⟩
    have hbs : u8s (s.map UInt8.toNat) ++ [Value.int .u8 0] = u8s (byteS s) := by unfold byteS u8s; simp
    rw [hbs]
    refine ⟨by rw [u8s_length, byteS_len], fun _ => ⟨W.heap.size, 0, rfl, by simp, fun k hk => ?_⟩⟩
    rw [Nat.zero_add]
    refine (cell_of_row _ _ _ _ _ _ (heap_alloc_new W.drew _)).trans ?_
    rw [Array.getElem?_append_left (by simp [u8s_length, byteS_len]; exact hk)]
    simp
end Go.Proofs.YtjefkhieihigiaaGreat
