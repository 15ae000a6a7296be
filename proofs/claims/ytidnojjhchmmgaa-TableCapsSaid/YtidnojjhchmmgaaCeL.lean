/- append of what lies in one row, to one's own; what the reader reads of symbols and relocations. -/
import Derived.Test.YtidnojjhchmmgaaCeT
import Derived.Maps.AppendAt
import Derived.OwnWalk
import Derived.WalkMore
import Derived.BigRegion
namespace Go.Proofs.Ytidnojjhchmmgaa
set_option linter.unusedVariables false
set_option linter.unusedSimpArgs false
open Go.Joins Go.ChangeShapes Go.WideShapes Go.ChangeAt Go.RowKit Go.Deep

theorem run_appE {P : Program} (sl el : TypeId) (z : Value) (k bytes : Nat) (hu : P.underlying sl = some (.slice el)) (hinfo : (P.info? el).map (fun i => (i.zero, i.size, i.bytes)) = some (some z, k, bytes)) (hzs : z.cells.size = k) (hk : 0 < k) (hby : bytes ≤ 1000)
    (w : World) (ty : TypeId) (B : Nat) (v : Value) (n : Nat) (xs : List Value) (hown : w.ownsRow B el k v n xs) (am : Option Addr) (m c : Nat) (ys : List Value) (hr : Rd w am (m * k) ys) (hone : ∀ u ∈ ys, u.oneCell' = true) (hnm : n + m ≤ 1000000) (hB : B ≤ w.heap.size) :
    ∃ a' c' w', (Builtin.append_ #[sl, sl] ty #[v, .slice am m c]).run P w = .ok (.slice a' (n + m) c') w' ∧ w'.ownsRow B el k (.slice a' (n + m) c') (n + m) (xs ++ ys) ∧ w.grownBy w' v.ownBlock ∧ ((Value.slice a' (n + m) c').ownBlock = v.ownBlock ∨ (Value.slice a' (n + m) c').ownBlock = some w.heap.size) := by
  obtain ⟨i0, hi, hz0, hz1, hz2⟩ := info_parts hinfo
  cases am with
  | none =>
    have hm0 : m = 0 := by
      rcases Nat.eq_zero_or_pos m with h | h
      · exact h
      · obtain ⟨b, off, e, -⟩ := hr.2 (Nat.mul_pos h hk); cases e
    subst hm0
    have hy : ys = [] := List.eq_nil_of_length_eq_zero (by have := hr.1; simpa using this)
    subst hy
    obtain ⟨a', c', rfl, -⟩ := own_slice hown
    refine ⟨a', c', w, ?_, by simpa using hown, ⟨rfl, rfl, rfl, Nat.le_refl _, fun _ _ _ => rfl⟩, Or.inl rfl⟩
    rcases hown.2 with ⟨h1, rfl⟩ | ⟨g, cap, cur, h1, _, _, hnc, _⟩
    · cases h1
      simp [Builtin.append_, run_underlying hu, sizeOf, typeInfo, hi, Builtin.lenOf, Builtin.firstCells]
    · cases h1
      simp [Builtin.append_, run_underlying hu, sizeOf, typeInfo, hi, Builtin.lenOf, Builtin.firstCells, hnc, storeCells]
  | some ad =>
    have hl : ys.length = m * k := hr.1
    have hnews : ∀ j u, ys[j]? = some u → w.cell? (ad.add j) = some u := by
      intro j u hj
      have hjm : j < m * k := by
        have := (List.getElem?_eq_some_iff.1 hj).1
        rw [hl] at this; exact this
      obtain ⟨b, off, e, -, hc⟩ := Rd.at_ hr hjm
      cases e
      rw [hj] at hc
      rw [add_plain]
      exact hc
    obtain ⟨v', w', h2, h3, h4, -, h5⟩ := run_append_own_at (P := P) w B sl ty el i0 z k bytes hu hi hz0 hz1 hz2 hzs hk v n xs hown ad m c ys hl hnews hone (by unfold maxLen; omega)
      (Nat.le_trans (Nat.mul_le_mul hnm hby) (by decide)) hB
    obtain ⟨a', c', rfl, -⟩ := own_slice h3
    exact ⟨a', c', w', h2, h3, h4, h5⟩
theorem wpList_appE {P : Program} (sl el : TypeId) (z : Value) (k bytes : Nat) (hu : P.underlying sl = some (.slice el)) (hinfo : (P.info? el).map (fun i => (i.zero, i.size, i.bytes)) = some (some z, k, bytes)) (hzs : z.cells.size = k) (hk : 0 < k) (hby : bytes ≤ 1000)
    (w : World) {ops : Array Oper} {rest : List Oper} {o : Oper} {a : Act} {Q : Exit → Act → World → Prop} (hgd : o.guard = none) (s x : Operand) (ho : o.op = .call { callee := .builtin .append, args := #[s, x], argTypes := #[sl, sl] })
    (B : Nat) (v : Value) (n : Nat) (xs : List Value) (hs : a.eval s = v) (hown : w.ownsRow B el k v n xs) (am : Option Addr) (m c : Nat) (ys : List Value) (hx : a.eval x = .slice am m c) (hr : Rd w am (m * k) ys) (hone : ∀ u ∈ ys, u.oneCell' = true) (hnm : n + m ≤ 1000000) (hB : B ≤ w.heap.size)
    (h : ∀ a' c' w', w'.ownsRow B el k (.slice a' (n + m) c') (n + m) (xs ++ ys) → w.grownBy w' v.ownBlock → ((Value.slice a' (n + m) c').ownBlock = v.ownBlock ∨ (Value.slice a' (n + m) c').ownBlock = some w.heap.size) → wpList P ops Q rest (a.put o.dst (.slice a' (n + m) c')) w') : wpList P ops Q (o :: rest) a w := by
  refine wpList_plain hgd fun K hK => ?_
  obtain ⟨a', c', w', hrun, h2, h3, h4⟩ := run_appE sl el z k bytes hu hinfo hzs hk hby w o.type B v n xs hown am m c ys hr hone hnm hB
  unfold Oper.wp execOp
  simp only [ho, resolve, invoke, builtin, Sem.run_bind, Sem.run_pure, Result.andThen_ok, List.map_toArray, List.map_cons, List.map_nil, hs, hx, hrun]
  exact hK _ _ (h a' c' w' h2 h3 h4)
theorem infoStr : (Try.prog.info? 9).map (fun i => (i.zero, i.size, i.bytes)) = some (some (.string ⟨#[]⟩), 1, 16) := by kernel_rfl
theorem infoInt : (Try.prog.info? 3).map (fun i => (i.zero, i.size, i.bytes)) = some (some (.int .i64 0), 1, 8) := by kernel_rfl
theorem infoRel : (Try.prog.info? 67).map (fun i => (i.zero, i.size, i.bytes)) = some (some (.agg #[.int .u64 0, .int .i64 0]), 2, 16) := by kernel_rfl
theorem infoSym : (Try.prog.info? 35).map (fun i => (i.zero, i.size, i.bytes)) = some (some (.agg #[.string ⟨#[]⟩, .string ⟨#[]⟩, .int .u64 0, .int .u64 0, .int .i64 0, .int .i64 0, .int .i64 0, .bool false]), 8, 80) := by kernel_rfl
theorem infoSeg : (Try.prog.info? 61).map (fun i => (i.zero, i.size, i.bytes)) = some (some (.agg #[.int .u64 0, .int .u64 0, .int .i64 0, .slice none 0 0]), 4, 48) := by kernel_rfl

theorem step_kp {W Wi Wj : World} {R : Nat} (hkp : KP W.heap.size (· = R) W Wi) (h : KP Wi.heap.size (· = R) Wi Wj) : KP W.heap.size (· = R) W Wj := hkp.trans (h.mono hkp.size (fun _ _ => id))
theorem step_box {Wi Wj : World} {R B : Nat} {cs : Array Value} (hb : BoxN Wi B cs) (h : KP Wi.heap.size (· = R) Wi Wj) (hne : B ≠ R) : BoxN Wj B cs := hb.kp h hb.lt hne
theorem kp_alloc (W : World) (R : Nat) (o : Obj) : KP W.heap.size (· = R) W (W.alloc o) := (KP.refl W.heap.size (· = R) W).alloc o (Nat.le_refl _)
theorem kp_set {W Wi : World} {R : Nat} (h : KP W.heap.size (· = R) W Wi) {B j : Nat} (hB : W.heap.size ≤ B) (u : Value) : KP W.heap.size (· = R) W (Wi.setCell ⟨B, j, none⟩ u) := h.set ⟨B, j, none⟩ (Or.inl hB) u
theorem rd_setB {base R : Nat} {Wi : World} {s : St} (h : RdAt base R Wi s) {B j : Nat} (hB : R < B) (u : Value) : RdAt base R (Wi.setCell ⟨B, j, none⟩ u) s :=
  h.kp (n := R + 1) (S := fun _ => False) ((KP.refl (R + 1) (fun _ => False) Wi).set ⟨B, j, none⟩ (Or.inl hB) u) (Nat.lt_succ_self R) (fun _ _ => id)
def relP (s : St) : Rel × St := (⟨((numP 4 s).1 : Int), ((numP 2 (numP 4 s).2).1 : Int)⟩, (numP 2 (numP 4 s).2).2)
end Go.Proofs.Ytidnojjhchmmgaa
