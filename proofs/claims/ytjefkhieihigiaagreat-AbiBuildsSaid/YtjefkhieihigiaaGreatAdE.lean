/- The document's lists: capabilities, and null behind them, in a new row. -/
import Derived.Test.YtjefkhieihigiaaGreatAdB
import Derived.Deep.RegionLaw
namespace Go.Proofs.YtjefkhieihigiaaGreat
set_option linter.unusedVariables false
set_option linter.unusedSimpArgs false
open Go.Joins Go.ChangeShapes Go.WideShapes Go.ChangeAt Go.RowKit Go.Deep

def nul6 : Array Value := #[.int .u64 0, .int .u64 0, .int .u64 0, .int .i64 0, .int .i64 (-1), .bool false]
theorem own_empty (W : World) (cs : Array Value) (h : cs = #[]) : (W.alloc (.cells cs 37)).ownsRow W.heap.size 37 6 (.slice (some ⟨W.heap.size, 0, none⟩) 0 0) 0 [] := by
  subst h
  exact ⟨rfl, Or.inr ⟨W.heap.size, 0, #[], rfl, Nat.le_refl _, heap_alloc_new W _, Nat.le_refl _, Nat.zero_le _, rfl, rfl⟩⟩
theorem rd_null (W : World) : Rd (W.alloc (.cells nul6 37)) (some ⟨W.heap.size, 0, none⟩) (1 * 6) (capsV [nullC]) := by
  have := Rd.lit W nul6 37 (by show 6 ≤ maxLen; decide)
  exact this
theorem capsV_one1 (l : List Cp) : ∀ u ∈ capsV l, u.oneCell' = true := fun u hu => by
  unfold capsV at hu
  obtain ⟨c, -, hc⟩ := List.mem_flatMap.1 hu
  exact capC_one c u hc
/-- one append of capabilities to a row of one's own -/
theorem capp_any (W : World) (B : Nat) (ty : TypeId) (ra : Option Addr) (rc n : Nat) (xs : List Value) (ho : W.ownsRow B 37 6 (.slice ra n rc) n xs) (a : Option Addr) (c m : Nat) (l : List Cp) (hr : Rd W a (m * 6) (capsV l)) (hn : n + m ≤ 100000) (hB : B ≤ W.heap.size) :
    ∃ a1 c1 W1, (Builtin.append_ #[24, 24] ty #[.slice ra n rc, .slice a m c]).run Tryz.prog W = .ok (.slice a1 (n + m) c1) W1 ∧ W1.ownsRow B 37 6 (.slice a1 (n + m) c1) (n + m) (xs ++ capsV l) ∧ Below B W W1 ∧ W.grownBy W1 (Value.slice ra n rc).ownBlock ∧ ((Value.slice a1 (n + m) c1).ownBlock = (Value.slice ra n rc).ownBlock ∨ (Value.slice a1 (n + m) c1).ownBlock = some W.heap.size) := by
  obtain ⟨a1, c1, W1, h1, h2, h3, h4⟩ := run_appE (P := Tryz.prog) 24 37 (.agg #[.int .u64 0, .int .u64 0, .int .u64 0, .int .i64 0, .int .i64 0, .bool false]) 6 48 Tryz.underlying24 infoCap rfl (by decide) (by decide) W ty B _ n xs ho a m c (capsV l) hr (capsV_one1 l) (by omega) hB
  exact ⟨a1, c1, W1, h1, h2, (Below.refl B W).grown h3 hB (fun r e => (ho.lt r e).1), h3, h4⟩
/-- a row of capabilities, null behind it: the row that was made -/
structure LRow (W W' : World) (a : Option Addr) (c m : Nat) (l : List Cp) : Prop where
  own : W'.ownsRow W.heap.size 37 6 (.slice a (m + 1) c) (m + 1) (capsV (l ++ [nullC]))
  below : Below W.heap.size W W'
def emp : Obj := .cells #[] 37
def nul : Obj := .cells nul6 37
theorem rd_grown {A C : World} {row : Option Nat} {q n : Nat} {xs : List Value} (h : Rd A (some ⟨q, 0, none⟩) n xs) (hg : A.grownBy C row) (hq : q < A.heap.size) (hne : some q ≠ row) : Rd C (some ⟨q, 0, none⟩) n xs :=
  ⟨h.1, fun hn => by
    obtain ⟨b, off, e, hl, hc⟩ := h.2 hn
    cases e
    exact ⟨q, 0, rfl, Nat.lt_of_lt_of_le hl hg.size, fun k hk => (World.cell?_of_block (hg.block q hq hne)).trans (hc k hk)⟩⟩
theorem lrow_A (W : World) (t1 t2 : TypeId) (a : Option Addr) (c m : Nat) (l : List Cp) (hr : Rd W a (m * 6) (capsV l)) (hl : m ≤ 1000) :
    ∃ a1 c1 W1 a2 c2 W2, (Builtin.append_ #[24, 24] t1 #[.slice (some ⟨W.heap.size, 0, none⟩) 0 0, .slice a m c]).run Tryz.prog (W.alloc emp) = .ok (.slice a1 m c1) W1 ∧
      (Builtin.append_ #[24, 24] t2 #[.slice a1 m c1, .slice (some ⟨W1.heap.size, 0, none⟩) 1 1]).run Tryz.prog (W1.alloc nul) = .ok (.slice a2 (m + 1) c2) W2 ∧ LRow W W2 a2 c2 m l ∧ Below W.heap.size W W1 := by
  have hb0 : Below W.heap.size W (W.alloc emp) := bAlloc (Below.refl _ _) _
  obtain ⟨a1, c1, W1, r1, o1, b1, -⟩ := capp_any (W.alloc emp) W.heap.size t1 _ 0 0 [] (own_empty W #[] rfl) a c m l (hr.below hb0) (by omega) hb0.size
  rw [Nat.zero_add] at r1 o1
  rw [List.nil_append] at o1
  have hb1 : Below W.heap.size W W1 := hb0.trans b1
  have hb2 : Below W1.heap.size W1 (W1.alloc nul) := bAlloc (Below.refl _ _) _
  have o2 := own_kp2 o1 (KP.of_below (fun _ => False) hb2) (fun _ _ => id)
  obtain ⟨a2, c2, W2, r2, o3, b2, -⟩ := capp_any (W1.alloc nul) W.heap.size t2 a1 c1 m _ o2 (some ⟨W1.heap.size, 0, none⟩) 1 1 [nullC] (rd_null W1) (by omega) (Nat.le_trans hb1.size hb2.size)
  exact ⟨a1, c1, W1, a2, c2, W2, r1, r2, ⟨by rw [capsV_app]; exact o3, (hb1.trans (hb2.mono hb1.size)).trans b2⟩, hb1⟩
theorem lrow_B (W : World) (t1 t2 : TypeId) (a : Option Addr) (c m : Nat) (l : List Cp) (hr : Rd W a (m * 6) (capsV l)) (hl : m ≤ 1000) :
    ∃ a1 c1 W1 a2 c2 W2, (Builtin.append_ #[24, 24] t1 #[.slice (some ⟨W.heap.size, 0, none⟩) 0 0, .slice a m c]).run Tryz.prog ((W.alloc emp).alloc nul) = .ok (.slice a1 m c1) W1 ∧
      (Builtin.append_ #[24, 24] t2 #[.slice a1 m c1, .slice (some ⟨W.heap.size + 1, 0, none⟩) 1 1]).run Tryz.prog W1 = .ok (.slice a2 (m + 1) c2) W2 ∧ LRow W W2 a2 c2 m l ∧ Below W.heap.size W W1 := by
  have hz : (W.alloc emp).heap.size = W.heap.size + 1 := size_alloc _ _
  have hb0 : Below W.heap.size W (W.alloc emp) := bAlloc (Below.refl _ _) _
  have hb1 : Below (W.alloc emp).heap.size (W.alloc emp) ((W.alloc emp).alloc nul) := bAlloc (Below.refl _ _) _
  have hb01 : Below W.heap.size W ((W.alloc emp).alloc nul) := hb0.trans (hb1.mono hb0.size)
  have oe := own_kp2 (own_empty W #[] rfl) (KP.of_below (fun _ => False) hb1) (fun _ _ => id)
  have hn := rd_null (W.alloc emp)
  rw [hz] at hn
  obtain ⟨a1, c1, W1, r1, o1, b1, g1, -⟩ := capp_any ((W.alloc emp).alloc nul) W.heap.size t1 _ 0 0 [] oe a c m l (hr.below hb01) (by omega) hb01.size
  rw [Nat.zero_add] at r1 o1
  rw [List.nil_append] at o1
  have hn2 := rd_grown hn g1 (by rw [size_alloc, hz]; omega) (by
    intro e
    have h8 : (Value.slice (some ⟨W.heap.size, 0, none⟩) 0 0).ownBlock = some W.heap.size := rfl
    rw [h8] at e
    have := Option.some.inj e
    omega)
  obtain ⟨a2, c2, W2, r2, o3, b2, -⟩ := capp_any W1 W.heap.size t2 a1 c1 m _ o1 (some ⟨W.heap.size + 1, 0, none⟩) 1 1 [nullC] hn2 (by omega) (Nat.le_trans hb01.size b1.size)
  exact ⟨a1, c1, W1, a2, c2, W2, r1, r2, ⟨by rw [capsV_app]; exact o3, (hb01.trans b1).trans b2⟩, hb01.trans b1⟩
theorem lrow_C (W : World) (t1 t2 : TypeId) (a : Option Addr) (c m : Nat) (l : List Cp) (hr : Rd W a (m * 6) (capsV l)) (hl : m ≤ 1000) :
    ∃ a1 c1 W1 a2 c2 W2, (Builtin.append_ #[24, 24] t1 #[.slice (some ⟨W.heap.size + 1, 0, none⟩) 0 0, .slice a m c]).run Tryz.prog ((W.alloc nul).alloc emp) = .ok (.slice a1 m c1) W1 ∧
      (Builtin.append_ #[24, 24] t2 #[.slice a1 m c1, .slice (some ⟨W.heap.size, 0, none⟩) 1 1]).run Tryz.prog W1 = .ok (.slice a2 (m + 1) c2) W2 ∧ LRow W W2 a2 c2 m l ∧ Below W.heap.size W W1 := by
  have hz : (W.alloc nul).heap.size = W.heap.size + 1 := size_alloc _ _
  have hb0 : Below W.heap.size W (W.alloc nul) := bAlloc (Below.refl _ _) _
  have hb1 : Below (W.alloc nul).heap.size (W.alloc nul) ((W.alloc nul).alloc emp) := bAlloc (Below.refl _ _) _
  have hb01 : Below W.heap.size W ((W.alloc nul).alloc emp) := hb0.trans (hb1.mono hb0.size)
  have oe := own_empty (W.alloc nul) #[] rfl
  rw [hz] at oe
  have hn := (rd_null W).below hb1
  obtain ⟨a1, c1, W1, r1, o1, b1, g1, -⟩ := capp_any ((W.alloc nul).alloc emp) (W.heap.size + 1) t1 _ 0 0 [] oe a c m l (hr.below hb01) (by omega) (by rw [size_alloc, hz]; omega)
  rw [Nat.zero_add] at r1 o1
  rw [List.nil_append] at o1
  have hn2 := rd_grown hn g1 (by rw [size_alloc, hz]; omega) (by
    intro e
    have h8 : (Value.slice (some ⟨W.heap.size + 1, 0, none⟩) 0 0).ownBlock = some (W.heap.size + 1) := rfl
    rw [h8] at e
    have := Option.some.inj e
    omega)
  obtain ⟨a2, c2, W2, r2, o3, b2, -⟩ := capp_any W1 (W.heap.size + 1) t2 a1 c1 m _ o1 (some ⟨W.heap.size, 0, none⟩) 1 1 [nullC] hn2 (by omega) (Nat.le_trans (by rw [size_alloc, hz]; omega) b1.size)
  have hw : Below W.heap.size W W1 := hb01.trans (b1.mono (Nat.le_succ _))
  exact ⟨a1, c1, W1, a2, c2, W2, r1, r2, ⟨by rw [capsV_app]; exact own_base o3 (Nat.le_succ _), hw.trans (b2.mono (Nat.le_succ _))⟩, hw⟩
end Go.Proofs.YtjefkhieihigiaaGreat
