/- What the reader reads of a segment: its contract. -/
import Derived.Test.YtidnojjhchmmgaaCeL
import Derived.Deep.RegionHeld3
import Derived.Deep.RegionLaw
import Derived.Deep.RegionWith
import Derived.Deep.Cut
import Derived.BigRegion
namespace Go.Proofs.Ytidnojjhchmmgaa
set_option linter.unusedVariables false
set_option linter.unusedSimpArgs false
open Go.Joins Go.ChangeShapes Go.WideShapes Go.ChangeAt Go.RowKit Go.Deep

theorem step_appE {P : Program} (sl el : TypeId) (z : Value) (k bytes : Nat) (hu : P.underlying sl = some (.slice el)) (hinfo : (P.info? el).map (fun i => (i.zero, i.size, i.bytes)) = some (some z, k, bytes)) (hzs : z.cells.size = k) (hk : 0 < k) (hby : bytes ≤ 1000)
    (w : World) {ops : Array Oper} {o : Oper} {a : Act} {K : Act → World → Prop} {Q : Exit → Act → World → Prop} {E : Prop} (hgd : o.guard = none) (s x : Operand) (ho : o.op = .call { callee := .builtin .append, args := #[s, x], argTypes := #[sl, sl] })
    (B : Nat) (v : Value) (n : Nat) (xs : List Value) (hs : a.eval s = v) (hown : w.ownsRow B el k v n xs) (am : Option Addr) (m c : Nat) (ys : List Value) (hx : a.eval x = .slice am m c) (hr : Rd w am (m * k) ys) (hone : ∀ u ∈ ys, u.oneCell' = true) (hnm : n + m ≤ 1000000) (hB : B ≤ w.heap.size)
    (h : ∀ a' c' w', w'.ownsRow B el k (.slice a' (n + m) c') (n + m) (xs ++ ys) → w.grownBy w' v.ownBlock → ((Value.slice a' (n + m) c').ownBlock = v.ownBlock ∨ (Value.slice a' (n + m) c').ownBlock = some w.heap.size) → K (a.put o.dst (.slice a' (n + m) c')) w') :
    if Region.wanted o (yielded ops a.tmps) = true then Oper.wp P o a w K Q else E := by
  have hw : Region.wanted o (yielded ops a.tmps) = true := by simp [Region.wanted, hgd]
  rw [if_pos hw]
  obtain ⟨a', c', w', hrun, h2, h3, h4⟩ := run_appE sl el z k bytes hu hinfo hzs hk hby w o.type B v n xs hown am m c ys hr hone hnm hB
  unfold Oper.wp execOp
  simp only [ho, resolve, invoke, builtin, Sem.run_bind, Sem.run_pure, Result.andThen_ok, List.map_toArray, List.map_cons, List.map_nil, hs, hx, hrun]
  exact h a' c' w' h2 h3 h4
theorem infoU8' : (Try.prog.info? 5).map (fun i => (i.zero, i.size, i.bytes)) = some (some (.int .u8 0), 1, 1) := by kernel_rfl
theorem u8v_one (l : List UInt8) : ∀ u ∈ u8v l, u.oneCell' = true := fun u hu => by
  obtain ⟨b, -, rfl⟩ := List.mem_map.1 hu
  rfl
theorem RdAt.drew {base R : Nat} {W : World} {s : St} (h : RdAt base R W s) : RdAt base R W.drew s := ⟨h.lo, h.box, h.len⟩
theorem BytesIn.rd {base : Nat} {W : World} {a : Option Addr} {l : List UInt8} (h : BytesIn base W a l) : Rd W a (l.length * 1) (u8v l) := by rw [Nat.mul_one]; exact h.1
/-- bytes that lie in a block of P -/
def NewB (P : Nat → Prop) (W : World) (a : Option Addr) (l : List UInt8) : Prop := Rd W a l.length (u8v l) ∧ (0 < l.length → ∃ b off, a = some ⟨b, off, none⟩ ∧ P b)
theorem NewB.kp {P : Nat → Prop} {n : Nat} {S : Nat → Prop} {W W' : World} {a : Option Addr} {l : List UInt8} (h : NewB P W a l) (hk : KP n S W W') (hn : W.heap.size ≤ n) (hS : ∀ b, P b → b < W.heap.size → ¬ S b) : NewB P W' a l :=
  ⟨hk.rd h.1 fun b off h0 e => by
    obtain ⟨b', off', e', hl⟩ := h.2 h0
    obtain ⟨b2, off2, e2, hl2, -⟩ := h.1.2 h0
    rw [e] at e'; cases e'
    rw [e] at e2; cases e2
    exact ⟨by omega, hS _ hl hl2⟩, h.2⟩
theorem NewB.mono {P P' : Nat → Prop} {W : World} {a : Option Addr} {l : List UInt8} (h : NewB P W a l) (hR : ∀ b, b < W.heap.size → P b → P' b) : NewB P' W a l :=
  ⟨h.1, fun h0 => by
    obtain ⟨b, off, e, hl⟩ := h.2 h0
    obtain ⟨b2, off2, e2, hl2, -⟩ := h.1.2 h0
    rw [e] at e2; cases e2
    exact ⟨b, off, e, hR b hl2 hl⟩⟩
theorem newB_of_own {B : Nat} {W : World} {a : Option Addr} {n c : Nat} {l : List UInt8} {e : TypeId} (h : W.ownsRow B e 1 (.slice a n c) n (u8v l)) (hn : l.length = n) : NewB (fun b => B ≤ b) W a l := by
  subst hn
  refine ⟨Rd.of_own h, fun h0 => ?_⟩
  rcases h.2 with ⟨-, e⟩ | ⟨g, cap, cur, e, hB, -⟩
  · omega
  · cases e
    exact ⟨g, 0, rfl, hB⟩
def segP (s : St) : (Int × Int × Int × List UInt8) × St :=
  let a := numP 4 s; let b := numP 4 a.2; let c := numP 1 b.2; let d := numP 4 c.2; let e := takeP d.1 d.2
  (((a.1 : Int), (b.1 : Int), (c.1 : Int), e.1), e.2)
end Go.Proofs.Ytidnojjhchmmgaa
