/- DlPlays: two states side by side, the program's and the document's. -/
import Derived.Test.YtfneikphgmjfbaaDlZ
namespace Go.Proofs.Ytfneikphgmjfbaa
set_option linter.unusedVariables false
set_option linter.unusedSimpArgs false
open Go.Joins Go.ChangeShapes Go.WideShapes Go.ChangeAt Go.RowKit Go.Deep

/-- two states in two boxes -/
structure PlAt (w wr : World) (P Q : Nat) (s t : St) (a1 : Option Addr) (n1 c1 : Nat) (a2 : Option Addr) (n2 c2 : Nat) (b1 : Option Addr) (m1 d1 : Nat) (b2 : Option Addr) (m2 d2 : Nat) : Prop where
  bs : BoxS wr P (.slice a1 n1 c1) (.slice a2 n2 c2)
  bt : BoxS wr Q (.slice b1 m1 d1) (.slice b2 m2 d2)
  ne : P < Q ∧ w.heap.size ≤ P
  n1 : s.ld.length = n1
  n2 : s.op.length = n2
  m1 : t.ld.length = m1
  m2 : t.op.length = m2
  rs : RdSt wr a1 a2 s
  rt : RdSt wr b1 b2 t
  bel : Below w.heap.size w wr
theorem PlAt.below {w wr w' : World} {P Q : Nat} {s t : St} {a1 a2 b1 b2 : Option Addr} {n1 c1 n2 c2 m1 d1 m2 d2 : Nat} (h : PlAt w wr P Q s t a1 n1 c1 a2 n2 c2 b1 m1 d1 b2 m2 d2) (hb : Below wr.heap.size wr w') : PlAt w w' P Q s t a1 n1 c1 a2 n2 c2 b1 m1 d1 b2 m2 d2 :=
  ⟨h.bs.below hb, h.bt.below hb, h.ne, h.n1, h.n2, h.m1, h.m2, h.rs.below hb, h.rt.below hb, bTrans h.bel hb⟩
theorem PlAt.putQ {w wr : World} {P Q : Nat} {s t : St} {a1 a2 b1 b2 : Option Addr} {n1 c1 n2 c2 m1 d1 m2 d2 : Nat} (h : PlAt w wr P Q s t a1 n1 c1 a2 n2 c2 b1 m1 d1 b2 m2 d2) (u : St) (e1 : Option Addr) (p1 f1 : Nat) (e2 : Option Addr) (p2 f2 : Nat) (h1 : u.ld.length = p1) (h2 : u.op.length = p2) (hr : RdSt wr e1 e2 u) :
    PlAt w ((wr.setCell ⟨Q, 0, none⟩ (.slice e1 p1 f1)).setCell ⟨Q, 1, none⟩ (.slice e2 p2 f2)) P Q s u a1 n1 c1 a2 n2 c2 e1 p1 f1 e2 p2 f2 := by
  have hne := h.ne
  exact ⟨(h.bs.other (by omega)).other (by omega), (h.bt.set0 _).set1 _, hne, h.n1, h.n2, h1, h2, h.rs.box2 h.bt, hr.box2 h.bt, (h.bel.setCell (by show w.heap.size ≤ Q; omega) _).setCell (by show w.heap.size ≤ Q; omega) _⟩
theorem PlAt.putP {w wr : World} {P Q : Nat} {s t : St} {a1 a2 b1 b2 : Option Addr} {n1 c1 n2 c2 m1 d1 m2 d2 : Nat} (h : PlAt w wr P Q s t a1 n1 c1 a2 n2 c2 b1 m1 d1 b2 m2 d2) (u : St) (e1 : Option Addr) (p1 f1 : Nat) (e2 : Option Addr) (p2 f2 : Nat) (h1 : u.ld.length = p1) (h2 : u.op.length = p2) (hr : RdSt wr e1 e2 u) :
    PlAt w ((wr.setCell ⟨P, 0, none⟩ (.slice e1 p1 f1)).setCell ⟨P, 1, none⟩ (.slice e2 p2 f2)) P Q u t e1 p1 f1 e2 p2 f2 b1 m1 d1 b2 m2 d2 := by
  have hne := h.ne
  exact ⟨(h.bs.set0 _).set1 _, (h.bt.other (by omega)).other (by omega), hne, h1, h2, h.m1, h.m2, hr.box2 h.bs, h.rt.box2 h.bs, (h.bel.setCell (by show w.heap.size ≤ P; omega) _).setCell (by show w.heap.size ≤ P; omega) _⟩
theorem Ope.start {l : List Obj} {root : List UInt8} {s : St} {b : List Nat} {x : Int} (h : Ope l ⟨[], []⟩ root s b x) : (x = 130 ∧ s = ⟨[], []⟩) ∨ (x = 0 ∧ Good l root s ∧ s.op.length = 1) := by
  rcases h with ⟨-, rfl, -, rfl⟩ | ⟨p, b0, hB, rfl, rfl, rfl⟩
  · exact Or.inl ⟨rfl, rfl⟩
  · refine Or.inr ⟨rfl, ?_, rfl⟩
    have hbf : b0.filter (fun k => !([] : List Nat).contains k) = b0 := filter_all fun k _ => by simp
    simp only [hbf, List.nil_append]
    exact Good.begun hB
theorem Ope.blen {l : List Obj} {root name : List UInt8} {s s' : St} {b : List Nat} {x : Int} (hg : Good l root s) (h : Ope l s name s' b x) : b.length ≤ l.length := by
  rcases h with ⟨-, -, rfl, -⟩ | ⟨p, b0, hB, rfl, -, -⟩
  · simp
  · obtain ⟨-, -, hnd, -, hlt, -⟩ := hB.facts
    exact Nat.le_trans (List.length_filter_le _ _) (nodup_le _ _ hnd hlt)
theorem Clo.blen {l : List Obj} {root name : List UInt8} {s s' : St} {b : List Nat} {x : Int} (hg : Good l root s) (h : Clo l s name s' b x) : b.length ≤ l.length := by
  rcases h with ⟨-, -, rfl, -⟩ | ⟨-, -, rfl, -⟩
  · simp
  · rw [List.length_reverse]
    exact Nat.le_trans (List.length_filter_le _ _) hg.le
set_option maxRecDepth 100000 in
set_option maxHeartbeats 1000000 in
theorem plays_no (a : Option Addr) (l : List Obj) (c : Nat) (root : List UInt8) (b : Option Addr) (ops : List (Bool × List UInt8)) (d : Nat) (w : World) (hl : RdO w a l) (hnd : ∀ o ∈ l, o.needs.length ≤ maxLen) (hm : l.length ≤ maxLen) (hpm : ops.length ≤ maxLen) (h : shortB l 12 = false ∨ 40 < ops.length) :
    Calls Try.prog 3 #[.slice a l.length c, .string ⟨root.toArray⟩, .slice b ops.length d] w fun e w' => e = .returned (.bool true) ∧ Below w.heap.size w w' := by
  have HL := Lib.hid hl
  have HSH := Lib.hid (fun W (hW : RdO W a l) => short_any a l c 12 W hW hm (by omega) hnd)
  obtain ⟨sh, hsh⟩ : ∃ sh, shortB l 12 = sh := ⟨_, rfl⟩
  rw [hsh] at HSH h
  clear hl hnd hm hsh
  unfold maxLen at hpm
  obtain ⟨m, hlm⟩ : ∃ m, l.length = m := ⟨_, rfl⟩
  obtain ⟨n, hn⟩ : ∃ n, ops.length = n := ⟨_, rfl⟩
  rw [hlm] at HSH ⊢
  rw [hn] at h hpm ⊢
  clear hlm hn
  go_enter Try.func3, Try.ntmps3
  go_wp2_with fail
  refine (dawake_any _).mono ?_; rintro e w1 ⟨rfl, hb1⟩
  have B1 := Lib.hid hb1
  clear hb1
  go_wp2_with fail
  refine (HSH.out _ (HL.out.below B1.out)).mono ?_; rintro e w2 ⟨rfl, rfl⟩
  cases sh with
  | false =>
    clear h
    go_wp2_with fail
    go_ret
    exact ⟨rfl, B1.out⟩
  | true =>
    have h40 : 40 < n := by rcases h with h | h; cases h; exact h
    have d40 : decide ((40 : Int) < (n : Int)) = true := decide_eq_true (by omega)
    clear h
    go_wp2_with fail
    go_ret
    exact ⟨rfl, B1.out⟩
end Go.Proofs.Ytfneikphgmjfbaa
