/- The code of a text: the program's Program. -/
import Derived.Test.YtdpmihlmfephiaaGreatDoorAsR
namespace Go.Proofs.YtdpmihlmfephiaaGreatDoor
set_option linter.unusedVariables false
set_option linter.unusedSimpArgs false
open Go.Joins Go.ChangeShapes Go.WideShapes Go.ChangeAt Go.RowKit Go.Deep Go.Shelf
attribute [local go_sem] Oper.semAt_some

theorem row_block {A : World} {B : Nat} {v : Value} {k : Nat} {xs : List Value} (h : A.ownsRow B 5 1 v k xs) {g : Nat} (hg : v.ownBlock = some g) : ∃ cur, A.heap[g]? = some (.cells cur 5 (0, 0)) := by
  rcases h.2 with ⟨rfl, -⟩ | ⟨g', cap, cur, rfl, -, hgg, -⟩
  · cases hg
  · cases hg; exact ⟨cur, hgg⟩
theorem row_kept {A W : World} {B : Nat} {v : Value} {k : Nat} {xs : List Value} {row : Option Nat} (h : A.ownsRow B 5 1 v k xs) (hg : A.grownBy W row) (hr : ∀ r, row = some r → ∃ o : Go.Obj, A.heap[r]? = some o ∧ o.isCells = false) : W.ownsRow B 5 1 v k xs := by
  refine h.kept hg ?_
  cases hv : v.ownBlock with
  | none => exact .inl rfl
  | some g =>
    refine .inr fun e => ?_
    obtain ⟨o, ho, hc⟩ := hr g e.symm
    obtain ⟨cur, hcur⟩ := row_block h hv
    rw [hcur] at ho; cases ho; cases hc
theorem row_below {A W : World} {B : Nat} {v : Value} {k : Nat} {xs : List Value} (h : A.ownsRow B 5 1 v k xs) (hb : Below A.heap.size A W) : W.ownsRow B 5 1 v k xs := row_kept h (grown_of_below hb) (fun r e => by cases e)
theorem KC.row {n : Nat} {S : Nat → Prop} {A W : World} {B : Nat} {v : Value} {k : Nat} {xs : List Value} (h : A.ownsRow B 5 1 v k xs) (hg : A.grownBy W v.ownBlock) (hn : n ≤ B) (hW : n ≤ A.heap.size) : KC n S A W :=
  ⟨(Below.refl n A).grown hg hW (fun k e => Nat.le_trans hn (h.lt k e).1), fun b c t f h1 ht _ => (hg.block b (Array.getElem?_eq_some_iff.1 h1).1 (fun e => by
    obtain ⟨cur, hc⟩ := row_block h e.symm
    rw [hc] at h1; cases h1; exact ht rfl)).trans h1⟩
theorem others_row {A W : World} {B : Nat} {v : Value} {k : Nat} {xs : List Value} (h : A.ownsRow B 5 1 v k xs) (hg : A.grownBy W v.ownBlock) : KeepsOthers A W :=
  ⟨hg.size, fun b o h1 h2 => (hg.block b (Array.getElem?_eq_some_iff.1 h1).1 (fun e => by
    obtain ⟨cur, hc⟩ := row_block h e.symm
    rw [hc] at h1; cases h1; cases h2)).trans h1⟩
theorem row_other {A : World} {B : Nat} {v : Value} {k : Nat} {xs : List Value} (h : A.ownsRow B 5 1 v k xs) {b j : Nat} (hb : b < B) (u : Value) : (A.setCell ⟨b, j, none⟩ u).ownsRow B 5 1 v k xs := ownsRow_setCell_below h (a := ⟨b, j, none⟩) hb u
/-- the world of a round of Program: what is made so far -/
structure ProJ (w : World) (all : List (Nat × List UInt8)) (zb : Nat) (v : Value) (code : List UInt8) (a b : Value) (k : Nat) (W : World) : Prop where
  c0 : BoxN W w.heap.size #[v]
  row : W.ownsRow (zb + 2) 5 1 v code.length (u8B code)
  c1 : BoxN W (w.heap.size + 1) #[a]
  c2 : BoxN W (w.heap.size + 2) #[b]
  map : LabAt W (w.heap.size + 3) k (fun nm => lookN nm all 0)
  cm : BoxN W zb #[.map (some (w.heap.size + 3))]
  bel : Below w.heap.size w W
theorem BoxN.mine {A W : World} {b : Nat} {cs : Array Value} {row : Option Nat} (h : BoxN A b cs) (hg : A.grownBy W row) (hne : row ≠ some b) : BoxN W b cs := h.grown hg hne
theorem ProJ.kept {w A W : World} {all : List (Nat × List UInt8)} {zb : Nat} {v a b : Value} {code : List UInt8} {k : Nat} {row : Option Nat} (h : ProJ w all zb v code a b k A) (hz : w.heap.size + 4 ≤ zb) (hg : A.grownBy W row) (hr : ∀ r, row = some r → zb + 2 ≤ r ∧ ∃ o : Go.Obj, A.heap[r]? = some o ∧ o.isCells = false) : ProJ w all zb v code a b k W := by
  have hr' : ∀ r, row = some r → ∃ o : Go.Obj, A.heap[r]? = some o ∧ o.isCells = false := fun r e => (hr r e).2
  have hne : ∀ b, b < zb + 2 → row ≠ some b := fun b hb e => by have := (hr b e).1; omega
  exact ⟨h.c0.kept hg hr', row_kept h.row hg hr', h.c1.kept hg hr', h.c2.kept hg hr', h.map.kept hg (hne _ (by omega)), h.cm.kept hg hr', h.bel.grown hg h.bel.size (fun k e => by have := (hr k e).1; omega)⟩
theorem ProJ.below {w A W : World} {all : List (Nat × List UInt8)} {zb : Nat} {v a b : Value} {code : List UInt8} {k : Nat} (h : ProJ w all zb v code a b k A) (hz : w.heap.size + 4 ≤ zb) (hb : Below A.heap.size A W) : ProJ w all zb v code a b k W :=
  h.kept hz (grown_of_below hb) (fun r e => by cases e)
theorem ProJ.set0 {w A : World} {all : List (Nat × List UInt8)} {zb : Nat} {v a b : Value} {code : List UInt8} {k : Nat} (h : ProJ w all zb v code a b k A) (hz : w.heap.size + 4 ≤ zb) {v' : Value} {code' : List UInt8} (hv : A.ownsRow (zb + 2) 5 1 v' code'.length (u8B code')) : ProJ w all zb v' code' a b k (A.setCell ⟨w.heap.size, 0, none⟩ v') :=
  ⟨h.c0.set 0 v', row_other hv (by omega) _, h.c1.other (by omega), h.c2.other (by omega), h.map.set (by show w.heap.size + 3 ≠ w.heap.size; omega) _, h.cm.other (by omega), h.bel.setCell (by exact Nat.le_refl _) _⟩
theorem ProJ.set1 {w A : World} {all : List (Nat × List UInt8)} {zb : Nat} {v a b : Value} {code : List UInt8} {k : Nat} (h : ProJ w all zb v code a b k A) (hz : w.heap.size + 4 ≤ zb) (u : Value) : ProJ w all zb v code u b k (A.setCell ⟨w.heap.size + 1, 0, none⟩ u) :=
  ⟨h.c0.other (by omega), row_other h.row (by omega) _, h.c1.set 0 u, h.c2.other (by omega), h.map.set (by show w.heap.size + 3 ≠ w.heap.size + 1; omega) _, h.cm.other (by omega), h.bel.setCell (by show w.heap.size ≤ w.heap.size + 1; omega) _⟩
theorem ProJ.set2 {w A : World} {all : List (Nat × List UInt8)} {zb : Nat} {v a b : Value} {code : List UInt8} {k : Nat} (h : ProJ w all zb v code a b k A) (hz : w.heap.size + 4 ≤ zb) (u : Value) : ProJ w all zb v code a u k (A.setCell ⟨w.heap.size + 1 + 1, 0, none⟩ u) :=
  ⟨h.c0.other (by omega), row_other h.row (by omega) _, h.c1.other (by omega), h.c2.set 0 u, h.map.set (by show w.heap.size + 3 ≠ w.heap.size + 1 + 1; omega) _, h.cm.other (by omega), h.bel.setCell (by show w.heap.size ≤ w.heap.size + 1 + 1; omega) _⟩
theorem ProJ.app {w A W : World} {all : List (Nat × List UInt8)} {zb : Nat} {v v' a b : Value} {code code' : List UInt8} {k : Nat} (h : ProJ w all zb v code a b k A) (hz : w.heap.size + 4 ≤ zb) (hA : zb + 2 ≤ A.heap.size) (hv : W.ownsRow (zb + 2) 5 1 v' code'.length (u8B code')) (hg : A.grownBy W v.ownBlock) : ProJ w all zb v' code' a b k (W.setCell ⟨w.heap.size, 0, none⟩ v') := by
  have hl := fun g e => (h.row.lt g e).1
  have hne : ∀ b, b < zb + 2 → v.ownBlock ≠ some b := fun b hb e => by have := hl b e; omega
  have c0 := h.c0.grown hg (hne _ (by omega))
  have c1 := h.c1.grown hg (hne _ (by omega))
  have c2 := h.c2.grown hg (hne _ (by omega))
  have cm := h.cm.grown hg (hne _ (by omega))
  have mp := h.map.kept hg (hne _ (by omega))
  have bl := h.bel.grown hg h.bel.size (fun k e => by have := hl k e; omega)
  exact ⟨c0.set 0 v', row_other hv (by omega) _, c1.other (by omega), c2.other (by omega), mp.set (by show w.heap.size + 3 ≠ w.heap.size; omega) _, cm.other (by omega), bl.setCell (by exact Nat.le_refl _) _⟩
def ProI (w : World) (all : List (Nat × List UInt8)) (zb : Nat) (pre : List LX) (W : World) : Prop :=
  ∃ code v k, goN all (vals pre) [] = (code, 0, 0) ∧ code.length ≤ 4 * pre.length ∧ zb + 2 ≤ W.heap.size ∧ ProJ w all zb v code (.int .i64 0) (.int .i64 0) k W
def ProX (w : World) (all : List (Nat × List UInt8)) (zb : Nat) (c : Code) (pre : List LX) (W : World) : Prop :=
  c = .ret ∧ ∃ (n : Nat) (e : Int) (k : Nat), goN all (vals pre) [] = ([], n, e) ∧ e ≠ 0 ∧ ProJ w all zb (.slice none 0 0) [] (.int .i64 (n : Int)) (.int .i64 e) k W
theorem proI_own (w : World) (all : List (Nat × List UInt8)) (zb : Nat) (hz : w.heap.size + 4 ≤ zb) : OwnFrom (zb + 2) (ProI w all zb) := by
  rintro pre A W row ⟨code, v, k, h1, h2, h3, h4⟩ hg hr
  exact ⟨code, v, k, h1, h2, Nat.le_trans h3 hg.size, h4.kept hz hg hr⟩
theorem proX_own (w : World) (all : List (Nat × List UInt8)) (zb : Nat) (hz : w.heap.size + 4 ≤ zb) (c : Code) : OwnFrom (zb + 2) (ProX w all zb c) := by
  rintro pre A W row ⟨h1, n, e, k, h2, h3, h4⟩ hg hr
  exact ⟨h1, n, e, k, h2, h3, h4.kept hz hg hr⟩
theorem row_nil (W : World) (B : Nat) : W.ownsRow B 5 1 (.slice none 0 0) 0 [] := World.ownsRow_nil W B _ 1
theorem own_cap {W : World} {B : Nat} {e : TypeId} {a : Option Addr} {n c : Nat} {xs : List Value} (h : W.ownsRow B e 1 (.slice a n c) n xs) : n ≤ c := by
  rcases h.2 with ⟨h1, h2⟩ | ⟨g, cap, cur, h1, -, -, h2, -⟩
  · cases h1; exact Nat.le_refl _
  · cases h1; exact h2
def ProPost (P : List UInt8 × Nat × Int) (w : World) (e : Ending) (w' : World) : Prop :=
  ∃ a c, e = .returned (.tuple #[.slice a P.1.length c, .int .i64 (P.2.1 : Int), .int .i64 P.2.2]) ∧ Rd w' a P.1.length (u8B P.1) ∧ P.1.length ≤ c ∧ Below w.heap.size w w'
theorem pro_res {w W : World} {all : List (Nat × List UInt8)} {zb : Nat} {v a b : Value} {code : List UInt8} {k : Nat} (h : ProJ w all zb v code a b k W) (tmps : Array Value) (h2 : tmps[2]? = some (.pointer (some ⟨w.heap.size, 0, none⟩))) (h3 : tmps[3]? = some (.pointer (some ⟨w.heap.size + 1, 0, none⟩))) (h4 : tmps[4]? = some (.pointer (some ⟨w.heap.size + 1 + 1, 0, none⟩))) : (results Tryz.f17 tmps).run Tryz.prog W = .ok (.tuple #[v, a, b]) W := by
  have k0 := h.c0.cell 0
  have k1 := h.c1.cell 0
  have k2 : W.cell? ⟨w.heap.size + 1 + 1, 0, none⟩ = _ := h.c2.cell 0
  simp [results, Tryz.results17, go_sem, h2, h3, h4, k0, k1, k2]
theorem pro_post {w W : World} {all : List (Nat × List UInt8)} {zb : Nat} {v : Value} {n : Nat} {e : Int} {code : List UInt8} {k : Nat} (h : ProJ w all zb v code (.int .i64 (n : Int)) (.int .i64 e) k W) {D : Nat} (hz : w.heap.size + 4 ≤ zb) (hD : zb + 2 ≤ D) (hKD : W.heap[D]? = some (.deferred (some []))) : ProPost (code, n, e) w (.returned (.tuple #[v, .int .i64 (n : Int), .int .i64 e])) (W.putObj D (.deferred none)) := by
  have hk := h.kept hz (grownBy_putObj' W D (.deferred none)) (fun r e => by cases e; exact ⟨hD, _, hKD, rfl⟩)
  obtain ⟨a, c, rfl, -⟩ := own_slice hk.row
  exact ⟨a, c, rfl, Rd.of_own hk.row, own_cap hk.row, hk.bel⟩
theorem list_line {l n : Nat} {ops : Array Oper} {rest : List Oper} {o : Oper} {a : Act} {w : World} {Q : Exit → Act → World → Prop} {x : Operand} {u v : Value} (hg : o.guard = none) (ho : o.op = .field 68 x 0) (hx : a.eval x = .agg #[u, v]) (h : wpListIn (Fence.wide.inRound l) n Tryz.prog ops Q rest (a.put o.dst u) w) : wpListIn (Fence.wide.inRound l) n Tryz.prog ops Q (o :: rest) a w :=
  wpListIn_plain hg fun K hK => op_round (by unfold noDefer; rw [ho]) (by
    have hu : Tryz.prog.underlying 68 = _ := Tryz.underlying68
    have hrun : (execOp a.eval o).run Tryz.prog w = .ok (.value u) w := by
      unfold execOp
      simp only [ho, hx]
      simp [Instr.field, Sem.run_bind, run_underlying hu, go_sem]
      rfl
    unfold Oper.wp
    rw [hrun]
    exact hK _ _ h)
theorem others_below {A W : World} (h : Below A.heap.size A W) : KeepsOthers A W := ⟨h.size, fun k o hk _ => (h.block k (Array.getElem?_eq_some_iff.1 hk).1).trans hk⟩
theorem encO_lt {s : List UInt8} {y : Int × Ins} (h : parF s = some y) : encO y < 4294967296 := by
  obtain ⟨op, x⟩ := y
  obtain ⟨hok, -⟩ := (parF_iff _ _ _).1 h
  have hr : rightB op x.rd x.rs1 x.rs2 x.n = true := hok
  have := encR_lt op x.rd x.rs1 x.rs2 x.n
  unfold encR at this
  rw [if_pos hr] at this
  exact this
theorem asm_lt {all : List (Nat × List UInt8)} {s : List UInt8} {p w : Nat} (h : asmN all s p = .inr w) : w < 4294967296 := by
  unfold asmN at h
  split at h
  · split at h
    · cases h
    · split at h
      · cases h
      · split at h
        · cases h
        · rename_i hy
          cases h; exact encO_lt hy
  · split at h
    · cases h
    · rename_i hy
      cases h; exact encO_lt hy
theorem little_le (en : Nat) (h : en < 4294967296) (w : World) :
    Calls Tryz.prog 44 #[.int .u64 (en : Int), .int .i64 4] w fun e w' => ∃ a c, e = .returned (.slice a 4 c) ∧ Rd w' a 4 (u8B (le4 en)) ∧ Below w.heap.size w w' := by
  refine (little_any (en : Int) 4 w (by omega) (by omega)).mono ?_
  rintro e w' ⟨v, rfl, ho, hb⟩
  rw [le4_little] at ho
  have hl : (littleZ (en : Int) 4).length = 4 := by
    have := congrArg List.length (le4_little en)
    rw [u8B_len] at this
    unfold u8s at this
    rw [List.length_map] at this
    exact this
  rw [hl] at ho
  obtain ⟨a, c, rfl, -⟩ := own_slice ho
  exact ⟨a, c, rfl, Rd.of_own ho, hb⟩
set_option maxRecDepth 100000 in
theorem prog_long (s : List UInt8) (w : World) (hs : 4000 < s.length) (hl : s.length < 1000000) :
    Calls Tryz.prog 17 #[.string ⟨s.toArray⟩] w (ProPost ([], 0, 2) w) := by
  have hsz : (⟨s.toArray⟩ : ByteArray).size = s.length := mk_size s
  obtain ⟨n, hn⟩ : ∃ n, s.length = n := ⟨_, rfl⟩
  rw [hn] at hsz hs hl
  have hlt : (4000 : Int) < (n : Int) := by omega
  have hd : decide ((4000 : Int) < (n : Int)) = true := decide_eq_true hlt
  have hd2 : decide (4000 < n) = true := decide_eq_true hs
  clear hn
  refine (callsIn_wide (n := 9)).1 ?_
  refine callsIn_of_wp_marks Tryz.func17 rfl trivial ?_ rfl
  simp only [Tryz.ntmps17, List.size_toArray, List.length_cons, List.length_nil, Nat.reduceAdd, Nat.reduceSub, Array.replicate_succ, Array.replicate_zero, List.push_toArray, List.append_toArray, List.nil_append, List.cons_append]
  refine wpIn_wide.2 ?_
  go_wp2_with fail
  refine leaves_plain (v := .tuple #[.slice none 0 0, .int .i64 0, .int .i64 2]) (by simp [results, Tryz.results17, go_sem]) ⟨none, 0, rfl, Rd.nil _ _, Nat.le_refl _, ?_⟩
  repeat (with_reducible refine bAlloc ?_ _)
  exact Below.refl _ _
set_option maxRecDepth 100000 in
set_option maxHeartbeats 4000000 in
theorem prog_short (s : List UInt8) (w : World) (hn : NA w) (hs : s.length ≤ 4000) :
    Calls Tryz.prog 17 #[.string ⟨s.toArray⟩] w (ProPost (goN (vals (xsOf s)) (vals (xsOf s)) []) w) := by
  have hsz : (⟨s.toArray⟩ : ByteArray).size = s.length := mk_size s
  have HGA := Lib.hid (fun W (hW : NA W) => gather_any s W hW (by omega))
  have HNA := Lib.hid hn
  obtain ⟨n, hnl⟩ : ∃ n, s.length = n := ⟨_, rfl⟩
  rw [hnl] at hsz
  have hlt : ¬ (4000 : Int) < (n : Int) := by omega
  have hd : decide ((4000 : Int) < (n : Int)) = false := decide_eq_false hlt
  have hd2 : decide (4000 < n) = false := decide_eq_false (by omega)
  have HS := Lib.hid hs
  clear hnl hn hs
  refine (callsIn_wide (n := 9)).1 ?_
  refine callsIn_of_wp_marks Tryz.func17 rfl trivial ?_ rfl
  simp only [Tryz.ntmps17, List.size_toArray, List.length_cons, List.length_nil, Nat.reduceAdd, Nat.reduceSub, Array.replicate_succ, Array.replicate_zero, List.push_toArray, List.append_toArray, List.nil_append, List.cons_append]
  refine wpIn_wide.2 ?_
  go_wp2_with (first
    | (go_at_call 40; refine (HGA.out _ (((HNA.out.alloc _).alloc _).alloc _)).mono ?_; rintro e w5 ⟨rfl, ⟨k, hlab⟩, hb⟩; have HLAB := Lib.hid hlab; have HB5 := Lib.hid hb; clear hlab hb)
    | (go_at_call 41; refine (lines_any s _).mono ?_; rintro e w1 ⟨rfl, rfl⟩))
  obtain ⟨W0, hW0⟩ : ∃ W0, (w5.alloc (.cells #[.map (some (w.heap.size + 1 + 1 + 1))] 60)).alloc (.cells #[.string ⟨s.toArray⟩] 9) = W0 := ⟨_, rfl⟩
  obtain ⟨W3, hW3⟩ : ∃ W3, ((w.alloc (.cells #[.slice none 0 0] 32)).alloc (.cells #[.int .i64 0] 3)).alloc (.cells #[.int .i64 0] 25) = W3 := ⟨_, rfl⟩
  have hz3 : W3.heap.size = w.heap.size + 3 := by rw [← hW3]; simp
  have hb3 : Below w.heap.size w W3 := by rw [← hW3]; exact bAlloc (bAlloc (bAlloc (Below.refl _ _) _) _) _
  have b0 : BoxN W3 w.heap.size #[.slice none 0 0] := by rw [← hW3]; exact boxN_alloc (boxN_alloc (BoxN.new _ _ _) _) _
  have b1 : BoxN W3 (w.heap.size + 1) #[.int .i64 0] := by
    rw [← hW3]
    have h := BoxN.new (w.alloc (.cells #[.slice none 0 0] 32)) #[.int .i64 0] 3
    rw [World.size_alloc] at h
    exact boxN_alloc h _
  have b2 : BoxN W3 (w.heap.size + 2) #[.int .i64 0] := by
    rw [← hW3]
    have h := BoxN.new ((w.alloc (.cells #[.slice none 0 0] 32)).alloc (.cells #[.int .i64 0] 3)) #[.int .i64 0] 25
    rw [World.size_alloc, World.size_alloc] at h
    exact h
  rw [hW3] at HLAB HB5
  have hl3 : LabAt w5 (w.heap.size + 3) k (fun nm => lookN nm (vals (xsOf s)) 0) := by rw [← hz3]; exact HLAB.out
  have hz5 : w.heap.size + 4 ≤ w5.heap.size := hl3.lt
  have hb50 : Below w5.heap.size w5 W0 := by rw [← hW0]; exact bAlloc (bAlloc (Below.refl _ _) _) _
  have hz0 : W0.heap.size = w5.heap.size + 2 := by rw [← hW0]; simp
  have hbw0 : Below w.heap.size w W0 := hb3.trans ((HB5.out.mono hb3.size).trans (hb50.mono (by omega)))
  have hcm : BoxN W0 w5.heap.size #[.map (some (w.heap.size + 3))] := by rw [← hW0]; exact boxN_alloc (BoxN.new _ _ _) _
  have ht0 : W0.cell? ⟨w5.heap.size + 1, 0, none⟩ = some (.string ⟨s.toArray⟩) := by
    rw [← hW0]
    have h := (BoxN.new (w5.alloc (.cells #[.map (some (w.heap.size + 1 + 1 + 1))] 60)) #[.string ⟨s.toArray⟩] 9).cell 0
    rw [World.size_alloc] at h
    exact h
  have hJ0 : ProJ w (vals (xsOf s)) w5.heap.size (.slice none 0 0) [] (.int .i64 ((0 : Nat) : Int)) (.int .i64 0) k W0 :=
    ⟨boxN_below (boxN_below b0 HB5.out) hb50, row_nil _ _, boxN_below (boxN_below b1 HB5.out) hb50, boxN_below (boxN_below b2 HB5.out) hb50, hl3.below hb50, hcm, hbw0⟩
  have hsx : s.length ≤ 5000 := Nat.le_trans HS.out (by decide)
  have HST := Lib.hid (lines_stops 8 (by decide) (w5.heap.size + 1) (fun b => b = w.heap.size ∨ b = w.heap.size + 1 ∨ b = w.heap.size + 2) s hsx w HNA.out W0 hbw0 (fun b h => by rcases h with h | h | h <;> omega) ht0)
  have hall : ∀ nm y, lookN nm (vals (xsOf s)) 0 = some y → y.2 ≤ 100000 := fun nm y h => by
    have h1 := lookN_le nm y _ 0 h
    have h2 := preX_len (Lib.split s [10]) (Lib.split s [10]).length
    have h3 := split_len s [10]
    rw [vals_len] at h1
    unfold xsOf at h1
    omega
  have HALL := Lib.hid hall
  have HNM : Hid ((xsOf s).length ≤ 6000) := Lib.hid (by unfold xsOf; have h1 := preX_len (Lib.split s [10]) (Lib.split s [10]).length; have h2 := split_len s [10]; omega)
  obtain ⟨all, hxs⟩ : ∃ all, vals (xsOf s) = all := ⟨_, rfl⟩
  rw [hxs] at hJ0 HALL ⊢
  have HXS := Lib.hid hxs
  have HG0 : Hid (ProI w all w5.heap.size [] W0) := Lib.hid ⟨[], _, k, rfl, Nat.zero_le _, Nat.le_of_eq hz0.symm, hJ0⟩
  have HZ0 := Lib.hid hz0
  have hOW : OwnFrom W0.heap.size (ProI w all w5.heap.size) := by rw [hz0]; exact proI_own w all _ hz5
  have hOX : ∀ c, OwnFrom W0.heap.size (ProX w all w5.heap.size c) := fun c => by rw [hz0]; exact proX_own w all _ hz5 c
  have hz4 := hz5
  rw [hW0]
  clear hW0 hW3 hz3 hb3 b0 b1 b2 hl3 hb50 hcm ht0 hJ0 HLAB hxs hall hsx HB5
  refine (wpIn_wide (n := 9)).1 ?_
  refine wpIn_rangeFunc_ownG rfl (by decide) (gf := 78) (lb := #[.pointer (some ⟨w5.heap.size + 1, 0, none⟩)]) rfl trivial (enters_of Tryz.func78 (by kernel_rfl) rfl) HST.out (fun h k => h.trans k) (fun W l o o' hl ho hc _ => KC.putObj W l o o' (by omega) ho hc) (Below.refl _ _) (fun _ => rfl)
    (ProI w all w5.heap.size) (ProX w all w5.heap.size) hOW hOX HG0.out
    (fun x => { tmps := #[.string ⟨s.toArray⟩, undef, .pointer (some ⟨w.heap.size, 0, none⟩), .pointer (some ⟨w.heap.size + 1, 0, none⟩), .pointer (some ⟨w.heap.size + 1 + 1, 0, none⟩), .pointer (some ⟨w5.heap.size, 0, none⟩), .int .i64 (x.1.1 : Int), .string ⟨x.1.2.toArray⟩, undef, undef, undef, undef, .string ⟨s.toArray⟩, .int .i64 (n : Int), .bool false, .string ⟨s.toArray⟩, .map (some (w.heap.size + 1 + 1 + 1)), .string ⟨s.toArray⟩, .func (.func 78) #[] #[.pointer (some ⟨w5.heap.size + 1, 0, none⟩)], .int .i64 (x.1.1 : Int), .string ⟨x.1.2.toArray⟩, undef, undef, undef, undef, undef, undef, undef, undef, undef, undef, undef, undef, undef, undef, undef, undef, undef, undef, undef, undef, undef, undef, undef, undef, undef, undef, undef, undef, undef, undef, undef], defers := [] }) ?assign ?body ?done ?stop
  case assign =>
    intro l x W K hK
    unfold encX
    gi_wp2
    exact hK
  case body =>
    rintro lp pre ⟨⟨i, sd⟩, hx1, hx2, hx3⟩ W ⟨code, v, k, hgo, hcl, hsz, hJ⟩ hlt
    have hlt' : pre.length < 6000 := Nat.lt_of_lt_of_le hlt HNM.out
    have hx1' : 1 ≤ i ∧ i ≤ 100000 := hx1
    have hx2' : sd.length ≤ 5000 := hx2
    have HLN := Lib.hid (labelName_any sd W (by omega))
    have hle := labelF_eq sd
    have HGO := Lib.hid hgo
    have HVS := Lib.hid (vals_snoc pre ⟨(i, sd), hx1, hx2, hx3⟩)
    obtain ⟨va, vc, rfl, -⟩ := own_slice hJ.row
    obtain ⟨m, hm⟩ : ∃ m, code.length = m := ⟨_, rfl⟩
    rw [hm] at hJ hcl
    have HM := Lib.hid hm
    have c0 := hJ.c0.cell 0
    have c0 : W.cell? ⟨w.heap.size, 0, none⟩ = some (.slice va m vc) := c0
    have c1 := hJ.c1.cell 0
    have c2 : W.cell? ⟨w.heap.size + 1 + 1, 0, none⟩ = _ := hJ.c2.cell 0
    have f0 := hJ.c0.frozen 0
    have f1 := hJ.c1.frozen 0
    have f2 : W.frozen? ⟨w.heap.size + 1 + 1, 0, none⟩ = false := hJ.c2.frozen 0
    have cm : W.cell? ⟨w5.heap.size, 0, none⟩ = some (.map (some (w.heap.size + 1 + 1 + 1))) := hJ.cm.cell 0
    have HJ := Lib.hid hJ
    have HSZ := Lib.hid hsz
    cases hlb : labelB sd with
    | true =>
      rw [hlb] at HLN hle
      rw [if_pos rfl] at hle
      have hol := Lib.trimSuffix_le sd [58]
      obtain ⟨o, ho⟩ : ∃ o, Lib.trimSuffix sd [58] = o := ⟨_, rfl⟩
      rw [ho] at HLN hle hol
      have HLE := Lib.hid hle
      have k1 : (Instr.lookup 60 (.map (some (w.heap.size + 1 + 1 + 1))) (.string ⟨o.toArray⟩) false).run Tryz.prog W = _ := (hJ.map.look o (by omega)).2
      obtain ⟨y, hy⟩ : ∃ y, (lookN o all 0).getD (0, 0) = y := ⟨_, rfl⟩
      simp only [hy] at k1
      obtain ⟨y1, y2⟩ := y
      unfold labV at k1
      simp only [] at k1
      by_cases hyi : y1 = i
      · have hlk : (lookN o all 0).map (·.1) = some i := by
          cases hq : lookN o all 0 with
          | none => rw [hq] at hy; cases hy; omega
          | some z => rw [hq] at hy; cases hy; rw [← hyi]; rfl
        have HGN : Hid (goN all (vals pre ++ [(i, sd)]) [] = (code, 0, 0)) := Lib.hid (goN_labstep HGO.out hle hlk)
        subst hyi
        clear hgo hJ hle ho hol hlb hlt hx1' hx2' hm hy hlk
        gi_wp2_with (first
          | (refine ⟨trivial, ?_⟩; gi_at_call 42; refine (CallsIn.inRound lp (callsIn_wide.2 HLN.out)).mono ?_; rintro e w' ⟨rfl, rfl⟩)
          | (refine list_line rfl rfl rfl ?_; simp only [Act.put, List.setIfInBounds_toArray, List.set_cons_zero, List.set_cons_succ]))
        exact ⟨KeepsFrom.refl _ _, KC.refl _ _ _, code, _, k, by rw [HVS.out]; exact HGN.out, by rw [List.length_append, HM.out]; omega, HSZ.out, HM.out.symm ▸ HJ.out⟩
      · have hlk : (lookN o all 0).map (·.1) ≠ some i := by
          cases hq : lookN o all 0 with
          | none => simp
          | some z => rw [hq] at hy; cases hy; simpa using hyi
        have HGN : Hid (goN all (vals pre ++ [(i, sd)]) [] = ([], i, 51)) := Lib.hid (goN_labstop HGO.out hle hlk)
        have hyI : ¬ (y1 : Int) = (i : Int) := by omega
        have d1 : ((y1 : Int) == (i : Int)) = false := by simpa using hyI
        have d2 : ((y1 : Int) != (i : Int)) = true := by simpa using hyI
        clear hgo hJ hle ho hol hlb hlt hx1' hx2' hm hy hlk
        gi_wp2_with (first
          | (refine ⟨trivial, ?_⟩; gi_at_call 42; refine (CallsIn.inRound lp (callsIn_wide.2 HLN.out)).mono ?_; rintro e w' ⟨rfl, rfl⟩)
          | (refine list_line rfl rfl rfl ?_; simp only [Act.put, List.setIfInBounds_toArray, List.set_cons_zero, List.set_cons_succ]))
        exact ⟨(((KeepsOthers.setCell _ _ _).trans (KeepsOthers.setCell _ _ _)).trans (KeepsOthers.setCell _ _ _)).from _, rfl, i, 51, k, by rw [HVS.out]; exact HGN.out, by decide, ((HJ.out.set0 hz4 (code' := []) (row_nil _ _)).set1 hz4 _).set2 hz4 _⟩
    | false =>
      rw [hlb] at HLN hle
      rw [if_neg (by decide)] at hle
      have HLE := Lib.hid hle
      have has : ∀ w', Below W.heap.size W w' → Calls Tryz.prog 43 #[.string ⟨sd.toArray⟩, .int .i64 (m : Int), .map (some (w.heap.size + 1 + 1 + 1))] w' fun e w'' => e = .returned (.tuple #[.int .u32 ((asmW (asmN all sd m) : Nat) : Int), .int .i64 (asmE (asmN all sd m))]) ∧ Below w'.heap.size w' w'' :=
        fun w' hb => assemble_any sd m all (w.heap.size + 3) k w' (HNA.out.on (hJ.bel.trans (hb.mono hJ.bel.size))) hx2' (by omega) (hJ.map.below hb) HALL.out
      have HAS := Lib.hid (has W (Below.refl _ _))
      cases ha : asmN all sd m with
      | inl e =>
        have he := asm_err ha
        have HGN : Hid (goN all (vals pre ++ [(i, sd)]) [] = ([], i, e)) := Lib.hid (goN_insstop HGO.out hle (by rw [HM.out]; exact ha))
        rw [ha] at HAS
        unfold asmW asmE at HAS
        simp only [] at HAS
        have he0 : ¬ e = 0 := by omega
        have d1 : (e == 0) = false := by simpa using he0
        have d2 : (e != 0) = true := by simpa using he0
        clear hgo hJ hle hlb hlt hx1' hx2' hm ha he has
        gi_wp2_with (first
          | (refine ⟨trivial, ?_⟩; gi_at_call 42; refine (CallsIn.inRound lp (callsIn_wide.2 HLN.out)).mono ?_; rintro e w' ⟨rfl, rfl⟩)
          | (refine ⟨trivial, ?_⟩; gi_at_call 43; refine (CallsIn.inRound lp (callsIn_wide.2 HAS.out)).mono ?_; rintro e w1 ⟨rfl, hb⟩; have hj1 := HJ.out.below hz4 hb; have HB1 := Lib.hid hb; have HJ1 := Lib.hid hj1; have c0 := hj1.c0.cell 0; have c1 := hj1.c1.cell 0; have c2 : w1.cell? ⟨w.heap.size + 1 + 1, 0, none⟩ = _ := hj1.c2.cell 0; have f0 := hj1.c0.frozen 0; have f1 := hj1.c1.frozen 0; have f2 : w1.frozen? ⟨w.heap.size + 1 + 1, 0, none⟩ = false := hj1.c2.frozen 0; clear hb hj1))
        exact ⟨((others_below HB1.out).trans (((KeepsOthers.setCell _ _ _).trans (KeepsOthers.setCell _ _ _)).trans (KeepsOthers.setCell _ _ _))).from _, rfl, i, e, k, by rw [HVS.out]; exact HGN.out, he0, ((HJ1.out.set0 hz4 (code' := []) (row_nil _ _)).set1 hz4 _).set2 hz4 _⟩
      | inr en =>
        have hen := asm_lt ha
        have HAE : Hid (asmN all sd code.length = .inr en) := Lib.hid (by rw [HM.out]; exact ha)
        rw [ha] at HAS
        unfold asmW asmE at HAS
        simp only [] at HAS
        have HLI := Lib.hid (little_le en hen)
        have hwu : IntKind.u64.wrap (en : Int) = (en : Int) := wrap_nat en (by omega)
        clear hgo hle hlb hlt hx1' hx2' hm ha has hJ
        have HJ : Hid (ProJ w all w5.heap.size (.slice va m vc) code (.int .i64 0) (.int .i64 0) k W) := Lib.hid (HM.out.symm ▸ HJ.out)
        gi_wp2_with (first
          | (refine ⟨trivial, ?_⟩; gi_at_call 42; refine (CallsIn.inRound lp (callsIn_wide.2 HLN.out)).mono ?_; rintro e w' ⟨rfl, rfl⟩)
          | (refine ⟨trivial, ?_⟩; gi_at_call 43; refine (CallsIn.inRound lp (callsIn_wide.2 HAS.out)).mono ?_; rintro e w1 ⟨rfl, hb⟩; have hj1 := HJ.out.below hz4 hb; have HB1 := Lib.hid hb; have HJ1 := Lib.hid hj1; have c0 := hj1.c0.cell 0; clear hb hj1))
        refine region_round (S := fun _ => True) mixed (by kernel_rfl) trivial (fun hHeld => ?_)
        refine wpAnyH_take (i := 1) (oi := { dst := some 47, op := Op.move (Operand.tmp 10), type := 39, pos := "program.go:33", after := #[], guard := none }) (v := .int .u32 (en : Int)) rfl (by kernel_rfl) (by kernel_rfl) (by kernel_rfl) (fun _ _ _ h => h) (Or.inl ⟨by rfl, ?_⟩) (by assumption) ?_
        · intro W' hSw; (try dsimp only at hSw); (first | (go_simp; done) | (go_simp; rfl))
        simp only [Act.put, List.setIfInBounds_toArray, List.set_cons_zero, List.set_cons_succ]
        refine wpAnyH_take (i := 2) (oi := { dst := some 48, op := Op.convert 39 42 (Operand.tmp 47), type := 42, pos := "program.go:33", after := #[{ on := 1, ground := Ground.data }], guard := none }) (v := .int .u64 (en : Int)) rfl (by kernel_rfl) (by kernel_rfl) (by kernel_rfl) (fun _ _ _ h => h) (Or.inl ⟨by rfl, ?_⟩) (by assumption) ?_
        · intro W' hSw; (try dsimp only at hSw); (first | (go_simp; done) | (go_simp; rfl))
        simp only [Act.put, List.setIfInBounds_toArray, List.set_cons_zero, List.set_cons_succ]
        refine wpAnyH_ready (rs := [0, 3]) (by kernel_rfl) (by simp) ?_
        refine AllReadyH.cons rfl (fun K hK => ?_) (AllReadyH.cons rfl (fun K hK => ?_) AllReadyH.nil)
        · go_simp
          refine hK.out _ _ trivial (fun _ => ?_)
          clear hK K
          try simp only [Act.put, List.setIfInBounds_toArray, List.set_cons_zero, List.set_cons_succ]
          refine wpAnyH_ready (rs := [3]) (by kernel_rfl) (by simp) ?_
          refine AllReadyH.cons rfl (fun K hK => ?_) ?_
          rotate_left
          · exact AllReadyH.nil
          go_simp
          refine (HLI.out _).mono ?_; rintro e w6 ⟨la, lc, rfl, hrd, hb6⟩
          simp only []
          have HB6 : Hid (Below W.heap.size W w6) := Lib.hid ((Below.drew HB1.out).trans (hb6.mono HB1.out.size))
          have HRD := Lib.hid hrd
          have HJ6 := Lib.hid (HJ.out.below hz4 HB6.out)
          have c6 := HJ6.out.c0.cell 0
          have c6 : w6.cell? ⟨w.heap.size, 0, none⟩ = some (.slice va m vc) := c6
          clear hrd hb6
          refine hK.out _ _ trivial (fun _ => ?_)
          clear hK K
          try simp only [Act.put, List.setIfInBounds_toArray, List.set_cons_zero, List.set_cons_succ]
          refine wpAnyH_ready (rs := [4]) (by kernel_rfl) (by simp) ?_
          refine AllReadyH.cons rfl (fun K hK => ?_) ?_
          rotate_left
          · exact AllReadyH.nil
          refine step_appE 32 5 (.int .u8 0) 1 1 Tryz.underlying32 infoU8 rfl (by decide) (by decide) w6 rfl _ _ rfl (w5.heap.size + 2) (.slice va m vc) m (u8B code) rfl (HM.out ▸ HJ6.out.row) la 4 lc (u8B (le4 en)) rfl HRD.out (u8B_one _) (by omega) (Nat.le_trans hsz HB6.out.size) ?_
          intro a7 c7 w7 hown7 hg7 hob7
          have HO7 := Lib.hid hown7
          have HG7 := Lib.hid hg7
          have hbz := (HJ6.out.c0.grown hg7 (fun e => by have := (HJ6.out.row.lt _ e).1; omega))
          have q7 := hbz.cell 0
          have f7 := hbz.frozen 0
          clear hown7 hg7 hob7 hbz
          refine hK.out _ _ trivial (fun _ => ?_)
          clear hK K
          try simp only [Act.put, List.setIfInBounds_toArray, List.set_cons_zero, List.set_cons_succ]
          refine wpAnyH_ready (rs := [5]) (by kernel_rfl) (by simp) ?_
          refine AllReadyH.cons rfl (fun K hK => ?_) ?_
          rotate_left
          · exact AllReadyH.nil
          go_simp
          refine hK.out _ _ trivial (fun _ => ?_)
          clear hK K
          try simp only [Act.put, List.setIfInBounds_toArray, List.set_cons_zero, List.set_cons_succ]
          refine wpAnyH_done (by kernel_rfl) ?_ _
          simp only [OnlyN, Exit.then, Exit.inBlock]
          have hlen : (code ++ le4 en).length = m + 4 := by rw [List.length_append, HM.out]; rfl
          have hown : w7.ownsRow (w5.heap.size + 2) 5 1 (.slice a7 (m + 4) c7) (code ++ le4 en).length (u8B (code ++ le4 en)) := by rw [hlen, u8B_app]; exact HO7.out
          have hs6 : W0.heap.size ≤ w6.heap.size := Nat.le_trans (by omega) (Nat.le_trans hsz HB6.out.size)
          refine ⟨((others_below HB6.out).trans ((others_row HJ6.out.row HG7.out).trans (KeepsOthers.setCell _ _ _))).from _, (KC.of_below HB6.out HJ.out.bel.size).trans ((KC.row HJ6.out.row HG7.out (by omega) HJ6.out.bel.size).trans (KC.set w7 w.heap.size 0 _ (Nat.le_refl _) (Or.inl rfl))), code ++ le4 en, _, k, ?_, by rw [hlen, List.length_append]; show m + 4 ≤ 4 * (pre.length + 1); omega, ?_, HJ6.out.app hz4 (by omega) hown HG7.out⟩
          · rw [HVS.out]; exact goN_insstep HGO.out HLE.out HAE.out
          · show w5.heap.size + 2 ≤ (w7.setCell _ _).heap.size
            rw [show (w7.setCell ⟨w.heap.size, 0, none⟩ (.slice a7 (m + 4) c7)).heap.size = w7.heap.size from Array.size_modify]
            exact Nat.le_trans (by omega) HG7.out.size
        · go_simp
          refine (HLI.out _).mono ?_; rintro e w6 ⟨la, lc, rfl, hrd, hb6⟩
          simp only []
          have HB6 : Hid (Below W.heap.size W w6) := Lib.hid ((Below.drew HB1.out).trans (hb6.mono HB1.out.size))
          have HRD := Lib.hid hrd
          have HJ6 := Lib.hid (HJ.out.below hz4 HB6.out)
          have c6 := HJ6.out.c0.cell 0
          have c6 : w6.cell? ⟨w.heap.size, 0, none⟩ = some (.slice va m vc) := c6
          clear hrd hb6
          refine hK.out _ _ trivial (fun _ => ?_)
          clear hK K
          try simp only [Act.put, List.setIfInBounds_toArray, List.set_cons_zero, List.set_cons_succ]
          refine wpAnyH_ready (rs := [0]) (by kernel_rfl) (by simp) ?_
          refine AllReadyH.cons rfl (fun K hK => ?_) ?_
          rotate_left
          · exact AllReadyH.nil
          go_simp
          refine hK.out _ _ trivial (fun _ => ?_)
          clear hK K
          try simp only [Act.put, List.setIfInBounds_toArray, List.set_cons_zero, List.set_cons_succ]
          refine wpAnyH_ready (rs := [4]) (by kernel_rfl) (by simp) ?_
          refine AllReadyH.cons rfl (fun K hK => ?_) ?_
          rotate_left
          · exact AllReadyH.nil
          refine step_appE 32 5 (.int .u8 0) 1 1 Tryz.underlying32 infoU8 rfl (by decide) (by decide) w6 rfl _ _ rfl (w5.heap.size + 2) (.slice va m vc) m (u8B code) rfl (HM.out ▸ HJ6.out.row) la 4 lc (u8B (le4 en)) rfl HRD.out (u8B_one _) (by omega) (Nat.le_trans hsz HB6.out.size) ?_
          intro a7 c7 w7 hown7 hg7 hob7
          have HO7 := Lib.hid hown7
          have HG7 := Lib.hid hg7
          have hbz := (HJ6.out.c0.grown hg7 (fun e => by have := (HJ6.out.row.lt _ e).1; omega))
          have q7 := hbz.cell 0
          have f7 := hbz.frozen 0
          clear hown7 hg7 hob7 hbz
          refine hK.out _ _ trivial (fun _ => ?_)
          clear hK K
          try simp only [Act.put, List.setIfInBounds_toArray, List.set_cons_zero, List.set_cons_succ]
          refine wpAnyH_ready (rs := [5]) (by kernel_rfl) (by simp) ?_
          refine AllReadyH.cons rfl (fun K hK => ?_) ?_
          rotate_left
          · exact AllReadyH.nil
          go_simp
          refine hK.out _ _ trivial (fun _ => ?_)
          clear hK K
          try simp only [Act.put, List.setIfInBounds_toArray, List.set_cons_zero, List.set_cons_succ]
          refine wpAnyH_done (by kernel_rfl) ?_ _
          simp only [OnlyN, Exit.then, Exit.inBlock]
          have hlen : (code ++ le4 en).length = m + 4 := by rw [List.length_append, HM.out]; rfl
          have hown : w7.ownsRow (w5.heap.size + 2) 5 1 (.slice a7 (m + 4) c7) (code ++ le4 en).length (u8B (code ++ le4 en)) := by rw [hlen, u8B_app]; exact HO7.out
          have hs6 : W0.heap.size ≤ w6.heap.size := Nat.le_trans (by omega) (Nat.le_trans hsz HB6.out.size)
          refine ⟨((others_below HB6.out).trans ((others_row HJ6.out.row HG7.out).trans (KeepsOthers.setCell _ _ _))).from _, (KC.of_below HB6.out HJ.out.bel.size).trans ((KC.row HJ6.out.row HG7.out (by omega) HJ6.out.bel.size).trans (KC.set w7 w.heap.size 0 _ (Nat.le_refl _) (Or.inl rfl))), code ++ le4 en, _, k, ?_, by rw [hlen, List.length_append]; show m + 4 ≤ 4 * (pre.length + 1); omega, ?_, HJ6.out.app hz4 (by omega) hown HG7.out⟩
          · rw [HVS.out]; exact goN_insstep HGO.out HLE.out HAE.out
          · show w5.heap.size + 2 ≤ (w7.setCell _ _).heap.size
            rw [show (w7.setCell ⟨w.heap.size, 0, none⟩ (.slice a7 (m + 4) c7)).heap.size = w7.heap.size from Array.size_modify]
            exact Nat.le_trans (by omega) HG7.out.size
  case done =>
    rintro D ys W hD rfl ⟨code, v, k, hgo, -, hsz, hJ⟩ hKD
    rw [HXS.out] at hgo
    have HGO := Lib.hid hgo
    obtain ⟨va, vc, rfl, -⟩ := own_slice hJ.row
    have c0 := hJ.c0.cell 0
    have c0 : W.cell? ⟨w.heap.size, 0, none⟩ = some (.slice va code.length vc) := c0
    have c1 := hJ.c1.cell 0
    have c2 : W.cell? ⟨w.heap.size + 1 + 1, 0, none⟩ = _ := hJ.c2.cell 0
    have f0 := hJ.c0.frozen 0
    have f1 := hJ.c1.frozen 0
    have f2 : W.frozen? ⟨w.heap.size + 1 + 1, 0, none⟩ = false := hJ.c2.frozen 0
    have HJ := Lib.hid hJ
    have HKD := Lib.hid hKD
    clear hKD hgo
    go_wp2_with fail
    have hj := ((hJ.set0 hz4 hJ.row).set1 hz4 (.int .i64 ((0 : Nat) : Int))).set2 hz4 (.int .i64 0)
    have hk : (((W.setCell ⟨w.heap.size, 0, none⟩ (.slice va code.length vc)).setCell ⟨w.heap.size + 1, 0, none⟩ (.int .i64 ((0 : Nat) : Int))).setCell ⟨w.heap.size + 1 + 1, 0, none⟩ (.int .i64 0)).heap[D]? = some (.deferred (some [])) :=
      (Below.heap_setCell _ _ _ _ (show D ≠ w.heap.size + 1 + 1 by omega)).trans ((Below.heap_setCell _ _ _ _ (show D ≠ w.heap.size + 1 by omega)).trans ((Below.heap_setCell _ _ _ _ (show D ≠ w.heap.size by omega)).trans HKD.out))
    refine ⟨by simp, .inl ⟨D, _, rfl, run_takeDeferred hk, ?_⟩⟩
    have hD' : w5.heap.size + 2 ≤ D := by omega
    exact leaves_plain (pro_res (hj.kept hz4 (grownBy_putObj' _ D (.deferred none)) (fun r e => by cases e; exact ⟨hD', _, hk, rfl⟩)) _ rfl rfl rfl) (by rw [HXS.out, HGO.out]; exact pro_post hj hz4 hD' hk)
  case stop =>
    rintro D c pre W hD hpre ⟨rfl, n', e, k, hgo, he, hj⟩ hKD
    obtain ⟨r, hr⟩ := hpre
    have hfin : goN all all [] = ([], n', e) := by
      have h1 : all = vals pre ++ vals r := by rw [← HXS.out, ← hr]; unfold vals; rw [List.map_append]
      have h2 := goN_err (vals r) _ _ _ _ _ he hgo
      rw [← h1] at h2
      exact h2
    rw [hfin]
    have HJ := Lib.hid hj
    have HKD := Lib.hid hKD
    clear hj hKD hgo hfin hr
    gi_wp2
    refine ⟨by simp, .inl ⟨D, _, rfl, run_takeDeferred HKD.out, ?_⟩⟩
    have hD' : w5.heap.size + 2 ≤ D := by omega
    exact leaves_plain (pro_res (HJ.out.kept hz4 (grownBy_putObj' _ D (.deferred none)) (fun r e => by cases e; exact ⟨hD', _, HKD.out, rfl⟩)) _ rfl rfl rfl) (pro_post HJ.out hz4 hD' HKD.out)
theorem program_any (s : List UInt8) (w : World) (hn : NA w) (hl : s.length < 1000000) :
    Calls Tryz.prog 17 #[.string ⟨s.toArray⟩] w (ProPost (progX s) w) := by
  unfold progX
  by_cases h : 4000 < s.length
  · rw [if_pos h]; exact prog_long s w h hl
  · rw [if_neg h]
    have := prog_short s w hn (by omega)
    rw [vals_lines s (by omega)] at this
    exact this
end Go.Proofs.YtdpmihlmfephiaaGreatDoor
