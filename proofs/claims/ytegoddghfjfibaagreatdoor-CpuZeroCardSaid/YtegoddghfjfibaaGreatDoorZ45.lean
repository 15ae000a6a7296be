/- BoA -/
import Derived.Test.YtegoddghfjfibaaGreatDoorZ28
import Derived.Test.YtegoddghfjfibaaGreatDoorZ43
import Derived.Test.YtegoddghfjfibaaGreatDoorZ44
import Derived.StillTailTactics
import Derived.Deep.Cut
import Derived.BigFrame
namespace Go.Proofs.YtegoddghfjfibaaGreatDoor
set_option linter.unusedVariables false
set_option linter.unusedSimpArgs false
open Go.Joins Go.ChangeShapes Go.WideShapes Go.ChangeAt Go.RowKit Go.Deep

structure Pt where
  to_ : Int
  c : Cp
def ptC (p : Pt) : List Value := .int .i64 p.to_ :: capC p.c
theorem flatE_get {α : Type} {f : α → List Value} {k : Nat} (hf : ∀ x, (f x).length = k) (l : List α) (i : Nat) (hi : i < l.length) (j : Nat) (hj : j < k) : (l.flatMap f)[i * k + j]? = (f l[i])[j]? := by
  induction l generalizing i with
  | nil => exact absurd hi (by simp)
  | cons a r ih =>
    rw [List.flatMap_cons]
    cases i with
    | zero =>
      rw [Nat.zero_mul, Nat.zero_add, List.getElem?_append_left (by rw [hf]; exact hj)]
      rfl
    | succ i =>
      rw [List.getElem?_append_right (by rw [hf, Nat.add_mul, Nat.one_mul]; omega), hf, show (i + 1) * k + j - k = i * k + j by rw [Nat.add_mul, Nat.one_mul]; omega]
      exact ih i (by simpa using hi)
def RdPt (w : World) (a : Option Addr) (l : List Pt) : Prop := Rd w a (l.length * 7) (l.flatMap ptC)
theorem RdPt.at_ {w : World} {a : Option Addr} {l : List Pt} (h : RdPt w a l) {i : Nat} (hi : i < l.length) : ∃ g off, a = some ⟨g, off, none⟩ ∧ g < w.heap.size ∧ w.cell? ⟨g, off + i * 7, none⟩ = some (.int .i64 l[i].to_) ∧ w.rangeAt g (off + i * 7 + 1) (capC l[i].c) := by
  obtain ⟨g, off, e, hl, hc⟩ := h.2 (by omega)
  have hj : ∀ j, j < 7 → w.cell? ⟨g, off + i * 7 + j, none⟩ = (ptC l[i])[j]? := fun j hj => by
    rw [Nat.add_assoc, hc (i * 7 + j) (by omega)]
    exact flatE_get (k := 7) (fun x => rfl) l i hi j hj
  refine ⟨g, off, e, hl, hj 0 (by decide), fun j v hv => ?_⟩
  have hj6 : j < 6 := (List.getElem?_eq_some_iff.1 hv).1
  rw [show off + i * 7 + 1 + j = off + i * 7 + (j + 1) by omega, hj (j + 1) (by omega)]
  exact hv
/-- two machines alike, each with its memory -/
structure BothAt (N : Nat) (W : World) (A B M R : Nat) (F G : Nat → Prop) (mm : Mm) (pc : Cp) (rs : List Cp) : Prop where
  own : Own1 W N F M mm
  rma : RmAt W R G mm
  ma : McAt W A M pc rs
  mb : McAt W B R pc rs
  gn : ∀ b, G b → N ≤ b
  fg : ∀ b, F b → ¬ G b
  fa : ¬ F A
  ga : ¬ G A
  fb : ¬ F B
  gb : ¬ G B
  ab : A ≠ B
  na : N ≤ A
  nb : N ≤ B
  fit : ∀ c ∈ rs, FitC c
theorem BothAt.below {N : Nat} {W W' : World} {A B M R : Nat} {F G : Nat → Prop} {mm : Mm} {pc : Cp} {rs : List Cp} (h : BothAt N W A B M R F G mm pc rs) (hb : Below W.heap.size W W') : BothAt N W' A B M R F G mm pc rs :=
  ⟨h.own.below hb, h.rma.below hb, h.ma.below hb, h.mb.below hb, h.gn, h.fg, h.fa, h.ga, h.fb, h.gb, h.ab, h.na, h.nb, h.fit⟩
theorem BothAt.set2 {N : Nat} {W W2 : World} {A B M R : Nat} {F G : Nat → Prop} {mm : Mm} {pc : Cp} {rs : List Cp} (h : BothAt N W A B M R F G mm pc rs) (i : Nat) (hi : i < rs.length) (c : Cp) (hc : FitC c) (hb : Below (W.setCells A (6 + i * 6) (capC c)).heap.size (W.setCells A (6 + i * 6) (capC c)) W2) :
    BothAt N (W2.setCells B (6 + i * 6) (capC c)) A B M R F G mm pc (rs.set i c) := by
  have k1 : KP W.heap.size (fun b => b = A) W (W.setCells A (6 + i * 6) (capC c)) := kp_setCells (S := fun b => b = A) A (Or.inr rfl) _ _ W (KP.refl _ _ _)
  have k2 : KP W.heap.size (fun b => b = A) W W2 := k1.below hb k1.size
  have k3 : KP W.heap.size (fun b => b = A ∨ b = B) W (W2.setCells B (6 + i * 6) (capC c)) := kp_setCells (S := fun b => b = A ∨ b = B) B (Or.inr (Or.inr rfl)) _ _ W2 (k2.mono (Nat.le_refl _) (fun b _ e => Or.inl e))
  have kB : KP W2.heap.size (fun b => b = B) W2 (W2.setCells B (6 + i * 6) (capC c)) := kp_setCells (S := fun b => b = B) B (Or.inr rfl) _ _ W2 (KP.refl _ _ _)
  have ma2 := (h.ma.setReg i hi c).below hb
  have mb2 := h.mb.kp k2 h.mb.lt (fun e => h.ab e.symm)
  exact ⟨(h.own.beside (G := fun b => b = A ∨ b = B) (G' := fun b => b = A ∨ b = B) ⟨fun b e => Or.inl e, k3⟩ (fun b hF e => by rcases e with e | e; exact h.fa (e ▸ hF); exact h.fb (e ▸ hF))).1,
    h.rma.kp k3 (Nat.le_refl _) (fun b hG e => by rcases e with e | e; exact h.ga (e ▸ hG); exact h.gb (e ▸ hG)),
    ma2.kp kB ma2.lt (fun e => h.ab e), mb2.setReg i hi c, h.gn, h.fg, h.fa, h.ga, h.fb, h.gb, h.ab, h.na, h.nb, fun d hd => by
      rcases List.mem_or_eq_of_mem_set hd with h1 | h1
      · exact h.fit d h1
      · rw [h1]; exact hc⟩
theorem BothAt.store {N : Nat} {W W3 W4 : World} {A B M R : Nat} {F G F' : Nat → Prop} {mm mm' : Mm} {pc : Cp} {rs : List Cp} (h : BothAt N W A B M R F G mm pc rs) (h1 : Own1 W3 N F' M mm') (mv : Moves W W3 F F') (h2 : RmAt W4 R (FN G W3 W4) mm') (k : KP W3.heap.size G W3 W4) :
    BothAt N W4 A B M R F' (FN G W3 W4) mm' pc rs ∧ Below N W W4 := by
  have zA := h.ma.lt
  have zB := h.mb.lt
  have z3 := mv.kp.size
  have na := h.na
  have hd : ∀ b, F' b → ¬ G b := fun b hb hg => by
    rcases mv.sub b hb with h3 | h3
    · exact h.fg b h3 hg
    · have := h.rma.lt b hg; omega
  have hsub : ∀ b, FN G W3 W4 b → G b ∨ W3.heap.size ≤ b := fun b hb => by
    rcases hb with h3 | h3
    · exact Or.inl h3
    · exact Or.inr h3.1
  have mA := h.ma.kp mv.kp zA h.fa
  have mB := h.mb.kp mv.kp zB h.fb
  refine ⟨⟨(h1.beside (G := G) (G' := FN G W3 W4) ⟨hsub, k⟩ hd).1, h2, mA.kp k mA.lt h.ga, mB.kp k mB.lt h.gb, fun b hb => ?_, fun b hb hg => ?_, fun hb => ?_, fun hb => ?_, fun hb => ?_, fun hb => ?_, h.ab, h.na, h.nb, h.fit⟩, (mv.belowN h.own).trans (k.to_below (m := N) (by omega) (fun b hb hg => by have := h.gn b hg; omega))⟩
  · rcases hsub b hb with h3 | h3
    · exact h.gn b h3
    · omega
  · rcases hsub b hg with h3 | h3
    · exact hd b hb h3
    · have := h1.lt b hb; omega
  · rcases mv.sub A hb with h3 | h3
    · exact h.fa h3
    · omega
  · rcases hsub A hb with h3 | h3
    · exact h.ga h3
    · omega
  · rcases mv.sub B hb with h3 | h3
    · exact h.fb h3
    · omega
  · rcases hsub B hb with h3 | h3
    · exact h.gb h3
    · omega
/-- an instruction as it is handed in -/
structure InsZ where
  o : Int
  d : Int
  a : Int
  c : Int
  n : Int
def insC (x : InsZ) : List Value := [.int .i64 x.o, .int .i64 x.d, .int .i64 x.a, .int .i64 x.c, .int .i64 x.n]
def RdIn (w : World) (a : Option Addr) (l : List InsZ) : Prop := Rd w a (l.length * 5) (l.flatMap insC)
theorem RdIn.at_ {w : World} {a : Option Addr} {l : List InsZ} (h : RdIn w a l) {i : Nat} (hi : i < l.length) : ∃ g off, a = some ⟨g, off, none⟩ ∧ g < w.heap.size ∧ w.cell? ⟨g, off + i * 5, none⟩ = some (.int .i64 l[i].o) ∧ w.cell? ⟨g, off + i * 5 + 1, none⟩ = some (.int .i64 l[i].d) ∧ w.cell? ⟨g, off + i * 5 + 2, none⟩ = some (.int .i64 l[i].a) ∧ w.cell? ⟨g, off + i * 5 + 3, none⟩ = some (.int .i64 l[i].c) ∧ w.cell? ⟨g, off + i * 5 + 4, none⟩ = some (.int .i64 l[i].n) := by
  obtain ⟨g, off, e, hl, hc⟩ := h.2 (by omega)
  have hj : ∀ j, j < 5 → w.cell? ⟨g, off + i * 5 + j, none⟩ = (insC l[i])[j]? := fun j hj => by
    rw [Nat.add_assoc, hc (i * 5 + j) (by omega)]
    exact flatE_get (k := 5) (fun x => rfl) l i hi j hj
  exact ⟨g, off, e, hl, hj 0 (by decide), hj 1 (by decide), hj 2 (by decide), hj 3 (by decide), hj 4 (by decide)⟩
/-- two memories alike, ahead of the machines; a box -/
structure PreAt (N : Nat) (W : World) (X M R : Nat) (F G : Nat → Prop) (mm : Mm) (cs : Array Value) : Prop where
  own : Own1 W N F M mm
  rma : RmAt W R G mm
  gn : ∀ b, G b → N ≤ b
  fg : ∀ b, F b → ¬ G b
  box : BoxN W X cs
  fx : ¬ F X
  gx : ¬ G X
theorem PreAt.below {N : Nat} {W W' : World} {X M R : Nat} {F G : Nat → Prop} {mm : Mm} {cs : Array Value} (h : PreAt N W X M R F G mm cs) (hb : Below W.heap.size W W') : PreAt N W' X M R F G mm cs :=
  ⟨h.own.below hb, h.rma.below hb, h.gn, h.fg, boxN_below h.box hb, h.fx, h.gx⟩
theorem PreAt.store {N : Nat} {W W3 W4 : World} {X M R : Nat} {F G F' : Nat → Prop} {mm mm' : Mm} {cs : Array Value} (hN : N ≤ W.heap.size) (h : PreAt N W X M R F G mm cs) (h1 : Own1 W3 N F' M mm') (mv : Moves W W3 F F') (h2 : RmAt W4 R (FN G W3 W4) mm') (k : KP W3.heap.size G W3 W4) :
    PreAt N W4 X M R F' (FN G W3 W4) mm' cs ∧ Below N W W4 := by
  have zX := h.box.lt
  have z3 := mv.kp.size
  have hd : ∀ b, F' b → ¬ G b := fun b hb hg => by
    rcases mv.sub b hb with h3 | h3
    · exact h.fg b h3 hg
    · have := h.rma.lt b hg; omega
  have hsub : ∀ b, FN G W3 W4 b → G b ∨ W3.heap.size ≤ b := fun b hb => by
    rcases hb with h3 | h3
    · exact Or.inl h3
    · exact Or.inr h3.1
  have bX := h.box.kp mv.kp zX h.fx
  refine ⟨⟨(h1.beside (G := G) (G' := FN G W3 W4) ⟨hsub, k⟩ hd).1, h2, fun b hb => ?_, fun b hb hg => ?_, bX.kp k bX.lt h.gx, fun hb => ?_, fun hb => ?_⟩, (mv.belowN h.own).trans (k.to_below (m := N) (by omega) (fun b hb hg => by have := h.gn b hg; omega))⟩
  · rcases hsub b hb with h3 | h3
    · exact h.gn b h3
    · omega
  · rcases hsub b hg with h3 | h3
    · exact hd b hb h3
    · have := h1.lt b hb; omega
  · rcases mv.sub X hb with h3 | h3
    · exact h.fx h3
    · omega
  · rcases hsub X hb with h3 | h3
    · exact h.gx h3
    · omega
/-! What they are. -/
def mm7 : Mm := (mapF (emptyM 16) 0 16).1
def codeS (s : Mm × Nat) (x : InsZ) : Mm × Nat := ((storeF s.1 ((4 * s.2 : Nat) : Int) 4 ((Is.encR x.o x.d x.a x.c x.n : Nat) : Int)).1, s.2 + 1)
def codeF (xs : List InsZ) : Mm × Nat := xs.foldl codeS (mm7, 0)
theorem codeF_len (xs : List InsZ) : ∀ s : Mm × Nat, (xs.foldl codeS s).2 = s.2 + xs.length := by
  induction xs with
  | nil => intro s; rfl
  | cons x r ih => intro s; rw [List.foldl_cons, ih]; unfold codeS; rw [List.length_cons]; simp only []; omega
theorem codeF_snoc (l : List InsZ) (k : Nat) (h : k < l.length) : (codeF (l.take (k + 1))).1 = (storeF (codeF (l.take k)).1 ((4 * k : Nat) : Int) 4 ((Is.encR l[k].o l[k].d l[k].a l[k].c l[k].n : Nat) : Int)).1 := by
  unfold codeF
  rw [List.take_succ_eq_append_getElem h, List.foldl_append]
  have := codeF_len (l.take k) (mm7, 0)
  rw [List.length_take, Nat.min_eq_left (Nat.le_of_lt h), Nat.zero_add] at this
  show (storeF (List.foldl codeS (mm7, 0) (List.take k l)).1 ((4 * (List.foldl codeS (mm7, 0) (List.take k l)).2 : Nat) : Int) 4 ((Is.encR l[k].o l[k].d l[k].a l[k].c l[k].n : Nat) : Int)).1 = _
  rw [this]
def putS (s : Mm × List Cp) (p : Pt) : Mm × List Cp := if p.to_ < 32 then (s.1, s.2.set p.to_.toNat p.c) else ((storeC s.1 ((1024 + 32 * p.to_.toNat : Nat) : Int) p.c).1, s.2)
def bothF (xs : List InsZ) (l : List Pt) : Mm × List Cp := l.foldl putS ((codeF xs).1, List.replicate 32 nullC)
theorem bothF_snoc (xs : List InsZ) (l : List Pt) (k : Nat) (h : k < l.length) : bothF xs (l.take (k + 1)) = putS (bothF xs (l.take k)) l[k] := by
  unfold bothF
  rw [List.take_succ_eq_append_getElem h, List.foldl_append]
  rfl
def okP (p : Pt) : Bool := rightB p.c && (decide (1 ≤ p.to_) && decide (p.to_ ≤ 95))
def okB (pc : Cp) (xs : List InsZ) (l : List Pt) : Bool := rightB pc && (decide (xs.length ≤ 64) && (decide (l.length ≤ 40) && l.all okP))
theorem okB_no {pc : Cp} {xs : List InsZ} {l : List Pt} {k : Nat} (hk : k < l.length) (h : okP l[k] = false) : okB pc xs l = false := by
  unfold okB
  have : l.all okP = false := by
    rw [List.all_eq_false]
    exact ⟨l[k], List.getElem_mem hk, by rw [h]; decide⟩
  rw [this]
  simp
def NoBoth (e : Ending) : Prop := e = .returned (.tuple #[.pointer none, .pointer none])
set_option maxRecDepth 100000 in
set_option maxHeartbeats 16000000 in
theorem both7_any (W : World) (pc : Cp) (xa : Option Addr) (xcap : Nat) (xs : List InsZ) (pa : Option Addr) (pcap : Nat) (l : List Pt) (hx : RdIn W xa xs) (hmx : xs.length < 9223372036854775808) (hp : RdPt W pa l) (hm : l.length < 9223372036854775808) (hfp : FitC pc) (hfl : ∀ p ∈ l, FitC p.c) :
    Calls Tryz.prog 10 #[.agg (capC pc).toArray, .slice xa xs.length xcap, .slice pa l.length pcap] W fun e W' => Below W.heap.size W W' ∧ ((okB pc xs l = false ∧ NoBoth e) ∨ (okB pc xs l = true ∧ ∃ A B M R F G mm rs, e = .returned (.tuple #[.pointer (some ⟨A, 0, none⟩), .pointer (some ⟨B, 0, none⟩)]) ∧ BothAt W.heap.size W' A B M R F G mm pc rs ∧ (mm, rs) = bothF xs l)) := by
  have HPX := Lib.hid hx
  obtain ⟨nx, hnx⟩ : ∃ n, xs.length = n := ⟨_, rfl⟩
  have HNX := Lib.hid hnx
  rw [hnx] at hmx ⊢
  have HMXX := Lib.hid hmx
  clear hx hnx hmx
  have HP := Lib.hid hp
  have HFP := Lib.hid hfp
  have HFL := Lib.hid hfl
  have CR := Lib.hid (fun w => right_any pc w)
  have CN := Lib.hid (fun w => snew_any 16 (by decide) w)
  have CRN := Lib.hid (fun w => rnew_any 16 w)
  obtain ⟨n, hn⟩ : ∃ n, l.length = n := ⟨_, rfl⟩
  have HN := Lib.hid hn
  rw [hn] at hm ⊢
  obtain ⟨q, hq⟩ : ∃ q, rightB pc = q := ⟨_, rfl⟩
  rw [hq] at CR
  have HQ := Lib.hid hq
  obtain ⟨OK, hOK⟩ : ∃ OK, okB pc xs l = OK := ⟨_, rfl⟩
  have HOK := Lib.hid hOK
  rw [hOK]
  clear hOK
  have HMX := Lib.hid hm
  have CMN := Lib.hid (fun M w => mnew_any M pc w)
  have CRM := Lib.hid (fun M w => rmnew_any M pc w)
  obtain ⟨cb, ct, ca, cp, cy, cg⟩ := pc
  rw [show (capC ⟨cb, ct, ca, cp, cy, cg⟩).toArray = #[.int .u64 cb, .int .u64 ct, .int .u64 ca, .int .i64 cp, .int .i64 cy, .bool cg] from rfl] at CR CMN CRM ⊢
  clear hp hfp hfl hn hm hq
  go_enter Tryz.func10, Tryz.ntmps10
  go_wp2_with fail
  refine (CR.out _).mono ?_; rintro e W1 ⟨rfl, hb⟩
  have B1 := Lib.hid (bTrans (bAlloc (Below.refl _ _) _) hb)
  have X1 := Lib.hid (boxN_below (BoxN.new W #[.int .u64 cb, .int .u64 ct, .int .u64 ca, .int .i64 cp, .int .i64 cy, .bool cg] 24) hb)
  obtain ⟨X, hX⟩ : ∃ X, W.heap.size = X := ⟨_, rfl⟩
  rw [hX] at X1 B1 ⊢
  have HX := Lib.hid hX
  clear hb hX CR
  go_wp2_with fail
  refine (CN.out W1).mono ?_; rintro e W2 ⟨M, F, rfl, h2, hb⟩
  have hx1 : X ≤ W1.heap.size := by rw [← HX.out]; exact B1.out.size
  have O2 := Lib.hid (show Own1 W2 X F M (emptyM 16) from ⟨h2.mem, fun q hq => Nat.le_trans hx1 (h2.ge q hq), Nat.le_trans hx1 h2.sz⟩)
  have B2 := Lib.hid (B1.out.trans (hb.mono hx1))
  have HFX : Hid (¬ F X) := Lib.hid (fun h => by have := h2.ge X h; have := X1.out.lt; omega)
  have X2 := Lib.hid (boxN_below X1.out hb)
  clear hb h2 hx1 CN X1 B1
  go_wp2_with fail
  refine (CRN.out W2).mono ?_; rintro e W3 (⟨h0, -⟩ | ⟨-, R, rfl, hR, hr, hb⟩)
  · exact absurd h0 (by decide)
  have hx2 : X ≤ W2.heap.size := by rw [← HX.out]; exact B2.out.size
  have O3 := Lib.hid (O2.out.below hb)
  have R3 := Lib.hid (show RmAt W3 R (fun q => W2.heap.size ≤ q ∧ q < W3.heap.size) (emptyM 16) from hr)
  have B3 := Lib.hid (B2.out.trans (hb.mono hx2))
  have X3 := Lib.hid (boxN_below X2.out hb)
  have HZ23 : Hid (W2.heap.size ≤ W3.heap.size ∧ X < W2.heap.size ∧ ∀ b, F b → b < W2.heap.size) := Lib.hid ⟨hb.size, X2.out.lt, O2.out.lt⟩
  clear hb hr hR hx2 CRN X2 B2 O2
  cases q with
  | false =>
    go_wp2_with fail
    go_ret2
    exact ⟨by rw [HX.out]; exact B3.out, Or.inl ⟨by rw [← HOK.out]; unfold okB; rw [HQ.out]; rfl, rfl⟩⟩
  | true =>
  by_cases g64 : 64 < nx
  · have d1 : decide ((64 : Int) < (nx : Int)) = true := decide_eq_true (by omega)
    have HG64 := Lib.hid g64
    clear g64
    go_wp2_with fail
    go_ret2
    exact ⟨by rw [HX.out]; exact B3.out, Or.inl ⟨by rw [← HOK.out]; unfold okB; rw [HNX.out, decide_eq_false (show ¬ nx ≤ 64 by have := HG64.out; omega)]; simp, rfl⟩⟩
  have d0 : decide ((64 : Int) < (nx : Int)) = false := decide_eq_false (by omega)
  have HN64 := Lib.hid g64
  clear g64
  by_cases g60 : 40 < n
  · have d1 : decide ((40 : Int) < (n : Int)) = true := decide_eq_true (by omega)
    have HG40 := Lib.hid g60
    clear g60
    go_wp2_with fail
    go_ret2
    exact ⟨by rw [HX.out]; exact B3.out, Or.inl ⟨by rw [← HOK.out]; unfold okB; rw [HN.out, decide_eq_false (show ¬ n ≤ 40 by have := HG40.out; omega)]; simp, rfl⟩⟩
  have d1 : decide ((40 : Int) < (n : Int)) = false := decide_eq_false (by omega)
  have HN60 := Lib.hid g60
  have C := Lib.hid (smap_any W3 X M F (emptyM 16) O3.out 0 16 (by decide) (by decide) (by decide) (by decide))
  clear g60
  go_wp2_with fail
  refine C.out.mono ?_; rintro e W4 ⟨rfl, F1, h4, mv⟩
  have hx3 : X ≤ W3.heap.size := by rw [← HX.out]; exact B3.out.size
  have O4 := Lib.hid h4
  have R4 := Lib.hid (R3.out.kp mv.kp (Nat.le_refl _) (fun b hb hF => by have := HZ23.out.2.2 b hF; omega))
  have B4 := Lib.hid (B3.out.trans ((mv.belowN O3.out).mono (Nat.le_refl _)))
  have X4 := Lib.hid (X3.out.kp mv.kp X3.out.lt HFX.out)
  have X3z := Lib.hid X3.out.lt
  have HFX4 := HFX
  have HF1 : Hid ((∀ b, F1 b → F b ∨ W3.heap.size ≤ b) ∧ ∀ b, F1 b → b < W4.heap.size) := Lib.hid ⟨mv.sub, h4.lt⟩
  have HZ34 : Hid (W3.heap.size ≤ W4.heap.size ∧ X ≤ W3.heap.size) := Lib.hid ⟨mv.kp.size, hx3⟩
  have C := Lib.hid (rmap_any W4 R _ (emptyM 16) R4.out 0 16 (by decide) (by decide) (by decide) (by decide))
  clear h4 mv hx3 R3 B3 X3 O3 HFX
  go_wp2_with fail
  refine C.out.mono ?_; rintro e W5 ⟨rfl, hr5, hk5⟩
  have hx4 : X ≤ W4.heap.size := by have := HZ34.out; omega
  have dj : ∀ b, F1 b → ¬ (W2.heap.size ≤ b ∧ b < W3.heap.size) := fun b hb hg => by
    rcases HF1.out.1 b hb with h1 | h1
    · have := HZ23.out.2.2 b h1; omega
    · omega
  have X5 := Lib.hid (X4.out.kp hk5 X4.out.lt (fun h => by have := HZ23.out.2.1; have := h.1; omega))
  have hsub5 : ∀ b, FN (fun q => W2.heap.size ≤ q ∧ q < W3.heap.size) W4 W5 b → (W2.heap.size ≤ b ∧ b < W3.heap.size) ∨ W4.heap.size ≤ b := fun b hb => by
    rcases hb with h1 | h1
    · exact Or.inl h1
    · exact Or.inr h1.1
  have O5 := Lib.hid (O4.out.beside (G := fun q => W2.heap.size ≤ q ∧ q < W3.heap.size) (G' := FN (fun q => W2.heap.size ≤ q ∧ q < W3.heap.size) W4 W5) ⟨hsub5, hk5⟩ dj).1
  have B5 := Lib.hid (B4.out.trans ((hk5.to_below (m := X) (by omega) (fun b hb hg => by have := HZ23.out.2.1; have := hg.1; omega))))
  obtain ⟨G, hG⟩ : ∃ G, FN (fun q => W2.heap.size ≤ q ∧ q < W3.heap.size) W4 W5 = G := ⟨_, rfl⟩
  rw [hG] at hr5 hsub5
  have R5 := Lib.hid hr5
  have HGX4 : Hid (¬ G X) := Lib.hid (fun h => by
    have := HZ23.out.2.1
    have := X4.out.lt
    rcases hsub5 X h with h1 | h1
    · omega
    · omega)
  have HGN : Hid (∀ b, G b → X ≤ b) := Lib.hid (fun b hb => by
    have := HZ23.out.2.1
    rcases hsub5 b hb with h1 | h1
    · omega
    · omega)
  have HFG : Hid (∀ b, F1 b → ¬ G b) := Lib.hid (fun b hb hg => by
    rcases hsub5 b hg with h1 | h1
    · exact dj b hb h1
    · have := HF1.out.2 b hb; omega)
  obtain ⟨mm, hmm⟩ : ∃ mm, (mapF (emptyM 16) 0 16).1 = mm := ⟨_, rfl⟩
  have HMM : Hid (mm = (codeF (xs.take 0)).1) := Lib.hid (by rw [← hmm]; rfl)
  rw [hmm] at O5 R5
  have HP5 : Hid (PreAt X W5 X M R F1 G mm #[.int .u64 cb, .int .u64 ct, .int .u64 ca, .int .i64 cp, .int .i64 cy, .bool cg]) := Lib.hid ⟨O5.out, R5.out, HGN.out, HFG.out, X5.out, fun h => by
    rcases HF1.out.1 X h with h1 | h1
    · exact HFX4.out h1
    · have := X3z.out; omega, fun h => HGX4.out h⟩
  clear hG hr5 hk5 hsub5 dj hx4 hmm X4 R4 O4 B4 C HF1 HZ23 HZ34 O5 R5 X5 HGN HFG HFX4 HGX4 X3z
  go_wp2_with fail
  go_loopw [13, 14, 15] (fun i v14 v15 wr => ∃ (k : Nat) (F' G' : Nat → Prop) (m : Mm), i = .int .i64 (k : Int) ∧ k ≤ nx ∧ Hid (PreAt X wr X M R F' G' m #[.int .u64 cb, .int .u64 ct, .int .u64 ca, .int .i64 cp, .int .i64 cy, .bool cg]) ∧ Hid (Below X W wr) ∧ Hid (m = (codeF (xs.take k)).1)) (fun i _ _ _ => nx - (intOf i).toNat)
  case atStart => exact ⟨0, F1, G, mm, rfl, Nat.zero_le _, HP5, B5, HMM⟩
  case round =>
    clear HP5 B5 HMM
    obtain ⟨k, F, G, m, rfl, hk, HS, HB, HMF⟩ := hrel
    by_cases hlt : k < nx
    · have hkl : k < xs.length := by rw [HNX.out]; exact hlt
      have hbW : Below W.heap.size W wr := by rw [HX.out]; exact HB.out
      obtain ⟨g, off, hge, hgl, y0, y1, y2, y3, y4⟩ := RdIn.at_ (show RdIn wr xa xs from HPX.out.below hbW) hkl
      have hnx := codeF_snoc xs k hkl
      rw [← HMF.out] at hnx
      obtain ⟨⟨io, id_, ia, ic, in_⟩, hpe⟩ : ∃ p, xs[k] = p := ⟨_, rfl⟩
      rw [hpe] at y0 y1 y2 y3 y4 hnx
      simp only [] at y0 y1 y2 y3 y4 hnx
      have hel := Is.encR_lt io id_ ia ic in_
      have CE := Lib.hid (fun w => Is.rencode_any io id_ ia ic in_ w)
      unfold Is.instV at CE
      obtain ⟨ev, hev⟩ : ∃ ev, Is.encR io id_ ia ic in_ = ev := ⟨_, rfl⟩
      rw [hev] at hnx hel CE
      obtain ⟨ee, hee⟩ : ∃ ee, Is.encE io id_ ia ic in_ = ee := ⟨_, rfl⟩
      rw [hee] at CE
      have HNXT := Lib.hid hnx
      have HEL := Lib.hid hel
      have kk0 : (0 : Int) ≤ (k : Int) := by omega
      have kk1 : (k : Int) < (nx : Int) := by omega
      have hd1 : decide ((k : Int) < (nx : Int)) = true := decide_eq_true kk1
      have HLT := Lib.hid hlt
      have h64 := HN64.out
      obtain ⟨x, hx⟩ : ∃ x : Nat, 4 * k = x := ⟨_, rfl⟩
      have u1 : IntKind.i64.wrap (4 * (k : Int)) = (x : Int) := by rw [IntKind.wrap_i64]; omega
      have u2 : IntKind.u64.wrap (x : Int) = (x : Int) := by rw [IntKind.wrap_u64]; omega
      have u3 : IntKind.u64.wrap (ev : Int) = (ev : Int) := by rw [IntKind.wrap_u64]; omega
      have HXL := Lib.hid (show x < 18446744073709551616 by omega)
      have HE0 := Lib.hid (show (0 : Int) ≤ (ev : Int) by omega)
      have HE1 := Lib.hid (show (ev : Int) < 18446744073709551616 by omega)
      rw [hx] at HNXT
      subst hge
      clear hpe hev hee hnx hel hkl hlt hk hgl hbW h64 hx
      go_wp2_with fail
      refine (CE.out _).mono ?_; rintro e w2 ⟨rfl, hb⟩
      have S2 := Lib.hid (HS.out.below hb)
      have B2 := Lib.hid (HB.out.trans (hb.mono (by rw [← HX.out]; exact HB.out.size)))
      have C := Lib.hid (sstore_any w2 X M F m S2.out.own x 4 (ev : Int) HXL.out HE0.out HE1.out)
      clear hb HS HB y0 y1 y2 y3 y4 CE
      go_wp2_with fail
      refine C.out.mono ?_; rintro e w3 ⟨rfl, F', hown, mv⟩
      have HMV := Lib.hid mv
      have HOW := Lib.hid hown
      have R3 := Lib.hid (S2.out.rma.kp mv.kp (Nat.le_refl _) (fun b hb hF => S2.out.fg b hF hb))
      have C := Lib.hid (rstore_any w3 R G m R3.out x 4 (ev : Int) HXL.out HE0.out HE1.out)
      clear hown mv R3
      go_wp2_with fail
      refine C.out.mono ?_; rintro e w4 ⟨rfl, hr, hk⟩
      have hs := S2.out.store (by rw [← HX.out]; exact B2.out.size) HOW.out HMV.out hr hk
      have S6 := Lib.hid hs.1
      have B6 := Lib.hid (B2.out.trans (hs.2.mono (Nat.le_refl _)))
      have NM : Hid ((storeF m (x : Int) 4 (ev : Int)).1 = (codeF (xs.take (k + 1))).1) := Lib.hid HNXT.out.symm
      clear hs hr hk C HMV HOW S2 B2
      have hlt := HLT.out
      have h64 := HN64.out
      clear HE0 HE1 u1 u2 u3
      go_wp2_with fail
      go_roundw
      case rel => exact ⟨k + 1, F', _, _, by go_num, by omega, S6, B6, NM⟩
      case measure => simp [intOf]; omega
    · obtain rfl : k = nx := by omega
      have hd1 : decide ((k : Int) < (k : Int)) = false := by simp
      have hd2 : decide (k < k) = false := by simp
      have hfin := HMF.out
      rw [List.take_of_length_le (by rw [HNX.out]; exact Nat.le_refl _)] at hfin
      have HMC := Lib.hid hfin
      obtain ⟨W5, hW5⟩ : ∃ w, wr = w := ⟨_, rfl⟩
      rw [hW5] at HS HB
      obtain ⟨mm, hmm⟩ : ∃ m', m = m' := ⟨_, rfl⟩
      rw [hmm] at HS HMC
      obtain ⟨F1, hF1⟩ : ∃ f, F = f := ⟨_, rfl⟩
      rw [hF1] at HS
      have O5 := Lib.hid HS.out.own
      have R5 := Lib.hid HS.out.rma
      have X5 := Lib.hid HS.out.box
      have B5 := HB
      have HGN := Lib.hid HS.out.gn
      have HFG := Lib.hid HS.out.fg
      have HMM : Hid ((mm, List.replicate 32 nullC) = bothF xs (l.take 0)) := Lib.hid (by rw [HMC.out]; rfl)
      rw [hW5]
      obtain ⟨⟨x0, x1, x2, x3, x4, x5⟩, -⟩ := boxN6 X5.out
      clear hlt hk hfin hW5 hmm hF1 HS HB HMF HMC
      go_wp2_with fail
      refine (CMN.out M W5).mono ?_; rintro e W6 ⟨A, rfl, hA, hma, hb⟩
      have O6 := Lib.hid (O5.out.below hb)
      have R6 := Lib.hid (R5.out.below hb)
      have B6 := Lib.hid (B5.out.trans (hb.mono (by rw [← HX.out]; exact B5.out.size)))
      have X6 := Lib.hid (boxN_below X5.out hb)
      have MA6 := Lib.hid hma
      have HA : Hid (W5.heap.size ≤ A ∧ ¬ F1 A ∧ ¬ G A ∧ X ≤ A) := Lib.hid ⟨hA, fun h => by have := O5.out.lt A h; omega, fun h => by have := R5.out.lt A h; omega, by have := B5.out.size; have := HX.out; omega⟩
      clear hb hA hma O5 R5 B5 X5 CMN x0 x1 x2 x3 x4 x5
      obtain ⟨⟨x0, x1, x2, x3, x4, x5⟩, -⟩ := boxN6 X6.out
      go_wp2_with fail
      refine (CRM.out R W6).mono ?_; rintro e W7 ⟨B, rfl, hB, hmb, hb⟩
      have H7 : Hid (BothAt X W7 A B M R F1 G mm ⟨cb, ct, ca, cp, cy, cg⟩ (List.replicate 32 nullC)) := Lib.hid (by
        have z1 := MA6.out.lt
        have z2 := B6.out.size
        have z3 := HX.out
        exact ⟨O6.out.below hb, R6.out.below hb, MA6.out.below hb, hmb, HGN.out, HFG.out, HA.out.2.1, HA.out.2.2.1, fun h => by have := O6.out.lt B h; omega, fun h => by have := R6.out.lt B h; omega, by omega, HA.out.2.2.2, by omega, fun c hc => by
          rw [List.eq_of_mem_replicate hc]
          exact ⟨by decide, by decide, by decide, by decide, by decide, by decide⟩⟩)
      have B7 := Lib.hid (B6.out.trans (hb.mono (by rw [← HX.out]; exact B6.out.size)))
      clear hb hB hmb O6 R6 B6 X6 MA6 HA HGN HFG CRM x0 x1 x2 x3 x4 x5
      go_wp2_with fail
      go_loopw [18, 19, 20] (fun i v19 v20 wr => ∃ (k : Nat) (F' G' : Nat → Prop) (m : Mm) (rs : List Cp), i = .int .i64 (k : Int) ∧ k ≤ n ∧ Hid (BothAt X wr A B M R F' G' m ⟨cb, ct, ca, cp, cy, cg⟩ rs) ∧ Hid (Below X W wr) ∧ Hid ((m, rs) = bothF xs (l.take k)) ∧ Hid ((l.take k).all okP = true)) (fun i _ _ _ => n - (intOf i).toNat)
      case atStart => exact ⟨0, F1, G, mm, _, rfl, Nat.zero_le _, H7, B7, HMM, Lib.hid rfl⟩
      case round =>
        clear H7 B7 HMM
        obtain ⟨k, F, G, m, rs, rfl, hk, HS, HB, HMF, HALL⟩ := hrel
        by_cases hlt : k < n
        · have hkl : k < l.length := by rw [HN.out]; exact hlt
          have hbW : Below W.heap.size W wr := by rw [HX.out]; exact HB.out
          obtain ⟨g, off, hge, hgl, hto, hrg⟩ := RdPt.at_ (show RdPt wr pa l from HP.out.below hbW) hkl
          have hfit := HFL.out l[k] (List.getElem_mem hkl)
          obtain ⟨g', off', hge', hgl', -⟩ := HP.out.at_ hkl
          have hnx := bothF_snoc xs l k hkl
          have hnok : okP l[k] = false → OK = false := fun h => by rw [← HOK.out]; exact okB_no hkl h
          have hall1 : okP l[k] = true → (l.take (k + 1)).all okP = true := fun h => by
            rw [List.take_succ_eq_append_getElem hkl, List.all_append, HALL.out, List.all_cons, h]; rfl
          obtain ⟨⟨to_, c⟩, hpe⟩ : ∃ p, l[k] = p := ⟨_, rfl⟩
          rw [hpe] at hto hrg hfit hnx hnok hall1
          unfold okP at hnok
          simp only [] at hnok
          have hok1 : okP ⟨to_, c⟩ = (rightB c && (decide (1 ≤ to_) && decide (to_ ≤ 95))) := rfl
          rw [hok1] at hall1
          clear hok1
          rw [← HMF.out] at hnx
          have HNX := Lib.hid hnx
          clear hnx
          simp only [] at hto hrg hfit
          have CR := Lib.hid (fun w => right_any c w)
          obtain ⟨r, hr⟩ : ∃ r, rightB c = r := ⟨_, rfl⟩
          rw [hr] at CR hnok hall1
          have HNOK := Lib.hid hnok
          have HALL1 := Lib.hid hall1
          clear hnok hall1
          have HGX : Hid (g < X) := Lib.hid (by
            rw [hge] at hge'
            cases hge'
            rw [← HX.out]; exact hgl')
          have HFT := Lib.hid hfit
          obtain ⟨c0, c1, c2, c3, c4, c5⟩ := range6 hrg
          have HRG := Lib.hid hrg
          have HTO := Lib.hid hto
          obtain ⟨eb, et, ea, ep, ey, eg⟩ := c
          rw [show (capC ⟨eb, et, ea, ep, ey, eg⟩).toArray = #[.int .u64 eb, .int .u64 et, .int .u64 ea, .int .i64 ep, .int .i64 ey, .bool eg] from rfl] at CR
          simp only [] at c0 c1 c2 c3 c4 c5
          have kk0 : (0 : Int) ≤ (k : Int) := by omega
          have kk1 : (k : Int) < (n : Int) := by omega
          have hd1 : decide ((k : Int) < (n : Int)) = true := decide_eq_true kk1
          have HLT := Lib.hid hlt
          subst hge
          clear hfit hge' hgl' hpe hr hkl hlt hk hgl hbW hrg
          go_wp2_with fail
          refine (CR.out _).mono ?_; rintro e w2 ⟨rfl, hb⟩
          have S2 := Lib.hid (HS.out.below hb)
          have B2 := Lib.hid (HB.out.trans (hb.mono (by rw [← HX.out]; exact HB.out.size)))
          have hto2 := (hb.cell (heap_lt_of_cell HTO.out)).trans HTO.out
          have hrg2 : w2.rangeAt g (off + k * 7 + 1) (capC ⟨eb, et, ea, ep, ey, eg⟩) := fun j v hv => (hb.cell (heap_lt_of_cell (HRG.out j v hv))).trans (HRG.out j v hv)
          have HRG2 := Lib.hid hrg2
          clear hb HS HB hto c0 c1 c2 c3 c4 c5 HRG HTO CR
          obtain ⟨c0, c1, c2, c3, c4, c5⟩ := range6 hrg2
          simp only [] at c0 c1 c2 c3 c4 c5
          clear hrg2
          cases r with
          | false =>
            go_wp2_with fail
            go_ret2
            exact ⟨by rw [HX.out]; exact B2.out, Or.inl ⟨HNOK.out rfl, rfl⟩⟩
          | true =>
          by_cases t1 : to_ < 1
          · have e1 : decide (to_ < 1) = true := decide_eq_true t1
            have HT1 := Lib.hid t1
            clear t1
            go_wp2_with fail
            go_ret2
            exact ⟨by rw [HX.out]; exact B2.out, Or.inl ⟨HNOK.out (by rw [decide_eq_false (show ¬ 1 ≤ to_ by have := HT1.out; omega)]; rfl), rfl⟩⟩
          have e1 : decide (to_ < 1) = false := decide_eq_false t1
          by_cases t2 : 95 < to_
          · have e2 : decide (95 < to_) = true := decide_eq_true t2
            have HT2 := Lib.hid t2
            clear t1 t2
            go_wp2_with fail
            go_ret2
            exact ⟨by rw [HX.out]; exact B2.out, Or.inl ⟨HNOK.out (by rw [decide_eq_false (show ¬ to_ ≤ 95 by have := HT2.out; omega)]; simp), rfl⟩⟩
          have e2 : decide (95 < to_) = false := decide_eq_false t2
          have HAL : Hid ((l.take (k + 1)).all okP = true) := Lib.hid (HALL1.out (by rw [decide_eq_true (show 1 ≤ to_ by omega), decide_eq_true (show to_ ≤ 95 by omega)]; rfl))
          obtain ⟨tn, rfl⟩ : ∃ tn : Nat, to_ = (tn : Int) := ⟨to_.toNat, by omega⟩
          by_cases t3 : tn < 32
          · have e3 : decide ((tn : Int) < 32) = true := decide_eq_true (by omega)
            have hi0 : (0 : Int) ≤ (tn : Int) := by omega
            have hi1 : (tn : Int) < 32 := by omega
            have hta : tn < rs.length := by rw [S2.out.ma.len]; exact t3
            obtain ⟨a0, a1, a2, a3, a4, a5⟩ := range6 (S2.out.ma.reg tn hta)
            obtain ⟨f0, f1, f2, f3, f4, f5⟩ := there6 (S2.out.ma.regThere tn hta)
            have HTA := Lib.hid (And.intro hta t3)
            have NM : Hid ((m, rs.set tn ⟨eb, et, ea, ep, ey, eg⟩) = bothF xs (l.take (k + 1))) := Lib.hid (by
              rw [HNX.out]
              unfold putS
              rw [if_pos (show ((tn : Nat) : Int) < 32 by omega)]
              simp only [Int.toNat_natCast])
            have HTO2 := Lib.hid hto2
            clear t1 t2 t3
            go_wp2_with fail
            go_still_tail 14, (by kernel_rfl)
            change wpList _ _ _ _ _ w2.drew
            obtain ⟨w3, hw3⟩ : ∃ w3, w2.drew = w3 := ⟨_, rfl⟩
            have hb3 : Below w2.heap.size w2 w3 := by rw [← hw3]; exact Below.drew (Below.refl _ _)
            have S3 := Lib.hid (S2.out.below hb3)
            have B3 := Lib.hid (B2.out.trans (hb3.mono (by rw [← HX.out]; exact B2.out.size)))
            have hto3 := (hb3.cell (heap_lt_of_cell HTO2.out)).trans HTO2.out
            have hrg3 : w3.rangeAt g (off + k * 7 + 1) (capC ⟨eb, et, ea, ep, ey, eg⟩) := fun j v hv => (hb3.cell (heap_lt_of_cell (HRG2.out j v hv))).trans (HRG2.out j v hv)
            rw [hw3]
            have HT3 := Lib.hid (And.intro hto3 hrg3)
            clear hw3 hb3 hto2 hto3 hrg3 c0 c1 c2 c3 c4 c5 a0 a1 a2 a3 a4 a5 f0 f1 f2 f3 f4 f5 S2 B2 HRG2 HTO2
            obtain ⟨a0, a1, a2, a3, a4, a5⟩ := range6 (S3.out.ma.reg tn HTA.out.1)
            obtain ⟨f0, f1, f2, f3, f4, f5⟩ := there6 (S3.out.ma.regThere tn HTA.out.1)
            go_upto_region 26 with fail
            have ks : KP w3.heap.size (fun b => b = A) w3 (w3.setCells A (6 + tn * 6) (capC ⟨eb, et, ea, ep, ey, eg⟩)) := kp_setCells (S := fun b => b = A) A (Or.inr rfl) _ _ w3 (KP.refl _ _ _)
            have hst := fun w5 hb => S3.out.set2 (W2 := w5) tn HTA.out.1 ⟨eb, et, ea, ep, ey, eg⟩ HFT.out hb
            rw [show capC ⟨eb, et, ea, ep, ey, eg⟩ = [.int .u64 eb, .int .u64 et, .int .u64 ea, .int .i64 ep, .int .i64 ey, .bool eg] from rfl] at ks hst
            rw [set6_eq w3] at ks hst
            generalize (((((w3.setCell ⟨A, 6 + tn * 6, none⟩ (.int .u64 eb)).setCell ⟨A, 6 + tn * 6 + 1, none⟩ (.int .u64 et)).setCell ⟨A, 6 + tn * 6 + 2, none⟩ (.int .u64 ea)).setCell ⟨A, 6 + tn * 6 + 3, none⟩ (.int .i64 ep)).setCell ⟨A, 6 + tn * 6 + 4, none⟩ (.int .i64 ey)).setCell ⟨A, 6 + tn * 6 + 5, none⟩ (.bool eg) = w4 at *
            have HKS := Lib.hid ks
            have HST := Lib.hid hst
            have hgA : ¬ g = A := fun e => by have := HGX.out; have := S3.out.na; omega
            have hto4 : w4.cell? ⟨g, off + k * 7, none⟩ = some (.int .i64 (tn : Int)) := ks.cell (heap_lt_of_cell HT3.out.1) hgA HT3.out.1
            have hrg4 : w4.rangeAt g (off + k * 7 + 1) (capC ⟨eb, et, ea, ep, ey, eg⟩) := fun j v hv => ks.cell (heap_lt_of_cell (HT3.out.2 j v hv)) hgA (HT3.out.2 j v hv)
            have HT4 := Lib.hid (And.intro hto4 hrg4)
            obtain ⟨c0, c1, c2, c3, c4, c5⟩ := range6 hrg4
            simp only [] at c0 c1 c2 c3 c4 c5
            have MB4 := Lib.hid (S3.out.mb.kp ks S3.out.mb.lt (fun e => S3.out.ab e.symm))
            have HXA := Lib.hid (And.intro S3.out.na S3.out.nb)
            clear ks hst hgA hrg4 a0 a1 a2 a3 a4 a5 f0 f1 f2 f3 f4 f5 S3 HT3
            go_still_tail 14, (by kernel_rfl)
            change wpList _ _ _ _ _ w4.drew
            obtain ⟨w5, hw5⟩ : ∃ w5, w4.drew = w5 := ⟨_, rfl⟩
            have hb5 : Below w4.heap.size w4 w5 := by rw [← hw5]; exact Below.drew (Below.refl _ _)
            have S5 := Lib.hid (HST.out w5 hb5)
            have MB5 := Lib.hid (MB4.out.below hb5)
            have B5 : Hid (Below X W w5) := Lib.hid ((B3.out.trans (HKS.out.to_below (m := X) (by rw [← HX.out]; exact B3.out.size) (fun b hb e => by have := HXA.out.1; omega))).trans (hb5.mono (by rw [← HX.out]; exact Nat.le_trans B3.out.size HKS.out.size)))
            rw [hw5]
            clear hw5 hb5 hto4 c0 c1 c2 c3 c4 c5 HST MB4 HT4 HKS B3
            obtain ⟨a0, a1, a2, a3, a4, a5⟩ := range6 (MB5.out.reg tn HTA.out.1)
            obtain ⟨f0, f1, f2, f3, f4, f5⟩ := there6 (MB5.out.regThere tn HTA.out.1)
            have s5 := S5.out
            have b5 := below_setCells B HXA.out.2 (capC ⟨eb, et, ea, ep, ey, eg⟩) (6 + tn * 6) _ B5.out
            rw [set6_eq w5] at s5
            rw [show capC ⟨eb, et, ea, ep, ey, eg⟩ = [.int .u64 eb, .int .u64 et, .int .u64 ea, .int .i64 ep, .int .i64 ey, .bool eg] from rfl, set6_eq w5] at b5
            have S6 := Lib.hid s5
            have B6 := Lib.hid b5
            clear s5 b5 S5 B5 MB5
            have hlt := HLT.out
            have h60 := HN60.out
            go_wp2_with fail
            go_roundw
            case rel => exact ⟨k + 1, F, G, m, _, by go_num, by omega, S6, B6, NM, HAL⟩
            case measure => simp [intOf]; omega
          · have e3 : decide ((tn : Int) < 32) = false := decide_eq_false (by omega)
            obtain ⟨x, hx⟩ : ∃ x : Nat, 1024 + 32 * tn = x := ⟨_, rfl⟩
            have u1 : IntKind.i64.wrap (32 * (tn : Int)) = 32 * (tn : Int) := by rw [IntKind.wrap_i64]; omega
            have u2 : IntKind.i64.wrap (1024 + 32 * (tn : Int)) = (x : Int) := by rw [IntKind.wrap_i64]; omega
            have u3 : IntKind.u64.wrap (x : Int) = (x : Int) := by rw [IntKind.wrap_u64]; omega
            have C := Lib.hid (sstoreC_any w2 X M F m S2.out.own x ⟨eb, et, ea, ep, ey, eg⟩ (by omega) HFT.out)
            have HXX := Lib.hid (show x < 18446744073709551616 by omega)
            have NM : Hid (((storeC m (x : Int) ⟨eb, et, ea, ep, ey, eg⟩).1, rs) = bothF xs (l.take (k + 1))) := Lib.hid (by
              rw [HNX.out]
              unfold putS
              rw [if_neg (show ¬ ((tn : Nat) : Int) < 32 by omega)]
              simp only [Int.toNat_natCast]
              rw [hx])
            rw [show (capC ⟨eb, et, ea, ep, ey, eg⟩).toArray = #[.int .u64 eb, .int .u64 et, .int .u64 ea, .int .i64 ep, .int .i64 ey, .bool eg] from rfl] at C
            have HTO2 := Lib.hid hto2
            clear t1 t2 t3 hx
            go_wp2_with fail
            refine C.out.mono ?_; rintro e w3 ⟨rfl, F', hown, mv⟩
            have HMV := Lib.hid mv
            have HOW := Lib.hid hown
            have R3 := Lib.hid (S2.out.rma.kp mv.kp (Nat.le_refl _) (fun b hb hF => S2.out.fg b hF hb))
            have hgF : ¬ F g := fun h => by have := S2.out.own.ge g h; have := HGX.out; omega
            have hrg3 : w3.rangeAt g (off + k * 7 + 1) (capC ⟨eb, et, ea, ep, ey, eg⟩) := fun j v hv => mv.kp.cell (heap_lt_of_cell (HRG2.out j v hv)) hgF (HRG2.out j v hv)
            obtain ⟨c0, c1, c2, c3, c4, c5⟩ := range6 hrg3
            simp only [] at c0 c1 c2 c3 c4 c5
            have C := Lib.hid (rstoreC_any w3 R G m R3.out x ⟨eb, et, ea, ep, ey, eg⟩ HXX.out HFT.out)
            rw [show (capC ⟨eb, et, ea, ep, ey, eg⟩).toArray = #[.int .u64 eb, .int .u64 et, .int .u64 ea, .int .i64 ep, .int .i64 ey, .bool eg] from rfl] at C
            clear hown mv hgF hrg3 hto2 R3
            go_wp2_with fail
            refine C.out.mono ?_; rintro e w4 ⟨rfl, hr, hk⟩
            have hs := S2.out.store HOW.out HMV.out hr hk
            have S6 := Lib.hid hs.1
            have B6 := Lib.hid (B2.out.trans (hs.2.mono (Nat.le_refl _)))
            clear hs hr hk C HMV HOW S2 B2 c0 c1 c2 c3 c4 c5
            have hlt := HLT.out
            have h60 := HN60.out
            go_wp2_with fail
            go_roundw
            case rel => exact ⟨k + 1, F', _, _, rs, by go_num, by omega, S6, B6, NM, HAL⟩
            case measure => simp [intOf]; omega
        · obtain rfl : k = n := by omega
          have hd1 : decide ((k : Int) < (k : Int)) = false := by simp
          have hd2 : decide (k < k) = false := by simp
          have hfin := HMF.out
          rw [List.take_of_length_le (by rw [HN.out]; exact Nat.le_refl _)] at hfin
          have HFIN := Lib.hid hfin
          have hal := HALL.out
          rw [List.take_of_length_le (by rw [HN.out]; exact Nat.le_refl _)] at hal
          have HOKT : Hid (OK = true) := Lib.hid (by
            rw [← HOK.out]
            unfold okB
            rw [HQ.out, hal, HN.out, HNX.out, decide_eq_true (show _ ≤ 64 from Nat.le_of_not_lt HN64.out), decide_eq_true (show _ ≤ 40 from Nat.le_of_not_lt HN60.out)]; rfl)
          clear hlt hk hfin hal
          go_wp2_with fail
          go_ret2
          exact ⟨by rw [HX.out]; exact HB.out, Or.inr ⟨HOKT.out, A, B, M, R, F, G, m, rs, rfl, by rw [HX.out]; exact HS.out, HFIN.out⟩⟩
end Go.Proofs.YtegoddghfjfibaaGreatDoor

