/- Parse: plain mathematics: what an object read of bytes fits; that what is wrong hangs on the object alone. -/
import Derived.Test.YtidnojjhchmmgaaCeO
import Derived.Test.YtidnojjhchmmgaaCeJ
namespace Go.Proofs.Ytidnojjhchmmgaa
set_option linter.unusedVariables false
set_option linter.unusedSimpArgs false
open Go.Joins Go.ChangeShapes Go.WideShapes Go.ChangeAt Go.RowKit Go.Deep

theorem listP_len {α : Type} (one : St → α × St) (n : Nat) (s : St) : (listP one n s).1.length ≤ n := by
  induction n generalizing s with
  | zero => exact Nat.le_refl _
  | succ n ih =>
    unfold listP
    split
    · simpa using ih _
    · simp
theorem listP_all {α : Type} {one : St → α × St} {P : α → Prop} (h : ∀ s, P (one s).1) (n : Nat) (s : St) : ∀ x ∈ (listP one n s).1, P x := by
  induction n generalizing s with
  | zero => intro x hx; exact absurd hx (by simp [listP])
  | succ n ih =>
    unfold listP
    split
    · intro x hx
      rcases List.mem_cons.1 hx with rfl | hx
      · exact h s
      · exact ih _ x hx
    · intro x hx; simp at hx
theorem listH_len {α : Type} (one : St → α × St) (s : St) : (listH one s).1.length < 65536 := Nat.lt_of_le_of_lt (listP_len _ _ _) (numP_lt 2 s)
theorem listH_all {α : Type} {one : St → α × St} {P : α → Prop} (h : ∀ s, P (one s).1) (s : St) : ∀ x ∈ (listH one s).1, P x := listP_all h _ _
theorem textP_len (s : St) : (textP s).1.length < 256 := Nat.lt_of_le_of_lt (takeP_len _ _) (numP_lt 1 s)
theorem num4_in (s : St) : u64B ((numP 4 s).1 : Int) := by
  have h : (numP 4 s).1 < 4294967296 := numP_lt 4 s
  constructor <;> omega
/-- what is read fits -/
theorem fit_of {o : Ob} {s : St} (h : coreO o = (objP s).1) : FitOb o := by
  obtain ⟨nm, nd, sg, sy, rl, ini, fin, na, nc, ga, gc, sa, sc, ra, rc, ia, ic, fa, fc⟩ := o
  unfold coreO objP at h
  simp only [Core.mk.injEq] at h
  obtain ⟨h1, h2, h3, h4, h5, h6, h7⟩ := h
  constructor
  · show nm.length < _
    rw [h1]; exact Nat.lt_trans (textP_len _) (by decide)
  · show ∀ n ∈ nd, _
    rw [h2]; exact listH_all (one := textP) (P := fun n : List UInt8 => n.length < 9223372036854775808) (fun s => Nat.lt_trans (textP_len s) (by decide)) _
  · show nd.length < _
    rw [h2]; exact Nat.lt_trans (listH_len _ _) (by decide)
  · show sg.length < _
    have := listH_len segP (listH textP (textP (takeP 5 (magicP s)).2).2).2
    rw [← h3, List.length_map] at this
    omega
  · show ∀ s ∈ sg, _
    intro g hg
    have ha := listH_all (one := segP) (P := fun c => u64B c.1 ∧ u64B c.2.1 ∧ c.2.2.2.length < 9223372036854775808) (fun s => ⟨num4_in _, num4_in _, by
      have h8 : (segP s).1.2.2.2.length ≤ _ := takeP_len _ _
      have h9 := numP_lt 4 (numP 1 (numP 4 (numP 4 s).2).2).2
      exact Nat.lt_of_le_of_lt h8 (Nat.lt_trans h9 (by decide))⟩) (listH textP (textP (takeP 5 (magicP s)).2).2).2 (coreG g) (by rw [← h3]; exact List.mem_map_of_mem hg)
    exact ha
  · show sy.length < _
    rw [h4]; exact Nat.lt_trans (listH_len _ _) (by decide)
  · show ∀ s ∈ sy, _
    rw [h4]
    exact listH_all (one := symP) (P := fun s : Sym => u64B s.place ∧ u64B s.size ∧ s.name.length < 9223372036854775808 ∧ s.ver.length < 9223372036854775808) (fun s => ⟨num4_in _, num4_in _, Nat.lt_trans (textP_len _) (by decide), Nat.lt_trans (textP_len _) (by decide)⟩) _
  · show rl.length < _
    rw [h5]; exact Nat.lt_trans (listH_len _ _) (by decide)
  · show ∀ s ∈ rl, _
    rw [h5]; exact listH_all (one := relP) (P := fun s : Rel => u64B s.place) (fun s => num4_in _) _
  · show ini.length < _
    rw [h6]; exact Nat.lt_trans (listH_len _ _) (by decide)
  · show fin.length < _
    rw [h7]; exact Nat.lt_trans (listH_len _ _) (by decide)
/-! What is wrong hangs on the object alone, not on where it lies. -/
def bareG (c : Int × Int × Int × List UInt8) : Seg := ⟨c.1, c.2.1, c.2.2.1, c.2.2.2, none, 0⟩
def bareO (c : Core) : Ob := ⟨c.name, c.needs, c.segs.map bareG, c.syms, c.rels, c.init, c.fini, none, 0, none, 0, none, 0, none, 0, none, 0, none, 0⟩
def checkC (c : Core) : Int := checkF (bareO c)
theorem firstI_map {α β : Type} (f : α → β) (p : β → Bool) (l : List α) : firstI p (l.map f) = firstI (fun x => p (f x)) l := by
  unfold firstI
  rw [List.findIdx?_map]
  rfl
theorem bare_at (l : List Seg) (x n : Int) : atF ((l.map coreG).map bareG) x n = atF l x n := by
  unfold atF
  rw [firstI_map, firstI_map]
  rfl
theorem bare_segs (f : Int) (l : List Seg) : segsB f ((l.map coreG).map bareG) = segsB f l := by
  induction l generalizing f with
  | nil => rfl
  | cons s r ih =>
    show (segB f (bareG (coreG s)) && segsB (upP (s.place + s.size)) ((r.map coreG).map bareG)) = (segB f s && segsB (upP (s.place + s.size)) r)
    rw [ih]
    rfl
theorem bare_flags (l : List Seg) (i : Int) : flagsAt ((l.map coreG).map bareG) i = flagsAt l i := by
  unfold flagsAt
  rw [List.getElem?_map, List.getElem?_map]
  cases l[i.toNat]? <;> rfl
theorem bare_sym (l : List Seg) (s : Sym) : symB ((l.map coreG).map bareG) s = symB l s := by
  unfold symB
  rw [bare_at, bare_flags]
theorem bare_write (l : List Seg) (x n : Int) : writeB ((l.map coreG).map bareG) x n = writeB l x n := by
  unfold writeB
  rw [List.any_map, List.any_map]
  rfl
theorem bare_rels (l : List Seg) (sy : List Sym) (f : Int) (r : List Rel) : relsB ((l.map coreG).map bareG) sy f r = relsB l sy f r := by
  induction r generalizing f with
  | nil => rfl
  | cons x r ih =>
    show (relB _ sy f x && relsB _ sy _ r) = (relB l sy f x && relsB l sy _ r)
    rw [ih]
    unfold relB
    rw [bare_write]
theorem check_core (o : Ob) : checkF o = checkC (coreO o) := by
  have hs : (o.syms.all (symB ((o.segs.map coreG).map bareG))) = o.syms.all (symB o.segs) := by
    congr 1
    funext s
    exact bare_sym _ s
  unfold checkC checkF
  show _ = (if !namesB o then 103 else if !countsB (bareO (coreO o)) then 104 else if !segsB 0 ((o.segs.map coreG).map bareG) then 105 else if !o.syms.all (symB ((o.segs.map coreG).map bareG)) then 106 else if !relsB ((o.segs.map coreG).map bareG) o.syms 0 o.rels then 107 else if !(o.init.all (fnB o.syms) && o.fini.all (fnB o.syms)) then 108 else 0)
  rw [bare_segs, hs, bare_rels]
  have hc : countsB (bareO (coreO o)) = countsB o := by unfold countsB bareO coreO; simp
  rw [hc]
def emptyC : Core := ⟨[], [], [], [], [], [], []⟩
def emptyO : Ob := ⟨[], [], [], [], [], [], [], none, 0, none, 0, none, 0, none, 0, none, 0, none, 0⟩
theorem empty_rd (W : World) : RdOb W emptyO := ⟨Rd.nil _ _, Rd.nil _ _, fun s hs => by simp [emptyO] at hs, Rd.nil _ _, Rd.nil _ _, Rd.nil _ _, Rd.nil _ _⟩
theorem empty_fit : FitOb emptyO := ⟨by decide, by simp [emptyO], by decide, by decide, by simp [emptyO], by decide, by simp [emptyO], by decide, by simp [emptyO], by decide, by decide⟩
def wrongP (r : Core × St) : Int := if r.2.wrong = 0 ∧ 0 < r.2.rest.length then 102 else r.2.wrong
def parseR (r : Core × St) : Core × Int := if wrongP r = 0 then (if checkC r.1 = 0 then (r.1, 0) else (emptyC, checkC r.1)) else (emptyC, wrongP r)
def parseF (b : List UInt8) : Core × Int := parseR (objP ⟨b, 0⟩)
end Go.Proofs.Ytidnojjhchmmgaa
