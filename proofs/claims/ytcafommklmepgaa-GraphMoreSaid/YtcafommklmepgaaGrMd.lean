/- GraphMore: steps of the drawn region, its join; when nothing is asked. -/
import Derived.Test.YtcafommklmepgaaGrMc
import Derived.Test.YtcafommklmepgaaGrL
import Derived.Test.YtcafommklmepgaaGrM
namespace Go.Proofs.Ytcafommklmepgaa
set_option linter.unusedVariables false
set_option linter.unusedSimpArgs false
open Go.Joins Go.ChangeShapes Go.WideShapes Go.ChangeAt Go.RowKit Go.Deep

theorem step_appO0 (w : World) {ops : Array Oper} {o : Oper} {a : Act} {K : Act → World → Prop} {Q : Exit → Act → World → Prop} {E : Prop} (hgd : o.guard = none) (s x : Operand) (ho : o.op = .call { callee := .builtin .append, args := #[s, x], argTypes := #[22, 22] })
    (B g : Nat) (hs : a.eval s = .slice (some ⟨g, 0, none⟩) 0 0) (am : Option Addr) (m cc : Nat) (l : List Obj) (hx : a.eval x = .slice am m cc) (hr : RdO w am l) (hlm : l.length = m) (hm : m ≤ 20) (hB : B ≤ w.heap.size) (hg0 : B ≤ g) (hg : g < w.heap.size)
    (h : ∀ g' c' w', Room B w' g' m c' l → Below w.heap.size w w' → K (a.put o.dst (.slice (some ⟨g', 0, none⟩) m c')) w') :
    if Region.wanted o (yielded ops a.tmps) = true then Oper.wp Try.prog o a w K Q else E := by
  have hw : Region.wanted o (yielded ops a.tmps) = true := by simp [Region.wanted, hgd]
  rw [if_pos hw]
  obtain ⟨g', c', w', hr, h2, h3⟩ := run_appO0 w o.type B g am m cc l hr hlm hm hB hg0 hg
  unfold Oper.wp execOp
  simp only [ho, resolve, invoke, builtin, Sem.run_bind, Sem.run_pure, Result.andThen_ok, List.map_toArray, List.map_cons, List.map_nil, hs, hx, hr]
  exact h g' c' w' h2 h3
theorem step_appO1 (w : World) {ops : Array Oper} {o : Oper} {a : Act} {K : Act → World → Prop} {Q : Exit → Act → World → Prop} {E : Prop} (hgd : o.guard = none) (s x : Operand) (ho : o.op = .call { callee := .builtin .append, args := #[s, x], argTypes := #[22, 22] })
    (B g u : Nat) (m c : Nat) (l : List Obj) (y : Obj) (hs : a.eval s = .slice (some ⟨g, 0, none⟩) m c) (hx : a.eval x = .slice (some ⟨u, 0, none⟩) 1 1) (hr : Room B w g m c l) (hm : m ≤ 20) (hB : B ≤ w.heap.size) (hy : w.rangeAt u 0 (objsC [y]))
    (h : ∀ g' c' w', w'.rangeAt g' 0 (objsC (l ++ [y])) → Below B w w' → K (a.put o.dst (.slice (some ⟨g', 0, none⟩) (m + 1) c')) w') :
    if Region.wanted o (yielded ops a.tmps) = true then Oper.wp Try.prog o a w K Q else E := by
  have hw : Region.wanted o (yielded ops a.tmps) = true := by simp [Region.wanted, hgd]
  rw [if_pos hw]
  obtain ⟨g', c', w', hr, h2, h3⟩ := run_appO1 w o.type B g u c m l y hr hm hB hy
  unfold Oper.wp execOp
  simp only [ho, resolve, invoke, builtin, Sem.run_bind, Sem.run_pure, Result.andThen_ok, List.map_toArray, List.map_cons, List.map_nil, hs, hx, hr]
  exact h g' c' w' h2 h3
theorem rangeAt_new {V w6 : World} {cs : Array Value} {t : TypeId} {u : Nat} (h : Below (V.alloc (.cells cs t)).heap.size (V.alloc (.cells cs t)) w6) (hu : V.heap.size = u) : w6.rangeAt u 0 cs.toList ∧ u < w6.heap.size := by
  subst hu
  refine ⟨fun j v hj => ?_, ?_⟩
  · rw [Nat.zero_add, boxed h j]
    simpa using hj
  · have := h.size
    rw [size_alloc] at this
    omega
/-- where the walk stands behind the list with one more -/
def MoreC (W0 : World) (m : Nat) (l' : List Obj) (v : Value) (w : World) : Prop :=
  ∃ g c, v = .slice (some ⟨g, 0, none⟩) (m + 1) c ∧ Below W0.heap.size W0 w ∧ w.rangeAt g 0 (objsC l')
theorem rdo_range {w : World} {g : Nat} {l : List Obj} (h : w.rangeAt g 0 (objsC l)) (hn : ∀ o ∈ l, Rd w o.na o.needs.length (txs o.needs)) : RdO w (some ⟨g, 0, none⟩) l := by
  refine ⟨fun _ => ⟨g, 0, rfl, fun k hk => cells7_of fun j hj => ?_⟩, hn⟩
  have hg := objsC_get l k hk j hj
  have h7 : (objC l[k]).length = 7 := rfl
  obtain ⟨v, hv⟩ : ∃ v, (objC l[k])[j]? = some v := ⟨(objC l[k])[j]'(by omega), List.getElem?_eq_getElem (by omega)⟩
  rw [hv] at hg ⊢
  have := h (k * 7 + j) v hg
  rw [← Nat.add_assoc] at this
  exact this
def After (C : Value → World → Prop) (a : Act) (e : Exit) (a' : Act) (w' : World) : Prop :=
  e = .normal ∧ ∃ v66 v67 v68 v69 v70 v71 v11, a' = (((((((a.put (some 66) v66).put (some 67) v67).put (some 68) v68).put (some 69) v69).put (some 70) v70).put (some 71) v71).put (some 11) v11) ∧ C v11 w'
theorem after_of {C : Value → World → Prop} {a a' : Act} {w' : World} {v66 v67 v68 v69 v70 v71 v11 : Value} (hC : C v11 w') (ha : a' = (((((((a.put (some 66) v66).put (some 67) v67).put (some 68) v68).put (some 69) v69).put (some 70) v70).put (some 71) v71).put (some 11) v11)) : After C a .normal a' w' := ⟨rfl, _, _, _, _, _, _, _, ha, hC⟩
theorem region_join {P : Program} {c : Code} {Q : Exit → Act → World → Prop} {a : Act} {w : World} (C : Value → World → Prop) (h1 : c.wp P (After C a) a w)
    (h2 : ∀ v66 v67 v68 v69 v70 v71 v11 w', C v11 w' → Q .normal (((((((a.put (some 66) v66).put (some 67) v67).put (some 68) v68).put (some 69) v69).put (some 70) v70).put (some 71) v71).put (some 11) v11) w') : c.wp P Q a w :=
  Code.wp_mono (fun e a' w' ⟨he, _, _, _, _, _, _, _, ha, hC⟩ => by subst he; subst ha; exact h2 _ _ _ _ _ _ _ _ hC) h1
set_option maxHeartbeats 2000000 in
theorem more_no (a : Option Addr) (l : List Obj) (c : Nat) (root : List UInt8) (x : Obj) (w : World) (hl : RdO w a l) (hnd : ∀ o ∈ l, o.needs.length ≤ maxLen) (hm : l.length ≤ maxLen) (h : shortB l 20 = false ∨ 10 < x.needs.length ∨ (x.name == root) = true) :
    Calls Try.prog 7 #[.slice a l.length c, .string ⟨root.toArray⟩, .agg (objC x).toArray] w fun e w' => e = .returned (.bool true) ∧ Below w.heap.size w w' := by
  have HSH := Lib.hid (fun W (hW : RdO W a l) => short_any a l c 20 W hW hm (by omega) hnd)
  have HL := Lib.hid hl
  obtain ⟨sb, hsb⟩ : ∃ s, shortB l 20 = s := ⟨_, rfl⟩
  rw [hsb] at HSH h
  clear hl hnd hm hsb
  obtain ⟨m, hlm⟩ : ∃ m, l.length = m := ⟨_, rfl⟩
  rw [hlm] at HSH ⊢
  clear hlm
  simp only [objC]
  go_enter Try.func7, Try.ntmps7
  go_wp2_with fail
  refine (awake_any _).mono ?_; rintro e w1 ⟨rfl, hb1⟩
  have B1 := Lib.hid (bTrans (bAlloc (Below.refl _ _) _) hb1)
  have X0 := (hb1.cell (p := ⟨w.heap.size, 0, none⟩) (by simp)).trans (boxed (Below.refl _ _) 0)
  have X1 := (hb1.cell (p := ⟨w.heap.size, 1, none⟩) (by simp)).trans (boxed (Below.refl _ _) 1)
  replace X0 := X0.trans (show _ = some (Value.string ⟨x.name.toArray⟩) from rfl)
  replace X1 := X1.trans (show _ = some (Value.slice x.na x.needs.length x.nc) from rfl)
  clear hb1
  go_wp2_with fail
  refine (HSH.out _ (HL.out.below B1.out)).mono ?_; rintro e w2 ⟨rfl, rfl⟩
  cases sb with
  | false =>
    go_wp2_with fail
    go_ret
    exact ⟨rfl, B1.out⟩
  | true =>
    by_cases h10 : 10 < x.needs.length
    · have hd : decide ((10 : Int) < (x.needs.length : Int)) = true := decide_eq_true (by omega)
      clear h
      go_wp2_with fail
      go_ret
      exact ⟨rfl, B1.out⟩
    · have hd : decide ((10 : Int) < (x.needs.length : Int)) = false := decide_eq_false (by omega)
      have he : (x.name == root) = true := by
        rcases h with h | h | h
        · cases h
        · exact absurd h h10
        · exact h
      clear h
      go_wp2_with fail
      go_ret
      exact ⟨rfl, B1.out⟩
end Go.Proofs.Ytcafommklmepgaa
