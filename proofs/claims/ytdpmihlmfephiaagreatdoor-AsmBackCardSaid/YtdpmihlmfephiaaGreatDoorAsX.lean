/- AsmBack: what is printed is parsed: the law's walk; the row's step with the world's shape. -/
import Derived.Test.YtdpmihlmfephiaaGreatDoorAsW
import Derived.Handed
namespace Go.Proofs.YtdpmihlmfephiaaGreatDoor
set_option linter.unusedVariables false
set_option linter.unusedSimpArgs false
open Go.Joins Go.ChangeShapes Go.WideShapes Go.ChangeAt Go.RowKit Go.Deep

theorem handed_shaped {H : Type} {enc : TypeId × Value → H} {a : Assume} {C : Checked} {os : Os} {f : FuncId} {fn : Func} {s : ChangeSpec} {conds : List PathCond} {apart fresh handsOn again : Bool} {X : World → Array Value → Prop}
    (hX : ∀ (w w' : World) (args : Array Value), w.heap = w'.heap → X w args → X w' args)
    (own : ownKnob C.prog.godebug = none) (started : os.Started) (noInit : C.prog.inits.idxOf? f = none) (hfn : C.prog.funcs[f]? = some fn)
    (witness : ∃ (w : World) (tape : Tape) (i : Input), w.os = os ∧ (w.forCall tape i).Shaped C.prog ∧ i.vars = [] ∧ Input.okWide C.prog (w.forCall tape i) .any w.heap.size f i ∧
      ((s.pre enc C.prog fn conds apart (w.forCall tape i).memory i.args ∧ X (w.forCall tape i).memory i.args) ∧ sizedMet enc C.prog fn (OpenSpec.ofChange s) apart (w.forCall tape i).memory i.args) ∧ a.holds C.prog (lone (Frame.enter C.prog f i.args .normal) [] (w.forCall tape i)))
    (contract : ∀ (W : World) (base : Nat) (args : Array Value) (ds gs : List (DataW H)) (before : List MemPlace), W.ShapedOpen C.prog →
      (∀ (j : Nat) t v, fn.params[j]? = some t → args[j]? = some v → Value.okWide C.prog W .any base t v) →
      DataW.Whole enc C.prog fn.params.toList s.vars apart W args.toList ds gs before →
      conds.all (PathCond.test C.prog ⟨fn.params.toList, ds, s.plain.varTypes C.prog, gs⟩) = true →
      (DataW.weightsEach C.prog (fn.params.toList ++ s.plain.varTypes C.prog) (ds ++ gs)).all (· ≤ reachBytes) = true → X W args →
      a.holds C.prog (lone (Frame.enter C.prog f args .normal) [] W) →
      Calls C.prog f args W fun e W' => ∃ v, e = .returned v ∧ s.post enc C.prog fn apart fresh handsOn again W args v W') :
    ReturnsInHanded a C os f .any (fun w args => (s.pre enc C.prog fn conds apart w args ∧ X w args) ∧ sizedMet enc C.prog fn (OpenSpec.ofChange s) apart w args) (s.post enc C.prog fn apart fresh handsOn again) := by
  refine returnsInHanded_of_calls own started noInit witness ?_
  intro w tape i _ hsh _ hok hpre hholds
  obtain ⟨_, _, _, fn', hfn', _, _, _, _, hval⟩ := hok
  have e : fn' = fn := Option.some.inj (hfn'.symm.trans hfn)
  subst e
  obtain ⟨⟨⟨ds, gs, before, hw, hc⟩, hx⟩, hz⟩ := hpre
  have hw' := DataW.Whole.of_heap (w' := w.forCall tape i) (by rfl) hw
  refine (contract (w.forCall tape i) w.heap.size i.args ds gs before hsh hval hw' hc (hz.weights hw) (hX _ _ _ (by rfl) hx) hholds).mono fun e W' ⟨v, he, hp⟩ => ?_
  subst he
  exact ChangeSpec.post_blind hp
set_option maxHeartbeats 1000000 in
theorem AsmBack_walk (op rd rs1 rs2 n : Int) (w : World) (hn : NA w) (hi : I64 n) :
    Calls Tryz.prog 7 #[.agg #[.int .i64 op, .int .i64 rd, .int .i64 rs1, .int .i64 rs2, .int .i64 n]] w fun e w' => e = .returned (.bool true) ∧ Below w.heap.size w w' := by
  have HN := Lib.hid (hn.alloc (.cells #[.int .i64 op, .int .i64 rd, .int .i64 rs1, .int .i64 rs2, .int .i64 n] 23))
  have HB0 := Lib.hid (bAlloc (Below.refl w.heap.size w) (.cells #[.int .i64 op, .int .i64 rd, .int .i64 rs1, .int .i64 rs2, .int .i64 n] 23))
  have HX0 := Lib.hid (BoxN.new w #[.int .i64 op, .int .i64 rd, .int .i64 rs1, .int .i64 rs2, .int .i64 n] 23)
  have hz : (w.alloc (.cells #[.int .i64 op, .int .i64 rd, .int .i64 rs1, .int .i64 rs2, .int .i64 n] 23)).heap.size = w.heap.size + 1 := by simp
  have HAW := Lib.hid awake_any
  have HPR := Lib.hid (fun W (hW : NA W) => print_any op ⟨rd, rs1, rs2, n⟩ W hW hi)
  unfold priT priE at HPR
  by_cases hok : okI op ⟨rd, rs1, rs2, n⟩ = true
  · simp only [if_pos hok] at HPR
    have htl := textF_le op ⟨rd, rs1, rs2, n⟩ hok
    have hp := parF_text op ⟨rd, rs1, rs2, n⟩ hok
    simp only [] at htl hp
    obtain ⟨t, ht⟩ : ∃ t, textF op rd rs1 rs2 n = t := ⟨_, rfl⟩
    rw [ht] at HPR htl hp
    have HPA := Lib.hid (fun W (hW : NA W) => parse_any t W hW (by omega))
    rw [(par_some hp).1, (par_some hp).2] at HPA
    unfold insV at HPA
    simp only [] at HPA
    clear hn hi hok htl hp ht hz
    go_enter Tryz.func7, Tryz.ntmps7
    go_wp2_with (first
      | (go_at_call 12; refine (HAW.out _ HN.out).mono ?_; rintro e w1 ⟨rfl, hb⟩; have HB1 := Lib.hid (HB0.out.trans (hb.mono HB0.out.size)); have HN1 := Lib.hid (HN.out.on hb); have HX1 := Lib.hid (boxN_below HX0.out hb); obtain ⟨⟨q0, q1, q2, q3, q4⟩, -⟩ := box5 HX1.out; clear hb)
      | (go_at_call 13; refine (HPR.out _ HN1.out).mono ?_; rintro e w2 ⟨rfl, hb⟩; have HB2 := Lib.hid (HB1.out.trans (hb.mono HB1.out.size)); have HN2 := Lib.hid (HN1.out.on hb); have HX2 := Lib.hid (boxN_below HX1.out hb); clear hb)
      | (go_at_call 15; refine (HPA.out _ HN2.out).mono ?_; rintro e w3 ⟨rfl, hb⟩; have HB3 := Lib.hid (HB2.out.trans (hb.mono HB2.out.size)); have HX3 := Lib.hid (boxN_alloc (boxN_below HX2.out hb) (.cells #[.int .i64 op, .int .i64 rd, .int .i64 rs1, .int .i64 rs2, .int .i64 n] 23)); obtain ⟨⟨r0, r1, r2, r3, r4⟩, -⟩ := box5 HX3.out; clear hb))
    go_ret
    exact ⟨rfl, bAlloc HB3.out _⟩
  · simp only [if_neg hok] at HPR
    clear hn hi hok hz
    go_enter Tryz.func7, Tryz.ntmps7
    go_wp2_with (first
      | (go_at_call 12; refine (HAW.out _ HN.out).mono ?_; rintro e w1 ⟨rfl, hb⟩; have HB1 := Lib.hid (HB0.out.trans (hb.mono HB0.out.size)); have HN1 := Lib.hid (HN.out.on hb); have HX1 := Lib.hid (boxN_below HX0.out hb); obtain ⟨⟨q0, q1, q2, q3, q4⟩, -⟩ := box5 HX1.out; clear hb)
      | (go_at_call 13; refine (HPR.out _ HN1.out).mono ?_; rintro e w2 ⟨rfl, hb⟩; have HB2 := Lib.hid (HB1.out.trans (hb.mono HB1.out.size)); clear hb))
    go_ret
    exact ⟨rfl, HB2.out⟩
end Go.Proofs.YtdpmihlmfephiaaGreatDoor
