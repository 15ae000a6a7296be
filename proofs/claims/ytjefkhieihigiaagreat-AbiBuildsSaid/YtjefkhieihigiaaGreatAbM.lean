/- What a program begins with: Build. -/
import Derived.Test.YtjefkhieihigiaaGreatAbG
import Derived.Test.YtjefkhieihigiaaGreatAbJ
import Derived.Test.YtjefkhieihigiaaGreatAbL
import Derived.Deep.MidRow
import Derived.Great.BuildSlice
namespace Go.Proofs.YtjefkhieihigiaaGreat
set_option linter.unusedVariables false
set_option linter.unusedSimpArgs false
open Go.Joins Go.ChangeShapes Go.WideShapes Go.ChangeAt Go.RowKit Go.Deep

theorem results_cell_tmp {P : Program} {fn : Func} {p q : Tmp} {ty : TypeId} (h : fn.results = #[.cell p ty, .tmp q]) (tmps : Array Value) (w : World) (g : Nat) (cs : List Value) (d : TypeDesc) (v : Value)
    (hp : tmps.getD p undef = .pointer (some ⟨g, 0, none⟩)) (hq : tmps.getD q undef = v) (hc : w.rangeAt g 0 cs) (hu : P.underlying ty = some d) (hd : d.isRow = true) (hi : (P.info? ty).map (·.size) = some cs.length) :
    (results fn tmps).run P w = .ok (.tuple #[.agg cs.toArray, v]) w := by
  have hp' : tmps[p]?.getD undef = .pointer (some ⟨g, 0, none⟩) := by simpa using hp
  have hq' : tmps[q]?.getD undef = v := by simpa using hq
  simp [results, h, hp', hq', asAddr, run_loadVar_mid w g 0 ty cs d hc hu hd hi]
theorem BoxN.there {W : World} {B : Nat} {cs : Array Value} (h : BoxN W B cs) : W.there B 0 cs.size := fun j hj => ⟨by rw [Nat.zero_add, h.cell j, Array.getElem?_eq_getElem hj]; rfl, by rw [Nat.zero_add]; exact h.frozen j⟩
theorem below_setCells {B : Nat} {w : World} (b : Nat) (hb : B ≤ b) : ∀ (vs : List Value) (o : Nat) (w' : World), Below B w w' → Below B w (w'.setCells b o vs)
  | [], _, _, h => h
  | v :: r, o, w', h => below_setCells b hb r (o + 1) _ (Below.setCell (p := ⟨b, o, none⟩) h hb v)
theorem kp_setCells {n : Nat} {S : Nat → Prop} {A : World} (b : Nat) (hb : n ≤ b ∨ S b) : ∀ (vs : List Value) (o : Nat) (B : World), KP n S A B → KP n S A (B.setCells b o vs)
  | [], _, _, h => h
  | v :: r, o, B, h => kp_setCells b hb r (o + 1) _ (h.set ⟨b, o, none⟩ hb v)
theorem startSize : (Tryz.prog.info? 39).map (·.size) = some 24 := by kernel_rfl
abbrev zero24 : Array Value := #[.int .u64 0, .int .u64 0, .int .u64 0, .int .i64 0, .int .i64 0, .bool false, .int .u64 0, .int .u64 0, .int .u64 0, .int .i64 0, .int .i64 0, .bool false, .int .u64 0, .int .u64 0, .int .u64 0, .int .i64 0, .int .i64 0, .bool false, .int .u64 0, .int .u64 0, .int .u64 0, .int .i64 0, .int .i64 0, .bool false]
theorem zero24_one : zero24.all (·.oneCell') = true := by kernel_rfl
set_option maxRecDepth 100000 in
set_option maxHeartbeats 4000000 in
theorem build_no (W : World) (M : Nat) (m : Mm) (f p : Int) (a1 a2 a3 : Option Addr) (c1 c2 c3 : Nat) (l1 l2 : List (List UInt8)) (k : List Cp) (h1 : Rd W a1 l1.length (strs l1)) (h2 : Rd W a2 l2.length (strs l2)) (h3 : Rd W a3 (k.length * 6) (capsV k)) (hl1 : l1.length ≤ 400) (hl2 : l2.length ≤ 400) (hk : k.length ≤ 400)
    (hno : (textsB l1 && (textsB l2 && auxB k)) = false) :
    Calls Tryz.prog 11 #[.pointer (some ⟨M, 0, none⟩), .int .u64 f, .int .i64 p, .slice a1 l1.length c1, .slice a2 l2.length c2, .slice a3 k.length c3] W fun e W' => e = .returned (.tuple #[.agg zero24, .int .i64 1]) ∧ Below W.heap.size W W' := by
  have HT1 := Lib.hid (fun W1 (hb : Below W.heap.size W W1) => textsFit_any a1 c1 l1 W1 (h1.below hb) (by omega))
  have HT2 := Lib.hid (fun W1 (hb : Below W.heap.size W W1) => textsFit_any a2 c2 l2 W1 (h2.below hb) (by omega))
  have HA := Lib.hid (fun W1 (hb : Below W.heap.size W W1) => auxFits_any a3 c3 k W1 (h3.below hb) (by omega))
  obtain ⟨W0, hW0⟩ : ∃ W0, W.alloc (.cells zero24 39) = W0 := ⟨_, rfl⟩
  have hb0 : Below W.heap.size W W0 := by rw [← hW0]; exact bAlloc (Below.refl _ _) _
  have HZ0 : Hid (BoxN W0 W.heap.size zero24) := Lib.hid (by rw [← hW0]; exact BoxN.new W _ _)
  have HB0 := Lib.hid hb0
  have HW0 := Lib.hid hW0
  obtain ⟨t1, ht1⟩ : ∃ t, textsB l1 = t := ⟨_, rfl⟩
  obtain ⟨t2, ht2⟩ : ∃ t, textsB l2 = t := ⟨_, rfl⟩
  obtain ⟨t3, ht3⟩ : ∃ t, auxB k = t := ⟨_, rfl⟩
  rw [ht1] at HT1 hno
  rw [ht2] at HT2 hno
  rw [ht3] at HA hno
  generalize l1.length = n1 at *
  generalize l2.length = n2 at *
  generalize k.length = n3 at *
  clear h1 h2 h3 hl1 hl2 hk ht1 ht2 ht3 hb0 hW0
  cases t1 with
  | false =>
    clear hno
    go_enter Tryz.func11, Tryz.ntmps11
    go_upto_region 1 with fail
    (try rw [HW0.out])
    clear HW0
    go_upto_region 2 with (first
      | (go_at_call 29; refine (HT1.out _ HB0.out).mono ?_; rintro e w1 ⟨rfl, hb⟩; have HZ1 := Lib.hid (boxN_below HZ0.out hb); have HB1 := Lib.hid (HB0.out.trans (hb.mono HB0.out.size)); clear hb))
    apply wp_region_lit
    refine wpList_buildTo rfl 39 _ rfl (some 32) rfl zero24 (by kernel_rfl) ?_
    refine wpList_store_mid rfl _ _ _ rfl W.heap.size 0 zero24 rfl rfl HZ1.out.there startSize zero24_one ?_
    go_wp2_with fail
    refine bodyPost_ret (v := .tuple #[.agg zero24, .int .i64 1]) ?_ rfl ⟨rfl, ?_⟩
    · exact results_cell_tmp Tryz.results11 _ _ W.heap.size zero24.toList _ _ rfl rfl (World.rangeAt_setCells_same _ _ _ _ HZ1.out.there) Tryz.underlying39 rfl startSize
    · exact below_setCells _ (Nat.le_refl _) _ _ _ HB1.out
  | true =>
    cases t2 with
    | false =>
      clear hno
      go_enter Tryz.func11, Tryz.ntmps11
      go_upto_region 1 with fail
      (try rw [HW0.out])
      clear HW0
      go_upto_region 2 with (first
        | (go_at_call 29; refine (HT2.out _ HB1.out).mono ?_; rintro e w2 ⟨rfl, hb⟩; have HZ2 := Lib.hid (boxN_below HZ1.out hb); have HB2 := Lib.hid (HB1.out.trans (hb.mono HB1.out.size)); clear hb)
        | (go_at_call 29; refine (HT1.out _ HB0.out).mono ?_; rintro e w1 ⟨rfl, hb⟩; have HZ1 := Lib.hid (boxN_below HZ0.out hb); have HB1 := Lib.hid (HB0.out.trans (hb.mono HB0.out.size)); clear hb))
      apply wp_region_lit
      refine wpList_buildTo rfl 39 _ rfl (some 32) rfl zero24 (by kernel_rfl) ?_
      refine wpList_store_mid rfl _ _ _ rfl W.heap.size 0 zero24 rfl rfl HZ2.out.there startSize zero24_one ?_
      go_wp2_with fail
      refine bodyPost_ret (v := .tuple #[.agg zero24, .int .i64 1]) ?_ rfl ⟨rfl, ?_⟩
      · exact results_cell_tmp Tryz.results11 _ _ W.heap.size zero24.toList _ _ rfl rfl (World.rangeAt_setCells_same _ _ _ _ HZ2.out.there) Tryz.underlying39 rfl startSize
      · exact below_setCells _ (Nat.le_refl _) _ _ _ HB2.out
    | true =>
      cases t3 with
      | true => cases hno
      | false =>
        clear hno
        go_enter Tryz.func11, Tryz.ntmps11
        go_upto_region 1 with fail
        (try rw [HW0.out])
        clear HW0
        go_upto_region 2 with (first
          | (go_at_call 30; refine (HA.out _ HB2.out).mono ?_; rintro e w3 ⟨rfl, hb⟩; have HZ3 := Lib.hid (boxN_below HZ2.out hb); have HB3 := Lib.hid (HB2.out.trans (hb.mono HB2.out.size)); clear hb)
          | (go_at_call 29; refine (HT2.out _ HB1.out).mono ?_; rintro e w2 ⟨rfl, hb⟩; have HZ2 := Lib.hid (boxN_below HZ1.out hb); have HB2 := Lib.hid (HB1.out.trans (hb.mono HB1.out.size)); clear hb)
          | (go_at_call 29; refine (HT1.out _ HB0.out).mono ?_; rintro e w1 ⟨rfl, hb⟩; have HZ1 := Lib.hid (boxN_below HZ0.out hb); have HB1 := Lib.hid (HB0.out.trans (hb.mono HB0.out.size)); clear hb))
        apply wp_region_lit
        refine wpList_buildTo rfl 39 _ rfl (some 32) rfl zero24 (by kernel_rfl) ?_
        refine wpList_store_mid rfl _ _ _ rfl W.heap.size 0 zero24 rfl rfl HZ3.out.there startSize zero24_one ?_
        go_wp2_with fail
        refine bodyPost_ret (v := .tuple #[.agg zero24, .int .i64 1]) ?_ rfl ⟨rfl, ?_⟩
        · exact results_cell_tmp Tryz.results11 _ _ W.heap.size zero24.toList _ _ rfl rfl (World.rangeAt_setCells_same _ _ _ _ HZ3.out.there) Tryz.underlying39 rfl startSize
        · exact below_setCells _ (Nat.le_refl _) _ _ _ HB3.out
end Go.Proofs.YtjefkhieihigiaaGreat
