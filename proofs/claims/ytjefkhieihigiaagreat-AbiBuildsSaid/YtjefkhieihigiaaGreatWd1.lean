/- Merged: Wm Wb Mem WordA WordB WordC WordD. -/
import Derived.WalkKit
import Derived.Laws.BitsAllLaws
import Derived.Laws.MakeOwn
import Derived.Below
import Derived.Laws.OwnMore
import Derived.OwnWalk
import Derived.RowKit3
import Derived.ChangeSame
import Derived.OpenShut
import Derived.Deep.Draws
import Derived.Deep.OwnRows
import Derived.Test.YtjefkhieihigiaaGreatRows
import Derived.ProofKit
import Derived.Outline
import Derived.Deep.QuietTactic
import Derived.BigQuiet
import Derived.LoopTactic
import Derived.Lib.Hide
import Derived.Maps.AppendAt
namespace Go.Proofs.YtjefkhieihigiaaGreat
set_option linter.unusedVariables false
set_option linter.unusedSimpArgs false
open Go Go.RowKit

theorem ret_int {k : IntKind} {a b : Int} (h : a = b) : Ending.returned (.int k a) = .returned (.int k b) := by rw [h]
theorem ret_bool {a b : Bool} (h : a = b) : Ending.returned (.bool a) = .returned (.bool b) := by rw [h]
theorem pow_cast (k : Nat) : ((2 : Int) ^ k) = ((2 ^ k : Nat) : Int) := by simp
theorem pow_le64 {k : Nat} (h : k ≤ 64) : 2 ^ k ≤ 18446744073709551616 := Nat.pow_le_pow_right (by decide : 0 < 2) h
theorem pow_lt64 {k : Nat} (h : k < 64) : 2 ^ k ≤ 9223372036854775808 := Nat.pow_le_pow_right (by decide : 0 < 2) (by omega : k ≤ 63)
theorem pow_pos' (k : Nat) : 0 < 2 ^ k := Nat.pow_pos (by decide)
/-! Bits. -/
def bitsN (x f m : Nat) : Nat := x / 2 ^ f % 2 ^ m
def bitsZ (x f m : Int) : Int := if f < 0 ∨ 63 < f ∨ m < 1 ∨ 64 - f < m then 0 else ((bitsN x.toNat f.toNat m.toNat : Nat) : Int)
theorem div_lt (x f : Nat) (h : x < 18446744073709551616) : x / 2 ^ f < 18446744073709551616 := Nat.lt_of_le_of_lt (Nat.div_le_self _ _) h
theorem ediv_nat (x k : Nat) : (x : Int) / 2 ^ k = ((x / 2 ^ k : Nat) : Int) := by rw [pow_cast]; simp
theorem and1 (x : Nat) (h : x < 18446744073709551616) : bits .and .u64 (x : Int) 1 = ((x % 2 : Nat) : Int) := by
  have := u64_and_nat x 1 h (by decide)
  rw [show ((1 : Nat) : Int) = 1 from rfl] at this
  rw [this, nat_mask1]
theorem bit_form (x i : Nat) (h : x < 18446744073709551616) : bits .and .u64 ((x : Int) / 2 ^ i) 1 = ((x / 2 ^ i % 2 : Nat) : Int) := by
  rw [ediv_nat, and1 _ (div_lt x i h)]
theorem or_bit (a b k : Nat) (ha : a < 2 ^ k) (hb : b < 2) (hk : k < 64) :
    bits .or .u64 (a : Int) (IntKind.u64.wrap ((b : Int) * 2 ^ k)) = ((a + 2 ^ k * b : Nat) : Int) := by
  have hp := pow_lt64 hk
  have hl : 2 ^ k * b ≤ 9223372036854775808 := Nat.le_trans (Nat.mul_le_mul_left _ (by omega : b ≤ 1)) (by omega)
  rw [pow_cast, show ((b : Int) * ((2 ^ k : Nat) : Int)) = ((2 ^ k * b : Nat) : Int) by rw [Nat.mul_comm]; simp]
  rw [IntKind.wrap_u64, show ((2 ^ k * b : Nat) : Int) % 18446744073709551616 = ((2 ^ k * b : Nat) : Int) by omega]
  rw [u64_or_nat _ _ (by omega) (by omega), Nat.or_comm, Nat.add_comm]
  exact congrArg _ (nat_join k (2 ^ k * b) a (by simp) ha)
theorem mod_step (y k : Nat) : y % 2 ^ k + 2 ^ k * (y / 2 ^ k % 2) = y % 2 ^ (k + 1) := (Nat.mod_pow_succ).symm
/-- one round that lays bit k of y behind the k lowest ones -/
theorem or_step (y c k : Nat) (hk : k < 64) (hc : c = y / 2 ^ k % 2) :
    bits .or .u64 ((y % 2 ^ k : Nat) : Int) (IntKind.u64.wrap ((c : Int) * 2 ^ k)) = ((y % 2 ^ (k + 1) : Nat) : Int) := by
  subst hc
  rw [or_bit _ _ k (Nat.mod_lt _ (pow_pos' k)) (Nat.mod_lt _ (by decide)) hk, mod_step]
theorem rbits_step (x f k : Nat) (hx : x < 18446744073709551616) (hk : k < 64) :
    bits .or .u64 ((x / 2 ^ f % 2 ^ k : Nat) : Int) (IntKind.u64.wrap (bits .and .u64 ((x : Int) / 2 ^ (f + k)) 1 * 2 ^ k)) = ((x / 2 ^ f % 2 ^ (k + 1) : Nat) : Int) := by
  rw [bit_form x _ hx, or_step (x / 2 ^ f) _ k hk]
  rw [Nat.pow_add, Nat.div_div_eq_div_mul]

/-! Signs. -/
/-! Whether a number has so few bits. -/
/-! Products. -/
theorem wrap_nat (n : Nat) (h : n < 18446744073709551616) : IntKind.u64.wrap (n : Int) = (n : Int) := by rw [IntKind.wrap_u64]; omega
/-! Quotients. -/
/-! The document's long division. -/
/-! The document's product: sums of 128 bits. -/
end Go.Proofs.YtjefkhieihigiaaGreat

namespace Go.Proofs.YtjefkhieihigiaaGreat
set_option linter.unusedVariables false
set_option linter.unusedSimpArgs false
open Go Go.RowKit

/-! Bytes. -/
def u8s (l : List Nat) : List Value := l.map fun (b : Nat) => Value.int .u8 (b : Int)
theorem u8s_length (l : List Nat) : (u8s l).length = l.length := by simp [u8s]
theorem u8s_get (l : List Nat) (k : Nat) (h : k < l.length) : (u8s l)[k]? = some (.int .u8 ((l[k] : Nat) : Int)) := by simp [u8s, h]
def ofN : List Nat → Nat
  | [] => 0
  | b :: r => b + 256 * ofN r
theorem ofN_snoc (l : List Nat) (b : Nat) : ofN (l ++ [b]) = ofN l + 2 ^ (8 * l.length) * b := by
  induction l with
  | nil => simp [ofN]
  | cons c r ih =>
    simp only [List.cons_append, ofN, ih, List.length_cons]
    rw [show 8 * (r.length + 1) = 8 + 8 * r.length by omega, Nat.pow_add, show (2 : Nat) ^ 8 = 256 from rfl, Nat.mul_add, Nat.mul_assoc]
    omega
theorem ofN_lt (l : List Nat) (h : ∀ b ∈ l, b < 256) : ofN l < 2 ^ (8 * l.length) := by
  induction l with
  | nil => simp [ofN]
  | cons c r ih =>
    have h1 := ih fun b hb => h b (List.mem_cons_of_mem _ hb)
    have h2 := h c List.mem_cons_self
    simp only [ofN, List.length_cons]
    rw [show 8 * (r.length + 1) = 8 + 8 * r.length by omega, Nat.pow_add, show (2 : Nat) ^ 8 = 256 from rfl]
    omega
theorem take_snoc {α : Type} (l : List α) (k : Nat) (h : k < l.length) : l.take (k + 1) = l.take k ++ [l[k]] := by
  rw [List.take_succ_eq_append_getElem h]
def ofB (l : List Nat) : Nat := ofN (l.take 8)
theorem of_step (l : List Nat) (k : Nat) (h : ∀ b ∈ l, b < 256) (hk : k < l.length) (h8 : k < 8) :
    bits .or .u64 ((ofN (l.take k) : Nat) : Int) (IntKind.u64.wrap (((l[k] : Nat) : Int) * 2 ^ (8 * k))) = ((ofN (l.take (k + 1)) : Nat) : Int) := by
  have hb := h l[k] (List.getElem_mem hk)
  have hl : (l.take k).length = k := by rw [List.length_take]; omega
  have ha := ofN_lt (l.take k) fun b hb => h b (List.mem_of_mem_take hb)
  rw [take_snoc l k hk, ofN_snoc]
  rw [hl] at ha ⊢
  have hp := pow_le64 (k := 8 * k + 8) (by omega)
  rw [Nat.pow_add] at hp
  have hm : 2 ^ (8 * k) * l[k] < 18446744073709551616 := by
    have : 2 ^ (8 * k) * (l[k] + 1) ≤ 2 ^ (8 * k) * 2 ^ 8 := Nat.mul_le_mul_left _ (by omega)
    have := pow_pos' (8 * k)
    rw [Nat.mul_add] at *
    omega
  have hq := pow_le64 (k := 8 * k) (by omega)
  rw [pow_cast, ← Int.natCast_mul, Nat.mul_comm, wrap_nat _ hm, u64_or_nat _ _ (by omega) hm, Nat.or_comm, Nat.add_comm]
  exact congrArg _ (nat_join (8 * k) _ _ (by simp) ha)
def byteN (w i : Nat) : Nat := w / 2 ^ (8 * i) % 256
def littleN (w n : Nat) : List Nat := (List.range n).map (byteN w)
def littleZ (w n : Int) : List Nat := if n < 1 ∨ 8 < n then [] else littleN w.toNat n.toNat
theorem byte_form (w i : Nat) : (w : Int) / 2 ^ (8 * i) % 256 = ((byteN w i : Nat) : Int) := by
  rw [ediv_nat]; unfold byteN; omega
theorem byte_bits (w i : Nat) (h : i < 8) : bitsZ (w : Int) (8 * (i : Int)) 8 = ((byteN w i : Nat) : Int) := by
  unfold bitsZ byteN bitsN
  rw [if_neg (by omega), Int.toNat_natCast, show (8 * (i : Int)).toNat = 8 * i by omega]
  rfl
theorem byte_lt (w i : Nat) : byteN w i < 256 := Nat.mod_lt _ (by decide)
theorem littleN_length (w n : Nat) : (littleN w n).length = n := by simp [littleN]
theorem size_made1 (z : Value) (n : Nat) : (madeCells #[z] n).size = n := size_madeCells _ _
theorem ne_bool (a b : Nat) : ((a : Int) != (b : Int)) = decide (a ≠ b) := by rw [Bool.eq_iff_iff, bne_iff_ne, decide_eq_true_iff]; omega
/-- the row while it is filled: k bytes laid, the others 0 -/
def fillN (w n k : Nat) : List Value := (List.range n).map fun j => .int .u8 (if j < k then ((byteN w j : Nat) : Int) else 0)
theorem fill_start (w n : Nat) : fillN w n 0 = List.replicate n (.int .u8 0) := by
  apply List.ext_getElem
  · simp [fillN]
  · intro i h1 h2; simp [fillN]
theorem fill_step (w n k : Nat) (h : k < n) : (fillN w n k).set k (.int .u8 ((byteN w k : Nat) : Int)) = fillN w n (k + 1) := by
  apply List.ext_getElem
  · simp [fillN]
  · intro i h1 h2
    rw [List.getElem_set]
    by_cases hi : k = i
    · subst hi; simp [fillN]
    · rw [if_neg hi]
      simp only [fillN, List.getElem_map, List.getElem_range]
      by_cases h3 : i < k
      · rw [if_pos h3, if_pos (by omega)]
      · rw [if_neg h3, if_neg (by omega)]
theorem fill_end (w n : Nat) : fillN w n n = u8s (littleN w n) := by
  apply List.ext_getElem
  · simp [fillN, u8s, littleN]
  · intro i h1 h2
    have : i < n := by simpa [fillN] using h1
    simp [fillN, u8s, littleN, this]
theorem littleN_snoc (w n : Nat) : littleN w (n + 1) = littleN w n ++ [byteN w n] := by simp [littleN, List.range_succ]
end Go.Proofs.YtjefkhieihigiaaGreat

namespace Go.Proofs.YtjefkhieihigiaaGreat
set_option linter.unusedVariables false
set_option linter.unusedSimpArgs false
open Go.RowKit

/-- the world with draws made, and nothing else -/
def Quiet (w w' : World) : Prop := ∃ n, w' = w.drewN n
theorem Quiet.refl (w : World) : Quiet w w := ⟨0, rfl⟩

/-- the slice value of address a and length n reads as xs -/
def Rd (w : World) (a : Option Addr) (n : Nat) (xs : List Value) : Prop :=
  xs.length = n ∧ (0 < n → ∃ b off, a = some ⟨b, off, none⟩ ∧ b < w.heap.size ∧ ∀ k, k < n → w.cell? ⟨b, off + k, none⟩ = xs[k]?)

theorem heap_lt_of_cell {w : World} {p : Addr} {v : Value} (h : w.cell? p = some v) : p.block < w.heap.size := by
  rcases Nat.lt_or_ge p.block w.heap.size with hlt | hge
  · exact hlt
  · unfold World.cell? at h
    rw [Array.getElem?_eq_none hge] at h
    simp at h

theorem Rd.at_ {w : World} {a : Option Addr} {n : Nat} {xs : List Value} (h : Rd w a n xs) {k : Nat} (hk : k < n) :
    ∃ b off, a = some ⟨b, off, none⟩ ∧ b < w.heap.size ∧ w.cell? ⟨b, off + k, none⟩ = xs[k]? := by
  obtain ⟨b, off, e, hl, hc⟩ := h.2 (by omega)
  exact ⟨b, off, e, hl, hc k hk⟩
theorem Rd.nil (w : World) (a : Option Addr) : Rd w a 0 [] := ⟨rfl, fun h => absurd h (by omega)⟩
theorem Rd.below {w w' : World} {a : Option Addr} {n : Nat} {xs : List Value} (h : Rd w a n xs) (hb : Below w.heap.size w w') : Rd w' a n xs :=
  ⟨h.1, fun hn => by
    obtain ⟨b, off, e, hl, hc⟩ := h.2 hn
    exact ⟨b, off, e, Nat.lt_of_lt_of_le hl hb.size, fun k hk => (hb.cell (p := ⟨b, off + k, none⟩) hl).trans (hc k hk)⟩⟩
theorem Rd.drewN {w : World} {a : Option Addr} {n : Nat} {xs : List Value} (h : Rd w a n xs) (k : Nat) : Rd (w.drewN k) a n xs := h
theorem Rd.of_own {w : World} {base : Nat} {e : TypeId} {a : Option Addr} {n c : Nat} {xs : List Value} (h : w.ownsRow base e 1 (.slice a n c) n xs) : Rd w a n xs := by
  refine ⟨by have := h.1; omega, fun hn => ?_⟩
  rcases h.2 with ⟨_, h0⟩ | ⟨g, cap, cur, hv, _, hg, hnc, _, hs, htake⟩
  · omega
  · simp only [Value.slice.injEq] at hv
    obtain ⟨rfl, _, rfl⟩ := hv
    refine ⟨g, 0, rfl, ?_, fun k hk => ?_⟩
    · rcases Nat.lt_or_ge g w.heap.size with hlt | hge
      · exact hlt
      · rw [Array.getElem?_eq_none hge] at hg; cases hg
    · rw [Nat.zero_add]
      exact h.cellAt k (by omega)

theorem below_drewN (w : World) (n : Nat) : Below w.heap.size w (w.drewN n) := ⟨rfl, rfl, rfl, Nat.le_refl _, fun _ _ => rfl⟩
theorem bAlloc {w w' : World} (h : Below w.heap.size w w') (o : Obj) : Below w.heap.size w (w'.alloc o) := h.alloc h.size o
theorem bTrans {w w1 w2 : World} (h : Below w.heap.size w w1) (k : Below w1.heap.size w1 w2) : Below w.heap.size w w2 := h.trans (k.mono h.size)
theorem bDrewN {B : Nat} {w w' : World} (h : Below B w w') (n : Nat) : Below B w (w'.drewN n) := ⟨h.os, h.tape, h.output, h.size, h.block⟩

theorem Rd.lit (w : World) (cs : Array Value) (e : TypeId) (h : cs.size ≤ maxLen) : Rd (w.alloc (.cells cs e)) (some ⟨w.heap.size, 0, none⟩) cs.size cs.toList :=
  Rd.of_own (World.ownsRow_lit (base := 0) (e := e) (size := 1) w cs cs.size (Nat.zero_le _) h (by omega))
theorem Rd.alloc {w : World} {a : Option Addr} {n : Nat} {xs : List Value} (h : Rd w a n xs) (o : Obj) : Rd (w.alloc o) a n xs := h.below ((Below.refl _ _).alloc (Nat.le_refl _) o)
theorem size_alloc (w : World) (o : Obj) : (w.alloc o).heap.size = w.heap.size + 1 := by simp
theorem Rd.lit1 (w : World) (o : Obj) (cs : Array Value) (e : TypeId) (h : cs.size ≤ maxLen) : Rd ((w.alloc o).alloc (.cells cs e)) (some ⟨w.heap.size + 1, 0, none⟩) cs.size cs.toList := by
  have := Rd.lit (w.alloc o) cs e h
  rwa [size_alloc] at this
theorem own_slice {w : World} {base : Nat} {e : TypeId} {size n : Nat} {v : Value} {xs : List Value} (h : w.ownsRow base e size v n xs) : ∃ a c, v = .slice a n c ∧ n ≤ maxLen := by
  rcases h.2 with ⟨rfl, rfl⟩ | ⟨g, cap, cur, rfl, _, _, h1, h2, _⟩
  · exact ⟨_, _, rfl, Nat.zero_le _⟩
  · exact ⟨_, _, rfl, Nat.le_trans h1 h2⟩

open Go.WideShapes Go.ChangeShapes in
/-- what a row asks behind the call, where the call made new blocks alone -/
theorem post_below {H : Type} {enc : TypeId × Value → H} {P : Program} {f : Func} {s : ChangeSpec} {apart fresh handsOn again : Bool} {W W' : World} {args : Array Value} {v : Value} {ds gs : List (DataW H)} {before pa pv : List MemPlace}
    (hW : DataW.Whole enc P f.params.toList s.vars apart W args.toList ds gs before)
    (hres : ∀ (b : Nat) (sp : Nat → Bool) (hd : Bool), DataW.TrodAll enc P W' b sp hd f.resultTypes.toList (v.resultList f.resultTypes.size) (s.fn H (ds ++ gs)).results [])
    (hargs : ∀ sp : Nat → Bool, (∀ p ∈ before, sp p.block = true) → DataW.TrodAll enc P W' 0 sp true f.params.toList args.toList (s.fn H (ds ++ gs)).args pa)
    (hvars : ∀ sp : Nat → Bool, (∀ p ∈ before, sp p.block = true) → DataW.TrodVars enc P W' sp s.vars (s.fn H (ds ++ gs)).vars pv)
    (hps : before = pa ++ pv) (hb : Below W.heap.size W W')
    (hok : ∀ (j : Nat) (t : TypeId) (r : Value), f.resultTypes[j]? = some t → (v.resultList f.resultTypes.size)[j]? = some r → Value.okWide P W' .any 0 t r) :
    s.post enc P f apart fresh handsOn again W args v W' := by
  subst hps
  have old : ∀ p ∈ pa ++ pv, p.block < W.heap.size := fun p h => hW.lt p h
  have mark : ∀ p ∈ pa ++ pv, (fun b => decide (b < W.heap.size)) p.block = true := fun p h => decide_eq_true (old p h)
  obtain ⟨_, _, _, _, _, hz, hn⟩ := id hW
  refine ⟨ds, gs, pa ++ pv, [], pa, pv, hW, hres _ _ _, hargs _ mark, hvars _ mark, World.keptBut_mono (fun p h => ⟨h, .inr (List.mem_append.1 h)⟩) (hb.frame (· ∈ pa ++ pv)), fun _ =>
    ⟨hok, _, _, ([] ++ pa) ++ pv, ⟨[] ++ pa, pv, trodAll_append (hargs _ (fun _ _ => rfl)) (hres _ _ _), hvars _ (fun _ _ => rfl), rfl, fun b off h => ?_, fun ha => ?_⟩, fun p h _ => ?_⟩⟩
  · have hin : MemPlace.cell b off ∈ pa ++ pv := by simpa using h
    rw [hb.frozen (p := ⟨b, off, none⟩) (old _ hin)]
    exact hz b off hin
  · simpa using hn ha
  · simpa using h
end Go.Proofs.YtjefkhieihigiaaGreat

namespace Go.Proofs.YtjefkhieihigiaaGreat
open Go.ChangeShapes Go.WideShapes Go.ChangeAt Go.RowKit


theorem rbits_any (x f m : Int) (w : World) (hx0 : 0 ≤ x) (hx1 : x < 18446744073709551616) :
    Calls Tryz.prog 87 #[.int .u64 x, .int .i64 f, .int .i64 m] w fun e w' => e = .returned (.int .u64 (bitsZ x f m)) ∧ w = w' := by
  by_cases hg : f < 0 ∨ 63 < f ∨ m < 1 ∨ 64 - f < m
  · have hz : bitsZ x f m = 0 := by unfold bitsZ; rw [if_pos hg]
    rw [hz]
    clear hz hx0 hx1
    rcases hg with h | h | h | h
    all_goals
      go_enter Tryz.func87, Tryz.ntmps87
      go_wp2
      all_goals
        go_ret
        exact ⟨rfl, rfl⟩
  · have hz : bitsZ x f m = ((bitsN x.toNat f.toNat m.toNat : Nat) : Int) := by unfold bitsZ; rw [if_neg hg]
    rw [hz]
    clear hz
    obtain ⟨x, rfl⟩ := Int.eq_ofNat_of_zero_le hx0
    obtain ⟨f, rfl⟩ := Int.eq_ofNat_of_zero_le (show 0 ≤ f by omega)
    obtain ⟨m, rfl⟩ := Int.eq_ofNat_of_zero_le (show 0 ≤ m by omega)
    rw [Int.toNat_natCast, Int.toNat_natCast, Int.toNat_natCast]
    have a1 : decide ((f : Int) < 0) = false := by simp
    have a2 : decide (63 < (f : Int)) = false := by simp; omega
    have a3 : decide ((m : Int) < 1) = false := by simp; omega
    have a4 : decide (64 - (f : Int) < (m : Int)) = false := by simp; omega
    have b1 : f + m ≤ 64 := by omega
    have hx : x < 18446744073709551616 := by omega
    clear hg hx0 hx1
    go_enter Tryz.func87, Tryz.ntmps87
    go_wp2
    clear a1 a2 a3 a4
    go_loop [7, 8] (fun o i => ∃ k : Nat, k ≤ m ∧ i = .int .i64 k ∧ o = .int .u64 ((x / 2 ^ f % 2 ^ k : Nat) : Int)) (fun _ i => m - (intOf i).toNat)
    case atStart => exact ⟨0, by omega, rfl, by simp [Nat.mod_one]⟩
    case round =>
      obtain ⟨k, hk, rfl, rfl⟩ := hrel
      by_cases hlt : k < m
      · go_wp2
        go_round
        case rel => exact ⟨k + 1, by omega, by go_num, by refine congrArg (Value.int IntKind.u64) ?_; rw [← rbits_step x f k hx (by omega)]; simp⟩
        case measure => simp [intOf]; omega
      · obtain rfl : k = m := by omega
        go_wp2
        go_ret
        exact ⟨rfl, rfl⟩
end Go.Proofs.YtjefkhieihigiaaGreat

namespace Go.Proofs.YtjefkhieihigiaaGreat
set_option linter.unusedSimpArgs false
set_option linter.unusedVariables false
open Go.ChangeShapes Go.WideShapes Go.ChangeAt Go.RowKit

end Go.Proofs.YtjefkhieihigiaaGreat

namespace Go.Proofs.YtjefkhieihigiaaGreat
set_option linter.unusedSimpArgs false
set_option linter.unusedVariables false
open Go.ChangeShapes Go.WideShapes Go.ChangeAt Go.RowKit

end Go.Proofs.YtjefkhieihigiaaGreat

namespace Go.Proofs.YtjefkhieihigiaaGreat
set_option linter.unusedSimpArgs false
set_option linter.unusedVariables false
open Go.ChangeShapes Go.WideShapes Go.ChangeAt Go.RowKit

theorem infoU8 : (Tryz.prog.info? 5).map (fun i => (i.zero, i.size, i.bytes)) = some (some (.int .u8 0), 1, 1) := by kernel_rfl
theorem of_any (a : Option Addr) (n c : Nat) (l : List Nat) (w : World) (hr : Rd w a n (u8s l)) (hb : ∀ b ∈ l, b < 256) (hn : n ≤ 9223372036854775807) :
    Calls Tryz.prog 47 #[.slice a n c] w fun e w' => e = .returned (.int .u64 ((ofB l : Nat) : Int)) ∧ w = w' := by
  have hl : l.length = n := by rw [← u8s_length]; exact hr.1
  have HR := Lib.hid hr
  have HB := Lib.hid hb
  have HL := Lib.hid hl
  clear hb hl hr
  go_enter Tryz.func47, Tryz.ntmps47
  go_wp2
  all_goals
    go_loop [3, 8] (fun x i => ∃ k : Nat, k ≤ n ∧ k ≤ 8 ∧ i = .int .i64 k ∧ x = .int .u64 ((ofN (l.take k) : Nat) : Int)) (fun _ i => 8 - (intOf i).toNat)
    case atStart => exact ⟨0, by omega, by omega, rfl, rfl⟩
    case round =>
      obtain ⟨k, hk, h8, rfl, rfl⟩ := hrel
      by_cases hlt : k < n ∧ k < 8
      · obtain ⟨h1, h2⟩ := hlt
        have hkl : k < l.length := by rw [HL.out]; exact h1
        have ST := Lib.hid (of_step l k HB.out hkl h2)
        have h256 : l[k] < 256 := HB.out _ (List.getElem_mem hkl)
        obtain ⟨b, off, rfl, _, hc⟩ := HR.out.at_ h1
        rw [u8s_get l k hkl] at hc
        go_wp2
        go_round
        case rel => exact ⟨k + 1, by omega, by omega, by go_num, by rw [ST.out]⟩
        case measure => simp [intOf]; try omega
      · have E : ofN (l.take k) = ofB l := by
          unfold ofB
          rcases Nat.lt_or_ge k 8 with h | h
          · rw [List.take_of_length_le (by rw [HL.out]; omega), List.take_of_length_le (by rw [HL.out]; omega)]
          · rw [show k = 8 by omega]
        have HE := Lib.hid E
        clear E
        go_wp2
        go_ret
        exact ⟨ret_int (by rw [HE.out]), rfl⟩
/-- two lists, held against one another -/
theorem same_any (a b : Option Addr) (n c m d : Nat) (l r : List Nat) (w : World) (hl : Rd w a n (u8s l)) (hr : Rd w b m (u8s r)) (hn : n ≤ 9223372036854775807) (hm : m ≤ 9223372036854775807) :
    Calls Tryz.prog 17 #[.slice a n c, .slice b m d] w fun e w' => e = .returned (.bool (decide (l = r))) ∧ Quiet w w' := by
  have h1 : l.length = n := by rw [← u8s_length]; exact hl.1
  have h2 : r.length = m := by rw [← u8s_length]; exact hr.1
  by_cases hnm : n = m
  · subst hnm
    have HL := Lib.hid hl
    have HR := Lib.hid hr
    have H1 := Lib.hid h1
    have H2 := Lib.hid h2
    clear hl hr h1 h2
    go_enter Tryz.func17, Tryz.ntmps17
    go_wp2
    go_loopw [5] (fun i wr => ∃ k : Nat, k ≤ n ∧ i = .int .i64 k ∧ l.take k = r.take k ∧ Quiet w wr) (fun i _ => n - (intOf i).toNat)
    case atStart => exact ⟨0, by omega, rfl, rfl, Quiet.refl _⟩
    case round =>
      obtain ⟨k, hk, rfl, htk, hq⟩ := hrel
      have HT := Lib.hid htk
      obtain ⟨nq, rfl⟩ := hq
      clear htk
      by_cases hlt : k < n
      · have k1 : k < l.length := by rw [H1.out]; exact hlt
        have k2 : k < r.length := by rw [H2.out]; exact hlt
        obtain ⟨b1, o1, rfl, _, c1⟩ := HL.out.at_ hlt
        obtain ⟨b2, o2, rfl, _, c2⟩ := HR.out.at_ hlt
        rw [u8s_get l k k1] at c1
        rw [u8s_get r k k2] at c2
        go_wp2
        go_quiet (fail)
        go_wp2
        · have hne : (((l[k] : Nat) : Int) != ((r[k] : Nat) : Int)) = true := by assumption
          rw [ne_bool, decide_eq_true_iff] at hne
          have E : decide (l = r) = false := decide_eq_false fun e => by subst e; exact hne rfl
          go_ret
          exact ⟨ret_bool E.symm, _, World.drewN_drewN _ _ _⟩
        · have hne : (((l[k] : Nat) : Int) != ((r[k] : Nat) : Int)) = false := by assumption
          rw [ne_bool, decide_eq_false_iff_not, Decidable.not_not] at hne
          go_roundw
          case rel => exact ⟨k + 1, by omega, by go_num, by rw [take_snoc l k k1, take_snoc r k k2, HT.out, hne], _, rfl⟩
          case measure => simp [intOf]; try omega
      · have E : decide (l = r) = true := decide_eq_true (by
          have := HT.out
          rw [List.take_of_length_le (by rw [H1.out]; omega), List.take_of_length_le (by rw [H2.out]; omega)] at this
          exact this)
        have HE := Lib.hid E
        clear E
        go_wp2
        go_ret
        exact ⟨ret_bool HE.out.symm, nq, rfl⟩
  · have E : decide (l = r) = false := decide_eq_false fun e => by subst e; omega
    have ne : ((n : Int) != (m : Int)) = true := by rw [bne_iff_ne]; omega
    have HE := Lib.hid E
    clear E hl hr h1 h2 hnm
    go_enter Tryz.func17, Tryz.ntmps17
    go_wp2
    go_ret
    exact ⟨ret_bool HE.out.symm, Quiet.refl _⟩
theorem little_any (x n : Int) (w : World) (hx0 : 0 ≤ x) (hx1 : x < 18446744073709551616) :
    Calls Tryz.prog 85 #[.int .u64 x, .int .i64 n] w fun e w' => ∃ v, e = .returned v ∧ w'.ownsRow w.heap.size 5 1 v (littleZ x n).length (u8s (littleZ x n)) ∧ Below w.heap.size w w' := by
  by_cases hg : n < 1 ∨ 8 < n
  · have hz : littleZ x n = [] := by unfold littleZ; rw [if_pos hg]
    rw [hz]
    clear hz hx0 hx1
    rcases hg with h | h
    all_goals
      go_enter Tryz.func85, Tryz.ntmps85
      go_wp2
      all_goals
        go_ret
        exact ⟨_, rfl, World.ownsRow_nil _ _ _ _, Below.refl _ _⟩
  · have hz : littleZ x n = littleN x.toNat n.toNat := by unfold littleZ; rw [if_neg hg]
    rw [hz, littleN_length]
    clear hz
    obtain ⟨x, rfl⟩ := Int.eq_ofNat_of_zero_le hx0
    obtain ⟨n, rfl⟩ := Int.eq_ofNat_of_zero_le (show 0 ≤ n by omega)
    rw [Int.toNat_natCast, Int.toNat_natCast]
    have a3 : decide ((n : Int) < 1) = false := by simp; omega
    have a4 : decide (8 < (n : Int)) = false := by simp; omega
    have b1 : 1 ≤ n := by omega
    have b2 : n ≤ 8 := by omega
    clear hg hx0
    have hmk := run_make_row' (P := Tryz.prog) 52 5 (.int .u8 0) 1 Tryz.underlying52 (by kernel_rfl) rfl .i64 .i64 n (by omega) (by omega)
    go_enter Tryz.func85, Tryz.ntmps85
    go_wp2
    clear hmk a3 a4
    go_loopw [16] (fun i wr => ∃ k : Nat, k ≤ n ∧ i = .int .i64 k ∧ wr.ownsRow w.heap.size 5 1 (.slice (some ⟨w.heap.size, 0, none⟩) n n) n (fillN x n k) ∧ Below w.heap.size w wr) (fun i _ => n - (intOf i).toNat)
    case atStart =>
      refine ⟨0, by omega, rfl, ?_, (Below.refl _ _).alloc (Nat.le_refl _) _⟩
      have := World.ownsRow_lit (e := 5) (size := 1) w (madeCells #[.int .u8 0] n) n (Nat.le_refl _) (by unfold maxLen; omega) (by rw [size_made1]; omega)
      rw [fill_start, ← toList_madeCells_one]
      exact this
    case round =>
      obtain ⟨k, hk, rfl, hown, hbel⟩ := hrel
      by_cases hlt : k < n
      · have hc := hown.cellAt k (by omega)
        have hf := hown.frozenAt k
        have hst := hown.stored k (.int .u8 ((byteN x k : Nat) : Int))
        rw [fill_step x n k hlt] at hst
        have HS := Lib.hid hst
        have HB := Lib.hid hbel
        have HBF := Lib.hid (byte_form x k)
        have hcc : (fillN x n k)[k]? = some (.int .u8 0) := by simp [fillN, hlt]
        rw [hcc] at hc
        clear hst hbel hown hcc
        go_wp2
        rw [HBF.out]
        go_roundw
        case rel => exact ⟨k + 1, by omega, by go_num, HS.out.1, HB.out.setCell (Nat.le_refl _) _⟩
        case measure => simp [intOf]; try omega
      · obtain rfl : k = n := by omega
        rw [fill_end] at hown
        have HO := Lib.hid hown
        have HB := Lib.hid hbel
        clear hown hbel
        go_wp2
        go_ret
        exact ⟨_, rfl, HO.out, HB.out⟩
theorem rlittle_any (x n : Int) (w : World) (hx0 : 0 ≤ x) (hx1 : x < 18446744073709551616) :
    Calls Tryz.prog 78 #[.int .u64 x, .int .i64 n] w fun e w' => ∃ v, e = .returned v ∧ w'.ownsRow w.heap.size 5 1 v (littleZ x n).length (u8s (littleZ x n)) ∧ Below w.heap.size w w' := by
  by_cases hg : n < 1 ∨ 8 < n
  · have hz : littleZ x n = [] := by unfold littleZ; rw [if_pos hg]
    rw [hz]
    clear hz hx0 hx1
    rcases hg with h | h
    · have a4 : decide (8 < n) = false := by simp; omega
      have a5 : decide (0 < n) = false := by simp; omega
      clear h
      go_enter Tryz.func78, Tryz.ntmps78
      go_wp2
      go_loop [5, 6] (fun v i => v = .slice none 0 0 ∧ i = .int .i64 0) (fun _ i => 0)
      case atStart => exact ⟨rfl, rfl⟩
      case round =>
        obtain ⟨rfl, rfl⟩ := hrel
        go_wp2
        go_ret
        exact ⟨_, rfl, World.ownsRow_nil _ _ _ _, Below.refl _ _⟩
    · go_enter Tryz.func78, Tryz.ntmps78
      go_wp2
      go_ret
      exact ⟨_, rfl, World.ownsRow_nil _ _ _ _, Below.refl _ _⟩
  · have hz : littleZ x n = littleN x.toNat n.toNat := by unfold littleZ; rw [if_neg hg]
    rw [hz, littleN_length]
    clear hz
    obtain ⟨x, rfl⟩ := Int.eq_ofNat_of_zero_le hx0
    obtain ⟨n, rfl⟩ := Int.eq_ofNat_of_zero_le (show 0 ≤ n by omega)
    rw [Int.toNat_natCast, Int.toNat_natCast]
    have a4 : decide (8 < (n : Int)) = false := by simp; omega
    have hn : n ≤ 8 := by omega
    have HX := Lib.hid hx1
    clear hg hx0 hx1
    go_enter Tryz.func78, Tryz.ntmps78
    go_wp2
    clear a4
    obtain ⟨i0, hz⟩ := info_parts infoU8
    have HI := Lib.hid hz
    clear hz
    go_loopw [5, 6] (fun v i wr => ∃ k : Nat, k ≤ n ∧ i = .int .i64 k ∧ wr.ownsRow w.heap.size 5 1 v k (u8s (littleN x k)) ∧ Below w.heap.size w wr) (fun _ i _ => n - (intOf i).toNat)
    case atStart => exact ⟨0, by omega, rfl, World.ownsRow_nil _ _ _ _, Below.refl _ _⟩
    case round =>
      obtain ⟨k, hk, rfl, hown, hbel⟩ := hrel
      by_cases hlt : k < n
      · have e8 := byte_bits x k (by omega)
        have E8 := Lib.hid e8
        have hlo := byte_lt x k
        have hsz := hbel.size
        have HBEL := Lib.hid hbel
        clear hbel e8
        go_wp2_with (first
          | (go_at_call 87; refine (rbits_any _ _ _ _ (by omega) HX.out).mono ?_; rintro e w' ⟨rfl, rfl⟩; rw [E8.out])
          | (at_builtin; refine wpList_append_own _ rfl _ _ 52 rfl w.heap.size 5 i0 (.int .u8 0) 1 1 Tryz.underlying52 HI.out.1 HI.out.2.1 HI.out.2.2.1 HI.out.2.2.2 rfl (by decide) _ _ _ rfl (hown.alloc _) ⟨wr.heap.size, 0, none⟩ 1 1 [.int .u8 ((byteN x k : Nat) : Int)] rfl rfl (cell_one_new _ _ _) (fun x hx => by simp at hx; subst hx; rfl) (by unfold maxLen; omega) (by omega) (by simp; omega) ?_; intro v' w3 hown' hgrow3 hnil3))
        go_roundw
        case rel => exact ⟨k + 1, by omega, by go_num, by rw [littleN_snoc]; simpa [u8s] using hown', (HBEL.out.alloc hsz _).grown hgrow3 (by simp; omega) (fun g hg => by have := (hown.lt g hg).1; omega)⟩
        case measure => simp [intOf]; try omega
      · obtain rfl : k = n := by omega
        have HO := Lib.hid hown
        have HB := Lib.hid hbel
        clear hown hbel
        go_wp2
        go_ret
        exact ⟨_, rfl, HO.out, HB.out⟩
end Go.Proofs.YtjefkhieihigiaaGreat

