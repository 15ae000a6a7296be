/- Plain mathematics of capabilities: what each call makes of them. No program is named here. -/
import Derived.Test.YtidnojjhchmmgaaWm
namespace Go.Proofs.Ytidnojjhchmmgaa
set_option linter.unusedVariables false
set_option linter.unusedSimpArgs false
open Go Go.RowKit

structure CapV where
  base : Int
  top : Int
  at_ : Int
  perms : Int
  ty : Int
  tag : Bool

def CapV.clear (c : CapV) : CapV := ⟨c.base, c.top, c.at_, c.perms, c.ty, false⟩
def CapV.sealed (c : CapV) : Bool := decide (0 ≤ c.ty)
def CapV.live (c : CapV) : Bool := c.tag && !c.sealed
def moveC (c : CapV) (to : Int) : CapV := ⟨c.base, c.top, to, c.perms, c.ty, c.live⟩
def hasC (c : CapV) (n : Int) : Bool := decide (c.base ≤ c.at_) && (decide (n ≤ 18446744073709551615 - c.at_) && decide (c.at_ + n ≤ c.top))
def boundC (c : CapV) (n : Int) : CapV := if c.live && hasC c n then ⟨c.at_, c.at_ + n, c.at_, c.perms, c.ty, true⟩ else c.clear
def andC (c : CapV) (perms : Int) : CapV := ⟨c.base, c.top, c.at_, bits .and .i64 c.perms perms, c.ty, c.live⟩
def keyC (c : CapV) (perm : Int) : Bool := c.tag && (!c.sealed && (bits .and .i64 c.perms perm == perm && (decide (c.base ≤ c.at_) && decide (c.at_ < c.top))))
def sealC (c k : CapV) : CapV := if c.live && (keyC k 32 && decide (k.at_ < 64)) then ⟨c.base, c.top, c.at_, c.perms, k.at_, true⟩ else c.clear
def unsealC (c k : CapV) : CapV := if c.tag && (c.sealed && (keyC k 64 && k.at_ == IntKind.u64.wrap c.ty)) then ⟨c.base, c.top, c.at_, c.perms, -1, true⟩ else c.clear
def capCheckC (c : CapV) (n perms : Int) : Int := if c.tag then (if c.sealed then 21 else if bits .and .i64 c.perms perms == perms then (if hasC c n then 0 else 23) else 22) else 20
def withinC (a b : CapV) : Bool := if a.tag then (if decide (a.base < a.top) && (decide (a.base < b.base) || decide (b.top < a.top)) then false else if bits .and .i64 a.perms b.perms == a.perms then a.ty == b.ty && b.tag else false) else true
end Go.Proofs.Ytidnojjhchmmgaa
