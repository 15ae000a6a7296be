/- OpsT -/
import Derived.Test.YtegoddghfjfibaaGreatDoorZ01
import Derived.ProofKit
import Derived.WalkKit
import Derived.OpenShut
namespace Go.Proofs.YtegoddghfjfibaaGreatDoor
set_option linter.unusedVariables false
set_option linter.unusedSimpArgs false
open Go.ChangeShapes Go.WideShapes Go.ChangeAt Go.RowKit

def opT : List (List UInt8 × Int × Int × Int × Int × Int) := [([], 0, 0, 0, 0, 0), ([97, 100, 100], 1, 51, 0, 0, 0), ([115, 117, 98], 1, 51, 0, 32, 0), ([115, 108, 108], 1, 51, 1, 0, 0), ([115, 108, 116], 1, 51, 2, 0, 0), ([115, 108, 116, 117], 1, 51, 3, 0, 0), ([120, 111, 114], 1, 51, 4, 0, 0), ([115, 114, 108], 1, 51, 5, 0, 0), ([115, 114, 97], 1, 51, 5, 32, 0), ([111, 114], 1, 51, 6, 0, 0), ([97, 110, 100], 1, 51, 7, 0, 0), ([109, 117, 108], 1, 51, 0, 1, 0), ([109, 117, 108, 104], 1, 51, 1, 1, 0), ([109, 117, 108, 104, 115, 117], 1, 51, 2, 1, 0), ([109, 117, 108, 104, 117], 1, 51, 3, 1, 0), ([100, 105, 118], 1, 51, 4, 1, 0), ([100, 105, 118, 117], 1, 51, 5, 1, 0), ([114, 101, 109], 1, 51, 6, 1, 0), ([114, 101, 109, 117], 1, 51, 7, 1, 0), ([97, 100, 100, 119], 1, 59, 0, 0, 0), ([115, 117, 98, 119], 1, 59, 0, 32, 0), ([115, 108, 108, 119], 1, 59, 1, 0, 0), ([115, 114, 108, 119], 1, 59, 5, 0, 0), ([115, 114, 97, 119], 1, 59, 5, 32, 0), ([109, 117, 108, 119], 1, 59, 0, 1, 0), ([100, 105, 118, 119], 1, 59, 4, 1, 0), ([100, 105, 118, 117, 119], 1, 59, 5, 1, 0), ([114, 101, 109, 119], 1, 59, 6, 1, 0), ([114, 101, 109, 117, 119], 1, 59, 7, 1, 0), ([97, 100, 100, 105], 2, 19, 0, 0, 0), ([115, 108, 116, 105], 2, 19, 2, 0, 0), ([115, 108, 116, 105, 117], 2, 19, 3, 0, 0), ([120, 111, 114, 105], 2, 19, 4, 0, 0), ([111, 114, 105], 2, 19, 6, 0, 0), ([97, 110, 100, 105], 2, 19, 7, 0, 0), ([115, 108, 108, 105], 2, 19, 1, 0, 6), ([115, 114, 108, 105], 2, 19, 5, 0, 6), ([115, 114, 97, 105], 2, 19, 5, 16, 6), ([97, 100, 100, 105, 119], 2, 27, 0, 0, 0), ([115, 108, 108, 105, 119], 2, 27, 1, 0, 5), ([115, 114, 108, 105, 119], 2, 27, 5, 0, 5), ([115, 114, 97, 105, 119], 2, 27, 5, 32, 5), ([108, 98], 3, 3, 0, 0, 0), ([108, 104], 3, 3, 1, 0, 0), ([108, 119], 3, 3, 2, 0, 0), ([108, 100], 3, 3, 3, 0, 0), ([108, 98, 117], 3, 3, 4, 0, 0), ([108, 104, 117], 3, 3, 5, 0, 0), ([108, 119, 117], 3, 3, 6, 0, 0), ([99, 108, 99], 3, 15, 2, 0, 0), ([115, 98], 4, 35, 0, 0, 0), ([115, 104], 4, 35, 1, 0, 0), ([115, 119], 4, 35, 2, 0, 0), ([115, 100], 4, 35, 3, 0, 0), ([99, 115, 99], 4, 35, 4, 0, 0), ([98, 101, 113], 5, 99, 0, 0, 0), ([98, 110, 101], 5, 99, 1, 0, 0), ([98, 108, 116], 5, 99, 4, 0, 0), ([98, 103, 101], 5, 99, 5, 0, 0), ([98, 108, 116, 117], 5, 99, 6, 0, 0), ([98, 103, 101, 117], 5, 99, 7, 0, 0), ([108, 117, 105], 6, 55, 0, 0, 0), ([97, 117, 105, 112, 99, 99], 6, 23, 0, 0, 0), ([99, 106, 97, 108], 7, 111, 0, 0, 0), ([99, 106, 97, 108, 114], 3, 103, 0, 0, 0), ([101, 99, 97, 108, 108], 9, 115, 0, 0, 0), ([101, 98, 114, 101, 97, 107], 9, 115, 0, 1, 0), ([99, 115, 101, 116, 98, 111, 117, 110, 100, 115], 1, 91, 0, 8, 0), ([99, 97, 110, 100, 112, 101, 114, 109], 1, 91, 0, 13, 0), ([99, 115, 101, 97, 108], 1, 91, 0, 11, 0), ([99, 117, 110, 115, 101, 97, 108], 1, 91, 0, 12, 0), ([99, 115, 101, 116, 97, 100, 100, 114], 1, 91, 0, 16, 0), ([99, 105, 110, 99, 97, 100, 100, 114], 1, 91, 0, 17, 0), ([99, 116, 101, 115, 116, 115, 117, 98, 115, 101, 116], 1, 91, 0, 32, 0), ([99, 105, 110, 118, 111, 107, 101], 10, 91, 0, 126, 0), ([99, 103, 101, 116, 112, 101, 114, 109], 8, 91, 0, 0, 0), ([99, 103, 101, 116, 116, 121, 112, 101], 8, 91, 0, 1, 0), ([99, 103, 101, 116, 98, 97, 115, 101], 8, 91, 0, 2, 0), ([99, 103, 101, 116, 108, 101, 110], 8, 91, 0, 3, 0), ([99, 103, 101, 116, 116, 97, 103], 8, 91, 0, 4, 0), ([99, 109, 111, 118, 101], 8, 91, 0, 10, 0), ([99, 99, 108, 101, 97, 114, 116, 97, 103], 8, 91, 0, 11, 0), ([99, 103, 101, 116, 97, 100, 100, 114], 8, 91, 0, 15, 0)]
def opR (op : Int) : List UInt8 × Int × Int × Int × Int × Int := if 1 ≤ op ∧ op ≤ 82 then opT.getD op.toNat ([], 0, 0, 0, 0, 0) else ([], 0, 0, 0, 0, 0)
def opN (op : Int) : List UInt8 := (opR op).1
def opV (op : Int) : Value := .agg #[.string ⟨(opN op).toArray⟩, .int .i64 (opR op).2.1, .int .i64 (opR op).2.2.1, .int .i64 (opR op).2.2.2.1, .int .i64 (opR op).2.2.2.2.1, .int .i64 (opR op).2.2.2.2.2]
theorem opV_1 : opV 1 = .agg #[.string ⟨#[97, 100, 100]⟩, .int .i64 1, .int .i64 51, .int .i64 0, .int .i64 0, .int .i64 0] := rfl
theorem opV_2 : opV 2 = .agg #[.string ⟨#[115, 117, 98]⟩, .int .i64 1, .int .i64 51, .int .i64 0, .int .i64 32, .int .i64 0] := rfl
theorem opV_3 : opV 3 = .agg #[.string ⟨#[115, 108, 108]⟩, .int .i64 1, .int .i64 51, .int .i64 1, .int .i64 0, .int .i64 0] := rfl
theorem opV_4 : opV 4 = .agg #[.string ⟨#[115, 108, 116]⟩, .int .i64 1, .int .i64 51, .int .i64 2, .int .i64 0, .int .i64 0] := rfl
theorem opV_5 : opV 5 = .agg #[.string ⟨#[115, 108, 116, 117]⟩, .int .i64 1, .int .i64 51, .int .i64 3, .int .i64 0, .int .i64 0] := rfl
theorem opV_6 : opV 6 = .agg #[.string ⟨#[120, 111, 114]⟩, .int .i64 1, .int .i64 51, .int .i64 4, .int .i64 0, .int .i64 0] := rfl
theorem opV_7 : opV 7 = .agg #[.string ⟨#[115, 114, 108]⟩, .int .i64 1, .int .i64 51, .int .i64 5, .int .i64 0, .int .i64 0] := rfl
theorem opV_8 : opV 8 = .agg #[.string ⟨#[115, 114, 97]⟩, .int .i64 1, .int .i64 51, .int .i64 5, .int .i64 32, .int .i64 0] := rfl
theorem opV_9 : opV 9 = .agg #[.string ⟨#[111, 114]⟩, .int .i64 1, .int .i64 51, .int .i64 6, .int .i64 0, .int .i64 0] := rfl
theorem opV_10 : opV 10 = .agg #[.string ⟨#[97, 110, 100]⟩, .int .i64 1, .int .i64 51, .int .i64 7, .int .i64 0, .int .i64 0] := rfl
theorem opV_11 : opV 11 = .agg #[.string ⟨#[109, 117, 108]⟩, .int .i64 1, .int .i64 51, .int .i64 0, .int .i64 1, .int .i64 0] := rfl
theorem opV_12 : opV 12 = .agg #[.string ⟨#[109, 117, 108, 104]⟩, .int .i64 1, .int .i64 51, .int .i64 1, .int .i64 1, .int .i64 0] := rfl
theorem opV_13 : opV 13 = .agg #[.string ⟨#[109, 117, 108, 104, 115, 117]⟩, .int .i64 1, .int .i64 51, .int .i64 2, .int .i64 1, .int .i64 0] := rfl
theorem opV_14 : opV 14 = .agg #[.string ⟨#[109, 117, 108, 104, 117]⟩, .int .i64 1, .int .i64 51, .int .i64 3, .int .i64 1, .int .i64 0] := rfl
theorem opV_15 : opV 15 = .agg #[.string ⟨#[100, 105, 118]⟩, .int .i64 1, .int .i64 51, .int .i64 4, .int .i64 1, .int .i64 0] := rfl
theorem opV_16 : opV 16 = .agg #[.string ⟨#[100, 105, 118, 117]⟩, .int .i64 1, .int .i64 51, .int .i64 5, .int .i64 1, .int .i64 0] := rfl
theorem opV_17 : opV 17 = .agg #[.string ⟨#[114, 101, 109]⟩, .int .i64 1, .int .i64 51, .int .i64 6, .int .i64 1, .int .i64 0] := rfl
theorem opV_18 : opV 18 = .agg #[.string ⟨#[114, 101, 109, 117]⟩, .int .i64 1, .int .i64 51, .int .i64 7, .int .i64 1, .int .i64 0] := rfl
theorem opV_19 : opV 19 = .agg #[.string ⟨#[97, 100, 100, 119]⟩, .int .i64 1, .int .i64 59, .int .i64 0, .int .i64 0, .int .i64 0] := rfl
theorem opV_20 : opV 20 = .agg #[.string ⟨#[115, 117, 98, 119]⟩, .int .i64 1, .int .i64 59, .int .i64 0, .int .i64 32, .int .i64 0] := rfl
theorem opV_21 : opV 21 = .agg #[.string ⟨#[115, 108, 108, 119]⟩, .int .i64 1, .int .i64 59, .int .i64 1, .int .i64 0, .int .i64 0] := rfl
theorem opV_22 : opV 22 = .agg #[.string ⟨#[115, 114, 108, 119]⟩, .int .i64 1, .int .i64 59, .int .i64 5, .int .i64 0, .int .i64 0] := rfl
theorem opV_23 : opV 23 = .agg #[.string ⟨#[115, 114, 97, 119]⟩, .int .i64 1, .int .i64 59, .int .i64 5, .int .i64 32, .int .i64 0] := rfl
theorem opV_24 : opV 24 = .agg #[.string ⟨#[109, 117, 108, 119]⟩, .int .i64 1, .int .i64 59, .int .i64 0, .int .i64 1, .int .i64 0] := rfl
theorem opV_25 : opV 25 = .agg #[.string ⟨#[100, 105, 118, 119]⟩, .int .i64 1, .int .i64 59, .int .i64 4, .int .i64 1, .int .i64 0] := rfl
theorem opV_26 : opV 26 = .agg #[.string ⟨#[100, 105, 118, 117, 119]⟩, .int .i64 1, .int .i64 59, .int .i64 5, .int .i64 1, .int .i64 0] := rfl
theorem opV_27 : opV 27 = .agg #[.string ⟨#[114, 101, 109, 119]⟩, .int .i64 1, .int .i64 59, .int .i64 6, .int .i64 1, .int .i64 0] := rfl
theorem opV_28 : opV 28 = .agg #[.string ⟨#[114, 101, 109, 117, 119]⟩, .int .i64 1, .int .i64 59, .int .i64 7, .int .i64 1, .int .i64 0] := rfl
theorem opV_29 : opV 29 = .agg #[.string ⟨#[97, 100, 100, 105]⟩, .int .i64 2, .int .i64 19, .int .i64 0, .int .i64 0, .int .i64 0] := rfl
theorem opV_30 : opV 30 = .agg #[.string ⟨#[115, 108, 116, 105]⟩, .int .i64 2, .int .i64 19, .int .i64 2, .int .i64 0, .int .i64 0] := rfl
theorem opV_31 : opV 31 = .agg #[.string ⟨#[115, 108, 116, 105, 117]⟩, .int .i64 2, .int .i64 19, .int .i64 3, .int .i64 0, .int .i64 0] := rfl
theorem opV_32 : opV 32 = .agg #[.string ⟨#[120, 111, 114, 105]⟩, .int .i64 2, .int .i64 19, .int .i64 4, .int .i64 0, .int .i64 0] := rfl
theorem opV_33 : opV 33 = .agg #[.string ⟨#[111, 114, 105]⟩, .int .i64 2, .int .i64 19, .int .i64 6, .int .i64 0, .int .i64 0] := rfl
theorem opV_34 : opV 34 = .agg #[.string ⟨#[97, 110, 100, 105]⟩, .int .i64 2, .int .i64 19, .int .i64 7, .int .i64 0, .int .i64 0] := rfl
theorem opV_35 : opV 35 = .agg #[.string ⟨#[115, 108, 108, 105]⟩, .int .i64 2, .int .i64 19, .int .i64 1, .int .i64 0, .int .i64 6] := rfl
theorem opV_36 : opV 36 = .agg #[.string ⟨#[115, 114, 108, 105]⟩, .int .i64 2, .int .i64 19, .int .i64 5, .int .i64 0, .int .i64 6] := rfl
theorem opV_37 : opV 37 = .agg #[.string ⟨#[115, 114, 97, 105]⟩, .int .i64 2, .int .i64 19, .int .i64 5, .int .i64 16, .int .i64 6] := rfl
theorem opV_38 : opV 38 = .agg #[.string ⟨#[97, 100, 100, 105, 119]⟩, .int .i64 2, .int .i64 27, .int .i64 0, .int .i64 0, .int .i64 0] := rfl
theorem opV_39 : opV 39 = .agg #[.string ⟨#[115, 108, 108, 105, 119]⟩, .int .i64 2, .int .i64 27, .int .i64 1, .int .i64 0, .int .i64 5] := rfl
theorem opV_40 : opV 40 = .agg #[.string ⟨#[115, 114, 108, 105, 119]⟩, .int .i64 2, .int .i64 27, .int .i64 5, .int .i64 0, .int .i64 5] := rfl
theorem opV_41 : opV 41 = .agg #[.string ⟨#[115, 114, 97, 105, 119]⟩, .int .i64 2, .int .i64 27, .int .i64 5, .int .i64 32, .int .i64 5] := rfl
theorem opV_42 : opV 42 = .agg #[.string ⟨#[108, 98]⟩, .int .i64 3, .int .i64 3, .int .i64 0, .int .i64 0, .int .i64 0] := rfl
theorem opV_43 : opV 43 = .agg #[.string ⟨#[108, 104]⟩, .int .i64 3, .int .i64 3, .int .i64 1, .int .i64 0, .int .i64 0] := rfl
theorem opV_44 : opV 44 = .agg #[.string ⟨#[108, 119]⟩, .int .i64 3, .int .i64 3, .int .i64 2, .int .i64 0, .int .i64 0] := rfl
theorem opV_45 : opV 45 = .agg #[.string ⟨#[108, 100]⟩, .int .i64 3, .int .i64 3, .int .i64 3, .int .i64 0, .int .i64 0] := rfl
theorem opV_46 : opV 46 = .agg #[.string ⟨#[108, 98, 117]⟩, .int .i64 3, .int .i64 3, .int .i64 4, .int .i64 0, .int .i64 0] := rfl
theorem opV_47 : opV 47 = .agg #[.string ⟨#[108, 104, 117]⟩, .int .i64 3, .int .i64 3, .int .i64 5, .int .i64 0, .int .i64 0] := rfl
theorem opV_48 : opV 48 = .agg #[.string ⟨#[108, 119, 117]⟩, .int .i64 3, .int .i64 3, .int .i64 6, .int .i64 0, .int .i64 0] := rfl
theorem opV_49 : opV 49 = .agg #[.string ⟨#[99, 108, 99]⟩, .int .i64 3, .int .i64 15, .int .i64 2, .int .i64 0, .int .i64 0] := rfl
theorem opV_50 : opV 50 = .agg #[.string ⟨#[115, 98]⟩, .int .i64 4, .int .i64 35, .int .i64 0, .int .i64 0, .int .i64 0] := rfl
theorem opV_51 : opV 51 = .agg #[.string ⟨#[115, 104]⟩, .int .i64 4, .int .i64 35, .int .i64 1, .int .i64 0, .int .i64 0] := rfl
theorem opV_52 : opV 52 = .agg #[.string ⟨#[115, 119]⟩, .int .i64 4, .int .i64 35, .int .i64 2, .int .i64 0, .int .i64 0] := rfl
theorem opV_53 : opV 53 = .agg #[.string ⟨#[115, 100]⟩, .int .i64 4, .int .i64 35, .int .i64 3, .int .i64 0, .int .i64 0] := rfl
theorem opV_54 : opV 54 = .agg #[.string ⟨#[99, 115, 99]⟩, .int .i64 4, .int .i64 35, .int .i64 4, .int .i64 0, .int .i64 0] := rfl
theorem opV_55 : opV 55 = .agg #[.string ⟨#[98, 101, 113]⟩, .int .i64 5, .int .i64 99, .int .i64 0, .int .i64 0, .int .i64 0] := rfl
theorem opV_56 : opV 56 = .agg #[.string ⟨#[98, 110, 101]⟩, .int .i64 5, .int .i64 99, .int .i64 1, .int .i64 0, .int .i64 0] := rfl
theorem opV_57 : opV 57 = .agg #[.string ⟨#[98, 108, 116]⟩, .int .i64 5, .int .i64 99, .int .i64 4, .int .i64 0, .int .i64 0] := rfl
theorem opV_58 : opV 58 = .agg #[.string ⟨#[98, 103, 101]⟩, .int .i64 5, .int .i64 99, .int .i64 5, .int .i64 0, .int .i64 0] := rfl
theorem opV_59 : opV 59 = .agg #[.string ⟨#[98, 108, 116, 117]⟩, .int .i64 5, .int .i64 99, .int .i64 6, .int .i64 0, .int .i64 0] := rfl
theorem opV_60 : opV 60 = .agg #[.string ⟨#[98, 103, 101, 117]⟩, .int .i64 5, .int .i64 99, .int .i64 7, .int .i64 0, .int .i64 0] := rfl
theorem opV_61 : opV 61 = .agg #[.string ⟨#[108, 117, 105]⟩, .int .i64 6, .int .i64 55, .int .i64 0, .int .i64 0, .int .i64 0] := rfl
theorem opV_62 : opV 62 = .agg #[.string ⟨#[97, 117, 105, 112, 99, 99]⟩, .int .i64 6, .int .i64 23, .int .i64 0, .int .i64 0, .int .i64 0] := rfl
theorem opV_63 : opV 63 = .agg #[.string ⟨#[99, 106, 97, 108]⟩, .int .i64 7, .int .i64 111, .int .i64 0, .int .i64 0, .int .i64 0] := rfl
theorem opV_64 : opV 64 = .agg #[.string ⟨#[99, 106, 97, 108, 114]⟩, .int .i64 3, .int .i64 103, .int .i64 0, .int .i64 0, .int .i64 0] := rfl
theorem opV_65 : opV 65 = .agg #[.string ⟨#[101, 99, 97, 108, 108]⟩, .int .i64 9, .int .i64 115, .int .i64 0, .int .i64 0, .int .i64 0] := rfl
theorem opV_66 : opV 66 = .agg #[.string ⟨#[101, 98, 114, 101, 97, 107]⟩, .int .i64 9, .int .i64 115, .int .i64 0, .int .i64 1, .int .i64 0] := rfl
theorem opV_67 : opV 67 = .agg #[.string ⟨#[99, 115, 101, 116, 98, 111, 117, 110, 100, 115]⟩, .int .i64 1, .int .i64 91, .int .i64 0, .int .i64 8, .int .i64 0] := rfl
theorem opV_68 : opV 68 = .agg #[.string ⟨#[99, 97, 110, 100, 112, 101, 114, 109]⟩, .int .i64 1, .int .i64 91, .int .i64 0, .int .i64 13, .int .i64 0] := rfl
theorem opV_69 : opV 69 = .agg #[.string ⟨#[99, 115, 101, 97, 108]⟩, .int .i64 1, .int .i64 91, .int .i64 0, .int .i64 11, .int .i64 0] := rfl
theorem opV_70 : opV 70 = .agg #[.string ⟨#[99, 117, 110, 115, 101, 97, 108]⟩, .int .i64 1, .int .i64 91, .int .i64 0, .int .i64 12, .int .i64 0] := rfl
theorem opV_71 : opV 71 = .agg #[.string ⟨#[99, 115, 101, 116, 97, 100, 100, 114]⟩, .int .i64 1, .int .i64 91, .int .i64 0, .int .i64 16, .int .i64 0] := rfl
theorem opV_72 : opV 72 = .agg #[.string ⟨#[99, 105, 110, 99, 97, 100, 100, 114]⟩, .int .i64 1, .int .i64 91, .int .i64 0, .int .i64 17, .int .i64 0] := rfl
theorem opV_73 : opV 73 = .agg #[.string ⟨#[99, 116, 101, 115, 116, 115, 117, 98, 115, 101, 116]⟩, .int .i64 1, .int .i64 91, .int .i64 0, .int .i64 32, .int .i64 0] := rfl
theorem opV_74 : opV 74 = .agg #[.string ⟨#[99, 105, 110, 118, 111, 107, 101]⟩, .int .i64 10, .int .i64 91, .int .i64 0, .int .i64 126, .int .i64 0] := rfl
theorem opV_75 : opV 75 = .agg #[.string ⟨#[99, 103, 101, 116, 112, 101, 114, 109]⟩, .int .i64 8, .int .i64 91, .int .i64 0, .int .i64 0, .int .i64 0] := rfl
theorem opV_76 : opV 76 = .agg #[.string ⟨#[99, 103, 101, 116, 116, 121, 112, 101]⟩, .int .i64 8, .int .i64 91, .int .i64 0, .int .i64 1, .int .i64 0] := rfl
theorem opV_77 : opV 77 = .agg #[.string ⟨#[99, 103, 101, 116, 98, 97, 115, 101]⟩, .int .i64 8, .int .i64 91, .int .i64 0, .int .i64 2, .int .i64 0] := rfl
theorem opV_78 : opV 78 = .agg #[.string ⟨#[99, 103, 101, 116, 108, 101, 110]⟩, .int .i64 8, .int .i64 91, .int .i64 0, .int .i64 3, .int .i64 0] := rfl
theorem opV_79 : opV 79 = .agg #[.string ⟨#[99, 103, 101, 116, 116, 97, 103]⟩, .int .i64 8, .int .i64 91, .int .i64 0, .int .i64 4, .int .i64 0] := rfl
theorem opV_80 : opV 80 = .agg #[.string ⟨#[99, 109, 111, 118, 101]⟩, .int .i64 8, .int .i64 91, .int .i64 0, .int .i64 10, .int .i64 0] := rfl
theorem opV_81 : opV 81 = .agg #[.string ⟨#[99, 99, 108, 101, 97, 114, 116, 97, 103]⟩, .int .i64 8, .int .i64 91, .int .i64 0, .int .i64 11, .int .i64 0] := rfl
theorem opV_82 : opV 82 = .agg #[.string ⟨#[99, 103, 101, 116, 97, 100, 100, 114]⟩, .int .i64 8, .int .i64 91, .int .i64 0, .int .i64 15, .int .i64 0] := rfl
theorem opV_out (op : Int) (h : op < 1 ∨ 82 < op) : opV op = .agg #[.string ⟨#[]⟩, .int .i64 0, .int .i64 0, .int .i64 0, .int .i64 0, .int .i64 0] := by unfold opV opN opR; rw [if_neg (by omega)]
end Go.Proofs.YtegoddghfjfibaaGreatDoor

