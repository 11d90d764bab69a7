/-
  NARROWER THAN 'FOR EVERY INPUT', by the rows' own cells (each row's printed sentence says how): IsaBack: laid · IsaRight: laid · IsaDecodes: laid · IsaApart: laid · IsaKinds: laid · IsaBits: laid.
  DERIVED. THE GIVEN ROWS OF THIS SEAT. 6 by the template 'for every input the law returns true; each argument reads behind the call as it read before'; 0 by the template 'total and deterministic' (their statements: YtcehfaonmiocgaaDoorTotals.lean).
  GIVEN WITH THE SEED: the statements are not yours to turn. If you find one false, say at which input.
  Laid BY PROGRAM, IN A SANDBOX (cutbox-rows.mjs): the forced cells as the released guide's own fill.sh prints them over the translation d68720147faec981… (all of the seat's roots in one cut). By AI agents, Wed Nov 11 2026. No macro, syntax, notation, axiom, sorry.
-/
import Derived.Test.YtcehfaonmiocgaaDoorChecked
import GoSem.Claim
import GoSem.ClaimJoined
import GoSem.ClaimMapViews
import Derived.JoinedTies
import Derived.KernelRfl
namespace Go.Proofs.YtcehfaonmiocgaaDoor
/- THE CELL 'sum', in the pinned program and in every row, IS THE sha256 OF THE DUMP (.gsa) THAT YtcehfaonmiocgaaDoorProg.lean LOADS. Nothing in Lean hashes anything: it is a label: what it is worth is what the hold of that sum in a sandbox is worth. -/
noncomputable def Tryd.pinned : Pinned := { name := "ytcehfaonmiocgaadoor", sum := "d68720147faec981d5066a4b63d86d903ab816b566c10032f23c50a7e62fde6a", checked := Tryd.checked }
namespace Rows
def none {H : Type} : Left H := { results := [], args := [] }

/- WHAT THE LISTED PACKAGE-LEVEL VARIABLES READ AS WHEN THE CALL BEGINS. Each datum BY PROGRAM (the guide's laid-datum.mjs) off the statement by which the dump's own 'gosem.cut.vars' lays the variable. In a bare row this is a premise. The card (YtcehfaonmiocgaaDoorCards.lean) ties it to the program's text. -/
def laid_unicode_White_Space {H : Type} : DataW H := .ptr (.agg [.slice [.agg [.lit (.int .u16 9), .lit (.int .u16 13), .lit (.int .u16 1)], .agg [.lit (.int .u16 32), .lit (.int .u16 133), .lit (.int .u16 101)], .agg [.lit (.int .u16 160), .lit (.int .u16 5760), .lit (.int .u16 5600)], .agg [.lit (.int .u16 8192), .lit (.int .u16 8202), .lit (.int .u16 1)], .agg [.lit (.int .u16 8232), .lit (.int .u16 8233), .lit (.int .u16 1)], .agg [.lit (.int .u16 8239), .lit (.int .u16 8287), .lit (.int .u16 48)], .agg [.lit (.int .u16 12288), .lit (.int .u16 12288), .lit (.int .u16 1)]] [], .nil, .lit (.int .i64 2)])
def laid_strings_asciiSpace {H : Type} : DataW H := .agg [.lit (.int .u8 0), .lit (.int .u8 0), .lit (.int .u8 0), .lit (.int .u8 0), .lit (.int .u8 0), .lit (.int .u8 0), .lit (.int .u8 0), .lit (.int .u8 0), .lit (.int .u8 0), .lit (.int .u8 1), .lit (.int .u8 1), .lit (.int .u8 1), .lit (.int .u8 1), .lit (.int .u8 1), .lit (.int .u8 0), .lit (.int .u8 0), .lit (.int .u8 0), .lit (.int .u8 0), .lit (.int .u8 0), .lit (.int .u8 0), .lit (.int .u8 0), .lit (.int .u8 0), .lit (.int .u8 0), .lit (.int .u8 0), .lit (.int .u8 0), .lit (.int .u8 0), .lit (.int .u8 0), .lit (.int .u8 0), .lit (.int .u8 0), .lit (.int .u8 0), .lit (.int .u8 0), .lit (.int .u8 0), .lit (.int .u8 1), .lit (.int .u8 0), .lit (.int .u8 0), .lit (.int .u8 0), .lit (.int .u8 0), .lit (.int .u8 0), .lit (.int .u8 0), .lit (.int .u8 0), .lit (.int .u8 0), .lit (.int .u8 0), .lit (.int .u8 0), .lit (.int .u8 0), .lit (.int .u8 0), .lit (.int .u8 0), .lit (.int .u8 0), .lit (.int .u8 0), .lit (.int .u8 0), .lit (.int .u8 0), .lit (.int .u8 0), .lit (.int .u8 0), .lit (.int .u8 0), .lit (.int .u8 0), .lit (.int .u8 0), .lit (.int .u8 0), .lit (.int .u8 0), .lit (.int .u8 0), .lit (.int .u8 0), .lit (.int .u8 0), .lit (.int .u8 0), .lit (.int .u8 0), .lit (.int .u8 0), .lit (.int .u8 0), .lit (.int .u8 0), .lit (.int .u8 0), .lit (.int .u8 0), .lit (.int .u8 0), .lit (.int .u8 0), .lit (.int .u8 0), .lit (.int .u8 0), .lit (.int .u8 0), .lit (.int .u8 0), .lit (.int .u8 0), .lit (.int .u8 0), .lit (.int .u8 0), .lit (.int .u8 0), .lit (.int .u8 0), .lit (.int .u8 0), .lit (.int .u8 0), .lit (.int .u8 0), .lit (.int .u8 0), .lit (.int .u8 0), .lit (.int .u8 0), .lit (.int .u8 0), .lit (.int .u8 0), .lit (.int .u8 0), .lit (.int .u8 0), .lit (.int .u8 0), .lit (.int .u8 0), .lit (.int .u8 0), .lit (.int .u8 0), .lit (.int .u8 0), .lit (.int .u8 0), .lit (.int .u8 0), .lit (.int .u8 0), .lit (.int .u8 0), .lit (.int .u8 0), .lit (.int .u8 0), .lit (.int .u8 0), .lit (.int .u8 0), .lit (.int .u8 0), .lit (.int .u8 0), .lit (.int .u8 0), .lit (.int .u8 0), .lit (.int .u8 0), .lit (.int .u8 0), .lit (.int .u8 0), .lit (.int .u8 0), .lit (.int .u8 0), .lit (.int .u8 0), .lit (.int .u8 0), .lit (.int .u8 0), .lit (.int .u8 0), .lit (.int .u8 0), .lit (.int .u8 0), .lit (.int .u8 0), .lit (.int .u8 0), .lit (.int .u8 0), .lit (.int .u8 0), .lit (.int .u8 0), .lit (.int .u8 0), .lit (.int .u8 0), .lit (.int .u8 0), .lit (.int .u8 0), .lit (.int .u8 0), .lit (.int .u8 0), .lit (.int .u8 0), .lit (.int .u8 0), .lit (.int .u8 0), .lit (.int .u8 0), .lit (.int .u8 0), .lit (.int .u8 0), .lit (.int .u8 0), .lit (.int .u8 0), .lit (.int .u8 0), .lit (.int .u8 0), .lit (.int .u8 0), .lit (.int .u8 0), .lit (.int .u8 0), .lit (.int .u8 0), .lit (.int .u8 0), .lit (.int .u8 0), .lit (.int .u8 0), .lit (.int .u8 0), .lit (.int .u8 0), .lit (.int .u8 0), .lit (.int .u8 0), .lit (.int .u8 0), .lit (.int .u8 0), .lit (.int .u8 0), .lit (.int .u8 0), .lit (.int .u8 0), .lit (.int .u8 0), .lit (.int .u8 0), .lit (.int .u8 0), .lit (.int .u8 0), .lit (.int .u8 0), .lit (.int .u8 0), .lit (.int .u8 0), .lit (.int .u8 0), .lit (.int .u8 0), .lit (.int .u8 0), .lit (.int .u8 0), .lit (.int .u8 0), .lit (.int .u8 0), .lit (.int .u8 0), .lit (.int .u8 0), .lit (.int .u8 0), .lit (.int .u8 0), .lit (.int .u8 0), .lit (.int .u8 0), .lit (.int .u8 0), .lit (.int .u8 0), .lit (.int .u8 0), .lit (.int .u8 0), .lit (.int .u8 0), .lit (.int .u8 0), .lit (.int .u8 0), .lit (.int .u8 0), .lit (.int .u8 0), .lit (.int .u8 0), .lit (.int .u8 0), .lit (.int .u8 0), .lit (.int .u8 0), .lit (.int .u8 0), .lit (.int .u8 0), .lit (.int .u8 0), .lit (.int .u8 0), .lit (.int .u8 0), .lit (.int .u8 0), .lit (.int .u8 0), .lit (.int .u8 0), .lit (.int .u8 0), .lit (.int .u8 0), .lit (.int .u8 0), .lit (.int .u8 0), .lit (.int .u8 0), .lit (.int .u8 0), .lit (.int .u8 0), .lit (.int .u8 0), .lit (.int .u8 0), .lit (.int .u8 0), .lit (.int .u8 0), .lit (.int .u8 0), .lit (.int .u8 0), .lit (.int .u8 0), .lit (.int .u8 0), .lit (.int .u8 0), .lit (.int .u8 0), .lit (.int .u8 0), .lit (.int .u8 0), .lit (.int .u8 0), .lit (.int .u8 0), .lit (.int .u8 0), .lit (.int .u8 0), .lit (.int .u8 0), .lit (.int .u8 0), .lit (.int .u8 0), .lit (.int .u8 0), .lit (.int .u8 0), .lit (.int .u8 0), .lit (.int .u8 0), .lit (.int .u8 0), .lit (.int .u8 0), .lit (.int .u8 0), .lit (.int .u8 0), .lit (.int .u8 0), .lit (.int .u8 0), .lit (.int .u8 0), .lit (.int .u8 0), .lit (.int .u8 0), .lit (.int .u8 0), .lit (.int .u8 0), .lit (.int .u8 0), .lit (.int .u8 0), .lit (.int .u8 0), .lit (.int .u8 0), .lit (.int .u8 0), .lit (.int .u8 0), .lit (.int .u8 0), .lit (.int .u8 0), .lit (.int .u8 0), .lit (.int .u8 0), .lit (.int .u8 0), .lit (.int .u8 0), .lit (.int .u8 0), .lit (.int .u8 0), .lit (.int .u8 0), .lit (.int .u8 0), .lit (.int .u8 0), .lit (.int .u8 0), .lit (.int .u8 0), .lit (.int .u8 0), .lit (.int .u8 0), .lit (.int .u8 0)]
def laid_letterpress_isa_short {H : Type} : DataW H := .agg [.agg [.lit (.string [115, 101, 95, 105, 108, 108, 101, 103, 97, 108]), .lit (.int .u32 0), .lit (.string [])], .agg [.lit (.string [115, 101, 95, 105, 115, 121, 110, 99]), .lit (.int .u32 1), .lit (.string [])], .agg [.lit (.string [115, 101, 95, 115, 99]), .lit (.int .u32 2), .lit (.string [])], .agg [.lit (.string [115, 101, 95, 98, 108, 114]), .lit (.int .u32 4), .lit (.string [])], .agg [.lit (.string [115, 101, 95, 98, 99, 116, 114]), .lit (.int .u32 6), .lit (.string [])], .agg [.lit (.string [115, 101, 95, 110, 111, 116]), .lit (.int .u32 32), .lit (.string [88])], .agg [.lit (.string [115, 101, 95, 110, 101, 103]), .lit (.int .u32 48), .lit (.string [88])], .agg [.lit (.string [115, 101, 95, 109, 102, 108, 114]), .lit (.int .u32 128), .lit (.string [88])], .agg [.lit (.string [115, 101, 95, 109, 116, 108, 114]), .lit (.int .u32 144), .lit (.string [88])], .agg [.lit (.string [115, 101, 95, 109, 102, 99, 116, 114]), .lit (.int .u32 160), .lit (.string [88])], .agg [.lit (.string [115, 101, 95, 109, 116, 99, 116, 114]), .lit (.int .u32 176), .lit (.string [88])], .agg [.lit (.string [115, 101, 95, 101, 120, 116, 122, 98]), .lit (.int .u32 192), .lit (.string [88])], .agg [.lit (.string [115, 101, 95, 101, 120, 116, 115, 98]), .lit (.int .u32 208), .lit (.string [88])], .agg [.lit (.string [115, 101, 95, 101, 120, 116, 122, 104]), .lit (.int .u32 224), .lit (.string [88])], .agg [.lit (.string [115, 101, 95, 101, 120, 116, 115, 104]), .lit (.int .u32 240), .lit (.string [88])], .agg [.lit (.string [115, 101, 95, 109, 114]), .lit (.int .u32 256), .lit (.string [88, 32, 89])], .agg [.lit (.string [115, 101, 95, 97, 100, 100]), .lit (.int .u32 1024), .lit (.string [88, 32, 89])], .agg [.lit (.string [115, 101, 95, 109, 117, 108, 108, 119]), .lit (.int .u32 1280), .lit (.string [88, 32, 89])], .agg [.lit (.string [115, 101, 95, 115, 117, 98]), .lit (.int .u32 1536), .lit (.string [88, 32, 89])], .agg [.lit (.string [115, 101, 95, 99, 109, 112]), .lit (.int .u32 3072), .lit (.string [88, 32, 89])], .agg [.lit (.string [115, 101, 95, 99, 109, 112, 108]), .lit (.int .u32 3328), .lit (.string [88, 32, 89])], .agg [.lit (.string [115, 101, 95, 97, 100, 100, 105]), .lit (.int .u32 8192), .lit (.string [88, 32, 79, 53])], .agg [.lit (.string [115, 101, 95, 99, 109, 112, 108, 105]), .lit (.int .u32 8704), .lit (.string [88, 32, 79, 53])], .agg [.lit (.string [115, 101, 95, 115, 117, 98, 105]), .lit (.int .u32 9216), .lit (.string [88, 32, 79, 53])], .agg [.lit (.string [115, 101, 95, 99, 109, 112, 105]), .lit (.int .u32 10752), .lit (.string [88, 32, 85, 53])], .agg [.lit (.string [115, 101, 95, 111, 114]), .lit (.int .u32 17408), .lit (.string [88, 32, 89])], .agg [.lit (.string [115, 101, 95, 97, 110, 100, 99]), .lit (.int .u32 17664), .lit (.string [88, 32, 89])], .agg [.lit (.string [115, 101, 95, 97, 110, 100]), .lit (.int .u32 17920), .lit (.string [88, 32, 89])], .agg [.lit (.string [115, 101, 95, 108, 105]), .lit (.int .u32 18432), .lit (.string [88, 32, 85, 55])], .agg [.lit (.string [115, 101, 95, 98, 99, 108, 114, 105]), .lit (.int .u32 24576), .lit (.string [88, 32, 85, 53])], .agg [.lit (.string [115, 101, 95, 98, 115, 101, 116, 105]), .lit (.int .u32 25600), .lit (.string [88, 32, 85, 53])], .agg [.lit (.string [115, 101, 95, 98, 116, 115, 116, 105]), .lit (.int .u32 26112), .lit (.string [88, 32, 85, 53])], .agg [.lit (.string [115, 101, 95, 115, 114, 119, 105]), .lit (.int .u32 26624), .lit (.string [88, 32, 85, 53])], .agg [.lit (.string [115, 101, 95, 115, 108, 119, 105]), .lit (.int .u32 27648), .lit (.string [88, 32, 85, 53])], .agg [.lit (.string [115, 101, 95, 108, 98, 122]), .lit (.int .u32 32768), .lit (.string [89, 32, 77, 49, 32, 88])], .agg [.lit (.string [115, 101, 95, 115, 116, 98]), .lit (.int .u32 36864), .lit (.string [89, 32, 77, 49, 32, 88])], .agg [.lit (.string [115, 101, 95, 108, 104, 122]), .lit (.int .u32 40960), .lit (.string [89, 32, 77, 50, 32, 88])], .agg [.lit (.string [115, 101, 95, 115, 116, 104]), .lit (.int .u32 45056), .lit (.string [89, 32, 77, 50, 32, 88])], .agg [.lit (.string [115, 101, 95, 108, 119, 122]), .lit (.int .u32 49152), .lit (.string [89, 32, 77, 52, 32, 88])], .agg [.lit (.string [115, 101, 95, 115, 116, 119]), .lit (.int .u32 53248), .lit (.string [89, 32, 77, 52, 32, 88])], .agg [.lit (.string [115, 101, 95, 98, 99]), .lit (.int .u32 57344), .lit (.string [79, 49, 32, 73, 50, 32, 84, 56])], .agg [.lit (.string [115, 101, 95, 98]), .lit (.int .u32 59392), .lit (.string [84, 56])], .agg [.lit (.string [115, 101, 95, 98, 108]), .lit (.int .u32 59648), .lit (.string [84, 56])]]
def laid_letterpress_isa_long {H : Type} : DataW H := .agg [.agg [.lit (.string [101, 95, 97, 100, 100, 49, 54, 105]), .lit (.int .u32 469762048), .lit (.string [68, 32, 65, 32, 83, 49, 54])], .agg [.lit (.string [101, 95, 97, 100, 100, 105]), .lit (.int .u32 402685952), .lit (.string [68, 32, 65, 32, 67, 56])], .agg [.lit (.string [101, 95, 97, 110, 100, 105]), .lit (.int .u32 402702336), .lit (.string [65, 32, 68, 32, 67, 56])], .agg [.lit (.string [101, 95, 111, 114, 105]), .lit (.int .u32 402706432), .lit (.string [65, 32, 68, 32, 67, 56])], .agg [.lit (.string [101, 95, 120, 111, 114, 105]), .lit (.int .u32 402710528), .lit (.string [65, 32, 68, 32, 67, 56])], .agg [.lit (.string [101, 95, 108, 105]), .lit (.int .u32 1879048192), .lit (.string [68, 32, 76, 50, 48])], .agg [.lit (.string [101, 95, 108, 98, 122]), .lit (.int .u32 805306368), .lit (.string [68, 32, 83, 49, 54, 32, 65])], .agg [.lit (.string [101, 95, 115, 116, 98]), .lit (.int .u32 872415232), .lit (.string [68, 32, 83, 49, 54, 32, 65])], .agg [.lit (.string [101, 95, 108, 104, 97]), .lit (.int .u32 939524096), .lit (.string [68, 32, 83, 49, 54, 32, 65])], .agg [.lit (.string [101, 95, 108, 119, 122]), .lit (.int .u32 1342177280), .lit (.string [68, 32, 83, 49, 54, 32, 65])], .agg [.lit (.string [101, 95, 115, 116, 119]), .lit (.int .u32 1409286144), .lit (.string [68, 32, 83, 49, 54, 32, 65])], .agg [.lit (.string [101, 95, 108, 104, 122]), .lit (.int .u32 1476395008), .lit (.string [68, 32, 83, 49, 54, 32, 65])], .agg [.lit (.string [101, 95, 115, 116, 104]), .lit (.int .u32 1543503872), .lit (.string [68, 32, 83, 49, 54, 32, 65])], .agg [.lit (.string [101, 95, 98]), .lit (.int .u32 2013265920), .lit (.string [84, 50, 52])], .agg [.lit (.string [101, 95, 98, 108]), .lit (.int .u32 2013265921), .lit (.string [84, 50, 52])], .agg [.lit (.string [101, 95, 98, 99]), .lit (.int .u32 2046820352), .lit (.string [79, 50, 32, 73, 52, 32, 84, 49, 53])], .agg [.lit (.string [101, 95, 98, 99, 108]), .lit (.int .u32 2046820353), .lit (.string [79, 50, 32, 73, 52, 32, 84, 49, 53])], .agg [.lit (.string [97, 100, 100]), .lit (.int .u32 2080375316), .lit (.string [68, 32, 65, 32, 66])], .agg [.lit (.string [115, 117, 98, 102]), .lit (.int .u32 2080374864), .lit (.string [68, 32, 65, 32, 66])], .agg [.lit (.string [109, 117, 108, 108, 119]), .lit (.int .u32 2080375254), .lit (.string [68, 32, 65, 32, 66])], .agg [.lit (.string [97, 110, 100]), .lit (.int .u32 2080374840), .lit (.string [65, 32, 68, 32, 66])], .agg [.lit (.string [111, 114]), .lit (.int .u32 2080375672), .lit (.string [65, 32, 68, 32, 66])], .agg [.lit (.string [120, 111, 114]), .lit (.int .u32 2080375416), .lit (.string [65, 32, 68, 32, 66])]]

/-- 'letterpresslaw2.IsaBack': WHATEVER THE INPUT: true; the input reads as it did. -/
def isaBackSpec : ChangeSpec := { name := "isaBack", fn := fun _ => fun
  | [d1, d2, d3] => { results := [.lit (.bool true)], args := [d1, d2, d3] }
  | _ => none }
def isaBackRow : OpenClaim := { program := "ytcehfaonmiocgaadoor", sum := "d68720147faec981d5066a4b63d86d903ab816b566c10032f23c50a7e62fde6a", func := "letterpress/letterpresslaw2.IsaBack", spec := "isaBack", inPlace := ["math.Float64bits", "math.Float64frombits"], unfollowed := true, recurses := true, named := ["letterpress/isa.short", "letterpress/isa.long", "strings.asciiSpace", "unicode.White_Space"], apart := false, laid := [("unicode.White_Space", laid_unicode_White_Space), ("strings.asciiSpace", laid_strings_asciiSpace), ("letterpress/isa.short", laid_letterpress_isa_short), ("letterpress/isa.long", laid_letterpress_isa_long)] }
def IsaBackSaid : Prop := isaBackRow.holds Tryd.pinned (OpenSpec.ofChange isaBackSpec)

/-- ITS FALSE NEIGHBOUR: 'it returns false'. Refute it at one input. -/
def isaBackWrong : ChangeSpec := { name := "isaBack", fn := fun _ => fun
  | [d1, d2, d3] => { results := [.lit (.bool false)], args := [d1, d2, d3] }
  | _ => none }
def IsaBackWrongFalsely : Prop := isaBackRow.holds Tryd.pinned (OpenSpec.ofChange isaBackWrong)

/-- 'letterpresslaw2.IsaRight': WHATEVER THE INPUT: true; the input reads as it did. -/
def isaRightSpec : ChangeSpec := { name := "isaRight", fn := fun _ => fun
  | [d1, d2, d3, d4, d5, d6] => { results := [.lit (.bool true)], args := [d1, d2, d3, d4, d5, d6] }
  | _ => none }
def isaRightRow : OpenClaim := { program := "ytcehfaonmiocgaadoor", sum := "d68720147faec981d5066a4b63d86d903ab816b566c10032f23c50a7e62fde6a", func := "letterpress/letterpresslaw2.IsaRight", spec := "isaRight", inPlace := ["math.Float64bits", "math.Float64frombits"], unfollowed := true, recurses := true, named := ["letterpress/isa.short", "letterpress/isa.long", "strings.asciiSpace", "unicode.White_Space"], apart := false, laid := [("unicode.White_Space", laid_unicode_White_Space), ("strings.asciiSpace", laid_strings_asciiSpace), ("letterpress/isa.short", laid_letterpress_isa_short), ("letterpress/isa.long", laid_letterpress_isa_long)] }
def IsaRightSaid : Prop := isaRightRow.holds Tryd.pinned (OpenSpec.ofChange isaRightSpec)

/-- ITS FALSE NEIGHBOUR: 'it returns false'. Refute it at one input. -/
def isaRightWrong : ChangeSpec := { name := "isaRight", fn := fun _ => fun
  | [d1, d2, d3, d4, d5, d6] => { results := [.lit (.bool false)], args := [d1, d2, d3, d4, d5, d6] }
  | _ => none }
def IsaRightWrongFalsely : Prop := isaRightRow.holds Tryd.pinned (OpenSpec.ofChange isaRightWrong)

/-- 'letterpresslaw2.IsaDecodes': WHATEVER THE INPUT: true; the input reads as it did. -/
def isaDecodesSpec : ChangeSpec := { name := "isaDecodes", fn := fun _ => fun
  | [d1, d2, d3, d4] => { results := [.lit (.bool true)], args := [d1, d2, d3, d4] }
  | _ => none }
def isaDecodesRow : OpenClaim := { program := "ytcehfaonmiocgaadoor", sum := "d68720147faec981d5066a4b63d86d903ab816b566c10032f23c50a7e62fde6a", func := "letterpress/letterpresslaw2.IsaDecodes", spec := "isaDecodes", inPlace := ["math.Float64bits", "math.Float64frombits"], unfollowed := true, recurses := true, named := ["letterpress/isa.short", "letterpress/isa.long", "strings.asciiSpace", "unicode.White_Space"], apart := false, laid := [("unicode.White_Space", laid_unicode_White_Space), ("strings.asciiSpace", laid_strings_asciiSpace), ("letterpress/isa.short", laid_letterpress_isa_short), ("letterpress/isa.long", laid_letterpress_isa_long)] }
def IsaDecodesSaid : Prop := isaDecodesRow.holds Tryd.pinned (OpenSpec.ofChange isaDecodesSpec)

/-- ITS FALSE NEIGHBOUR: 'it returns false'. Refute it at one input. -/
def isaDecodesWrong : ChangeSpec := { name := "isaDecodes", fn := fun _ => fun
  | [d1, d2, d3, d4] => { results := [.lit (.bool false)], args := [d1, d2, d3, d4] }
  | _ => none }
def IsaDecodesWrongFalsely : Prop := isaDecodesRow.holds Tryd.pinned (OpenSpec.ofChange isaDecodesWrong)

/-- 'letterpresslaw2.IsaApart': WHATEVER THE INPUT: true; the input reads as it did. -/
def isaApartSpec : ChangeSpec := { name := "isaApart", fn := fun _ => fun
  | [d1, d2, d3, d4] => { results := [.lit (.bool true)], args := [d1, d2, d3, d4] }
  | _ => none }
def isaApartRow : OpenClaim := { program := "ytcehfaonmiocgaadoor", sum := "d68720147faec981d5066a4b63d86d903ab816b566c10032f23c50a7e62fde6a", func := "letterpress/letterpresslaw2.IsaApart", spec := "isaApart", inPlace := ["math.Float64bits", "math.Float64frombits"], unfollowed := true, recurses := true, named := ["letterpress/isa.short", "letterpress/isa.long", "strings.asciiSpace", "unicode.White_Space"], apart := false, laid := [("unicode.White_Space", laid_unicode_White_Space), ("strings.asciiSpace", laid_strings_asciiSpace), ("letterpress/isa.short", laid_letterpress_isa_short), ("letterpress/isa.long", laid_letterpress_isa_long)] }
def IsaApartSaid : Prop := isaApartRow.holds Tryd.pinned (OpenSpec.ofChange isaApartSpec)

/-- ITS FALSE NEIGHBOUR: 'it returns false'. Refute it at one input. -/
def isaApartWrong : ChangeSpec := { name := "isaApart", fn := fun _ => fun
  | [d1, d2, d3, d4] => { results := [.lit (.bool false)], args := [d1, d2, d3, d4] }
  | _ => none }
def IsaApartWrongFalsely : Prop := isaApartRow.holds Tryd.pinned (OpenSpec.ofChange isaApartWrong)

/-- 'letterpresslaw2.IsaKinds': WHATEVER THE INPUT: true; the input reads as it did. -/
def isaKindsSpec : ChangeSpec := { name := "isaKinds", fn := fun _ => fun
  | [d1, d2] => { results := [.lit (.bool true)], args := [d1, d2] }
  | _ => none }
def isaKindsRow : OpenClaim := { program := "ytcehfaonmiocgaadoor", sum := "d68720147faec981d5066a4b63d86d903ab816b566c10032f23c50a7e62fde6a", func := "letterpress/letterpresslaw2.IsaKinds", spec := "isaKinds", inPlace := ["math.Float64bits", "math.Float64frombits"], unfollowed := true, recurses := true, named := ["letterpress/isa.short", "letterpress/isa.long", "strings.asciiSpace", "unicode.White_Space"], apart := false, laid := [("unicode.White_Space", laid_unicode_White_Space), ("strings.asciiSpace", laid_strings_asciiSpace), ("letterpress/isa.short", laid_letterpress_isa_short), ("letterpress/isa.long", laid_letterpress_isa_long)] }
def IsaKindsSaid : Prop := isaKindsRow.holds Tryd.pinned (OpenSpec.ofChange isaKindsSpec)

/-- ITS FALSE NEIGHBOUR: 'it returns false'. Refute it at one input. -/
def isaKindsWrong : ChangeSpec := { name := "isaKinds", fn := fun _ => fun
  | [d1, d2] => { results := [.lit (.bool false)], args := [d1, d2] }
  | _ => none }
def IsaKindsWrongFalsely : Prop := isaKindsRow.holds Tryd.pinned (OpenSpec.ofChange isaKindsWrong)

/-- 'letterpresslaw2.IsaBits': WHATEVER THE INPUT: true; the input reads as it did. -/
def isaBitsSpec : ChangeSpec := { name := "isaBits", fn := fun _ => fun
  | [d1, d2, d3, d4] => { results := [.lit (.bool true)], args := [d1, d2, d3, d4] }
  | _ => none }
def isaBitsRow : OpenClaim := { program := "ytcehfaonmiocgaadoor", sum := "d68720147faec981d5066a4b63d86d903ab816b566c10032f23c50a7e62fde6a", func := "letterpress/letterpresslaw2.IsaBits", spec := "isaBits", inPlace := ["math.Float64bits", "math.Float64frombits"], unfollowed := true, recurses := true, named := ["letterpress/isa.short", "letterpress/isa.long", "strings.asciiSpace", "unicode.White_Space"], apart := false, laid := [("unicode.White_Space", laid_unicode_White_Space), ("strings.asciiSpace", laid_strings_asciiSpace), ("letterpress/isa.short", laid_letterpress_isa_short), ("letterpress/isa.long", laid_letterpress_isa_long)] }
def IsaBitsSaid : Prop := isaBitsRow.holds Tryd.pinned (OpenSpec.ofChange isaBitsSpec)

/-- ITS FALSE NEIGHBOUR: 'it returns false'. Refute it at one input. -/
def isaBitsWrong : ChangeSpec := { name := "isaBits", fn := fun _ => fun
  | [d1, d2, d3, d4] => { results := [.lit (.bool false)], args := [d1, d2, d3, d4] }
  | _ => none }
def IsaBitsWrongFalsely : Prop := isaBitsRow.holds Tryd.pinned (OpenSpec.ofChange isaBitsWrong)

/- THE SECOND FORM. 'bulk': how many values and letters a reading holds, each counted each time it is reached (what is shared counts as often as it is met; a slice's spare places count too). A statement '..UptoSaid' is the law's where the arguments, and the package variables that the reading takes, are together of bulk at most 1048576: NARROWER than '..Said'. Prove '..Said' where nothing that the law and all that it calls make is longer than what came in: it says more and counts as full. Else prove '..UptoSaid'. A law counts once. -/
mutual
def uptoBulk {H : Type} : DataW H → Nat
  | .lit (.string bytes) => bytes.length + 1
  | .lit _ => 1
  | .nil => 1
  | .ptr d => uptoBulk d + 1
  | .slice elems spare => uptoBulkAll elems + uptoBulkAll spare + 1
  | .agg parts => uptoBulkAll parts + 1
  | .iface _ d => uptoBulk d + 1
  | .map entries => uptoBulkEntries entries + 1
  | .held _ => 1
def uptoBulkAll {H : Type} : List (DataW H) → Nat
  | [] => 0
  | d :: r => uptoBulk d + uptoBulkAll r
def uptoBulkEntries {H : Type} : List (Lit × DataW H) → Nat
  | [] => 0
  | x :: r => uptoBulkEntry x + uptoBulkEntries r
def uptoBulkEntry {H : Type} : Lit × DataW H → Nat
  | (.string bytes, d) => bytes.length + uptoBulk d + 1
  | (_, d) => uptoBulk d + 1
 end
def uptoSmall : (H : Type) → List (DataW H) → Bool := fun _ ds => decide (uptoBulkAll ds ≤ 1048576)
def OpenSpec.upto (s : _root_.Go.ChangeSpec) : _root_.Go.OpenSpec := { _root_.Go.OpenSpec.ofChange s with cond := some uptoSmall }

/-- 'letterpresslaw2.IsaBack', WHERE WHAT IT READS IS OF BULK AT MOST 1048576: true; the input reads as it did. -/
def isaBackUptoRow : OpenClaim := { program := "ytcehfaonmiocgaadoor", sum := "d68720147faec981d5066a4b63d86d903ab816b566c10032f23c50a7e62fde6a", func := "letterpress/letterpresslaw2.IsaBack", spec := "isaBack", inPlace := ["math.Float64bits", "math.Float64frombits"], unfollowed := true, recurses := true, named := ["letterpress/isa.short", "letterpress/isa.long", "strings.asciiSpace", "unicode.White_Space"], apart := false, laid := [("unicode.White_Space", laid_unicode_White_Space), ("strings.asciiSpace", laid_strings_asciiSpace), ("letterpress/isa.short", laid_letterpress_isa_short), ("letterpress/isa.long", laid_letterpress_isa_long)], narrowed := true }
def IsaBackUptoSaid : Prop := isaBackUptoRow.holds Tryd.pinned (OpenSpec.upto isaBackSpec)

/-- 'letterpresslaw2.IsaRight', WHERE WHAT IT READS IS OF BULK AT MOST 1048576: true; the input reads as it did. -/
def isaRightUptoRow : OpenClaim := { program := "ytcehfaonmiocgaadoor", sum := "d68720147faec981d5066a4b63d86d903ab816b566c10032f23c50a7e62fde6a", func := "letterpress/letterpresslaw2.IsaRight", spec := "isaRight", inPlace := ["math.Float64bits", "math.Float64frombits"], unfollowed := true, recurses := true, named := ["letterpress/isa.short", "letterpress/isa.long", "strings.asciiSpace", "unicode.White_Space"], apart := false, laid := [("unicode.White_Space", laid_unicode_White_Space), ("strings.asciiSpace", laid_strings_asciiSpace), ("letterpress/isa.short", laid_letterpress_isa_short), ("letterpress/isa.long", laid_letterpress_isa_long)], narrowed := true }
def IsaRightUptoSaid : Prop := isaRightUptoRow.holds Tryd.pinned (OpenSpec.upto isaRightSpec)

/-- 'letterpresslaw2.IsaDecodes', WHERE WHAT IT READS IS OF BULK AT MOST 1048576: true; the input reads as it did. -/
def isaDecodesUptoRow : OpenClaim := { program := "ytcehfaonmiocgaadoor", sum := "d68720147faec981d5066a4b63d86d903ab816b566c10032f23c50a7e62fde6a", func := "letterpress/letterpresslaw2.IsaDecodes", spec := "isaDecodes", inPlace := ["math.Float64bits", "math.Float64frombits"], unfollowed := true, recurses := true, named := ["letterpress/isa.short", "letterpress/isa.long", "strings.asciiSpace", "unicode.White_Space"], apart := false, laid := [("unicode.White_Space", laid_unicode_White_Space), ("strings.asciiSpace", laid_strings_asciiSpace), ("letterpress/isa.short", laid_letterpress_isa_short), ("letterpress/isa.long", laid_letterpress_isa_long)], narrowed := true }
def IsaDecodesUptoSaid : Prop := isaDecodesUptoRow.holds Tryd.pinned (OpenSpec.upto isaDecodesSpec)

/-- 'letterpresslaw2.IsaApart', WHERE WHAT IT READS IS OF BULK AT MOST 1048576: true; the input reads as it did. -/
def isaApartUptoRow : OpenClaim := { program := "ytcehfaonmiocgaadoor", sum := "d68720147faec981d5066a4b63d86d903ab816b566c10032f23c50a7e62fde6a", func := "letterpress/letterpresslaw2.IsaApart", spec := "isaApart", inPlace := ["math.Float64bits", "math.Float64frombits"], unfollowed := true, recurses := true, named := ["letterpress/isa.short", "letterpress/isa.long", "strings.asciiSpace", "unicode.White_Space"], apart := false, laid := [("unicode.White_Space", laid_unicode_White_Space), ("strings.asciiSpace", laid_strings_asciiSpace), ("letterpress/isa.short", laid_letterpress_isa_short), ("letterpress/isa.long", laid_letterpress_isa_long)], narrowed := true }
def IsaApartUptoSaid : Prop := isaApartUptoRow.holds Tryd.pinned (OpenSpec.upto isaApartSpec)

/-- 'letterpresslaw2.IsaKinds', WHERE WHAT IT READS IS OF BULK AT MOST 1048576: true; the input reads as it did. -/
def isaKindsUptoRow : OpenClaim := { program := "ytcehfaonmiocgaadoor", sum := "d68720147faec981d5066a4b63d86d903ab816b566c10032f23c50a7e62fde6a", func := "letterpress/letterpresslaw2.IsaKinds", spec := "isaKinds", inPlace := ["math.Float64bits", "math.Float64frombits"], unfollowed := true, recurses := true, named := ["letterpress/isa.short", "letterpress/isa.long", "strings.asciiSpace", "unicode.White_Space"], apart := false, laid := [("unicode.White_Space", laid_unicode_White_Space), ("strings.asciiSpace", laid_strings_asciiSpace), ("letterpress/isa.short", laid_letterpress_isa_short), ("letterpress/isa.long", laid_letterpress_isa_long)], narrowed := true }
def IsaKindsUptoSaid : Prop := isaKindsUptoRow.holds Tryd.pinned (OpenSpec.upto isaKindsSpec)

/-- 'letterpresslaw2.IsaBits', WHERE WHAT IT READS IS OF BULK AT MOST 1048576: true; the input reads as it did. -/
def isaBitsUptoRow : OpenClaim := { program := "ytcehfaonmiocgaadoor", sum := "d68720147faec981d5066a4b63d86d903ab816b566c10032f23c50a7e62fde6a", func := "letterpress/letterpresslaw2.IsaBits", spec := "isaBits", inPlace := ["math.Float64bits", "math.Float64frombits"], unfollowed := true, recurses := true, named := ["letterpress/isa.short", "letterpress/isa.long", "strings.asciiSpace", "unicode.White_Space"], apart := false, laid := [("unicode.White_Space", laid_unicode_White_Space), ("strings.asciiSpace", laid_strings_asciiSpace), ("letterpress/isa.short", laid_letterpress_isa_short), ("letterpress/isa.long", laid_letterpress_isa_long)], narrowed := true }
def IsaBitsUptoSaid : Prop := isaBitsUptoRow.holds Tryd.pinned (OpenSpec.upto isaBitsSpec)

end Rows
end Go.Proofs.YtcehfaonmiocgaaDoor
