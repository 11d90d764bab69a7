/- The contract of dis.first: the line that some bytes begin with. -/
import Derived.Test.YtagplfochalidabDoorDecode
import Derived.Test.YtagplfochalidabDoorInst
import Derived.Laws.Concat
namespace Go.Proofs.YtagplfochalidabDoor
open Go.ChangeShapes Go.WideShapes Go.ChangeAt Go.RowKit
open Plain
set_option linter.unusedVariables false
set_option linter.unusedSimpArgs false

theorem BytesAt.later {w w' : World} {v : Value} {bs : List Int} (h : BytesAt w v bs) (hb : Below w.heap.size w w') : BytesAt w' v bs := by
  obtain ⟨p, cap, rfl, hc, h⟩ := h
  refine ⟨p, cap, rfl, hc, fun hn => ?_⟩
  obtain ⟨b, o, e, h2⟩ := h hn
  exact ⟨b, o, e, fun i x hx => kept_cell hb (h2 i x hx)⟩

theorem dec_app (a b : List UInt8) : bs a ++ bs b = bs (a ++ b) := by apply ByteArray.ext; simp [bs]
theorem dec_size (a : List UInt8) : (bs a).size = a.length := by simp [bs, ByteArray.size]

theorem str_add (a b : List UInt8) (h : a.length + b.length ≤ 9223372036854775807) (W : World) : (Op.stringOp .add (bs a) (bs b)).run Tryd.prog W = .ok (.string (bs (a ++ b))) W := by
  have := run_string_add_sum (P := Tryd.prog) (w := W) (bs a) (bs b) (by rw [dec_size, dec_size]; exact h)
  rw [dec_app] at this
  exact this

theorem dec_len (u : Nat) : (Lib.decDigits u).length ≤ u + 1 := by
  induction u using Nat.strongRecOn with
  | ind u ih =>
    rw [Lib.decDigits]
    split
    · simp
    · have := ih (u / 10) (by omega)
      simp
      omega

theorem itoa_len (n : Int) (h0 : 0 ≤ n) (h1 : n ≤ 65535) : (Lib.itoa n).length ≤ 65536 := by
  unfold Lib.itoa
  rw [if_neg (by omega)]
  have := dec_len n.toNat
  omega

def byteW : List UInt8 := [46, 98, 121, 116, 101, 32]
def halfW : List UInt8 := [46, 104, 97, 108, 102, 32]

/-- What these bytes are listed as, and how many of them. -/
def lineP (b : List Int) : List UInt8 × Nat :=
  match decodeP b with
  | some _ => (blr, 2)
  | none => match b with
    | [x] => (byteW ++ Lib.itoa x, 1)
    | x :: y :: _ => (halfW ++ Lib.itoa (x * 256 + y), 2)
    | [] => ([], 0)

/-- Bytes that begin with se_blr, or with no instruction, and not with one of four bytes. -/
structure Fine (b : List Int) : Prop where
  bytes : AreBytes b
  small : (leadP b).2.1 ≤ 2
  dec : decodeP b = none ∨ decodeP b = some (3, [], 2)

set_option maxHeartbeats 3200000 in
set_option maxRecDepth 20000 in
theorem line_byte (v : Value) (x : Int) (w : World) (T : Tab w) (hB : BytesAt w v [x]) (hf : Fine [x]) (hd : decodeP [x] = none) : Calls Tryd.prog 12 #[v] w fun e w' => e = .returned (.tuple #[.string (bs (lineP [x]).1), .int .i64 (lineP [x]).2]) ∧ Below w.heap.size w w' := by
  have D := decode_any v [x] w T hB hf.bytes hf.small
  obtain ⟨p, cap, rfl, hcap, hC0⟩ := id hB
  obtain ⟨g, o, rfl, hC⟩ := hC0 (by simp)
  rw [hd] at D
  have hl : Hid (lineP [x] = (byteW ++ Lib.itoa x, 1)) := by show _ = _; unfold lineP; rw [hd]
  obtain ⟨x0, x1⟩ := hf.bytes x (by simp)
  have c0 := hC 0 x rfl
  rw [Nat.add_zero] at c0
  have A0 := str_add byteW (Lib.itoa x) (by have := itoa_len x x0 (by omega); simp [byteW]; omega)
  rw [show bs byteW = ⟨#[46, 98, 121, 116, 101, 32]⟩ from rfl] at A0
  clear hC0 hC hd hf hB
  go_enter Tryd.func12, Tryd.ntmps12
  go_wp2_with fail
  refine D.mono ?_
  rintro e w1 ⟨hb1, rfl⟩
  have ha : Below w.heap.size w (w1.alloc (.cells #[.int .i64 0, .slice none 0 0] 42)) := hb1.alloc hb1.size _
  have c1 := kept_alloc (o := .cells #[.int .i64 0, .slice none 0 0] 42) (kept_cell hb1 c0)
  have I := itoa_any x (by omega) (by omega) _ (T.later ha)
  clear D c0
  go_wp2_with (go_at_call 16; refine I.mono ?_; rintro e w2 ⟨rfl, hb2⟩)
  go_ret2
  exact ⟨by rw [hl.out]; rfl, ha.trans (hb2.mono ha.size)⟩

set_option maxHeartbeats 3200000 in
set_option maxRecDepth 20000 in
theorem line_half (v : Value) (x y : Int) (rest : List Int) (w : World) (T : Tab w) (hB : BytesAt w v (x :: y :: rest)) (hf : Fine (x :: y :: rest)) (hd : decodeP (x :: y :: rest) = none) : Calls Tryd.prog 12 #[v] w fun e w' => e = .returned (.tuple #[.string (bs (lineP (x :: y :: rest)).1), .int .i64 (lineP (x :: y :: rest)).2]) ∧ Below w.heap.size w w' := by
  have D := decode_any v (x :: y :: rest) w T hB hf.bytes hf.small
  obtain ⟨p, cap, rfl, hcap, hC0⟩ := id hB
  obtain ⟨g, o, rfl, hC⟩ := hC0 (by simp)
  rw [hd] at D
  have hl : Hid (lineP (x :: y :: rest) = (halfW ++ Lib.itoa (x * 256 + y), 2)) := by show _ = _; unfold lineP; rw [hd]
  obtain ⟨x0, x1⟩ := hf.bytes x (by simp)
  obtain ⟨y0, y1⟩ := hf.bytes y (by simp)
  have c0 := hC 0 x rfl
  have c1 := hC 1 y rfl
  rw [Nat.add_zero] at c0
  have A0 := str_add halfW (Lib.itoa (x * 256 + y)) (by have := itoa_len (x * 256 + y) (by omega) (by omega); simp [halfW]; omega)
  rw [show bs halfW = ⟨#[46, 104, 97, 108, 102, 32]⟩ from rfl] at A0
  have wx : IntKind.i64.wrap x = x := by rw [IntKind.wrap_i64]; omega
  have wy : IntKind.i64.wrap y = y := by rw [IntKind.wrap_i64]; omega
  have wxx : IntKind.i64.wrap (x * 256) = x * 256 := by rw [IntKind.wrap_i64]; omega
  have e1 : bits .or .i64 (x * 256) y = x * 256 + y := or_i64 8 _ y (by omega) (by omega) (by omega) (by omega) (by omega) (by omega)
  have hlen : (((x :: y :: rest).length : Nat) : Int) = (rest.length : Int) + 2 := by simp; omega
  have hne1 : (((x :: y :: rest).length : Int) == 1) = false := by rw [hlen]; simp; omega
  have hlt1 : (1 : Int) < ((x :: y :: rest).length : Int) := by omega
  have hlt0 : (0 : Int) < ((x :: y :: rest).length : Int) := by omega
  have hnt0 : 0 < (x :: y :: rest).length := by simp
  have hnt1 : 1 < (x :: y :: rest).length := by simp
  generalize (x :: y :: rest).length = n at *
  clear hC0 hC hd hf hB hlen
  go_enter Tryd.func12, Tryd.ntmps12
  go_wp2_with fail
  refine D.mono ?_
  rintro e w1 ⟨hb1, rfl⟩
  have ha : Below w.heap.size w (w1.alloc (.cells #[.int .i64 0, .slice none 0 0] 42)) := hb1.alloc hb1.size _
  have d0 := kept_alloc (o := .cells #[.int .i64 0, .slice none 0 0] 42) (kept_cell hb1 c0)
  have d1 := kept_alloc (o := .cells #[.int .i64 0, .slice none 0 0] 42) (kept_cell hb1 c1)
  clear D c0 c1
  go_wp2_with fail
  generalize w1.alloc (.cells #[.int .i64 0, .slice none 0 0] 42) = w2 at *
  have r0 := cell_regrown d0
  have r1 := cell_regrown d1
  have Q0 := fun d os => Calls.regrown_of (itoa_any (x * 256 + y) (by omega) (by omega) (Go.Sort.grow (redrawn w2 d) os) (T.later (ha.trans ((below_regrown w2 d os).mono ha.size))))
  refine wp_region_quiet_below (by kernel_rfl) (by kernel_rfl) ?_
  repeat (quiet_step (first | with_reducible exact Q0 _ _))
  refine wpQuiet_nil ?_
  intro _ hw'
  obtain ⟨⟨dq, osq⟩, hw''⟩ := hw'
  subst hw''
  go_wp2
  go_ret2
  exact ⟨by rw [hl.out]; rfl, ha.trans ((below_regrown w2 dq osq).mono ha.size)⟩

set_option maxHeartbeats 3200000 in
set_option maxRecDepth 20000 in
theorem line_blr (v : Value) (b : List Int) (w : World) (T : Tab w) (hB : BytesAt w v b) (hn : b ≠ []) (hf : Fine b) (hd : decodeP b = some (3, [], 2)) : Calls Tryd.prog 12 #[v] w fun e w' => e = .returned (.tuple #[.string (bs (lineP b).1), .int .i64 (lineP b).2]) ∧ Below w.heap.size w w' := by
  have D := decode_any v b w T hB hf.bytes hf.small
  obtain ⟨p, cap, rfl, hcap, hC0⟩ := id hB
  obtain ⟨g, o, rfl, hC⟩ := hC0 hn
  rw [hd] at D
  have hl : Hid (lineP b = (blr, 2)) := by show _ = _; unfold lineP; rw [hd]
  clear hC0 hC
  go_enter Tryd.func12, Tryd.ntmps12
  go_wp2_with fail
  refine D.mono ?_
  rintro e w1 ⟨hb1, vv, rfl, hN⟩
  obtain ⟨pp, pc, rfl, _⟩ := hN
  have ha : Below w.heap.size w (w1.alloc (.cells #[.int .i64 3, .slice pp 0 pc] 42)) := hb1.alloc hb1.size _
  have I := inst_blr (.slice pp 0 pc) _ (T.later ha)
  clear D
  go_wp2_with (go_at_call 15; refine I.mono ?_; rintro e w2 ⟨rfl, hb2⟩)
  go_ret2
  exact ⟨by rw [hl.out]; rfl, ha.trans (hb2.mono ha.size)⟩

theorem line_any (v : Value) (b : List Int) (w : World) (T : Tab w) (hB : BytesAt w v b) (hn : b ≠ []) (hf : Fine b) : Calls Tryd.prog 12 #[v] w fun e w' => e = .returned (.tuple #[.string (bs (lineP b).1), .int .i64 (lineP b).2]) ∧ Below w.heap.size w w' := by
  rcases hf.dec with hd | hd
  · cases b with
    | nil => exact absurd rfl hn
    | cons x l =>
      cases l with
      | nil => exact line_byte v x w T hB hf hd
      | cons y rest => exact line_half v x y rest w T hB hf hd
  · exact line_blr v b w T hB hn hf hd
end Go.Proofs.YtagplfochalidabDoor
