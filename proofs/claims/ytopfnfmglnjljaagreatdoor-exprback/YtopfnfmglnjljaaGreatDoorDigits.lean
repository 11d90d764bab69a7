/- The reference's Digits: a number in digits of ten; its Same, of two numbers. -/
import Derived.Test.YtopfnfmglnjljaaGreatDoorWithin
import Derived.Laws.Concat
import Derived.Laws.BytesArg
namespace Go.Proofs.YtopfnfmglnjljaaGreatDoor
open Go.ChangeShapes Go.WideShapes Go.ChangeAt Go.RowKit
set_option linter.unusedVariables false
set_option linter.unusedSimpArgs false

theorem dec_app (a b : Bs) : bs a ++ bs b = bs (a ++ b) := by apply ByteArray.ext; simp [bs]
theorem dec_size (a : Bs) : (bs a).size = a.length := by simp [bs, ByteArray.size]

set_option maxRecDepth 20000 in
theorem digits_one (n : Nat) (hn : n < 10) (w : World) :
    Calls Tryz.prog 32 #[.int .i64 n] w fun e w' => e = .returned (.string (bs (Go.Lib.decDigits n))) ∧ Below w.heap.size w w' := by
  have cv := run_convert_bytes_arg (P := Tryz.prog) (w.alloc (.cells #[.int .u8 (48 + (n : Int))] 5)) 36 5 Tryz.underlying36 Tryz.underlying5 w.heap.size 0 1 1 [48 + (n : Int)] rfl
    (fun i hi => by obtain rfl : i = 0 := by omega
                    exact new_cell _ 0 _ rfl) 9 Tryz.underlying9
  have hs : strOfNums [48 + (n : Int)] = bs (Go.Lib.decDigits n) := by
    rw [Go.Lib.decDigits_one hn]
    have : (48 + (n : Int)).toNat = 48 + n := by omega
    simp [strOfNums, bs, this]
  rw [hs] at cv
  have hb := below_new w (.cells #[.int .u8 (48 + (n : Int))] 5)
  go_enter Tryz.func32, Tryz.ntmps32
  go_wp2
  go_ret
  exact ⟨rfl, hb⟩

theorem dec_len (n : Nat) (h : n < 10000000000) : (Go.Lib.decDigits n).length ≤ 20 := by
  have step : ∀ (k m : Nat), m < 10 ^ (k + 1) → (Go.Lib.decDigits m).length ≤ k + 1 := by
    intro k
    induction k with
    | zero => intro m hm; rw [Go.Lib.decDigits_one (by simpa using hm)]; simp
    | succ k ih =>
      intro m hm
      by_cases c : m < 10
      · rw [Go.Lib.decDigits_one c]; simp
      · rw [Go.Lib.decDigits, dif_neg c]
        have := ih (m / 10) (by rw [Nat.div_lt_iff_lt_mul (by omega)]; rw [Nat.pow_succ] at hm; exact hm)
        simp; omega
  have := step 9 n (by simpa using h)
  omega

set_option maxRecDepth 20000 in
theorem digits_any (n : Nat) (h : n < 10000000000) : ∀ w : World,
    Calls Tryz.prog 32 #[.int .i64 n] w fun e w' => e = .returned (.string (bs (Go.Lib.decDigits n))) ∧ Below w.heap.size w w' := by
  induction n using Nat.strongRecOn with
  | _ n ih =>
    intro w
    by_cases c : n < 10
    · exact digits_one n c w
    · have D1 : ∀ w, Calls Tryz.prog 32 #[.int .i64 ((n : Int) / 10)] w fun e w' => e = .returned (.string (bs (Go.Lib.decDigits (n / 10)))) ∧ Below w.heap.size w w' := ih (n / 10) (by omega) (by omega)
      have D2 : ∀ w, Calls Tryz.prog 32 #[.int .i64 ((n : Int) % 10)] w fun e w' => e = .returned (.string (bs (Go.Lib.decDigits (n % 10)))) ∧ Below w.heap.size w w' := fun w => digits_one (n % 10) (by omega) w
      have l1 := dec_len (n / 10) (by omega)
      have e : Go.Lib.decDigits n = Go.Lib.decDigits (n / 10) ++ Go.Lib.decDigits (n % 10) := by
        rw [Go.Lib.decDigits, dif_neg c, Go.Lib.decDigits_one (i := n % 10) (by omega)]
      have l2 := dec_len (n % 10) (by omega)
      have A := fun w => run_string_add_sum (P := Tryz.prog) w (bs (Go.Lib.decDigits (n / 10))) (bs (Go.Lib.decDigits (n % 10))) (by rw [dec_size, dec_size]; omega)
      rw [dec_app, ← e] at A
      clear ih l1 l2 e
      go_enter Tryz.func32, Tryz.ntmps32
      go_wp2_with fail
      refine (D1 _).mono ?_
      rintro e w1 ⟨rfl, hb1⟩
      clear D1
      go_wp2_with fail
      refine (D2 _).mono ?_
      rintro e w2 ⟨rfl, hb2⟩
      clear D2
      have A2 := A w2
      clear A
      go_wp2_with fail
      go_ret
      exact ⟨rfl, hb1.trans (hb2.mono hb1.size)⟩

set_option maxRecDepth 20000 in
theorem same_nums (a : Int) (w : World) : Calls Tryz.prog 16 #[.agg #[.int .i64 1, .int .i64 a, .string ⟨#[]⟩, .slice none 0 0], .agg #[.int .i64 1, .int .i64 a, .string ⟨#[]⟩, .slice none 0 0]] w fun e w' => e = .returned (.bool true) ∧ Below w.heap.size w w' := by
  have h0 := below_new w (.cells #[.int .i64 1, .int .i64 a, .string ⟨#[]⟩, .slice none 0 0] 27)
  have h1 := below_new (w.alloc (.cells #[.int .i64 1, .int .i64 a, .string ⟨#[]⟩, .slice none 0 0] 27)) (.cells #[.int .i64 1, .int .i64 a, .string ⟨#[]⟩, .slice none 0 0] 27)
  have hb := h0.trans (h1.mono h0.size)
  have c0 := kept_cell h1 (new_cell (w := w) (t := 27) #[.int .i64 1, .int .i64 a, .string ⟨#[]⟩, .slice none 0 0] 3 _ rfl)
  go_enter Tryz.func16, Tryz.ntmps16
  go_wp2_with fail
  generalize ((w.alloc (.cells #[.int .i64 1, .int .i64 a, .string ⟨#[]⟩, .slice none 0 0] 27)).alloc (.cells #[.int .i64 1, .int .i64 a, .string ⟨#[]⟩, .slice none 0 0] 27)) = w2 at *
  go_loopw [5] (fun i wr => i = .int .i64 0 ∧ wr = w2) (fun _ _ => 0)
  case atStart => exact ⟨rfl, rfl⟩
  case round =>
    obtain ⟨rfl, rfl⟩ := hrel
    go_wp2_with fail
    go_ret
    exact ⟨rfl, hb⟩
end Go.Proofs.YtopfnfmglnjljaaGreatDoor
