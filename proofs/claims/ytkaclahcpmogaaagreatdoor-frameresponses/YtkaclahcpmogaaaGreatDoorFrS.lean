/- Requests side by side; what is known. -/
import Derived.Test.YtkaclahcpmogaaaGreatDoorFrR
import Derived.Laws.StructEq
namespace Go.Proofs.YtkaclahcpmogaaaGreatDoor
open Go.ChangeShapes Go.WideShapes Go.ChangeAt Go.RowKit
set_option linter.unusedVariables false
set_option linter.unusedSimpArgs false

theorem rq_equal (a b : Rq) (w : World) : (Op.equalIn 10000 27 (rqVal a) (rqVal b)).run Tryz.prog w = .ok (decide (a = b)) w := by
  obtain ⟨k, n, t, v⟩ := a
  obtain ⟨k', n', t', v'⟩ := b
  unfold rqVal
  rw [run_equalIn_struct (P := Tryz.prog) w 9999 27 _ _ (by kernel_rfl) (by kernel_rfl)]
  have e1 := bs_eq n n'
  have e2 := bs_eq t t'
  have c1 : Tryz.prog.cellsOf 3 = 1 := by kernel_rfl
  have c2 : Tryz.prog.cellsOf 9 = 1 := by kernel_rfl
  by_cases hk : k = k'
  · by_cases hn : n = n'
    · by_cases ht : t = t'
      · by_cases hv : v = v'
        · subst hk hn ht hv
          simp [Program.fieldsOf, Tryz.underlying27, Op.eqFields, part, Tryz.underlying3, Tryz.underlying9, go_sem]
        · have h1 : (v == v') = false := by simpa using hv
          subst hk hn ht
          simp [Program.fieldsOf, Tryz.underlying27, Op.eqFields, part, Tryz.underlying3, Tryz.underlying9, go_sem, h1, hv]
      · have h1 : ((bs t).toList == (bs t').toList) = false := by rw [e2]; simpa using ht
        subst hk hn
        simp [Program.fieldsOf, Tryz.underlying27, Op.eqFields, part, Tryz.underlying3, Tryz.underlying9, go_sem, h1, ht]
    · have h1 : ((bs n).toList == (bs n').toList) = false := by rw [e1]; simpa using hn
      subst hk
      simp [Program.fieldsOf, Tryz.underlying27, Op.eqFields, part, Tryz.underlying3, Tryz.underlying9, go_sem, h1, hn]
  · have h1 : (k == k') = false := by simpa using hk
    simp [Program.fieldsOf, Tryz.underlying27, Op.eqFields, part, Tryz.underlying3, Tryz.underlying9, go_sem, h1, hk]

theorem rq_eq (a b : Rq) (w : World) : (binOp .eql 27 (rqVal a) (rqVal b)).run Tryz.prog w = .ok (.bool (decide (a = b))) w := by
  have h := rq_equal a b w
  unfold rqVal at *
  rw [run_eql_struct, h]
  rfl
theorem rq_neq (a b : Rq) (w : World) : (binOp .neq 27 (rqVal a) (rqVal b)).run Tryz.prog w = .ok (.bool (!decide (a = b))) w := by
  have h := rq_equal a b w
  unfold rqVal at *
  rw [run_neq_struct, h]
  rfl

def kqR : Rq := ⟨5, [107], [], -7⟩
theorem kq_right : rightP kqR = true := by
  have h : wordL [107] = true := wordL_word (by decide)
  unfold rightP nameOk textOk valueOk kqR
  simp [h]
def krR : Rp := ⟨11, [], [], []⟩
theorem kr_right : rpRight krR = true := by decide
theorem read_none : readReqP [] = (.zero, 0, 0) := by
  have e : numP 2 ⟨[], false⟩ = (0, ⟨[], true⟩) := by unfold numP takeP; rw [if_pos (by decide)]; rfl
  unfold readReqP
  rw [e]
  simp

set_option maxHeartbeats 3200000 in
set_option maxRecDepth 100000 in
theorem known_any (w : World) (T : Tab w) : Calls Tryz.prog 9 #[] w fun e w' => e = .returned (.bool true) ∧ Below w.heap.size w w' := by
  have R0 := readReq_any (.slice none 0 0) [] w T (bytesAt_none _ _)
  rw [read_none] at R0
  have Q := fun W T => request_any kqR kq_right W T
  have RR := fun v W T hB => readReq_any v (headed 2 (reqB kqR)) W T hB
  have e1 : readReqP (headed 2 (reqB kqR)) = (kqR, 13, 0) := by
    have := read_back kq_right []
    rw [List.append_nil] at this
    rw [this]
    congr 1
  rw [e1] at RR
  have P := fun W T => response_any krR (.slice none 0 0) (.slice none 0 0) kr_right W T (bytesAt_none _ _) (diagsAt_none _ _)
  have PP := fun v W T hB => readResp_any v (headed 3 (respB krR)) W T hB
  have e2 : readRespP (headed 3 (respB krR)) = (krR, 10, true) := by
    have := resp_read kr_right []
    rw [List.append_nil] at this
    rw [this]
    congr 1
  rw [e2] at PP
  clear e1 e2
  have hq := fun W => rq_eq kqR kqR W
  simp only [decide_true] at hq
  unfold rqVal kqR krR Rq.zero at *
  simp only at *
  go_enter Tryz.func9, Tryz.ntmps9
  go_wp2_with fail
  refine R0.mono ?_
  rintro e w1 ⟨rfl, hb1⟩
  clear R0
  go_wp2_with fail
  have hb2 := (below_new w1 (.cells #[.int .i64 0, .string (bs []), .string (bs []), .int .i64 0] 27)).alloc (by simp) (.cells #[.int .i64 5, .string ⟨#[107]⟩, .string ⟨#[]⟩, .int .i64 (-7)] 27)
  have L2 : ((w1.alloc (.cells #[.int .i64 0, .string (bs []), .string (bs []), .int .i64 0] 27)).alloc (.cells #[.int .i64 5, .string ⟨#[107]⟩, .string ⟨#[]⟩, .int .i64 (-7)] 27)).heap[w1.heap.size + 1]? = some (.cells #[.int .i64 5, .string ⟨#[107]⟩, .string ⟨#[]⟩, .int .i64 (-7)] 27 (0, 0)) := by
    have := heap_alloc_new (w1.alloc (.cells #[.int .i64 0, .string (bs []), .string (bs []), .int .i64 0] 27)) (.cells #[.int .i64 5, .string ⟨#[107]⟩, .string ⟨#[]⟩, .int .i64 (-7)] 27)
    simpa using this
  have B2 := hb1.trans (hb2.mono hb1.size)
  generalize (w1.alloc (.cells #[.int .i64 0, .string (bs []), .string (bs []), .int .i64 0] 27)).alloc (.cells #[.int .i64 5, .string ⟨#[107]⟩, .string ⟨#[]⟩, .int .i64 (-7)] 27) = w2 at *
  generalize w1.heap.size + 1 = k4 at *
  refine (Q w2 (T.later B2)).mono ?_
  rintro e w3 ⟨v3, rfl, hO3, hb3⟩
  have L3 := (hb3.block k4 (Array.getElem?_eq_some_iff.1 L2).1).trans L2
  have B3 := B2.trans (hb3.mono B2.size)
  have hy3 := hO3.bytes (Nat.le_refl w3.heap.size)
  obtain ⟨p3, q3, rfl⟩ := row_slice hO3
  clear L2 hb3 hb2 B2 hO3 Q
  go_wp2_with fail
  refine (RR _ w3 (T.later B3) hy3).mono ?_
  rintro e w4 ⟨rfl, hb4⟩
  have L4 := (hb4.block k4 (Array.getElem?_eq_some_iff.1 L3).1).trans L3
  have B4 := B3.trans (hb4.mono B3.size)
  clear L3 hb4 B3 hy3 RR
  go_wp2_with fail
  have hb5 := below_new w4 (.cells #[.int .i64 5, .string (bs [107]), .string (bs []), .int .i64 (-7)] 27)
  have L5 := (hb5.block k4 (Array.getElem?_eq_some_iff.1 L4).1).trans L4
  have X5 := heap_alloc_new w4 (.cells #[.int .i64 5, .string (bs [107]), .string (bs []), .int .i64 (-7)] 27)
  have B5 := B4.trans (hb5.mono B4.size)
  generalize w4.alloc (.cells #[.int .i64 5, .string (bs [107]), .string (bs []), .int .i64 (-7)] 27) = w5 at *
  generalize w4.heap.size = k5 at *
  refine (P w5 (T.later B5)).mono ?_
  rintro e w6 ⟨v6, rfl, hO6, hb6⟩
  have L6 := (hb6.block k4 (Array.getElem?_eq_some_iff.1 L5).1).trans L5
  have X6 := (hb6.block k5 (Array.getElem?_eq_some_iff.1 X5).1).trans X5
  have B6 := B5.trans (hb6.mono B5.size)
  have hy6 := hO6.bytes (Nat.le_refl w6.heap.size)
  obtain ⟨p6, q6, rfl⟩ := row_slice hO6
  clear L4 L5 X5 hb5 hb6 B4 B5 hO6 P
  go_wp2_with fail
  refine (PP _ w6 (T.later B6) hy6).mono ?_
  rintro e w7 ⟨iv, dv, rfl, hI, hD, hb7⟩
  have L7 := (hb7.block k4 (Array.getElem?_eq_some_iff.1 L6).1).trans L6
  have X7 := (hb7.block k5 (Array.getElem?_eq_some_iff.1 X6).1).trans X6
  have B7 := B6.trans (hb7.mono B6.size)
  obtain ⟨ip, ic, rfl, _⟩ := hI
  obtain ⟨dp, dc, rfl, _⟩ := hD
  have l4 := (Array.getElem?_eq_some_iff.1 L7).1
  have l5 := (Array.getElem?_eq_some_iff.1 X7).1
  have c0 := cell_at L7 0 _ rfl
  have c1 := cell_at L7 1 _ rfl
  have c2 := cell_at L7 2 _ rfl
  have c3 := cell_at L7 3 _ rfl
  have d0 := cell_at X7 0 _ rfl
  have d1 := cell_at X7 1 _ rfl
  have d2 := cell_at X7 2 _ rfl
  have d3 := cell_at X7 3 _ rfl
  have hbk : bs [107] = ⟨#[107]⟩ := rfl
  have hbe : bs [] = ⟨#[]⟩ := rfl
  rw [hbk, hbe] at hq
  rw [hbk] at d1
  rw [hbe] at d2
  have B8 := B7.alloc B7.size (.cells #[.int .i64 11, .string (bs []), .slice ip 0 ic, .slice dp 0 dc] 42)
  clear L6 X6 hb7 B6 hy6 PP L7 X7
  go_wp2_with fail
  go_ret
  exact ⟨rfl, B8⟩
end Go.Proofs.YtkaclahcpmogaaaGreatDoor
