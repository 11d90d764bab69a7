/- Responses as plain data. -/
import Derived.Test.YtkaclahcpmogaaaGreatDoorFrA
namespace Go.Proofs.YtkaclahcpmogaaaGreatDoor
open Go.RowKit
set_option linter.unusedVariables false
set_option linter.unusedSimpArgs false

structure Dg where
  frag : Bs
  line : Int
  e : Int
deriving DecidableEq
structure Rp where
  e : Int
  text : Bs
  image : Bs
  diags : List Dg
deriving DecidableEq

def diagB (d : Dg) : Bs := textB 1 d.frag ++ (numB 2 d.line ++ numB 1 d.e)
def respB (r : Rp) : Bs := numB 1 r.e ++ (textB 2 r.text ++ (textB 2 r.image ++ (numB 2 r.diags.length ++ r.diags.flatMap diagB)))

def diagR (s : Rs) : Dg × Rs := (⟨(textR 1 s).1, (numP 2 (textR 1 s).2).1, (numP 1 (numP 2 (textR 1 s).2).2).1⟩, (numP 1 (numP 2 (textR 1 s).2).2).2)
def diagsR : Nat → Rs → List Dg × Rs
  | 0, s => ([], s)
  | n + 1, s => ((diagR s).1 :: (diagsR n (diagR s).2).1, (diagsR n (diagR s).2).2)
def respR (s : Rs) : Rp × Rs :=
  (⟨(numP 1 s).1, (textR 2 (numP 1 s).2).1, (textR 2 (textR 2 (numP 1 s).2).2).1, (diagsR (countP 2 (textR 2 (textR 2 (numP 1 s).2).2).2).1.toNat (countP 2 (textR 2 (textR 2 (numP 1 s).2).2).2).2).1⟩,
    (diagsR (countP 2 (textR 2 (textR 2 (numP 1 s).2).2).2).1.toNat (countP 2 (textR 2 (textR 2 (numP 1 s).2).2).2).2).2)

/-- frame.right. -/
def errOk (e : Int) : Bool := decide (0 ≤ e) && decide (e ≤ 255)
def fragOk (s : Bs) : Bool := decide (s = []) || rightP ⟨4, s, [], 0⟩
def wrongP (d : Dg) : Bool := !fragOk d.frag || (decide (d.line < 0) || (decide (5000 < d.line) || !errOk d.e))
def rpRight (r : Rp) : Bool := errOk r.e && (decide (r.text.length ≤ 600) && (decide (r.image.length ≤ 4096) && (decide (r.diags.length ≤ 5000) && !r.diags.any wrongP)))

theorem diagsR_len (n : Nat) (s : Rs) : (diagsR n s).1.length = n := by
  induction n generalizing s with
  | zero => rfl
  | succ n ih => simp [diagsR, ih]

theorem diag_back (d : Dg) (h : wrongP d = false) (more : Bs) (sh : Bool) : diagR ⟨diagB d ++ more, sh⟩ = (d, ⟨more, sh⟩) := by
  unfold wrongP errOk at h
  simp only [Bool.or_eq_false_iff, Bool.not_eq_false', decide_eq_false_iff_not, Bool.and_eq_true, decide_eq_true_eq] at h
  obtain ⟨h1, h2, h3, h4, h5⟩ := h
  have hf : d.frag.length ≤ 12 := by
    unfold fragOk at h1
    simp only [Bool.or_eq_true, decide_eq_true_eq] at h1
    rcases h1 with h1 | h1
    · simp [h1]
    · exact (right_fits h1).2.1
  have e1 : textR 1 ⟨diagB d ++ more, sh⟩ = (d.frag, ⟨numB 2 d.line ++ (numB 1 d.e ++ more), sh⟩) := by
    unfold diagB
    rw [List.append_assoc, List.append_assoc]
    exact text_app (val1 (by omega) (by omega)) _ _
  unfold diagR
  rw [e1]
  simp only
  rw [num_app (val2 (by omega) (by omega))]
  simp only
  rw [num_app (val1 (by omega) (by omega))]

theorem diags_back (ds : List Dg) (h : ds.any wrongP = false) (more : Bs) (sh : Bool) : diagsR ds.length ⟨ds.flatMap diagB ++ more, sh⟩ = (ds, ⟨more, sh⟩) := by
  induction ds with
  | nil => rfl
  | cons d ds ih =>
    simp only [List.any_cons, Bool.or_eq_false_iff] at h
    simp only [List.length_cons, diagsR, List.flatMap_cons, List.append_assoc]
    rw [diag_back d h.1]
    simp only
    rw [ih h.2]

theorem diagB_len (d : Dg) : (diagB d).length = 4 + d.frag.length := by
  unfold diagB; simp only [List.length_append, numB_len, textB_len]; omega
theorem diagsB_len (ds : List Dg) : ds.length ≤ (ds.flatMap diagB).length := by
  induction ds with
  | nil => simp
  | cons d ds ih => simp only [List.flatMap_cons, List.length_append, List.length_cons, diagB_len]; omega

theorem resp_back (r : Rp) (h : rpRight r = true) : respR ⟨respB r, false⟩ = (r, ⟨[], false⟩) := by
  unfold rpRight errOk at h
  simp only [Bool.and_eq_true, decide_eq_true_eq, Bool.not_eq_true'] at h
  obtain ⟨⟨h1, h2⟩, h3, h4, h5, h6⟩ := h
  have hl := diagsB_len r.diags
  have e1 : numP 1 ⟨respB r, false⟩ = (r.e, ⟨textB 2 r.text ++ (textB 2 r.image ++ (numB 2 r.diags.length ++ r.diags.flatMap diagB)), false⟩) := num_app (val1 (by omega) (by omega)) _ _
  have e2 : textR 2 ⟨textB 2 r.text ++ (textB 2 r.image ++ (numB 2 r.diags.length ++ r.diags.flatMap diagB)), false⟩ = (r.text, ⟨textB 2 r.image ++ (numB 2 r.diags.length ++ r.diags.flatMap diagB), false⟩) := text_app (val2 (by omega) (by omega)) _ _
  have e3 : textR 2 ⟨textB 2 r.image ++ (numB 2 r.diags.length ++ r.diags.flatMap diagB), false⟩ = (r.image, ⟨numB 2 r.diags.length ++ r.diags.flatMap diagB, false⟩) := text_app (val2 (by omega) (by omega)) _ _
  have e4 : countP 2 ⟨numB 2 r.diags.length ++ r.diags.flatMap diagB, false⟩ = ((r.diags.length : Int), ⟨r.diags.flatMap diagB, false⟩) := by
    unfold countP
    rw [num_app (val2 (by omega) (by omega))]
    simp only
    rw [if_neg (by omega)]
  have e5 := diags_back r.diags h6 [] false
  rw [List.append_nil] at e5
  unfold respR
  rw [e1]; simp only
  rw [e2]; simp only
  rw [e3]; simp only
  rw [e4]; simp only [Int.toNat_natCast]
  rw [e5]
end Go.Proofs.YtkaclahcpmogaaaGreatDoor
