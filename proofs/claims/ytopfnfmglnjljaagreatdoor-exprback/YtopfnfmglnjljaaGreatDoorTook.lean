/- The contracts of skip, took, sign, between. -/
import Derived.Test.YtopfnfmglnjljaaGreatDoorBase
import Derived.Test.YtopfnfmglnjljaaGreatDoorEShelf
namespace Go.Proofs.YtopfnfmglnjljaaGreatDoor
open Go.ChangeShapes Go.WideShapes Go.ChangeAt Go.RowKit
set_option linter.unusedVariables false
set_option linter.unusedSimpArgs false

/-- The reader, with another text left. -/
theorem Rdr.put {w : World} {b : Nat} {s : Bs} {d : Nat} (h : Rdr w b s d) (t : Bs) : Rdr (w.setCell ⟨b, 0, none⟩ (.string (bs t))) b t d := by
  have h0 := h.c0; have h1 := h.c1; have f0 := h.f0; have f1 := h.f1
  constructor
  · exact World.cell?_setCell_same _ _ _ h0
  · rw [← h1]; exact World.cell?_setCell_other _ _ _ _ (fun e => by cases e)
  · rw [World.frozen?_setCell]; exact f0
  · rw [World.frozen?_setCell]; exact f1

theorem Rdr.deep {w : World} {b : Nat} {s : Bs} {d : Nat} (h : Rdr w b s d) (n : Nat) : Rdr (w.setCell ⟨b, 1, none⟩ (.int .i64 n)) b s n := by
  have h0 := h.c0; have h1 := h.c1; have f0 := h.f0; have f1 := h.f1
  constructor
  · rw [← h0]; exact World.cell?_setCell_other _ _ _ _ (fun e => by cases e)
  · exact World.cell?_setCell_same _ _ _ h1
  · rw [World.frozen?_setCell]; exact f0
  · rw [World.frozen?_setCell]; exact f1

set_option maxHeartbeats 400000 in
theorem skip_any (b : Nat) (s : Bs) (d : Nat) (w : World) (h : Rdr w b s d) :
    Calls Tryz.prog 48 #[.pointer (some ⟨b, 0, none⟩)] w fun e w' => e = .returned (.tuple #[]) ∧ Beside b w w' ∧ Rdr w' b (skipP s) d := by
  have T := fun W => Tryz.strings_TrimLeft_one (bs s) 32 (by decide) W
  simp only [bs_list] at T
  have h0 := h.c0
  have f0 := h.f0
  go_enter Tryz.func48, Tryz.ntmps48
  go_wp2_with (go_at_call 63; refine (T _).mono ?_; rintro e w' ⟨rfl, rfl⟩)
  go_end0
  exact ⟨rfl, Beside.set (a := ⟨b, 0, none⟩) _ rfl _, h.put _⟩

set_option maxHeartbeats 400000 in
theorem took_any (b : Nat) (s t : Bs) (d : Nat) (w : World) (h : Rdr w b s d) :
    Calls Tryz.prog 78 #[.pointer (some ⟨b, 0, none⟩), .string (bs t)] w fun e w' => e = .returned (.bool (tookP s t).2) ∧ Beside b w w' ∧ Rdr w' b (tookP s t).1 d := by
  have T := fun W => Tryz.strings_CutPrefix (bs (skipP s)) (bs t) W
  simp only [bs_list] at T
  go_enter Tryz.func78, Tryz.ntmps78
  go_wp2_with (first | (go_at_call 48; refine (skip_any b s d _ h).mono ?_; rintro e w1 ⟨rfl, hb1, h1⟩; have c0 := h1.c0; have f0 := h1.f0) | (go_at_call 90; refine (T _).mono ?_; rintro e w' ⟨rfl, rfl⟩))
  go_ret
  exact ⟨rfl, hb1.trans (Beside.set (a := ⟨b, 0, none⟩) _ rfl _), h1.put _⟩

theorem signs_len : ∀ k : Fin 7, True := fun _ => trivial
end Go.Proofs.YtopfnfmglnjljaaGreatDoor
