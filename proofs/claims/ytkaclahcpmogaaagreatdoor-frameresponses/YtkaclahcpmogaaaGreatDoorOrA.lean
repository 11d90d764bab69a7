/- A statement that leaves its order open, by what each of its operations yields: whatever order is drawn, each operation meets its operands' facts and leaves its own. -/
import Derived.WalkKit
import Derived.WalkLawsBesides
import Derived.BigRegion
namespace Go.Proofs.YtkaclahcpmogaaaGreatDoor.Orders
open Go

def upd (u : Nat → Value) (i : Nat) (v : Value) : Nat → Value := fun k => if k = i then v else u k

theorem upd_same (u : Nat → Value) (i : Nat) (v : Value) : upd u i v i = v := by simp [upd]
theorem upd_other (u : Nat → Value) (i j : Nat) (v : Value) (h : j ≠ i) : upd u i v j = u j := by simp [upd, h]

/-- Each operation waits for earlier ones alone. -/
def early (ops : Array Oper) : Bool := (List.range ops.size).all fun i => ((ops[i]?).map fun o => o.after.all fun e => !Region.binds .any e || decide (e.on < i)).getD true

/-- How many are not listed yet. -/
def left (n : Nat) (listed : Array Bool) : Nat := ((List.range n).filter fun i => !listed.getD i true).length

theorem all_listed {ops : Array Oper} {listed : Array Bool} (he : early ops = true) (hs : listed.size = ops.size) (hr : Region.ready .any ops listed = []) :
    ∀ j, j < ops.size → listed.getD j false = true := by
  intro j
  induction j using Nat.strongRecOn with
  | _ j ih =>
    intro hj
    cases hl : listed.getD j false with
    | true => rfl
    | false =>
      exfalso
      have hm : j ∈ Region.ready .any ops listed := by
        unfold Region.ready
        rw [List.mem_filter]
        refine ⟨List.mem_range.2 hj, ?_⟩
        have h1 : listed.getD j true = false := by
          have : j < listed.size := by omega
          simp only [Array.getD, this, dite_true] at hl ⊢
          exact hl
        have h2 : ops[j]? = some ops[j] := Array.getElem?_eq_getElem hj
        simp only [h1, h2, Bool.not_false, Bool.true_and, Option.map_some, Option.getD_some]
        rw [Array.all_eq_true]
        intro k hk
        cases hb : Region.binds .any ops[j].after[k] with
        | false => simp
        | true =>
          have he' := he
          unfold early at he'
          rw [List.all_eq_true] at he'
          have := he' j (List.mem_range.2 hj)
          simp only [h2, Option.map_some, Option.getD_some] at this
          rw [Array.all_eq_true] at this
          have := this k hk
          simp only [hb, Bool.not_true, Bool.false_or, decide_eq_true_eq] at this
          simp only [Bool.not_true, Bool.false_or]
          exact ih _ this (by omega)
      rw [hr] at hm
      exact absurd hm (by simp)

theorem left_set {n i : Nat} {listed : Array Bool} (hs : listed.size = n) (hi : i < n) (hl : listed.getD i true = false) :
    left n (listed.setIfInBounds i true) + 1 = left n listed := by
  unfold left
  have key : ∀ (l : List Nat), l.Nodup → (∀ x ∈ l, x < n) → i ∈ l →
      (l.filter fun k => !(listed.setIfInBounds i true).getD k true).length + 1 = (l.filter fun k => !listed.getD k true).length := by
    intro l
    induction l with
    | nil => intro _ _ h; simp at h
    | cons x l ih =>
      intro hn hx hm
      have get : ∀ k, k < n → k ≠ i → (listed.setIfInBounds i true).getD k true = listed.getD k true := by
        intro k hk hne
        have h1 : k < listed.size := by omega
        have h2 : k < (listed.setIfInBounds i true).size := by simpa using h1
        simp only [Array.getD, h1, h2, dite_true]
        exact Array.getElem_setIfInBounds_ne h1 (Ne.symm hne)
      have geti : (listed.setIfInBounds i true).getD i true = true := by
        have h1 : i < listed.size := by omega
        simp [Array.getD, h1]
      rw [List.nodup_cons] at hn
      by_cases hxi : x = i
      · subst hxi
        have same : l.filter (fun k => !(listed.setIfInBounds x true).getD k true) = l.filter (fun k => !listed.getD k true) := by
          apply List.filter_congr
          intro k hk
          rw [get k (hx k (by simp [hk])) (fun e => hn.1 (by rw [← e]; exact hk))]
        rw [List.filter_cons, List.filter_cons, geti, hl, same]
        simp
      · have hm' : i ∈ l := by
          rcases List.mem_cons.1 hm with h | h
          · exact absurd h.symm hxi
          · exact h
        have := ih hn.2 (fun y hy => hx y (by simp [hy])) hm'
        rw [List.filter_cons, List.filter_cons, get x (hx x (by simp)) hxi]
        cases listed.getD x true with
        | true => simpa only [Bool.not_true, Bool.false_eq_true, if_false] using this
        | false =>
          simp only [Bool.not_false, if_true, List.length_cons]
          omega
  exact key _ List.nodup_range (fun x hx => List.mem_range.1 hx) (List.mem_range.2 hi)

def updL (L : Nat → Bool) (i : Nat) : Nat → Bool := fun k => if k = i then true else L k

theorem updL_same (L : Nat → Bool) (i : Nat) : updL L i i = true := by simp [updL]
theorem updL_other (L : Nat → Bool) (i j : Nat) (h : j ≠ i) : updL L i j = L j := by simp [updL, h]

section
variable {P : Program} {ops : Array Oper} {Q : Exit → Act → World → Prop}

theorem wpAny_inv (frame : (Nat → Value) → Act) (I : (Nat → Bool) → (Nat → Value) → World → Prop) (he : early ops = true)
    (step : ∀ i o L u w, ops[i]? = some o → L i = false → (∀ e ∈ o.after.toList, Region.binds .any e = true → L e.on = true) → I L u w →
      wpOp P ops Q i (fun a' w' => ∃ v, a' = frame (upd u i v) ∧ I (updL L i) (upd u i v) w') (frame u) w)
    (done : ∀ L u w, (∀ j, j < ops.size → L j = true) → I L u w → Q .normal (frame u) w) :
    ∀ (fuel : Nat) (listed : Array Bool) (u : Nat → Value) (w : World), listed.size = ops.size → left ops.size listed ≤ fuel →
      I (fun j => listed.getD j false) u w → wpAny P .any ops Q fuel listed (frame u) w := by
  intro fuel
  induction fuel with
  | zero =>
    intro listed u w hs hf hI
    have hz : (List.range ops.size).filter (fun i => !listed.getD i true) = [] := List.length_eq_zero_iff.1 (by unfold left at hf; omega)
    have hr : Region.ready .any ops listed = [] := by
      unfold Region.ready
      rw [List.filter_eq_nil_iff] at hz ⊢
      intro x hx h
      apply hz x hx
      rw [Bool.and_eq_true] at h
      exact h.1
    exact ⟨hr, done _ u w (fun j hj => all_listed he hs hr j hj) hI⟩
  | succ fuel ih =>
    intro listed u w hs hf hI
    refine ⟨fun hr => done _ u w (fun j hj => all_listed he hs hr j hj) hI, ?_⟩
    intro i hi
    unfold Region.ready at hi
    rw [List.mem_filter, List.mem_range, Bool.and_eq_true] at hi
    obtain ⟨hin, hl, ha⟩ := hi
    have hl' : listed.getD i true = false := by simpa using hl
    have hil : i < listed.size := by omega
    have hl2 : listed.getD i false = false := by
      simp only [Array.getD, hil, dite_true] at hl' ⊢
      exact hl'
    have h2 : ops[i]? = some ops[i] := Array.getElem?_eq_getElem hin
    simp only [h2, Option.map_some, Option.getD_some] at ha
    rw [Array.all_eq_true] at ha
    have early' : ∀ e ∈ ops[i].after.toList, Region.binds .any e = true → (fun j => listed.getD j false) e.on = true := by
      intro e hme hb
      obtain ⟨k, hk, rfl⟩ := List.getElem_of_mem hme
      have hk' : k < ops[i].after.size := by simpa using hk
      have h := ha k hk'
      have eqe : ops[i].after.toList[k] = ops[i].after[k] := by simp
      rw [eqe] at hb ⊢
      simp only [hb, Bool.not_true, Bool.false_or] at h
      exact h
    refine wpOp_mono ?_ (step i ops[i] _ u w h2 hl2 early' hI)
    rintro a' w' ⟨v, rfl, hI'⟩
    have hL : (fun j => (listed.setIfInBounds i true).getD j false) = updL (fun j => listed.getD j false) i := by
      funext j
      by_cases hji : j = i
      · subst hji; rw [updL_same]; simp [Array.getD, hil]
      · rw [updL_other _ _ _ hji]
        exact getD_set_ne false (Ne.symm hji)
    refine ih _ _ _ (by simpa using hs) ?_ (by rw [hL]; exact hI')
    have := left_set hs hin hl'
    omega

/-- THE RULE: a statement that draws its order, by what holds of what is listed so far. -/
theorem region_inv {id : Nat} {w : World} (hm : P.follows .mixedOrders = true) (frame : (Nat → Value) → Act) (I : (Nat → Bool) → (Nat → Value) → World → Prop) (he : early ops = true)
    (u : Nat → Value) (hI : I (fun _ => false) u { w with drawn := w.drawn + 1 })
    (step : ∀ i o L u w, ops[i]? = some o → L i = false → (∀ e ∈ o.after.toList, Region.binds .any e = true → L e.on = true) → I L u w →
      wpOp P ops Q i (fun a' w' => ∃ v, a' = frame (upd u i v) ∧ I (updL L i) (upd u i v) w') (frame u) w)
    (done : ∀ L u w, (∀ j, j < ops.size → L j = true) → I L u w → Q .normal (frame u) w) :
    (Code.region id ops true).wp P Q (frame u) w := by
  refine wp_region_any hm (wpAny_inv frame I he step done ops.size _ u _ (by simp) ?_ ?_)
  · unfold left
    exact Nat.le_trans (List.length_filter_le _ _) (by simp)
  · have e : (fun j => (Array.replicate ops.size false).getD j false) = fun _ => false := by
      funext j
      by_cases hj : j < ops.size <;> simp [Array.getD, hj]
    rw [e]
    exact hI

/-- A step that yields a value. -/
theorem step_value {i : Nat} {o : Oper} {K : Act → World → Prop} {a : Act} {w w' : World} {v : Value} (hi : ops[i]? = some o) (hg : o.guard = none)
    (h : (execOp a.eval o).run P w = .ok (.value v) w') (hK : K (a.put o.dst v) w') : wpOp P ops Q i K a w := by
  unfold wpOp
  rw [hi]
  have hw : Region.wanted o (yielded ops a.tmps) = true := by unfold Region.wanted; rw [hg]
  simp only [hw, if_true]
  refine .inl ?_
  unfold Oper.wp
  rw [h]
  exact hK

/-- A step that calls. -/
theorem step_call {i : Nat} {o : Oper} {K : Act → World → Prop} {a : Act} {w w' : World} {f : FuncId} {args : Array Value} {v : Value} (hi : ops[i]? = some o) (hg : o.guard = none)
    (h : (execOp a.eval o).run P w = .ok (.enter f args) w) (hc : Calls P f args w fun e w'' => w' = w'' ∧ e = .returned v) (hK : K (a.put o.dst v) w') : wpOp P ops Q i K a w := by
  unfold wpOp
  rw [hi]
  have hw : Region.wanted o (yielded ops a.tmps) = true := by unfold Region.wanted; rw [hg]
  simp only [hw, if_true]
  refine .inl ?_
  unfold Oper.wp
  rw [h, Oper.upon_enter]
  refine hc.mono ?_
  rintro e w'' ⟨rfl, rfl⟩
  exact hK
end
end Go.Proofs.YtkaclahcpmogaaaGreatDoor.Orders
