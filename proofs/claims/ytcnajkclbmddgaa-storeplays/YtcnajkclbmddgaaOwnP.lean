/- A store that a law has made, with its pins: its calls. -/
import Derived.Test.YtcnajkclbmddgaaUnpin
import Derived.Test.YtcnajkclbmddgaaClean
namespace Go.Proofs.Ytcnajkclbmddgaa
open Go.ChangeShapes Go.WideShapes Go.ChangeAt Go.RowKit
set_option linter.unusedVariables false
set_option linter.unusedSimpArgs false

/-- How many times a stamp is pinned. -/
def timesP (t : Int) : List Pn → Int
  | [] => 0
  | x :: l => (if x.1 = t then x.2 else 0) + timesP t l

theorem times_append (t : Int) : ∀ a b : List Pn, timesP t (a ++ b) = timesP t a + timesP t b
  | [], b => by simp [timesP]
  | x :: a, b => by simp only [List.cons_append, timesP, times_append t a b]; omega

theorem times_zero {t : Int} : ∀ {l : List Pn}, (∀ x ∈ l, x.1 ≠ t) → timesP t l = 0
  | [], _ => rfl
  | x :: l, h => by
    rw [timesP, if_neg (h x (by simp)), times_zero (fun y hy => h y (by simp [hy]))]
    rfl

theorem times_nonneg {t : Int} : ∀ {l : List Pn}, (∀ x ∈ l, 0 < x.2) → 0 ≤ timesP t l
  | [], _ => Int.le_refl _
  | x :: l, h => by
    have := h x (by simp)
    have := times_nonneg (t := t) (fun y hy => h y (by simp [hy]) : ∀ y ∈ l, 0 < y.2)
    rw [timesP]
    split <;> omega

theorem times_mem {x : Pn} : ∀ {l : List Pn}, (∀ y ∈ l, 0 < y.2) → x ∈ l → x.2 ≤ timesP x.1 l
  | [], _, h => by simp at h
  | y :: l, hp, h => by
    have h1 := hp y (by simp)
    have h2 : ∀ z ∈ l, 0 < z.2 := fun z hz => hp z (by simp [hz])
    rw [timesP]
    rcases List.mem_cons.1 h with rfl | h
    · rw [if_pos rfl]
      have := times_nonneg (t := x.1) h2
      omega
    · have := times_mem h2 h
      split <;> omega

theorem times_has {t : Int} : ∀ {l : List Pn}, 0 < timesP t l → ∃ x ∈ l, x.1 = t
  | [], h => by simp [timesP] at h
  | x :: l, h => by
    by_cases hx : x.1 = t
    · exact ⟨x, by simp, hx⟩
    · rw [timesP, if_neg hx] at h
      obtain ⟨y, hy, e⟩ := times_has (t := t) (l := l) (by omega)
      exact ⟨y, by simp [hy], e⟩

theorem times_set {t y : Int} {x : Pn} : ∀ {l : List Pn} {k : Nat}, l[k]? = some x → timesP t (l.set k (x.1, y)) = timesP t l + if x.1 = t then y - x.2 else 0
  | [], k, h => by simp at h
  | z :: l, 0, h => by
    simp at h; subst h
    simp only [List.set_cons_zero, timesP]
    split <;> omega
  | z :: l, k + 1, h => by
    have := times_set (t := t) (y := y) (l := l) (k := k) (by simpa using h)
    simp only [List.set_cons_succ, timesP, this]
    omega

theorem times_erase {t : Int} {x : Pn} : ∀ {l : List Pn} {k : Nat}, l[k]? = some x → timesP t (l.eraseIdx k) = timesP t l - if x.1 = t then x.2 else 0
  | [], k, h => by simp at h
  | z :: l, 0, h => by
    simp at h; subst h
    simp only [List.eraseIdx_cons_zero, timesP]
    omega
  | z :: l, k + 1, h => by
    have := times_erase (t := t) (l := l) (k := k) (by simpa using h)
    simp only [List.eraseIdx_cons_succ, timesP, this]
    omega

theorem upToN_cons (t : Int) (x : Pn) (l : List Pn) : upToN t (x :: l) = upToN t l + if x.1 ≤ t then 1 else 0 := by
  unfold upToN
  rw [List.countP_cons]
  by_cases h : x.1 ≤ t <;> simp [h]

theorem upToN_iff {t : Int} : ∀ {l : List Pn}, RiseP l → ∀ {i : Nat} {x : Pn}, l[i]? = some x → (i < upToN t l ↔ x.1 ≤ t)
  | [], _, i, x, h => by simp at h
  | y :: l, hs, i, x, h => by
    have hp := List.pairwise_cons.1 hs
    rw [upToN_cons]
    by_cases hy : y.1 ≤ t
    · rw [if_pos hy]
      match i, h with
      | 0, h => simp at h; subst h; simp [hy]
      | i + 1, h =>
        have := upToN_iff (t := t) hp.2 (i := i) (x := x) (by simpa using h)
        rw [← this]; omega
    · rw [if_neg hy]
      have h0 : upToN t l = 0 := by
        unfold upToN
        rw [List.countP_eq_zero]
        intro z hz
        have := hp.1 z hz
        simp; omega
      rw [h0]
      match i, h with
      | 0, h => simp at h; subst h; omega
      | i + 1, h =>
        have := hp.1 x (List.mem_of_getElem? (by simpa using h : l[i]? = some x))
        omega

structure PinAt (S : St) (s : Sto) : Prop where
  rise : RiseP S.pins
  pos : ∀ x ∈ S.pins, 0 < x.2 ∧ x.1 ≤ s.stamp
  cnt : ∀ t, ((s.p.count t : Nat) : Int) = timesP t S.pins

theorem PinAt.le {S : St} {s : Sto} (H : PinAt S s) : ∀ x ∈ S.pins, 0 < x.2 ∧ x.2 ≤ s.p.length := fun x hx => by
  have h1 := times_mem (fun y hy => (H.pos y hy).1) hx
  rw [← H.cnt] at h1
  have h2 : s.p.count x.1 ≤ s.p.length := List.count_le_length
  exact ⟨(H.pos x hx).1, by omega⟩

theorem foldl_min (l : List Int) : ∀ a, (l.foldl min a = a ∨ l.foldl min a ∈ l) ∧ l.foldl min a ≤ a ∧ ∀ x ∈ l, l.foldl min a ≤ x := by
  induction l with
  | nil => intro a; simp
  | cons y l ih =>
    intro a
    obtain ⟨h1, h2, h3⟩ := ih (min a y)
    simp only [List.foldl_cons]
    refine ⟨?_, by omega, fun x hx => ?_⟩
    · rcases h1 with h1 | h1
      · rw [h1]
        rcases Int.le_total a y with h | h
        · left; omega
        · right; rw [Int.min_eq_right h]; simp
      · right; simp [h1]
    · rcases List.mem_cons.1 hx with rfl | hx
      · omega
      · exact h3 x hx

theorem PinAt.low {S : St} {s : Sto} (H : PinAt S s) (hn : S.now = s.stamp) : lowP s = S.low := by
  obtain ⟨h1, h2, h3⟩ := foldl_min s.p s.stamp
  have hm : ∀ t ∈ s.p, ∃ x ∈ S.pins, x.1 = t := fun t ht => times_has (by rw [← H.cnt]; have := List.count_pos_iff.2 ht; omega)
  have hx : ∀ x ∈ S.pins, x.1 ∈ s.p := fun x hx => by
    have := times_mem (fun y hy => (H.pos y hy).1) hx
    rw [← H.cnt] at this
    have h0 := (H.pos x hx).1
    exact List.count_pos_iff.1 (by omega)
  unfold lowP St.low
  cases hp : S.pins with
  | nil =>
    simp only
    rw [hn]
    rcases h1 with h1 | h1
    · exact h1
    · obtain ⟨x, hx, _⟩ := hm _ h1
      rw [hp] at hx; simp at hx
  | cons x l =>
    simp only
    have hxm : x ∈ S.pins := by rw [hp]; simp
    have a1 := h3 x.1 (hx x hxm)
    have a2 := (H.pos x hxm).2
    have hr := H.rise
    rw [hp] at hr
    have hmin : ∀ y ∈ S.pins, x.1 ≤ y.1 := fun y hy => by
      rw [hp] at hy
      rcases List.mem_cons.1 hy with rfl | hy
      · exact Int.le_refl _
      · have := (List.pairwise_cons.1 hr).1 y hy; omega
    rcases h1 with h1 | h1
    · rw [h1] at a1 ⊢; omega
    · obtain ⟨y, hy, e⟩ := hm _ h1
      have := hmin y hy
      omega

theorem PinAt.pinned {S : St} {s : Sto} (H : PinAt S s) (hn : S.now = s.stamp) (v : Value) : PinAt (S.pinned v (pinL S.now S.pins)) (pinP s) := by
  have hc : ∀ t, (((pinP s).p.count t : Nat) : Int) = ((s.p.count t : Nat) : Int) + if s.stamp = t then 1 else 0 := fun t => by
    unfold pinP
    simp only [List.count_append]
    by_cases h : s.stamp = t
    · subst h; simp
    · rw [if_neg h, List.count_singleton, if_neg (by simpa using h)]; simp
  have key : ∀ l', l' = pinL S.now S.pins → RiseP l' ∧ (∀ x ∈ l', 0 < x.2 ∧ x.1 ≤ s.stamp) ∧ ∀ t, timesP t l' = timesP t S.pins + if s.stamp = t then 1 else 0 := by
    intro l' hl'
    rcases List.eq_nil_or_concat S.pins with hq | ⟨a, x, hq⟩
    · have e : pinL S.now S.pins = [(s.stamp, 1)] := by rw [hq, ← hn]; rfl
      rw [hl', e, hq]
      exact ⟨List.pairwise_singleton _ _, fun x hx => by simp at hx; subst hx; exact ⟨by omega, Int.le_refl _⟩, fun t => by simp [timesP]⟩
    · rw [List.concat_eq_append] at hq
      have hr := H.rise
      rw [hq] at hr
      have hr' := List.pairwise_append.1 hr
      have hx := H.pos x (by rw [hq]; simp)
      by_cases hxn : x.1 = S.now
      · have e : pinL S.now S.pins = a ++ [(x.1, x.2 + 1)] := by
          unfold pinL
          rw [hq, List.getLast?_concat]
          simp only
          rw [if_pos hxn, List.dropLast_concat]
        rw [hl', e, hq]
        refine ⟨?_, fun y hy => ?_, fun t => ?_⟩
        · unfold RiseP
          rw [List.pairwise_append]
          refine ⟨hr'.1, List.pairwise_singleton _ _, fun y hy z hz => ?_⟩
          simp at hz; subst hz
          exact hr'.2.2 y hy x (by simp)
        · rcases List.mem_append.1 hy with hy | hy
          · exact H.pos y (by rw [hq]; simp [hy])
          · simp at hy; subst hy; exact ⟨by show 0 < x.2 + 1; omega, hx.2⟩
        · rw [times_append, times_append, ← hn, ← hxn]
          simp only [timesP]
          split <;> omega
      · have e : pinL S.now S.pins = S.pins ++ [(s.stamp, 1)] := by
          rw [pinL_add, hn]
          intro y hy
          rw [hq, List.getLast?_concat] at hy
          cases hy
          exact hxn
        rw [hl', e]
        refine ⟨?_, fun y hy => ?_, fun t => ?_⟩
        · unfold RiseP
          rw [List.pairwise_append]
          refine ⟨H.rise, List.pairwise_singleton _ _, fun y hy z hz => ?_⟩
          simp at hz; subst hz
          show y.1 < s.stamp
          rw [hq] at hy
          rcases List.mem_append.1 hy with hy | hy
          · have := hr'.2.2 y hy x (by simp); omega
          · simp at hy; subst hy; omega
        · rcases List.mem_append.1 hy with hy | hy
          · exact H.pos y hy
          · simp at hy; subst hy; exact ⟨by show (0 : Int) < 1; omega, Int.le_refl _⟩
        · rw [times_append]
          simp only [timesP]
          omega
  obtain ⟨k1, k2, k3⟩ := key _ rfl
  exact ⟨k1, k2, fun t => by rw [hc, H.cnt]; exact (k3 t).symm⟩

theorem PinAt.unpinned {S : St} {s : Sto} (H : PinAt S s) (t : Int) (v : Value) : PinAt (S.pinned v (unpinL t S.pins)) (unpinP s t) := by
  have hne : (∀ x ∈ S.pins, x.1 ≠ t) → unpinP s t = s := fun h => by
    have h0 := H.cnt t
    rw [times_zero h] at h0
    unfold unpinP
    rw [List.erase_of_not_mem (fun hm => by have := List.count_pos_iff.2 hm; omega)]
  have hcount : ∀ t', (((unpinP s t).p.count t' : Nat) : Int) = ((s.p.count t' - (if t = t' then 1 else 0) : Nat) : Int) := fun t' => by
    unfold unpinP
    simp only [List.count_erase]
    by_cases h : t = t' <;> simp [h]
  have hle : upToN t S.pins ≤ S.pins.length := List.countP_le_length
  have same : (∀ x ∈ S.pins, x.1 ≠ t) → PinAt (S.pinned v S.pins) (unpinP s t) := fun h => by rw [hne h]; exact ⟨H.rise, H.pos, H.cnt⟩
  unfold unpinL
  cases hu : upToN t S.pins with
  | zero =>
    simp only
    refine same (fun x hx e => ?_)
    obtain ⟨i, hi⟩ := List.getElem?_of_mem hx
    have := (upToN_iff (t := t) H.rise hi).2 (by omega)
    omega
  | succ k =>
    obtain ⟨x, hx⟩ : ∃ x, S.pins[k]? = some x := ⟨_, List.getElem?_eq_getElem (by omega)⟩
    simp only [hx]
    have hxt := (upToN_iff (t := t) H.rise hx).1 (by omega)
    have hxm := List.mem_of_getElem? hx
    have hx0 := H.pos x hxm
    by_cases hxe : x.1 = t
    · rw [if_pos hxe]
      have hc1 := times_mem (fun y hy => (H.pos y hy).1) hxm
      rw [← H.cnt] at hc1
      by_cases hy : x.2 - 1 = 0
      · rw [if_pos hy]
        refine ⟨?_, fun z hz => ?_, fun t' => ?_⟩
        · exact H.rise.sublist (List.eraseIdx_sublist _ _)
        · exact H.pos z (List.mem_of_mem_eraseIdx hz)
        · show _ = timesP t' (S.pins.eraseIdx k)
          rw [hcount, times_erase hx, ← H.cnt]
          by_cases ht : t = t'
          · subst ht
            rw [if_pos rfl, if_pos hxe, ← hxe]
            omega
          · rw [if_neg ht, if_neg (by rw [hxe]; exact ht)]
            simp
      · rw [if_neg hy]
        refine ⟨?_, fun z hz => ?_, fun t' => ?_⟩
        · have e : ∀ l : List Pn, RiseP l ↔ (l.map Prod.fst).Pairwise (· < ·) := fun l => by unfold RiseP; rw [List.pairwise_map]
          show RiseP (S.pins.set k (x.1, x.2 - 1))
          rw [e, List.map_set]
          have hk : (S.pins.map Prod.fst)[k]? = some x.1 := by rw [List.getElem?_map, hx]; rfl
          have : (S.pins.map Prod.fst).set k x.1 = S.pins.map Prod.fst := by
            obtain ⟨h1, h2⟩ := List.getElem?_eq_some_iff.1 hk
            rw [← h2, List.set_getElem_self]
          rw [this, ← e]
          exact H.rise
        · have hz : z ∈ S.pins.set k (x.1, x.2 - 1) := hz
          rcases List.mem_or_eq_of_mem_set hz with hz | rfl
          · exact H.pos z hz
          · exact ⟨by show 0 < x.2 - 1; omega, hx0.2⟩
        · show _ = timesP t' (S.pins.set k (x.1, x.2 - 1))
          rw [hcount, times_set hx, ← H.cnt]
          by_cases ht : t = t'
          · subst ht
            rw [if_pos rfl, if_pos hxe, ← hxe]
            omega
          · rw [if_neg ht, if_neg (by rw [hxe]; exact ht)]
            simp
    · rw [if_neg hxe]
      refine same (fun z hz e => ?_)
      obtain ⟨i, hi⟩ := List.getElem?_of_mem hz
      have h1 := (upToN_iff (t := t) H.rise hi).2 (by omega)
      have := riseP_get H.rise hi hx (by omega)
      omega

structure OwnP (B p : Nat) (w0 w : World) (S : St) (s : Sto) (n : Nat) : Prop where
  own : Own B p w0 w S s
  pin : PinAt S s
  few : S.pins.length ≤ n ∧ s.p.length ≤ n

theorem OwnP.later {B p n : Nat} {w0 w w' : World} {S : St} {s : Sto} (O : OwnP B p w0 w S s n) (h : Below w.heap.size w w') : OwnP B p w0 w' S s n := ⟨O.own.later h, O.pin, O.few⟩
theorem OwnP.more {B p n m : Nat} {w0 w : World} {S : St} {s : Sto} (O : OwnP B p w0 w S s n) (h : n ≤ m) : OwnP B p w0 w S s m := ⟨O.own, O.pin, by have := O.few; omega⟩

theorem Own.fresh {B p n : Nat} {w0 w : World} {S : St} {s : Sto} (O : Own B p w0 w S s) (h : S.pins = []) (hp : s.p = []) : OwnP B p w0 w S s 0 :=
  ⟨O, ⟨by rw [h]; exact List.Pairwise.nil, by rw [h]; simp, by rw [h, hp]; intro t; rfl⟩, by rw [h, hp]; exact ⟨Nat.le_refl _, Nat.le_refl _⟩⟩

theorem Good.pinned {S : St} (G : Good S) (v : Value) (l : List Pn) : Good (S.pinned v l) := ⟨G.ne, G.nodup, G.wait, G.heap⟩
theorem Abs.pinned {S : St} {s : Sto} (H : Abs S s) (v : Value) (l : List Pn) (q : List Int) : Abs (S.pinned v l) { s with p := q } := ⟨H.all, H.stamp, H.cnt, H.live, H.rising, H.le, H.size, H.tot, H.nonneg⟩

theorem pinL_len (now : Int) (l : List Pn) : (pinL now l).length ≤ l.length + 1 := by
  unfold pinL
  cases h : l.getLast? with
  | none => simp
  | some x =>
    simp only
    split
    · simp only [List.length_append, List.length_dropLast, List.length_cons, List.length_nil]; omega
    · simp
theorem unpinL_len (t : Int) (l : List Pn) : (unpinL t l).length ≤ l.length := by
  unfold unpinL
  split
  · exact Nat.le_refl _
  · split
    · split
      · split
        · exact (List.eraseIdx_sublist _ _).length_le
        · simp
      · exact Nat.le_refl _
    · exact Nat.le_refl _

theorem pin_own {B p n : Nat} {w0 w : World} {S : St} {s : Sto} (O : OwnP B p w0 w S s n) (hn : n ≤ 1000) :
    Calls Try.prog 16 #[.pointer (some ⟨p, 0, none⟩)] w fun e w' => ∃ S', e = .returned (.int .i64 s.stamp) ∧ OwnP B p w0 w' S' (pinP s) (n + 1) ∧ Step w w' S S' ∧ S'.tot = S.tot := by
  have hf := O.few
  have P := pin_any S w O.own.store (by omega) (fun x hx => by have := O.pin.le x hx; omega)
  rw [O.own.ptr, O.own.abs.stamp] at P
  refine P.mono ?_
  rintro e w' ⟨v, rfl, A, T⟩
  rw [← O.own.abs.stamp] at A T
  refine ⟨_, rfl, ⟨O.own.moved T A (O.own.good.pinned _ _) (O.own.abs.pinned _ _ _), O.pin.pinned O.own.abs.stamp v, ?_, ?_⟩, T, rfl⟩
  · have := pinL_len S.now S.pins
    show (pinL S.now S.pins).length ≤ _
    omega
  · unfold pinP
    simp
    omega

theorem unpin_own {B p n : Nat} {w0 w : World} {S : St} {s : Sto} (O : OwnP B p w0 w S s n) (hn : n ≤ 1000) (t : Int) :
    Calls Try.prog 19 #[.pointer (some ⟨p, 0, none⟩), .int .i64 t] w fun e w' => e = .returned (.tuple #[]) ∧ ∃ S', OwnP B p w0 w' S' (unpinP s t) n ∧ Step w w' S S' ∧ S'.tot = S.tot := by
  have hf := O.few
  have P := unpin_any S t w O.own.store O.pin.rise (fun x hx => by have := O.pin.le x hx; omega)
  rw [O.own.ptr] at P
  refine P.mono ?_
  rintro e w' ⟨rfl, v, A, T⟩
  refine ⟨rfl, _, ⟨O.own.moved T A (O.own.good.pinned _ _) (O.own.abs.pinned _ _ _), O.pin.unpinned t v, ?_, ?_⟩, T, rfl⟩
  · have := unpinL_len t S.pins
    show (unpinL t S.pins).length ≤ _
    omega
  · unfold unpinP
    have := (List.erase_sublist (a := t) (l := s.p)).length_le
    simp only
    omega

theorem clean_own {B p n : Nat} {w0 w : World} {S : St} {s : Sto} (O : OwnP B p w0 w S s n) :
    Calls Try.prog 21 #[.pointer (some ⟨p, 0, none⟩)] w fun e w' => ∃ S', e = .returned (.int .i64 (cleanP s).2) ∧ OwnP B p w0 w' S' (cleanP s).1 n ∧ Step w w' S S' ∧ S'.tot = S.tot := by
  have P := clean_any S s w O.own.store O.own.good O.own.abs
  rw [O.own.ptr] at P
  refine P.mono ?_
  rintro e w' ⟨S', m, rfl, hm, A, T, G, H, ht, hp⟩
  have hlow := O.pin.low O.own.abs.stamp
  unfold cleanP
  rw [hlow]
  refine ⟨S', by rw [hm], ⟨O.own.moved T A G H, ⟨by rw [hp]; exact O.pin.rise, by rw [hp]; exact O.pin.pos, by rw [hp]; exact O.pin.cnt⟩, by rw [hp]; exact O.few⟩, T, ht⟩

theorem commit_stamp (s : Sto) (ws : List Wr) : s.stamp ≤ (commitP s ws).1.stamp ∧ (commitP s ws).1.p = s.p := by
  unfold commitP
  split
  · exact ⟨Int.le_refl _, rfl⟩
  · exact ⟨by show s.stamp ≤ s.stamp + 1; omega, rfl⟩

theorem commit_ownP {B p n : Nat} {w0 w : World} {S : St} {s : Sto} (O : OwnP B p w0 w S s n) (a : Option Addr) (c : Nat) (ws : List Wr) (W : WsAt w a ws) (hap : ∀ g o, a = some ⟨g, o, none⟩ → ¬ (S.lab g).isSome)
    (hsz : ∀ x ∈ ws, x.key.size ≤ 281474976710656 ∧ x.val.size ≤ 281474976710656) (ht : S.tot + ws.length ≤ 900000) (hn : s.stamp ≤ 1000000) :
    Calls Try.prog 14 #[.pointer (some ⟨p, 0, none⟩), .slice a ws.length c] w fun e w' => ∃ S', e = .returned (.tuple #[.int .i64 (commitP s ws).2.1, .int .i64 (commitP s ws).2.2]) ∧ OwnP B p w0 w' S' (commitP s ws).1 n ∧ Step w w' S S' ∧ S'.tot ≤ S.tot + ws.length := by
  refine (commit_own O.own a c ws W hap hsz ht hn).mono ?_
  rintro e w' ⟨S', rfl, O', T, ht', hp⟩
  obtain ⟨q1, q2⟩ := commit_stamp s ws
  exact ⟨S', rfl, ⟨O', ⟨by rw [hp]; exact O.pin.rise, by rw [hp]; exact fun x hx => ⟨(O.pin.pos x hx).1, by have := (O.pin.pos x hx).2; omega⟩, by rw [hp, q2]; exact O.pin.cnt⟩, by rw [hp, q2]; exact O.few⟩, T, ht'⟩
end Go.Proofs.Ytcnajkclbmddgaa
