/- A map from keys to blocks. -/
import Derived.Test.YtcnajkclbmddgaaMem
namespace Go.Proofs.Ytcnajkclbmddgaa
open Go.ChangeShapes Go.WideShapes Go.ChangeAt Go.RowKit Go.ChangeMaps Go.MapKept
open Go.WideElems (Fit rd rg pl rd_val elemAt)
set_option linter.unusedVariables false
set_option linter.unusedSimpArgs false

def optPtr : Option Nat → Value
  | some b => .pointer (some ⟨b, 0, none⟩)
  | none => .pointer none
def optDat : Option Nat → DataW Unit
  | some b => .lit (.int .i64 b)
  | none => .nil

theorem ptrElem_opt (o : Option Nat) : ptrElem (optPtr o) = some (optDat o, []) := by cases o <;> rfl
theorem ptrElem_inv {v : Value} {o : Option Nat} {ps : List MemPlace} (h : ptrElem v = some (optDat o, ps)) : v = optPtr o := by
  unfold ptrElem at h
  split at h
  · cases o with
    | none => simp [optDat] at h
    | some b =>
      simp_all [optDat, optPtr]
      have := h.1
      omega
  · cases o with
    | none => rfl
    | some b => simp [optDat] at h
  · cases h

def KMap (w : World) (m n : Nat) (f : ByteArray → Option Nat) : Prop :=
  ∃ D, w.ownsMap Try.prog 9 ptrElem m n D ∧ ∀ k, Maps.has D (lk k) = (f k).isSome ∧ D.atKey (lk k) .nil = optDat (f k)

theorem KMap.lt {w : World} {m n : Nat} {f : ByteArray → Option Nat} (h : KMap w m n f) : m < w.heap.size := by
  obtain ⟨D, h, _⟩ := h
  exact h.lt
theorem KMap.of_block {w w' : World} {m n : Nat} {f : ByteArray → Option Nat} (h : KMap w m n f) (e : w'.heap[m]? = w.heap[m]?) : KMap w' m n f := by
  obtain ⟨D, ⟨es, clock, hb, r⟩, hf⟩ := h
  exact ⟨D, ⟨es, clock, e.trans hb, r⟩, hf⟩
theorem KMap.new (w : World) : KMap (w.alloc (.map #[] 0)) w.heap.size 0 (fun _ => none) :=
  ⟨_, World.ownsMap_made w Try.prog 9 ptrElem, fun k => ⟨rfl, rfl⟩⟩

theorem zeroH (w : World) : (zeroValue 76).run Try.prog w = .ok (.pointer none) w := by kernel_rfl

theorem KMap.look {w : World} {m n : Nat} {f : ByteArray → Option Nat} (h : KMap w m n f) {k : ByteArray} (hk : k.size ≤ maxLen) :
    (Instr.lookup 57 (.map (some m)) (.string k) true).run Try.prog w = .ok (.tuple #[optPtr (f k), .bool (f k).isSome]) w := by
  obtain ⟨D, h, hf⟩ := h
  obtain ⟨v, ps, h1, h2⟩ := h.look_ok keyS Try.underlying57 (zeroH w) (zd := .nil) (zp := []) rfl (keyOf_k hk)
  rw [(hf k).2] at h2
  rw [h1, ptrElem_inv h2, (hf k).1]

def fput (f : ByteArray → Option Nat) (k : ByteArray) (o : Option Nat) : ByteArray → Option Nat := fun k' => if k' = k then o else f k'

theorem KMap.put {w : World} {m n : Nat} {f : ByteArray → Option Nat} (h : KMap w m n f) {k : ByteArray} (hk : k.size ≤ maxLen) (hf : f k = none) (hn : n < maxLen) (b : Nat) :
    ∃ o, (∀ W : World, W.heap[m]? = w.heap[m]? → (Instr.mapUpdate 57 (.map (some m)) (.string k) (.pointer (some ⟨b, 0, none⟩))).run Try.prog W = .ok () (setBlock W m o)) ∧
      ∀ W : World, W.heap[m]? = w.heap[m]? → KMap (setBlock W m o) m (n + 1) (fput f k (some b)) := by
  obtain ⟨D, ⟨es, clock, hb, F, hs, rfl⟩, hf'⟩ := h
  have hkey := keyOf_k hk
  have hno : ∀ x ∈ es.toList, x.key ≠ .string k := by
    rcases Maps.fit_look true keyS Try.underlying57 (zeroH w) hb F hkey with ⟨_, h2, _⟩ | ⟨e0, y, _, _, hrun, hRv, hat, _⟩
    · exact h2
    · have := (hf' k).1
      rw [Maps.has_true_of_atKey hat, hf] at this
      cases this
  have hrun : ∀ W : World, W.heap[m]? = w.heap[m]? → (Instr.mapUpdate 57 (.map (some m)) (.string k) (.pointer (some ⟨b, 0, none⟩))).run Try.prog W = .ok () (setBlock W m (.map (es.push ⟨.string k, .pointer (some ⟨b, 0, none⟩), clock⟩) (clock + 1))) := by
    intro W e
    have hb' := e.trans hb
    rcases keyS.find W hkey es.toList F.keys with ⟨h1, h2⟩ | ⟨j, e0, h1, h2, h3⟩
    · simp [Instr.mapUpdate, run_underlying Try.underlying57, MapKept.run_getObj_map hb', keyS.check W false hkey, h1, MapKept.run_setObj_map _ hb', Result.andThen, setBlock]
    · exact absurd h3 (hno e0 (List.mem_of_getElem? h2))
  refine ⟨_, hrun, fun W e => ?_⟩
  have hown : W.ownsMap Try.prog 9 ptrElem m n (.map ((es.toList.map (rg Try.prog 9 ptrElem)).foldr DataW.insert [])) := ⟨es, clock, e.trans hb, F, hs, rfl⟩
  obtain ⟨w', h1, h2, _⟩ := hown.store keyS Try.underlying57 hn hkey (ptrElem_opt (some b))
  have h3 := hrun W e
  rw [show (Value.pointer (some ⟨b, 0, none⟩)) = optPtr (some b) from rfl] at h3
  rw [h3] at h1
  cases h1
  refine ⟨_, h2, fun k' => ?_⟩
  unfold fput
  by_cases e' : k' = k
  · subst e'
    rw [if_pos rfl]
    exact ⟨Maps.has_put_same hown.isMap (lk_key _) _, Maps.atKey_put_same hown.isMap (lk_key _) _ _⟩
  · rw [if_neg e']
    have hne : lk k' ≠ lk k := fun x => e' (lk_inj x)
    rw [Maps.has_put_other hne, Maps.atKey_put_other hne]
    exact hf' k'

theorem KMap.del {w : World} {m n : Nat} {f : ByteArray → Option Nat} (h : KMap w m n f) {k : ByteArray} (hk : k.size ≤ maxLen) (ty : TypeId) :
    ∃ o, (Builtin.delete_ #[57, 9] ty #[.map (some m), .string k]).run Try.prog w = .ok (.tuple #[]) (setBlock w m o) ∧ KMap (setBlock w m o) m n (fput f k none) := by
  obtain ⟨D, h, hf'⟩ := h
  obtain ⟨w', h1, h2, ⟨_, _, es', c', _, rfl⟩⟩ := h.drop keyS Try.underlying57 (keyOf_k hk) ty
  refine ⟨_, h1, _, h2, fun k' => ?_⟩
  unfold fput
  by_cases e' : k' = k
  · subst e'
    rw [if_pos rfl]
    exact ⟨Maps.has_del_same, Maps.atKey_del_same _⟩
  · rw [if_neg e']
    have hne : lk k' ≠ lk k := fun x => e' (lk_inj x)
    rw [Maps.has_del_other hne, Maps.atKey_del_other hne]
    exact hf' k'

theorem setBlock_other (w : World) {m k : Nat} (o : Obj) (h : k ≠ m) : (setBlock w m o).heap[k]? = w.heap[k]? := by
  simp [setBlock, Array.getElem?_setIfInBounds, Ne.symm h]
end Go.Proofs.Ytcnajkclbmddgaa
