/- A directory: a map from names to files, as plain data; has, full, find. Conditions: names no longer than Go's own limit. -/
import Derived.Test.YthjabfhfkikalaaW3
import Derived.StringKeys
namespace Go.Proofs.Ythjabfhfkikalaa
open Go.RowKit Go.Maps Go.WideMaps

/-- How a map's element reads: a file's block, or nil. -/
def fileElem : Value → Option (DataW Unit × List MemPlace)
  | .pointer (some a) => if a.off = 0 ∧ a.spot = none then some (.lit (.int .i64 a.block), []) else none
  | .pointer none => some (.nil, [])
  | _ => none

def fptr (b : Nat) : Value := .pointer (some ⟨b, 0, none⟩)
theorem fileElem_fptr (b : Nat) : fileElem (fptr b) = some (.lit (.int .i64 b), []) := by simp [fileElem, fptr]
theorem fileElem_nil : fileElem (.pointer none) = some (.nil, []) := rfl
theorem fileElem_inv {v : Value} {b : Nat} {ps : List MemPlace} (h : fileElem v = some (.lit (.int .i64 b), ps)) : v = fptr b := by
  unfold fileElem at h
  split at h
  · rename_i a
    split at h
    · rename_i hc
      obtain ⟨blk, off, sp⟩ := a
      simp at hc
      obtain ⟨rfl, rfl⟩ := hc
      simp at h
      simp [fptr]
    · cases h
  · cases h
  · cases h
theorem fileElem_inv_nil {v : Value} {ps : List MemPlace} (h : fileElem v = some (.nil, ps)) : v = .pointer none := by
  unfold fileElem at h
  split at h
  · split at h <;> cases h
  · rfl
  · cases h

def ent (p : Dm.Nm × Nat) : Lit × DataW Unit := (.string p.1, .lit (.int .i64 p.2))
def datum (d : Dm.Dir) : DataW Unit := .map (d.map ent)

theorem ltB_eq : ∀ a b : List UInt8, Dm.ltB a b = bytesBefore a b
  | [], [] => rfl
  | [], _ :: _ => rfl
  | _ :: _, [] => rfl
  | a :: r, b :: t => by simp [Dm.ltB, bytesBefore, ltB_eq r t]

theorem atKey_datum (d : Dm.Dir) (k : Dm.Nm) : (datum d).atKey (.string k) .nil = match Dm.get d k with | some b => .lit (.int .i64 b) | none => .nil := by
  unfold datum DataW.atKey Dm.get
  induction d with
  | nil => rfl
  | cons p r ih =>
    have e : (ent p).1.sameKey (.string k) = (p.1 == k) := rfl
    simp only [List.map_cons, List.find?_cons, e]
    cases h : (p.1 == k)
    · simpa using ih
    · simp [ent]

theorem has_datum (d : Dm.Dir) (k : Dm.Nm) : Maps.has (datum d) (.string k) = (Dm.get d k).isSome := by
  unfold datum Maps.has Dm.get
  induction d with
  | nil => rfl
  | cons p r ih =>
    have e : (ent p).1.sameKey (.string k) = (p.1 == k) := rfl
    simp only [List.map_cons, List.any_cons, List.find?_cons, e]
    cases h : (p.1 == k)
    · simpa using ih
    · simp

theorem del_list (k : Dm.Nm) : ∀ d : Dm.Dir, List.filter (fun p : Lit × DataW Unit => !p.1.sameKey (.string k)) (d.map ent) = (Dm.del d k).map ent
  | [] => rfl
  | p :: r => by
    have e : (ent p).1.sameKey (.string k) = (p.1 == k) := rfl
    have ih := del_list k r
    unfold Dm.del at ih ⊢
    simp only [List.map_cons, List.filter_cons, e]
    cases h : (p.1 == k)
    · simp only [Bool.not_false, if_true, List.map_cons, ih]
    · simpa using ih

theorem del_datum (d : Dm.Dir) (k : Dm.Nm) : (datum d).del (.string k) = datum (Dm.del d k) := congrArg DataW.map (del_list k d)

theorem ins_map (x : Dm.Nm × Nat) : ∀ d : Dm.Dir, DataW.insert (ent x) (d.map ent) = (Dm.ins x d).map ent
  | [] => rfl
  | y :: r => by
    have e : (ent x).1.before (ent y).1 = Dm.ltB x.1 y.1 := by rw [ltB_eq]; rfl
    simp only [List.map_cons, DataW.insert, Dm.ins, e]
    split
    · simp
    · simp [ins_map x r]

theorem put_datum (d : Dm.Dir) (k : Dm.Nm) (b : Nat) : (datum d).put (.string k) (.lit (.int .i64 b)) = datum (Dm.put d k b) := by
  have e : (datum d).put (.string k) (.lit (.int .i64 b)) = .map (DataW.insert (ent (k, b)) (List.filter (fun p : Lit × DataW Unit => !p.1.sameKey (.string k)) (d.map ent))) := rfl
  rw [e, del_list, ins_map]
  rfl

theorem size_datum (d : Dm.Dir) : Maps.size (datum d) = d.length := by simp [datum, Maps.size]

theorem datum_inj {d d' : Dm.Dir} (h : datum d = datum d') : d = d' := by
  have h' : d.map ent = d'.map ent := DataW.map.inj h
  refine List.map_inj_right ?_ |>.1 h'
  intro a b hab
  obtain ⟨a1, a2⟩ := a
  obtain ⟨b1, b2⟩ := b
  simp [ent] at hab
  obtain ⟨h1, h2⟩ := hab
  simp [h1, Int.ofNat_inj.1 h2]

/-- Block m is the directory d: names with files' blocks. -/
def DirAt (w : World) (m : Nat) (d : Dm.Dir) : Prop := w.ownsMap Try.prog 9 fileElem m d.length (datum d)

theorem ownsMap_tight {P : Program} {k : TypeId} {R : Value → Option (DataW Unit × List MemPlace)} {w : World} {b n : Nat} {D : DataW Unit} (h : w.ownsMap P k R b n D) : w.ownsMap P k R b (Maps.size D) D := by
  obtain ⟨es, clock, hb, F, hs, rfl⟩ := h
  exact ⟨es, clock, hb, F, by simp [Maps.size, length_sorted], rfl⟩

theorem DirAt.of {w : World} {m n : Nat} {d : Dm.Dir} (h : w.ownsMap Try.prog 9 fileElem m n (datum d)) : DirAt w m d := by
  have := ownsMap_tight h
  rwa [size_datum] at this

theorem DirAt.lt {w : World} {m : Nat} {d : Dm.Dir} (h : DirAt w m d) : m < w.heap.size := World.ownsMap.lt h

theorem DirAt.kept {w w' : World} {m : Nat} {d : Dm.Dir} (h : DirAt w m d) (hk : w'.heap[m]? = w.heap[m]?) : DirAt w' m d := by
  obtain ⟨es, clock, hb, r⟩ := h
  exact ⟨es, clock, by rw [hk]; exact hb, r⟩

theorem keyedS : Keyed Try.prog 9 := string_keyed Try.underlying9

def optPtr : Option Nat → Value
  | some b => fptr b
  | none => .pointer none

/-- The look-up: the file's pointer, or nil. -/
theorem DirAt.look {w : World} {m : Nat} {d : Dm.Dir} (h : DirAt w m d) (s : ByteArray) (hs : s.size ≤ maxLen) :
    (Instr.lookup 72 (.map (some m)) (.string s) false).run Try.prog w = .ok (optPtr (Dm.get d s.data.toList)) w := by
  obtain ⟨v, ps, hrun, hv⟩ := World.ownsMap.lookup (t := 72) (e := 80) h keyedS Try.underlying72 (z := .pointer none) (by kernel_rfl) (zd := .nil) (zp := []) rfl (keyOf_string_mk Try.underlying9 hs)
  rw [atKey_datum] at hv
  rw [hrun]
  cases hg : Dm.get d s.data.toList with
  | none => rw [hg] at hv; rw [fileElem_inv_nil hv]; rfl
  | some b => rw [hg] at hv; rw [fileElem_inv hv]; rfl

set_option maxHeartbeats 400000 in
theorem has_any {w : World} {m : Nat} {d : Dm.Dir} (h : DirAt w m d) (s : ByteArray) (hs : s.size ≤ maxLen) :
    Calls Try.prog 46 #[.map (some m), .string s] w fun e w' => e = .returned (.bool (Dm.get d s.data.toList).isSome) ∧ w = w' := by
  have hl := h.look s hs
  have HD := Lib.hid h; clear h
  cases hg : Dm.get d s.data.toList with
  | none =>
    rw [hg] at hl
    simp only [optPtr] at hl
    clear hg
    go_enter Try.func46, Try.ntmps46
    go_wp2
    go_ret
    exact ⟨rfl, rfl⟩
  | some b =>
    rw [hg] at hl
    simp only [optPtr, fptr] at hl
    clear hg
    go_enter Try.func46, Try.ntmps46
    go_wp2
    go_ret
    exact ⟨rfl, rfl⟩

set_option maxHeartbeats 400000 in
theorem full_any {w : World} {m : Nat} {d : Dm.Dir} (h : DirAt w m d) :
    Calls Try.prog 47 #[.map (some m)] w fun e w' => e = .returned (.bool (decide (4096 ≤ (d.length : Int)))) ∧ w = w' := by
  have hl := World.ownsMap.len (t := 72) (e := 80) h Try.underlying72 3
  rw [size_datum] at hl
  have HD := Lib.hid h; clear h
  go_enter Try.func47, Try.ntmps47
  go_wp2
  go_ret
  exact ⟨rfl, rfl⟩

end Go.Proofs.Ythjabfhfkikalaa
