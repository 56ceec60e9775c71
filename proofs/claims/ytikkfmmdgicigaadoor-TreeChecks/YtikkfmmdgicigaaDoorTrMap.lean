/- A map from texts to numbers. Conditions: texts within Go's own limit. -/
import Derived.Test.YtikkfmmdgicigaaDoorGMem
import Derived.Test.YtikkfmmdgicigaaDoorPaPure
import Derived.StringKeys
import Derived.Maps.OwnSet
namespace Go.Proofs.YtikkfmmdgicigaaDoor
open Go.RowKit Go.Maps Go.WideMaps

namespace Tr
/-- Texts with numbers, rising. -/
abbrev Km := List (List UInt8 × Int)
def kget (d : Km) (k : List UInt8) : Option Int := (d.find? fun p => p.1 == k).map (·.2)
def kdel (d : Km) (k : List UInt8) : Km := d.filter fun p => !(p.1 == k)
def kins (x : List UInt8 × Int) : Km → Km
  | [] => [x]
  | y :: r => if bytesBefore x.1 y.1 then x :: y :: r else y :: kins x r
def kput (d : Km) (k : List UInt8) (v : Int) : Km := kins (k, v) (kdel d k)

theorem kins_mem {x y : List UInt8 × Int} : ∀ {d : Km}, y ∈ kins x d ↔ y = x ∨ y ∈ d
  | [] => by simp [kins]
  | z :: r => by
    unfold kins
    split
    · simp
    · simp only [List.mem_cons, kins_mem (d := r)]
      constructor
      · rintro (h | h | h) <;> simp [h]
      · rintro (h | h | h) <;> simp [h]
theorem kins_length (x : List UInt8 × Int) : ∀ d : Km, (kins x d).length = d.length + 1
  | [] => rfl
  | z :: r => by
    unfold kins
    split
    · simp
    · simp [kins_length x r]
theorem kdel_none {d : Km} {k : List UInt8} : kget (kdel d k) k = none := by
  simp [kget, kdel]
theorem kget_del_ne {d : Km} {k j : List UInt8} (h : j ≠ k) : kget (kdel d k) j = kget d j := by
  unfold kget kdel
  induction d with
  | nil => rfl
  | cons p r ih =>
    by_cases hp : p.1 = k
    · have e1 : (!(p.1 == k)) = false := by simp [hp]
      have e2 : (p.1 == j) = false := by simp [hp]; exact fun e => h e.symm
      rw [List.filter_cons, e1, List.find?_cons, e2]
      exact ih
    · have e1 : (!(p.1 == k)) = true := by simp [hp]
      rw [List.filter_cons, e1, if_pos rfl, List.find?_cons, List.find?_cons]
      cases p.1 == j
      · exact ih
      · rfl
theorem kget_ins_ne {x : List UInt8 × Int} {j : List UInt8} (h : j ≠ x.1) : ∀ d : Km, kget (kins x d) j = kget d j
  | [] => by simp [kins, kget, Ne.symm h]
  | z :: r => by
    have ih := kget_ins_ne h r
    have e2 : (x.1 == j) = false := beq_eq_false_iff_ne.2 (fun e => h e.symm)
    unfold kins
    split
    · unfold kget
      rw [List.find?_cons, e2]
    · unfold kget at ih ⊢
      rw [List.find?_cons, List.find?_cons]
      cases z.1 == j
      · exact ih
      · rfl
theorem kget_ins_eq {x : List UInt8 × Int} : ∀ {d : Km}, kget d x.1 = none → kget (kins x d) x.1 = some x.2
  | [], _ => by simp [kins, kget]
  | z :: r, h => by
    have hz : (z.1 == x.1) = false := by
      cases hh : z.1 == x.1
      · rfl
      · simp [kget, hh] at h
    have hr : kget r x.1 = none := by unfold kget at h ⊢; rwa [List.find?_cons, hz] at h
    unfold kins
    split
    · simp [kget]
    · have ih := kget_ins_eq hr
      unfold kget at ih ⊢
      rw [List.find?_cons, hz]
      exact ih
theorem kget_put (d : Km) (k j : List UInt8) (v : Int) : kget (kput d k v) j = if j = k then some v else kget d j := by
  unfold kput
  split
  · rename_i h
    subst h
    exact kget_ins_eq (x := (j, v)) kdel_none
  · rename_i h
    rw [kget_ins_ne (x := (k, v)) h, kget_del_ne h]
theorem kdel_self {d : Km} {k : List UInt8} (h : kget d k = none) : kdel d k = d := by
  unfold kdel
  rw [List.filter_eq_self]
  intro p hp
  cases hh : p.1 == k
  · rfl
  · exfalso
    unfold kget at h
    rw [Option.map_eq_none_iff, List.find?_eq_none] at h
    exact h p hp hh
theorem kdel_le (d : Km) (k : List UInt8) : (kdel d k).length ≤ d.length := List.length_filter_le _ _
theorem kdel_lt {d : Km} {k : List UInt8} (h : kget d k ≠ none) : (kdel d k).length < d.length := by
  unfold kdel
  unfold kget at h
  have : ∃ p ∈ d, (p.1 == k) = true := by
    rw [ne_eq, Option.map_eq_none_iff, List.find?_eq_none] at h
    simpa using h
  obtain ⟨p, hp, e⟩ := this
  exact List.length_filter_lt_length_iff_exists.2 ⟨p, hp, by simp [e]⟩
theorem kput_new {d : Km} {k : List UInt8} {v : Int} (h : kget d k = none) : (kput d k v).length = d.length + 1 := by
  unfold kput
  rw [kins_length, kdel_self h]
theorem kput_old {d : Km} {k : List UInt8} {v : Int} (h : kget d k ≠ none) : (kput d k v).length ≤ d.length := by
  unfold kput
  rw [kins_length]
  have := kdel_lt h
  omega
theorem kput_le (d : Km) (k : List UInt8) (v : Int) : (kput d k v).length ≤ d.length + 1 := by
  unfold kput
  rw [kins_length]
  have := kdel_le d k
  omega
end Tr
open Tr

/-- How a map's element reads: a number. -/
def kElem : Value → Option (DataW Unit × List MemPlace)
  | .int .i64 n => some (.lit (.int .i64 n), [])
  | _ => none
theorem kElem_inv {v : Value} {n : Int} {ps : List MemPlace} (h : kElem v = some (.lit (.int .i64 n), ps)) : v = .int .i64 n := by
  unfold kElem at h
  split at h
  · simp at h; rw [h.1]
  · cases h

def kent (p : List UInt8 × Int) : Lit × DataW Unit := (.string p.1, .lit (.int .i64 p.2))
def kdatum (d : Km) : DataW Unit := .map (d.map kent)

theorem katKey (d : Km) (k : List UInt8) : (kdatum d).atKey (.string k) (.lit (.int .i64 0)) = .lit (.int .i64 ((kget d k).getD 0)) := by
  unfold kdatum DataW.atKey kget
  induction d with
  | nil => rfl
  | cons p r ih =>
    have e : (kent p).1.sameKey (.string k) = (p.1 == k) := rfl
    simp only [List.map_cons, List.find?_cons, e]
    cases h : (p.1 == k)
    · simpa using ih
    · simp [kent]
theorem khas_datum (d : Km) (k : List UInt8) : Maps.has (kdatum d) (.string k) = (kget d k).isSome := by
  unfold kdatum Maps.has kget
  induction d with
  | nil => rfl
  | cons p r ih =>
    have e : (kent p).1.sameKey (.string k) = (p.1 == k) := rfl
    simp only [List.map_cons, List.any_cons, List.find?_cons, e]
    cases h : (p.1 == k)
    · simpa using ih
    · simp
theorem kdel_list (k : List UInt8) : ∀ d : Km, List.filter (fun p : Lit × DataW Unit => !p.1.sameKey (.string k)) (d.map kent) = (kdel d k).map kent
  | [] => rfl
  | p :: r => by
    have e : (kent p).1.sameKey (.string k) = (p.1 == k) := rfl
    have ih := kdel_list k r
    unfold kdel at ih ⊢
    simp only [List.map_cons, List.filter_cons, e]
    cases h : (p.1 == k)
    · simp only [Bool.not_false, if_true, List.map_cons, ih]
    · simpa using ih
theorem kins_map (x : List UInt8 × Int) : ∀ d : Km, DataW.insert (kent x) (d.map kent) = (kins x d).map kent
  | [] => rfl
  | y :: r => by
    have e : (kent x).1.before (kent y).1 = bytesBefore x.1 y.1 := rfl
    simp only [List.map_cons, DataW.insert, kins, e]
    split
    · simp
    · simp [kins_map x r]
theorem kput_datum (d : Km) (k : List UInt8) (v : Int) : (kdatum d).put (.string k) (.lit (.int .i64 v)) = kdatum (kput d k v) := by
  have e : (kdatum d).put (.string k) (.lit (.int .i64 v)) = .map (DataW.insert (kent (k, v)) (List.filter (fun p : Lit × DataW Unit => !p.1.sameKey (.string k)) (d.map kent))) := rfl
  rw [e, kdel_list, kins_map]
  rfl
theorem ksize_datum (d : Km) : Maps.size (kdatum d) = d.length := by simp [kdatum, Maps.size]

/-- Block m is the map d. -/
def KmAt (w : World) (m : Nat) (d : Km) : Prop := w.ownsMap Tryd.prog 9 kElem m d.length (kdatum d)

theorem KmAt.of {w : World} {m n : Nat} {d : Km} (h : w.ownsMap Tryd.prog 9 kElem m n (kdatum d)) : KmAt w m d := by
  obtain ⟨es, clock, hb, F, hs, e⟩ := h
  refine ⟨es, clock, hb, F, ?_, e⟩
  rw [← ksize_datum, e]
  simp [Maps.size, length_sorted]
theorem KmAt.lt {w : World} {m : Nat} {d : Km} (h : KmAt w m d) : m < w.heap.size := World.ownsMap.lt h
theorem KmAt.kept {w w' : World} {m : Nat} {d : Km} (h : KmAt w m d) (hk : w'.heap[m]? = w.heap[m]?) : KmAt w' m d := by
  obtain ⟨es, clock, hb, r⟩ := h
  exact ⟨es, clock, by rw [hk]; exact hb, r⟩
theorem KmAt.only {w w' : World} {T : Nat → Prop} {m : Nat} {d : Km} (h : KmAt w m d) (ho : Only T w w') (hn : ¬ T m) : KmAt w' m d := h.kept (ho.block m h.lt hn)
theorem kkeyed : Keyed Tryd.prog 9 := string_keyed Tryd.underlying9

theorem KmAt.look {w : World} {m : Nat} {d : Km} (h : KmAt w m d) (s : List UInt8) (hs : s.length ≤ maxLen) :
    (Instr.lookup 68 (.map (some m)) (.string ⟨s.toArray⟩) false).run Tryd.prog w = .ok (.int .i64 ((kget d s).getD 0)) w := by
  have hs2 : (ByteArray.mk s.toArray).size ≤ maxLen := by rw [Lib.size_eq]; exact hs
  obtain ⟨v, ps, hrun, hv⟩ := World.ownsMap.lookup (t := 68) (e := 3) h kkeyed Tryd.underlying68 (z := .int .i64 0) (by kernel_rfl) (zd := .lit (.int .i64 0)) (zp := []) rfl (keyOf_string_mk Tryd.underlying9 hs2)
  rw [hrun]
  have e : (ByteArray.mk s.toArray).data.toList = s := by simp
  rw [e, katKey] at hv
  rw [kElem_inv hv]
theorem KmAt.look2 {w : World} {m : Nat} {d : Km} (h : KmAt w m d) (s : List UInt8) (hs : s.length ≤ maxLen) :
    (Instr.lookup 68 (.map (some m)) (.string ⟨s.toArray⟩) true).run Tryd.prog w = .ok (.tuple #[.int .i64 ((kget d s).getD 0), .bool (kget d s).isSome]) w := by
  have hs2 : (ByteArray.mk s.toArray).size ≤ maxLen := by rw [Lib.size_eq]; exact hs
  obtain ⟨v, ps, hrun, hv⟩ := World.ownsMap.look_ok (t := 68) (e := 3) h kkeyed Tryd.underlying68 (z := .int .i64 0) (by kernel_rfl) (zd := .lit (.int .i64 0)) (zp := []) rfl (keyOf_string_mk Tryd.underlying9 hs2)
  rw [hrun]
  have e : (ByteArray.mk s.toArray).data.toList = s := by simp
  rw [e, katKey] at hv
  rw [kElem_inv hv, e, khas_datum]
theorem KmAt.store {w : World} {m : Nat} {d : Km} (h : KmAt w m d) (s : List UInt8) (hs : s.length ≤ maxLen) (hn : d.length < maxLen) (v : Int) :
    ∃ w', (Instr.mapUpdate 68 (.map (some m)) (.string ⟨s.toArray⟩) (.int .i64 v)).run Tryd.prog w = .ok () w' ∧ KmAt w' m (kput d s v) ∧ Only (fun k => k = m) w w' ∧ w'.heap.size = w.heap.size := by
  have hs2 : (ByteArray.mk s.toArray).size ≤ maxLen := by rw [Lib.size_eq]; exact hs
  obtain ⟨w', hrun, ho, ht⟩ := World.ownsMap.store (t := 68) (e := 3) h kkeyed Tryd.underlying68 hn (keyOf_string_mk Tryd.underlying9 hs2) (d := .lit (.int .i64 v)) (val := .int .i64 v) rfl
  have e : (ByteArray.mk s.toArray).data.toList = s := by simp
  rw [e, kput_datum] at ho
  refine ⟨w', hrun, KmAt.of ho, (Only.of_grown ht.grown).mono fun k _ hk => Option.some.inj hk, ?_⟩
  obtain ⟨es, clock, es', clock', hb, rfl⟩ := ht
  simp [ChangeMaps.setBlock]
theorem KmAt.len {w : World} {m : Nat} {d : Km} (h : KmAt w m d) (ty : TypeId) : (Builtin.len_ #[68] ty #[.map (some m)]).run Tryd.prog w = .ok (.int .i64 (d.length : Int)) w := by
  have hl := World.ownsMap.len (t := 68) (e := 3) h Tryd.underlying68 ty
  rw [ksize_datum] at hl
  exact hl

theorem KmAt.empty (w : World) : KmAt (w.alloc (.map #[] 0)) w.heap.size [] := KmAt.of (World.ownsMap_made w Tryd.prog 9 kElem)

end Go.Proofs.YtikkfmmdgicigaaDoor
