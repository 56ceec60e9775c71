/- Scripts in memory; long. Conditions: none. -/
import Derived.Test.YthjabfhfkikalaaPlay2
namespace Go.Proofs.Ythjabfhfkikalaa
open Go.RowKit Go.Maps Go.WideMaps

/-- v holds the script l: each call with the values of its rows. -/
def ScriptAt (w : World) (S : Nat → Prop) (v : Value) (l : List (OpD × Value × Value)) : Prop :=
  (∃ a c, v = .slice a l.length c ∧ (∀ i (h : i < l.length), ∃ ad : Addr, a = some ad ∧ S ad.block ∧ ∀ j u, (opCells l[i].1 l[i].2.1 l[i].2.2)[j]? = some u → w.cell? (ad.add (i * 8 + j)) = some u)) ∧ ∀ x ∈ l, OpAt w S x.1 x.2.1 x.2.2

theorem ScriptAt.kept {w w' : World} {S S' : Nat → Prop} {v : Value} {l : List (OpD × Value × Value)} (h : ScriptAt w S v l) (hk : ∀ k, S k → w'.heap[k]? = w.heap[k]?) (hs : ∀ k, S k → S' k) : ScriptAt w' S' v l := by
  obtain ⟨⟨a, c, h1, h2⟩, h3⟩ := h
  refine ⟨⟨a, c, h1, fun i hi => ?_⟩, fun x hx => (h3 x hx).kept hk hs⟩
  obtain ⟨ad, e, hS, hc⟩ := h2 i hi
  refine ⟨ad, e, hs _ hS, fun j u hu => ?_⟩
  rw [World.cell?_of_block (w := w) (by rw [add_block]; exact hk _ hS)]
  exact hc j u hu

theorem ScriptAt.shape {w : World} {S : Nat → Prop} {v : Value} {l : List (OpD × Value × Value)} (h : ScriptAt w S v l) : ∃ a c, v = .slice a l.length c := by
  obtain ⟨⟨a, c, h1, _⟩, _⟩ := h
  exact ⟨a, c, h1⟩

theorem add_lit (g o n : Nat) : (⟨g, o, none⟩ : Addr).add n = ⟨g, o + n, none⟩ := by
  unfold Addr.add
  by_cases h : n = 0
  · subst h; simp
  · simp [h]

/-- The cells of the i-th call. -/
theorem ScriptAt.at_ {w : World} {S : Nat → Prop} {a : Option Addr} {c : Nat} {l : List (OpD × Value × Value)} (h : ScriptAt w S (.slice a l.length c) l) {i : Nat} (hi : i < l.length) :
    ∃ g o, a = some ⟨g, o, none⟩ ∧ S g ∧ (∀ j u, (opCells l[i].1 l[i].2.1 l[i].2.2)[j]? = some u → w.cell? ⟨g, o + i * 8 + j, none⟩ = some u) ∧ OpAt w S l[i].1 l[i].2.1 l[i].2.2 := by
  obtain ⟨⟨a', c', h1, h2⟩, h3⟩ := h
  obtain ⟨ha, _, _⟩ := Value.slice.inj h1
  obtain ⟨ad, e, hS, hc⟩ := h2 i hi
  obtain ⟨ad0, e0, hS0, hc0⟩ := h2 0 (by omega)
  rw [e] at e0
  cases e0
  have hz := hc0 0 (.int .i64 l[0].1.kind) rfl
  have ez : ad.add (0 * 8 + 0) = ad := by unfold Addr.add; simp
  rw [ez] at hz
  have ead := addr_of_cell hz
  refine ⟨ad.block, ad.off, by rw [ha, e]; exact congrArg some ead, hS, fun j u hu => ?_, h3 _ (List.getElem_mem hi)⟩
  have := hc j u hu
  rw [ead, add_lit] at this
  rw [Nat.add_assoc]
  exact this

def longS : Nat → List OpD → Bool
  | _, [] => false
  | n, o :: r => if 1048576 < o.data.length ∨ 32768 < n + 100 then true else longS (n + 100 + o.data.length / 64) r

theorem longS_false {n : Nat} {l : List OpD} (h : longS n l = false) : (l ≠ [] → n + 100 * l.length ≤ 32768) ∧ ∀ o ∈ l, o.data.length ≤ 1048576 := by
  induction l generalizing n with
  | nil => simp
  | cons o r ih =>
    unfold longS at h
    split at h
    · cases h
    · rename_i hc
      have ⟨h1, h2⟩ := ih h
      refine ⟨fun _ => ?_, fun x hx => ?_⟩
      · by_cases hr : r = []
        · subst hr; simp; omega
        · have := h1 hr; simp; omega
      · rcases List.mem_cons.1 hx with rfl | hx
        · omega
        · exact h2 x hx

theorem longS_cons (n : Nat) (o : OpD) (r : List OpD) : longS n (o :: r) = if 1048576 < o.data.length ∨ 32768 < n + 100 then true else longS (n + 100 + o.data.length / 64) r := rfl

set_option maxRecDepth 100000 in
set_option maxHeartbeats 1000000 in
theorem long_any {w : World} {S : Nat → Prop} {v : Value} {l : List (OpD × Value × Value)} (h : ScriptAt w S v l) (hlt : ∀ k, S k → k < w.heap.size) (hlen : l.length < 2 ^ 47) :
    Calls Try.prog 10 #[v] w fun e w' => e = .returned (.bool (longS 0 (l.map (·.1)))) ∧ Only (fun _ => False) w w' := by
  obtain ⟨a, c, hv⟩ := h.shape
  subst hv
  have HS := Lib.hid h; have HLT := Lib.hid hlt
  clear h hlt
  go_enter Try.func10, Try.ntmps10
  go_wp2
  go_loopw [3, 8] (fun nv iv wr => ∃ k nk : Nat, k ≤ l.length ∧ iv = .int .i64 k ∧ nv = .int .i64 nk ∧ nk ≤ 65536 ∧ longS 0 (l.map (·.1)) = longS nk ((l.map (·.1)).drop k) ∧ Only (fun _ => False) w wr) (fun _ iv _ => l.length - (intOf iv).toNat)
  case atStart => exact ⟨0, 0, Nat.zero_le _, rfl, rfl, by omega, rfl, Only.refl _ _⟩
  case round =>
    obtain ⟨k, nk, hk, rfl, rfl, hnk, hlg, how⟩ := hrel
    by_cases hlt : k < l.length
    · obtain ⟨g, o, ha, hSg, hcell, hop⟩ := (HS.out.kept (w' := wr) (S' := S) (fun j hj => how.block j (HLT.out j hj) (fun x => x)) (fun _ h => h)).at_ hlt
      subst ha
      obtain ⟨da, dc, hds⟩ := hop.data.shape
      obtain ⟨ca, cc, hcs⟩ := hop.cuts.shape
      rw [hds, hcs] at hcell
      have hdr : (l.map (·.1)).drop k = l[k].1 :: (l.map (·.1)).drop (k + 1) := by
        rw [List.drop_eq_getElem_cons (by simpa using hlt)]; simp
      rw [hdr, longS_cons] at hlg
      have hdlen := hop.dlen
      generalize l[k].1 = od at *
      obtain ⟨kind, name, dst, data, n, m, dirs, cuts⟩ := od
      simp only [opCells] at hcell hdlen
      have c0 := hcell 0 _ rfl
      have c1 := hcell 1 _ rfl
      have c2 := hcell 2 _ rfl
      have c3 := hcell 3 _ rfl
      have c4 := hcell 4 _ rfl
      have c5 := hcell 5 _ rfl
      have c6 := hcell 6 _ rfl
      have c7 := hcell 7 _ rfl
      rw [Nat.add_zero] at c0
      have HON : Hid (∀ X, Only (fun _ => False) w (wr.alloc X)) := fun X => how.trans (Only.alloc X)
      have hnki : (nk : Int) ≤ 65536 := by omega
      have hdli : (data.length : Int) ≤ 140737488355328 := by omega
      simp only at hlg
      have HLG := Lib.hid hlg
      clear hcell hop hds hcs hdr hlg how hSg hdlen
      by_cases hbig : 1048576 < data.length
      · have HE : Hid (longS 0 (l.map (·.1)) = true) := by unfold Hid; rw [HLG.out, if_pos (.inl hbig)]
        go_wp2
        go_ret
        exact ⟨by rw [HE.out]; rfl, HON.out _⟩
      · by_cases hmany : 32768 < nk + 100
        · have HE : Hid (longS 0 (l.map (·.1)) = true) := by unfold Hid; rw [HLG.out, if_pos (.inr hmany)]
          go_wp2
          go_ret
          exact ⟨by rw [HE.out]; rfl, HON.out _⟩
        · have HE : Hid (longS 0 (l.map (·.1)) = longS (nk + 100 + data.length / 64) ((l.map (·.1)).drop (k + 1))) := by unfold Hid; rw [HLG.out, if_neg (by omega)]
          go_wp2
          go_roundw
          case rel => exact ⟨k + 1, nk + 100 + data.length / 64, by omega, by go_num, by go_num, by omega, HE.out, HON.out _⟩
          case measure => simp [intOf]; omega
    · have hk' : k = l.length := by omega
      subst hk'
      have HE : Hid (longS 0 (l.map (·.1)) = false) := by
        unfold Hid
        rw [hlg, List.drop_eq_nil_of_le (by simp)]
        rfl
      have HOW := Lib.hid how
      clear hlg how
      go_wp2
      go_ret
      exact ⟨by rw [HE.out]; rfl, HOW.out⟩

end Go.Proofs.Ythjabfhfkikalaa
