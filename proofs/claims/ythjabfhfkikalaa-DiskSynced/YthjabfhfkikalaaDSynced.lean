/- Whatever is written, synced, done and lost: the law DiskSynced returns true, and its argument reads as before. Conditions: none beside the reach. -/
import Derived.Test.YthjabfhfkikalaaKeeps2
import Derived.Test.YthjabfhfkikalaaOpen
import Derived.ShutString
namespace Go.Proofs.Ythjabfhfkikalaa
open Go.RowKit Go.Maps Go.WideMaps

set_option maxRecDepth 100000 in
set_option maxHeartbeats 1000000 in
theorem diskSynced_any {w : World} {S : Nat → Prop} (hlt : ∀ k, S k → k < w.heap.size) {dv mv sv cv : Value} {data more : List UInt8} {l : List (OpD × Value × Value)} {cuts : List Int} (dirs : Int)
    (hd : BytesAt w S dv data) (hm : BytesAt w S mv more) (hs : ScriptAt w S sv l) (hc : IntsAt w S cv cuts) (hdl : data.length ≤ 140737488355328) (hml : more.length ≤ 140737488355328) (hll : l.length < 2 ^ 47) :
    Calls Try.prog 3 #[.agg #[dv, mv, sv, .int .i64 dirs, cv]] w fun e w' => e = .returned (.bool true) ∧ Only (fun _ => False) w w' := by
  obtain ⟨da, dc, hds⟩ := hd.shape
  obtain ⟨ma, mc, hms⟩ := hm.shape
  obtain ⟨ca, cc, hcs⟩ := hc.shape
  obtain ⟨sa, sc, hss⟩ := hs.shape
  subst hds hms hcs hss
  generalize hw1 : w.alloc (.cells #[.slice da data.length dc, .slice ma more.length mc, .slice sa l.length sc, .int .i64 dirs, .slice ca cuts.length cc] 28) = w1
  have ho : Only (fun _ => False) w w1 := by rw [← hw1]; exact Only.alloc _
  have hk : ∀ k, S k → w1.heap[k]? = w.heap[k]? := fun k hk => ho.block k (hlt k hk) (fun x => x)
  have hkp := keeps_any (w := w1) (S := S) (fun k hk => Nat.lt_of_lt_of_le (hlt k hk) ho.size) dirs (hd.kept hk (fun _ h => h)) (hm.kept hk (fun _ h => h)) (hs.kept hk (fun _ h => h)) (hc.kept hk (fun _ h => h)) hdl hml hll
  subst hw1
  have HO := Lib.hid ho
  clear hd hm hs hc hk hlt hdl hml hll ho
  go_enter Try.func3, Try.ntmps3
  go_wp2_with (go_at_call 8; refine hkp.mono ?_; rintro e w2 ⟨rfl, ho2⟩; have HO2 := Lib.hid ho2; clear ho2 hkp)
  go_ret
  exact ⟨rfl, HO.out.trans HO2.out⟩

end Go.Proofs.Ythjabfhfkikalaa
