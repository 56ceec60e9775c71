/- The walks of package seal, the fixed fact, what the arguments read as. Conditions: few bytes. -/
import Derived.Test.YtgdnmbchhfbjoaaDoorSeCat
import Derived.Test.YtgdnmbchhfbjoaaDoorHDerive
import Derived.Test.YtgdnmbchhfbjoaaDoorHEqual
import Derived.Test.YtgdnmbchhfbjoaaDoorCXor
import Derived.Lib.SlBytesConst
import Derived.RegionTactic
import Derived.Test.YtgdnmbchhfbjoaaDoorWiRead
import Derived.Test.YtgdnmbchhfbjoaaDoorHLarge
import Derived.Test.YtgdnmbchhfbjoaaDoorHArgs
import Derived.Deep.Strs
import Derived.BigQuiet

namespace Go.Proofs.YtgdnmbchhfbjoaaDoor
open Go.RowKit

namespace Se
/-- The three keys side by side. -/
def cipher (K : List UInt8) : List UInt8 := K.take 32
def mac (K : List UInt8) : List UInt8 := (K.drop 32).take 32
def name (K : List UInt8) : List UInt8 := (K.drop 64).take 32
/-- A text's bytes. -/
def amphora : List UInt8 := [97, 109, 112, 104, 111, 114, 97]
def amphora1 : List UInt8 := [97, 109, 112, 104, 111, 114, 97, 49]
def chunk : List UInt8 := [99, 104, 117, 110, 107]
def tCipher : List UInt8 := [99, 105, 112, 104, 101, 114]
def tMac : List UInt8 := [109, 97, 99]
def tName : List UInt8 := [110, 97, 109, 101]
def tKey : List UInt8 := [107, 101, 121]
/-- The keys of a master. -/
def keys (m : List UInt8) : List UInt8 := derived amphora m tCipher 32 ++ derived amphora m tMac 32 ++ derived amphora m tName 32
def nonce (K : List UInt8) (kind : UInt8) (ctx pl : List UInt8) : List UInt8 := (Sh.mac (name K) (Wi.pack [[kind], ctx, pl])).take 12
def tag (K : List UInt8) (kind : UInt8) (ctx nn body : List UInt8) : List UInt8 := Sh.mac (mac K) (Wi.pack [[kind], ctx, nn, body])
def body (K : List UInt8) (nn pl : List UInt8) : List UInt8 := Ch.xor (cipher K) nn 0 pl
def blob (K : List UInt8) (kind : UInt8) (ctx pl : List UInt8) : List UInt8 :=
  [[kind], nonce K kind ctx pl, body K (nonce K kind ctx pl) pl, tag K kind ctx (nonce K kind ctx pl) (body K (nonce K kind ctx pl) pl)].flatten
def idOf (K pl : List UInt8) : List UInt8 := Sh.mac (name K) (Wi.pack [chunk, pl])
/-- A blob's parts. -/
def nonceIn (b : List UInt8) : List UInt8 := (b.drop 1).take 12
def bodyIn (b : List UInt8) : List UInt8 := (b.drop 13).take (b.length - 32 - 13)
def tagIn (b : List UInt8) : List UInt8 := b.drop (b.length - 32)
/-- Whether a blob is taken. -/
def Takes (K : List UInt8) (kind : UInt8) (ctx b : List UInt8) : Prop := 45 ≤ b.length ∧ b[0]? = some kind ∧ tag K kind ctx (nonceIn b) (bodyIn b) = tagIn b
def plain (K b : List UInt8) : List UInt8 := body K (nonceIn b) (bodyIn b)

theorem keys_len (m : List UInt8) : (keys m).length = 96 := by simp [keys, derived_len]
theorem cipher_len {K : List UInt8} (h : K.length = 96) : (cipher K).length = 32 := by simp [cipher, h]
theorem mac_len {K : List UInt8} (h : K.length = 96) : (mac K).length = 32 := by simp [mac, h]
theorem name_len {K : List UInt8} (h : K.length = 96) : (name K).length = 32 := by simp [name, h]
theorem nonce_len (K : List UInt8) (kind : UInt8) (ctx pl : List UInt8) : (nonce K kind ctx pl).length = 12 := by
  unfold nonce; rw [List.length_take, show (Sh.mac _ _).length = 32 from sum_len _]; rfl
theorem tag_len (K : List UInt8) (kind : UInt8) (ctx nn b : List UInt8) : (tag K kind ctx nn b).length = 32 := sum_len _
theorem id_len (K pl : List UInt8) : (idOf K pl).length = 32 := sum_len _
end Se

theorem size_keys {bs : List UInt8} (h : bs.length = 96) : (Tryd.prog.info? 29).map (·.size) = some (bs.map byteV).toArray.size := by
  have e : (bs.map byteV).toArray.size = 96 := by simp [h]
  have e2 : (Tryd.prog.info? 29).map (·.size) = some 96 := by kernel_rfl
  rw [e, e2]
theorem size_a16 {bs : List UInt8} (h : bs.length = 16) : (Tryd.prog.info? 47).map (·.size) = some (bs.map byteV).toArray.size := by
  have e : (bs.map byteV).toArray.size = 16 := by simp [h]
  have e2 : (Tryd.prog.info? 47).map (·.size) = some 16 := by kernel_rfl
  rw [e, e2]
theorem size_id {bs : List UInt8} (h : bs.length = 32) : (Tryd.prog.info? 33).map (·.size) = some (bs.map byteV).toArray.size := by
  have e : (bs.map byteV).toArray.size = 32 := by simp [h]
  have e2 : (Tryd.prog.info? 33).map (·.size) = some 32 := by kernel_rfl
  rw [e, e2]

theorem z12 : (ocells 12 []).toArray = #[.int .u8 0, .int .u8 0, .int .u8 0, .int .u8 0, .int .u8 0, .int .u8 0, .int .u8 0, .int .u8 0, .int .u8 0, .int .u8 0, .int .u8 0, .int .u8 0] := by kernel_rfl
theorem z16 : (ocells 16 []).toArray = #[.int .u8 0, .int .u8 0, .int .u8 0, .int .u8 0, .int .u8 0, .int .u8 0, .int .u8 0, .int .u8 0, .int .u8 0, .int .u8 0, .int .u8 0, .int .u8 0, .int .u8 0, .int .u8 0, .int .u8 0, .int .u8 0] := by kernel_rfl
theorem z32 : (ocells 32 []).toArray = #[.int .u8 0, .int .u8 0, .int .u8 0, .int .u8 0, .int .u8 0, .int .u8 0, .int .u8 0, .int .u8 0, .int .u8 0, .int .u8 0, .int .u8 0, .int .u8 0, .int .u8 0, .int .u8 0, .int .u8 0, .int .u8 0, .int .u8 0, .int .u8 0, .int .u8 0, .int .u8 0, .int .u8 0, .int .u8 0, .int .u8 0, .int .u8 0, .int .u8 0, .int .u8 0, .int .u8 0, .int .u8 0, .int .u8 0, .int .u8 0, .int .u8 0, .int .u8 0] := by kernel_rfl

/-- x[:] of an array. -/
theorem all_32 (g o : Nat) (W : World) : (Instr.sliceAt 22 (.pointer (some ⟨g, o, none⟩)) none none none).run Tryd.prog W = .ok (.slice (some ⟨g, o, none⟩) 32 32) W := by
  kernel_rfl
theorem all_12 (g o : Nat) (W : World) : (Instr.sliceAt 64 (.pointer (some ⟨g, o, none⟩)) none none none).run Tryd.prog W = .ok (.slice (some ⟨g, o, none⟩) 12 12) W := by
  kernel_rfl
theorem all_16 (g o : Nat) (W : World) : (Instr.sliceAt 47 (.pointer (some ⟨g, o, none⟩)) none none none).run Tryd.prog W = .ok (.slice (some ⟨g, o, none⟩) 16 16) W := by
  kernel_rfl

theorem ptr_32 (a : Option Addr) (n c : Nat) (h : 32 ≤ n) (W : World) : (Instr.arrayAt 22 (.slice a n c)).run Tryd.prog W = .ok (.pointer a) W := by
  have hn : ¬ n < 32 := by omega
  simp [Instr.arrayAt, run_underlying Tryd.underlying22, hn]
theorem ptr_12 (a : Option Addr) (n c : Nat) (h : 12 ≤ n) (W : World) : (Instr.arrayAt 64 (.slice a n c)).run Tryd.prog W = .ok (.pointer a) W := by
  have hn : ¬ n < 12 := by omega
  simp [Instr.arrayAt, run_underlying Tryd.underlying64, hn]
theorem ptr_16 (a : Option Addr) (n c : Nat) (h : 16 ≤ n) (W : World) : (Instr.arrayAt 47 (.slice a n c)).run Tryd.prog W = .ok (.pointer a) W := by
  have hn : ¬ n < 16 := by omega
  simp [Instr.arrayAt, run_underlying Tryd.underlying47, hn]

/-- A row of the call's own that is not empty lies at the begin of a block. -/
theorem own_range {w : World} {a : Option Addr} {n c : Nat} {bs : List UInt8} (h : w.ownsRow 0 5 1 (.slice a n c) n (bs.map byteV)) (hn : 0 < n) : ∃ g, a = some ⟨g, 0, none⟩ ∧ w.rangeAt g 0 (bs.map byteV) ∧ g < w.heap.size := by
  rcases h.2 with ⟨_, e0⟩ | ⟨g, cap, cur, e, _⟩
  · omega
  · obtain ⟨rfl, _, _⟩ := Value.slice.inj e
    exact ⟨g, rfl, fun j v hv => by have := h.cells (g := g) rfl j v hv; rwa [add_lit] at this, (h.lt g rfl).2⟩

/-- The bytes of a range of a block. -/
theorem BytesAt.of_range {w : World} {g o c : Nat} {bs : List UInt8} (hc : bs.length ≤ c) (h : w.rangeAt g o (bs.map byteV)) : BytesAt w (fun k => k = g) (.slice (some ⟨g, o, none⟩) bs.length c) bs := by
  refine .inr ⟨⟨g, o, none⟩, c, rfl, hc, fun _ => rfl, fun j x hx => ?_⟩
  rw [add_lit]
  exact h j _ (by rw [List.getElem?_map, hx]; rfl)

theorem Blk.mid {w : World} {g o n : Nat} {bs : List UInt8} {t : TypeId} (h : Blk w g (bs.map byteV) t) : w.rangeAt g o (((bs.drop o).take n).map byteV) := fun j v hv => by
  rw [h.cell, ← hv, List.getElem?_map, List.getElem?_map, List.getElem?_take]
  rw [List.getElem?_map, Option.map_eq_some_iff] at hv
  obtain ⟨x, hx, _⟩ := hv
  rw [List.getElem?_take] at hx
  split at hx
  · rename_i hlt; rw [if_pos hlt, List.getElem?_drop]
  · cases hx

theorem rangeAt_here {w w' : World} {g o : Nat} {cs : List Value} (h : w.rangeAt g o cs) (ho : Only (fun _ => False) w w') (hg : g < w.heap.size) : w'.rangeAt g o cs := fun j v hv => by
  rw [World.cell?_of_block (w := w) (a := ⟨g, o + j, none⟩) (ho.block g hg (fun x => x))]
  exact h j v hv

/-- A piece of a row that does not begin at its begin. -/
theorem mid_at {w : World} {S : Nat → Prop} {a : Option Addr} {c : Nat} {bs : List UInt8} (h : BytesAt w S (.slice a bs.length c) bs) {i j : Nat} (hi : 0 < i) (hij : i < j) (hj : j ≤ bs.length) :
    ∃ g o, (∀ W : World, (Instr.slice 23 (.slice a bs.length c) (some (.int .i64 (i : Int))) (some (.int .i64 (j : Int))) none).run Tryd.prog W = .ok (.slice (some ⟨g, o, none⟩) (j - i) (c - i)) W) ∧ w.rangeAt g o (((bs.drop i).take (j - i)).map byteV) ∧ S g := by
  rcases h with ⟨e, rfl⟩ | ⟨ad, c', e, hc, h2, h3⟩
  · simp at hj; omega
  · obtain ⟨rfl, _, rfl⟩ := Value.slice.inj e
    refine ⟨ad.block, ad.off + i, fun W => ?_, fun k v hv => ?_, h2 (by rintro rfl; simp at hj; omega)⟩
    · rw [run_slice_lh (ht := by kernel_rfl) (h0 := by omega) (h1 := by omega) (h2 := by omega)]
      have hsz : (sizeOf (Tryd.prog.elem 23)).run Tryd.prog W = .ok 1 W := by kernel_rfl
      rw [hsz]
      have hne : ¬ c = i := by omega
      have hi0 : ¬ i = 0 := by omega
      simp [Result.andThen, sliced, hne, Addr.add, hi0]
    · rw [List.getElem?_map, Option.map_eq_some_iff] at hv
      obtain ⟨x, hx, rfl⟩ := hv
      rw [List.getElem?_take] at hx
      split at hx
      · rw [List.getElem?_drop] at hx
        have := h3 _ _ hx
        unfold Addr.add at this
        rw [if_neg (by omega)] at this
        rw [Nat.add_assoc]
        exact this
      · cases hx

/-- What is left of a row behind its i-th place. -/
theorem tail_at {w : World} {S : Nat → Prop} {a : Option Addr} {c : Nat} {bs : List UInt8} (h : BytesAt w S (.slice a bs.length c) bs) {i : Nat} (hi : 0 < i) (hj : i < bs.length) :
    ∃ g o, (∀ W : World, (Instr.slice 23 (.slice a bs.length c) (some (.int .i64 (i : Int))) none none).run Tryd.prog W = .ok (.slice (some ⟨g, o, none⟩) (bs.length - i) (c - i)) W) ∧ w.rangeAt g o ((bs.drop i).map byteV) ∧ S g ∧ bs.length - i ≤ c - i := by
  rcases h with ⟨e, rfl⟩ | ⟨ad, c', e, hc, h2, h3⟩
  · simp at hj
  · obtain ⟨rfl, _, rfl⟩ := Value.slice.inj e
    refine ⟨ad.block, ad.off + i, fun W => ?_, fun k v hv => ?_, h2 (by rintro rfl; simp at hj), by omega⟩
    · rw [run_slice_l (ht := by kernel_rfl) (h0 := by omega) (h1 := by omega)]
      have hsz : (sizeOf (Tryd.prog.elem 23)).run Tryd.prog W = .ok 1 W := by kernel_rfl
      rw [hsz]
      have hne : ¬ c = i := by omega
      have hi0 : ¬ i = 0 := by omega
      simp [Result.andThen, sliced, hne, Addr.add, hi0]
    · rw [List.getElem?_map, Option.map_eq_some_iff] at hv
      obtain ⟨x, hx, rfl⟩ := hv
      rw [List.getElem?_drop] at hx
      have := h3 _ _ hx
      unfold Addr.add at this
      rw [if_neg (by omega)] at this
      rw [Nat.add_assoc]
      exact this

/-- The mark that a constant's row gets. -/
theorem freeze_heap {W : World} {g : Nat} {C : Array Value} {t : TypeId} (h : W.heap[g]? = some (.cells C t (0, 0))) (k : Nat) : (W.freeze ⟨g, k, none⟩ 1).heap[g]? = some (.cells C t (k, k + 1)) := by
  simp [World.freeze, Array.getElem?_modify, h]
theorem freeze_only {W : World} (g k : Nat) : Only (fun q => q = g) W (W.freeze ⟨g, k, none⟩ 1) :=
  ⟨rfl, rfl, rfl, by simp [World.freeze], fun q _ hn => by simp [World.freeze, Array.getElem?_modify, Ne.symm hn]⟩
theorem conv_const {W : World} {g : Nat} {C : Array Value} (h : W.heap[g]? = some (.cells C 5 (0, 0))) (n c : Nat) :
    (convert 23 23 (.slice (some ⟨g, 0, none⟩) n c)).run Tryd.prog W = .ok (.slice (some ⟨g, 0, none⟩) n c) (W.freeze ⟨g, C.size, none⟩ 1) := by
  have hsh : W.shape? g = some (5, C.size) := by
    unfold World.shape?
    rw [h]
  simp [convert, run_underlying Tryd.underlying23, run_underlying Tryd.underlying5, markStringish, hsh]

/-- A row in a block that is marked or not. -/
theorem BytesAt.of_marked {w : World} {g c : Nat} {t : TypeId} {bs : List UInt8} {f : Nat × Nat} (h : w.heap[g]? = some (.cells (bs.map byteV).toArray t f)) (hc : bs.length ≤ c) : BytesAt w (fun k => k = g) (.slice (some ⟨g, 0, none⟩) bs.length c) bs := by
  refine .inr ⟨⟨g, 0, none⟩, c, rfl, hc, fun _ => rfl, fun j x hx => ?_⟩
  rw [add_lit, cell_of h, Nat.zero_add]
  simp [hx]

/-- A block as a row, and a piece of it. -/
theorem Blk.whole {w : World} {g n : Nat} {bs : List UInt8} {t : TypeId} (h : Blk w g (bs.map byteV) t) (hn : bs.length = n) : BytesAt w (fun k => k < w.heap.size) (.slice (some ⟨g, 0, none⟩) n n) bs := by
  subst hn
  exact (BytesAt.of_marked h.heap (Nat.le_refl _)).mono (fun k hk => by rw [hk]; exact h.lt)
theorem Blk.part {w : World} {g o n : Nat} {bs : List UInt8} {t : TypeId} (h : Blk w g (bs.map byteV) t) (hn : ((bs.drop o).take n).length = n) : BytesAt w (fun k => k < w.heap.size) (.slice (some ⟨g, o, none⟩) n n) ((bs.drop o).take n) := by
  have := (BytesAt.of_range (c := n) (by omega) (h.mid (o := o) (n := n))).mono (S' := fun k => k < w.heap.size) (fun k hk => by rw [hk]; exact h.lt)
  rwa [hn] at this

/-- []byte(s). -/
theorem conv_text (w : World) (bs : List UInt8) : ∃ c w', (convert 9 23 (.string ⟨bs.toArray⟩)).run Tryd.prog w = .ok (.slice (some ⟨w.heap.size, 0, none⟩) bs.length c) w' ∧ BytesAt w' (fun k => k = w.heap.size) (.slice (some ⟨w.heap.size, 0, none⟩) bs.length c) bs ∧ w.heap.size < w'.heap.size ∧ Only (fun _ => False) w w' := by
  have h := run_bytes_of_string (P := Tryd.prog) w 9 23 5 ⟨bs.toArray⟩ Tryd.underlying9 Tryd.underlying23 Tryd.underlying5
  have hge := grownCap_ge w bs.length 0 5
  have e : (⟨bs.toArray⟩ : ByteArray).size = bs.length := by simp [ByteArray.size]
  rw [e] at h
  refine ⟨_, _, h, .inr ⟨_, _, rfl, hge, fun _ => rfl, fun j x hx => ?_⟩, by simp, Only.drew.trans (Only.alloc _)⟩
  have hh := heap_alloc_last w.drew (.cells (bytesRow ⟨bs.toArray⟩ (grownCap w bs.length 0 5)) 5 ((bytesRow ⟨bs.toArray⟩ (grownCap w bs.length 0 5)).size, (bytesRow ⟨bs.toArray⟩ (grownCap w bs.length 0 5)).size + 1))
  rw [add_lit, cell_of (b := w.heap.size) hh, Nat.zero_add]
  have hj : j < bs.length := (List.getElem?_eq_some_iff.1 hx).1
  rw [List.getElem?_eq_getElem hj] at hx
  obtain rfl := Option.some.inj hx
  unfold bytesRow
  simp [Array.getElem?_append, hj, byteV]

end Go.Proofs.YtgdnmbchhfbjoaaDoor

namespace Go.Proofs.YtgdnmbchhfbjoaaDoor
open Go.RowKit

set_option maxRecDepth 100000 in
set_option maxHeartbeats 1000000 in
theorem ederived_any {w : World} {S : Nat → Prop} {vs vk : Value} {salt secret : List UInt8} (info : List UInt8) (hs : BytesAt w S vs salt) (hk : BytesAt w S vk secret) (hS : ∀ k, S k → k < w.heap.size) (h1 : salt.length ≤ 1048576) (h2 : secret.length ≤ 1048576) (h3 : info.length ≤ 1048576) (hf : Fst w) (ht : Tab w) :
    Calls Tryd.prog 28 #[vs, vk, .string ⟨info.toArray⟩] w fun e w' => e = .returned (digV (derived salt secret info 32)) ∧ Only (fun _ => False) w w' := by
  have ho1 : Only (fun _ => False) w (w.alloc (.cells (ocells 32 []).toArray 22)) := Only.alloc _
  have hr1 : Blk (w.alloc (.cells (ocells 32 []).toArray 22)) w.heap.size (ocells 32 []) 22 := Blk.new _ _ _
  obtain ⟨c1, w1, hconv, hb1, hlt1, ho2⟩ := conv_text (w.alloc (.cells (ocells 32 []).toArray 22)) info
  have ho12 := ho1.trans ho2
  have hS1 : ∀ k, k < w1.heap.size → k < w1.heap.size := fun _ h => h
  have hd := derive_any (n := 32) (hs.here ho12 hS) (hk.here ho12 hS) (hb1.mono (S' := fun k => k < w1.heap.size) (fun k hk => by omega)) hS1 (by omega) (by omega) (by omega) (by omega) (hf.only ho12 (fun x => x)) (ht.only ho12 (fun x => x))
  have HD := Lib.hid hd; have HO12 := Lib.hid ho12; have HR1 := Lib.hid (hr1.keep ho2 (fun x => x))
  have HL := Lib.hid (derived_len salt secret info 32)
  rw [World.size_alloc, z32] at hconv
  rw [World.size_alloc] at HD
  obtain ⟨sa, sc, rfl⟩ := hs.shape
  obtain ⟨ka, kc, rfl⟩ := hk.shape
  clear hs hk hS h1 h2 h3 hf ht ho1 hr1 hb1 hlt1 ho2 ho12 hS1 hd
  go_enter Tryd.func28, Tryd.ntmps28
  go_wp2_with fail
  refine HD.out.mono ?_
  rintro e w2 ⟨a2, c2, rfl, hr2, -, ho2⟩
  obtain ⟨g, rfl, hrg, hgl⟩ := own_range hr2 (by decide)
  have HRG := Lib.hid hrg
  have HB := Lib.hid (HR1.out.keep ho2 (fun x => x))
  have HO := Lib.hid (HO12.out.trans ho2)
  have hp := ptr_32 (some ⟨g, 0, none⟩) 32 c2 (by decide)
  clear hr2 ho2 hrg hgl hconv HD HR1 HO12
  go_wp2_with (first
    | (refine wpList_load_mid rfl 22 (.tmp 21) rfl g 0 rfl ((derived salt secret info 32).map byteV) _ HRG.out Tryd.underlying22 rfl (by simpa using hsize_a32 HL.out) ?_)
    | (refine wpList_store_row rfl 22 (.tmp 6) (.tmp 22) rfl w.heap.size ((derived salt secret info 32).map byteV).toArray rfl rfl 22 (ocells 32 []).toArray HB.out.heap (hsize_a32 HL.out) (by simp [ocells, HL.out]) (oneCell_bytes _) ?_))
  have hfin := HB.out.row ((derived salt secret info 32).map byteV)
  exact bodyPost_ret (v := digV (derived salt secret info 32)) (results_cell_row rfl _ _ w.heap.size 22 _ (0, 0) _ rfl hfin Tryd.underlying22 rfl (hsize_a32 HL.out)) rfl ⟨rfl, HO.out.andThen (Only.setRow _ _) (fun k hk e => by omega)⟩

end Go.Proofs.YtgdnmbchhfbjoaaDoor

namespace Go.Proofs.YtgdnmbchhfbjoaaDoor
open Go.RowKit

theorem fold_set (off : Nat) : ∀ (vs : List Value) (k : Nat) (cells : Array Value), off + k + vs.length ≤ cells.size →
    ((vs.zipIdx k).foldl (fun (cs : Array Value) (p : Value × Nat) => cs.setIfInBounds (off + p.2) p.1) cells).toList = cells.toList.take (off + k) ++ vs ++ cells.toList.drop (off + k + vs.length)
  | [], k, cells, _ => by simp
  | v :: vs, k, cells, h => by
    rw [List.zipIdx_cons, List.foldl_cons, fold_set off vs (k + 1) _ (by simp at h ⊢; omega)]
    simp only [Array.toList_setIfInBounds, List.length_cons] at h ⊢
    have hlt : off + k < cells.toList.length := by simp; omega
    rw [List.drop_set, if_pos (by omega), show off + (k + 1) = off + k + 1 by omega, List.take_succ_eq_append_getElem (by simpa using hlt), List.take_set_of_le (Nat.le_refl _)]
    simp [show off + k + 1 + vs.length = off + k + (vs.length + 1) by omega]

theorem fill_step {place : Nat → Option (Nat × Nat)} {cells : Array Value} {i off : Nat} {bs : List UInt8} {rest : List (Nat × Value)} (hp : place i = some (off, bs.length)) (h : off + bs.length ≤ cells.size) :
    Instr.fill place cells ((i, digV bs) :: rest) = Instr.fill place (cells.toList.take off ++ bs.map byteV ++ cells.toList.drop (off + bs.length)).toArray rest := by
  have hsz : (digV bs).cells.size = bs.length := by simp [digV, Value.cells]
  have e := fold_set off (bs.map byteV) 0 cells (by simpa using h)
  have e2 : (digV bs).cells.zipIdx.foldl (fun cs (c, j) => cs.setIfInBounds (off + j) c) cells = (cells.toList.take off ++ bs.map byteV ++ cells.toList.drop (off + bs.length)).toArray := by
    apply Array.toList_inj.1
    simp only [Nat.add_zero, List.length_map] at e
    rw [← e]
    have e3 : List.mapIdx (fun i a => (a, i)) (bs.map byteV) = (bs.map byteV).zipIdx := by
      apply List.ext_getElem?
      intro k
      simp [List.getElem?_mapIdx, List.getElem?_zipIdx]
    simp [digV, Value.cells, Array.zipIdx, e3]
  rw [Instr.fill, hp]
  simp only [hsz]
  rw [if_neg (by simp; omega), e2]

theorem built_as (parts : List (Nat × Value)) : Tryd.prog.built 29 parts = Instr.fill (#[(0, 32), (32, 32), (64, 32)][·]?) (ocells 96 []).toArray parts := by kernel_rfl

theorem built_keys {a b c : List UInt8} (ha : a.length = 32) (hb : b.length = 32) (hc : c.length = 32) : Tryd.prog.built 29 [(0, digV a), (1, digV b), (2, digV c)] = some ((a ++ b ++ c).map byteV).toArray := by
  have hz : (ocells 96 []).length = 96 := by simp [ocells]
  rw [built_as, fill_step (off := 0) (by rw [ha]; rfl) (by simp [hz, ha]), fill_step (off := 32) (by rw [hb]; rfl) (by simp [hz, ha, hb]), fill_step (off := 64) (by rw [hc]; rfl) (by simp [hz, ha, hb, hc])]
  unfold Instr.fill
  have d3 : ∀ (X : List Value), X.length = 96 → X.drop 96 = [] := fun X h => List.drop_of_length_le (by omega)
  have t1 : (a.map byteV).take 64 = a.map byteV := List.take_of_length_le (by simp [ha])
  simp [ha, hb, hc, hz, List.take_append, List.drop_append, d3, t1]

theorem zero_keys : (∀ w, (zeroValue 29).run Tryd.prog w = .ok (.agg (ocells 96 []).toArray) w) ∧ (Tryd.prog.info? 29).map (·.size) = some 96 :=
  zero_of_info (v := .agg (ocells 96 []).toArray) (n := 96) (by kernel_rfl)

/-- The operations of the region that draws its order. -/
def secondOps : Option Code → Array Oper
  | some (.seq _ (.seq (.region _ ops _) _)) => ops
  | _ => #[]
theorem from0 : (secondOps Tryd.f11.body)[0]? = some { dst := some 3, op := Go.Op.buildSlice 23 7 #[(0, Go.Operand.const (Go.Value.int Go.IntKind.u8 97)), (1, Go.Operand.const (Go.Value.int Go.IntKind.u8 109)), (2, Go.Operand.const (Go.Value.int Go.IntKind.u8 112)), (3, Go.Operand.const (Go.Value.int Go.IntKind.u8 104)), (4, Go.Operand.const (Go.Value.int Go.IntKind.u8 111)), (5, Go.Operand.const (Go.Value.int Go.IntKind.u8 114)), (6, Go.Operand.const (Go.Value.int Go.IntKind.u8 97))], type := 23, pos := "seal.go:25", after := #[], guard := none } := by kernel_rfl
theorem from1 : (secondOps Tryd.f11.body)[1]? = some { dst := some 4, op := Go.Op.convert 23 23 (Go.Operand.tmp 3), type := 23, pos := "seal.go:25", after := #[{ on := 0, ground := Go.Ground.data }], guard := none } := by kernel_rfl
theorem from2 : (secondOps Tryd.f11.body)[2]? = some { dst := some 5, op := Go.Op.slice 22 (Go.Operand.tmp 1) none none none, type := 23, pos := "seal.go:25", after := #[], guard := none } := by kernel_rfl
theorem from3 : (secondOps Tryd.f11.body)[3]? = some { dst := some 6, op := Go.Op.call { callee := Go.Callee.value (Go.Operand.func 28), args := #[Go.Operand.tmp 4, Go.Operand.tmp 5, Go.Operand.const (Go.Value.string { data := #[99, 105, 112, 104, 101, 114] })], argTypes := #[23, 23, 9] }, type := 22, pos := "seal.go:26", after := #[{ on := 1, ground := Go.Ground.data }, { on := 2, ground := Go.Ground.data }], guard := none } := by kernel_rfl
theorem from4 : (secondOps Tryd.f11.body)[4]? = some { dst := some 7, op := Go.Op.buildSlice 23 7 #[(0, Go.Operand.const (Go.Value.int Go.IntKind.u8 97)), (1, Go.Operand.const (Go.Value.int Go.IntKind.u8 109)), (2, Go.Operand.const (Go.Value.int Go.IntKind.u8 112)), (3, Go.Operand.const (Go.Value.int Go.IntKind.u8 104)), (4, Go.Operand.const (Go.Value.int Go.IntKind.u8 111)), (5, Go.Operand.const (Go.Value.int Go.IntKind.u8 114)), (6, Go.Operand.const (Go.Value.int Go.IntKind.u8 97))], type := 23, pos := "seal.go:25", after := #[], guard := none } := by kernel_rfl
theorem from5 : (secondOps Tryd.f11.body)[5]? = some { dst := some 8, op := Go.Op.convert 23 23 (Go.Operand.tmp 7), type := 23, pos := "seal.go:25", after := #[{ on := 4, ground := Go.Ground.data }], guard := none } := by kernel_rfl
theorem from6 : (secondOps Tryd.f11.body)[6]? = some { dst := some 9, op := Go.Op.slice 22 (Go.Operand.tmp 1) none none none, type := 23, pos := "seal.go:25", after := #[], guard := none } := by kernel_rfl
theorem from7 : (secondOps Tryd.f11.body)[7]? = some { dst := some 10, op := Go.Op.call { callee := Go.Callee.value (Go.Operand.func 28), args := #[Go.Operand.tmp 8, Go.Operand.tmp 9, Go.Operand.const (Go.Value.string { data := #[109, 97, 99] })], argTypes := #[23, 23, 9] }, type := 22, pos := "seal.go:27", after := #[{ on := 5, ground := Go.Ground.data }, { on := 6, ground := Go.Ground.data }, { on := 3, ground := Go.Ground.chain }], guard := none } := by kernel_rfl
theorem from8 : (secondOps Tryd.f11.body)[8]? = some { dst := some 11, op := Go.Op.buildSlice 23 7 #[(0, Go.Operand.const (Go.Value.int Go.IntKind.u8 97)), (1, Go.Operand.const (Go.Value.int Go.IntKind.u8 109)), (2, Go.Operand.const (Go.Value.int Go.IntKind.u8 112)), (3, Go.Operand.const (Go.Value.int Go.IntKind.u8 104)), (4, Go.Operand.const (Go.Value.int Go.IntKind.u8 111)), (5, Go.Operand.const (Go.Value.int Go.IntKind.u8 114)), (6, Go.Operand.const (Go.Value.int Go.IntKind.u8 97))], type := 23, pos := "seal.go:25", after := #[], guard := none } := by kernel_rfl
theorem from9 : (secondOps Tryd.f11.body)[9]? = some { dst := some 12, op := Go.Op.convert 23 23 (Go.Operand.tmp 11), type := 23, pos := "seal.go:25", after := #[{ on := 8, ground := Go.Ground.data }], guard := none } := by kernel_rfl
theorem from10 : (secondOps Tryd.f11.body)[10]? = some { dst := some 13, op := Go.Op.slice 22 (Go.Operand.tmp 1) none none none, type := 23, pos := "seal.go:25", after := #[], guard := none } := by kernel_rfl
theorem from11 : (secondOps Tryd.f11.body)[11]? = some { dst := some 14, op := Go.Op.call { callee := Go.Callee.value (Go.Operand.func 28), args := #[Go.Operand.tmp 12, Go.Operand.tmp 13, Go.Operand.const (Go.Value.string { data := #[110, 97, 109, 101] })], argTypes := #[23, 23, 9] }, type := 22, pos := "seal.go:28", after := #[{ on := 9, ground := Go.Ground.data }, { on := 10, ground := Go.Ground.data }, { on := 7, ground := Go.Ground.chain }], guard := none } := by kernel_rfl
theorem from12 : (secondOps Tryd.f11.body)[12]? = some { dst := some 15, op := Go.Op.build 29 #[(0, Go.Operand.tmp 6), (1, Go.Operand.tmp 10), (2, Go.Operand.tmp 14)], type := 29, pos := "seal.go:25", after := #[{ on := 3, ground := Go.Ground.data }, { on := 7, ground := Go.Ground.data }, { on := 11, ground := Go.Ground.data }], guard := none } := by kernel_rfl
theorem from13 : (secondOps Tryd.f11.body)[13]? = some { dst := none, op := Go.Op.store 29 (Go.Operand.tmp 2) (Go.Operand.tmp 15), type := 0, pos := "seal.go:25", after := #[{ on := 12, ground := Go.Ground.data }, { on := 11, ground := Go.Ground.chain }, { on := 0, ground := Go.Ground.phase }, { on := 1, ground := Go.Ground.phase }, { on := 2, ground := Go.Ground.phase }, { on := 3, ground := Go.Ground.phase }, { on := 4, ground := Go.Ground.phase }, { on := 5, ground := Go.Ground.phase }, { on := 6, ground := Go.Ground.phase }, { on := 7, ground := Go.Ground.phase }, { on := 8, ground := Go.Ground.phase }, { on := 9, ground := Go.Ground.phase }, { on := 10, ground := Go.Ground.phase }, { on := 11, ground := Go.Ground.phase }, { on := 12, ground := Go.Ground.phase }], guard := none } := by kernel_rfl

/-- What is done: the three chains stand at s1, s2, s3. -/
def fromL (s1 s2 s3 : Nat) : Array Bool := #[decide (1 ≤ s1), decide (2 ≤ s1), true, decide (3 ≤ s1), decide (1 ≤ s2), decide (2 ≤ s2), true, decide (3 ≤ s2), decide (1 ≤ s3), decide (2 ≤ s3), true, decide (3 ≤ s3), false, false]

/-- Which operation goes on which chain, and from where. -/
def fromMay (s1 s2 s3 i : Nat) : Bool :=
  (i == 0 && s1 == 0) || (i == 1 && s1 == 1) || (i == 3 && s1 == 2) || (i == 4 && s2 == 0) || (i == 5 && s2 == 1) || (i == 7 && s2 == 2) || (i == 8 && s3 == 0) || (i == 9 && s3 == 1) || (i == 11 && s3 == 2)

theorem from_all : ((List.range 4).all fun s1 => (List.range 4).all fun s2 => (List.range 4).all fun s3 => s1 + s2 + s3 == 9 || (!(Region.ready .any (secondOps Tryd.f11.body) (fromL s1 s2 s3)).isEmpty && (Region.ready .any (secondOps Tryd.f11.body) (fromL s1 s2 s3)).all (fromMay s1 s2 s3))) = true := by kernel_rfl

theorem from_may {s1 s2 s3 : Nat} (h1 : s1 ≤ 3) (h2 : s2 ≤ 3) (h3 : s3 ≤ 3) (hs : s1 + s2 + s3 < 9) : Region.ready .any (secondOps Tryd.f11.body) (fromL s1 s2 s3) ≠ [] ∧ ∀ i ∈ Region.ready .any (secondOps Tryd.f11.body) (fromL s1 s2 s3),
    (i = 0 ∧ s1 = 0) ∨ (i = 1 ∧ s1 = 1) ∨ (i = 3 ∧ s1 = 2) ∨ (i = 4 ∧ s2 = 0) ∨ (i = 5 ∧ s2 = 1) ∨ (i = 7 ∧ s2 = 2) ∨ (i = 8 ∧ s3 = 0) ∨ (i = 9 ∧ s3 = 1) ∨ (i = 11 ∧ s3 = 2) := by
  have h := List.all_eq_true.1 (List.all_eq_true.1 (List.all_eq_true.1 from_all s1 (by simp; omega)) s2 (by simp; omega)) s3 (by simp; omega)
  have hn : (s1 + s2 + s3 == 9) = false := by simp; omega
  rw [hn, Bool.false_or, Bool.and_eq_true] at h
  refine ⟨fun e => by rw [e] at h; simp at h, fun i hi => ?_⟩
  have := List.all_eq_true.1 h.2 i hi
  simpa [fromMay, or_assoc] using this

/-- A chain: its row is laid, marked, its key is derived. -/
structure Chn (w0 w : World) (m info : List UInt8) (s : Nat) (x y z : Value) : Prop where
  one : s = 1 → ∃ (g : Nat) (f : Nat × Nat), x = .slice (some ⟨g, 0, none⟩) 7 7 ∧ w0.heap.size ≤ g ∧ w.heap[g]? = some (.cells (Se.amphora.map byteV).toArray 5 f)
  two : s = 2 → ∃ (g : Nat) (f : Nat × Nat), y = .slice (some ⟨g, 0, none⟩) 7 7 ∧ w.heap[g]? = some (.cells (Se.amphora.map byteV).toArray 5 f)
  three : s = 3 → z = digV (derived Se.amphora m info 32)

/-- Rows stay, but for their marks. -/
def Stays (w w' : World) : Prop := ∀ (g : Nat) (C : Array Value) (f : Nat × Nat), w.heap[g]? = some (.cells C 5 f) → ∃ f' : Nat × Nat, w'.heap[g]? = some (.cells C 5 f')

theorem Stays.only {w w' : World} (h : Only (fun _ => False) w w') : Stays w w' := fun _ _ f hg => ⟨f, h.keep hg (fun x => x)⟩
theorem Stays.freeze (w : World) (b k : Nat) : Stays w (w.freeze ⟨b, k, none⟩ 1) := fun g C f hg => by
  by_cases e : b = g
  · subst e
    obtain ⟨lo, hi⟩ := f
    exact ⟨_, by simp [World.freeze, Array.getElem?_modify, hg]; rfl⟩
  · exact ⟨f, by simp [World.freeze, Array.getElem?_modify, e, hg]⟩

theorem Chn.stays {w0 w w' : World} {m info : List UInt8} {s : Nat} {x y z : Value} (h : Chn w0 w m info s x y z) (hs : Stays w w') : Chn w0 w' m info s x y z := by
  refine ⟨fun e => ?_, fun e => ?_, h.three⟩
  · obtain ⟨g, f, e1, e2, e3⟩ := h.one e
    obtain ⟨f', e4⟩ := hs g _ f e3
    exact ⟨g, f', e1, e2, e4⟩
  · obtain ⟨g, f, e1, e3⟩ := h.two e
    obtain ⟨f', e4⟩ := hs g _ f e3
    exact ⟨g, f', e1, e4⟩

theorem conv_marked {W : World} {g : Nat} {C : Array Value} {f : Nat × Nat} (h : W.heap[g]? = some (.cells C 5 f)) (n c : Nat) :
    (convert 23 23 (.slice (some ⟨g, 0, none⟩) n c)).run Tryd.prog W = .ok (.slice (some ⟨g, 0, none⟩) n c) (W.freeze ⟨g, C.size, none⟩ 1) := by
  have hsh : W.shape? g = some (5, C.size) := by
    unfold World.shape?
    rw [h]
  simp [convert, run_underlying Tryd.underlying23, run_underlying Tryd.underlying5, markStringish, hsh]

theorem wpAny_as {Q : Exit → Act → World → Prop} {n : Nat} {L L' : Array Bool} {a : Act} {w : World} (h : L = L') (hh : wpAny Tryd.prog .any (secondOps Tryd.f11.body) Q n L a w) : wpAny Tryd.prog .any (secondOps Tryd.f11.body) Q n L' a w := h ▸ hh

/-- build, store and a call, each as one step of a region that draws its order. -/
theorem step_built {ops : Array Oper} {o : Oper} {a : Act} {w : World} {K : Act → World → Prop} {Q : Exit → Act → World → Prop} {E : Prop} (hw : Region.wanted o (yielded ops a.tmps) = true) (t : TypeId) (parts : Array (Nat × Operand)) (ho : o.op = .build t parts)
    (ps : List (Nat × Value)) (hps : (parts.map fun (i, x) => (i, a.eval x)).toList = ps) (cells : Array Value) (hb : Tryd.prog.built t ps = some cells) (h : K (a.put o.dst (.agg cells)) w) : if Region.wanted o (yielded ops a.tmps) = true then Oper.wp Tryd.prog o a w K Q else E := by
  rw [if_pos hw]
  refine wp_build t parts ho ?_ ?_
  · rw [hps, hb]; rfl
  · rw [hps, hb]; exact h
theorem step_store_row {ops : Array Oper} {o : Oper} {a : Act} {w : World} {K : Act → World → Prop} {Q : Exit → Act → World → Prop} {E : Prop} (hw : Region.wanted o (yielded ops a.tmps) = true) (ty : TypeId) (x y : Operand) (ho : o.op = .store ty x y)
    (g : Nat) (cells : Array Value) (hx : a.eval x = .pointer (some ⟨g, 0, none⟩)) (hy : a.eval y = .agg cells)
    (t : TypeId) (old : Array Value) (hg : w.heap[g]? = some (.cells old t (0, 0))) (hi : (Tryd.prog.info? ty).map (·.size) = some cells.size)
    (hold : old.size = cells.size) (h1 : cells.all (·.oneCell') = true) (h : K (a.put o.dst undef) (w.setRow g cells)) : if Region.wanted o (yielded ops a.tmps) = true then Oper.wp Tryd.prog o a w K Q else E := by
  rw [if_pos hw]
  exact wp_store_row ty x y ho g cells hx hy t old hg hi hold h1 h

set_option maxRecDepth 100000 in
set_option maxHeartbeats 1000000 in
theorem from_region {Q : Exit → Act → World → Prop} {w0 : World} {g1 g2 : Nat} {m : List UInt8} {mv : Value} (hm : m.length = 32) (hb : Blk w0 g1 (m.map byteV) 22) (hz : Blk w0 g2 (ocells 96 []) 29) (hf : Fst w0) (ht : Tab w0)
    (hQ : ∀ x3 x4 x6 x7 x8 x10 x11 x12 x14 x15 w, Only (fun _ => False) w0 w → Q .normal ⟨#[mv, .pointer (some ⟨g1, 0, none⟩), .pointer (some ⟨g2, 0, none⟩), x3, x4, .slice (some ⟨g1, 0, none⟩) 32 32, x6, x7, x8, .slice (some ⟨g1, 0, none⟩) 32 32, x10, x11, x12, .slice (some ⟨g1, 0, none⟩) 32 32, x14, x15], []⟩ (w.setRow g2 ((Se.keys m).map byteV).toArray)) :
    ∀ n s1 s2 s3, s1 ≤ 3 → s2 ≤ 3 → s3 ≤ 3 → s1 + s2 + s3 + n = 9 → ∀ x3 x4 x6 x7 x8 x10 x11 x12 x14 w, Only (fun _ => False) w0 w → Chn w0 w m Se.tCipher s1 x3 x4 x6 → Chn w0 w m Se.tMac s2 x7 x8 x10 → Chn w0 w m Se.tName s3 x11 x12 x14 →
      wpAny Tryd.prog .any (secondOps Tryd.f11.body) Q (n + 2) (fromL s1 s2 s3) ⟨#[mv, .pointer (some ⟨g1, 0, none⟩), .pointer (some ⟨g2, 0, none⟩), x3, x4, .slice (some ⟨g1, 0, none⟩) 32 32, x6, x7, x8, .slice (some ⟨g1, 0, none⟩) 32 32, x10, x11, x12, .slice (some ⟨g1, 0, none⟩) 32 32, x14, undef], []⟩ w := by
  intro n
  induction n with
  | zero =>
    intro s1 s2 s3 h1 h2 h3 hs x3 x4 x6 x7 x8 x10 x11 x12 x14 w ho c1 c2 c3
    obtain rfl : s1 = 3 := by omega
    obtain rfl : s2 = 3 := by omega
    obtain rfl : s3 = 3 := by omega
    obtain rfl := c1.three rfl
    obtain rfl := c2.three rfl
    obtain rfl := c3.three rfl
    have hz' : Blk w g2 (ocells 96 []) 29 := hz.keep ho (fun x => x)
    have l1 := derived_len Se.amphora m Se.tCipher 32
    have l2 := derived_len Se.amphora m Se.tMac 32
    have l3 := derived_len Se.amphora m Se.tName 32
    have hk : Se.keys m = derived Se.amphora m Se.tCipher 32 ++ derived Se.amphora m Se.tMac 32 ++ derived Se.amphora m Se.tName 32 := rfl
    have hkl := Se.keys_len m
    rw [hk] at hQ hkl
    clear hk c1 c2 c3
    generalize derived Se.amphora m Se.tCipher 32 = d1 at *
    generalize derived Se.amphora m Se.tMac 32 = d2 at *
    generalize derived Se.amphora m Se.tName 32 = d3 at *
    refine wpAny_ready (rs := [12]) (by kernel_rfl) (by simp) (AllReady.cons from12 (fun K hK => ?_) AllReady.nil)
    refine step_built (by rfl) 29 _ rfl [(0, digV d1), (1, digV d2), (2, digV d3)] (by kernel_rfl) _ (built_keys l1 l2 l3) ?_
    refine hK _ _ ?_
    refine wpAny_ready (rs := [13]) (by kernel_rfl) (by simp) (AllReady.cons from13 (fun K hK => ?_) AllReady.nil)
    refine step_store_row (by rfl) 29 (.tmp 2) (.tmp 15) rfl g2 ((d1 ++ d2 ++ d3).map byteV).toArray rfl rfl 29 (ocells 96 []).toArray hz'.heap (size_keys hkl) (by simp [ocells, l1, l2, l3]) (oneCell_bytes _) ?_
    refine hK _ _ (wpAny_done (by kernel_rfl) ?_ _)
    exact hQ _ _ _ _ _ _ _ _ _ _ w ho
  | succ n ih =>
    intro s1 s2 s3 h1 h2 h3 hs x3 x4 x6 x7 x8 x10 x11 x12 x14 w ho c1 c2 c3
    obtain ⟨hne, hmay⟩ := from_may h1 h2 h3 (by omega)
    refine ⟨fun e => absurd e hne, fun i hi => ?_⟩
    rcases hmay i hi with ⟨rfl, rfl⟩ | ⟨rfl, rfl⟩ | ⟨rfl, rfl⟩ | ⟨rfl, rfl⟩ | ⟨rfl, rfl⟩ | ⟨rfl, rfl⟩ | ⟨rfl, rfl⟩ | ⟨rfl, rfl⟩ | ⟨rfl, rfl⟩
    · refine wpOp_step from0 fun K hK => ?_
      go_simp
      refine hK _ _ (wpAny_as (by rfl) (ih 1 s2 s3 (by omega) h2 h3 (by omega) _ x4 x6 x7 x8 x10 x11 x12 x14 _ (ho.trans (Only.alloc _)) ⟨fun _ => ⟨_, _, rfl, ho.size, heap_alloc_last _ _⟩, fun e => by omega, fun e => by omega⟩ (c2.stays (Stays.only (Only.alloc _))) (c3.stays (Stays.only (Only.alloc _)))))
    · obtain ⟨g, f, rfl, hg, hh⟩ := c1.one rfl
      have hcv := conv_marked hh 7 7
      obtain ⟨f', hh'⟩ := Stays.freeze w g (Se.amphora.map byteV).toArray.size g _ f hh
      have hO : Only (fun _ => False) w0 (w.freeze ⟨g, (Se.amphora.map byteV).toArray.size, none⟩ 1) := ho.andThen (freeze_only _ _) (fun k hk e => by omega)
      refine wpOp_step from1 fun K hK => ?_
      go_simp
      refine hK _ _ (wpAny_as (by rfl) (ih 2 s2 s3 (by omega) h2 h3 (by omega) _ _ x6 x7 x8 x10 x11 x12 x14 _ hO ⟨fun e => by omega, fun _ => ⟨g, f', rfl, hh'⟩, fun e => by omega⟩ (c2.stays (Stays.freeze _ _ _)) (c3.stays (Stays.freeze _ _ _))))
    · obtain ⟨g, f, rfl, hh⟩ := c1.two rfl
      have hby : BytesAt w (fun k => k < w.heap.size) (.slice (some ⟨g, 0, none⟩) 7 7) Se.amphora := (BytesAt.of_marked (bs := Se.amphora) (c := 7) hh (by decide)).mono (fun k hk => by rw [hk]; exact lt_of_heap hh)
      have hmb : BytesAt w (fun k => k < w.heap.size) (.slice (some ⟨g1, 0, none⟩) 32 32) m := ((hb.keep ho (fun x => x)).whole hm).mono (fun _ h => h)
      have HC := Lib.hid (ederived_any Se.tCipher hby hmb (fun _ h => h) (by decide) (by omega) (by decide) (hf.only ho (fun x => x)) (ht.only ho (fun x => x)))
      refine wpOp_step from3 fun K hK => ?_
      go_simp
      refine HC.out.mono ?_
      rintro e w' ⟨rfl, ho'⟩
      refine hK _ _ (wpAny_as (by rfl) (ih 3 s2 s3 (by omega) h2 h3 (by omega) x3 _ _ x7 x8 x10 x11 x12 x14 _ (ho.trans ho') ⟨fun e => by omega, fun e => by omega, fun _ => rfl⟩ (c2.stays (Stays.only ho')) (c3.stays (Stays.only ho'))))
    · refine wpOp_step from4 fun K hK => ?_
      go_simp
      refine hK _ _ (wpAny_as (by rfl) (ih s1 1 s3 h1 (by omega) h3 (by omega) x3 x4 x6 _ x8 x10 x11 x12 x14 _ (ho.trans (Only.alloc _)) (c1.stays (Stays.only (Only.alloc _))) ⟨fun _ => ⟨_, _, rfl, ho.size, heap_alloc_last _ _⟩, fun e => by omega, fun e => by omega⟩ (c3.stays (Stays.only (Only.alloc _)))))
    · obtain ⟨g, f, rfl, hg, hh⟩ := c2.one rfl
      have hcv := conv_marked hh 7 7
      obtain ⟨f', hh'⟩ := Stays.freeze w g (Se.amphora.map byteV).toArray.size g _ f hh
      have hO : Only (fun _ => False) w0 (w.freeze ⟨g, (Se.amphora.map byteV).toArray.size, none⟩ 1) := ho.andThen (freeze_only _ _) (fun k hk e => by omega)
      refine wpOp_step from5 fun K hK => ?_
      go_simp
      refine hK _ _ (wpAny_as (by rfl) (ih s1 2 s3 h1 (by omega) h3 (by omega) x3 x4 x6 _ _ x10 x11 x12 x14 _ hO (c1.stays (Stays.freeze _ _ _)) ⟨fun e => by omega, fun _ => ⟨g, f', rfl, hh'⟩, fun e => by omega⟩ (c3.stays (Stays.freeze _ _ _))))
    · obtain ⟨g, f, rfl, hh⟩ := c2.two rfl
      have hby : BytesAt w (fun k => k < w.heap.size) (.slice (some ⟨g, 0, none⟩) 7 7) Se.amphora := (BytesAt.of_marked (bs := Se.amphora) (c := 7) hh (by decide)).mono (fun k hk => by rw [hk]; exact lt_of_heap hh)
      have hmb : BytesAt w (fun k => k < w.heap.size) (.slice (some ⟨g1, 0, none⟩) 32 32) m := ((hb.keep ho (fun x => x)).whole hm).mono (fun _ h => h)
      have HC := Lib.hid (ederived_any Se.tMac hby hmb (fun _ h => h) (by decide) (by omega) (by decide) (hf.only ho (fun x => x)) (ht.only ho (fun x => x)))
      refine wpOp_step from7 fun K hK => ?_
      go_simp
      refine HC.out.mono ?_
      rintro e w' ⟨rfl, ho'⟩
      refine hK _ _ (wpAny_as (by rfl) (ih s1 3 s3 h1 (by omega) h3 (by omega) x3 x4 x6 x7 _ _ x11 x12 x14 _ (ho.trans ho') (c1.stays (Stays.only ho')) ⟨fun e => by omega, fun e => by omega, fun _ => rfl⟩ (c3.stays (Stays.only ho'))))
    · refine wpOp_step from8 fun K hK => ?_
      go_simp
      refine hK _ _ (wpAny_as (by rfl) (ih s1 s2 1 h1 h2 (by omega) (by omega) x3 x4 x6 x7 x8 x10 _ x12 x14 _ (ho.trans (Only.alloc _)) (c1.stays (Stays.only (Only.alloc _))) (c2.stays (Stays.only (Only.alloc _))) ⟨fun _ => ⟨_, _, rfl, ho.size, heap_alloc_last _ _⟩, fun e => by omega, fun e => by omega⟩))
    · obtain ⟨g, f, rfl, hg, hh⟩ := c3.one rfl
      have hcv := conv_marked hh 7 7
      obtain ⟨f', hh'⟩ := Stays.freeze w g (Se.amphora.map byteV).toArray.size g _ f hh
      have hO : Only (fun _ => False) w0 (w.freeze ⟨g, (Se.amphora.map byteV).toArray.size, none⟩ 1) := ho.andThen (freeze_only _ _) (fun k hk e => by omega)
      refine wpOp_step from9 fun K hK => ?_
      go_simp
      refine hK _ _ (wpAny_as (by rfl) (ih s1 s2 2 h1 h2 (by omega) (by omega) x3 x4 x6 x7 x8 x10 _ _ x14 _ hO (c1.stays (Stays.freeze _ _ _)) (c2.stays (Stays.freeze _ _ _)) ⟨fun e => by omega, fun _ => ⟨g, f', rfl, hh'⟩, fun e => by omega⟩))
    · obtain ⟨g, f, rfl, hh⟩ := c3.two rfl
      have hby : BytesAt w (fun k => k < w.heap.size) (.slice (some ⟨g, 0, none⟩) 7 7) Se.amphora := (BytesAt.of_marked (bs := Se.amphora) (c := 7) hh (by decide)).mono (fun k hk => by rw [hk]; exact lt_of_heap hh)
      have hmb : BytesAt w (fun k => k < w.heap.size) (.slice (some ⟨g1, 0, none⟩) 32 32) m := ((hb.keep ho (fun x => x)).whole hm).mono (fun _ h => h)
      have HC := Lib.hid (ederived_any Se.tName hby hmb (fun _ h => h) (by decide) (by omega) (by decide) (hf.only ho (fun x => x)) (ht.only ho (fun x => x)))
      refine wpOp_step from11 fun K hK => ?_
      go_simp
      refine HC.out.mono ?_
      rintro e w' ⟨rfl, ho'⟩
      refine hK _ _ (wpAny_as (by rfl) (ih s1 s2 3 h1 h2 (by omega) (by omega) x3 x4 x6 x7 x8 x10 x11 _ _ _ (ho.trans ho') (c1.stays (Stays.only ho')) (c2.stays (Stays.only ho')) ⟨fun e => by omega, fun e => by omega, fun _ => rfl⟩))

set_option maxRecDepth 100000 in
set_option maxHeartbeats 1000000 in
theorem from_any {w : World} {m : List UInt8} (hm : m.length = 32) (hf : Fst w) (ht : Tab w) :
    Calls Tryd.prog 11 #[digV m] w fun e w' => e = .returned (digV (Se.keys m)) ∧ Only (fun _ => False) w w' := by
  obtain ⟨hzk, hzn⟩ := zero_keys
  obtain ⟨Z, hZ⟩ : ∃ Z, Z = (ocells 96 []).toArray := ⟨_, rfl⟩
  rw [← hZ] at hzk
  have hb0 : Blk (w.alloc (.cells (m.map byteV).toArray 22)) w.heap.size (m.map byteV) 22 := Blk.new _ _ _
  have hz0 : Blk ((w.alloc (.cells (m.map byteV).toArray 22)).alloc (.cells Z 29)) (w.heap.size + 1) (ocells 96 []) 29 := by
    rw [hZ]; exact Blk.new1 _ _ _ _
  have ho0 : Only (fun _ => False) w ((w.alloc (.cells (m.map byteV).toArray 22)).alloc (.cells Z 29)) := (Only.alloc _).trans (Only.alloc _)
  have HB0 := Lib.hid (hb0.alloc (.cells Z 29)); have HZ0 := Lib.hid hz0; have HO0 := Lib.hid ho0; have HF := Lib.hid (hf.only ho0 (fun x => x)); have HT := Lib.hid (ht.only ho0 (fun x => x)); have HM := Lib.hid hm
  have HKL := Lib.hid (Se.keys_len m)
  clear hm hf ht hb0 hz0 ho0 hZ
  unfold digV
  go_enter Tryd.func11, Tryd.ntmps11
  go_wp2_with fail
  refine wp_region_any (by kernel_rfl) ?_
  generalize hw0 : (w.alloc (.cells (m.map byteV).toArray 22)).alloc (.cells Z 29) = w0 at *
  change wpAny _ _ (secondOps Tryd.f11.body) _ 14 (Array.replicate 14 false) _ w0.drew
  refine wpAny_take (i := 2) (v := .slice (some ⟨w.heap.size, 0, none⟩) 32 32) from2 (by kernel_rfl) (by kernel_rfl) (by kernel_rfl) (fun _ _ _ h => h) (Or.inl ⟨by rfl, fun w => by go_simp⟩) ?_
  simp only [Act.put, List.setIfInBounds_toArray, List.set_cons_zero, List.set_cons_succ]
  refine wpAny_take (i := 6) (v := .slice (some ⟨w.heap.size, 0, none⟩) 32 32) from6 (by kernel_rfl) (by kernel_rfl) (by kernel_rfl) (fun _ _ _ h => h) (Or.inl ⟨by rfl, fun w => by go_simp⟩) ?_
  simp only [Act.put, List.setIfInBounds_toArray, List.set_cons_zero, List.set_cons_succ]
  refine wpAny_take (i := 10) (v := .slice (some ⟨w.heap.size, 0, none⟩) 32 32) from10 (by kernel_rfl) (by kernel_rfl) (by kernel_rfl) (fun _ _ _ h => h) (Or.inl ⟨by rfl, fun w => by go_simp⟩) ?_
  simp only [Act.put, List.setIfInBounds_toArray, List.set_cons_zero, List.set_cons_succ]
  refine wpAny_as (L := fromL 0 0 0) (by kernel_rfl) ?_
  have h0 : ∀ info x y z, Chn w0.drew w0.drew m info 0 x y z := fun _ _ _ _ => ⟨fun e => by omega, fun e => by omega, fun e => by omega⟩
  refine from_region HM.out HB0.out.drew HZ0.out.drew (HF.out.only Only.drew (fun x => x)) (HT.out.only Only.drew (fun x => x)) ?_ 9 0 0 0 (by omega) (by omega) (by omega) rfl _ _ _ _ _ _ _ _ _ _ (Only.refl _ _) (h0 _ _ _ _) (h0 _ _ _ _) (h0 _ _ _ _)
  intro x3 x4 x6 x7 x8 x10 x11 x12 x14 x15 w1 ho1
  have HO1 := Lib.hid ((HO0.out.trans Only.drew).trans ho1)
  have hz1 := HZ0.out.drew.keep ho1 (fun x => x)
  have hfin := hz1.row ((Se.keys m).map byteV)
  clear ho1 h0
  generalize hws : w1.setRow (w.heap.size + 1) ((Se.keys m).map byteV).toArray = ws at *
  have HOS : Hid (Only (fun _ => False) w ws) := by
    rw [← hws]; exact HO1.out.andThen (Only.setRow _ _) (fun k hk e => by omega)
  go_wp2_with fail
  exact bodyPost_ret (v := digV (Se.keys m)) (results_cell_row rfl _ _ (w.heap.size + 1) 29 _ (0, 0) _ rfl hfin Tryd.underlying29 rfl (size_keys HKL.out)) rfl ⟨rfl, HOS.out⟩

end Go.Proofs.YtgdnmbchhfbjoaaDoor

namespace Go.Proofs.YtgdnmbchhfbjoaaDoor
open Go.RowKit

/-- Few bytes. -/
structure Sml (n : Nat) : Prop where
  le : n ≤ 65536

theorem parts_blk {w : World} {g : Nat} {vs : List Value} {ps : List (List UInt8)} (hb : Blk w g vs 23) (h : ∀ i (hi : i < ps.length), ∃ u, vs[i]? = some u ∧ BytesAt w (fun k => k < w.heap.size) u ps[i]) :
    PartsAt w (fun k => k < w.heap.size) (.slice (some ⟨g, 0, none⟩) ps.length ps.length) ps := by
  refine ⟨_, _, rfl, Nat.le_refl _, fun i hi => ?_⟩
  obtain ⟨u, hu, hby⟩ := h i hi
  exact ⟨_, u, rfl, hb.lt, by rw [add_lit, Nat.zero_add, hb.cell, hu], hby⟩

theorem two_blk {w : World} {g : Nat} {v1 v2 : Value} {p1 p2 : List UInt8} (hb : Blk w g [v1, v2] 23) (h1 : BytesAt w (fun k => k < w.heap.size) v1 p1) (h2 : BytesAt w (fun k => k < w.heap.size) v2 p2) :
    PartsAt w (fun k => k < w.heap.size) (.slice (some ⟨g, 0, none⟩) 2 2) [p1, p2] := parts_blk (ps := [p1, p2]) hb (fun i hi => by
  match i, hi with
  | 0, _ => exact ⟨_, rfl, h1⟩
  | 1, _ => exact ⟨_, rfl, h2⟩)
theorem three_blk {w : World} {g : Nat} {v1 v2 v3 : Value} {p1 p2 p3 : List UInt8} (hb : Blk w g [v1, v2, v3] 23) (h1 : BytesAt w (fun k => k < w.heap.size) v1 p1) (h2 : BytesAt w (fun k => k < w.heap.size) v2 p2) (h3 : BytesAt w (fun k => k < w.heap.size) v3 p3) :
    PartsAt w (fun k => k < w.heap.size) (.slice (some ⟨g, 0, none⟩) 3 3) [p1, p2, p3] := parts_blk (ps := [p1, p2, p3]) hb (fun i hi => by
  match i, hi with
  | 0, _ => exact ⟨_, rfl, h1⟩
  | 1, _ => exact ⟨_, rfl, h2⟩
  | 2, _ => exact ⟨_, rfl, h3⟩)
theorem four_blk {w : World} {g : Nat} {v1 v2 v3 v4 : Value} {p1 p2 p3 p4 : List UInt8} (hb : Blk w g [v1, v2, v3, v4] 23) (h1 : BytesAt w (fun k => k < w.heap.size) v1 p1) (h2 : BytesAt w (fun k => k < w.heap.size) v2 p2) (h3 : BytesAt w (fun k => k < w.heap.size) v3 p3) (h4 : BytesAt w (fun k => k < w.heap.size) v4 p4) :
    PartsAt w (fun k => k < w.heap.size) (.slice (some ⟨g, 0, none⟩) 4 4) [p1, p2, p3, p4] := parts_blk (ps := [p1, p2, p3, p4]) hb (fun i hi => by
  match i, hi with
  | 0, _ => exact ⟨_, rfl, h1⟩
  | 1, _ => exact ⟨_, rfl, h2⟩
  | 2, _ => exact ⟨_, rfl, h3⟩
  | 3, _ => exact ⟨_, rfl, h4⟩)

/-- Pack, and the mac of what it packed. -/
theorem packs_any {w : World} {v : Value} {fs : List (List UInt8)} (hv : PartsAt w (fun k => k < w.heap.size) v fs) (hc : fs.length ≤ 4) (hs : Sml (tot fs)) :
    Calls Tryd.prog 39 #[v] w fun e w' => ∃ a c, e = .returned (.slice a (Wi.pack fs).length c) ∧ BytesAt w' (fun k => k < w'.heap.size) (.slice a (Wi.pack fs).length c) (Wi.pack fs) ∧ Only (fun _ => False) w w' := by
  refine (pack_any hv (fun _ h => h) ⟨by omega, by have := hs.le; omega⟩).mono ?_
  rintro e w' ⟨a, c, rfl, hr⟩
  exact ⟨a, c, rfl, hr.bytes, hr.only⟩

theorem packs_len {fs : List (List UInt8)} (hc : fs.length ≤ 4) (hs : Sml (tot fs)) : (Wi.pack fs).length ≤ 16777216 := by
  have := (Parts.packLen (fs := fs) ⟨by omega, by have := hs.le; omega⟩ fs.length)
  rwa [List.take_length] at this

theorem macs_any {w : World} {g : Nat} {vk u : Value} {key fs : List UInt8} (hb : Blk w g [u] 23) (hk : BytesAt w (fun k => k < w.heap.size) vk key) (hu : BytesAt w (fun k => k < w.heap.size) u fs) (hkl : key.length = 32) (hl : fs.length ≤ 16777216) (hf : Fst w) (ht : Tab w) :
    Calls Tryd.prog 38 #[vk, .slice (some ⟨g, 0, none⟩) 1 1] w fun e w' => e = .returned (digV (Sh.mac key fs)) ∧ Only (fun _ => False) w w' := by
  have := sMac_any hk (part_at hb hu (fun _ h => h)) (fun _ h => h) (by omega) (by simp; omega) (by simp) hf ht
  simpa using this


set_option maxRecDepth 100000 in
set_option maxHeartbeats 1000000 in
theorem tag_any {w : World} {S : Nat → Prop} {vc vb : Value} {K ctx nn body : List UInt8} {kind : UInt8} (hK : K.length = 96) (hn : nn.length = 12) (hc : BytesAt w S vc ctx) (hb : BytesAt w S vb body) (hS : ∀ k, S k → k < w.heap.size) (hl : Sml (tot [[kind], ctx, nn, body])) (hf : Fst w) (ht : Tab w) :
    Calls Tryd.prog 32 #[digV K, byteV kind, vc, digV nn, vb] w fun e w' => e = .returned (digV (Se.tag K kind ctx nn body)) ∧ Only (fun _ => False) w w' := by
  obtain ⟨ca, cc, rfl⟩ := hc.shape
  obtain ⟨ba, bc, rfl⟩ := hb.shape
  have hr0 : Blk (((w.alloc (.cells (K.map byteV).toArray 29)).alloc (.cells (nn.map byteV).toArray 64)).alloc (.cells (ocells 32 []).toArray 22)) (w.heap.size + 1 + 1) (ocells 32 []) 22 := by
    have := Blk.new1 (w.alloc (.cells (K.map byteV).toArray 29)) (.cells (nn.map byteV).toArray 64) (ocells 32 []) 22
    rwa [World.size_alloc] at this
  have hk0 := ((Blk.new w (K.map byteV) 29).alloc (.cells (nn.map byteV).toArray 64)).alloc (.cells (ocells 32 []).toArray 22)
  have hn0 := (Blk.new1 w (.cells (K.map byteV).toArray 29) (nn.map byteV) 64).alloc (.cells (ocells 32 []).toArray 22)
  have ho0 : Only (fun _ => False) w (((w.alloc (.cells (K.map byteV).toArray 29)).alloc (.cells (nn.map byteV).toArray 64)).alloc (.cells (ocells 32 []).toArray 22)) := ((Only.alloc _).trans (Only.alloc _)).trans (Only.alloc _)
  have HR0 := Lib.hid hr0; have HK0 := Lib.hid hk0; have HN0 := Lib.hid hn0; have HO0 := Lib.hid ho0; have HKL := Lib.hid hK; have HNL := Lib.hid hn; have HC := Lib.hid hc; have HB := Lib.hid hb; have HS := Lib.hid hS; have HF := Lib.hid hf; have HT := Lib.hid ht
  have HTL := Lib.hid (Se.tag_len K kind ctx nn body)
  clear hr0 hk0 hn0 ho0 hK hn hc hb hS hf ht
  unfold digV
  rw [show byteV kind = .int .u8 (kind.toNat : Int) from rfl]
  go_enter Tryd.func32, Tryd.ntmps32
  go_wp2_with fail
  refine wp_region_any (by kernel_rfl) ?_
  rw [← z32]
  change wpAny _ _ _ _ 12 (Array.replicate 12 false) _ (World.drew (((w.alloc (.cells (K.map byteV).toArray 29)).alloc (.cells (nn.map byteV).toArray 64)).alloc (.cells (ocells 32 []).toArray 22)))
  generalize ((w.alloc (.cells (K.map byteV).toArray 29)).alloc (.cells (nn.map byteV).toArray 64)).alloc (.cells (ocells 32 []).toArray 22) = w0 at *
  have HO1 : Hid (Only (fun _ => False) w w0.drew) := HO0.out.trans Only.drew
  have HR1 := Lib.hid HR0.out.drew; have HK1 := Lib.hid HK0.out.drew; have HN1 := Lib.hid HN0.out.drew
  clear HO0 HR0 HK0 HN0
  generalize w0.drew = w1 at *
  refine wpAny_take (i := 0) (v := .pointer (some ⟨w.heap.size, 32, none⟩)) rfl (by kernel_rfl) (by kernel_rfl) (by kernel_rfl) (fun _ _ _ h => h) (Or.inl ⟨by rfl, fun w => by go_simp⟩) ?_
  simp only [Act.put, List.getElem_toArray, List.getElem_cons_zero, List.setIfInBounds_toArray, List.set_cons_zero, List.set_cons_succ]
  refine wpAny_take (i := 1) (v := .slice (some ⟨w.heap.size, 32, none⟩) 32 32) rfl (by kernel_rfl) (by kernel_rfl) (by kernel_rfl) (fun _ _ _ h => h) (Or.inl ⟨by rfl, fun w => by go_simp⟩) ?_
  simp only [Act.put, List.getElem_toArray, List.getElem_cons_succ, List.getElem_cons_zero, List.setIfInBounds_toArray, List.set_cons_zero, List.set_cons_succ]
  refine wpAny_take (i := 2) (v := .int .u8 kind.toNat) rfl (by kernel_rfl) (by kernel_rfl) (by kernel_rfl) (fun _ _ _ h => h) (Or.inl ⟨by rfl, fun w => by go_simp⟩) ?_
  simp only [Act.put, List.getElem_toArray, List.getElem_cons_succ, List.getElem_cons_zero, List.setIfInBounds_toArray, List.set_cons_zero, List.set_cons_succ]
  refine wpAny_take (i := 4) (v := .slice ca ctx.length cc) rfl (by kernel_rfl) (by kernel_rfl) (by kernel_rfl) (fun _ _ _ h => h) (Or.inl ⟨by rfl, fun w => by go_simp⟩) ?_
  simp only [Act.put, List.getElem_toArray, List.getElem_cons_succ, List.getElem_cons_zero, List.setIfInBounds_toArray, List.set_cons_zero, List.set_cons_succ]
  refine wpAny_take (i := 5) (v := .slice (some ⟨w.heap.size + 1, 0, none⟩) 12 12) rfl (by kernel_rfl) (by kernel_rfl) (by kernel_rfl) (fun _ _ _ h => h) (Or.inl ⟨by rfl, fun w => by go_simp⟩) ?_
  simp only [Act.put, List.getElem_toArray, List.getElem_cons_succ, List.getElem_cons_zero, List.setIfInBounds_toArray, List.set_cons_zero, List.set_cons_succ]
  refine wpAny_take (i := 6) (v := .slice ba body.length bc) rfl (by kernel_rfl) (by kernel_rfl) (by kernel_rfl) (fun _ _ _ h => h) (Or.inl ⟨by rfl, fun w => by go_simp⟩) ?_
  simp only [Act.put, List.getElem_toArray, List.getElem_cons_succ, List.getElem_cons_zero, List.setIfInBounds_toArray, List.set_cons_zero, List.set_cons_succ]
  refine wpAny_ready (rs := [3]) (by kernel_rfl) (by simp) (AllReady.cons rfl (fun J hJ => ?_) AllReady.nil)
  go_simp
  refine hJ _ _ ?_
  clear hJ J
  refine wpAny_ready (rs := [7]) (by kernel_rfl) (by simp) (AllReady.cons rfl (fun J hJ => ?_) AllReady.nil)
  go_simp
  refine hJ _ _ ?_
  clear hJ J
  have hkb := (one_byte w1 kind).here (w' := (w1.alloc (.cells #[byteV kind] 5)).alloc (.cells #[.slice (some ⟨w1.heap.size, 0, none⟩) 1 1, .slice ca ctx.length cc, .slice (some ⟨w.heap.size + 1, 0, none⟩) 12 12, .slice ba body.length bc] 23)) (Only.alloc _) (fun k hk => by rw [hk]; simp)
  have hbl := Blk.new1 w1 (.cells #[byteV kind] 5) [.slice (some ⟨w1.heap.size, 0, none⟩) 1 1, .slice ca ctx.length cc, .slice (some ⟨w.heap.size + 1, 0, none⟩) 12 12, .slice ba body.length bc] 23
  have ho3 : Only (fun _ => False) w1 ((w1.alloc (.cells #[byteV kind] 5)).alloc (.cells #[.slice (some ⟨w1.heap.size, 0, none⟩) 1 1, .slice ca ctx.length cc, .slice (some ⟨w.heap.size + 1, 0, none⟩) 12 12, .slice ba body.length bc] 23)) := (Only.alloc _).trans (Only.alloc _)
  unfold byteV at hkb hbl ho3
  generalize (w1.alloc (.cells #[.int .u8 (kind.toNat : Int)] 5)).alloc (.cells #[.slice (some ⟨w1.heap.size, 0, none⟩) 1 1, .slice ca ctx.length cc, .slice (some ⟨w.heap.size + 1, 0, none⟩) 12 12, .slice ba body.length bc] 23) = w3 at *
  have HO3 := Lib.hid (HO1.out.trans ho3)
  have HK3 := Lib.hid (HK1.out.keep ho3 (fun x => x)); have HR3 := Lib.hid (HR1.out.keep ho3 (fun x => x))
  have HP := Lib.hid (packs_any (four_blk hbl hkb (HC.out.here HO3.out HS.out) ((HN1.out.keep ho3 (fun x => x)).whole HNL.out) (HB.out.here HO3.out HS.out)) (Nat.le_refl _) hl)
  clear hkb hbl ho3 HO1 HK1 HR1 HN1 HC HB
  refine wpAny_ready (rs := [8]) (by kernel_rfl) (by simp) (AllReady.cons rfl (fun J hJ => ?_) AllReady.nil)
  go_simp
  refine HP.out.mono ?_
  rintro e w4 ⟨pa, pc, rfl, hp4, ho4⟩
  refine hJ _ _ ?_
  clear hJ J
  refine wpAny_ready (rs := [9]) (by kernel_rfl) (by simp) (AllReady.cons rfl (fun J hJ => ?_) AllReady.nil)
  go_simp
  refine hJ _ _ ?_
  clear hJ J
  have ho5 : Only (fun _ => False) w4 (w4.alloc (.cells #[.slice pa (Wi.pack [[kind], ctx, nn, body]).length pc] 23)) := Only.alloc _
  have hb5 := Blk.new w4 [.slice pa (Wi.pack [[kind], ctx, nn, body]).length pc] 23
  have hp5 := hp4.here ho5 (fun _ h => h)
  generalize w4.alloc (.cells #[.slice pa (Wi.pack [[kind], ctx, nn, body]).length pc] 23) = w5 at *
  have HO5 := Lib.hid ((HO3.out.trans ho4).trans ho5)
  have HR5 := Lib.hid ((HR3.out.keep ho4 (fun x => x)).keep ho5 (fun x => x))
  have hk5 := ((HK3.out.keep ho4 (fun x => x)).keep ho5 (fun x => x)).part (o := 32) (n := 32) (Se.mac_len HKL.out)
  have HM := Lib.hid (macs_any hb5 hk5 hp5 (Se.mac_len HKL.out) (packs_len (Nat.le_refl _) hl) (HF.out.only HO5.out (fun x => x)) (HT.out.only HO5.out (fun x => x)))
  clear ho5 hb5 hp5 hk5 hp4 ho4 HO3 HK3 HR3 HP
  refine wpAny_ready (rs := [10]) (by kernel_rfl) (by simp) (AllReady.cons rfl (fun J hJ => ?_) AllReady.nil)
  go_simp
  refine HM.out.mono ?_
  rintro e w6 ⟨rfl, ho6⟩
  refine hJ _ _ ?_
  clear hJ J
  have HR6 := Lib.hid (HR5.out.keep ho6 (fun x => x)); have HO6 := Lib.hid (HO5.out.trans ho6)
  clear ho6 HM HR5 HO5
  rw [show Sh.mac (List.take 32 (List.drop 32 K)) (Wi.pack [[kind], ctx, nn, body]) = Se.tag K kind ctx nn body from rfl]
  refine wpAny_ready (rs := [11]) (by kernel_rfl) (by simp) (AllReady.cons rfl (fun J hJ => ?_) AllReady.nil)
  refine step_store_row (by rfl) 22 (.tmp 10) (.tmp 21) rfl (w.heap.size + 1 + 1) ((Se.tag K kind ctx nn body).map byteV).toArray rfl rfl 22 (ocells 32 []).toArray HR6.out.heap (size_a32 HTL.out) (by simp [ocells, HTL.out]) (oneCell_bytes _) ?_
  refine hJ _ _ (wpAny_done (by kernel_rfl) ?_ _)
  clear hJ J
  have hfin := HR6.out.row ((Se.tag K kind ctx nn body).map byteV)
  have HOS : Hid (Only (fun _ => False) w (w6.setRow (w.heap.size + 1 + 1) ((Se.tag K kind ctx nn body).map byteV).toArray)) := HO6.out.andThen (Only.setRow _ _) (fun k hk e => by omega)
  generalize w6.setRow (w.heap.size + 1 + 1) ((Se.tag K kind ctx nn body).map byteV).toArray = ws at *
  go_wp2_with fail
  exact bodyPost_ret (v := digV (Se.tag K kind ctx nn body)) (results_cell_row rfl _ _ (w.heap.size + 1 + 1) 22 _ (0, 0) _ rfl hfin Tryd.underlying22 rfl (size_a32 HTL.out)) rfl ⟨rfl, HOS.out⟩

end Go.Proofs.YtgdnmbchhfbjoaaDoor

namespace Go.Proofs.YtgdnmbchhfbjoaaDoor
open Go.RowKit

theorem macsP_any {w : World} {vk v : Value} {key fs : List UInt8} (hv : PartsAt w (fun k => k < w.heap.size) v [fs]) (hk : BytesAt w (fun k => k < w.heap.size) vk key) (hkl : key.length = 32) (hl : fs.length ≤ 16777216) (hf : Fst w) (ht : Tab w) :
    Calls Tryd.prog 38 #[vk, v] w fun e w' => e = .returned (digV (Sh.mac key fs)) ∧ Only (fun _ => False) w w' := by
  have := sMac_any hk hv (fun _ h => h) (by omega) (by simp; omega) (by simp) hf ht
  simpa using this

/-- How far the nonce is: the rows that are laid, the block that is new. -/
structure NonSt (w0 w : World) (ks : List UInt8) (kind : UInt8) (ctx pl : List UInt8) (p q : Nat) (x9 x13 x16 x17 x18 x19 : Value) : Prop where
  one : p = 1 → BytesAt w (fun k => k < w.heap.size) x13 [kind]
  two : p = 2 → PartsAt w (fun k => k < w.heap.size) x16 [[kind], ctx, pl]
  three : p = 3 → BytesAt w (fun k => k < w.heap.size) x17 (Wi.pack [[kind], ctx, pl])
  four : p = 4 → PartsAt w (fun k => k < w.heap.size) x18 [Wi.pack [[kind], ctx, pl]]
  five : p = 5 → x19 = digV (Sh.mac (Se.name ks) (Wi.pack [[kind], ctx, pl]))
  new : q = 1 → ∃ g, x9 = .pointer (some ⟨g, 0, none⟩) ∧ w0.heap.size ≤ g ∧ Blk w g (ocells 32 []) 22

theorem PartsAt.here {w w' : World} {v : Value} {ps : List (List UInt8)} (h : PartsAt w (fun k => k < w.heap.size) v ps) (ho : Only (fun _ => False) w w') : PartsAt w' (fun k => k < w'.heap.size) v ps :=
  h.kept (fun k hk => ho.block k hk (fun x => x)) (fun _ hk => Nat.lt_of_lt_of_le hk ho.size)

theorem NonSt.newKept {w0 w w' : World} {ks : List UInt8} {kind : UInt8} {ctx pl : List UInt8} {p q : Nat} {x9 x13 x16 x17 x18 x19 : Value} (h : NonSt w0 w ks kind ctx pl p q x9 x13 x16 x17 x18 x19) (ho : Only (fun _ => False) w w') (e : q = 1) : ∃ g, x9 = .pointer (some ⟨g, 0, none⟩) ∧ w0.heap.size ≤ g ∧ Blk w' g (ocells 32 []) 22 := by
  obtain ⟨g, e1, e2, e3⟩ := h.new e
  exact ⟨g, e1, e2, e3.keep ho (fun x => x)⟩
theorem NonSt.kept {w0 w w' : World} {ks : List UInt8} {kind : UInt8} {ctx pl : List UInt8} {p q : Nat} {x9 x13 x16 x17 x18 x19 : Value} (h : NonSt w0 w ks kind ctx pl p q x9 x13 x16 x17 x18 x19) (ho : Only (fun _ => False) w w') : NonSt w0 w' ks kind ctx pl p q x9 x13 x16 x17 x18 x19 :=
  ⟨fun e => (h.one e).here ho (fun _ h => h), fun e => (h.two e).here ho, fun e => (h.three e).here ho (fun _ h => h), fun e => (h.four e).here ho, h.five, h.newKept ho⟩

theorem non0 : (secondOps Tryd.f30.body)[0]? = some { dst := some 10, op := Go.Op.fieldAddr 29 (Go.Operand.tmp 4) 2, type := 0, pos := "seal.go:53", after := #[], guard := none } := by kernel_rfl
theorem non1 : (secondOps Tryd.f30.body)[1]? = some { dst := some 11, op := Go.Op.slice 22 (Go.Operand.tmp 10) none none none, type := 23, pos := "seal.go:53", after := #[{ on := 0, ground := Go.Ground.data }], guard := none } := by kernel_rfl
theorem non2 : (secondOps Tryd.f30.body)[2]? = some { dst := some 12, op := Go.Op.move (Go.Operand.tmp 1), type := 5, pos := "seal.go:53", after := #[], guard := none } := by kernel_rfl
theorem non3 : (secondOps Tryd.f30.body)[3]? = some { dst := some 13, op := Go.Op.buildSlice 23 1 #[(0, Go.Operand.tmp 12)], type := 23, pos := "seal.go:53", after := #[{ on := 2, ground := Go.Ground.data }], guard := none } := by kernel_rfl
theorem non4 : (secondOps Tryd.f30.body)[4]? = some { dst := some 14, op := Go.Op.move (Go.Operand.tmp 2), type := 23, pos := "seal.go:53", after := #[], guard := none } := by kernel_rfl
theorem non5 : (secondOps Tryd.f30.body)[5]? = some { dst := some 15, op := Go.Op.move (Go.Operand.tmp 3), type := 23, pos := "seal.go:53", after := #[], guard := none } := by kernel_rfl
theorem non6 : (secondOps Tryd.f30.body)[6]? = some { dst := some 16, op := Go.Op.buildSlice 61 3 #[(0, Go.Operand.tmp 13), (1, Go.Operand.tmp 14), (2, Go.Operand.tmp 15)], type := 61, pos := "seal.go:53", after := #[{ on := 3, ground := Go.Ground.data }, { on := 4, ground := Go.Ground.data }, { on := 5, ground := Go.Ground.data }], guard := none } := by kernel_rfl
theorem non7 : (secondOps Tryd.f30.body)[7]? = some { dst := some 17, op := Go.Op.call { callee := Go.Callee.value (Go.Operand.func 39), args := #[Go.Operand.tmp 16], argTypes := #[61] }, type := 23, pos := "seal.go:53", after := #[{ on := 6, ground := Go.Ground.data }], guard := none } := by kernel_rfl
theorem non8 : (secondOps Tryd.f30.body)[8]? = some { dst := some 18, op := Go.Op.buildSlice 61 1 #[(0, Go.Operand.tmp 17)], type := 61, pos := "seal.go:53", after := #[{ on := 7, ground := Go.Ground.data }], guard := none } := by kernel_rfl
theorem non9 : (secondOps Tryd.f30.body)[9]? = some { dst := some 19, op := Go.Op.call { callee := Go.Callee.value (Go.Operand.func 38), args := #[Go.Operand.tmp 11, Go.Operand.tmp 18], argTypes := #[23, 61] }, type := 22, pos := "seal.go:53", after := #[{ on := 1, ground := Go.Ground.data }, { on := 8, ground := Go.Ground.data }, { on := 7, ground := Go.Ground.chain }], guard := none } := by kernel_rfl
theorem non10 : (secondOps Tryd.f30.body)[10]? = some { dst := some 9, op := Go.Op.alloc 22, type := 0, pos := "seal.go:53", after := #[], guard := none } := by kernel_rfl
theorem non11 : (secondOps Tryd.f30.body)[11]? = some { dst := none, op := Go.Op.store 22 (Go.Operand.tmp 9) (Go.Operand.tmp 19), type := 0, pos := "seal.go:53", after := #[{ on := 10, ground := Go.Ground.data }, { on := 9, ground := Go.Ground.data }, { on := 9, ground := Go.Ground.chain }, { on := 0, ground := Go.Ground.phase }, { on := 1, ground := Go.Ground.phase }, { on := 2, ground := Go.Ground.phase }, { on := 3, ground := Go.Ground.phase }, { on := 4, ground := Go.Ground.phase }, { on := 5, ground := Go.Ground.phase }, { on := 6, ground := Go.Ground.phase }, { on := 7, ground := Go.Ground.phase }, { on := 8, ground := Go.Ground.phase }, { on := 9, ground := Go.Ground.phase }, { on := 10, ground := Go.Ground.phase }], guard := none } := by kernel_rfl

def nonL (p q : Nat) : Array Bool := #[true, true, true, decide (1 ≤ p), true, true, decide (2 ≤ p), decide (3 ≤ p), decide (4 ≤ p), decide (5 ≤ p), decide (1 ≤ q), false]
def nonMay (p q i : Nat) : Bool := (i == 3 && p == 0) || (i == 6 && p == 1) || (i == 7 && p == 2) || (i == 8 && p == 3) || (i == 9 && p == 4) || (i == 10 && q == 0)
theorem non_all : ((List.range 6).all fun p => (List.range 2).all fun q => p + q == 6 || (!(Region.ready .any (secondOps Tryd.f30.body) (nonL p q)).isEmpty && (Region.ready .any (secondOps Tryd.f30.body) (nonL p q)).all (nonMay p q))) = true := by kernel_rfl
theorem non_may {p q : Nat} (h1 : p ≤ 5) (h2 : q ≤ 1) (hs : p + q < 6) : Region.ready .any (secondOps Tryd.f30.body) (nonL p q) ≠ [] ∧ ∀ i ∈ Region.ready .any (secondOps Tryd.f30.body) (nonL p q),
    (i = 3 ∧ p = 0) ∨ (i = 6 ∧ p = 1) ∨ (i = 7 ∧ p = 2) ∨ (i = 8 ∧ p = 3) ∨ (i = 9 ∧ p = 4) ∨ (i = 10 ∧ q = 0) := by
  have h := List.all_eq_true.1 (List.all_eq_true.1 non_all p (by simp; omega)) q (by simp; omega)
  have hn : (p + q == 6) = false := by simp; omega
  rw [hn, Bool.false_or, Bool.and_eq_true] at h
  refine ⟨fun e => by rw [e] at h; simp at h, fun i hi => ?_⟩
  have := List.all_eq_true.1 h.2 i hi
  simpa [nonMay, or_assoc] using this

theorem non_as {Q : Exit → Act → World → Prop} {n : Nat} {L L' : Array Bool} {a : Act} {w : World} (h : L = L') (hh : wpAny Tryd.prog .any (secondOps Tryd.f30.body) Q n L a w) : wpAny Tryd.prog .any (secondOps Tryd.f30.body) Q n L' a w := h ▸ hh

set_option maxRecDepth 100000 in
set_option maxHeartbeats 1000000 in
theorem non_region {Q : Exit → Act → World → Prop} {w0 : World} {gK gR : Nat} {ks ctx pl : List UInt8} {kind : UInt8} {vc vp : Value} (hk : ks.length = 96) (hK : Blk w0 gK (ks.map byteV) 29) (hc : BytesAt w0 (fun k => k < w0.heap.size) vc ctx) (hp : BytesAt w0 (fun k => k < w0.heap.size) vp pl) (hl : Sml (tot [[kind], ctx, pl])) (hf : Fst w0) (ht : Tab w0)
    (hQ : ∀ x9 x13 x16 x17 x18 x19 w g, Only (fun _ => False) w0 w → w0.heap.size ≤ g → Blk w g (ocells 32 []) 22 → x9 = .pointer (some ⟨g, 0, none⟩) → Q .normal ⟨#[.agg (ks.map byteV).toArray, .int .u8 (kind.toNat : Int), vc, vp, .pointer (some ⟨gK, 0, none⟩), undef, undef, undef, .pointer (some ⟨gR, 0, none⟩), x9, .pointer (some ⟨gK, 64, none⟩), .slice (some ⟨gK, 64, none⟩) 32 32, .int .u8 (kind.toNat : Int), x13, vc, vp, x16, x17, x18, x19, undef, undef, undef], []⟩ (w.setRow g ((Sh.mac (Se.name ks) (Wi.pack [[kind], ctx, pl])).map byteV).toArray)) :
    ∀ n p q, p ≤ 5 → q ≤ 1 → p + q + n = 6 → ∀ x9 x13 x16 x17 x18 x19 w, Only (fun _ => False) w0 w → NonSt w0 w ks kind ctx pl p q x9 x13 x16 x17 x18 x19 →
      wpAny Tryd.prog .any (secondOps Tryd.f30.body) Q (n + 1) (nonL p q) ⟨#[.agg (ks.map byteV).toArray, .int .u8 (kind.toNat : Int), vc, vp, .pointer (some ⟨gK, 0, none⟩), undef, undef, undef, .pointer (some ⟨gR, 0, none⟩), x9, .pointer (some ⟨gK, 64, none⟩), .slice (some ⟨gK, 64, none⟩) 32 32, .int .u8 (kind.toNat : Int), x13, vc, vp, x16, x17, x18, x19, undef, undef, undef], []⟩ w := by
  obtain ⟨ca, cc, rfl⟩ := hc.shape
  obtain ⟨pa, pc, rfl⟩ := hp.shape
  intro n
  induction n with
  | zero =>
    intro p q h1 h2 hs x9 x13 x16 x17 x18 x19 w ho st
    obtain rfl : p = 5 := by omega
    obtain rfl : q = 1 := by omega
    obtain ⟨g, rfl, hg, hb⟩ := st.new rfl
    obtain rfl := st.five rfl
    have hml : (Sh.mac (Se.name ks) (Wi.pack [[kind], ctx, pl])).length = 32 := sum_len _
    have hQ' := hQ (.pointer (some ⟨g, 0, none⟩)) x13 x16 x17 x18 (digV (Sh.mac (Se.name ks) (Wi.pack [[kind], ctx, pl]))) w g ho hg hb rfl
    generalize Sh.mac (Se.name ks) (Wi.pack [[kind], ctx, pl]) = M at *
    refine wpAny_ready (rs := [11]) (by kernel_rfl) (by simp) (AllReady.cons non11 (fun J hJ => ?_) AllReady.nil)
    refine step_store_row (by rfl) 22 (.tmp 9) (.tmp 19) rfl g (M.map byteV).toArray rfl rfl 22 (ocells 32 []).toArray hb.heap (size_a32 hml) (by simp [ocells, hml]) (oneCell_bytes _) ?_
    exact hJ _ _ (wpAny_done (by kernel_rfl) hQ' _)
  | succ n ih =>
    intro p q h1 h2 hs x9 x13 x16 x17 x18 x19 w ho st
    obtain ⟨hne, hmay⟩ := non_may h1 h2 (by omega)
    refine ⟨fun e => absurd e hne, fun i hi => ?_⟩
    rcases hmay i hi with ⟨rfl, rfl⟩ | ⟨rfl, rfl⟩ | ⟨rfl, rfl⟩ | ⟨rfl, rfl⟩ | ⟨rfl, rfl⟩ | ⟨rfl, rfl⟩
    · refine wpOp_step non3 fun J hJ => ?_
      go_simp
      refine hJ _ _ (non_as (by rfl) (ih 1 q (by omega) h2 (by omega) x9 _ x16 x17 x18 x19 _ (ho.trans (Only.alloc _)) ?_))
      exact ⟨fun _ => (one_byte w kind).mono (fun k hk => by rw [hk]; simp), fun e => by omega, fun e => by omega, fun e => by omega, fun e => by omega, fun e => st.newKept (Only.alloc _) e⟩
    · have h13 := st.one rfl
      obtain ⟨a13, c13, rfl⟩ := h13.shape
      refine wpOp_step non6 fun J hJ => ?_
      go_simp
      refine hJ _ _ (non_as (by rfl) (ih 2 q (by omega) h2 (by omega) x9 _ _ x17 x18 x19 _ (ho.trans (Only.alloc _)) ?_))
      exact ⟨fun e => by omega, fun _ => three_blk (Blk.new w [_, _, _] 23) (h13.here (Only.alloc _) (fun _ h => h)) (hc.here (ho.trans (Only.alloc _)) (fun _ h => h)) (hp.here (ho.trans (Only.alloc _)) (fun _ h => h)), fun e => by omega, fun e => by omega, fun e => by omega, fun e => st.newKept (Only.alloc _) e⟩
    · have HP := Lib.hid (packs_any (st.two rfl) (by simp) hl)
      refine wpOp_step non7 fun J hJ => ?_
      go_simp
      refine HP.out.mono ?_
      rintro e w' ⟨a, c, rfl, hb, ho'⟩
      refine hJ _ _ (non_as (by rfl) (ih 3 q (by omega) h2 (by omega) x9 x13 x16 _ x18 x19 _ (ho.trans ho') ?_))
      exact ⟨fun e => by omega, fun e => by omega, fun _ => hb, fun e => by omega, fun e => by omega, fun e => st.newKept ho' e⟩
    · have h17 := st.three rfl
      obtain ⟨a17, c17, rfl⟩ := h17.shape
      refine wpOp_step non8 fun J hJ => ?_
      go_simp
      refine hJ _ _ (non_as (by rfl) (ih 4 q (by omega) h2 (by omega) x9 x13 x16 _ _ x19 _ (ho.trans (Only.alloc _)) ?_))
      exact ⟨fun e => by omega, fun e => by omega, fun e => by omega, fun _ => part_at (Blk.new w [_] 23) (h17.here (Only.alloc _) (fun _ h => h)) (fun _ h => h), fun e => by omega, fun e => st.newKept (Only.alloc _) e⟩
    · have hkb := (hK.keep ho (fun x => x)).part (o := 64) (n := 32) (Se.name_len hk)
      have HM := Lib.hid (macsP_any (st.four rfl) hkb (Se.name_len hk) (packs_len (by simp) hl) (hf.only ho (fun x => x)) (ht.only ho (fun x => x)))
      refine wpOp_step non9 fun J hJ => ?_
      go_simp
      refine HM.out.mono ?_
      rintro e w' ⟨rfl, ho'⟩
      refine hJ _ _ (non_as (by rfl) (ih 5 q (by omega) h2 (by omega) x9 x13 x16 x17 x18 _ _ (ho.trans ho') ?_))
      exact ⟨fun e => by omega, fun e => by omega, fun e => by omega, fun e => by omega, fun _ => rfl, fun e => st.newKept ho' e⟩
    · refine wpOp_step non10 fun J hJ => ?_
      go_simp
      rw [← z32]
      refine hJ _ _ (non_as (by rfl) (ih p 1 h1 (by omega) (by omega) _ x13 x16 x17 x18 x19 _ (ho.trans (Only.alloc _)) ?_))
      have sk := st.kept (w' := w.alloc (.cells (ocells 32 []).toArray 22)) (Only.alloc _)
      exact ⟨sk.one, sk.two, sk.three, sk.four, sk.five, fun _ => ⟨_, rfl, ho.size, Blk.new _ _ _⟩⟩

set_option maxRecDepth 100000 in
set_option maxHeartbeats 1000000 in
theorem nonce_any {w : World} {S : Nat → Prop} {vc vp : Value} {ks ctx pl : List UInt8} {kind : UInt8} (hk : ks.length = 96) (hc : BytesAt w S vc ctx) (hp : BytesAt w S vp pl) (hS : ∀ k, S k → k < w.heap.size) (hl : Sml (tot [[kind], ctx, pl])) (hf : Fst w) (ht : Tab w) :
    Calls Tryd.prog 30 #[digV ks, byteV kind, vc, vp] w fun e w' => e = .returned (digV (Se.nonce ks kind ctx pl)) ∧ Only (fun _ => False) w w' := by
  have hr0 : Blk ((w.alloc (.cells (ks.map byteV).toArray 29)).alloc (.cells (ocells 12 []).toArray 64)) (w.heap.size + 1) (ocells 12 []) 64 := Blk.new1 _ _ _ _
  have hk0 := (Blk.new w (ks.map byteV) 29).alloc (.cells (ocells 12 []).toArray 64)
  have ho0 : Only (fun _ => False) w ((w.alloc (.cells (ks.map byteV).toArray 29)).alloc (.cells (ocells 12 []).toArray 64)) := (Only.alloc _).trans (Only.alloc _)
  have HR0 := Lib.hid hr0; have HK0 := Lib.hid hk0; have HO0 := Lib.hid ho0; have HKL := Lib.hid hk; have HC := Lib.hid hc; have HP := Lib.hid hp; have HS := Lib.hid hS; have HF := Lib.hid hf; have HT := Lib.hid ht
  have HNL := Lib.hid (Se.nonce_len ks kind ctx pl)
  clear hr0 hk0 ho0 hk hc hp hS hf ht
  unfold digV
  rw [show byteV kind = .int .u8 (kind.toNat : Int) from rfl]
  go_enter Tryd.func30, Tryd.ntmps30
  go_wp2_with fail
  refine wp_region_any (by kernel_rfl) ?_
  rw [← z12]
  change wpAny _ _ (secondOps Tryd.f30.body) _ 12 (Array.replicate 12 false) _ (World.drew ((w.alloc (.cells (ks.map byteV).toArray 29)).alloc (.cells (ocells 12 []).toArray 64)))
  generalize (w.alloc (.cells (ks.map byteV).toArray 29)).alloc (.cells (ocells 12 []).toArray 64) = w0 at *
  have HO1 : Hid (Only (fun _ => False) w w0.drew) := HO0.out.trans Only.drew
  have HR1 := Lib.hid HR0.out.drew; have HK1 := Lib.hid HK0.out.drew
  clear HO0 HR0 HK0
  generalize w0.drew = w1 at *
  refine wpAny_take (i := 0) (v := .pointer (some ⟨w.heap.size, 64, none⟩)) non0 (by kernel_rfl) (by kernel_rfl) (by kernel_rfl) (fun _ _ _ h => h) (Or.inl ⟨by rfl, fun w => by go_simp⟩) ?_
  simp only [Act.put, List.setIfInBounds_toArray, List.set_cons_zero, List.set_cons_succ]
  refine wpAny_take (i := 1) (v := .slice (some ⟨w.heap.size, 64, none⟩) 32 32) non1 (by kernel_rfl) (by kernel_rfl) (by kernel_rfl) (fun _ _ _ h => h) (Or.inl ⟨by rfl, fun w => by go_simp⟩) ?_
  simp only [Act.put, List.setIfInBounds_toArray, List.set_cons_zero, List.set_cons_succ]
  refine wpAny_take (i := 2) (v := .int .u8 kind.toNat) non2 (by kernel_rfl) (by kernel_rfl) (by kernel_rfl) (fun _ _ _ h => h) (Or.inl ⟨by rfl, fun w => by go_simp⟩) ?_
  simp only [Act.put, List.setIfInBounds_toArray, List.set_cons_zero, List.set_cons_succ]
  refine wpAny_take (i := 4) (v := vc) non4 (by kernel_rfl) (by kernel_rfl) (by kernel_rfl) (fun _ _ _ h => h) (Or.inl ⟨by rfl, fun w => by go_simp⟩) ?_
  simp only [Act.put, List.setIfInBounds_toArray, List.set_cons_zero, List.set_cons_succ]
  refine wpAny_take (i := 5) (v := vp) non5 (by kernel_rfl) (by kernel_rfl) (by kernel_rfl) (fun _ _ _ h => h) (Or.inl ⟨by rfl, fun w => by go_simp⟩) ?_
  simp only [Act.put, List.setIfInBounds_toArray, List.set_cons_zero, List.set_cons_succ]
  refine non_as (L := nonL 0 0) (by kernel_rfl) ?_
  refine non_region HKL.out HK1.out (HC.out.here HO1.out HS.out) (HP.out.here HO1.out HS.out) hl (HF.out.only HO1.out (fun x => x)) (HT.out.only HO1.out (fun x => x)) ?_ 6 0 0 (by omega) (by omega) rfl _ _ _ _ _ _ _ (Only.refl _ _) ⟨fun e => by omega, fun e => by omega, fun e => by omega, fun e => by omega, fun e => by omega, fun e => by omega⟩
  intro x9 x13 x16 x17 x18 x19 w2 g ho2 hg hb2 hx9
  subst hx9
  have hb3 := hb2.row ((Sh.mac (Se.name ks) (Wi.pack [[kind], ctx, pl])).map byteV)
  have ho3 : Only (fun k => k = g) w2 (w2.setRow g ((Sh.mac (Se.name ks) (Wi.pack [[kind], ctx, pl])).map byteV).toArray) := Only.setRow _ _
  have hml : (Sh.mac (Se.name ks) (Wi.pack [[kind], ctx, pl])).length = 32 := sum_len _
  have hz1 := HO1.out.size
  have hr1lt := HR1.out.lt
  have HR3 := Lib.hid ((HR1.out.keep ho2 (fun x => x)).keep ho3 (by omega))
  have HO3 : Hid (Only (fun _ => False) w (w2.setRow g ((Sh.mac (Se.name ks) (Wi.pack [[kind], ctx, pl])).map byteV).toArray)) := (HO1.out.trans ho2).andThen ho3 (fun k hk e => by omega)
  have hnd : Se.nonce ks kind ctx pl = ((Sh.mac (Se.name ks) (Wi.pack [[kind], ctx, pl])).drop 0).take 12 := rfl
  have HRG := Lib.hid (hb3.mid (o := 0) (n := 12))
  rw [← hnd] at HRG
  generalize w2.setRow g ((Sh.mac (Se.name ks) (Wi.pack [[kind], ctx, pl])).map byteV).toArray = w3 at *
  have hsl : ∀ W, (Instr.sliceAt 22 (.pointer (some ⟨g, 0, none⟩)) none (some (.int .i64 12)) none).run Tryd.prog W = .ok (.slice (some ⟨g, 0, none⟩) 12 32) W := fun W => slice_32_h g 12 (by decide) W
  have hpt := ptr_12 (some ⟨g, 0, none⟩) 12 32 (by decide)
  clear hb2 hb3 ho2 ho3 hml hnd hz1 hr1lt hg HR1 HK1 HO1 HC HP HS HF HT
  generalize hN : Se.nonce ks kind ctx pl = N at *
  go_wp2_with (first
    | (refine wpList_load_mid rfl 64 (.tmp 21) rfl g 0 rfl (N.map byteV) _ HRG.out Tryd.underlying64 rfl (by simpa using size_a12 HNL.out) ?_)
    | (refine wpList_store_row rfl 64 (.tmp 8) (.tmp 22) rfl (w.heap.size + 1) (N.map byteV).toArray rfl rfl 64 (ocells 12 []).toArray HR3.out.heap (size_a12 HNL.out) (by simp [ocells, HNL.out]) (oneCell_bytes _) ?_))
  have hfin := HR3.out.row (N.map byteV)
  exact bodyPost_ret (v := digV N) (results_cell_row rfl _ _ (w.heap.size + 1) 64 _ (0, 0) _ rfl hfin Tryd.underlying64 rfl (size_a12 HNL.out)) rfl ⟨by rw [hN]; rfl, HO3.out.andThen (Only.setRow _ _) (fun k hk e => by omega)⟩

end Go.Proofs.YtgdnmbchhfbjoaaDoor

namespace Go.Proofs.YtgdnmbchhfbjoaaDoor
open Go.RowKit

/-- A context and a row of few bytes. -/
structure Lil (ctx pl : List UInt8) : Prop where
  le : ctx.length + pl.length ≤ 32768

theorem Lil.nonce {ctx pl : List UInt8} (h : Lil ctx pl) (kind : UInt8) : Sml (tot [[kind], ctx, pl]) := ⟨by have := h.le; simp [tot]; omega⟩
theorem Lil.tag {ctx pl nn body : List UInt8} (h : Lil ctx pl) (kind : UInt8) (hn : nn.length = 12) (hb : body.length = pl.length) : Sml (tot [[kind], ctx, nn, body]) := ⟨by have := h.le; simp [tot, hn, hb]; omega⟩
theorem Lil.few {ctx pl : List UInt8} (h : Lil ctx pl) : Few pl.length := ⟨by have := h.le; omega⟩
theorem Lil.within {ctx pl : List UInt8} (h : Lil ctx pl) : Within 0 pl.length := ⟨by omega, by have := h.le; omega⟩

theorem Row.under {w w1 w2 : World} {v : Value} {bs : List UInt8} (ho : Only (fun _ => False) w w1) (h : Row w1 w2 v bs) : Row w w2 v bs :=
  ⟨h.row, fun q hq => Nat.le_trans ho.size (h.own q hq), ho.trans h.only⟩

/-- chacha.XOR from the first byte on. -/
theorem xor0_any {w : World} {key nn : List UInt8} (hk : key.length = 32) (hn : nn.length = 12) {v : Value} {bs : List UInt8} (hv : BytesAt w (fun k => k < w.heap.size) v bs) (hlen : Few bs.length) :
    Calls Tryd.prog 31 #[digV key, digV nn, .int .i64 0, v] w fun e w' => ∃ a c, e = .returned (.tuple #[.slice a bs.length c, .nilIface]) ∧ Row w w' (.slice a bs.length c) (Ch.xor key nn 0 bs) := by
  have hl : (Ch.xor key nn 0 bs).length = bs.length := by simp [Ch.xor]
  refine (cXOR_any hk hn (at' := 0) hv (fun _ h => h) hlen).mono ?_
  rintro e w' (⟨_, u, rfl, hr, hg, ho⟩ | ⟨hn, _⟩)
  · obtain ⟨a, c, rfl⟩ := row_shape hr
    exact ⟨a, c, rfl, ⟨by rw [hl]; exact hr, hg, ho⟩⟩
  · exact (hn ⟨by omega, by have := hlen.le; omega⟩).elim

set_option maxRecDepth 100000 in
set_option maxHeartbeats 1000000 in
theorem seal_any {w : World} {S : Nat → Prop} {vc vp : Value} {ks ctx pl : List UInt8} {kind : UInt8} (hk : ks.length = 96) (hc : BytesAt w S vc ctx) (hp : BytesAt w S vp pl) (hS : ∀ k, S k → k < w.heap.size) (hl : Lil ctx pl) (hf : Fst w) (ht : Tab w) :
    Calls Tryd.prog 14 #[digV ks, byteV kind, vc, vp] w fun e w' => ∃ a c, e = .returned (.slice a (Se.blob ks kind ctx pl).length c) ∧ Row w w' (.slice a (Se.blob ks kind ctx pl).length c) (Se.blob ks kind ctx pl) := by
  obtain ⟨ca, cc, rfl⟩ := hc.shape
  obtain ⟨pa, pc, rfl⟩ := hp.shape
  have ho1 : Only (fun _ => False) w (w.alloc (.cells (ks.map byteV).toArray 29)) := Only.alloc _
  have hb1 := Blk.new w (ks.map byteV) 29
  have HN := Lib.hid (nonce_any (kind := kind) hk (hc.here ho1 hS) (hp.here ho1 hS) (fun _ h => h) (hl.nonce kind) (hf.only ho1 (fun x => x)) (ht.only ho1 (fun x => x)))
  generalize hw1 : w.alloc (.cells (ks.map byteV).toArray 29) = w1 at *
  have HB1 := Lib.hid hb1; have HO1 := Lib.hid ho1; have HKL := Lib.hid hk; have HC := Lib.hid hc; have HP := Lib.hid hp; have HS := Lib.hid hS; have HF := Lib.hid hf; have HT := Lib.hid ht
  have HNL := Lib.hid (Se.nonce_len ks kind ctx pl)
  clear ho1 hb1 hk hc hp hS hf ht
  unfold digV
  rw [show byteV kind = .int .u8 (kind.toNat : Int) from rfl]
  go_enter Tryd.func14, Tryd.ntmps14
  go_wp2_with (refine wpList_load_row rfl 29 (.tmp 4) rfl w.heap.size rfl 29 (ks.map byteV).toArray (0, 0) _ HB1.out.heap Tryd.underlying29 rfl (size_keys HKL.out) ?_)
  refine HN.out.mono ?_
  rintro e w2 ⟨rfl, ho2⟩
  have ho3 : Only (fun _ => False) w2 (w2.alloc (.cells ((Se.nonce ks kind ctx pl).map byteV).toArray 64)) := Only.alloc _
  have hb3 := Blk.new w2 ((Se.nonce ks kind ctx pl).map byteV) 64
  have HK3 := Lib.hid ((HB1.out.keep ho2 (fun x => x)).keep ho3 (fun x => x)); have HO3 := Lib.hid ((HO1.out.trans ho2).trans ho3); have HB3 := Lib.hid hb3
  have HX := Lib.hid (xor0_any (Se.cipher_len HKL.out) HNL.out (HP.out.here HO3.out HS.out) hl.few)
  have HCI := Lib.hid (HK3.out.mid (o := 0) (n := 32))
  clear ho2 ho3 hb3 HN HB1 HO1 hw1
  go_wp2_with (first
    | (refine wpList_store_row rfl 64 (.tmp 9) (.tmp 17) rfl w2.heap.size ((Se.nonce ks kind ctx pl).map byteV).toArray rfl rfl 64 (ocells 12 []).toArray (heap_alloc_last _ _) (size_a12 HNL.out) (by simp [ocells, HNL.out]) (oneCell_bytes _) ?_; rw [World.setRow_alloc_new];
       generalize w2.alloc (.cells ((Se.nonce ks kind ctx pl).map byteV).toArray 64) = w3 at *)
    | (refine wpList_load_mid rfl 22 (.tmp 19) rfl w.heap.size 0 rfl ((Se.cipher ks).map byteV) _ HCI.out Tryd.underlying22 rfl (by simpa using size_a32 (Se.cipher_len HKL.out)) ?_)
    | (refine wpList_load_row rfl 64 (.tmp 9) rfl w2.heap.size rfl 64 ((Se.nonce ks kind ctx pl).map byteV).toArray (0, 0) _ HB3.out.heap Tryd.underlying64 rfl (size_a12 HNL.out) ?_))
  refine HX.out.mono ?_
  rintro e w4 ⟨ba, bc, rfl, hr4⟩
  have HR4 := Lib.hid hr4
  have HO4 := Lib.hid (HO3.out.trans hr4.only); have HK4 := Lib.hid (HK3.out.keep hr4.only (fun x => x)); have HB4 := Lib.hid (HB3.out.keep hr4.only (fun x => x))
  have hbl : (Se.body ks (Se.nonce ks kind ctx pl) pl).length = pl.length := Ch.xor_length _ _ _ _
  have hby : BytesAt w4 (fun k => k < w4.heap.size) (.slice ba pl.length bc) (Se.body ks (Se.nonce ks kind ctx pl) pl) := hr4.bytes
  have HT4 := Lib.hid (tag_any (kind := kind) HKL.out HNL.out (HC.out.here HO4.out HS.out) hby (fun _ h => h) (hl.tag kind HNL.out hbl) (HF.out.only HO4.out (fun x => x)) (HT.out.only HO4.out (fun x => x)))
  have HBL := Lib.hid hbl; have HBY := Lib.hid hby
  clear hr4 hbl hby HX HCI HK3 HO3 HB3 HR4
  go_wp2_with (first
    | (refine wpList_load_row rfl 29 (.tmp 4) rfl w.heap.size rfl 29 (ks.map byteV).toArray (0, 0) _ HK4.out.heap Tryd.underlying29 rfl (size_keys HKL.out) ?_)
    | (refine wpList_load_row rfl 64 (.tmp 9) rfl w2.heap.size rfl 64 ((Se.nonce ks kind ctx pl).map byteV).toArray (0, 0) _ HB4.out.heap Tryd.underlying64 rfl (size_a12 HNL.out) ?_))
  refine HT4.out.mono ?_
  rintro e w5 ⟨rfl, ho5⟩
  generalize hN : Se.nonce ks kind ctx pl = N at *
  generalize hBo : Se.body ks N pl = Bo at *
  have HTL := Lib.hid (Se.tag_len ks kind ctx N Bo)
  generalize hTa : Se.tag ks kind ctx N Bo = Ta at *
  have ho6 : Only (fun _ => False) w5 (w5.alloc (.cells (Ta.map byteV).toArray 22)) := Only.alloc _
  have hb6 := Blk.new w5 (Ta.map byteV) 22
  have HO6 := Lib.hid ((HO4.out.trans ho5).trans ho6); have HB6 := Lib.hid hb6; have HN6 := Lib.hid ((HB4.out.keep ho5 (fun x => x)).keep ho6 (fun x => x))
  have HBY6 := Lib.hid (HBY.out.here (ho5.trans ho6) (fun _ h => h))
  clear ho5 ho6 hb6 HT4 HK4 HB4 HO4 HBY
  go_wp2_with (refine wpList_store_row rfl 22 (.tmp 12) (.tmp 33) rfl w5.heap.size (Ta.map byteV).toArray rfl rfl 22 (ocells 32 []).toArray (heap_alloc_last _ _) (size_a32 HTL.out) (by simp [ocells, HTL.out]) (oneCell_bytes _) ?_; rw [World.setRow_alloc_new]; generalize w5.alloc (.cells (Ta.map byteV).toArray 22) = w6 at *)
  refine wp_region_any (by kernel_rfl) ?_
  change wpAny _ _ _ _ 8 (Array.replicate 8 false) _ w6.drew
  have HO7 := Lib.hid (HO6.out.trans Only.drew); have HB7 := Lib.hid HB6.out.drew; have HN7 := Lib.hid HN6.out.drew; have HBY7 := Lib.hid (HBY6.out.here Only.drew (fun _ h => h))
  clear HO6 HB6 HN6 HBY6
  generalize w6.drew = w7 at *
  refine wpAny_take (i := 0) (v := .int .u8 kind.toNat) rfl (by kernel_rfl) (by kernel_rfl) (by kernel_rfl) (fun _ _ _ h => h) (Or.inl ⟨by rfl, fun w => by go_simp⟩) ?_
  simp only [Act.put, List.getElem_toArray, List.getElem_cons_zero, List.setIfInBounds_toArray, List.set_cons_zero, List.set_cons_succ]
  refine wpAny_take (i := 2) (v := .slice (some ⟨w2.heap.size, 0, none⟩) 12 12) rfl (by kernel_rfl) (by kernel_rfl) (by kernel_rfl) (fun _ _ _ h => h) (Or.inl ⟨by rfl, fun w => by go_simp⟩) ?_
  simp only [Act.put, List.getElem_toArray, List.getElem_cons_succ, List.getElem_cons_zero, List.setIfInBounds_toArray, List.set_cons_zero, List.set_cons_succ]
  refine wpAny_take (i := 3) (v := .slice ba pl.length bc) rfl (by kernel_rfl) (by kernel_rfl) (by kernel_rfl) (fun _ _ _ h => h) (Or.inl ⟨by rfl, fun w => by go_simp⟩) ?_
  simp only [Act.put, List.getElem_toArray, List.getElem_cons_succ, List.getElem_cons_zero, List.setIfInBounds_toArray, List.set_cons_zero, List.set_cons_succ]
  refine wpAny_take (i := 4) (v := .slice (some ⟨w5.heap.size, 0, none⟩) 32 32) rfl (by kernel_rfl) (by kernel_rfl) (by kernel_rfl) (fun _ _ _ h => h) (Or.inl ⟨by rfl, fun w => by go_simp⟩) ?_
  simp only [Act.put, List.getElem_toArray, List.getElem_cons_succ, List.getElem_cons_zero, List.setIfInBounds_toArray, List.set_cons_zero, List.set_cons_succ]
  refine wpAny_ready (rs := [1]) (by kernel_rfl) (by simp) (AllReady.cons rfl (fun J hJ => ?_) AllReady.nil)
  go_simp
  refine hJ _ _ ?_
  clear hJ J
  refine wpAny_ready (rs := [5]) (by kernel_rfl) (by simp) (AllReady.cons rfl (fun J hJ => ?_) AllReady.nil)
  go_simp
  refine hJ _ _ ?_
  clear hJ J
  have hkb := (one_byte w7 kind).here (w' := (w7.alloc (.cells #[byteV kind] 5)).alloc (.cells #[.slice (some ⟨w7.heap.size, 0, none⟩) 1 1, .slice (some ⟨w2.heap.size, 0, none⟩) 12 12, .slice ba pl.length bc, .slice (some ⟨w5.heap.size, 0, none⟩) 32 32] 23)) (Only.alloc _) (fun k hk => by rw [hk]; simp)
  have hbl := Blk.new1 w7 (.cells #[byteV kind] 5) [.slice (some ⟨w7.heap.size, 0, none⟩) 1 1, .slice (some ⟨w2.heap.size, 0, none⟩) 12 12, .slice ba pl.length bc, .slice (some ⟨w5.heap.size, 0, none⟩) 32 32] 23
  have ho8 : Only (fun _ => False) w7 ((w7.alloc (.cells #[byteV kind] 5)).alloc (.cells #[.slice (some ⟨w7.heap.size, 0, none⟩) 1 1, .slice (some ⟨w2.heap.size, 0, none⟩) 12 12, .slice ba pl.length bc, .slice (some ⟨w5.heap.size, 0, none⟩) 32 32] 23)) := (Only.alloc _).trans (Only.alloc _)
  unfold byteV at hkb hbl ho8
  generalize (w7.alloc (.cells #[.int .u8 (kind.toNat : Int)] 5)).alloc (.cells #[.slice (some ⟨w7.heap.size, 0, none⟩) 1 1, .slice (some ⟨w2.heap.size, 0, none⟩) 12 12, .slice ba pl.length bc, .slice (some ⟨w5.heap.size, 0, none⟩) 32 32] 23) = w8 at *
  have HO8 := Lib.hid (HO7.out.trans ho8)
  have hfe : Few8 [[kind], N, Bo, Ta] := ⟨by have := hl.le; have := HNL.out; have := HBL.out; have := HTL.out; simp [tot]; omega, by simp⟩
  have HCC := Lib.hid (concat_any (four_blk hbl hkb ((HN7.out.keep ho8 (fun x => x)).whole HNL.out) (HBY7.out.here ho8 (fun _ h => h)) ((HB7.out.keep ho8 (fun x => x)).whole HTL.out)) (fun _ h => h) hfe)
  clear hkb hbl ho8 hfe HO7 HB7 HN7 HBY7
  refine wpAny_ready (rs := [6]) (by kernel_rfl) (by simp) (AllReady.cons rfl (fun J hJ => ?_) AllReady.nil)
  go_simp
  refine HCC.out.mono ?_
  rintro e w9 ⟨ra, rc, rfl, hr9⟩
  refine hJ _ _ ?_
  clear hJ J
  have HR9 := Lib.hid (Row.under HO8.out hr9)
  clear hr9 HCC
  have hblob : Se.blob ks kind ctx pl = [[kind], N, Bo, Ta].flatten := by
    unfold Se.blob; rw [hN, hBo, hTa]
  have HBB := Lib.hid hblob
  clear hblob
  generalize [[kind], N, Bo, Ta].flatten = R at *
  refine wpAny_take (i := 7) (v := .slice ra R.length rc) rfl (by kernel_rfl) (by kernel_rfl) (by kernel_rfl) (fun _ _ _ h => h) (Or.inl ⟨by rfl, fun w => by go_simp⟩) ?_
  simp only [Act.put, List.getElem_toArray, List.getElem_cons_succ, List.getElem_cons_zero, List.setIfInBounds_toArray, List.set_cons_zero, List.set_cons_succ]
  refine wpAny_done (by kernel_rfl) ?_ _
  go_wp2_with fail
  go_ret
  rw [HBB.out]
  exact ⟨ra, rc, rfl, HR9.out⟩

end Go.Proofs.YtgdnmbchhfbjoaaDoor

namespace Go.Proofs.YtgdnmbchhfbjoaaDoor
open Go.RowKit

/-- A piece of a row. -/
theorem piece_at {w : World} {S : Nat → Prop} {a : Option Addr} {c : Nat} {bs : List UInt8} (h : BytesAt w S (.slice a bs.length c) bs) {i j : Nat} (hij : i ≤ j) (hj : j ≤ bs.length) :
    ∃ u, (∀ w1 : World, (Instr.slice 23 (.slice a bs.length c) (some (.int .i64 (i : Int))) (some (.int .i64 (j : Int))) none).run Tryd.prog w1 = .ok u w1) ∧ BytesAt w S u ((bs.drop i).take (j - i)) := by
  have hlen : ((bs.drop i).take (j - i)).length = j - i := by simp; omega
  rcases h with ⟨e, rfl⟩ | ⟨ad, c', e, hc, hs, hcell⟩
  · obtain ⟨rfl, _, rfl⟩ := Value.slice.inj e
    have hj0 : j = 0 := by simpa using hj
    subst hj0
    have hi0 : i = 0 := by omega
    subst hi0
    refine ⟨.slice none 0 0, fun w1 => ?_, .inl ⟨rfl, by simp⟩⟩
    rw [run_slice_lh (ht := by kernel_rfl) (h0 := by omega) (h1 := by omega) (h2 := by simp)]
    have hsz : (sizeOf (Tryd.prog.elem 23)).run Tryd.prog w1 = .ok 1 w1 := by kernel_rfl
    rw [hsz]
    simp [Result.andThen, sliced]
  · obtain ⟨rfl, _, rfl⟩ := Value.slice.inj e
    refine ⟨.slice (some (if c = i then ad else ad.add i)) (j - i) (c - i), fun w1 => ?_, .inr ⟨_, c - i, by rw [hlen], by omega, fun hne => ?_, fun t x hx => ?_⟩⟩
    · rw [run_slice_lh (ht := by kernel_rfl) (h0 := by omega) (h1 := by omega) (h2 := by omega)]
      have hsz : (sizeOf (Tryd.prog.elem 23)).run Tryd.prog w1 = .ok 1 w1 := by kernel_rfl
      rw [hsz]
      by_cases e : c = i
      · simp [Result.andThen, sliced, e]
      · simp [Result.andThen, sliced, e]
    · have hb : (if c = i then ad else ad.add i).block = ad.block := by
        split
        · rfl
        · exact add_block _ _
      rw [hb]
      exact hs (by rintro rfl; simp at hne)
    · have ht : t < j - i := by
        have := (List.getElem?_eq_some_iff.1 hx).1
        omega
      rw [List.getElem?_take_of_lt ht, List.getElem?_drop] at hx
      rw [if_neg (by omega), add_add]
      exact hcell _ x hx


/-- What Open answers. -/
def Opens (w : World) (ks : List UInt8) (kind : UInt8) (ctx b : List UInt8) (e : Ending) (w' : World) : Prop :=
  (Se.Takes ks kind ctx b ∧ ∃ a c, e = .returned (.tuple #[.slice a (Se.plain ks b).length c, .nilIface]) ∧ Row w w' (.slice a (Se.plain ks b).length c) (Se.plain ks b)) ∨
  (¬ Se.Takes ks kind ctx b ∧ e = .returned (.tuple #[.slice none 0 0, .iface 45 (.int .i64 10)]) ∧ Only (fun _ => False) w w')

theorem u8_eq {x y : UInt8} (h : (x.toNat : Int) = (y.toNat : Int)) : x = y := UInt8.toNat_inj.1 (by omega)

set_option maxRecDepth 100000 in
set_option maxHeartbeats 1000000 in
theorem open_any {w : World} {S : Nat → Prop} {vc vb : Value} {ks ctx b : List UInt8} {kind : UInt8} (hk : ks.length = 96) (hc : BytesAt w S vc ctx) (hb : BytesAt w S vb b) (hS : ∀ k, S k → k < w.heap.size) (hl : Lil ctx b) (hf : Fst w) (ht : Tab w) :
    Calls Tryd.prog 20 #[digV ks, byteV kind, vc, vb] w (Opens w ks kind ctx b) := by
  obtain ⟨ca, cc, rfl⟩ := hc.shape
  obtain ⟨va, vd, rfl⟩ := hb.shape
  have ho1 : Only (fun _ => False) w (w.alloc (.cells (ks.map byteV).toArray 29)) := Only.alloc _
  have hb1 := Blk.new w (ks.map byteV) 29
  have HO1 := Lib.hid ho1; have HB1 := Lib.hid hb1; have HKL := Lib.hid hk; have HC := Lib.hid hc; have HB := Lib.hid hb; have HS := Lib.hid hS; have HF := Lib.hid hf; have HT := Lib.hid ht
  by_cases hlen : b.length < 45
  · have hlt : (b.length : Int) < 45 := by omega
    have HN : Hid (¬ Se.Takes ks kind ctx b) := fun h => by have := h.1; omega
    clear ho1 hb1 hk hc hb hS hf ht hlen
    unfold digV
    rw [show byteV kind = .int .u8 (kind.toNat : Int) from rfl]
    go_enter Tryd.func20, Tryd.ntmps20
    go_wp2
    go_ret2
    exact .inr ⟨HN.out, rfl, HO1.out⟩
  · have hlt : ¬ (b.length : Int) < 45 := by omega
    obtain ⟨ad, rfl, hcell⟩ := hb.byte (i := 0) (by omega)
    obtain ⟨x, hx⟩ : ∃ x, b[0]? = some x := ⟨_, List.getElem?_eq_getElem (by omega)⟩
    rw [show b.getD 0 0 = x by simp [List.getD, hx]] at hcell
    have hcell1 : (w.alloc (.cells (ks.map byteV).toArray 29)).cell? (ad.add 0) = some (.int .u8 (x.toNat : Int)) := by
      rw [World.cell?_of_block (w := w) (by rw [add_block]; exact ho1.block _ (by have := lt_of_cell hcell; rwa [add_block] at this) (fun x => x))]; exact hcell
    rw [show ad.add 0 = ad from rfl] at hcell1
    by_cases hb0 : x = kind
    · subst hb0
      obtain ⟨g1, o1, hs1, hr1, hg1⟩ := mid_at hb (i := 1) (j := 13) (by omega) (by omega) (by omega)
      obtain ⟨u, hs2, hu⟩ := piece_at hb (i := 13) (j := b.length - 32) (by omega) (by omega)
      obtain ⟨g3, o3, hs3, hr3, hg3, hc3⟩ := tail_at hb (i := b.length - 32) (by omega) (by omega)
      have e32 : ((b.length - 32 : Nat) : Int) = (b.length : Int) - 32 := by omega
      rw [e32] at hs2 hs3
      have e33 : b.length - (b.length - 32) = 32 := by omega
      rw [e33] at hs3 hc3
      have hwr : wrap64 ((b.length : Int) - 32) = (b.length : Int) - 32 := by unfold wrap64; have := hl.le; omega
      have hs1' : ∀ W : World, (Instr.slice 23 (.slice (some ad) b.length vd) (some (.int .i64 1)) (some (.int .i64 13)) none).run Tryd.prog W = .ok (.slice (some ⟨g1, o1, none⟩) 12 (vd - 1)) W := hs1
      have hs2' : ∀ W : World, (Instr.slice 23 (.slice (some ad) b.length vd) (some (.int .i64 13)) (some (.int .i64 ((b.length : Int) - 32))) none).run Tryd.prog W = .ok u W := hs2
      have hpt := ptr_12 (some ⟨g1, o1, none⟩) 12 (vd - 1) (by decide)
      have hnl : (Se.nonceIn b).length = 12 := by unfold Se.nonceIn; simp; omega
      have hbl : (Se.bodyIn b).length = b.length - 45 := by unfold Se.bodyIn; simp; omega
      have htl : (Se.tagIn b).length = 32 := by unfold Se.tagIn; simp; omega
      have hu' : BytesAt w S u (Se.bodyIn b) := hu
      have hr1' : w.rangeAt g1 o1 ((Se.nonceIn b).map byteV) := hr1
      have hr3' : w.rangeAt g3 o3 ((Se.tagIn b).map byteV) := hr3
      have htake : Se.Takes ks x ctx b ↔ Se.tag ks x ctx (Se.nonceIn b) (Se.bodyIn b) = Se.tagIn b := ⟨fun h => h.2.2, fun h => ⟨by omega, hx, h⟩⟩
      have HTK := Lib.hid htake; have HNL := Lib.hid hnl; have HBL := Lib.hid hbl; have HTL := Lib.hid htl; have HU := Lib.hid hu'; have HR3 := Lib.hid hr3'; have HC3 := Lib.hid hc3
      have HRG := Lib.hid (rangeAt_here hr1' ho1 (HS.out _ hg1)); have HG3 := Lib.hid (HS.out _ hg3)
      have HPL : Hid (Se.plain ks b = Ch.xor (Se.cipher ks) (Se.nonceIn b) 0 (Se.bodyIn b)) := rfl
      have HSM : Hid (Sml (tot [[x], ctx, Se.nonceIn b, Se.bodyIn b])) := ⟨by have := hl.le; simp [tot, hnl, hbl]; omega⟩
      have HFW : Hid (Few (Se.bodyIn b).length) := ⟨by have := hl.le; omega⟩
      obtain ⟨ua, uc, rfl⟩ := hu'.shape
      clear ho1 hb1 hk hc hb hS hf ht hlen hcell hx hs1 hr1 hg1 hs2 hu hr3 hg3 hc3 e32 e33 hnl hbl htl hu' hr1' hr3' htake HB
      generalize hNi : Se.nonceIn b = N at *
      generalize hBi : Se.bodyIn b = Bo at *
      generalize hTi : Se.tagIn b = Ta at *
      have hz2 : Blk ((w.alloc (.cells (ks.map byteV).toArray 29)).alloc (.cells (ocells 12 []).toArray 64)) (w.heap.size + 1) (ocells 12 []) 64 := Blk.new1 _ _ _ _
      have ho2 : Only (fun k => k = w.heap.size + 1) ((w.alloc (.cells (ks.map byteV).toArray 29)).alloc (.cells (ocells 12 []).toArray 64)) (((w.alloc (.cells (ks.map byteV).toArray 29)).alloc (.cells (ocells 12 []).toArray 64)).setRow (w.heap.size + 1) (N.map byteV).toArray) := Only.setRow _ _
      have HN2 := Lib.hid (hz2.row (N.map byteV))
      have HK2 := Lib.hid ((HB1.out.alloc (.cells (ocells 12 []).toArray 64)).keep ho2 (by omega))
      have HO2 : Hid (Only (fun _ => False) w (((w.alloc (.cells (ks.map byteV).toArray 29)).alloc (.cells (ocells 12 []).toArray 64)).setRow (w.heap.size + 1) (N.map byteV).toArray)) := (HO1.out.trans (Only.alloc _)).andThen ho2 (fun k hk e => by omega)
      clear hz2 ho2
      unfold digV
      rw [show byteV x = .int .u8 (x.toNat : Int) from rfl]
      go_enter Tryd.func20, Tryd.ntmps20
      go_wp2_with (first
        | (refine wpList_load_mid rfl 64 (.tmp 30) rfl g1 o1 rfl (N.map byteV) _ HRG.out Tryd.underlying64 rfl (by simpa using size_a12 HNL.out) ?_)
        | (refine wpList_store_row rfl 64 (.tmp 11) (.tmp 31) rfl (w.heap.size + 1) (N.map byteV).toArray rfl rfl 64 (ocells 12 []).toArray (Blk.new1 _ _ _ _) (size_a12 HNL.out) (by simp [ocells, HNL.out]) (oneCell_bytes _) ?_; rw [← z12]; generalize ((w.alloc (.cells (ks.map byteV).toArray 29)).alloc (.cells (ocells 12 []).toArray 64)).setRow (w.heap.size + 1) (N.map byteV).toArray = w2 at *)
        | (refine wpList_load_row rfl 64 (.tmp 11) rfl (w.heap.size + 1) rfl 64 (N.map byteV).toArray (0, 0) _ HN2.out.heap Tryd.underlying64 rfl (size_a12 HNL.out) ?_)
        | (refine wpList_load_row rfl 29 (.tmp 4) rfl w.heap.size rfl 29 (ks.map byteV).toArray (0, 0) _ HK2.out.heap Tryd.underlying29 rfl (size_keys HKL.out) ?_))
      have HTG := Lib.hid (tag_any (kind := x) HKL.out HNL.out (HC.out.here HO2.out HS.out) (HU.out.here HO2.out HS.out) (fun _ h => h) HSM.out (HF.out.only HO2.out (fun x => x)) (HT.out.only HO2.out (fun x => x)))
      refine HTG.out.mono ?_
      rintro e w3 ⟨rfl, ho3⟩
      have HGL := Lib.hid (Se.tag_len ks x ctx N Bo)
      generalize hG : Se.tag ks x ctx N Bo = G at *
      have ho4 : Only (fun _ => False) w3 (w3.alloc (.cells (G.map byteV).toArray 22)) := Only.alloc _
      have hb4 := Blk.new w3 (G.map byteV) 22
      have HO4 := Lib.hid ((HO2.out.trans ho3).trans ho4); have HB4 := Lib.hid hb4; have HN4 := Lib.hid ((HN2.out.keep ho3 (fun x => x)).keep ho4 (fun x => x)); have HK4 := Lib.hid ((HK2.out.keep ho3 (fun x => x)).keep ho4 (fun x => x))
      clear ho3 ho4 hb4 HTG HO2 HN2 HK2 HRG HB1 HO1 HSM
      go_wp2_with (refine wpList_store_row rfl 22 (.tmp 13) (.tmp 40) rfl w3.heap.size (G.map byteV).toArray rfl rfl 22 (ocells 32 []).toArray (heap_alloc_last _ _) (size_a32 HGL.out) (by simp [ocells, HGL.out]) (oneCell_bytes _) ?_; rw [World.setRow_alloc_new]; generalize w3.alloc (.cells (G.map byteV).toArray 22) = w4 at *)
      refine wp_region_any (by kernel_rfl) ?_
      change wpAny _ _ _ _ 6 (Array.replicate 6 false) _ w4.drew
      have HO5 := Lib.hid (HO4.out.trans Only.drew); have HB5 := Lib.hid HB4.out.drew; have HN5 := Lib.hid HN4.out.drew; have HK5 := Lib.hid HK4.out.drew
      clear HO4 HB4 HN4 HK4
      generalize w4.drew = w5 at *
      have hta := (BytesAt.of_range (bs := Ta) (c := vd - (b.length - 32)) (by rw [HTL.out]; exact HC3.out) (rangeAt_here HR3.out HO5.out HG3.out)).mono (S' := fun k => k < w5.heap.size) (fun k hk => by rw [hk]; exact Nat.lt_of_lt_of_le HG3.out HO5.out.size)
      rw [HTL.out] at hta
      have HEQ := Lib.hid (equal_any (HB5.out.whole HGL.out) hta (by rw [HGL.out]; decide) (fun _ h => h))
      clear hta HC3 HR3 HG3
      refine wpAny_take (i := 0) (v := .slice (some ⟨w3.heap.size, 0, none⟩) 32 32) rfl (by kernel_rfl) (by kernel_rfl) (by kernel_rfl) (fun _ _ _ h => h) (Or.inl ⟨by rfl, fun w => by go_simp⟩) ?_
      simp only [Act.put, List.getElem_toArray, List.getElem_cons_zero, List.setIfInBounds_toArray, List.set_cons_zero, List.set_cons_succ]
      refine wpAny_take (i := 1) (v := .slice (some ad) b.length vd) rfl (by kernel_rfl) (by kernel_rfl) (by kernel_rfl) (fun _ _ _ h => h) (Or.inl ⟨by rfl, fun w => by go_simp⟩) ?_
      simp only [Act.put, List.getElem_toArray, List.getElem_cons_succ, List.getElem_cons_zero, List.setIfInBounds_toArray, List.set_cons_zero, List.set_cons_succ]
      refine wpAny_take (i := 2) (v := .int .i64 ((b.length : Int) - 32)) rfl (by kernel_rfl) (by kernel_rfl) (by kernel_rfl) (fun _ _ _ h => h) (Or.inl ⟨by rfl, fun w => by go_simp⟩) ?_
      simp only [Act.put, List.getElem_toArray, List.getElem_cons_succ, List.getElem_cons_zero, List.setIfInBounds_toArray, List.set_cons_zero, List.set_cons_succ]
      refine wpAny_take (i := 3) (v := .slice (some ⟨g3, o3, none⟩) 32 (vd - (b.length - 32))) rfl (by kernel_rfl) (by kernel_rfl) (by kernel_rfl) (fun _ _ _ h => h) (Or.inl ⟨by rfl, fun w => by go_simp⟩) ?_
      simp only [Act.put, List.getElem_toArray, List.getElem_cons_succ, List.getElem_cons_zero, List.setIfInBounds_toArray, List.set_cons_zero, List.set_cons_succ]
      refine wpAny_ready (rs := [4]) (by kernel_rfl) (by simp) (AllReady.cons rfl (fun J hJ => ?_) AllReady.nil)
      go_simp
      refine HEQ.out.mono ?_
      rintro e w6 ⟨rfl, m, rfl⟩
      refine hJ _ _ ?_
      clear hJ J HEQ
      have HO6 := Lib.hid (HO5.out.trans (Only.drewN m)); have HN6 := Lib.hid (HN5.out.drewN m); have HK6 := Lib.hid (HK5.out.drewN m)
      clear HO5 HB5 HN5 HK5
      generalize w5.drewN m = w6 at *
      clear hs1' hs2' hs3 hpt hcell1 hlt hwr
      by_cases hGT : G = Ta
      · rw [show sameB G Ta = true from decide_eq_true hGT]
        have HX := Lib.hid (xor0_any (Se.cipher_len HKL.out) HNL.out (HU.out.here HO6.out HS.out) HFW.out)
        have HCI := Lib.hid (HK6.out.mid (o := 0) (n := 32))
        have HTT : Hid (Se.Takes ks x ctx b) := HTK.out.2 hGT
        have HPN : Hid ((Se.plain ks b).length = Bo.length) := by unfold Hid; rw [HPL.out]; exact Ch.xor_length _ _ _ _
        clear hGT HK6 HTK HU HFW HC HS HF HT
        refine wpAny_take (i := 5) (v := .bool false) rfl (by kernel_rfl) (by kernel_rfl) (by kernel_rfl) (fun _ _ _ h => h) (Or.inl ⟨by rfl, fun w => by go_simp⟩) ?_
        simp only [Act.put, List.getElem_toArray, List.getElem_cons_succ, List.getElem_cons_zero, List.setIfInBounds_toArray, List.set_cons_zero, List.set_cons_succ]
        refine wpAny_done (by kernel_rfl) ?_ _
        go_wp2_with (first
          | (refine wpList_load_mid rfl 22 (.tmp 48) rfl w.heap.size 0 rfl ((Se.cipher ks).map byteV) _ HCI.out Tryd.underlying22 rfl (by simpa using size_a32 (Se.cipher_len HKL.out)) ?_)
          | (refine wpList_load_row rfl 64 (.tmp 11) rfl (w.heap.size + 1) rfl 64 (N.map byteV).toArray (0, 0) _ HN6.out.heap Tryd.underlying64 rfl (size_a12 HNL.out) ?_))
        refine HX.out.mono ?_
        rintro e w7 ⟨ra, rc, rfl, hr7⟩
        have HR7 := Lib.hid (Row.under HO6.out hr7)
        clear hr7 HX HCI
        go_wp2_with fail
        go_ret2
        refine .inl ⟨HTT.out, ra, rc, by rw [HPN.out]; rfl, ?_⟩
        rw [HPN.out, HPL.out]
        exact HR7.out
      · rw [show sameB G Ta = false from decide_eq_false hGT]
        have HTT : Hid (¬ Se.Takes ks x ctx b) := fun h => hGT (HTK.out.1 h)
        clear hGT HK6 HTK HU HFW HC HS HF HT HN6
        refine wpAny_take (i := 5) (v := .bool true) rfl (by kernel_rfl) (by kernel_rfl) (by kernel_rfl) (fun _ _ _ h => h) (Or.inl ⟨by rfl, fun w => by go_simp⟩) ?_
        simp only [Act.put, List.getElem_toArray, List.getElem_cons_succ, List.getElem_cons_zero, List.setIfInBounds_toArray, List.set_cons_zero, List.set_cons_succ]
        refine wpAny_done (by kernel_rfl) ?_ _
        go_wp2_with fail
        go_ret2
        exact .inr ⟨HTT.out, rfl, HO6.out⟩
    · have hne : ¬ (x.toNat : Int) = (kind.toNat : Int) := fun h => hb0 (u8_eq h)
      have HN : Hid (¬ Se.Takes ks kind ctx b) := fun h => by have := h.2.1; rw [hx] at this; exact hb0 (Option.some.inj this)
      clear ho1 hb1 hk hc hb hS hf ht hlen hcell hx hb0
      unfold digV
      rw [show byteV kind = .int .u8 (kind.toNat : Int) from rfl]
      go_enter Tryd.func20, Tryd.ntmps20
      go_wp2
      go_ret2
      exact .inr ⟨HN.out, rfl, HO1.out⟩

end Go.Proofs.YtgdnmbchhfbjoaaDoor

namespace Go.Proofs.YtgdnmbchhfbjoaaDoor
open Go.RowKit

namespace Se
/-- Which passwords are taken. -/
def good (pw : List UInt8) : Bool := decide (0 < pw.length ∧ pw.length ≤ 1024)
def pass (pw salt : List UInt8) : List UInt8 := keys (derived salt pw tKey 32)
theorem pass_len (pw salt : List UInt8) : (pass pw salt).length = 96 := keys_len _
end Se

/-- A text of these bytes. -/
def textV (pw : List UInt8) : Value := .string ⟨pw.toArray⟩

theorem may_any {w : World} {pw : List UInt8} : Calls Tryd.prog 42 #[textV pw] w fun e w' => e = .returned (.bool (Se.good pw)) ∧ w' = w := by
  unfold textV
  by_cases h0 : pw = []
  · subst h0
    go_enter Tryd.func42, Tryd.ntmps42
    go_wp2
    go_ret
    exact ⟨rfl, rfl⟩
  · have he : pw.isEmpty = false := by simpa using h0
    by_cases h1 : pw.length ≤ 1024
    · have HG : Hid (Se.good pw = true) := decide_eq_true ⟨List.length_pos_iff.2 h0, h1⟩
      have h2 : (pw.length : Int) ≤ 1024 := by omega
      go_enter Tryd.func42, Tryd.ntmps42
      go_wp2
      go_ret
      exact ⟨by rw [HG.out]; rfl, rfl⟩
    · have HG : Hid (Se.good pw = false) := decide_eq_false (fun h => h1 h.2)
      have h2 : ¬ (pw.length : Int) ≤ 1024 := by omega
      go_enter Tryd.func42, Tryd.ntmps42
      go_wp2
      go_ret
      exact ⟨by rw [HG.out]; rfl, rfl⟩

set_option maxRecDepth 100000 in
set_option maxHeartbeats 1000000 in
theorem pass_any {w : World} {pw salt : List UInt8} (hs : salt.length = 16) (hl : pw.length ≤ 1048576) (hf : Fst w) (ht : Tab w) :
    Calls Tryd.prog 43 #[textV pw, digV salt] w fun e w' => e = .returned (digV (Se.pass pw salt)) ∧ Only (fun _ => False) w w' := by
  obtain ⟨hzk, hzn⟩ := zero_keys
  obtain ⟨Z, hZ⟩ : ∃ Z, Z = (ocells 96 []).toArray := ⟨_, rfl⟩
  rw [← hZ] at hzk
  have hz0 : Blk ((w.alloc (.cells (salt.map byteV).toArray 47)).alloc (.cells Z 29)) (w.heap.size + 1) (ocells 96 []) 29 := by rw [hZ]; exact Blk.new1 _ _ _ _
  have hs0 := (Blk.new w (salt.map byteV) 47).alloc (.cells Z 29)
  have ho0 : Only (fun _ => False) w ((w.alloc (.cells (salt.map byteV).toArray 47)).alloc (.cells Z 29)) := (Only.alloc _).trans (Only.alloc _)
  obtain ⟨c1, w1, hcv, hb1, hlt1, ho1⟩ := conv_text ((w.alloc (.cells (salt.map byteV).toArray 47)).alloc (.cells Z 29)) pw
  have ho01 := ho0.trans ho1
  have HD := Lib.hid (ederived_any Se.tKey ((hs0.keep ho1 (fun x => x)).whole hs) (hb1.mono (S' := fun k => k < w1.heap.size) (fun k hk => by omega)) (fun _ h => h) (by omega) hl (by decide) (hf.only ho01 (fun x => x)) (ht.only ho01 (fun x => x)))
  have HZ1 := Lib.hid (hz0.keep ho1 (fun x => x)); have HO1 := Lib.hid ho01; have HF := Lib.hid hf; have HT := Lib.hid ht
  have HPL := Lib.hid (Se.pass_len pw salt)
  rw [World.size_alloc, World.size_alloc] at hcv HD
  clear hs hl hf ht hz0 hs0 ho0 hb1 hlt1 ho1 ho01 hZ
  have ha16 := all_16 w.heap.size 0
  unfold digV textV
  go_enter Tryd.func43, Tryd.ntmps43
  go_wp2_with fail
  refine HD.out.mono ?_
  rintro e w2 ⟨rfl, ho2⟩
  have HM := Lib.hid (from_any (derived_len salt pw Se.tKey 32) (HF.out.only (HO1.out.trans ho2) (fun x => x)) (HT.out.only (HO1.out.trans ho2) (fun x => x)))
  have HZ2 := Lib.hid (HZ1.out.keep ho2 (fun x => x)); have HO2 := Lib.hid (HO1.out.trans ho2)
  clear ho2 HD HZ1 HO1 HF HT hcv hzk
  go_wp2_with fail
  refine HM.out.mono ?_
  rintro e w3 ⟨rfl, ho3⟩
  have HZ3 := Lib.hid (HZ2.out.keep ho3 (fun x => x)); have HO3 := Lib.hid (HO2.out.trans ho3)
  rw [show Se.keys (derived salt pw Se.tKey 32) = Se.pass pw salt from rfl]
  clear ho3 HM HZ2 HO2
  generalize hP : Se.pass pw salt = P at *
  go_wp2_with (refine wpList_store_row rfl 29 (.tmp 4) (.tmp 9) rfl (w.heap.size + 1) (P.map byteV).toArray rfl rfl 29 (ocells 96 []).toArray HZ3.out.heap (size_keys HPL.out) (by simp [ocells, HPL.out]) (oneCell_bytes _) ?_)
  have hfin := HZ3.out.row (P.map byteV)
  exact bodyPost_ret (v := digV P) (results_cell_row rfl _ _ (w.heap.size + 1) 29 _ (0, 0) _ rfl hfin Tryd.underlying29 rfl (size_keys HPL.out)) rfl ⟨by rw [hP]; rfl, HO3.out.andThen (Only.setRow _ _) (fun k hk e => by omega)⟩

end Go.Proofs.YtgdnmbchhfbjoaaDoor

namespace Go.Proofs.YtgdnmbchhfbjoaaDoor
open Go.RowKit

namespace Se
/-- The key file. -/
def file (pw salt m : List UInt8) : List UInt8 := [amphora1, salt, blob (pass pw salt) 1 salt m].flatten
theorem blob_len (ks : List UInt8) (kind : UInt8) (ctx pl : List UInt8) : (blob ks kind ctx pl).length = pl.length + 45 := by
  simp [blob, nonce_len, tag_len, body, Ch.xor_length]; omega
end Se

theorem step_load_mid {ops : Array Oper} {o : Oper} {a : Act} {w : World} {K : Act → World → Prop} {Q : Exit → Act → World → Prop} {E : Prop} (hw : Region.wanted o (yielded ops a.tmps) = true) (ty : TypeId) (x : Operand) (ho : o.op = .load ty x)
    (b p : Nat) (hx : a.eval x = .pointer (some ⟨b, p, none⟩)) (cs : List Value) (d : TypeDesc) (hc : w.rangeAt b p cs) (hu : Tryd.prog.underlying ty = some d) (hd : d.isRow = true) (hi : (Tryd.prog.info? ty).map (·.size) = some cs.length)
    (h : K (a.put o.dst (.agg cs.toArray)) w) : if Region.wanted o (yielded ops a.tmps) = true then Oper.wp Tryd.prog o a w K Q else E := by
  rw [if_pos hw]
  exact wp_load_mid ty x ho b p hx cs d hc hu hd hi h

theorem Blk.all {w : World} {g : Nat} {bs : List UInt8} {t : TypeId} (h : Blk w g (bs.map byteV) t) : w.rangeAt g 0 (bs.map byteV) := h.range fun j v hv => by rw [Nat.zero_add]; exact hv

set_option maxRecDepth 100000 in
set_option maxHeartbeats 1000000 in
theorem lock_bad {w : World} {pw salt m : List UInt8} (hg : Se.good pw = false) :
    Calls Tryd.prog 21 #[textV pw, digV salt, digV m] w fun e w' => e = .returned (.tuple #[.slice none 0 0, .iface 45 (.int .i64 28)]) ∧ Only (fun _ => False) w w' := by
  have HM := Lib.hid (fun W => may_any (w := W) (pw := pw))
  rw [hg] at HM
  have HO : Hid (Only (fun _ => False) w ((w.alloc (.cells (salt.map byteV).toArray 47)).alloc (.cells (m.map byteV).toArray 22))) := (Only.alloc _).trans (Only.alloc _)
  clear hg
  unfold digV
  go_enter Tryd.func21, Tryd.ntmps21
  go_wp2_with fail
  refine (HM.out _).mono ?_
  rintro e w1 ⟨rfl, rfl⟩
  go_wp2_with fail
  go_ret2
  exact ⟨rfl, HO.out⟩

set_option maxRecDepth 100000 in
set_option maxHeartbeats 1000000 in
theorem lock_any {w : World} {pw salt m : List UInt8} (hg : Se.good pw = true) (hs : salt.length = 16) (hm : m.length = 32) (hf : Fst w) (ht : Tab w) :
    Calls Tryd.prog 21 #[textV pw, digV salt, digV m] w fun e w' => ∃ a c, e = .returned (.tuple #[.slice a (Se.file pw salt m).length c, .nilIface]) ∧ Row w w' (.slice a (Se.file pw salt m).length c) (Se.file pw salt m) := by
  have hpl : pw.length ≤ 1024 := (of_decide_eq_true hg).2
  have HM := Lib.hid (fun W => may_any (w := W) (pw := pw))
  rw [hg] at HM
  have hs1 := (Blk.new w (salt.map byteV) 47).alloc (.cells (m.map byteV).toArray 22)
  have hm1 := Blk.new1 w (.cells (salt.map byteV).toArray 47) (m.map byteV) 22
  have ho1 : Only (fun _ => False) w ((w.alloc (.cells (salt.map byteV).toArray 47)).alloc (.cells (m.map byteV).toArray 22)) := (Only.alloc _).trans (Only.alloc _)
  generalize hw1 : (w.alloc (.cells (salt.map byteV).toArray 47)).alloc (.cells (m.map byteV).toArray 22) = w1 at *
  have HS1 := Lib.hid hs1; have HM1 := Lib.hid hm1; have HO1 := Lib.hid ho1; have HSL := Lib.hid hs; have HML := Lib.hid hm; have HF := Lib.hid hf; have HT := Lib.hid ht; have HPL := Lib.hid hpl
  clear hs1 hm1 ho1 hs hm hf ht hg hpl
  unfold digV
  go_enter Tryd.func21, Tryd.ntmps21
  go_wp2_with fail
  refine (HM.out _).mono ?_
  rintro e w2 ⟨rfl, rfl⟩
  clear hw1 HM
  go_wp2_with fail
  refine wp_region_any (by kernel_rfl) ?_
  change wpAny _ _ _ _ 7 (Array.replicate 7 false) _ w2.drew
  have HS3 := Lib.hid HS1.out.drew; have HM3 := Lib.hid HM1.out.drew; have HO3 := Lib.hid (HO1.out.trans Only.drew)
  clear HS1 HM1 HO1
  generalize w2.drew = w3 at *
  have HP := Lib.hid (pass_any (pw := pw) HSL.out (by have := HPL.out; omega) (HF.out.only HO3.out (fun x => x)) (HT.out.only HO3.out (fun x => x)))
  refine wpAny_take (i := 0) (v := textV pw) rfl (by kernel_rfl) (by kernel_rfl) (by kernel_rfl) (fun _ _ _ h => h) (Or.inl ⟨by rfl, fun w => by go_simp⟩) ?_
  simp only [Act.put, List.getElem_toArray, List.getElem_cons_zero, List.setIfInBounds_toArray, List.set_cons_zero, List.set_cons_succ]
  refine wpAny_take (i := 3) (v := .slice (some ⟨w.heap.size, 0, none⟩) 16 16) rfl (by kernel_rfl) (by kernel_rfl) (by kernel_rfl) (fun _ _ _ h => h) (Or.inl ⟨by rfl, fun w => by go_simp⟩) ?_
  simp only [Act.put, List.getElem_toArray, List.getElem_cons_succ, List.getElem_cons_zero, List.setIfInBounds_toArray, List.set_cons_zero, List.set_cons_succ]
  refine wpAny_take (i := 4) (v := .slice (some ⟨w.heap.size + 1, 0, none⟩) 32 32) rfl (by kernel_rfl) (by kernel_rfl) (by kernel_rfl) (fun _ _ _ h => h) (Or.inl ⟨by rfl, fun w => by go_simp⟩) ?_
  simp only [Act.put, List.getElem_toArray, List.getElem_cons_succ, List.getElem_cons_zero, List.setIfInBounds_toArray, List.set_cons_zero, List.set_cons_succ]
  refine wpAny_ready (rs := [1]) (by kernel_rfl) (by simp) (AllReady.cons rfl (fun J hJ => ?_) AllReady.nil)
  refine step_load_mid (by rfl) 47 (.tmp 4) rfl w.heap.size 0 rfl (salt.map byteV) _ HS3.out.all Tryd.underlying47 rfl (by simpa using size_a16 HSL.out) ?_
  refine hJ _ _ ?_
  clear hJ J
  simp only [Act.put, List.getElem_toArray, List.getElem_cons_succ, List.getElem_cons_zero, List.setIfInBounds_toArray, List.set_cons_zero, List.set_cons_succ]
  refine wpAny_ready (rs := [2]) (by kernel_rfl) (by simp) (AllReady.cons rfl (fun J hJ => ?_) AllReady.nil)
  go_simp
  refine HP.out.mono ?_
  rintro e w4 ⟨rfl, ho4⟩
  refine hJ _ _ ?_
  clear hJ J
  have HS4 := Lib.hid (HS3.out.keep ho4 (fun x => x)); have HM4 := Lib.hid (HM3.out.keep ho4 (fun x => x)); have HO4 := Lib.hid (HO3.out.trans ho4)
  have hll : Lil salt m := ⟨by have := HSL.out; have := HML.out; omega⟩
  have HSE := Lib.hid (seal_any (kind := 1) (Se.pass_len pw salt) (HS4.out.whole HSL.out) (HM4.out.whole HML.out) (fun _ h => h) hll (HF.out.only HO4.out (fun x => x)) (HT.out.only HO4.out (fun x => x)))
  clear ho4 HS3 HM3 HO3 HP hll
  refine wpAny_ready (rs := [5]) (by kernel_rfl) (by simp) (AllReady.cons rfl (fun J hJ => ?_) AllReady.nil)
  go_simp
  refine HSE.out.mono ?_
  rintro e w5 ⟨ba, bc, rfl, hr5⟩
  refine hJ _ _ ?_
  clear hJ J
  have HS5 := Lib.hid (HS4.out.keep hr5.only (fun x => x)); have HO5 := Lib.hid (HO4.out.trans hr5.only); have HB5 := Lib.hid hr5.bytes
  have hbl : (Se.blob (Se.pass pw salt) 1 salt m).length = 77 := by rw [Se.blob_len, HML.out]
  have HBL := Lib.hid hbl
  clear hr5 HS4 HM4 HO4 HSE hbl
  have hfile : Se.file pw salt m = [Se.amphora1, salt, Se.blob (Se.pass pw salt) 1 salt m].flatten := rfl
  generalize Se.blob (Se.pass pw salt) 1 salt m = B at *
  have HFI := Lib.hid hfile
  clear hfile
  refine wpAny_take (i := 6) (v := .slice ba B.length bc) rfl (by kernel_rfl) (by kernel_rfl) (by kernel_rfl) (fun _ _ _ h => h) (Or.inl ⟨by rfl, fun w => by go_simp⟩) ?_
  simp only [Act.put, List.getElem_toArray, List.getElem_cons_succ, List.getElem_cons_zero, List.setIfInBounds_toArray, List.set_cons_zero, List.set_cons_succ]
  refine wpAny_done (by kernel_rfl) ?_ _
  have kc := fun (w : World) (C : Array Value) (n c : Nat) => Lib.run_convert_bytes_const (P := Tryd.prog) w 23 5 C n c Tryd.underlying23 Tryd.underlying5
  have ha16 := all_16 w.heap.size 0
  go_wp2_with fail
  have hh6 : (w5.alloc (.cells (Se.amphora1.map byteV).toArray 5 (8, 8 + 1))).heap[w5.heap.size]? = some (.cells (Se.amphora1.map byteV).toArray 5 (8, 8 + 1)) := heap_alloc_last _ _
  have ho6 : Only (fun _ => False) w5 (w5.alloc (.cells (Se.amphora1.map byteV).toArray 5 (8, 8 + 1))) := Only.alloc _
  change Calls _ _ _ ((w5.alloc (.cells (Se.amphora1.map byteV).toArray 5 (8, 8 + 1))).alloc (.cells #[.slice (some ⟨w5.heap.size, 0, none⟩) 8 8, .slice (some ⟨w.heap.size, 0, none⟩) 16 16, .slice ba B.length bc] 23)) _
  have hz6 : (w5.alloc (.cells (Se.amphora1.map byteV).toArray 5 (8, 8 + 1))).heap.size = w5.heap.size + 1 := by simp
  generalize w5.alloc (.cells (Se.amphora1.map byteV).toArray 5 (8, 8 + 1)) = w6 at *
  have ho7 : Only (fun _ => False) w6 (w6.alloc (.cells #[.slice (some ⟨w5.heap.size, 0, none⟩) 8 8, .slice (some ⟨w.heap.size, 0, none⟩) 16 16, .slice ba B.length bc] 23)) := Only.alloc _
  have hb7 := Blk.new w6 [.slice (some ⟨w5.heap.size, 0, none⟩) 8 8, .slice (some ⟨w.heap.size, 0, none⟩) 16 16, .slice ba B.length bc] 23
  have ha7 := ((BytesAt.of_marked (bs := Se.amphora1) (c := 8) hh6 (by decide)).mono (S' := fun k => k < w6.heap.size) (fun k hk => by rw [hk]; exact lt_of_heap hh6)).here ho7 (fun _ h => h)
  rw [hz6] at hb7
  generalize w6.alloc (.cells #[.slice (some ⟨w5.heap.size, 0, none⟩) 8 8, .slice (some ⟨w.heap.size, 0, none⟩) 16 16, .slice ba B.length bc] 23) = w7 at *
  have ho57 := ho6.trans ho7
  have hfe : Few8 [Se.amphora1, salt, B] := ⟨by have := HSL.out; have := HBL.out; simp [tot, Se.amphora1]; omega, by simp⟩
  have HCC := Lib.hid (concat_any (three_blk hb7 ha7 ((HS5.out.keep ho57 (fun x => x)).whole HSL.out) (HB5.out.here ho57 (fun _ h => h))) (fun _ h => h) hfe)
  have HO7 := Lib.hid (HO5.out.trans ho57)
  clear hh6 ho6 hz6 ho7 hb7 ha7 ho57 hfe HO5 HS5 HB5 kc ha16
  refine HCC.out.mono ?_
  rintro e w8 ⟨ra, rc, rfl, hr8⟩
  have HR8 := Lib.hid (Row.under HO7.out hr8)
  clear hr8 HCC HO7
  generalize [Se.amphora1, salt, B].flatten = R at *
  go_wp2_with fail
  go_ret2
  rw [HFI.out]
  exact ⟨ra, rc, rfl, HR8.out⟩

end Go.Proofs.YtgdnmbchhfbjoaaDoor

namespace Go.Proofs.YtgdnmbchhfbjoaaDoor
open Go.RowKit

namespace Se
def zero32 : List UInt8 := List.replicate 32 0
/-- Which files are unlocked. -/
def saltIn (f : List UInt8) : List UInt8 := (f.drop 8).take 16
def Unl (pw f : List UInt8) : Prop := f.length = 101 ∧ f.take 8 = amphora1 ∧ Takes (pass pw (saltIn f)) 1 (saltIn f) (f.drop 24)
def master (pw f : List UInt8) : List UInt8 := plain (pass pw (saltIn f)) (f.drop 24)
theorem salt_len {f : List UInt8} (h : f.length = 101) : (saltIn f).length = 16 := by simp [saltIn, h]
theorem master_len {pw f : List UInt8} (h : f.length = 101) : (master pw f).length = 32 := by
  unfold master plain body bodyIn
  rw [Ch.xor_length]
  simp [h]
theorem zero32_len : zero32.length = 32 := by simp [zero32]
theorem zero32_cells : zero32.map byteV = ocells 32 [] := by simp [zero32, ocells]
end Se

theorem results_row_tmp {fn : Func} {p u : Tmp} {ty : TypeId} (h : fn.results = #[.cell p ty, .tmp u]) (tmps : Array Value) (w : World) (g : Nat) (cs : List Value) (d : TypeDesc) (v : Value)
    (hp : tmps.getD p undef = .pointer (some ⟨g, 0, none⟩)) (hv : tmps.getD u undef = v) (hg : w.rangeAt g 0 cs) (hu : Tryd.prog.underlying ty = some d) (hd : d.isRow = true) (hi : (Tryd.prog.info? ty).map (·.size) = some cs.length) :
    (results fn tmps).run Tryd.prog w = .ok (.tuple #[.agg cs.toArray, v]) w := by
  have hp' : tmps[p]?.getD undef = .pointer (some ⟨g, 0, none⟩) := by simpa using hp
  have hv' : tmps[u]?.getD undef = v := by simpa using hv
  simp [results, h, hp', hv', asAddr, run_loadVar_mid w g 0 ty cs d hg hu hd hi]

theorem built_z32 : Tryd.prog.built 22 [] = some (ocells 32 []).toArray := by kernel_rfl
theorem size_z32 : (Tryd.prog.info? 22).map (·.size) = some (ocells 32 []).toArray.size := by kernel_rfl
theorem one_z32 : (ocells 32 []).toArray.all (·.oneCell') = true := by kernel_rfl
theorem Blk.zall {w : World} {g : Nat} {t : TypeId} (h : Blk w g (ocells 32 []) t) : w.rangeAt g 0 (ocells 32 []) := h.range fun j v hv => by rw [Nat.zero_add]; exact hv

theorem pre_at {w : World} {S : Nat → Prop} {a : Option Addr} {c k : Nat} {bs : List UInt8} (h : BytesAt w S (.slice a bs.length c) bs) (hk : k ≤ bs.length) : BytesAt w S (.slice a k c) (bs.take k) ∧ k ≤ c := by
  have hl : (bs.take k).length = k := by rw [List.length_take]; omega
  rcases h with ⟨e, rfl⟩ | ⟨ad, c', e, hc, h2, h3⟩
  · obtain ⟨rfl, _, rfl⟩ := Value.slice.inj e
    have h0 : k = 0 := by simpa using hk
    subst h0
    exact ⟨.inl ⟨rfl, rfl⟩, Nat.le_refl _⟩
  · obtain ⟨rfl, _, rfl⟩ := Value.slice.inj e
    refine ⟨.inr ⟨ad, c, by rw [hl], by omega, fun hne => h2 (by rintro rfl; simp at hne), fun j x hx => ?_⟩, by omega⟩
    rw [List.getElem?_take] at hx
    split at hx
    · exact h3 j x hx
    · cases hx

set_option maxRecDepth 100000 in
set_option maxHeartbeats 1000000 in
theorem unlock_bad {w : World} {pw : List UInt8} {vf : Value} (hg : Se.good pw = false) :
    Calls Tryd.prog 23 #[textV pw, vf] w fun e w' => e = .returned (.tuple #[digV Se.zero32, .iface 45 (.int .i64 28)]) ∧ Only (fun _ => False) w w' := by
  have HM := Lib.hid (fun W => may_any (w := W) (pw := pw))
  rw [hg] at HM
  have hb : Blk (w.alloc (.cells (ocells 32 []).toArray 22)) w.heap.size (ocells 32 []) 22 := Blk.new _ _ _
  have HB := Lib.hid hb; have HBU := Lib.hid built_z32; have HSZ := Lib.hid size_z32; have HON := Lib.hid one_z32
  have HO : Hid (Only (fun _ => False) w (w.alloc (.cells (ocells 32 []).toArray 22))) := Only.alloc _
  clear hg hb
  go_enter Tryd.func23, Tryd.ntmps23
  go_wp2_with fail
  refine (HM.out _).mono ?_
  rintro e w1 ⟨rfl, rfl⟩
  go_wp2_with (first
    | (refine wpList_build_as rfl 22 _ rfl [] rfl _ HBU.out ?_)
    | (refine wpList_store_row rfl 22 (.tmp 4) (.tmp 12) rfl w.heap.size (ocells 32 []).toArray rfl rfl 22 (ocells 32 []).toArray HB.out.heap HSZ.out rfl HON.out ?_))
  have hfin := HB.out.row (ocells 32 [])
  exact bodyPost_ret (v := .tuple #[digV Se.zero32, .iface 45 (.int .i64 28)]) (by unfold digV; rw [Se.zero32_cells]; exact results_row_tmp rfl _ _ w.heap.size (ocells 32 []) _ _ rfl rfl hfin.zall Tryd.underlying22 rfl (by simpa using HSZ.out)) rfl ⟨rfl, HO.out.andThen (Only.setRow _ _) (fun k hk e => by omega)⟩

/-- What Unlock answers to a password that may be one. -/
def Unls (w : World) (pw f : List UInt8) (e : Ending) (w' : World) : Prop :=
  (Se.Unl pw f ∧ e = .returned (.tuple #[digV (Se.master pw f), .nilIface]) ∧ Only (fun _ => False) w w') ∨
  (¬ Se.Unl pw f ∧ e = .returned (.tuple #[digV Se.zero32, .iface 45 (.int .i64 10)]) ∧ Only (fun _ => False) w w')

set_option maxRecDepth 100000 in
set_option maxHeartbeats 2000000 in
theorem unlock_any {w : World} {S : Nat → Prop} {pw f : List UInt8} {vf : Value} (hg : Se.good pw = true) (hb : BytesAt w S vf f) (hS : ∀ k, S k → k < w.heap.size) (hf : Fst w) (ht : Tab w) :
    Calls Tryd.prog 23 #[textV pw, vf] w (Unls w pw f) := by
  have hpl : pw.length ≤ 1024 := (of_decide_eq_true hg).2
  have HM := Lib.hid (fun W => may_any (w := W) (pw := pw))
  rw [hg] at HM
  obtain ⟨fa, fc, rfl⟩ := hb.shape
  have hb1 : Blk (w.alloc (.cells (ocells 32 []).toArray 22)) w.heap.size (ocells 32 []) 22 := Blk.new _ _ _
  have ho1 : Only (fun _ => False) w (w.alloc (.cells (ocells 32 []).toArray 22)) := Only.alloc _
  have HB1 := Lib.hid hb1; have HO1 := Lib.hid ho1; have HBU := Lib.hid built_z32; have HSZ := Lib.hid size_z32; have HON := Lib.hid one_z32
  have HB := Lib.hid hb; have HS := Lib.hid hS; have HF := Lib.hid hf; have HT := Lib.hid ht; have HPL := Lib.hid hpl
  by_cases hlen : f.length = 101
  case neg =>
    have HN : Hid (¬ Se.Unl pw f) := fun h => hlen h.1
    have hne : ¬ (f.length : Int) = 101 := by omega
    clear hg hpl hb hS hf ht hb1 ho1 hlen
    go_enter Tryd.func23, Tryd.ntmps23
    go_wp2_with fail
    refine (HM.out _).mono ?_
    rintro e w1 ⟨rfl, rfl⟩
    go_wp2_with (first
      | (refine wpList_build_as rfl 22 _ rfl [] rfl _ HBU.out ?_)
      | (refine wpList_store_row rfl 22 (.tmp 4) (.tmp 23) rfl w.heap.size (ocells 32 []).toArray rfl rfl 22 (ocells 32 []).toArray HB1.out.heap HSZ.out rfl HON.out ?_))
    have hfin := HB1.out.row (ocells 32 [])
    exact bodyPost_ret (v := .tuple #[digV Se.zero32, .iface 45 (.int .i64 10)]) (by unfold digV; rw [Se.zero32_cells]; exact results_row_tmp rfl _ _ w.heap.size (ocells 32 []) _ _ rfl rfl hfin.zall Tryd.underlying22 rfl (by simpa using HSZ.out)) rfl (.inr ⟨HN.out, rfl, HO1.out.andThen (Only.setRow _ _) (fun k hk e => by omega)⟩)
  case pos =>
    obtain ⟨hp8, hc8⟩ := pre_at hb (k := 8) (by omega)
    have hs8 : ∀ W : World, (Instr.slice 23 (.slice fa 101 fc) none (some (.int .i64 8)) none).run Tryd.prog W = .ok (.slice fa 8 fc) W := fun W => slice_h (m := 8) hc8 W
    have ht8 := (hp8.here ho1 hS).text
    rw [z32] at ht8
    have HLN := Lib.hid hlen
    rw [hlen]
    by_cases hpre : f.take 8 = Se.amphora1
    case neg =>
      have HN : Hid (¬ Se.Unl pw f) := fun h => hpre h.2.1
      have hne : (f.take 8 == [97, 109, 112, 104, 111, 114, 97, 49]) = false := by simpa [Se.amphora1] using hpre
      clear hg hpl hb hS hf ht hb1 ho1 hlen hp8 hc8 hpre
      generalize f.take 8 = P at *
      go_enter Tryd.func23, Tryd.ntmps23
      go_wp2_with fail
      refine (HM.out _).mono ?_
      rintro e w1 ⟨rfl, rfl⟩
      go_wp2_with (first
        | (refine wpList_build_as rfl 22 _ rfl [] rfl _ HBU.out ?_)
        | (refine wpList_store_row rfl 22 (.tmp 4) (.tmp 23) rfl w.heap.size (ocells 32 []).toArray rfl rfl 22 (ocells 32 []).toArray HB1.out.heap HSZ.out rfl HON.out ?_))
      have hfin := HB1.out.row (ocells 32 [])
      exact bodyPost_ret (v := .tuple #[digV Se.zero32, .iface 45 (.int .i64 10)]) (by unfold digV; rw [Se.zero32_cells]; exact results_row_tmp rfl _ _ w.heap.size (ocells 32 []) _ _ rfl rfl hfin.zall Tryd.underlying22 rfl (by simpa using HSZ.out)) rfl (.inr ⟨HN.out, rfl, HO1.out.andThen (Only.setRow _ _) (fun k hk e => by omega)⟩)
    case pos =>
      obtain ⟨g1, o1, hs1, hr1, hg1⟩ := mid_at hb (i := 8) (j := 24) (by omega) (by omega) (by omega)
      obtain ⟨g3, o3, hs3, hr3, hg3, hc3⟩ := tail_at hb (i := 24) (by omega) (by omega)
      rw [hlen] at hs1 hs3 hc3
      have hs1' : ∀ W : World, (Instr.slice 23 (.slice fa 101 fc) (some (.int .i64 8)) (some (.int .i64 24)) none).run Tryd.prog W = .ok (.slice (some ⟨g1, o1, none⟩) 16 (fc - 8)) W := hs1
      have hs3' : ∀ W : World, (Instr.slice 23 (.slice fa 101 fc) (some (.int .i64 24)) none none).run Tryd.prog W = .ok (.slice (some ⟨g3, o3, none⟩) 77 (fc - 24)) W := hs3
      have hpt := ptr_16 (some ⟨g1, o1, none⟩) 16 (fc - 8) (by decide)
      have HSL := Lib.hid (Se.salt_len hlen)
      have hr1' : w.rangeAt g1 o1 ((Se.saltIn f).map byteV) := hr1
      have HRG := Lib.hid (rangeAt_here hr1' ho1 (hS _ hg1)); have HR3 := Lib.hid hr3; have HG3 := Lib.hid (hS _ hg3); have HC3 := Lib.hid hc3
      have hz2 : Blk ((w.alloc (.cells (ocells 32 []).toArray 22)).alloc (.cells (ocells 16 []).toArray 47)) (w.heap.size + 1) (ocells 16 []) 47 := Blk.new1 _ _ _ _
      have ho2 : Only (fun k => k = w.heap.size + 1) ((w.alloc (.cells (ocells 32 []).toArray 22)).alloc (.cells (ocells 16 []).toArray 47)) (((w.alloc (.cells (ocells 32 []).toArray 22)).alloc (.cells (ocells 16 []).toArray 47)).setRow (w.heap.size + 1) ((Se.saltIn f).map byteV).toArray) := Only.setRow _ _
      have HZ2 := Lib.hid hz2
      have HS2 := Lib.hid (hz2.row ((Se.saltIn f).map byteV))
      have HR2 := Lib.hid ((hb1.alloc (.cells (ocells 16 []).toArray 47)).keep ho2 (by omega))
      have HO2 : Hid (Only (fun _ => False) w (((w.alloc (.cells (ocells 32 []).toArray 22)).alloc (.cells (ocells 16 []).toArray 47)).setRow (w.heap.size + 1) ((Se.saltIn f).map byteV).toArray)) := (ho1.trans (Only.alloc _)).andThen ho2 (fun k hk e => by omega)
      have HUN : Hid (Se.Unl pw f ↔ Se.Takes (Se.pass pw (Se.saltIn f)) 1 (Se.saltIn f) (f.drop 24)) := ⟨fun h => h.2.2, fun h => ⟨hlen, hpre, h⟩⟩
      have HML := Lib.hid (Se.master_len (pw := pw) hlen)
      have HMA : Hid (Se.master pw f = Se.plain (Se.pass pw (Se.saltIn f)) (f.drop 24)) := rfl
      have HDL : Hid ((f.drop 24).length = 77) := by unfold Hid; simp [hlen]
      rw [hpre] at ht8
      unfold Se.amphora1 at ht8
      clear hg hpl hb hS hf ht hb1 ho1 hlen hp8 hc8 hpre hs1 hs3 hr1 hr3 hg1 hg3 hc3 hr1' hz2 ho2
      generalize Se.saltIn f = salt at *
      generalize f.drop 24 = bl at *
      go_enter Tryd.func23, Tryd.ntmps23
      go_wp2_with fail
      refine (HM.out _).mono ?_
      rintro e w1 ⟨rfl, rfl⟩
      go_wp2_with (first
        | (refine wpList_load_mid rfl 47 (.tmp 27) rfl g1 o1 rfl (salt.map byteV) _ HRG.out Tryd.underlying47 rfl (by simpa using size_a16 HSL.out) ?_)
        | (refine wpList_store_row rfl 47 (.tmp 6) (.tmp 28) rfl (w.heap.size + 1) (salt.map byteV).toArray rfl rfl 47 (ocells 16 []).toArray HZ2.out.heap (size_a16 HSL.out) (by simp [ocells, HSL.out]) (oneCell_bytes _) ?_; rw [← z16, ← z32]; generalize ((w.alloc (.cells (ocells 32 []).toArray 22)).alloc (.cells (ocells 16 []).toArray 47)).setRow (w.heap.size + 1) (salt.map byteV).toArray = w2 at *))
      clear ht8 hs8 hs1' hpt HRG HZ2 HM
      refine wp_region_any (by kernel_rfl) ?_
      change wpAny _ _ _ _ 12 (Array.replicate 12 false) _ w2.drew
      have HO3 := Lib.hid (HO2.out.trans Only.drew); have HS3 := Lib.hid HS2.out.drew; have HRR3 := Lib.hid HR2.out.drew
      clear HO2 HS2 HR2
      generalize w2.drew = w3 at *
      have HP := Lib.hid (pass_any (pw := pw) HSL.out (by have := HPL.out; omega) (HF.out.only HO3.out (fun x => x)) (HT.out.only HO3.out (fun x => x)))
      refine wpAny_take (i := 0) (v := textV pw) rfl (by kernel_rfl) (by kernel_rfl) (by kernel_rfl) (fun _ _ _ h => h) (Or.inl ⟨by rfl, fun w => by go_simp⟩) ?_
      simp only [Act.put, List.getElem_toArray, List.getElem_cons_zero, List.setIfInBounds_toArray, List.set_cons_zero, List.set_cons_succ]
      refine wpAny_take (i := 3) (v := .slice (some ⟨w.heap.size + 1, 0, none⟩) 16 16) rfl (by kernel_rfl) (by kernel_rfl) (by kernel_rfl) (fun _ _ _ h => h) (Or.inl ⟨by rfl, fun w => by go_simp⟩) ?_
      simp only [Act.put, List.getElem_toArray, List.getElem_cons_succ, List.getElem_cons_zero, List.setIfInBounds_toArray, List.set_cons_zero, List.set_cons_succ]
      refine wpAny_take (i := 4) (v := .slice fa 101 fc) rfl (by kernel_rfl) (by kernel_rfl) (by kernel_rfl) (fun _ _ _ h => h) (Or.inl ⟨by rfl, fun w => by go_simp⟩) ?_
      simp only [Act.put, List.getElem_toArray, List.getElem_cons_succ, List.getElem_cons_zero, List.setIfInBounds_toArray, List.set_cons_zero, List.set_cons_succ]
      refine wpAny_take (i := 5) (v := .slice (some ⟨g3, o3, none⟩) 77 (fc - 24)) rfl (by kernel_rfl) (by kernel_rfl) (by kernel_rfl) (fun _ _ _ h => h) (Or.inl ⟨by rfl, fun w => by go_simp⟩) ?_
      simp only [Act.put, List.getElem_toArray, List.getElem_cons_succ, List.getElem_cons_zero, List.setIfInBounds_toArray, List.set_cons_zero, List.set_cons_succ]
      refine wpAny_ready (rs := [1]) (by kernel_rfl) (by simp) (AllReady.cons rfl (fun J hJ => ?_) AllReady.nil)
      refine step_load_mid (by rfl) 47 (.tmp 6) rfl (w.heap.size + 1) 0 rfl (salt.map byteV) _ HS3.out.all Tryd.underlying47 rfl (by simpa using size_a16 HSL.out) ?_
      refine hJ _ _ ?_
      clear hJ J
      simp only [Act.put, List.getElem_toArray, List.getElem_cons_succ, List.getElem_cons_zero, List.setIfInBounds_toArray, List.set_cons_zero, List.set_cons_succ]
      refine wpAny_ready (rs := [2]) (by kernel_rfl) (by simp) (AllReady.cons rfl (fun J hJ => ?_) AllReady.nil)
      go_simp
      refine HP.out.mono ?_
      rintro e w4 ⟨rfl, ho4⟩
      refine hJ _ _ ?_
      clear hJ J HP
      have HO4 := Lib.hid (HO3.out.trans ho4); have HS4 := Lib.hid (HS3.out.keep ho4 (fun x => x)); have HR4 := Lib.hid (HRR3.out.keep ho4 (fun x => x))
      clear ho4 HO3 HS3 HRR3
      have hbl := (BytesAt.of_range (bs := bl) (c := fc - 24) (by rw [HDL.out]; exact HC3.out) (rangeAt_here HR3.out HO4.out HG3.out)).mono (S' := fun k => k < w4.heap.size) (fun k hk => by rw [hk]; exact Nat.lt_of_lt_of_le HG3.out HO4.out.size)
      rw [HDL.out] at hbl
      have HOP := Lib.hid (open_any (kind := 1) (Se.pass_len pw salt) (HS4.out.whole HSL.out) hbl (fun _ h => h) ⟨by have := HSL.out; have := HDL.out; omega⟩ (HF.out.only HO4.out (fun x => x)) (HT.out.only HO4.out (fun x => x)))
      clear hbl HS4 HR3 HG3 HC3
      refine wpAny_ready (rs := [6]) (by kernel_rfl) (by simp) (AllReady.cons rfl (fun J hJ => ?_) AllReady.nil)
      go_simp
      refine HOP.out.mono ?_
      rintro e w5 (⟨htk, ra, rc, rfl, hr5⟩ | ⟨hnt, rfl, ho5⟩)
      · refine hJ _ _ ?_
        clear hJ J HOP
        have HU := Lib.hid (HUN.out.2 htk)
        rw [← HMA.out] at hr5
        rw [← HMA.out]
        have hrow := hr5.row
        rw [HML.out] at hrow
        obtain ⟨g, rfl, hrg, _⟩ := own_range hrow (by decide)
        have HRG := Lib.hid hrg
        have HO5 := Lib.hid (HO4.out.trans hr5.only); have HR5 := Lib.hid (HR4.out.keep hr5.only (fun x => x))
        rw [HML.out]
        clear hr5 hrow hrg HO4 HR4 HUN HMA htk
        generalize hM : Se.master pw f = M at *
        refine wpAny_take (i := 7) (v := .tuple #[.slice (some ⟨g, 0, none⟩) 32 rc, .nilIface]) rfl (by kernel_rfl) (by kernel_rfl) (by kernel_rfl) (fun _ _ _ h => h) (Or.inl ⟨by rfl, fun w => by go_simp⟩) ?_
        simp only [Act.put, List.getElem_toArray, List.getElem_cons_succ, List.getElem_cons_zero, List.setIfInBounds_toArray, List.set_cons_zero, List.set_cons_succ]
        refine wpAny_take (i := 8) (v := .slice (some ⟨g, 0, none⟩) 32 rc) rfl (by kernel_rfl) (by kernel_rfl) (by kernel_rfl) (fun _ _ _ h => h) (Or.inl ⟨by rfl, fun w => by go_simp⟩) ?_
        simp only [Act.put, List.getElem_toArray, List.getElem_cons_succ, List.getElem_cons_zero, List.setIfInBounds_toArray, List.set_cons_zero, List.set_cons_succ]
        refine wpAny_take (i := 9) (v := .nilIface) rfl (by kernel_rfl) (by kernel_rfl) (by kernel_rfl) (fun _ _ _ h => h) (Or.inl ⟨by rfl, fun w => by go_simp⟩) ?_
        simp only [Act.put, List.getElem_toArray, List.getElem_cons_succ, List.getElem_cons_zero, List.setIfInBounds_toArray, List.set_cons_zero, List.set_cons_succ]
        refine wpAny_take (i := 10) (v := .slice (some ⟨g, 0, none⟩) 32 rc) rfl (by kernel_rfl) (by kernel_rfl) (by kernel_rfl) (fun _ _ _ h => h) (Or.inl ⟨by rfl, fun w => by go_simp⟩) ?_
        simp only [Act.put, List.getElem_toArray, List.getElem_cons_succ, List.getElem_cons_zero, List.setIfInBounds_toArray, List.set_cons_zero, List.set_cons_succ]
        refine wpAny_take (i := 11) (v := .nilIface) rfl (by kernel_rfl) (by kernel_rfl) (by kernel_rfl) (fun _ _ _ h => h) (Or.inl ⟨by rfl, fun w => by go_simp⟩) ?_
        simp only [Act.put, List.getElem_toArray, List.getElem_cons_succ, List.getElem_cons_zero, List.setIfInBounds_toArray, List.set_cons_zero, List.set_cons_succ]
        refine wpAny_done (by kernel_rfl) ?_ _
        have hp32 := ptr_32 (some ⟨g, 0, none⟩) 32 rc (by decide)
        go_wp2_with (first
          | (refine wpList_load_mid rfl 22 (.tmp 44) rfl g 0 rfl (M.map byteV) _ HRG.out Tryd.underlying22 rfl (by simpa using size_a32 HML.out) ?_)
          | (refine wpList_store_row rfl 22 (.tmp 4) (.tmp 45) rfl w.heap.size (M.map byteV).toArray rfl rfl 22 (ocells 32 []).toArray HR5.out.heap (size_a32 HML.out) (by simp [ocells, HML.out]) (oneCell_bytes _) ?_))
        have hfin := HR5.out.row (M.map byteV)
        exact bodyPost_ret (v := .tuple #[digV M, .nilIface]) (results_row_tmp rfl _ _ w.heap.size (M.map byteV) _ _ rfl rfl hfin.all Tryd.underlying22 rfl (by simpa using size_a32 HML.out)) rfl (.inl ⟨HU.out, by rw [hM], HO5.out.andThen (Only.setRow _ _) (fun k hk e => by omega)⟩)
      · refine hJ _ _ ?_
        clear hJ J HOP
        have HU : Hid (¬ Se.Unl pw f) := fun h => hnt (HUN.out.1 h)
        have HO5 := Lib.hid (HO4.out.trans ho5); have HR5 := Lib.hid (HR4.out.keep ho5 (fun x => x))
        clear ho5 HO4 HR4 HUN HMA hnt
        refine wpAny_take (i := 7) (v := .tuple #[.slice none 0 0, .iface 45 (.int .i64 10)]) rfl (by kernel_rfl) (by kernel_rfl) (by kernel_rfl) (fun _ _ _ h => h) (Or.inl ⟨by rfl, fun w => by go_simp⟩) ?_
        simp only [Act.put, List.getElem_toArray, List.getElem_cons_succ, List.getElem_cons_zero, List.setIfInBounds_toArray, List.set_cons_zero, List.set_cons_succ]
        refine wpAny_take (i := 8) (v := .slice none 0 0) rfl (by kernel_rfl) (by kernel_rfl) (by kernel_rfl) (fun _ _ _ h => h) (Or.inl ⟨by rfl, fun w => by go_simp⟩) ?_
        simp only [Act.put, List.getElem_toArray, List.getElem_cons_succ, List.getElem_cons_zero, List.setIfInBounds_toArray, List.set_cons_zero, List.set_cons_succ]
        refine wpAny_take (i := 9) (v := .iface 45 (.int .i64 10)) rfl (by kernel_rfl) (by kernel_rfl) (by kernel_rfl) (fun _ _ _ h => h) (Or.inl ⟨by rfl, fun w => by go_simp⟩) ?_
        simp only [Act.put, List.getElem_toArray, List.getElem_cons_succ, List.getElem_cons_zero, List.setIfInBounds_toArray, List.set_cons_zero, List.set_cons_succ]
        refine wpAny_take (i := 10) (v := .slice none 0 0) rfl (by kernel_rfl) (by kernel_rfl) (by kernel_rfl) (fun _ _ _ h => h) (Or.inl ⟨by rfl, fun w => by go_simp⟩) ?_
        simp only [Act.put, List.getElem_toArray, List.getElem_cons_succ, List.getElem_cons_zero, List.setIfInBounds_toArray, List.set_cons_zero, List.set_cons_succ]
        refine wpAny_take (i := 11) (v := .iface 45 (.int .i64 10)) rfl (by kernel_rfl) (by kernel_rfl) (by kernel_rfl) (fun _ _ _ h => h) (Or.inl ⟨by rfl, fun w => by go_simp⟩) ?_
        simp only [Act.put, List.getElem_toArray, List.getElem_cons_succ, List.getElem_cons_zero, List.setIfInBounds_toArray, List.set_cons_zero, List.set_cons_succ]
        refine wpAny_done (by kernel_rfl) ?_ _
        go_wp2_with (first
          | (refine wpList_build_as rfl 22 _ rfl [] rfl _ HBU.out ?_)
          | (refine wpList_store_row rfl 22 (.tmp 4) (.tmp 41) rfl w.heap.size (ocells 32 []).toArray rfl rfl 22 (ocells 32 []).toArray HR5.out.heap HSZ.out rfl HON.out ?_))
        have hfin := HR5.out.row (ocells 32 [])
        exact bodyPost_ret (v := .tuple #[digV Se.zero32, .iface 45 (.int .i64 10)]) (by unfold digV; rw [Se.zero32_cells]; exact results_row_tmp rfl _ _ w.heap.size (ocells 32 []) _ _ rfl rfl hfin.zall Tryd.underlying22 rfl (by simpa using HSZ.out)) rfl (.inr ⟨HU.out, rfl, HO5.out.andThen (Only.setRow _ _) (fun k hk e => by omega)⟩)

end Go.Proofs.YtgdnmbchhfbjoaaDoor

namespace Go.Proofs.YtgdnmbchhfbjoaaDoor
open Go.RowKit

set_option maxRecDepth 100000 in
set_option maxHeartbeats 1000000 in
theorem id_any {w : World} {S : Nat → Prop} {vp : Value} {ks pl : List UInt8} (hk : ks.length = 96) (hp : BytesAt w S vp pl) (hS : ∀ k, S k → k < w.heap.size) (hl : Sml (tot [Se.chunk, pl])) (hf : Fst w) (ht : Tab w) :
    Calls Tryd.prog 16 #[digV ks, vp] w fun e w' => e = .returned (digV (Se.idOf ks pl)) ∧ Only (fun _ => False) w w' := by
  obtain ⟨pa, pc, rfl⟩ := hp.shape
  have hr0 : Blk ((w.alloc (.cells (ks.map byteV).toArray 29)).alloc (.cells (ocells 32 []).toArray 33)) (w.heap.size + 1) (ocells 32 []) 33 := Blk.new1 _ _ _ _
  have hk0 := (Blk.new w (ks.map byteV) 29).alloc (.cells (ocells 32 []).toArray 33)
  have ho0 : Only (fun _ => False) w ((w.alloc (.cells (ks.map byteV).toArray 29)).alloc (.cells (ocells 32 []).toArray 33)) := (Only.alloc _).trans (Only.alloc _)
  have HR0 := Lib.hid hr0; have HK0 := Lib.hid hk0; have HO0 := Lib.hid ho0; have HKL := Lib.hid hk; have HP := Lib.hid hp; have HS := Lib.hid hS; have HF := Lib.hid hf; have HT := Lib.hid ht
  have HIL := Lib.hid (Se.id_len ks pl)
  clear hr0 hk0 ho0 hk hp hS hf ht
  unfold digV
  go_enter Tryd.func16, Tryd.ntmps16
  go_wp2_with fail
  refine wp_region_any (by kernel_rfl) ?_
  rw [← z32]
  change wpAny _ _ _ _ 10 (Array.replicate 10 false) _ (World.drew ((w.alloc (.cells (ks.map byteV).toArray 29)).alloc (.cells (ocells 32 []).toArray 33)))
  generalize (w.alloc (.cells (ks.map byteV).toArray 29)).alloc (.cells (ocells 32 []).toArray 33) = w0 at *
  have HO1 : Hid (Only (fun _ => False) w w0.drew) := HO0.out.trans Only.drew
  have HR1 := Lib.hid HR0.out.drew; have HK1 := Lib.hid HK0.out.drew
  clear HO0 HR0 HK0
  generalize w0.drew = w1 at *
  refine wpAny_take (i := 0) (v := .pointer (some ⟨w.heap.size, 64, none⟩)) rfl (by kernel_rfl) (by kernel_rfl) (by kernel_rfl) (fun _ _ _ h => h) (Or.inl ⟨by rfl, fun w => by go_simp⟩) ?_
  simp only [Act.put, List.getElem_toArray, List.getElem_cons_zero, List.setIfInBounds_toArray, List.set_cons_zero, List.set_cons_succ]
  refine wpAny_take (i := 1) (v := .slice (some ⟨w.heap.size, 64, none⟩) 32 32) rfl (by kernel_rfl) (by kernel_rfl) (by kernel_rfl) (fun _ _ _ h => h) (Or.inl ⟨by rfl, fun w => by go_simp⟩) ?_
  simp only [Act.put, List.getElem_toArray, List.getElem_cons_succ, List.getElem_cons_zero, List.setIfInBounds_toArray, List.set_cons_zero, List.set_cons_succ]
  refine wpAny_take (i := 4) (v := .slice pa pl.length pc) rfl (by kernel_rfl) (by kernel_rfl) (by kernel_rfl) (fun _ _ _ h => h) (Or.inl ⟨by rfl, fun w => by go_simp⟩) ?_
  simp only [Act.put, List.getElem_toArray, List.getElem_cons_succ, List.getElem_cons_zero, List.setIfInBounds_toArray, List.set_cons_zero, List.set_cons_succ]
  refine wpAny_ready (rs := [2]) (by kernel_rfl) (by simp) (AllReady.cons rfl (fun J hJ => ?_) AllReady.nil)
  go_simp
  refine hJ _ _ ?_
  clear hJ J
  have hh2 : (w1.alloc (.cells (Se.chunk.map byteV).toArray 5)).heap[w1.heap.size]? = some (.cells (Se.chunk.map byteV).toArray 5 (0, 0)) := heap_alloc_last _ _
  have ho2 : Only (fun _ => False) w1 (w1.alloc (.cells (Se.chunk.map byteV).toArray 5)) := Only.alloc _
  change wpAny _ _ _ _ _ _ _ (w1.alloc (.cells (Se.chunk.map byteV).toArray 5))
  generalize w1.alloc (.cells (Se.chunk.map byteV).toArray 5) = w2 at *
  have hcv := conv_const hh2 5 5
  have hh3 := freeze_heap hh2 (Se.chunk.map byteV).toArray.size
  have ho3 : Only (fun k => k = w1.heap.size) w2 (w2.freeze ⟨w1.heap.size, (Se.chunk.map byteV).toArray.size, none⟩ 1) := freeze_only _ _
  generalize w2.freeze ⟨w1.heap.size, (Se.chunk.map byteV).toArray.size, none⟩ 1 = w3 at *
  have HO3 : Hid (Only (fun _ => False) w w3) := (HO1.out.trans ho2).andThen ho3 (fun k hk e => by have := HO1.out.size; omega)
  have HK3 := Lib.hid ((HK1.out.keep ho2 (fun x => x)).keep ho3 (by have := HK1.out.lt; omega)); have HR3 := Lib.hid ((HR1.out.keep ho2 (fun x => x)).keep ho3 (by have := HR1.out.lt; omega))
  have HC3 : Hid (BytesAt w3 (fun k => k < w3.heap.size) (.slice (some ⟨w1.heap.size, 0, none⟩) 5 5) Se.chunk) := (BytesAt.of_marked (bs := Se.chunk) (c := 5) hh3 (by decide)).mono (fun k hk => by rw [hk]; exact lt_of_heap hh3)
  clear hh2 ho2 hh3 ho3 HO1 HK1 HR1
  refine wpAny_ready (rs := [3]) (by kernel_rfl) (by simp) (AllReady.cons rfl (fun J hJ => ?_) AllReady.nil)
  go_simp
  refine hJ _ _ ?_
  clear hJ J hcv
  refine wpAny_ready (rs := [5]) (by kernel_rfl) (by simp) (AllReady.cons rfl (fun J hJ => ?_) AllReady.nil)
  go_simp
  refine hJ _ _ ?_
  clear hJ J
  have hbl := Blk.new w3 [.slice (some ⟨w1.heap.size, 0, none⟩) 5 5, .slice pa pl.length pc] 23
  have ho4 : Only (fun _ => False) w3 (w3.alloc (.cells #[.slice (some ⟨w1.heap.size, 0, none⟩) 5 5, .slice pa pl.length pc] 23)) := Only.alloc _
  generalize w3.alloc (.cells #[.slice (some ⟨w1.heap.size, 0, none⟩) 5 5, .slice pa pl.length pc] 23) = w4 at *
  have HO4 := Lib.hid (HO3.out.trans ho4)
  have HK4 := Lib.hid (HK3.out.keep ho4 (fun x => x)); have HR4 := Lib.hid (HR3.out.keep ho4 (fun x => x))
  have HPK := Lib.hid (packs_any (two_blk hbl (HC3.out.here ho4 (fun _ h => h)) (HP.out.here HO4.out HS.out)) (by simp) hl)
  clear hbl ho4 HO3 HK3 HR3 HC3 HP
  refine wpAny_ready (rs := [6]) (by kernel_rfl) (by simp) (AllReady.cons rfl (fun J hJ => ?_) AllReady.nil)
  go_simp
  refine HPK.out.mono ?_
  rintro e w5 ⟨qa, qc, rfl, hp5, ho5⟩
  refine hJ _ _ ?_
  clear hJ J
  refine wpAny_ready (rs := [7]) (by kernel_rfl) (by simp) (AllReady.cons rfl (fun J hJ => ?_) AllReady.nil)
  go_simp
  refine hJ _ _ ?_
  clear hJ J
  have ho6 : Only (fun _ => False) w5 (w5.alloc (.cells #[.slice qa (Wi.pack [Se.chunk, pl]).length qc] 23)) := Only.alloc _
  have hb6 := Blk.new w5 [.slice qa (Wi.pack [Se.chunk, pl]).length qc] 23
  have hp6 := hp5.here ho6 (fun _ h => h)
  generalize w5.alloc (.cells #[.slice qa (Wi.pack [Se.chunk, pl]).length qc] 23) = w6 at *
  have HO6 := Lib.hid ((HO4.out.trans ho5).trans ho6)
  have HR6 := Lib.hid ((HR4.out.keep ho5 (fun x => x)).keep ho6 (fun x => x))
  have hk6 := ((HK4.out.keep ho5 (fun x => x)).keep ho6 (fun x => x)).part (o := 64) (n := 32) (Se.name_len HKL.out)
  have HM := Lib.hid (macsP_any (part_at hb6 hp6 (fun _ h => h)) hk6 (Se.name_len HKL.out) (packs_len (by simp) hl) (HF.out.only HO6.out (fun x => x)) (HT.out.only HO6.out (fun x => x)))
  clear ho6 hb6 hp6 hk6 hp5 ho5 HO4 HK4 HR4 HPK
  refine wpAny_ready (rs := [8]) (by kernel_rfl) (by simp) (AllReady.cons rfl (fun J hJ => ?_) AllReady.nil)
  go_simp
  refine HM.out.mono ?_
  rintro e w7 ⟨rfl, ho7⟩
  refine hJ _ _ ?_
  clear hJ J
  have HR7 := Lib.hid (HR6.out.keep ho7 (fun x => x)); have HO7 := Lib.hid (HO6.out.trans ho7)
  clear ho7 HM HR6 HO6
  rw [show Sh.mac (List.take 32 (List.drop 64 ks)) (Wi.pack [Se.chunk, pl]) = Se.idOf ks pl from rfl]
  refine wpAny_ready (rs := [9]) (by kernel_rfl) (by simp) (AllReady.cons rfl (fun J hJ => ?_) AllReady.nil)
  refine step_store_row (by rfl) 33 (.tmp 4) (.tmp 13) rfl (w.heap.size + 1) ((Se.idOf ks pl).map byteV).toArray rfl rfl 33 (ocells 32 []).toArray HR7.out.heap (size_id HIL.out) (by simp [ocells, HIL.out]) (oneCell_bytes _) ?_
  refine hJ _ _ (wpAny_done (by kernel_rfl) ?_ _)
  clear hJ J
  have hfin := HR7.out.row ((Se.idOf ks pl).map byteV)
  have HOS : Hid (Only (fun _ => False) w (w7.setRow (w.heap.size + 1) ((Se.idOf ks pl).map byteV).toArray)) := HO7.out.andThen (Only.setRow _ _) (fun k hk e => by omega)
  generalize w7.setRow (w.heap.size + 1) ((Se.idOf ks pl).map byteV).toArray = ws at *
  go_wp2_with fail
  exact bodyPost_ret (v := digV (Se.idOf ks pl)) (results_cell_row rfl _ _ (w.heap.size + 1) 33 _ (0, 0) _ rfl hfin Tryd.underlying33 rfl (size_id HIL.out)) rfl ⟨rfl, HOS.out⟩

end Go.Proofs.YtgdnmbchhfbjoaaDoor

namespace Go.Proofs.YtgdnmbchhfbjoaaDoor
open Go.RowKit

namespace Se
def m0 : List UInt8 := [1, 2, 3, 0, 0, 0, 0, 0, 0, 0, 0, 0, 0, 0, 0, 0, 0, 0, 0, 0, 0, 0, 0, 0, 0, 0, 0, 0, 0, 0, 0, 0]
def hello : List UInt8 := [104, 101, 108, 108, 111]
def fixC : List UInt8 := [25, 194, 45, 49, 183, 207, 83, 241, 242, 139, 46, 106, 41, 223, 25, 103, 66, 8, 224, 87, 56, 239, 195, 45, 37, 200, 31, 183, 82, 60, 120, 147]
def fixN : List UInt8 := [246, 117, 89, 46, 241, 160, 252, 137, 7, 75, 100, 10, 119, 234, 118, 6, 101, 4, 232, 227, 99, 7, 44, 164, 81, 22, 200, 66, 208, 47, 218, 132]
def fixD : List UInt8 := [90, 154, 236, 187, 176, 44, 202, 234, 249, 42, 10, 200, 183, 162, 169, 149, 7, 92, 70, 30, 249, 179, 55, 181, 184, 222, 200, 36, 11, 214, 51, 40]

set_option maxRecDepth 100000 in
theorem fix1 : derived amphora m0 tCipher 32 = fixC := by kernel_rfl
set_option maxRecDepth 100000 in
theorem fix2 : derived amphora m0 tName 32 = fixN := by kernel_rfl
set_option maxRecDepth 100000 in
theorem fix3 : Sh.mac fixN [1, 2, 1, 99, 5, 104, 101, 108, 108, 111] = fixD := by kernel_rfl
set_option maxRecDepth 100000 in
theorem fix4 : Ch.xor fixC (fixD.take 12) 0 hello = [214, 221, 65, 192, 233] := by kernel_rfl

theorem fix_pack : Wi.pack [[2], [99], hello] = [1, 2, 1, 99, 5, 104, 101, 108, 108, 111] := by
  have h1 : Wi.var 1 = [1] := by rw [Wi.var_small (by decide)]; rfl
  have h5 : Wi.var 5 = [5] := by rw [Wi.var_small (by decide)]; rfl
  simp [Wi.pack, Wi.fieldOf, h1, h5, hello]

theorem keys_cipher (m : List UInt8) : cipher (keys m) = derived amphora m tCipher 32 := by
  unfold cipher keys
  rw [List.append_assoc, List.take_append_of_le_length (by rw [derived_len]; exact Nat.le_refl _), List.take_of_length_le (by rw [derived_len]; exact Nat.le_refl _)]
theorem keys_name (m : List UInt8) : name (keys m) = derived amphora m tName 32 := by
  unfold name keys
  rw [List.drop_append_of_le_length (by simp [derived_len]), List.drop_of_length_le (by simp [derived_len]), List.nil_append, List.take_of_length_le (by rw [derived_len]; exact Nat.le_refl _)]

theorem fix_body : body (keys m0) (nonce (keys m0) 2 [99] hello) hello = [214, 221, 65, 192, 233] := by
  unfold body nonce
  rw [keys_cipher, keys_name, fix1, fix2, fix_pack, fix3, fix4]

section
variable (K : List UInt8) (kind : UInt8) (ctx pl : List UInt8)

theorem blob_eq : blob K kind ctx pl = kind :: (nonce K kind ctx pl ++ (body K (nonce K kind ctx pl) pl ++ tag K kind ctx (nonce K kind ctx pl) (body K (nonce K kind ctx pl) pl))) := by
  simp [blob]
theorem body_len (n : List UInt8) : (body K n pl).length = pl.length := Ch.xor_length _ _ _ _
theorem blob_len' : (blob K kind ctx pl).length = pl.length + 45 := by
  rw [blob_eq]; simp [nonce_len, tag_len, body_len]; omega
theorem blob_head : (blob K kind ctx pl)[0]? = some kind := by rw [blob_eq]; rfl
theorem blob_nonce : nonceIn (blob K kind ctx pl) = nonce K kind ctx pl := by
  unfold nonceIn
  rw [blob_eq, List.drop_succ_cons, List.drop_zero, List.take_append_of_le_length (by rw [nonce_len]; exact Nat.le_refl _), List.take_of_length_le (by rw [nonce_len]; exact Nat.le_refl _)]
theorem blob_drop13 : (blob K kind ctx pl).drop 13 = body K (nonce K kind ctx pl) pl ++ tag K kind ctx (nonce K kind ctx pl) (body K (nonce K kind ctx pl) pl) := by
  rw [blob_eq, List.drop_succ_cons, List.drop_append_of_le_length (by rw [nonce_len]; exact Nat.le_refl _), List.drop_of_length_le (by rw [nonce_len]; exact Nat.le_refl _), List.nil_append]
theorem blob_body : bodyIn (blob K kind ctx pl) = body K (nonce K kind ctx pl) pl := by
  unfold bodyIn
  rw [blob_drop13, blob_len', show pl.length + 45 - 32 - 13 = (body K (nonce K kind ctx pl) pl).length by rw [body_len]; omega, List.take_append_of_le_length (Nat.le_refl _), List.take_length]
theorem blob_tag : tagIn (blob K kind ctx pl) = tag K kind ctx (nonce K kind ctx pl) (body K (nonce K kind ctx pl) pl) := by
  unfold tagIn
  rw [blob_len', show pl.length + 45 - 32 = pl.length + 13 by omega, Nat.add_comm, ← List.drop_drop, blob_drop13, List.drop_append_of_le_length (by rw [body_len]; exact Nat.le_refl _), List.drop_of_length_le (by rw [body_len]; exact Nat.le_refl _), List.nil_append]

/-- What is sealed is opened. -/
theorem blob_takes : Takes K kind ctx (blob K kind ctx pl) := ⟨by rw [blob_len']; omega, blob_head K kind ctx pl, by rw [blob_nonce, blob_body, blob_tag]⟩
theorem blob_plain : plain K (blob K kind ctx pl) = pl := by
  unfold plain
  rw [blob_nonce, blob_body]
  exact Ch.xor_xor _ _ _ _
/-- Another kind is not taken. -/
theorem blob_other {k : UInt8} (h : k ≠ kind) (ctx' : List UInt8) : ¬ Takes K k ctx' (blob K kind ctx pl) := fun t => by
  have := t.2.1
  rw [blob_head] at this
  exact h (Option.some.inj this).symm
end
end Se

end Go.Proofs.YtgdnmbchhfbjoaaDoor

namespace Go.Proofs.YtgdnmbchhfbjoaaDoor
open Go.RowKit

theorem built_m0 : Tryd.prog.built 22 [(0, .int .u8 1), (1, .int .u8 2), (2, .int .u8 3)] = some (Se.m0.map byteV).toArray := by kernel_rfl

/-- A row of one block, marked or not, at any later world. -/
theorem marked_here {w w' : World} {g c : Nat} {t : TypeId} {bs : List UInt8} {f : Nat × Nat} (h : w.heap[g]? = some (.cells (bs.map byteV).toArray t f)) (hc : bs.length ≤ c) (ho : Only (fun _ => False) w w') : BytesAt w' (fun k => k < w'.heap.size) (.slice (some ⟨g, 0, none⟩) bs.length c) bs :=
  (BytesAt.of_marked h hc).here ho (fun k hk => by rw [hk]; exact lt_of_heap h)

set_option maxRecDepth 100000 in
set_option maxHeartbeats 1000000 in
theorem alive_any {w : World} (hf : Fst w) (ht : Tab w) :
    Calls Tryd.prog 9 #[] w fun e w' => e = .returned (.bool true) ∧ Only (fun _ => False) w w' := by
  obtain ⟨hzk, hzn⟩ := zero_keys
  obtain ⟨Z, hZ⟩ : ∃ Z, Z = (ocells 96 []).toArray := ⟨_, rfl⟩
  rw [← hZ] at hzk
  have HZ := Lib.hid hZ
  have HFM := Lib.hid (from_any (m := Se.m0) rfl hf ht)
  have HF := Lib.hid hf; have HT := Lib.hid ht; have HBU := Lib.hid built_m0
  have kc := fun (w : World) (C : Array Value) (n c : Nat) => Lib.run_convert_bytes_const (P := Tryd.prog) w 23 5 C n c Tryd.underlying23 Tryd.underlying5
  have kc2 : ∀ (w : World) (X : Obj) (C : Array Value) (n c : Nat), (convert 23 23 (.slice (some ⟨w.heap.size + 1, 0, none⟩) n c)).run Tryd.prog ((w.alloc X).alloc (.cells C 5)) = .ok (.slice (some ⟨w.heap.size + 1, 0, none⟩) n c) ((w.alloc X).alloc (.cells C 5 (C.size, C.size + 1))) := by
    intro w X C n c
    have := kc (w.alloc X) C n c
    simpa using this
  clear hf ht hZ
  go_enter Tryd.func9, Tryd.ntmps9
  go_wp2_with (refine wpList_build_as rfl 22 _ rfl _ rfl _ HBU.out ?_)
  refine HFM.out.mono ?_
  rintro e w1 ⟨rfl, ho1⟩
  have HKL := Lib.hid (Se.keys_len Se.m0)
  have HFB := Lib.hid Se.fix_body
  generalize hK : Se.keys Se.m0 = K at *
  have ho2 : Only (fun _ => False) w1 (w1.alloc (.cells (K.map byteV).toArray 29)) := Only.alloc _
  have hb2 := Blk.new w1 (K.map byteV) 29
  have HO2 := Lib.hid (ho1.trans ho2); have HB2 := Lib.hid hb2
  clear ho1 ho2 hb2 hK HFM HBU
  go_wp2_with (first
    | (refine wpList_store_row rfl 29 (.tmp 1) (.tmp 8) rfl w1.heap.size (K.map byteV).toArray rfl rfl 29 Z (heap_alloc_last _ _) (size_keys HKL.out) (by rw [HZ.out]; simp [ocells, HKL.out]) (oneCell_bytes _) ?_; rw [World.setRow_alloc_new]; generalize w1.alloc (.cells (K.map byteV).toArray 29) = w2 at *)
    | (refine wpList_load_row rfl 29 (.tmp 1) rfl w1.heap.size rfl 29 (K.map byteV).toArray (0, 0) _ HB2.out.heap Tryd.underlying29 rfl (size_keys HKL.out) ?_))
  change Calls _ _ _ ((w2.alloc (.cells (([99] : List UInt8).map byteV).toArray 5 (1, 1 + 1))).alloc (.cells (Se.hello.map byteV).toArray 5 (5, 5 + 1))) _
  have hh1 : (w2.alloc (.cells (([99] : List UInt8).map byteV).toArray 5 (1, 1 + 1))).heap[w2.heap.size]? = some (.cells (([99] : List UInt8).map byteV).toArray 5 (1, 1 + 1)) := heap_alloc_last _ _
  have hh2 : ((w2.alloc (.cells (([99] : List UInt8).map byteV).toArray 5 (1, 1 + 1))).alloc (.cells (Se.hello.map byteV).toArray 5 (5, 5 + 1))).heap[w2.heap.size + 1]? = some (.cells (Se.hello.map byteV).toArray 5 (5, 5 + 1)) := by
    have := heap_alloc_last (w2.alloc (.cells (([99] : List UInt8).map byteV).toArray 5 (1, 1 + 1))) (.cells (Se.hello.map byteV).toArray 5 (5, 5 + 1))
    rwa [World.size_alloc] at this
  have ho3 : Only (fun _ => False) w2 ((w2.alloc (.cells (([99] : List UInt8).map byteV).toArray 5 (1, 1 + 1))).alloc (.cells (Se.hello.map byteV).toArray 5 (5, 5 + 1))) := (Only.alloc _).trans (Only.alloc _)
  have hx1 : BytesAt ((w2.alloc (.cells (([99] : List UInt8).map byteV).toArray 5 (1, 1 + 1))).alloc (.cells (Se.hello.map byteV).toArray 5 (5, 5 + 1))) (fun k => k < ((w2.alloc (.cells (([99] : List UInt8).map byteV).toArray 5 (1, 1 + 1))).alloc (.cells (Se.hello.map byteV).toArray 5 (5, 5 + 1))).heap.size) (.slice (some ⟨w2.heap.size, 0, none⟩) 1 1) [99] := marked_here (bs := [99]) (c := 1) hh1 (by decide) (Only.alloc _)
  have hx2 : BytesAt ((w2.alloc (.cells (([99] : List UInt8).map byteV).toArray 5 (1, 1 + 1))).alloc (.cells (Se.hello.map byteV).toArray 5 (5, 5 + 1))) (fun k => k < ((w2.alloc (.cells (([99] : List UInt8).map byteV).toArray 5 (1, 1 + 1))).alloc (.cells (Se.hello.map byteV).toArray 5 (5, 5 + 1))).heap.size) (.slice (some ⟨w2.heap.size + 1, 0, none⟩) 5 5) Se.hello := marked_here (bs := Se.hello) (c := 5) hh2 (by decide) (Only.refl _ _)
  generalize (w2.alloc (.cells (([99] : List UInt8).map byteV).toArray 5 (1, 1 + 1))).alloc (.cells (Se.hello.map byteV).toArray 5 (5, 5 + 1)) = w3 at *
  have HO3 := Lib.hid (HO2.out.trans ho3); have HB3 := Lib.hid (HB2.out.keep ho3 (fun x => x))
  have HSE := Lib.hid (seal_any (kind := 2) HKL.out hx1 hx2 (fun _ h => h) ⟨by decide⟩ (HF.out.only HO3.out (fun x => x)) (HT.out.only HO3.out (fun x => x)))
  clear hh1 hh2 hx1 hx2 ho3 HO2 HB2
  refine HSE.out.mono ?_
  rintro e w4 ⟨ba, bc, rfl, hr4⟩
  have HBT := Lib.hid (Se.blob_takes K 2 [99] Se.hello); have HBP := Lib.hid (Se.blob_plain K 2 [99] Se.hello); have HBO := Lib.hid (Se.blob_other K 2 [99] Se.hello (k := 3) (by decide) [99])
  have hbl : (Se.blob K 2 [99] Se.hello).length = 50 := Se.blob_len' K 2 [99] Se.hello
  have hbd : ((Se.blob K 2 [99] Se.hello).drop 13).take 5 = [214, 221, 65, 192, 233] := by
    rw [Se.blob_drop13, HFB.out]; rfl
  have HO4 := Lib.hid (HO3.out.trans hr4.only); have HB4 := Lib.hid (HB3.out.keep hr4.only (fun x => x)); have HBY4 := Lib.hid hr4.bytes
  clear hr4 HSE HO3 HB3 HFB
  generalize hB : Se.blob K 2 [99] Se.hello = B at *
  have HBL := Lib.hid hbl; have HBD := Lib.hid hbd
  rw [hbl] at HBY4
  rw [hbl]
  clear hbl hbd hB
  go_wp2_with (refine wpList_load_row rfl 29 (.tmp 1) rfl w1.heap.size rfl 29 (K.map byteV).toArray (0, 0) _ HB4.out.heap Tryd.underlying29 rfl (size_keys HKL.out) ?_)
  change Calls _ _ _ (w4.alloc (.cells (([99] : List UInt8).map byteV).toArray 5 (1, 1 + 1))) _
  have hh : (w4.alloc (.cells (([99] : List UInt8).map byteV).toArray 5 (1, 1 + 1))).heap[w4.heap.size]? = some (.cells (([99] : List UInt8).map byteV).toArray 5 (1, 1 + 1)) := heap_alloc_last _ _
  have ho : Only (fun _ => False) w4 (w4.alloc (.cells (([99] : List UInt8).map byteV).toArray 5 (1, 1 + 1))) := Only.alloc _
  generalize w4.alloc (.cells (([99] : List UInt8).map byteV).toArray 5 (1, 1 + 1)) = w5 at *
  have hx : BytesAt w5 (fun k => k < w5.heap.size) (.slice (some ⟨w4.heap.size, 0, none⟩) 1 1) [99] := marked_here (bs := [99]) (c := 1) hh (by decide) (Only.refl _ _)
  have HO5 := Lib.hid (HO4.out.trans ho); have HB5 := Lib.hid (HB4.out.keep ho (fun x => x)); have HBY5 := Lib.hid (HBY4.out.here ho (fun _ h => h))
  have HOP := Lib.hid (open_any (kind := 2) HKL.out hx HBY5.out (fun _ h => h) ⟨by rw [HBL.out]; decide⟩ (HF.out.only HO5.out (fun x => x)) (HT.out.only HO5.out (fun x => x)))
  clear hh hx ho HO4 HB4 HBY4
  refine HOP.out.mono ?_
  rintro e w6 (⟨_, pa, pc, rfl, hr6⟩ | ⟨hn, _⟩)
  case inr => exact (hn HBT.out).elim
  rw [HBP.out] at hr6
  rw [HBP.out]
  have HO6 := Lib.hid (HO5.out.trans hr6.only); have HB6 := Lib.hid (HB5.out.keep hr6.only (fun x => x)); have HBY6 := Lib.hid (HBY5.out.here hr6.only (fun _ h => h)); have HPY6 := Lib.hid hr6.bytes
  clear hr6 HOP HO5 HB5 HBY5 HBT
  go_wp2_with (refine wpList_load_row rfl 29 (.tmp 1) rfl w1.heap.size rfl 29 (K.map byteV).toArray (0, 0) _ HB6.out.heap Tryd.underlying29 rfl (size_keys HKL.out) ?_)
  change Calls _ _ _ (w6.alloc (.cells (([99] : List UInt8).map byteV).toArray 5 (1, 1 + 1))) _
  have hh : (w6.alloc (.cells (([99] : List UInt8).map byteV).toArray 5 (1, 1 + 1))).heap[w6.heap.size]? = some (.cells (([99] : List UInt8).map byteV).toArray 5 (1, 1 + 1)) := heap_alloc_last _ _
  have ho : Only (fun _ => False) w6 (w6.alloc (.cells (([99] : List UInt8).map byteV).toArray 5 (1, 1 + 1))) := Only.alloc _
  generalize w6.alloc (.cells (([99] : List UInt8).map byteV).toArray 5 (1, 1 + 1)) = w7 at *
  have hx : BytesAt w7 (fun k => k < w7.heap.size) (.slice (some ⟨w6.heap.size, 0, none⟩) 1 1) [99] := marked_here (bs := [99]) (c := 1) hh (by decide) (Only.refl _ _)
  have HO7 := Lib.hid (HO6.out.trans ho); have HB7 := Lib.hid (HB6.out.keep ho (fun x => x)); have HBY7 := Lib.hid (HBY6.out.here ho (fun _ h => h)); have HPY7 := Lib.hid (HPY6.out.here ho (fun _ h => h))
  have HOP := Lib.hid (open_any (kind := 3) HKL.out hx HBY7.out (fun _ h => h) ⟨by rw [HBL.out]; decide⟩ (HF.out.only HO7.out (fun x => x)) (HT.out.only HO7.out (fun x => x)))
  clear hh hx ho HO6 HB6 HBY6
  refine HOP.out.mono ?_
  rintro e w8 (⟨hn, _⟩ | ⟨_, rfl, ho8⟩)
  case inl => exact (HBO.out hn).elim
  have HO8 := Lib.hid (HO7.out.trans ho8)
  have hBY := HBY7.out.here ho8 (fun _ h => h)
  rw [← HBL.out] at hBY
  obtain ⟨u, hu1, hu2⟩ := piece_at hBY (i := 13) (j := 18) (by omega) (by rw [HBL.out]; omega)
  have hu3 := hu2.text
  rw [show 18 - 13 = 5 from rfl, HBD.out] at hu3
  rw [HBL.out] at hu1
  have hu4 : ∀ W : World, (Instr.slice 23 (.slice ba 50 bc) (some (.int .i64 13)) (some (.int .i64 18)) none).run Tryd.prog W = .ok u W := hu1
  have hpt : (convert 23 9 (.slice pa 5 pc)).run Tryd.prog w8 = .ok (.string ⟨#[104, 101, 108, 108, 111]⟩) w8 := (HPY7.out.here ho8 (fun _ h => h)).text

  clear hBY hu2 hu1 ho8 HOP HO7 HB7 HBY7 HPY7 HPY6 HBL HBD HBP HBO kc kc2 hzk
  have heq : ∀ W, (binOp .eql 42 (.iface 45 (.int .i64 10)) (.iface 45 (.int .i64 10))).run Tryd.prog W = .ok (.bool true) W := fun W => by kernel_rfl
  unfold Se.hello at *
  go_wp2
  go_ret
  exact ⟨rfl, HO8.out⟩

set_option maxRecDepth 100000 in
theorem large5_any {w : World} {S : Nat → Prop} {v : Value} {ps : List (List UInt8)} (hv : PartsAt w S v ps) (hl : ∀ p ∈ ps, p.length ≤ 140737488355328) (hn : ps.length ≤ 140737488355328) :
    Calls Tryd.prog 10 #[v] w fun e w' => e = .returned (.bool (decide (8192 < tot ps))) ∧ w = w' := by
  have hs := numSum_any (most := 1048576) hv hl hn (Nat.le_refl _)
  have HS := Lib.hid (show Calls Tryd.prog 27 #[v, .int .i64 1048576] w _ from hs)
  have he : htot ps = tot ps := rfl
  rw [he] at HS
  obtain ⟨va, vc, rfl, -, -⟩ := hv
  clear hs hl hn he
  by_cases hb : 8192 < tot ps
  · have h1 : ((min (tot ps) 1048576 : Nat) : Int) > 8192 := by omega
    generalize ((min (tot ps) 1048576 : Nat) : Int) = q at *
    go_enter Tryd.func10, Tryd.ntmps10
    go_wp2_with (go_at_call 27; refine HS.out.mono ?_; rintro e w1 ⟨rfl, rfl⟩)
    go_ret
    exact ⟨by rw [decide_eq_true hb]; rfl, rfl⟩
  · have h1 : ¬ ((min (tot ps) 1048576 : Nat) : Int) > 8192 := by omega
    generalize ((min (tot ps) 1048576 : Nat) : Int) = q at *
    go_enter Tryd.func10, Tryd.ntmps10
    go_wp2_with (go_at_call 27; refine HS.out.mono ?_; rintro e w1 ⟨rfl, rfl⟩)
    go_ret
    exact ⟨by rw [decide_eq_false hb]; show Ending.returned (Value.bool (decide (8192 < q))) = _; rw [decide_eq_false (by omega)], rfl⟩

end Go.Proofs.YtgdnmbchhfbjoaaDoor

namespace Go.Proofs.YtgdnmbchhfbjoaaDoor
open Go.RowKit

theorem split_next {α : Type} (cs : List α) (a b : Nat) : cs.drop a = (cs.drop a).take b ++ cs.drop (a + b) := by
  rw [← List.drop_drop, List.take_append_drop]
theorem split4 {α : Type} (cs : List α) (a b c d : Nat) (h : cs.length = a + b + c + d) : cs = cs.take a ++ ((cs.drop a).take b ++ ((cs.drop (a + b)).take c ++ (cs.drop (a + b + c)).take d)) := by
  have h1 := split_next cs a b
  have h2 := split_next cs (a + b) c
  have h3 : (cs.drop (a + b + c)).take d = cs.drop (a + b + c) := List.take_of_length_le (by simp; omega)
  rw [h3, ← h2, ← h1, List.take_append_drop]
theorem split3 {α : Type} (cs : List α) (a b c : Nat) (h : cs.length = a + b + c) : cs = cs.take a ++ ((cs.drop a).take b ++ (cs.drop (a + b)).take c) := by
  have h1 := split_next cs a b
  have h3 : (cs.drop (a + b)).take c = cs.drop (a + b) := List.take_of_length_le (by simp; omega)
  rw [h3, ← h1, List.take_append_drop]

/-- The bytes of a Keys. -/
theorem keys_open {H : Type} {enc : TypeId × Value → H} {w : World} {base : Nat} {spare : Nat → Bool} {held : Bool} {fuel : Nat} {cs : List Value} {x : DataW H × List MemPlace} (h : DataW.trod enc Tryd.prog w base spare held fuel 29 cs = some x) :
    ∃ ks : List UInt8, cs = ks.map byteV ∧ ks.length = 96 := by
  obtain ⟨y0, y1, y2, n, rfl, hl, f0, f1, f2⟩ := Deep.trod_struct3 Tryd.underlying29 h
  have hcl : Tryd.prog.cellsOf 29 = 96 := by kernel_rfl
  have hc0 : Tryd.prog.cellsOf 22 = 32 := by kernel_rfl
  rw [hcl] at hl
  simp only [hc0, List.drop_zero] at f0 f1 f2
  obtain ⟨k0, e0, l0⟩ := arr_open Tryd.underlying22 hc0 f0
  obtain ⟨k1, e1, l1⟩ := arr_open Tryd.underlying22 hc0 f1
  obtain ⟨k2, e2, l2⟩ := arr_open Tryd.underlying22 hc0 f2
  refine ⟨k0 ++ (k1 ++ k2), ?_, by simp [l0, l1, l2]⟩
  rw [split3 cs 32 32 32 hl, e0, e1, e2]
  simp

set_option maxRecDepth 100000 in
theorem keys_arg {H : Type} {enc : TypeId × Value → H} {W : World} {b0 : Nat} {v : Value} {d : DataW H} {p : List MemPlace} (hv : Value.okWide Tryd.prog W .any b0 29 v) (h : DataW.Trod enc Tryd.prog W 0 (fun _ => true) true 29 v d p) :
    ∃ ks : List UInt8, v = digV ks ∧ ks.length = 96 := by
  unfold Value.okWide at hv
  rw [Tryd.underlying29] at hv
  obtain ⟨cs, rfl, _, _⟩ := hv
  obtain ⟨fuel, h⟩ := h
  obtain ⟨ks, hcs, hl⟩ := keys_open h
  refine ⟨ks, ?_, hl⟩
  unfold digV
  congr 1
  exact Array.toList_inj.1 (by simpa [Value.cells] using hcs)

theorem byte_open {H : Type} {enc : TypeId × Value → H} {w : World} {base : Nat} {spare : Nat → Bool} {held : Bool} {fuel : Nat} {cs : List Value} {x : DataW H × List MemPlace} (h : DataW.trod enc Tryd.prog w base spare held fuel 5 cs = some x) : ∃ b : UInt8, cs = [byteV b] := by
  obtain ⟨k, e1, _, hw⟩ := DataW.trod_int Tryd.underlying5 h
  have hb := bounds_u8 hw
  refine ⟨UInt8.ofNat k.toNat, ?_⟩
  rw [e1]
  unfold byteV
  congr 2
  simp only [UInt8.toNat_ofNat']
  omega

/-- The cells of a Case and of a Blob: a row of bytes, a kind, two rows. -/
def case5 (m : List UInt8) (kind : UInt8) (vc vp : Value) : List Value := m.map byteV ++ ([byteV kind] ++ ([vc] ++ [vp]))

set_option maxRecDepth 100000 in
theorem case5_arg {H : Type} {enc : TypeId × Value → H} {W : World} {b0 : Nat} {v : Value} {d : DataW H} {p : List MemPlace} (hv : Value.okWide Tryd.prog W .any b0 25 v) (h : DataW.Trod enc Tryd.prog W 0 (fun _ => true) true 25 v d p) (hz : Small 25 d) :
    ∃ m kind vc vp ctx pl, v = .agg (case5 m kind vc vp).toArray ∧ m.length = 32 ∧ BytesAt W (fun k => k < W.heap.size) vc ctx ∧ BytesAt W (fun k => k < W.heap.size) vp pl ∧ ctx.length ≤ 140737488351232 ∧ pl.length ≤ 140737488351232 := by
  unfold Value.okWide at hv
  rw [Tryd.underlying25] at hv
  obtain ⟨cs, rfl, _, _⟩ := hv
  obtain ⟨fuel, h⟩ := h
  obtain ⟨y0, y1, y2, y3, n, e, hl, f0, f1, f2, f3⟩ := Joins.trod_struct4 Tryd.underlying25 h
  obtain ⟨rfl, rfl⟩ := Prod.mk.inj e
  have hcl : Tryd.prog.cellsOf 25 = 35 := by kernel_rfl
  have hc0 : Tryd.prog.cellsOf 22 = 32 := by kernel_rfl
  have hc1 : Tryd.prog.cellsOf 5 = 1 := by kernel_rfl
  have hc3 : Tryd.prog.cellsOf 23 = 1 := by kernel_rfl
  rw [hcl] at hl
  simp only [hc0, hc1, hc3, List.drop_zero] at f0 f1 f2 f3
  obtain ⟨m, e0, hm⟩ := arr_open Tryd.underlying22 hc0 f0
  obtain ⟨kind, e1⟩ := byte_open f1
  obtain ⟨vc, ctx, e2, hb2, hd2⟩ := bytes_open f2 (fun q hq => hz q (by
    simp only [DataW.weights, Tryd.underlying25, DataW.weightsEach, List.map_cons, List.map_nil, List.mem_append]
    exact .inr (.inr (.inl hq))))
  obtain ⟨vp, pl, e3, hb3, hd3⟩ := bytes_open f3 (fun q hq => hz q (by
    simp only [DataW.weights, Tryd.underlying25, DataW.weightsEach, List.map_cons, List.map_nil, List.mem_append]
    exact .inr (.inr (.inr (.inl hq)))))
  refine ⟨m, kind, vc, vp, ctx, pl, ?_, hm, hb2, hb3, hd2, hd3⟩
  congr 1
  apply Array.toList_inj.1
  have := split4 _ 32 1 1 1 hl
  rw [e0, e1, e2, e3] at this
  simpa [Value.cells, case5] using this

set_option maxRecDepth 100000 in
theorem blob5_arg {H : Type} {enc : TypeId × Value → H} {W : World} {b0 : Nat} {v : Value} {d : DataW H} {p : List MemPlace} (hv : Value.okWide Tryd.prog W .any b0 38 v) (h : DataW.Trod enc Tryd.prog W 0 (fun _ => true) true 38 v d p) (hz : Small 38 d) :
    ∃ m kind vc vp ctx pl, v = .agg (case5 m kind vc vp).toArray ∧ m.length = 96 ∧ BytesAt W (fun k => k < W.heap.size) vc ctx ∧ BytesAt W (fun k => k < W.heap.size) vp pl ∧ ctx.length ≤ 140737488351232 ∧ pl.length ≤ 140737488351232 := by
  unfold Value.okWide at hv
  rw [Tryd.underlying38] at hv
  obtain ⟨cs, rfl, _, _⟩ := hv
  obtain ⟨fuel, h⟩ := h
  obtain ⟨y0, y1, y2, y3, n, e, hl, f0, f1, f2, f3⟩ := Joins.trod_struct4 Tryd.underlying38 h
  obtain ⟨rfl, rfl⟩ := Prod.mk.inj e
  have hcl : Tryd.prog.cellsOf 38 = 99 := by kernel_rfl
  have hc0 : Tryd.prog.cellsOf 29 = 96 := by kernel_rfl
  have hc1 : Tryd.prog.cellsOf 5 = 1 := by kernel_rfl
  have hc3 : Tryd.prog.cellsOf 23 = 1 := by kernel_rfl
  rw [hcl] at hl
  simp only [hc0, hc1, hc3, List.drop_zero] at f0 f1 f2 f3
  obtain ⟨m, e0, hm⟩ := keys_open f0
  obtain ⟨kind, e1⟩ := byte_open f1
  obtain ⟨vc, ctx, e2, hb2, hd2⟩ := bytes_open f2 (fun q hq => hz q (by
    simp only [DataW.weights, Tryd.underlying38, DataW.weightsEach, List.map_cons, List.map_nil, List.mem_append]
    exact .inr (.inr (.inl hq))))
  obtain ⟨vp, pl, e3, hb3, hd3⟩ := bytes_open f3 (fun q hq => hz q (by
    simp only [DataW.weights, Tryd.underlying38, DataW.weightsEach, List.map_cons, List.map_nil, List.mem_append]
    exact .inr (.inr (.inr (.inl hq)))))
  refine ⟨m, kind, vc, vp, ctx, pl, ?_, hm, hb2, hb3, hd2, hd3⟩
  congr 1
  apply Array.toList_inj.1
  have := split4 _ 96 1 1 1 hl
  rw [e0, e1, e2, e3] at this
  simpa [Value.cells, case5] using this

/-- The cells of a Locked. -/
def locked5 (pw salt m : List UInt8) (vf : Value) : List Value := [textV pw] ++ (salt.map byteV ++ (m.map byteV ++ [vf]))

set_option maxRecDepth 100000 in
theorem locked5_arg {H : Type} {enc : TypeId × Value → H} {W : World} {b0 : Nat} {v : Value} {d : DataW H} {p : List MemPlace} (hv : Value.okWide Tryd.prog W .any b0 49 v) (h : DataW.Trod enc Tryd.prog W 0 (fun _ => true) true 49 v d p) (hz : Small 49 d) :
    ∃ pw salt m vf file, v = .agg (locked5 pw salt m vf).toArray ∧ salt.length = 16 ∧ m.length = 32 ∧ BytesAt W (fun k => k < W.heap.size) vf file ∧ file.length ≤ 140737488351232 ∧ pw.length ≤ maxLen := by
  unfold Value.okWide at hv
  rw [Tryd.underlying49] at hv
  obtain ⟨cs, rfl, _, _⟩ := hv
  obtain ⟨fuel, h⟩ := h
  obtain ⟨y0, y1, y2, y3, n, e, hl, f0, f1, f2, f3⟩ := Joins.trod_struct4 Tryd.underlying49 h
  obtain ⟨rfl, rfl⟩ := Prod.mk.inj e
  have hcl : Tryd.prog.cellsOf 49 = 50 := by kernel_rfl
  have hc0 : Tryd.prog.cellsOf 9 = 1 := by kernel_rfl
  have hc1 : Tryd.prog.cellsOf 47 = 16 := by kernel_rfl
  have hc2 : Tryd.prog.cellsOf 22 = 32 := by kernel_rfl
  have hc3 : Tryd.prog.cellsOf 23 = 1 := by kernel_rfl
  rw [hcl] at hl
  simp only [hc0, hc1, hc2, hc3, List.drop_zero] at f0 f1 f2 f3
  obtain ⟨s, e0, _, hsz⟩ := DataW.trod_string Tryd.underlying9 f0
  obtain ⟨salt, e1, hs⟩ := arr_open Tryd.underlying47 hc1 f1
  obtain ⟨m, e2, hm⟩ := arr_open Tryd.underlying22 hc2 f2
  obtain ⟨vf, file, e3, hb3, hd3⟩ := bytes_open f3 (fun q hq => hz q (by
    simp only [DataW.weights, Tryd.underlying49, DataW.weightsEach, List.map_cons, List.map_nil, List.mem_append]
    exact .inr (.inr (.inr (.inl hq)))))
  refine ⟨s.data.toList, salt, m, vf, file, ?_, hs, hm, hb3, hd3, by rw [Array.length_toList]; exact hsz⟩
  congr 1
  apply Array.toList_inj.1
  have := split4 _ 1 16 32 1 hl
  rw [e0, e1, e2, e3] at this
  simpa [Value.cells, locked5, textV] using this

end Go.Proofs.YtgdnmbchhfbjoaaDoor

namespace Go.Proofs.YtgdnmbchhfbjoaaDoor
open Go.RowKit

/-- A Case or a Blob that was boxed in block g. -/
structure Box5 (w : World) (g n : Nat) (t : TypeId) (m : List UInt8) (kind : UInt8) (vc vp : Value) : Prop where
  blk : Blk w g (case5 m kind vc vp) t
  len : m.length = n

theorem Box5.keep {w w' : World} {g n : Nat} {t : TypeId} {m : List UInt8} {kind : UInt8} {vc vp : Value} (h : Box5 w g n t m kind vc vp) (ho : Only (fun _ => False) w w') : Box5 w' g n t m kind vc vp := ⟨h.blk.keep ho (fun x => x), h.len⟩
theorem Box5.m {w : World} {g n : Nat} {t : TypeId} {m : List UInt8} {kind : UInt8} {vc vp : Value} (h : Box5 w g n t m kind vc vp) : w.rangeAt g 0 (m.map byteV) := h.blk.range fun j v hv => by
  rw [Nat.zero_add]
  unfold case5
  rw [List.getElem?_append_left (List.getElem?_eq_some_iff.1 hv).1]
  exact hv
theorem Box5.rest {w : World} {g n : Nat} {t : TypeId} {m : List UInt8} {kind : UInt8} {vc vp : Value} (h : Box5 w g n t m kind vc vp) :
    w.cell? ⟨g, n, none⟩ = some (.int .u8 (kind.toNat : Int)) ∧ w.cell? ⟨g, n + 1, none⟩ = some vc ∧ w.cell? ⟨g, n + 2, none⟩ = some vp := by
  have hl := h.len
  refine ⟨?_, ?_, ?_⟩
  · rw [h.blk.cell]
    unfold case5
    rw [List.getElem?_append_right (by rw [List.length_map]; omega), List.length_map, hl, Nat.sub_self]
    rfl
  · rw [h.blk.cell]
    unfold case5
    rw [List.getElem?_append_right (by rw [List.length_map]; omega), List.length_map, hl, show n + 1 - n = 1 by omega]
    rfl
  · rw [h.blk.cell]
    unfold case5
    rw [List.getElem?_append_right (by rw [List.length_map]; omega), List.length_map, hl, show n + 2 - n = 2 by omega]
    rfl

theorem succ_ne (k : UInt8) : k + 1 ≠ k := fun h => by
  have h1 := congrArg UInt8.toNat h
  have h2 := k.toNat_lt
  rw [UInt8.toNat_add] at h1
  simp at h1
  omega
theorem succ_val (k : UInt8) : ((k.toNat : Int) + 1) % 256 = ((k + 1).toNat : Int) := by
  rw [UInt8.toNat_add]
  simp

set_option maxRecDepth 100000 in
set_option maxHeartbeats 2000000 in
theorem sealBack_any {w : World} {ks m : List UInt8} {kind : UInt8} {vc vp vs : Value} {ctx pl short : List UInt8} (hk : ks.length = 96) (hm : m.length = 32) (hc : BytesAt w (fun k => k < w.heap.size) vc ctx) (hp : BytesAt w (fun k => k < w.heap.size) vp pl) (hs : BytesAt w (fun k => k < w.heap.size) vs short)
    (l1 : ctx.length ≤ 140737488351232) (l2 : pl.length ≤ 140737488351232) (l3 : short.length ≤ 140737488351232) (hf : Fst w) (ht : Tab w) :
    Calls Tryd.prog 5 #[digV ks, .agg (case5 m kind vc vp).toArray, vs] w fun e w' => e = .returned (.bool true) ∧ Only (fun _ => False) w w' := by
  obtain ⟨ca, cc, rfl⟩ := hc.shape
  obtain ⟨pa, pc, rfl⟩ := hp.shape
  obtain ⟨sa, sc, rfl⟩ := hs.shape
  have ho1 : Only (fun _ => False) w ((w.alloc (.cells (ks.map byteV).toArray 29)).alloc (.cells (case5 m kind (.slice ca ctx.length cc) (.slice pa pl.length pc)).toArray 25)) := (Only.alloc _).trans (Only.alloc _)
  have hk1 := (Blk.new w (ks.map byteV) 29).alloc (.cells (case5 m kind (.slice ca ctx.length cc) (.slice pa pl.length pc)).toArray 25)
  have hb1 : Box5 ((w.alloc (.cells (ks.map byteV).toArray 29)).alloc (.cells (case5 m kind (.slice ca ctx.length cc) (.slice pa pl.length pc)).toArray 25)) (w.heap.size + 1) 32 25 m kind (.slice ca ctx.length cc) (.slice pa pl.length pc) := ⟨Blk.new1 _ _ _ _, hm⟩
  have HAL := Lib.hid (alive_any (hf.only ho1 (fun x => x)) (ht.only ho1 (fun x => x)))
  have HO1 := Lib.hid ho1; have HK1 := Lib.hid hk1; have HB1 := Lib.hid hb1; have HKL := Lib.hid hk; have HC := Lib.hid hc; have HP := Lib.hid hp; have HS := Lib.hid hs; have HF := Lib.hid hf; have HT := Lib.hid ht
  have HL1 := Lib.hid l1; have HL2 := Lib.hid l2; have HL3 := Lib.hid l3
  clear ho1 hk1 hb1 hk hm hc hp hs l1 l2 l3 hf ht
  unfold digV
  go_enter Tryd.func5, Tryd.ntmps5
  go_wp2_with fail
  refine HAL.out.mono ?_
  rintro e w2 ⟨rfl, ho2⟩
  have HO2 := Lib.hid (HO1.out.trans ho2); have HK2 := Lib.hid (HK1.out.keep ho2 (fun x => x)); have HB2 := Lib.hid (HB1.out.keep ho2)
  obtain ⟨c32, c33, c34⟩ := HB2.out.rest
  clear ho2 HAL HO1 HK1 HB1
  go_wp2_with fail
  have ho3 : Only (fun _ => False) w2 (w2.alloc (.cells #[.slice ca ctx.length cc, .slice pa pl.length pc, .slice sa short.length sc] 23)) := Only.alloc _
  have hb3 := Blk.new w2 [.slice ca ctx.length cc, .slice pa pl.length pc, .slice sa short.length sc] 23
  generalize w2.alloc (.cells #[.slice ca ctx.length cc, .slice pa pl.length pc, .slice sa short.length sc] 23) = w3 at *
  have HO3 := Lib.hid (HO2.out.trans ho3); have HK3 := Lib.hid (HK2.out.keep ho3 (fun x => x)); have HB3 := Lib.hid (HB2.out.keep ho3)
  have HLG := Lib.hid (large5_any (three_blk hb3 (HC.out.here HO3.out (fun _ h => h)) (HP.out.here HO3.out (fun _ h => h)) (HS.out.here HO3.out (fun _ h => h))) (fun p hp => by
    have h1 := HL1.out; have h2 := HL2.out; have h3 := HL3.out
    simp at hp
    rcases hp with rfl | rfl | rfl <;> omega) (by simp))
  clear ho3 hb3 c32 c33 c34 HO2 HK2 HB2 HL1 HL2 HL3
  refine HLG.out.mono ?_
  rintro e w3' ⟨rfl, rfl⟩
  clear HLG
  by_cases hbig : 8192 < tot [ctx, pl, short]
  · rw [decide_eq_true hbig]
    clear hbig
    go_wp2_with fail
    go_ret
    exact ⟨rfl, HO3.out⟩
  rw [decide_eq_false hbig]
  have hsum : ctx.length + pl.length + short.length ≤ 8192 := by simp [tot] at hbig; omega
  have HSU := Lib.hid hsum
  clear hsum hbig
  obtain ⟨c32, c33, c34⟩ := HB3.out.rest
  have HSE := Lib.hid (seal_any (kind := kind) HKL.out (HC.out.here HO3.out (fun _ h => h)) (HP.out.here HO3.out (fun _ h => h)) (fun _ h => h) ⟨by have := HSU.out; omega⟩ (HF.out.only HO3.out (fun x => x)) (HT.out.only HO3.out (fun x => x)))
  go_wp2_with (refine wpList_load_row rfl 29 (.tmp 3) rfl w.heap.size rfl 29 (ks.map byteV).toArray (0, 0) _ HK3.out.heap Tryd.underlying29 rfl (size_keys HKL.out) ?_)
  refine HSE.out.mono ?_
  rintro e w4 ⟨ba, bc, rfl, hr4⟩
  have HO4 := Lib.hid (HO3.out.trans hr4.only); have HK4 := Lib.hid (HK3.out.keep hr4.only (fun x => x)); have HB4 := Lib.hid (HB3.out.keep hr4.only); have HY4 := Lib.hid hr4.bytes
  have HBT := Lib.hid (Se.blob_takes ks kind ctx pl); have HBP := Lib.hid (Se.blob_plain ks kind ctx pl); have HBO := Lib.hid (Se.blob_other ks kind ctx pl (succ_ne kind) ctx); have HBH := Lib.hid (Se.blob_head ks kind ctx pl)
  have HBL := Lib.hid (Se.blob_len' ks kind ctx pl)
  clear hr4 HSE HO3 HK3 HB3 c32 c33 c34
  generalize Se.blob ks kind ctx pl = B at *
  have HLI : Hid (Lil ctx B) := ⟨by have := HSU.out; have := HBL.out; omega⟩
  obtain ⟨c32, c33, c34⟩ := HB4.out.rest
  have HOP := Lib.hid (open_any (kind := kind) HKL.out (HC.out.here HO4.out (fun _ h => h)) HY4.out (fun _ h => h) HLI.out (HF.out.only HO4.out (fun x => x)) (HT.out.only HO4.out (fun x => x)))
  go_wp2_with (refine wpList_load_row rfl 29 (.tmp 3) rfl w.heap.size rfl 29 (ks.map byteV).toArray (0, 0) _ HK4.out.heap Tryd.underlying29 rfl (size_keys HKL.out) ?_)
  refine HOP.out.mono ?_
  rintro e w5 (⟨_, qa, qc, rfl, hr5⟩ | ⟨hn, _⟩)
  case inr => exact (hn HBT.out).elim
  rw [HBP.out] at hr5
  rw [HBP.out]
  have HO5 := Lib.hid (HO4.out.trans hr5.only); have HK5 := Lib.hid (HK4.out.keep hr5.only (fun x => x)); have HB5 := Lib.hid (HB4.out.keep hr5.only); have HY5 := Lib.hid (HY4.out.here hr5.only (fun _ h => h)); have HQ5 := Lib.hid hr5.bytes
  clear hr5 HOP HO4 HK4 HB4 HY4 c32 c33 c34 HBT HBP
  obtain ⟨c32, c33, c34⟩ := HB5.out.rest
  have HOP := Lib.hid (open_any (kind := kind + 1) HKL.out (HC.out.here HO5.out (fun _ h => h)) HY5.out (fun _ h => h) HLI.out (HF.out.only HO5.out (fun x => x)) (HT.out.only HO5.out (fun x => x)))
  go_wp2_with (refine wpList_load_row rfl 29 (.tmp 3) rfl w.heap.size rfl 29 (ks.map byteV).toArray (0, 0) _ HK5.out.heap Tryd.underlying29 rfl (size_keys HKL.out) ?_)
  rw [succ_val kind]
  refine HOP.out.mono ?_
  rintro e w6 (⟨hn, _⟩ | ⟨_, rfl, ho6⟩)
  case inl => exact (HBO.out hn).elim
  have hq : ∀ n, (convert 23 9 (.slice qa pl.length qc)).run Tryd.prog (w6.drewN n) = .ok (.string ⟨pl.toArray⟩) (w6.drewN n) := fun n => (HQ5.out.here (ho6.trans (Only.drewN n)) (fun _ h => h)).text
  have hpt : ∀ n, (convert 23 9 (.slice pa pl.length pc)).run Tryd.prog (w6.drewN n) = .ok (.string ⟨pl.toArray⟩) (w6.drewN n) := fun n => (HP.out.here (HO5.out.trans (ho6.trans (Only.drewN n))) (fun _ h => h)).text
  have HO6 := Lib.hid (HO5.out.trans ho6); have HK6 := Lib.hid (HK5.out.keep ho6 (fun x => x)); have HB6 := Lib.hid (HB5.out.keep ho6)
  obtain ⟨ad, rfl, hcell⟩ := (HY5.out.here ho6 (fun _ h => h)).byte (i := 0) (by have := HBL.out; omega)
  rw [show B.getD 0 0 = kind by rw [List.getD, HBH.out]; rfl, show ad.add 0 = ad from rfl] at hcell
  obtain ⟨d32, d33, d34⟩ := HB6.out.rest
  have hlen : IntKind.i64.wrap ((pl.length : Int) + 45) = (pl.length : Int) + 45 := by rw [IntKind.wrap_i64]; have := HSU.out; omega
  have heqt : ∀ W, (binOp .eql 42 (.iface 45 (.int .i64 10)) (.iface 45 (.int .i64 10))).run Tryd.prog W = .ok (.bool true) W := fun W => by kernel_rfl
  have heqn : ∀ W, (binOp .neq 42 (.iface 45 (.int .i64 10)) (.iface 45 (.int .i64 10))).run Tryd.prog W = .ok (.bool false) W := fun W => by kernel_rfl
  clear ho6 HOP HO5 HK5 HB5 HY5 HQ5 c32 c33 c34 HBO HBH HP HLI
  rw [HBL.out]
  go_wp2_with fail
  go_quiet ((fail))
  clear hcell d32 d33 d34 hq hpt hlen heqn
  have HO7 : Hid (Only (fun _ => False) w (w6.drewN nq)) := HO6.out.trans (Only.drewN nq)
  have HK7 : Hid (Blk (w6.drewN nq) w.heap.size (ks.map byteV) 29) := HK6.out.drewN nq
  have HB7 : Hid (Box5 (w6.drewN nq) (w.heap.size + 1) 32 25 m kind (.slice ca ctx.length cc) (.slice pa pl.length pc)) := HB6.out.keep (Only.drewN nq)
  clear HO6 HK6 HB6
  generalize w6.drewN nq = w7 at *
  by_cases hsh : short.length < 45
  · have hshi : (short.length : Int) < 45 := by omega
    obtain ⟨c32, c33, c34⟩ := HB7.out.rest
    have HNT : Hid (¬ Se.Takes ks kind ctx short) := fun h => by have := h.1; omega
    have HOP := Lib.hid (open_any (kind := kind) HKL.out (HC.out.here HO7.out (fun _ h => h)) (HS.out.here HO7.out (fun _ h => h)) (fun _ h => h) ⟨by have := HSU.out; omega⟩ (HF.out.only HO7.out (fun x => x)) (HT.out.only HO7.out (fun x => x)))
    clear hsh
    go_wp2_with (refine wpList_load_row rfl 29 (.tmp 3) rfl w.heap.size rfl 29 (ks.map byteV).toArray (0, 0) _ HK7.out.heap Tryd.underlying29 rfl (size_keys HKL.out) ?_)
    refine HOP.out.mono ?_
    rintro e w8 (⟨hn, _⟩ | ⟨_, rfl, ho8⟩)
    case inl => exact (HNT.out hn).elim
    have HO8 := Lib.hid (HO7.out.trans ho8)
    clear ho8 HOP c32 c33 c34
    go_wp2
    go_ret
    exact ⟨rfl, HO8.out⟩
  · have hshi : ¬ (short.length : Int) < 45 := by omega
    go_wp2
    go_ret
    exact ⟨rfl, HO7.out⟩

end Go.Proofs.YtgdnmbchhfbjoaaDoor
