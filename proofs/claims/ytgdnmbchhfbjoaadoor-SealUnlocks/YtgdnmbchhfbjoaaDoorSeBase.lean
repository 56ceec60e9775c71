/- Pure: what is sealed, opened, named and locked; plain laws on rows and blocks that layer 5 asks for. Conditions: none. -/
import Derived.Test.YtgdnmbchhfbjoaaDoorSeCat
import Derived.Test.YtgdnmbchhfbjoaaDoorHDerive
import Derived.Test.YtgdnmbchhfbjoaaDoorHEqual
import Derived.Test.YtgdnmbchhfbjoaaDoorCXor
import Derived.Lib.SlBytesConst
namespace Go.Proofs.YtgdnmbchhfbjoaaDoor
open Go.RowKit

namespace Se
/-- The three keys side by side. -/
def cipher (K : List UInt8) : List UInt8 := K.take 32
def mac (K : List UInt8) : List UInt8 := (K.drop 32).take 32
def name (K : List UInt8) : List UInt8 := (K.drop 64).take 32
/-- A text's bytes. -/
def amphora : List UInt8 := [97, 109, 112, 104, 111, 114, 97]
def amphora1 : List UInt8 := [97, 109, 112, 104, 111, 114, 97, 49]
def chunk : List UInt8 := [99, 104, 117, 110, 107]
def tCipher : List UInt8 := [99, 105, 112, 104, 101, 114]
def tMac : List UInt8 := [109, 97, 99]
def tName : List UInt8 := [110, 97, 109, 101]
def tKey : List UInt8 := [107, 101, 121]
/-- The keys of a master. -/
def keys (m : List UInt8) : List UInt8 := derived amphora m tCipher 32 ++ derived amphora m tMac 32 ++ derived amphora m tName 32
def nonce (K : List UInt8) (kind : UInt8) (ctx pl : List UInt8) : List UInt8 := (Sh.mac (name K) (Wi.pack [[kind], ctx, pl])).take 12
def tag (K : List UInt8) (kind : UInt8) (ctx nn body : List UInt8) : List UInt8 := Sh.mac (mac K) (Wi.pack [[kind], ctx, nn, body])
def body (K : List UInt8) (nn pl : List UInt8) : List UInt8 := Ch.xor (cipher K) nn 0 pl
def blob (K : List UInt8) (kind : UInt8) (ctx pl : List UInt8) : List UInt8 :=
  [[kind], nonce K kind ctx pl, body K (nonce K kind ctx pl) pl, tag K kind ctx (nonce K kind ctx pl) (body K (nonce K kind ctx pl) pl)].flatten
def idOf (K pl : List UInt8) : List UInt8 := Sh.mac (name K) (Wi.pack [chunk, pl])
/-- A blob's parts. -/
def nonceIn (b : List UInt8) : List UInt8 := (b.drop 1).take 12
def bodyIn (b : List UInt8) : List UInt8 := (b.drop 13).take (b.length - 32 - 13)
def tagIn (b : List UInt8) : List UInt8 := b.drop (b.length - 32)
/-- Whether a blob is taken. -/
def Takes (K : List UInt8) (kind : UInt8) (ctx b : List UInt8) : Prop := 45 ≤ b.length ∧ b[0]? = some kind ∧ tag K kind ctx (nonceIn b) (bodyIn b) = tagIn b
def plain (K b : List UInt8) : List UInt8 := body K (nonceIn b) (bodyIn b)

theorem keys_len (m : List UInt8) : (keys m).length = 96 := by simp [keys, derived_len]
theorem cipher_len {K : List UInt8} (h : K.length = 96) : (cipher K).length = 32 := by simp [cipher, h]
theorem mac_len {K : List UInt8} (h : K.length = 96) : (mac K).length = 32 := by simp [mac, h]
theorem name_len {K : List UInt8} (h : K.length = 96) : (name K).length = 32 := by simp [name, h]
theorem nonce_len (K : List UInt8) (kind : UInt8) (ctx pl : List UInt8) : (nonce K kind ctx pl).length = 12 := by
  unfold nonce; rw [List.length_take, show (Sh.mac _ _).length = 32 from sum_len _]; rfl
theorem tag_len (K : List UInt8) (kind : UInt8) (ctx nn b : List UInt8) : (tag K kind ctx nn b).length = 32 := sum_len _
theorem id_len (K pl : List UInt8) : (idOf K pl).length = 32 := sum_len _
end Se

theorem size_keys {bs : List UInt8} (h : bs.length = 96) : (Tryd.prog.info? 29).map (·.size) = some (bs.map byteV).toArray.size := by
  have e : (bs.map byteV).toArray.size = 96 := by simp [h]
  have e2 : (Tryd.prog.info? 29).map (·.size) = some 96 := by kernel_rfl
  rw [e, e2]
theorem size_a16 {bs : List UInt8} (h : bs.length = 16) : (Tryd.prog.info? 47).map (·.size) = some (bs.map byteV).toArray.size := by
  have e : (bs.map byteV).toArray.size = 16 := by simp [h]
  have e2 : (Tryd.prog.info? 47).map (·.size) = some 16 := by kernel_rfl
  rw [e, e2]
theorem size_id {bs : List UInt8} (h : bs.length = 32) : (Tryd.prog.info? 33).map (·.size) = some (bs.map byteV).toArray.size := by
  have e : (bs.map byteV).toArray.size = 32 := by simp [h]
  have e2 : (Tryd.prog.info? 33).map (·.size) = some 32 := by kernel_rfl
  rw [e, e2]

theorem z12 : (ocells 12 []).toArray = #[.int .u8 0, .int .u8 0, .int .u8 0, .int .u8 0, .int .u8 0, .int .u8 0, .int .u8 0, .int .u8 0, .int .u8 0, .int .u8 0, .int .u8 0, .int .u8 0] := by kernel_rfl
theorem z16 : (ocells 16 []).toArray = #[.int .u8 0, .int .u8 0, .int .u8 0, .int .u8 0, .int .u8 0, .int .u8 0, .int .u8 0, .int .u8 0, .int .u8 0, .int .u8 0, .int .u8 0, .int .u8 0, .int .u8 0, .int .u8 0, .int .u8 0, .int .u8 0] := by kernel_rfl
theorem z32 : (ocells 32 []).toArray = #[.int .u8 0, .int .u8 0, .int .u8 0, .int .u8 0, .int .u8 0, .int .u8 0, .int .u8 0, .int .u8 0, .int .u8 0, .int .u8 0, .int .u8 0, .int .u8 0, .int .u8 0, .int .u8 0, .int .u8 0, .int .u8 0, .int .u8 0, .int .u8 0, .int .u8 0, .int .u8 0, .int .u8 0, .int .u8 0, .int .u8 0, .int .u8 0, .int .u8 0, .int .u8 0, .int .u8 0, .int .u8 0, .int .u8 0, .int .u8 0, .int .u8 0, .int .u8 0] := by kernel_rfl

/-- x[:] of an array. -/
theorem all_32 (g o : Nat) (W : World) : (Instr.sliceAt 22 (.pointer (some ⟨g, o, none⟩)) none none none).run Tryd.prog W = .ok (.slice (some ⟨g, o, none⟩) 32 32) W := by
  kernel_rfl
theorem all_12 (g o : Nat) (W : World) : (Instr.sliceAt 64 (.pointer (some ⟨g, o, none⟩)) none none none).run Tryd.prog W = .ok (.slice (some ⟨g, o, none⟩) 12 12) W := by
  kernel_rfl
theorem all_16 (g o : Nat) (W : World) : (Instr.sliceAt 47 (.pointer (some ⟨g, o, none⟩)) none none none).run Tryd.prog W = .ok (.slice (some ⟨g, o, none⟩) 16 16) W := by
  kernel_rfl

theorem ptr_32 (a : Option Addr) (n c : Nat) (h : 32 ≤ n) (W : World) : (Instr.arrayAt 22 (.slice a n c)).run Tryd.prog W = .ok (.pointer a) W := by
  have hn : ¬ n < 32 := by omega
  simp [Instr.arrayAt, run_underlying Tryd.underlying22, hn]
theorem ptr_12 (a : Option Addr) (n c : Nat) (h : 12 ≤ n) (W : World) : (Instr.arrayAt 64 (.slice a n c)).run Tryd.prog W = .ok (.pointer a) W := by
  have hn : ¬ n < 12 := by omega
  simp [Instr.arrayAt, run_underlying Tryd.underlying64, hn]
theorem ptr_16 (a : Option Addr) (n c : Nat) (h : 16 ≤ n) (W : World) : (Instr.arrayAt 47 (.slice a n c)).run Tryd.prog W = .ok (.pointer a) W := by
  have hn : ¬ n < 16 := by omega
  simp [Instr.arrayAt, run_underlying Tryd.underlying47, hn]

/-- A row of the call's own that is not empty lies at the begin of a block. -/
theorem own_range {w : World} {a : Option Addr} {n c : Nat} {bs : List UInt8} (h : w.ownsRow 0 5 1 (.slice a n c) n (bs.map byteV)) (hn : 0 < n) : ∃ g, a = some ⟨g, 0, none⟩ ∧ w.rangeAt g 0 (bs.map byteV) ∧ g < w.heap.size := by
  rcases h.2 with ⟨_, e0⟩ | ⟨g, cap, cur, e, _⟩
  · omega
  · obtain ⟨rfl, _, _⟩ := Value.slice.inj e
    exact ⟨g, rfl, fun j v hv => by have := h.cells (g := g) rfl j v hv; rwa [add_lit] at this, (h.lt g rfl).2⟩

/-- The bytes of a range of a block. -/
theorem BytesAt.of_range {w : World} {g o c : Nat} {bs : List UInt8} (hc : bs.length ≤ c) (h : w.rangeAt g o (bs.map byteV)) : BytesAt w (fun k => k = g) (.slice (some ⟨g, o, none⟩) bs.length c) bs := by
  refine .inr ⟨⟨g, o, none⟩, c, rfl, hc, fun _ => rfl, fun j x hx => ?_⟩
  rw [add_lit]
  exact h j _ (by rw [List.getElem?_map, hx]; rfl)

theorem Blk.mid {w : World} {g o n : Nat} {bs : List UInt8} {t : TypeId} (h : Blk w g (bs.map byteV) t) : w.rangeAt g o (((bs.drop o).take n).map byteV) := fun j v hv => by
  rw [h.cell, ← hv, List.getElem?_map, List.getElem?_map, List.getElem?_take]
  rw [List.getElem?_map, Option.map_eq_some_iff] at hv
  obtain ⟨x, hx, _⟩ := hv
  rw [List.getElem?_take] at hx
  split at hx
  · rename_i hlt; rw [if_pos hlt, List.getElem?_drop]
  · cases hx

theorem rangeAt_here {w w' : World} {g o : Nat} {cs : List Value} (h : w.rangeAt g o cs) (ho : Only (fun _ => False) w w') (hg : g < w.heap.size) : w'.rangeAt g o cs := fun j v hv => by
  rw [World.cell?_of_block (w := w) (a := ⟨g, o + j, none⟩) (ho.block g hg (fun x => x))]
  exact h j v hv

/-- A piece of a row that does not begin at its begin. -/
theorem mid_at {w : World} {S : Nat → Prop} {a : Option Addr} {c : Nat} {bs : List UInt8} (h : BytesAt w S (.slice a bs.length c) bs) {i j : Nat} (hi : 0 < i) (hij : i < j) (hj : j ≤ bs.length) :
    ∃ g o, (∀ W : World, (Instr.slice 23 (.slice a bs.length c) (some (.int .i64 (i : Int))) (some (.int .i64 (j : Int))) none).run Tryd.prog W = .ok (.slice (some ⟨g, o, none⟩) (j - i) (c - i)) W) ∧ w.rangeAt g o (((bs.drop i).take (j - i)).map byteV) ∧ S g := by
  rcases h with ⟨e, rfl⟩ | ⟨ad, c', e, hc, h2, h3⟩
  · simp at hj; omega
  · obtain ⟨rfl, _, rfl⟩ := Value.slice.inj e
    refine ⟨ad.block, ad.off + i, fun W => ?_, fun k v hv => ?_, h2 (by rintro rfl; simp at hj; omega)⟩
    · rw [run_slice_lh (ht := by kernel_rfl) (h0 := by omega) (h1 := by omega) (h2 := by omega)]
      have hsz : (sizeOf (Tryd.prog.elem 23)).run Tryd.prog W = .ok 1 W := by kernel_rfl
      rw [hsz]
      have hne : ¬ c = i := by omega
      have hi0 : ¬ i = 0 := by omega
      simp [Result.andThen, sliced, hne, Addr.add, hi0]
    · rw [List.getElem?_map, Option.map_eq_some_iff] at hv
      obtain ⟨x, hx, rfl⟩ := hv
      rw [List.getElem?_take] at hx
      split at hx
      · rw [List.getElem?_drop] at hx
        have := h3 _ _ hx
        unfold Addr.add at this
        rw [if_neg (by omega)] at this
        rw [Nat.add_assoc]
        exact this
      · cases hx

/-- What is left of a row behind its i-th place. -/
theorem tail_at {w : World} {S : Nat → Prop} {a : Option Addr} {c : Nat} {bs : List UInt8} (h : BytesAt w S (.slice a bs.length c) bs) {i : Nat} (hi : 0 < i) (hj : i < bs.length) :
    ∃ g o, (∀ W : World, (Instr.slice 23 (.slice a bs.length c) (some (.int .i64 (i : Int))) none none).run Tryd.prog W = .ok (.slice (some ⟨g, o, none⟩) (bs.length - i) (c - i)) W) ∧ w.rangeAt g o ((bs.drop i).map byteV) ∧ S g ∧ bs.length - i ≤ c - i := by
  rcases h with ⟨e, rfl⟩ | ⟨ad, c', e, hc, h2, h3⟩
  · simp at hj
  · obtain ⟨rfl, _, rfl⟩ := Value.slice.inj e
    refine ⟨ad.block, ad.off + i, fun W => ?_, fun k v hv => ?_, h2 (by rintro rfl; simp at hj), by omega⟩
    · rw [run_slice_l (ht := by kernel_rfl) (h0 := by omega) (h1 := by omega)]
      have hsz : (sizeOf (Tryd.prog.elem 23)).run Tryd.prog W = .ok 1 W := by kernel_rfl
      rw [hsz]
      have hne : ¬ c = i := by omega
      have hi0 : ¬ i = 0 := by omega
      simp [Result.andThen, sliced, hne, Addr.add, hi0]
    · rw [List.getElem?_map, Option.map_eq_some_iff] at hv
      obtain ⟨x, hx, rfl⟩ := hv
      rw [List.getElem?_drop] at hx
      have := h3 _ _ hx
      unfold Addr.add at this
      rw [if_neg (by omega)] at this
      rw [Nat.add_assoc]
      exact this

/-- The mark that a constant's row gets. -/
theorem freeze_heap {W : World} {g : Nat} {C : Array Value} {t : TypeId} (h : W.heap[g]? = some (.cells C t (0, 0))) (k : Nat) : (W.freeze ⟨g, k, none⟩ 1).heap[g]? = some (.cells C t (k, k + 1)) := by
  simp [World.freeze, Array.getElem?_modify, h]
theorem freeze_only {W : World} (g k : Nat) : Only (fun q => q = g) W (W.freeze ⟨g, k, none⟩ 1) :=
  ⟨rfl, rfl, rfl, by simp [World.freeze], fun q _ hn => by simp [World.freeze, Array.getElem?_modify, Ne.symm hn]⟩
theorem conv_const {W : World} {g : Nat} {C : Array Value} (h : W.heap[g]? = some (.cells C 5 (0, 0))) (n c : Nat) :
    (convert 23 23 (.slice (some ⟨g, 0, none⟩) n c)).run Tryd.prog W = .ok (.slice (some ⟨g, 0, none⟩) n c) (W.freeze ⟨g, C.size, none⟩ 1) := by
  have hsh : W.shape? g = some (5, C.size) := by
    unfold World.shape?
    rw [h]
  simp [convert, run_underlying Tryd.underlying23, run_underlying Tryd.underlying5, markStringish, hsh]

/-- A row in a block that is marked or not. -/
theorem BytesAt.of_marked {w : World} {g c : Nat} {t : TypeId} {bs : List UInt8} {f : Nat × Nat} (h : w.heap[g]? = some (.cells (bs.map byteV).toArray t f)) (hc : bs.length ≤ c) : BytesAt w (fun k => k = g) (.slice (some ⟨g, 0, none⟩) bs.length c) bs := by
  refine .inr ⟨⟨g, 0, none⟩, c, rfl, hc, fun _ => rfl, fun j x hx => ?_⟩
  rw [add_lit, cell_of h, Nat.zero_add]
  simp [hx]

/-- A block as a row, and a piece of it. -/
theorem Blk.whole {w : World} {g n : Nat} {bs : List UInt8} {t : TypeId} (h : Blk w g (bs.map byteV) t) (hn : bs.length = n) : BytesAt w (fun k => k < w.heap.size) (.slice (some ⟨g, 0, none⟩) n n) bs := by
  subst hn
  exact (BytesAt.of_marked h.heap (Nat.le_refl _)).mono (fun k hk => by rw [hk]; exact h.lt)
theorem Blk.part {w : World} {g o n : Nat} {bs : List UInt8} {t : TypeId} (h : Blk w g (bs.map byteV) t) (hn : ((bs.drop o).take n).length = n) : BytesAt w (fun k => k < w.heap.size) (.slice (some ⟨g, o, none⟩) n n) ((bs.drop o).take n) := by
  have := (BytesAt.of_range (c := n) (by omega) (h.mid (o := o) (n := n))).mono (S' := fun k => k < w.heap.size) (fun k hk => by rw [hk]; exact h.lt)
  rwa [hn] at this

/-- []byte(s). -/
theorem conv_text (w : World) (bs : List UInt8) : ∃ c w', (convert 9 23 (.string ⟨bs.toArray⟩)).run Tryd.prog w = .ok (.slice (some ⟨w.heap.size, 0, none⟩) bs.length c) w' ∧ BytesAt w' (fun k => k = w.heap.size) (.slice (some ⟨w.heap.size, 0, none⟩) bs.length c) bs ∧ w.heap.size < w'.heap.size ∧ Only (fun _ => False) w w' := by
  have h := run_bytes_of_string (P := Tryd.prog) w 9 23 5 ⟨bs.toArray⟩ Tryd.underlying9 Tryd.underlying23 Tryd.underlying5
  have hge := grownCap_ge w bs.length 0 5
  have e : (⟨bs.toArray⟩ : ByteArray).size = bs.length := by simp [ByteArray.size]
  rw [e] at h
  refine ⟨_, _, h, .inr ⟨_, _, rfl, hge, fun _ => rfl, fun j x hx => ?_⟩, by simp, Only.drew.trans (Only.alloc _)⟩
  have hh := heap_alloc_last w.drew (.cells (bytesRow ⟨bs.toArray⟩ (grownCap w bs.length 0 5)) 5 ((bytesRow ⟨bs.toArray⟩ (grownCap w bs.length 0 5)).size, (bytesRow ⟨bs.toArray⟩ (grownCap w bs.length 0 5)).size + 1))
  rw [add_lit, cell_of (b := w.heap.size) hh, Nat.zero_add]
  have hj : j < bs.length := (List.getElem?_eq_some_iff.1 hx).1
  rw [List.getElem?_eq_getElem hj] at hx
  obtain rfl := Option.some.inj hx
  unfold bytesRow
  simp [Array.getElem?_append, hj, byteV]

end Go.Proofs.YtgdnmbchhfbjoaaDoor
