/- NewMac, Write, Len, Sum of a Keyed; sha.Mac. Conditions: key and message are below 2^38 bytes. -/
import Derived.Test.YtgdnmbchhfbjoaaDoorHLay
import Derived.Deep.RegionWith
import Derived.Deep.RegionHeld3
import Derived.Deep.DeepCutAuto
namespace Go.Proofs.YtgdnmbchhfbjoaaDoor
open Go.RowKit

theorem built_keyed : Tryd.prog.built 115 [(0, .agg (hcells Sh.h0 noRest 0).toArray), (1, .agg (hcells Sh.h0 noRest 0).toArray)] = some (hcells Sh.h0 noRest 0 ++ hcells Sh.h0 noRest 0).toArray := by kernel_rfl

theorem step_load {ops : Array Oper} {op : Oper} {a : Act} {w : World} {K : Act → World → Prop} {Q : Exit → Act → World → Prop} {E : Prop} (hgd : op.guard = none) (ty : TypeId) (x : Operand) (ho : op.op = .load ty x)
    (b o : Nat) (hx : a.eval x = .pointer (some ⟨b, o, none⟩)) (cs : List Value) (d : TypeDesc) (hc : w.rangeAt b o cs)
    (hu : Tryd.prog.underlying ty = some d) (hd : d.isRow = true) (hi : (Tryd.prog.info? ty).map (·.size) = some cs.length)
    (h : K (a.put op.dst (.agg cs.toArray)) w) : if Region.wanted op (yielded ops a.tmps) = true then Oper.wp Tryd.prog op a w K Q else E := by
  have hw : Region.wanted op (yielded ops a.tmps) = true := by simp [Region.wanted, hgd]
  rw [if_pos hw]
  exact wp_load_mid ty x ho b o hx cs d hc hu hd hi h
theorem step_build {ops : Array Oper} {op : Oper} {a : Act} {w : World} {K : Act → World → Prop} {Q : Exit → Act → World → Prop} {E : Prop} (hgd : op.guard = none) (t : TypeId) (parts : Array (Nat × Operand)) (ho : op.op = .build t parts)
    (ps : List (Nat × Value)) (hps : (parts.map fun (i, x) => (i, a.eval x)).toList = ps) (cells : Array Value) (hb : Tryd.prog.built t ps = some cells)
    (h : K (a.put op.dst (.agg cells)) w) : if Region.wanted op (yielded ops a.tmps) = true then Oper.wp Tryd.prog op a w K Q else E := by
  have hw : Region.wanted op (yielded ops a.tmps) = true := by simp [Region.wanted, hgd]
  rw [if_pos hw]
  refine wp_build t parts ho ?_ ?_
  · rw [hps, hb]; rfl
  · rw [hps, hb]; exact h

/-- A Keyed in block g, under a key, to which m was written. -/
def KeyedAt (w : World) (g : Nat) (key m : List UInt8) : Prop :=
  ∃ s1 r1 s2 r2, Blk w g (hcells s1 r1 (Sh.masked key 0x36 ++ m).length ++ hcells s2 r2 (Sh.masked key 0x5c).length) 115 ∧ Took (Sh.masked key 0x36 ++ m) s1 r1 ∧ Took (Sh.masked key 0x5c) s2 r2

theorem KeyedAt.only {w w' : World} {T : Nat → Prop} {g : Nat} {key m : List UInt8} (h : KeyedAt w g key m) (ho : Only T w w') (hn : ¬ T g) : KeyedAt w' g key m := by
  obtain ⟨s1, r1, s2, r2, hb, h1, h2⟩ := h
  exact ⟨s1, r1, s2, r2, hb.keep ho hn, h1, h2⟩
theorem KeyedAt.lt {w : World} {g : Nat} {key m : List UInt8} (h : KeyedAt w g key m) : g < w.heap.size := by
  obtain ⟨s1, r1, s2, r2, hb, _⟩ := h
  exact hb.lt

/-- A row that masked has made. -/
theorem masked_bytes {w : World} {g : Nat} {bs : List UInt8} (h : Blk w g (bs.map byteV) 5) (hl : bs.length = 64) : BytesAt w (fun k => k = g) (.slice (some ⟨g, 0, none⟩) 64 64) bs := by
  have := BytesAt.of_block (o := 0) (c := 64) (bs := bs) h.heap (by omega) (fun j x hx => by rw [Nat.zero_add, List.getElem?_map, hx]; rfl)
  rwa [hl] at this

theorem block_range {w : World} {g : Nat} {bs : List UInt8} {t : TypeId} (h : Blk w g (bs.map byteV) t) : w.rangeAt g 0 (bs.map byteV) :=
  h.range fun j v hv => by rw [Nat.zero_add]; exact hv

/-- What NewMac's second statement leaves. -/
def KeyNew (w2 : World) (s4 : Value) (wx : World) : Prop := ∃ g, s4 = .pointer (some ⟨g, 0, none⟩) ∧ w2.heap.size ≤ g ∧ Blk wx g (hcells Sh.h0 noRest 0 ++ hcells Sh.h0 noRest 0) 115 ∧ Only (fun _ => False) w2 wx

theorem load_new {w : World} {g : Nat} (h : HashAt w g 0 [] [] 111 [] Sh.h0 noRest) : (Instr.loadAt 111 (.pointer (some ⟨g, 0, none⟩))).run Tryd.prog w = .ok (.agg (hcells Sh.h0 noRest 0).toArray) w ∧ (loadVar 111 ⟨g, 0, none⟩).run Tryd.prog w = .ok (.agg (hcells Sh.h0 noRest 0).toArray) w :=
  ⟨run_loadAt_mid w g 0 111 (hcells Sh.h0 noRest 0) _ h.range Tryd.underlying111 rfl zeroHasher.2, run_loadVar_mid w g 0 111 (hcells Sh.h0 noRest 0) _ h.range Tryd.underlying111 rfl zeroHasher.2⟩

theorem HashAt.only {w w' : World} {T : Nat → Prop} {b o : Nat} {pre post : List Value} {ty : TypeId} {m : List UInt8} {s : Sh.V8} {r : List UInt8} (h : HashAt w b o pre post ty m s r) (ho : Only T w w') (hn : ¬ T b) : HashAt w' b o pre post ty m s r :=
  ⟨h.blk.keep ho hn, h.off, h.took⟩

set_option maxRecDepth 100000 in
set_option maxHeartbeats 1000000 in
theorem newMac_any {w : World} {S : Nat → Prop} {v : Value} {key : List UInt8} (hv : BytesAt w S v key) (hS : ∀ k, S k → k < w.heap.size) (hlen : key.length ≤ 549755813888) (hf : Fst w) (ht : Tab w) :
    Calls Tryd.prog 54 #[v] w fun e w' => ∃ g, e = .returned (.pointer (some ⟨g, 0, none⟩)) ∧ w.heap.size ≤ g ∧ KeyedAt w' g key [] ∧ Only (fun _ => False) w w' := by
  have HL := Lib.hid (lay_any hv hS hlen hf ht)
  have HF := Lib.hid hf; have HT := Lib.hid ht
  obtain ⟨va, vc, rfl⟩ := hv.shape
  clear hv hS hf ht
  go_enter Tryd.func54, Tryd.ntmps54
  go_upto_region 2 with (first
    | (go_at_call 64; refine HL.out.mono ?_; rintro e w1 ⟨rfl, ho1⟩; have HO1 := Lib.hid ho1; clear ho1)
    | (refine wpList_store_row rfl 107 (.tmp 3) (.tmp 6) rfl w1.heap.size ((Sh.laid key).map byteV).toArray rfl rfl 107 (ocells 64 []).toArray (heap_alloc_last _ _) (size_block laid_len) (by simp [laid_len, ocells]) (oneCell_bytes _) ?_; rw [World.setRow_alloc_new]; have HB2 := Lib.hid (Blk.new w1 ((Sh.laid key).map byteV) 107); have HO2 := Lib.hid (HO1.out.trans (Only.alloc (.cells ((Sh.laid key).map byteV).toArray 107))); generalize w1.alloc (.cells ((Sh.laid key).map byteV).toArray 107) = w2 at *))
  rw [Act.put]
  go_cut [4] (fun s4 wx => KeyNew w2 s4 wx)
  case first =>
    have HF2 := Lib.hid (HF.out.only (HO2.out.trans Only.drew) (fun x => x))
    refine wp_region_any (by kernel_rfl) ?_
    change wpAny _ _ _ _ _ _ _ (World.drew _)
    refine wpAny_ready (rs := [0]) (by kernel_rfl) (by simp) (AllReady.cons rfl (fun K hK => ?_) AllReady.nil)
    go_simp
    refine (hnew_any HF2.out).mono ?_
    rintro e w3 ⟨rfl, hh3, ho3⟩
    refine hK _ _ ?_
    clear hK K
    rw [show w2.drew.heap.size = w2.heap.size from rfl] at hh3
    have HF3 := Lib.hid (HF2.out.only ho3 (fun x => x))
    have HH3 := Lib.hid hh3; have HO3 := Lib.hid ho3
    clear hh3 ho3
    refine wpAny_take (i := 1) (v := .pointer (some ⟨w2.heap.size, 0, none⟩)) rfl (by kernel_rfl) (by kernel_rfl) (by kernel_rfl) (fun _ _ _ h => h) (Or.inl ⟨by rfl, fun w => by go_simp⟩) ?_
    refine wpAny_ready (rs := [2, 3]) (by kernel_rfl) (by simp) (AllReady.cons rfl (fun K hK => ?_) (AllReady.cons rfl (fun K hK => ?_) AllReady.nil))
    · refine step_load rfl 111 (.tmp 8) rfl w2.heap.size 0 rfl (hcells Sh.h0 noRest 0) _ HH3.out.range Tryd.underlying111 rfl zeroHasher.2 (hK _ _ ?_)
      clear hK K
      refine wpAny_ready (rs := [3]) (by kernel_rfl) (by simp) (AllReady.cons rfl (fun K hK => ?_) AllReady.nil)
      go_simp
      refine (hnew_any HF3.out).mono ?_
      rintro e w4 ⟨rfl, hh4, ho4⟩
      refine hK _ _ ?_
      clear hK K
      refine wpAny_take (i := 4) (v := .pointer (some ⟨w3.heap.size, 0, none⟩)) rfl (by kernel_rfl) (by kernel_rfl) (by kernel_rfl) (fun _ _ _ h => h) (Or.inl ⟨by rfl, fun w => by go_simp⟩) ?_
      refine wpAny_ready (rs := [5]) (by kernel_rfl) (by simp) (AllReady.cons rfl (fun K hK => ?_) AllReady.nil)
      refine step_load rfl 111 (.tmp 11) rfl w3.heap.size 0 rfl (hcells Sh.h0 noRest 0) _ hh4.range Tryd.underlying111 rfl zeroHasher.2 (hK _ _ ?_)
      clear hK K
      refine wpAny_ready (rs := [6]) (by kernel_rfl) (by simp) (AllReady.cons rfl (fun K hK => ?_) AllReady.nil)
      refine step_build rfl 115 #[(0, .tmp 9), (1, .tmp 12)] rfl [(0, .agg (hcells Sh.h0 noRest 0).toArray), (1, .agg (hcells Sh.h0 noRest 0).toArray)] (by simp [go_sem]) _ built_keyed (hK _ _ ?_)
      clear hK K
      refine wpAny_ready (rs := [7]) (by kernel_rfl) (by simp) (AllReady.cons rfl (fun K hK => ?_) AllReady.nil)
      go_simp
      refine hK _ _ ?_
      clear hK K
      refine wpAny_ready (rs := [8]) (by kernel_rfl) (by simp) (AllReady.cons rfl (fun K hK => ?_) AllReady.nil)
      go_simp
      refine hK _ _ ?_
      clear hK K
      refine wpAny_done (by kernel_rfl) ?_ _
      go_wp2_with fail
      go_meet
      have hz3 := HO3.out.size
      have hz4 := ho4.size
      exact ⟨w4.heap.size, rfl, Nat.le_trans hz3 hz4, Blk.new w4 (hcells Sh.h0 noRest 0 ++ hcells Sh.h0 noRest 0) 115, ((Only.drew.trans HO3.out).trans ho4).trans (Only.alloc _)⟩
    · go_simp
      refine (hnew_any HF3.out).mono ?_
      rintro e w4 ⟨rfl, hh4, ho4⟩
      refine hK _ _ ?_
      clear hK K
      refine wpAny_take (i := 4) (v := .pointer (some ⟨w3.heap.size, 0, none⟩)) rfl (by kernel_rfl) (by kernel_rfl) (by kernel_rfl) (fun _ _ _ h => h) (Or.inl ⟨by rfl, fun w => by go_simp⟩) ?_
      refine wpAny_ready (rs := [2, 5]) (by kernel_rfl) (by simp) (AllReady.cons rfl (fun K hK => ?_) (AllReady.cons rfl (fun K hK => ?_) AllReady.nil))
      · refine step_load rfl 111 (.tmp 8) rfl w2.heap.size 0 rfl (hcells Sh.h0 noRest 0) _ (HH3.out.only ho4 (fun x => x)).range Tryd.underlying111 rfl zeroHasher.2 (hK _ _ ?_)
        clear hK K
        refine wpAny_ready (rs := [5]) (by kernel_rfl) (by simp) (AllReady.cons rfl (fun K hK => ?_) AllReady.nil)
        refine step_load rfl 111 (.tmp 11) rfl w3.heap.size 0 rfl (hcells Sh.h0 noRest 0) _ hh4.range Tryd.underlying111 rfl zeroHasher.2 (hK _ _ ?_)
        clear hK K
        refine wpAny_ready (rs := [6]) (by kernel_rfl) (by simp) (AllReady.cons rfl (fun K hK => ?_) AllReady.nil)
        refine step_build rfl 115 #[(0, .tmp 9), (1, .tmp 12)] rfl [(0, .agg (hcells Sh.h0 noRest 0).toArray), (1, .agg (hcells Sh.h0 noRest 0).toArray)] (by simp [go_sem]) _ built_keyed (hK _ _ ?_)
        clear hK K
        refine wpAny_ready (rs := [7]) (by kernel_rfl) (by simp) (AllReady.cons rfl (fun K hK => ?_) AllReady.nil)
        go_simp
        refine hK _ _ ?_
        clear hK K
        refine wpAny_ready (rs := [8]) (by kernel_rfl) (by simp) (AllReady.cons rfl (fun K hK => ?_) AllReady.nil)
        go_simp
        refine hK _ _ ?_
        clear hK K
        refine wpAny_done (by kernel_rfl) ?_ _
        go_wp2_with fail
        go_meet
        have hz3 := HO3.out.size
        have hz4 := ho4.size
        exact ⟨w4.heap.size, rfl, Nat.le_trans hz3 hz4, Blk.new w4 (hcells Sh.h0 noRest 0 ++ hcells Sh.h0 noRest 0) 115, ((Only.drew.trans HO3.out).trans ho4).trans (Only.alloc _)⟩
      · refine step_load rfl 111 (.tmp 11) rfl w3.heap.size 0 rfl (hcells Sh.h0 noRest 0) _ hh4.range Tryd.underlying111 rfl zeroHasher.2 (hK _ _ ?_)
        clear hK K
        refine wpAny_ready (rs := [2]) (by kernel_rfl) (by simp) (AllReady.cons rfl (fun K hK => ?_) AllReady.nil)
        refine step_load rfl 111 (.tmp 8) rfl w2.heap.size 0 rfl (hcells Sh.h0 noRest 0) _ (HH3.out.only ho4 (fun x => x)).range Tryd.underlying111 rfl zeroHasher.2 (hK _ _ ?_)
        clear hK K
        refine wpAny_ready (rs := [6]) (by kernel_rfl) (by simp) (AllReady.cons rfl (fun K hK => ?_) AllReady.nil)
        refine step_build rfl 115 #[(0, .tmp 9), (1, .tmp 12)] rfl [(0, .agg (hcells Sh.h0 noRest 0).toArray), (1, .agg (hcells Sh.h0 noRest 0).toArray)] (by simp [go_sem]) _ built_keyed (hK _ _ ?_)
        clear hK K
        refine wpAny_ready (rs := [7]) (by kernel_rfl) (by simp) (AllReady.cons rfl (fun K hK => ?_) AllReady.nil)
        go_simp
        refine hK _ _ ?_
        clear hK K
        refine wpAny_ready (rs := [8]) (by kernel_rfl) (by simp) (AllReady.cons rfl (fun K hK => ?_) AllReady.nil)
        go_simp
        refine hK _ _ ?_
        clear hK K
        refine wpAny_done (by kernel_rfl) ?_ _
        go_wp2_with fail
        go_meet
        have hz3 := HO3.out.size
        have hz4 := ho4.size
        exact ⟨w4.heap.size, rfl, Nat.le_trans hz3 hz4, Blk.new w4 (hcells Sh.h0 noRest 0 ++ hcells Sh.h0 noRest 0) 115, ((Only.drew.trans HO3.out).trans ho4).trans (Only.alloc _)⟩
  case rest =>
    obtain ⟨g, rfl, hg, hbk, hox⟩ := hcut
    have HBX := Lib.hid hbk; have HOX := Lib.hid hox; have HGX := Lib.hid hg
    have h1g : 1 < w.heap.size := HT.out.lt
    have hz1 := HO1.out.size
    have hz2 := HB2.out.lt
    have hhx : HashAt wc g 0 [] (hcells Sh.h0 noRest 0) 115 [] Sh.h0 noRest := ⟨hbk, rfl, took_none⟩
    have hbl := HB2.out.keep hox (fun x => x)
    have htx := (HT.out.only HO2.out (fun x => x)).only hox (fun x => x)
    have hm1 := masked_any (x := 0x36) (block_range hbl.drew) laid_len
    have HM1 := Lib.hid (show Calls Tryd.prog 67 #[.pointer (some ⟨w1.heap.size, 0, none⟩), .int .u8 54] wc.drew _ from hm1)
    have HHX := Lib.hid hhx; have HTX := Lib.hid htx; have HBL := Lib.hid hbl
    clear hg hbk hox hhx hbl htx hm1
    go_wp2
    go_region_with (first
      | (go_at_call 67; refine HM1.out.mono ?_; rintro e w5 ⟨rfl, hb5, ho5⟩; have ho5' := Only.drew.trans ho5; rw [show wc.drew.heap.size = wc.heap.size from rfl] at hb5 ⊢; have hbd := masked_bytes (bs := Sh.masked key 0x36) hb5 (masked_len _ _); have hgl := HBX.out.lt; have htk := take_any (HHX.out.only ho5' (fun x => x)) hbd (fun k hk => by subst hk; exact ⟨hb5.lt, by omega⟩) (by rw [masked_len]; decide) (HTX.out.only ho5' (fun x => x)) (by have := HGX.out; omega); have HTK := Lib.hid htk; have HO5 := Lib.hid ho5'; have HGL := Lib.hid hgl; clear hb5 ho5 ho5' hbd htk hgl)
      | (go_at_call 66; refine HTK.out.mono ?_; rintro e w6 ⟨rfl, ⟨s6, r6, hh6⟩, ho6⟩; have HH6 := Lib.hid hh6; have HO6 := Lib.hid (HO5.out.mono (S' := fun k => k = g) (fun _ _ x => x.elim) |>.trans ho6); clear hh6 ho6))
    have hh6 := HH6.out
    rw [List.nil_append] at hh6
    have hbk6 := hh6.blk
    rw [List.nil_append] at hbk6
    have hh7 : HashAt w6 g 73 (hcells s6 r6 (Sh.masked key 0x36).length) [] 115 [] Sh.h0 noRest := ⟨by rw [List.append_nil]; exact hbk6, hcells_len hh6.took.len, took_none⟩
    have hbl6 := HBL.out.keep HO6.out (by have := HGX.out; omega)
    have htx6 := HTX.out.only HO6.out (by have := HGX.out; omega)
    have hm2 := masked_any (x := 0x5c) (block_range hbl6.drew) laid_len
    have HM2 := Lib.hid (show Calls Tryd.prog 67 #[.pointer (some ⟨w1.heap.size, 0, none⟩), .int .u8 92] w6.drew _ from hm2)
    have HH7 := Lib.hid hh7; have HTX6 := Lib.hid htx6; have HBK6 := Lib.hid hbk6; have HTK6 := Lib.hid hh6.took
    clear hh6 hbk6 hh7 hbl6 htx6 hm2 HM1 HTK HH6 HBL HTX HHX
    go_wp2
    go_region_with (first
      | (go_at_call 67; refine HM2.out.mono ?_; rintro e w7 ⟨rfl, hb7, ho7⟩; have ho7' := Only.drew.trans ho7; rw [show w6.drew.heap.size = w6.heap.size from rfl] at hb7 ⊢; have hbd := masked_bytes (bs := Sh.masked key 0x5c) hb7 (masked_len _ _); have hgl := HBK6.out.lt; have htk := take_any (HH7.out.only ho7' (fun x => x)) hbd (fun k hk => by subst hk; exact ⟨hb7.lt, by omega⟩) (by rw [masked_len]; decide) (HTX6.out.only ho7' (fun x => x)) (by have := HGX.out; omega); have HTK := Lib.hid htk; have HO7 := Lib.hid ho7'; clear hb7 ho7 ho7' hbd htk hgl)
      | (go_at_call 66; refine HTK.out.mono ?_; rintro e w8 ⟨rfl, ⟨s8, r8, hh8⟩, ho8⟩; have HH8 := Lib.hid hh8; have HO8 := Lib.hid (HO7.out.mono (S' := fun k => k = g) (fun _ _ x => x.elim) |>.trans ho8); clear hh8 ho8))
    go_wp2
    go_ret
    have hh8 := HH8.out
    rw [List.nil_append] at hh8
    have hoA : Only (fun _ => False) w w8 := ((HO2.out.trans HOX.out).andThen HO6.out (fun k hk e => by have := HGX.out; omega)).andThen HO8.out (fun k hk e => by have := HGX.out; omega)
    refine ⟨g, rfl, by have := HGX.out; omega, ⟨s6, r6, s8, r8, ?_, by rw [List.append_nil]; exact HTK6.out, hh8.took⟩, hoA⟩
    have := hh8.blk
    rw [List.append_nil] at this ⊢
    exact this

end Go.Proofs.YtgdnmbchhfbjoaaDoor
