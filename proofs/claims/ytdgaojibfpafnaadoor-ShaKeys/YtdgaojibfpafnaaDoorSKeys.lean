/- The law ShaKeys: long keys, noughts behind short ones, shorter Derives. Conditions: rows within the reach. -/
import Derived.Test.YtdgaojibfpafnaaDoorSDerive
import Derived.Test.YtdgaojibfpafnaaDoorSSame
import Derived.Test.YtdgaojibfpafnaaDoorSRef
import Derived.Deep.DeepCutAuto
namespace Go.Proofs.YtdgaojibfpafnaaDoor
open Go.RowKit

theorem laid_sum {key : List UInt8} (h : 64 < key.length) : Sh.laid (Sh.sum key) = Sh.laid key := by
  unfold Sh.laid
  simp [h, sum_len]
theorem mac_long {key : List UInt8} (h : 64 < key.length) (m : List UInt8) : Sh.mac (Sh.sum key) m = Sh.mac key m := by
  unfold Sh.mac Sh.masked
  rw [laid_sum h]
theorem laid_zero {key : List UInt8} (h : key.length < 64) : Sh.laid (key ++ [0]) = Sh.laid key := by
  unfold Sh.laid
  have h1 : ¬ 64 < (key ++ [0]).length := by simp; omega
  have h2 : ¬ 64 < key.length := by omega
  rw [if_neg h1, if_neg h2]
  simp only [List.length_append, List.length_cons, List.length_nil, List.append_assoc]
  congr 1
  rw [show 64 - key.length = (64 - (key.length + (0 + 1))) + 1 by omega, List.replicate_succ]
  rfl
theorem mac_zero {key : List UInt8} (h : key.length < 64) (m : List UInt8) : Sh.mac (key ++ [0]) m = Sh.mac key m := by
  unfold Sh.mac Sh.masked
  rw [laid_zero h]
theorem derived_take (s k i : List UInt8) (n j : Nat) (h : j ≤ n) : (derived s k i n).take j = derived s k i j := by
  rw [← derived_eq s k i j ((n + 31) / 32) (by omega)]
  unfold derived
  rw [List.take_take, Nat.min_eq_left h]

/-- A row in a block of its own, as a list of parts. -/
theorem part_at {w : World} {g : Nat} {S : Nat → Prop} {v : Value} {bs : List UInt8} (hb : Blk w g [v] 22) (hv : BytesAt w S v bs) (hS : ∀ k, S k → k < w.heap.size) :
    PartsAt w (fun k => k < w.heap.size) (.slice (some ⟨g, 0, none⟩) 1 1) [bs] := by
  refine ⟨some ⟨g, 0, none⟩, 1, rfl, Nat.le_refl _, fun i hi => ?_⟩
  match i, hi with
  | 0, _ => exact ⟨_, v, rfl, hb.lt, by rw [add_lit]; exact hb.cell 0, hv.mono hS⟩

theorem two_parts {w : World} {g : Nat} {S : Nat → Prop} {v u : Value} {x y : List UInt8} (hb : Blk w g [v, u] 22) (hv : BytesAt w S v x) (hu : BytesAt w S u y) (hS : ∀ k, S k → k < w.heap.size) :
    PartsAt w (fun k => k < w.heap.size) (.slice (some ⟨g, 0, none⟩) 2 2) [x, y] := by
  refine ⟨some ⟨g, 0, none⟩, 2, rfl, Nat.le_refl _, fun i hi => ?_⟩
  match i, hi with
  | 0, _ => exact ⟨_, v, rfl, hb.lt, by rw [add_lit]; exact hb.cell 0, hv.mono hS⟩
  | 1, _ => exact ⟨_, u, rfl, hb.lt, by rw [add_lit]; exact hb.cell 1, hu.mono hS⟩

theorem wpList_wanted {w : World} {ops : Array Oper} {rest : List Oper} {o : Oper} {a : Act} {Q : Exit → Act → World → Prop} (hw : Region.wanted o (yielded ops a.tmps) = true)
    (h : ∀ K : Act → World → Prop, (∀ a w, wpList Tryd.prog ops Q rest a w → K a w) → o.wp Tryd.prog a w K Q) : wpList Tryd.prog ops Q (o :: rest) a w :=
  wpList_step fun K hK => by rw [if_pos hw]; exact h K hK

theorem wpList_append_wanted (w : World) {ops : Array Oper} {rest : List Oper} {o : Oper} {a : Act} {Q : Exit → Act → World → Prop} (hgd : Region.wanted o (yielded ops a.tmps) = true) (s x : Operand)
    (ho : o.op = .call { callee := .builtin .append, args := #[s, x], argTypes := #[22, 22] }) (v vx : Value) (n : Nat) (xs : List Value) (hs : a.eval s = v) (hx : a.eval x = vx)
    (hown : w.ownsRow 0 5 1 v n xs) {S : Nat → Prop} {bs : List UInt8} (hsrc : BytesAt w S vx bs) (hlen : n + bs.length ≤ 140737488355328)
    (h : ∀ a' c' w', w'.ownsRow 0 5 1 (.slice a' (n + bs.length) c') (n + bs.length) (xs ++ bs.map byteV) → w.grownBy w' v.ownBlock →
      ((Value.slice a' (n + bs.length) c').ownBlock = v.ownBlock ∨ (Value.slice a' (n + bs.length) c').ownBlock = some w.heap.size) → wpList Tryd.prog ops Q rest (a.put o.dst (.slice a' (n + bs.length) c')) w') :
    wpList Tryd.prog ops Q (o :: rest) a w := by
  refine wpList_wanted hgd fun K hK => ?_
  obtain ⟨a', c', w', hrun, h2, h3, h4⟩ := run_append_bytes w o.type v vx n xs hown hsrc hlen
  unfold Oper.wp execOp
  simp only [ho, resolve, invoke, builtin, Sem.run_bind, Sem.run_pure, Result.andThen_ok, List.map_toArray, List.map_cons, List.map_nil, hs, hx, hrun]
  exact hK _ _ (h a' c' w' h2 h3 h4)

theorem Only.drewN {w : World} (n : Nat) : Only (fun _ => False) w (w.drewN n) := ⟨rfl, rfl, rfl, Nat.le_refl _, fun _ _ _ => rfl⟩

theorem slice_h {a : Option Addr} {n cap m : Nat} (h : m ≤ cap) (w : World) : (Instr.slice 22 (.slice a n cap) none (some (.int .i64 (m : Int))) none).run Tryd.prog w = .ok (.slice a m cap) w := by
  rw [run_slice_h (ht := by kernel_rfl) (h0 := by omega) (h2 := by omega)]
  have hsz : (sizeOf (Tryd.prog.elem 22)).run Tryd.prog w = .ok 1 w := by kernel_rfl
  rw [hsz]
  cases a <;> simp [Result.andThen, sliced, Addr.add]

theorem bytes_pre {w : World} {a : Option Addr} {n c k : Nat} {bs : List UInt8} (h : w.ownsRow 0 5 1 (.slice a n c) n (bs.map byteV)) (hb : bs.length = n) (hk : k ≤ n) : BytesAt w (fun q => q < w.heap.size) (.slice a k c) (bs.take k) := by
  have hl : (bs.take k).length = k := by rw [List.length_take, hb]; omega
  have hc := row_cap h
  rcases h.2 with ⟨e, e0⟩ | ⟨g, cap, cur, e, _⟩
  · obtain ⟨e1, _, e3⟩ := Value.slice.inj e
    have hk0 : k = 0 := by omega
    subst e1 e3 hk0
    exact .inl ⟨rfl, rfl⟩
  · obtain ⟨e1, _, e3⟩ := Value.slice.inj e
    subst e1 e3
    refine .inr ⟨⟨g, 0, none⟩, c, by rw [hl], by omega, fun _ => (h.lt g rfl).2, fun j x hx => ?_⟩
    rw [List.getElem?_take] at hx
    split at hx
    · exact h.cells (g := g) rfl j (byteV x) (by rw [List.getElem?_map, hx]; rfl)
    · cases hx

set_option maxRecDepth 100000 in
set_option maxHeartbeats 4000000 in
theorem longer_any {w : World} {S : Nat → Prop} {vk vm : Value} {key msg : List UInt8} {n m : Int} (hk : BytesAt w S vk key) (hm : BytesAt w S vm msg) (hkl : key.length ≤ 140737488355328) (hml : msg.length ≤ 140737488355328) (hS : ∀ k, S k → k < w.heap.size) (hf : Fst w) (ht : Tab w) :
    Calls Tryd.prog 31 #[vk, vm, .int .i64 n, .int .i64 m] w fun e w' => e = .returned (.bool true) ∧ Only (fun _ => False) w w' := by
  have HAL := Lib.hid (alive_any hf ht)
  have HK := Lib.hid hk; have HM := Lib.hid hm; have HS := Lib.hid hS; have HF := Lib.hid hf; have HT := Lib.hid ht
  obtain ⟨ka, kc, rfl⟩ := hk.shape
  obtain ⟨ma, mc, rfl⟩ := hm.shape
  have HLG : Hid (∀ w1, Only (fun _ => False) w w1 → Calls Tryd.prog 10 #[.slice (some ⟨w1.heap.size, 0, none⟩) 2 2] (w1.alloc (.cells #[.slice ka key.length kc, .slice ma msg.length mc] 22)) fun e w' => e = .returned (.bool (decide (65536 < key.length + msg.length))) ∧ w1.alloc (.cells #[.slice ka key.length kc, .slice ma msg.length mc] 22) = w') := by
    intro w1 ho
    have ho' := ho.trans (Only.alloc (.cells #[.slice ka key.length kc, .slice ma msg.length mc] 22))
    have h := large_any (two_parts (Blk.new w1 [.slice ka key.length kc, .slice ma msg.length mc] 22) (hk.only ho' hS (fun _ _ x => x)) (hm.only ho' hS (fun _ _ x => x)) (fun k hk => Nat.lt_of_lt_of_le (hS k hk) ho'.size)) (by
      intro p hp
      simp at hp
      rcases hp with rfl | rfl
      · exact hkl
      · exact hml) (by simp)
    have e : tot [key, msg] = key.length + msg.length := by simp [tot]
    rw [e] at h
    exact h
  clear hk hm hS hf ht
  by_cases hbig : 65536 < key.length + msg.length
  · have hd : decide (65536 < key.length + msg.length) = true := decide_eq_true hbig
    rw [hd] at HLG
    clear hd
    go_enter Tryd.func31, Tryd.ntmps31
    go_wp2_with (first
      | (go_at_call 9; refine HAL.out.mono ?_; rintro e w1 ⟨rfl, ho1⟩; have HO1 := Lib.hid ho1; have HLW := Lib.hid (HLG.out w1 ho1); clear ho1)
      | (go_at_call 10; refine HLW.out.mono ?_; rintro e w' ⟨rfl, rfl⟩))
    go_ret
    exact ⟨rfl, HO1.out.trans (Only.alloc _)⟩
  · have hd : decide (65536 < key.length + msg.length) = false := decide_eq_false hbig
    rw [hd] at HLG
    clear hd hkl hml
    have hY : ∀ g w1, (Instr.sliceAt 26 (.pointer (some ⟨g, 0, none⟩)) none none none).run Tryd.prog w1 = .ok (.slice (some ⟨g, 0, none⟩) 32 32) w1 := slice_all_32
    have hgd2 := dig_guard2
    have HSUM : Hid (∀ w1, Only (fun _ => False) w w1 → Calls Tryd.prog 12 #[.slice (some ⟨w1.heap.size, 0, none⟩) 1 1] (w1.alloc (.cells #[.slice ka key.length kc] 22)) fun e w' => e = .returned (digV (Sh.sum key)) ∧ Only (fun _ => False) w1 w') := by
      intro w1 ho
      have h := sSum_any (one_part (HK.out.only ho HS.out (fun _ _ x => x)) (fun k hk => Nat.lt_of_lt_of_le (HS.out k hk) ho.size)) (fun _ h => h) (by simp; omega) (by simp) ((HF.out.only ho (fun x => x)).alloc _) ((HT.out.only ho (fun x => x)).alloc _)
      rw [List.flatten_cons, List.flatten_nil, List.append_nil] at h
      exact h.mono fun e w' ⟨he, h2⟩ => ⟨he, (Only.alloc _).trans h2⟩
    have HDL := Lib.hid (sum_len key)
    go_enter Tryd.func31, Tryd.ntmps31
    go_upto_region 6 with (first
      | (go_at_call 9; refine HAL.out.mono ?_; rintro e w1 ⟨rfl, ho1⟩; have ho1' := ho1.trans (Only.alloc (.cells #[.slice ka key.length kc, .slice ma msg.length mc] 22)); have HO1 := Lib.hid ho1'; have HLW := Lib.hid (HLG.out w1 ho1); have hs1 := HSUM.out _ ho1'; rw [World.size_alloc] at hs1; have HS1 := Lib.hid hs1; clear ho1 ho1' hs1)
      | (go_at_call 10; refine HLW.out.mono ?_; rintro e w' ⟨rfl, rfl⟩)
      | (go_at_call 12; refine HS1.out.mono ?_; rintro e w2 ⟨rfl, ho2⟩; have HO2 := Lib.hid (HO1.out.trans ho2); clear ho2)
      | (refine wpList_store_row rfl 26 (.tmp 9) (.tmp 23) rfl w2.heap.size ((Sh.sum key).map byteV).toArray rfl rfl 26 (ocells 32 []).toArray (heap_alloc_last _ _) (size_a32 HDL.out) (by simp [HDL.out, ocells]) (oneCell_bytes _) ?_; rw [World.setRow_alloc_new]; have HD3 := Lib.hid (Blk.new w2 ((Sh.sum key).map byteV) 26); have HO3 := Lib.hid (HO2.out.trans (Only.alloc (.cells ((Sh.sum key).map byteV).toArray 26))); generalize w2.alloc (.cells ((Sh.sum key).map byteV).toArray 26) = w3 at *))
    rw [Act.put]
    go_cut [37] (fun s37 wx => s37 = .bool false ∧ Only (fun _ => False) w3 wx)
    case first =>
      by_cases h64 : 64 < key.length
      · obtain ⟨D, hD⟩ : ∃ D, Sh.mac key msg = D := ⟨_, rfl⟩
        have hDl : D.length = 32 := by rw [← hD]; exact mac_len _ _
        have hneq := dig_neq hDl
        have HMA : Hid (∀ w4 g, Only (fun _ => False) w3 w4 → Blk w4 g [.slice ma msg.length mc] 22 → (Calls Tryd.prog 14 #[.slice ka key.length kc, .slice (some ⟨g, 0, none⟩) 1 1] w4 fun e w' => e = .returned (digV D) ∧ Only (fun _ => False) w4 w') ∧ (Calls Tryd.prog 14 #[.slice (some ⟨w2.heap.size, 0, none⟩) 32 32, .slice (some ⟨g, 0, none⟩) 1 1] w4 fun e w' => e = .returned (digV D) ∧ Only (fun _ => False) w4 w')) := by
          intro w4 g ho hb
          have ho' := HO3.out.trans ho
          have hlt : ∀ k, S k → k < w4.heap.size := fun k hk => Nat.lt_of_lt_of_le (HS.out k hk) ho'.size
          have hp := part_at hb (HM.out.only ho' HS.out (fun _ _ x => x)) hlt
          have h1 := sMac_any (S := fun k => k < w4.heap.size) ((HK.out.only ho' HS.out (fun _ _ x => x)).mono hlt) hp (fun _ h => h) (by omega) (by simp; omega) (by simp) (HF.out.only ho' (fun x => x)) (HT.out.only ho' (fun x => x))
          have h2 := sMac_any (S := fun k => k < w4.heap.size) ((dig_bytes (HD3.out.keep ho (fun x => x)) HDL.out).mono (fun k hk => by subst hk; exact (HD3.out.keep ho (fun x => x)).lt)) hp (fun _ h => h) (by rw [HDL.out]; decide) (by simp; omega) (by simp) (HF.out.only ho' (fun x => x)) (HT.out.only ho' (fun x => x))
          rw [List.flatten_cons, List.flatten_nil, List.append_nil] at h1 h2
          rw [mac_long h64, hD] at h2
          rw [hD] at h1
          exact ⟨h1, h2⟩
        have h64i : (64 : Int) < (key.length : Int) := by omega
        clear hD hDl HLW HS1 HLG HSUM HAL
        have hoA : Only (fun _ => False) w3 (w3.alloc (.cells #[.slice ma msg.length mc] 22)).drew := (Only.alloc _).trans Only.drew
        have hoB : Only (fun _ => False) w3 ((w3.alloc (.cells #[.slice ma msg.length mc] 22)).alloc (.cells #[.slice ma msg.length mc] 22)).drew := ((Only.alloc _).trans (Only.alloc _)).trans Only.drew
        have bA : Blk (w3.alloc (.cells #[.slice ma msg.length mc] 22)).drew w3.heap.size [.slice ma msg.length mc] 22 := (Blk.new w3 _ _).drew
        have bB : Blk ((w3.alloc (.cells #[.slice ma msg.length mc] 22)).alloc (.cells #[.slice ma msg.length mc] 22)).drew w3.heap.size [.slice ma msg.length mc] 22 := ((Blk.new w3 _ _).alloc _).drew
        have bC : Blk ((w3.alloc (.cells #[.slice ma msg.length mc] 22)).alloc (.cells #[.slice ma msg.length mc] 22)).drew (w3.heap.size + 1) [.slice ma msg.length mc] 22 := (Blk.new1 w3 _ _ _).drew
        have HA := Lib.hid (HMA.out _ _ hoA bA).1
        have HB := Lib.hid (HMA.out _ _ hoB bB).1
        have HC := Lib.hid (HMA.out _ _ hoB bC).1
        have HOA := Lib.hid hoA; have HOB := Lib.hid hoB; have HBB := Lib.hid bB; have HBC := Lib.hid bC
        clear hoA hoB bA bB bC
        go_region_with (go_at_call 14; first
          | ((with_reducible refine HA.out.mono ?_); rintro e w4 ⟨rfl, ho4⟩; have HE := Lib.hid (HMA.out (w4.alloc (.cells #[.slice ma msg.length mc] 22)) w4.heap.size ((HOA.out.trans ho4).trans (Only.alloc _)) (Blk.new w4 _ _)).2; have HO4 := Lib.hid ((HOA.out.trans ho4).trans (Only.alloc (.cells #[.slice ma msg.length mc] 22))); clear ho4)
          | ((with_reducible refine HB.out.mono ?_); rintro e w4 ⟨rfl, ho4⟩; have HE := Lib.hid (HMA.out w4 (w3.heap.size + 1) (HOB.out.trans ho4) (HBC.out.keep ho4 (fun x => x))).2; have HO4 := Lib.hid (HOB.out.trans ho4); clear ho4)
          | ((with_reducible refine HC.out.mono ?_); rintro e w4 ⟨rfl, ho4⟩; have HE := Lib.hid (HMA.out w4 w3.heap.size (HOB.out.trans ho4) (HBB.out.keep ho4 (fun x => x))).2; have HO4 := Lib.hid (HOB.out.trans ho4); clear ho4)
          | ((with_reducible refine HE.out.mono ?_); rintro e w5 ⟨rfl, ho5⟩; have HO5 := Lib.hid (HO4.out.trans ho5); clear ho5))
        all_goals
          go_wp2_with fail
          go_meet
          exact ⟨rfl, HO5.out⟩
      · have h64i : decide ((64 : Int) < (key.length : Int)) = false := by simp; omega
        go_quiet (fail)
        go_wp2_with fail
        go_meet
        exact ⟨rfl, ⟨rfl, rfl, rfl, Nat.le_refl _, fun _ _ _ => rfl⟩⟩
    case rest =>
      obtain ⟨rfl, hox⟩ := hcut
      have HO4 := Lib.hid (HO3.out.trans hox)
      clear hox
      obtain ⟨w4, hw4⟩ : ∃ q, q = wc := ⟨_, rfl⟩
      subst hw4
      clear HLW HS1 HLG HSUM HAL HD3 HO3 HO2 HO1
      go_upto_region 8 with (fail)
      go_cut [55] (fun s55 wx => s55 = .bool false ∧ Only (fun _ => False) w4 wx)
      case first =>
        by_cases h64 : key.length < 64
        · obtain ⟨D, hD⟩ : ∃ D, Sh.mac key msg = D := ⟨_, rfl⟩
          have hDl : D.length = 32 := by rw [← hD]; exact mac_len _ _
          have hneq := dig_neq hDl
          have HMA : Hid (∀ w5, Only (fun _ => False) w4 w5 → ∀ u l, BytesAt (w5.alloc (.cells #[.slice ma msg.length mc] 22)) (fun k => k < (w5.alloc (.cells #[.slice ma msg.length mc] 22)).heap.size) u l → l.length ≤ 65537 → Sh.mac l msg = D → Calls Tryd.prog 14 #[u, .slice (some ⟨w5.heap.size, 0, none⟩) 1 1] (w5.alloc (.cells #[.slice ma msg.length mc] 22)) fun e w' => e = .returned (digV D) ∧ Only (fun _ => False) w5 w') := by
            intro w5 ho u l hu hl he
            have ho' := HO4.out.trans ho
            have ho'' := ho'.trans (Only.alloc (.cells #[.slice ma msg.length mc] 22))
            have hp := one_part (HM.out.only ho' HS.out (fun _ _ x => x)) (fun k hk => Nat.lt_of_lt_of_le (HS.out k hk) ho'.size)
            have h1 := sMac_any hu hp (fun _ h => h) (by omega) (by simp; omega) (by simp) (HF.out.only ho'' (fun x => x)) (HT.out.only ho'' (fun x => x))
            rw [List.flatten_cons, List.flatten_nil, List.append_nil, he] at h1
            exact h1.mono fun e w' ⟨he, h2⟩ => ⟨he, (Only.alloc _).trans h2⟩
          have h64i : (key.length : Int) < 64 := by omega
          have hb0 : (w4.alloc (.cells #[] 5)).ownsRow 0 5 1 (.slice (some ⟨w4.heap.size, 0, none⟩) 0 0) 0 [] := World.ownsRow_made w4 #[] 0 (Nat.zero_le _) (Nat.zero_le _) rfl
          have hsrc := HK.out.only (HO4.out.trans (Only.alloc (.cells #[] 5))) HS.out (fun _ _ x => x)
          have HB := Lib.hid hb0; have HSRC := Lib.hid hsrc; have HD := Lib.hid hD; have HZM := Lib.hid (mac_zero h64 msg)
          have HL : Hid (key.length ≤ 65536) := Lib.hid (by omega)
          have HKB : Hid (∀ w5, Only (fun _ => False) w4 w5 → BytesAt (w5.alloc (.cells #[.slice ma msg.length mc] 22)) (fun k => k < (w5.alloc (.cells #[.slice ma msg.length mc] 22)).heap.size) (.slice ka key.length kc) key) := fun w5 ho =>
            (HK.out.only ((HO4.out.trans ho).trans (Only.alloc _)) HS.out (fun _ _ x => x)).mono (fun k hk => Nat.lt_of_lt_of_le (HS.out k hk) ((HO4.out.trans ho).trans (Only.alloc _)).size)
          clear hD hDl hb0 hsrc
          go_wp2_with (first
            | (at_builtin; refine wpList_append_wanted _ (by rfl) _ _ rfl (.slice (some ⟨w4.heap.size, 0, none⟩) 0 0) (.slice ka key.length kc) 0 [] rfl rfl HB.out HSRC.out (by have := HL.out; omega) ?_; intro a1 c1 w5 hr1 hg1 hat1; have h1 : Row w4 w5 (.slice a1 (0 + key.length) c1) ([] ++ key) := Row.app (wr := w4.alloc (.cells #[] 5)) (ov := .slice (some ⟨w4.heap.size, 0, none⟩) 0 0) ⟨HB.out, (fun q hq => by have : w4.heap.size = q := Option.some.inj hq; omega), Only.alloc _⟩ (Only.refl _ _) (by simp) hr1 hg1 hat1; rw [Nat.zero_add, List.nil_append] at h1; have H1 := Lib.hid h1; have HR1 := Lib.hid (h1.keep (Only.alloc (.cells #[byteV 0] 5))); clear hr1 hg1 hat1 h1)
            | (at_builtin; refine wpList_append_wanted _ (by rfl) _ _ rfl (.slice a1 key.length c1) (.slice (some ⟨w5.heap.size, 0, none⟩) 1 1) key.length (key.map byteV) rfl rfl HR1.out (one_byte w5 0) (by have := HL.out; simp; omega) ?_; intro a2 c2 w6 hr2 hg2 hat2; have h2 : Row w4 w6 (.slice a2 (key.length + 1) c2) (key ++ [0]) := Row.app H1.out (Only.alloc (.cells #[byteV 0] 5)) rfl hr2 hg2 hat2; have HO6 := Lib.hid h2.only; have HM1 := Lib.hid (HMA.out w6 h2.only (.slice a2 (key.length + 1) c2) (key ++ [0]) ((h2.kept (Only.alloc (.cells #[.slice ma msg.length mc] 22))).bytes) (by have := HL.out; simp; omega) (HZM.out.trans HD.out)); clear hr2 hg2 hat2 h2)
            | (go_at_call 14; first
                | ((with_reducible refine HM1.out.mono ?_); rintro e w7 ⟨rfl, ho7⟩; have HO7 := Lib.hid (HO6.out.trans ho7); have HM2 := Lib.hid (HMA.out w7 (HO6.out.trans ho7) (.slice ka key.length kc) key (HKB.out w7 (HO6.out.trans ho7)) (by have := HL.out; omega) HD.out); clear ho7)
                | ((with_reducible refine HM2.out.mono ?_); rintro e w8 ⟨rfl, ho8⟩; have HO8 := Lib.hid (HO7.out.trans ho8); clear ho8)))
          go_meet
          exact ⟨rfl, HO8.out⟩
        · have h64i : decide ((key.length : Int) < 64) = false := by simp; omega
          go_wp2
          go_meet
          exact ⟨rfl, Only.refl _ _⟩
      case rest =>
        obtain ⟨rfl, hox⟩ := hcut
        have HO5 := Lib.hid (HO4.out.trans hox)
        clear hox hY hgd2 HO4 HDL
        have HERR : Hid (∀ (i : Int) (w6 : World), (i < 0 ∨ 8160 < i) → Calls Tryd.prog 17 #[.slice ka key.length kc, .slice ma msg.length mc, .slice ka key.length kc, .int .i64 i] w6 fun e w' => e = .returned (.tuple #[.slice none 0 0, .iface 63 (.int .i64 7)]) ∧ w6 = w') := fun i w6 h => range_err h
        have HDER : Hid (∀ (i : Nat) (w6 : World), i ≤ 8160 → Only (fun _ => False) w w6 → Calls Tryd.prog 17 #[.slice ka key.length kc, .slice ma msg.length mc, .slice ka key.length kc, .int .i64 (i : Int)] w6 fun e w' => ∃ a c, e = .returned (.tuple #[.slice a i c, .nilIface]) ∧ w'.ownsRow 0 5 1 (.slice a i c) i ((derived key msg key i).map byteV) ∧ (∀ q, (Value.slice a i c).ownBlock = some q → w6.heap.size ≤ q) ∧ Only (fun _ => False) w6 w') := by
          intro i w6 hi ho
          have hk6 := HK.out.only ho HS.out (fun _ _ x => x)
          exact derive_any hk6 (HM.out.only ho HS.out (fun _ _ x => x)) hk6 (fun k hk => Nat.lt_of_lt_of_le (HS.out k hk) ho.size) (by omega) (by omega) (by omega) hi (HF.out.only ho (fun x => x)) (HT.out.only ho (fun x => x))
        obtain ⟨w5, hw5⟩ : ∃ q, q = wc := ⟨_, rfl⟩
        subst hw5
        have hN : (n < 0 ∨ 8160 < n) ∨ ∃ i : Nat, n = (i : Int) ∧ i ≤ 8160 := by
          by_cases h : n < 0 ∨ 8160 < n
          · exact .inl h
          · exact .inr ⟨n.toNat, by omega, by omega⟩
        have hM : (m < 0 ∨ 8160 < m) ∨ ∃ i : Nat, m = (i : Int) ∧ i ≤ 8160 := by
          by_cases h : m < 0 ∨ 8160 < m
          · exact .inl h
          · exact .inr ⟨m.toNat, by omega, by omega⟩
        rcases hN with hn | ⟨i, rfl, hi⟩
        · have HC1 := Lib.hid (HERR.out n w5 hn)
          rcases hM with hm | ⟨j, rfl, hj⟩
          · have HC2 := Lib.hid (HERR.out m w5 hm)
            rcases hn with hn | hn
            all_goals
              rcases hm with hm | hm
              all_goals
                (try have hn' : ¬ n < 0 := by omega)
                (try have hm' : ¬ m < 0 := by omega)
                go_wp2_with (go_at_call 17; first
                  | ((with_reducible refine HC1.out.mono ?_); rintro e w' ⟨rfl, rfl⟩)
                  | ((with_reducible refine HC2.out.mono ?_); rintro e w' ⟨rfl, rfl⟩))
                go_ret
                exact ⟨rfl, HO5.out⟩
          · have HC2 := Lib.hid (HDER.out j w5 hj HO5.out)
            have hm1 : ¬ (j : Int) < 0 := by omega
            have hm2 : ¬ (8160 : Int) < (j : Int) := by omega
            have hm3 : decide ((j : Int) < 0) = false := decide_eq_false hm1
            have hm4 : decide ((8160 : Int) < (j : Int)) = false := decide_eq_false hm2
            rcases hn with hn | hn
            all_goals
              (try have hn' : ¬ n < 0 := by omega)
              go_wp2_with (go_at_call 17; first
                | ((with_reducible refine HC1.out.mono ?_); rintro e w' ⟨rfl, rfl⟩)
                | ((with_reducible refine HC2.out.mono ?_); rintro e w6 ⟨a6, c6, rfl, hr6, hn6, ho6⟩; have HO6 := Lib.hid (HO5.out.trans ho6); clear hr6 hn6 ho6))
              go_ret
              exact ⟨rfl, HO6.out⟩
        · have HC1 := Lib.hid (HDER.out i w5 hi HO5.out)
          have hn1 : ¬ (i : Int) < 0 := by omega
          have hn2 : ¬ (8160 : Int) < (i : Int) := by omega
          have hn3 : decide ((i : Int) < 0) = false := decide_eq_false hn1
          have hn4 : decide ((8160 : Int) < (i : Int)) = false := decide_eq_false hn2
          rcases hM with hm | ⟨j, rfl, hj⟩
          · rcases hm with hm | hm
            all_goals
              (try have hm' : ¬ m < 0 := by omega)
              go_wp2_with (go_at_call 17; first
                | ((with_reducible refine HC1.out.mono ?_); rintro e w6 ⟨a6, c6, rfl, hr6, hn6, ho6⟩; have HO6 := Lib.hid (HO5.out.trans ho6); have HC2 := Lib.hid (HERR.out m w6 (by omega)); clear hr6 hn6 ho6)
                | ((with_reducible refine HC2.out.mono ?_); rintro e w' ⟨rfl, rfl⟩))
              go_ret
              exact ⟨rfl, HO6.out⟩
          · have hm1 : ¬ (j : Int) < 0 := by omega
            have hm2 : ¬ (8160 : Int) < (j : Int) := by omega
            have HW7 : Hid (∀ (w7 : World) (a6 : Option Addr) (c6 : Nat) (a7 : Option Addr) (c7 k : Nat), k ≤ i → k ≤ j → w7.ownsRow 0 5 1 (.slice a6 i c6) i ((derived key msg key i).map byteV) → w7.ownsRow 0 5 1 (.slice a7 j c7) j ((derived key msg key j).map byteV) → ((∀ w8 : World, (Instr.slice 22 (.slice a6 i c6) none (some (.int .i64 (k : Int))) none).run Tryd.prog w8 = .ok (.slice a6 k c6) w8) ∧ (∀ w8 : World, (Instr.slice 22 (.slice a7 j c7) none (some (.int .i64 (k : Int))) none).run Tryd.prog w8 = .ok (.slice a7 k c7) w8) ∧ (∀ nq : Nat, (convert 22 9 (.slice a6 k c6)).run Tryd.prog (w7.drewN nq) = .ok (.string ⟨(derived key msg key k).toArray⟩) (w7.drewN nq)) ∧ (∀ nq : Nat, (convert 22 9 (.slice a7 k c7)).run Tryd.prog (w7.drewN nq) = .ok (.string ⟨(derived key msg key k).toArray⟩) (w7.drewN nq)))) := by
              intro w7 a6 c6 a7 c7 k hki hkj h6 h7
              have e6 := row_cap h6
              have e7 := row_cap h7
              have p6 := bytes_pre h6 (derived_len key msg key i) hki
              have p7 := bytes_pre h7 (derived_len key msg key j) hkj
              rw [derived_take _ _ _ _ _ hki] at p6
              rw [derived_take _ _ _ _ _ hkj] at p7
              refine ⟨slice_h (by omega), slice_h (by omega), fun nq => ?_, fun nq => ?_⟩
              · exact (p6.only (Only.drewN nq) (fun _ h => h) (fun _ _ x => x)).text
              · exact (p7.only (Only.drewN nq) (fun _ h => h) (fun _ _ x => x)).text
            by_cases hji : j < i
            · go_upto_region 17 with (go_at_call 17; first
                | ((with_reducible refine HC1.out.mono ?_); rintro e w6 ⟨a6, c6, rfl, hr6, hn6, ho6⟩; have HO6 := Lib.hid (HO5.out.trans ho6); have HC2 := Lib.hid (HDER.out j w6 hj (HO5.out.trans ho6)); have HR6 := Lib.hid hr6; clear hr6 hn6 ho6 HC1)
                | ((with_reducible refine HC2.out.mono ?_); rintro e w7 ⟨a7, c7, rfl, hr7, hn7, ho7⟩; have HO7 := Lib.hid (HO6.out.trans ho7); have HR7 := Lib.hid hr7; have HR6' := Lib.hid (ownsRow_keep HR6.out (w' := w7) (fun q hq => ho7.block q (HR6.out.lt q hq).2 (fun x => x))); clear hr7 hn7 ho7))
              obtain ⟨s6, s7, t6, t7⟩ := HW7.out w7 a6 c6 a7 c7 j (by omega) (by omega) HR6'.out HR7.out
              go_quiet (fail)
              go_wp2
              go_ret
              exact ⟨rfl, HO7.out.trans (Only.drewN _)⟩
            · go_upto_region 17 with (go_at_call 17; first
                | ((with_reducible refine HC1.out.mono ?_); rintro e w6 ⟨a6, c6, rfl, hr6, hn6, ho6⟩; have HO6 := Lib.hid (HO5.out.trans ho6); have HC2 := Lib.hid (HDER.out j w6 hj (HO5.out.trans ho6)); have HR6 := Lib.hid hr6; clear hr6 hn6 ho6 HC1)
                | ((with_reducible refine HC2.out.mono ?_); rintro e w7 ⟨a7, c7, rfl, hr7, hn7, ho7⟩; have HO7 := Lib.hid (HO6.out.trans ho7); have HR7 := Lib.hid hr7; have HR6' := Lib.hid (ownsRow_keep HR6.out (w' := w7) (fun q hq => ho7.block q (HR6.out.lt q hq).2 (fun x => x))); clear hr7 hn7 ho7))
              obtain ⟨s6, s7, t6, t7⟩ := HW7.out w7 a6 c6 a7 c7 i (by omega) (by omega) HR6'.out HR7.out
              go_quiet (fail)
              go_wp2
              go_ret
              exact ⟨rfl, HO7.out.trans (Only.drewN _)⟩

set_option maxRecDepth 100000 in
theorem shaKeys_any {w : World} {S : Nat → Prop} {vk vm : Value} {key msg : List UInt8} {n m : Int} (hk : BytesAt w S vk key) (hm : BytesAt w S vm msg) (hkl : key.length ≤ 140737488355328) (hml : msg.length ≤ 140737488355328) (hS : ∀ k, S k → k < w.heap.size) (hf : Fst w) (ht : Tab w) :
    Calls Tryd.prog 7 #[.agg #[vk, vm, .int .i64 n, .int .i64 m]] w fun e w' => e = .returned (.bool true) ∧ Only (fun _ => False) w w' := by
  have ho : Only (fun _ => False) w (w.alloc (.cells #[vk, vm, .int .i64 n, .int .i64 m] 53)) := Only.alloc _
  have HC := Lib.hid (longer_any (n := n) (m := m) (hk.only ho hS (fun _ _ x => x)) (hm.only ho hS (fun _ _ x => x)) hkl hml (fun k hk => Nat.lt_of_lt_of_le (hS k hk) ho.size) (hf.only ho (fun x => x)) (ht.only ho (fun x => x)))
  have HO := Lib.hid ho
  obtain ⟨ka, kc, rfl⟩ := hk.shape
  obtain ⟨ma, mc, rfl⟩ := hm.shape
  clear hk hm hkl hml hS hf ht ho
  go_enter Tryd.func7, Tryd.ntmps7
  go_wp2_with (go_at_call 31; refine HC.out.mono ?_; rintro e w2 ⟨rfl, ho2⟩; have HO2 := Lib.hid ho2; clear ho2)
  go_ret
  exact ⟨rfl, HO.out.trans HO2.out⟩

end Go.Proofs.YtdgaojibfpafnaaDoor
