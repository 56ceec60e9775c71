/- The law ChachaSeeks. Conditions: rows within the reach. -/
import Derived.Test.YtjeccooodkogkaaCOps
import Derived.Test.YtjeccooodkogkaaCAlive
import Derived.Test.YtjeccooodkogkaaCRefX
import Derived.Deep.RegionHeld3
namespace Go.Proofs.Ytjeccooodkogkaa
open Go.RowKit

theorem addr_plain {w : World} {a : Addr} {v : Value} (h : w.cell? a = some v) : a = ⟨a.block, a.off, none⟩ := by
  obtain ⟨b, o, sp⟩ := a
  cases sp with
  | none => rfl
  | some x =>
    exfalso
    unfold World.cell? at h
    split at h <;> simp at h

/-- The cells of the i-th call. -/
theorem OpsAt.at_ {w : World} {S : Nat → Prop} {a : Option Addr} {c : Nat} {l : List OpD} (h : OpsAt w S (.slice a l.length c) l) {i : Nat} (hi : i < l.length) :
    ∃ g o, a = some ⟨g, o, none⟩ ∧ S g ∧ w.cell? ⟨g, o + i * 3, none⟩ = some (.int .i64 l[i].kind) ∧ w.cell? ⟨g, o + i * 3 + 1, none⟩ = some (.int .i64 l[i].at') ∧ w.cell? ⟨g, o + i * 3 + 2, none⟩ = some l[i].dv ∧ BytesAt w S l[i].dv l[i].data := by
  obtain ⟨a', c', h1, h2⟩ := h
  obtain ⟨ha, _, _⟩ := Value.slice.inj h1
  obtain ⟨ad, e, hS, k0, k1, k2, hb⟩ := h2 i hi
  obtain ⟨ad0, e0, _, z0, _⟩ := h2 0 (by omega)
  rw [e] at e0
  cases e0
  have ez : ad.add (0 * 3) = ad := by unfold Addr.add; simp
  rw [ez] at z0
  have ead := addr_plain z0
  rw [ead, add_lit] at k0 k1 k2
  exact ⟨ad.block, ad.off, by rw [ha, e]; exact congrArg some ead, hS, k0, by rw [Nat.add_assoc]; exact k1, by rw [Nat.add_assoc]; exact k2, hb⟩

/-- What the loop of ChachaSeeks keeps. -/
structure Sks (w wr : World) (b : Nat) (key nonce : List UInt8) (p : Nat) : Prop where
  kn : KN w wr key nonce
  st : StreamAt wr b key nonce p
  low : w.heap.size + 1 < b

theorem Sks.keep {w wr w' : World} {b : Nat} {key nonce : List UInt8} {p q : Nat} {S : Nat → Prop} (h : Sks w wr b key nonce p) (ho : Only S wr w') (hs : ∀ k, S k → k = b) (h2 : StreamAt w' b key nonce q) : Sks w w' b key nonce q :=
  ⟨h.kn.keep ho (fun k x => by have := hs k x; have := h.low; omega), h2, h.low⟩

theorem num8 (w : World) (n : Nat) : Calls Try.prog 15 #[.iface 62 (.int .i64 8)] (w.drewN n) fun e w' => e = .returned (.int .i64 8) ∧ ∃ m, w' = (w.drewN n).drewN m := (num_err 8 _ (by decide)).mono fun _ _ ⟨h1, h2⟩ => ⟨h1, 0, h2.symm⟩
theorem num0 (w : World) (n : Nat) : Calls Try.prog 15 #[.nilIface] (w.drewN n) fun e w' => e = .returned (.int .i64 0) ∧ ∃ m, w' = (w.drewN n).drewN m := (num_nil _).mono fun _ _ ⟨h1, h2⟩ => ⟨h1, 0, h2.symm⟩
theorem at_quiet {w : World} {b : Nat} {key nonce : List UInt8} {p : Nat} (h : StreamAt w b key nonce p) (n : Nat) : Calls Try.prog 19 #[.pointer (some ⟨b, 0, none⟩)] (w.drewN n) fun e w' => e = .returned (.int .i64 (p : Int)) ∧ ∃ m, w' = (w.drewN n).drewN m :=
  (at_any (h.keep (Only.drewN n) (fun x => x))).mono fun _ _ ⟨h1, h2⟩ => ⟨h1, 0, h2⟩

theorem pre_at {w : World} {S : Nat → Prop} {a : Option Addr} {c : Nat} {bs : List UInt8} (h : BytesAt w S (.slice a bs.length c) bs) {j : Nat} (hj : j ≤ bs.length) :
    (∀ w1 : World, (Instr.slice 29 (.slice a bs.length c) none (some (.int .i64 (j : Int))) none).run Try.prog w1 = .ok (.slice a j c) w1) ∧ BytesAt w S (.slice a j c) (bs.take j) := by
  have hlen : (bs.take j).length = j := by simp; omega
  rcases h with ⟨e, rfl⟩ | ⟨ad, c', e, hc, hs, hcell⟩
  · obtain ⟨rfl, _, rfl⟩ := Value.slice.inj e
    have hj0 : j = 0 := by simpa using hj
    subst hj0
    exact ⟨fun w1 => slice_h (Nat.le_refl _) w1, .inl ⟨rfl, by simp⟩⟩
  · obtain ⟨rfl, _, rfl⟩ := Value.slice.inj e
    refine ⟨fun w1 => slice_h (by omega) w1, .inr ⟨ad, c, by rw [hlen], by omega, fun hne => hs (by rintro rfl; simp at hne), fun t x hx => ?_⟩⟩
    rw [List.getElem?_take] at hx
    split at hx
    · exact hcell t x hx
    · cases hx

theorem post_at {w : World} {S : Nat → Prop} {a : Option Addr} {c : Nat} {bs : List UInt8} (h : BytesAt w S (.slice a bs.length c) bs) {i : Nat} (hi : i ≤ bs.length) :
    ∃ a', (∀ w1 : World, (Instr.slice 29 (.slice a bs.length c) (some (.int .i64 (i : Int))) none none).run Try.prog w1 = .ok (.slice a' (bs.length - i) (c - i)) w1) ∧ BytesAt w S (.slice a' (bs.length - i) (c - i)) (bs.drop i) := by
  have hlen : (bs.drop i).length = bs.length - i := by simp
  rcases h with ⟨e, rfl⟩ | ⟨ad, c', e, hc, hs, hcell⟩
  · obtain ⟨rfl, _, rfl⟩ := Value.slice.inj e
    have hi0 : i = 0 := by simpa using hi
    subst hi0
    refine ⟨none, fun w1 => ?_, .inl ⟨rfl, by simp⟩⟩
    rw [run_slice_l (ht := by kernel_rfl) (h0 := by omega) (h1 := by simp)]
    have hsz : (sizeOf (Try.prog.elem 29)).run Try.prog w1 = .ok 1 w1 := by kernel_rfl
    rw [hsz]
    simp [Result.andThen, sliced]
  · obtain ⟨rfl, _, rfl⟩ := Value.slice.inj e
    refine ⟨some (if c = i then ad else ad.add i), fun w1 => ?_, .inr ⟨_, c - i, by rw [hlen], by omega, fun hne => ?_, fun t x hx => ?_⟩⟩
    · rw [run_slice_l (ht := by kernel_rfl) (h0 := by omega) (h1 := by omega)]
      have hsz : (sizeOf (Try.prog.elem 29)).run Try.prog w1 = .ok 1 w1 := by kernel_rfl
      rw [hsz]
      by_cases e : c = i
      · simp [Result.andThen, sliced, e]
      · simp [Result.andThen, sliced, e]
    · have hb : (if c = i then ad else ad.add i).block = ad.block := by
        split
        · rfl
        · exact add_block _ _
      rw [hb]
      exact hs (by rintro rfl; simp at hne)
    · have ht : t < bs.length - i := by
        have := (List.getElem?_eq_some_iff.1 hx).1
        omega
      rw [List.getElem?_drop] at hx
      rw [if_neg (by omega), add_add]
      exact hcell _ x hx

set_option maxRecDepth 100000 in
set_option maxHeartbeats 4000000 in
theorem chachaSeeks_any {w : World} {key nonce : List UInt8} (hk : key.length = 32) (hn : nonce.length = 12) {S : Nat → Prop} {v : Value} {l : List OpD} (hops : OpsAt w S v l) (hS : ∀ k, S k → k < w.heap.size) :
    Calls Try.prog 6 #[digV key, digV nonce, v] w fun e w' => e = .returned (.bool true) ∧ Only (fun _ => False) w w' := by
  obtain ⟨va, vc, rfl, _⟩ := id hops
  have HK := Lib.hid hk; have HN := Lib.hid hn; have HV := Lib.hid hops; have HS := Lib.hid hS
  have HKN := Lib.hid (KN.new w key nonce)
  have HNEW : Hid (∀ w1, Calls Try.prog 17 #[.agg (key.map byteV).toArray, .agg (nonce.map byteV).toArray] w1 fun e w' => ∃ b, e = .returned (.pointer (some ⟨b, 0, none⟩)) ∧ StreamAt w' b key nonce 0 ∧ w1.heap.size ≤ b ∧ Only (fun _ => False) w1 w') := fun w1 => new_any HK.out HN.out
  clear hk hn hops hS
  unfold digV
  go_enter Try.func6, Try.ntmps6
  go_wp2_with fail
  generalize ((w.alloc (.cells (key.map byteV).toArray 22)).alloc (.cells (nonce.map byteV).toArray 24)) = w0 at *
  refine alive_any.mono ?_
  rintro e w1 ⟨rfl, ho1⟩
  have HK1 := Lib.hid (HKN.out.keep ho1 (fun _ x => x.elim))
  clear ho1 HKN
  go_wp2_with (first
    | (refine wpList_load_row rfl 22 (.tmp 3) rfl w.heap.size rfl 22 (key.map byteV).toArray (0, 0) _ HK1.out.kb.heap Try.underlying22 rfl (size_a32 HK.out) ?_)
    | (refine wpList_load_row rfl 24 (.tmp 4) rfl (w.heap.size + 1) rfl 24 (nonce.map byteV).toArray (0, 0) _ HK1.out.nb.heap Try.underlying24 rfl (size_a12 HN.out) ?_)
    | fail)
  refine (HNEW.out w1).mono ?_
  rintro e w2 ⟨b, rfl, hs2, hb2, ho2⟩
  have HS2 : Hid (Sks w w2 b key nonce 0) := ⟨HK1.out.keep ho2 (fun _ x => x.elim), hs2, by have := HK1.out.nb.lt; omega⟩
  clear hs2 hb2 ho2 HK1 HNEW
  by_cases hbig : (l.length : Int) > 100
  · go_wp2_with fail
    go_ret
    exact ⟨rfl, HS2.out.kn.only⟩
  · go_wp2_with fail
    go_loopw [8, 33] (fun pv iv wr => ∃ (i p : Nat), i ≤ l.length ∧ iv = .int .i64 i ∧ pv = .int .i64 (p : Int) ∧ Sks w wr b key nonce p) (fun _ iv _ => l.length - (intOf iv).toNat)
    case atStart => exact ⟨0, 0, Nat.zero_le _, rfl, rfl, HS2.out⟩
    case round =>
      obtain ⟨i, p, hi, rfl, rfl, hs⟩ := hrel
      by_cases hlt : i < l.length
      · obtain ⟨g, o, rfl, hSg, k0, k1, k2, hby⟩ := (HV.out.only hs.kn.only HS.out (fun _ _ x => x)).at_ hlt
        obtain ⟨da, dc, hdv⟩ := hby.shape
        rw [hdv] at k2 hby
        generalize l[i].kind = kind at *
        generalize l[i].at' = at' at *
        generalize l[i].data = data at *
        have HBY : Hid (BytesAt wr (fun k => k < wr.heap.size) (.slice da data.length dc) data) := hby.mono (fun k hk => Nat.lt_of_lt_of_le (HS.out k hk) hs.kn.only.size)
        have HDAT : Hid (∀ w', Only (fun k => k = b) wr w' → BytesAt w' (fun k => k < w'.heap.size) (.slice da data.length dc) data) := fun w' ho =>
          (hby.only ho (fun k hk => Nat.lt_of_lt_of_le (HS.out k hk) hs.kn.only.size) (fun k hk e => by have := HS.out k hk; have := hs.low; omega)).mono (fun k hk => Nat.lt_of_lt_of_le (HS.out k hk) (Nat.le_trans hs.kn.only.size ho.size))
        have HOWX : Hid (Only (fun k => k = b) wr (wr.alloc (.cells #[.int .i64 kind, .int .i64 at', .slice da data.length dc] 47))) := (Only.alloc _).mono (fun _ _ x => x.elim)
        have HSK := Lib.hid hs
        have hX := Blk.new wr [.int .i64 kind, .int .i64 at', .slice da data.length dc] 47
        have x0 : (wr.alloc (.cells #[.int .i64 kind, .int .i64 at', .slice da data.length dc] 47)).cell? ⟨wr.heap.size, 0, none⟩ = some (.int .i64 kind) := hX.cell 0
        have x1 : (wr.alloc (.cells #[.int .i64 kind, .int .i64 at', .slice da data.length dc] 47)).cell? ⟨wr.heap.size, 1, none⟩ = some (.int .i64 at') := hX.cell 1
        have x2 : (wr.alloc (.cells #[.int .i64 kind, .int .i64 at', .slice da data.length dc] 47)).cell? ⟨wr.heap.size, 2, none⟩ = some (.slice da data.length dc) := hX.cell 2
        have pz : 0 ≤ (i : Int) := by omega
        have mz : (i : Int) < (l.length : Int) := by omega
        clear hs hby hdv hSg HS2
        have HX := Lib.hid hX
        have HSX := Lib.hid (HSK.out.keep (Only.alloc (.cells #[.int .i64 kind, .int .i64 at', .slice da data.length dc] 47)) (fun _ x => x.elim) (HSK.out.st.keep (Only.alloc _) (fun x => x)))
        have HBX := Lib.hid (HBY.out.here (Only.alloc (.cells #[.int .i64 kind, .int .i64 at', .slice da data.length dc] 47)) (fun _ h => h))
        have HBG : Hid (b < wr.heap.size) := HSK.out.st.blk.lt
        have hX0 : wr.cell? ⟨g, o + i * 3, none⟩ = some (.int .i64 kind) := k0
        have k0X := Lib.hid (And.intro k0 (And.intro k1 k2))
        clear hX HSK HBY
        have hw1 : IntKind.i64.wrap ((i : Int) + 1) = (i : Int) + 1 := IntWalk.i64_in _ (by omega)
        by_cases hdl : (data.length : Int) > 4096
        · go_wp2_with fail
          go_ret
          exact ⟨rfl, HSX.out.kn.only⟩
        · have HL : Few data.length := ⟨by omega⟩
          by_cases hk1 : kind = 1
          · subst hk1
            go_wp2_with fail
            generalize wr.alloc (.cells #[.int .i64 1, .int .i64 at', .slice da data.length dc] 47) = wx at *
            generalize wr.heap.size = gx at *
            by_cases hin : 0 ≤ at' ∧ at' ≤ 274877906944
            · obtain ⟨q, rfl⟩ := Int.eq_ofNat_of_zero_le hin.1
              refine (seek_ok HSX.out.st (q := q) (by omega)).mono ?_
              rintro e w3 ⟨rfl, hs3, ho3⟩
              have HS3 := Lib.hid (HSX.out.keep ho3 (fun k x => x) hs3)
              have hX3 := HX.out.keep ho3 (by have := HBG.out; omega)
              have y1 : w3.cell? ⟨gx, 1, none⟩ = some (.int .i64 (q : Int)) := hX3.cell 1
              have g1 : ((q : Int) ≥ 0) = true := by simp
              have g2 : (q : Int) ≤ 274877906944 := hin.2
              have HQA := Lib.hid (at_quiet hs3)
              clear hs3 ho3 hX3 x0 x1 x2 k0 k1 k2 hX0 hin HX HSX HBX
              go_wp2_with fail
              go_quiet ((first | (go_at_call 15; with_reducible exact Calls.quiet_of (num0 _ _)) | (go_at_call 19; with_reducible exact Calls.quiet_of (HQA.out _))))
              go_wp2_with fail
              exact ⟨⟨i + 1, q, by omega, by go_num, rfl, HS3.out.keep (Only.drewN nq) (fun _ x => x.elim) (HS3.out.st.keep (Only.drewN nq) (fun x => x))⟩, by simp [intOf]; omega⟩
            · refine (seek_err (w := wx) (b := b) (q := at') (by omega)).mono ?_
              rintro e w3 ⟨rfl, rfl⟩
              by_cases h0 : 0 ≤ at'
              · have h1 : ¬ at' ≤ 274877906944 := by omega
                clear hin
                have HQA := Lib.hid (at_quiet HSX.out.st)
                clear x0 x2 k0 k1 k2 hX0 HX HBX
                go_wp2_with fail
                go_quiet ((first | (go_at_call 15; with_reducible exact Calls.quiet_of (num8 _ _)) | (go_at_call 19; with_reducible exact Calls.quiet_of (HQA.out _))))
                go_wp2_with fail
                exact ⟨⟨i + 1, p, by omega, by go_num, rfl, HSX.out.keep (Only.drewN nq) (fun _ x => x.elim) (HSX.out.st.keep (Only.drewN nq) (fun x => x))⟩, by simp [intOf]; omega⟩
              · have h0' : at' < 0 := by omega
                have hd0 : decide (0 ≤ at') = false := decide_eq_false h0
                clear hin h0
                have HQA := Lib.hid (at_quiet HSX.out.st)
                clear x0 x2 k0 k1 k2 hX0 HX HBX
                go_wp2_with fail
                go_quiet ((first | (go_at_call 15; with_reducible exact Calls.quiet_of (num8 _ _)) | (go_at_call 19; with_reducible exact Calls.quiet_of (HQA.out _))))
                go_wp2_with fail
                exact ⟨⟨i + 1, p, by omega, by go_num, rfl, HSX.out.keep (Only.drewN nq) (fun _ x => x.elim) (HSX.out.st.keep (Only.drewN nq) (fun x => x))⟩, by simp [intOf]; omega⟩
          · have hkb : (kind == 1) = false := by simpa using hk1
            obtain ⟨mx, hmx⟩ : ∃ mx : Nat, (if at' < 0 then (0 : Int) else at') = (mx : Int) := ⟨(if at' < 0 then (0 : Int) else at').toNat, by split <;> omega⟩
            obtain ⟨kk, hkk⟩ : ∃ kk, min mx data.length = kk := ⟨_, rfl⟩
            have hkl : kk ≤ data.length := by omega
            have hmax : ∀ (ts : Array TypeId) (t : TypeId) (W : World), (Builtin.max_ ts t #[.int .i64 at', .int .i64 0]).run Try.prog W = .ok (.int .i64 (mx : Int)) W := fun ts t W => by
              rw [run_max_int2]
              congr 2
            have hmin : ∀ (ts : Array TypeId) (t : TypeId) (W : World), (Builtin.min_ ts t #[.int .i64 (mx : Int), .int .i64 (data.length : Int)]).run Try.prog W = .ok (.int .i64 (kk : Int)) W := fun ts t W => by
              rw [run_min_int2]
              congr 2
              split <;> omega
            obtain ⟨hs1, hb1⟩ := pre_at HBX.out hkl
            obtain ⟨a2, hs2, hb2⟩ := post_at HBX.out hkl
            have hst := HSX.out.st.keep ((Only.alloc (.cells #[.slice da kk dc, .slice a2 (data.length - kk) (dc - kk)] 29)).trans Only.drew) (fun x => x)
            have hpa := (new_two hb1 hb2).kept (w' := ((wr.alloc (.cells #[.int .i64 kind, .int .i64 at', .slice da data.length dc] 47)).alloc (.cells #[.slice da kk dc, .slice a2 (data.length - kk) (dc - kk)] 29)).drew) (fun _ _ => rfl) (fun _ h => h)
            have hxo := sXOR_any hst hpa (fun _ h => h) ⟨by simp⟩ ⟨by have := HL.le; simp; omega⟩
            simp only [List.flatten_cons, List.flatten_nil, List.append_nil, List.take_append_drop] at hxo
            have HXO := Lib.hid hxo
            clear hst hpa hxo hb1 hb2 hk1 hmx hkk k0 k1 k2 hX0 x1
            have x1 : (wr.alloc (.cells #[.int .i64 kind, .int .i64 at', .slice da data.length dc] 47)).cell? ⟨wr.heap.size, 1, none⟩ = some (.int .i64 at') := HX.out.cell 1
            have k0' := k0X.out.1; have k1' := k0X.out.2.1; have k2' := k0X.out.2.2
            go_wp2_with fail
            generalize wr.alloc (.cells #[.int .i64 kind, .int .i64 at', .slice da data.length dc] 47) = wx at *
            generalize wr.heap.size = gx at *
            have x2d : wx.drew.cell? ⟨gx, 2, none⟩ = some (.slice da data.length dc) := x2
            have x2a : ((wx.alloc (.cells #[.slice da kk dc, .slice a2 (data.length - kk) (dc - kk)] 29)).drew).cell? ⟨gx, 2, none⟩ = some (.slice da data.length dc) := (HX.out.keep ((Only.alloc _).trans Only.drew) (fun x => x)).cell 2
            by_cases hfit : p + data.length ≤ 274877906944
            · have HXF : Hid (Calls Try.prog 20 #[.pointer (some ⟨b, 0, none⟩), .slice (some ⟨wx.heap.size, 0, none⟩) 2 2] ((wx.alloc (.cells #[.slice da kk dc, .slice a2 (data.length - kk) (dc - kk)] 29)).drew) fun e w' => ∃ ua uc, e = .returned (.tuple #[.slice ua data.length uc, .nilIface]) ∧ w'.ownsRow 0 5 1 (.slice ua data.length uc) data.length ((Ch.xor key nonce p data).map byteV) ∧ w'.cell? ⟨gx, 2, none⟩ = some (.slice da data.length dc) ∧ Sks w w' b key nonce (p + data.length) ∧ BytesAt w' (fun k => k < w'.heap.size) (.slice da data.length dc) data) := by
                refine HXO.out.mono ?_
                rintro e w' (⟨_, u, rfl, h1, _, h2, h3⟩ | ⟨h, _⟩)
                · obtain ⟨ua, uc, rfl⟩ := row_shape h1
                  have hoA : Only (fun k => k = b) wx w' := (((Only.alloc _).trans Only.drew).mono (fun _ _ x => x.elim)).trans h3
                  refine ⟨ua, uc, rfl, h1, (HX.out.keep hoA (by have := HBG.out; omega)).cell 2, HSX.out.keep hoA (fun _ x => x) h2, ?_⟩
                  exact HDAT.out w' (HOWX.out.trans hoA)
                · omega
              go_region_held3 (fun w' => w'.cell? ⟨gx, 2, none⟩ = some (.slice da data.length dc))
                (first | exact x2d | exact x2a | exact x2w)
                (first | (go_at_call 20; refine HXF.out.mono ?_; rintro e w4 ⟨ua, uc, rfl, hr4, x2w, hs4, hb4⟩; have HR4 := Lib.hid hr4; have HS4 := Lib.hid hs4; have HB4 := Lib.hid hb4; clear hr4 hs4 hb4))
              have hrr := r3XOR_ok (w := w4) HK.out HN.out (p := p) HB4.out (fun _ h => h) HL ⟨hfit⟩
              have HRR := Lib.hid hrr
              unfold digV at HRR
              have hwp : IntKind.i64.wrap ((p : Int) + (data.length : Int)) = (p : Int) + (data.length : Int) := IntWalk.i64_in _ (by have := HL.le; omega)
              clear hrr hfit x2d x2a hmax hmin hs1 hs2 HXF HXO HX HSX HBX k0' k1' k2' x0 x1 x2
              go_wp2_with (first
                | (refine wpList_load_row rfl 22 (.tmp 3) rfl w.heap.size rfl 22 (key.map byteV).toArray (0, 0) _ HS4.out.kn.kb.heap Try.underlying22 rfl (size_a32 HK.out) ?_)
                | (refine wpList_load_row rfl 24 (.tmp 4) rfl (w.heap.size + 1) rfl 24 (nonce.map byteV).toArray (0, 0) _ HS4.out.kn.nb.heap Try.underlying24 rfl (size_a12 HN.out) ?_)
                | fail)
              refine HRR.out.mono ?_
              rintro e w5 ⟨ra, rc, rfl, hrow⟩
              have ho5 := hrow.only
              have t1 : (convert 29 9 (.slice ua data.length uc)).run Try.prog w5 = .ok (.string ⟨(Ch.xor key nonce p data).toArray⟩) w5 := ((BytesAt.of_row HR4.out).only ho5 (fun k hk => (HR4.out.lt k hk).2) (fun _ _ x => x)).text
              have t2 : (convert 29 9 (.slice ra data.length rc)).run Try.prog w5 = .ok (.string ⟨(Ch.xor key nonce p data).toArray⟩) w5 := hrow.bytes.text
              have HS5 := Lib.hid (HS4.out.keep ho5 (fun _ x => x.elim) (HS4.out.st.keep ho5 (fun x => x)))
              have x5 : w5.cell? ⟨gx, 2, none⟩ = some (.slice da data.length dc) := by
                rw [World.cell?_of_block (w := w4) (ho5.block gx (World.block_lt_of_cell? w4 _ x2w) (fun x => x))]
                exact x2w
              have HAT := Lib.hid (at_any HS5.out.st)
              rw [Int.natCast_add] at HAT
              generalize Ch.xor key nonce p data = xs at *
              clear hrow ho5 x2w HRR HR4 HS4 HB4
              go_wp2_with (first
                | (go_at_call 15; refine (num_nil _).mono ?_; rintro e w' ⟨rfl, rfl⟩)
                | (go_at_call 19; refine HAT.out.mono ?_; rintro e w' ⟨rfl, rfl⟩))
              refine ⟨⟨i + 1, p + data.length, by omega, by go_num, by rw [Int.natCast_add], HS5.out⟩, by simp [intOf]; omega⟩
            · have HXF : Hid (Calls Try.prog 20 #[.pointer (some ⟨b, 0, none⟩), .slice (some ⟨wx.heap.size, 0, none⟩) 2 2] ((wx.alloc (.cells #[.slice da kk dc, .slice a2 (data.length - kk) (dc - kk)] 29)).drew) fun e w' => e = .returned (.tuple #[.slice none 0 0, .iface 62 (.int .i64 8)]) ∧ w'.cell? ⟨gx, 2, none⟩ = some (.slice da data.length dc) ∧ Sks w w' b key nonce p) := by
                refine HXO.out.mono ?_
                rintro e w' (⟨h, _⟩ | ⟨_, rfl, h3⟩)
                · omega
                · have hoA : Only (fun k => False) wx w' := ((Only.alloc _).trans Only.drew).trans h3
                  exact ⟨rfl, (HX.out.keep hoA (fun x => x)).cell 2, HSX.out.keep hoA (fun _ x => x.elim) (HSX.out.st.keep hoA (fun x => x))⟩
              have HNW : ¬ Within (p : Int) data.length := by unfold Within; omega
              go_region_held3 (fun w' => w'.cell? ⟨gx, 2, none⟩ = some (.slice da data.length dc))
                (first | exact x2d | exact x2a | exact x2w)
                (first | (go_at_call 20; refine HXF.out.mono ?_; rintro e w4 ⟨rfl, x2w, hs4⟩; have HS4 := Lib.hid hs4; clear hs4))
              have hrr := r3XOR_err (w := w4) (key := key) (nonce := nonce) (a := da) (c := dc) HNW
              have HRR := Lib.hid hrr
              unfold digV at HRR
              clear hrr hfit HNW x2d x2a hmax hmin hs1 hs2 HXF HXO HX HSX HBX k0' k1' k2' x0 x1 x2
              go_wp2_with (first
                | (refine wpList_load_row rfl 22 (.tmp 3) rfl w.heap.size rfl 22 (key.map byteV).toArray (0, 0) _ HS4.out.kn.kb.heap Try.underlying22 rfl (size_a32 HK.out) ?_)
                | (refine wpList_load_row rfl 24 (.tmp 4) rfl (w.heap.size + 1) rfl 24 (nonce.map byteV).toArray (0, 0) _ HS4.out.kn.nb.heap Try.underlying24 rfl (size_a12 HN.out) ?_)
                | fail)
              refine HRR.out.mono ?_
              rintro e w5 ⟨rfl, ho5⟩
              have t1 : (convert 29 9 (.slice none 0 0)).run Try.prog w5 = .ok (.string ⟨([] : List UInt8).toArray⟩) w5 := BytesAt.text (S := fun _ => True) (.inl ⟨rfl, rfl⟩)
              have HS5 := Lib.hid (HS4.out.keep ho5 (fun _ x => x.elim) (HS4.out.st.keep ho5 (fun x => x)))
              have HAT := Lib.hid (at_any HS5.out.st)
              clear ho5 x2w HRR HS4
              go_wp2_with (first
                | (go_at_call 15; refine (num_err 8 _ (by decide)).mono ?_; rintro e w' ⟨rfl, rfl⟩)
                | (go_at_call 19; refine HAT.out.mono ?_; rintro e w' ⟨rfl, rfl⟩))
              refine ⟨⟨i + 1, p, by omega, by go_num, rfl, HS5.out⟩, by simp [intOf]; omega⟩
      · have HF := Lib.hid hs.kn.only
        clear hs HS2
        go_wp2_with fail
        go_ret
        exact ⟨rfl, HF.out⟩

end Go.Proofs.Ytjeccooodkogkaa
