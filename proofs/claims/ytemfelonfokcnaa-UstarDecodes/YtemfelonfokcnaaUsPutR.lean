/- The document's put: a block with a text in the sum's place. Conditions: a header that fits. -/
import Derived.Test.YtemfelonfokcnaaUsRow
namespace Go.Proofs.Ytemfelonfokcnaa
open Go.RowKit

theorem r10text_at {w wp : World} {ov : Value} {bs : List UInt8} (hr : RowB w wp ov bs) (s : ByteArray) (n m : Nat) (ni : Int) (hni : ni = (n : Int)) (hn : s.size ≤ n) (hm : bs.length + n = m) (hl : m ≤ 2048) :
    Calls Try.prog 41 #[ov, .string s, .int .i64 ni] wp fun e w' => ∃ a c bs', e = .returned (.slice a m c) ∧ RowB w w' (.slice a m c) bs' ∧ bs' = bs ++ Us.txt s.data.toList n ∧ bs'.length = m := by
  subst hni hm
  refine (r10text_any hr s n hn hl).mono ?_
  rintro e w' ⟨a, c, rfl, h⟩
  exact ⟨a, c, _, rfl, h, rfl, by rw [List.length_append, Us.txt_len (by simpa using hn)]⟩
theorem r10octal_at (x : Int) (h0 : 0 ≤ x) (hn : x < 8589934592) (d : Nat) (di : Int) (hdi : di = (d : Int)) (hd : d ≤ 20) (w : World) :
    Calls Try.prog 32 #[.int .i64 x, .int .i64 di] w fun e w' => e = .returned (.string (Us.str (Us.oct d x.toNat))) ∧ Quiet w w' := by
  subst hdi
  have := r10octal_any x.toNat (by omega) d hd w
  rw [Us.nat_int h0] at this
  exact this
theorem wpList_append_txtN {w0 wr w : World} {ops : Array Oper} {rest : List Oper} {o : Oper} {a : Act} {Q : Exit → Act → World → Prop} (hgd : o.guard = none) (s x : Operand)
    (ho : o.op = .call { callee := .builtin .append, args := #[s, x], argTypes := #[25, 9] }) (v : Value) (t : ByteArray) (m : Nat) (hs : a.eval s = v) (hx : a.eval x = .string t)
    {bs : List UInt8} (hown : RowB w0 wr v bs) (hq : Quiet wr w) (hm : bs.length + t.size = m) (hlen : m ≤ 4096)
    (h : ∀ a' c' bs' w', RowB w0 w' (.slice a' m c') bs' → bs' = bs ++ t.data.toList → bs'.length = m → wpList Try.prog ops Q rest (a.put o.dst (.slice a' m c')) w') :
    wpList Try.prog ops Q (o :: rest) a w := by
  subst hm
  exact wpList_append_txtB hgd s x ho v t hs hx hown hq hlen fun a' c' w' hr => h a' c' _ w' hr rfl (by simp)
theorem wpList_append_oneN {w0 wr w : World} {ops : Array Oper} {rest : List Oper} {o : Oper} {a : Act} {Q : Exit → Act → World → Prop} (hgd : o.guard = none) (s x : Operand)
    (ho : o.op = .call { callee := .builtin .append, args := #[s, x], argTypes := #[25, 25] }) (v : Value) (g : Nat) (b : UInt8) (m : Nat) (hs : a.eval s = v) (hx : a.eval x = .slice (some ⟨g, 0, none⟩) 1 1)
    {bs : List UInt8} (hown : RowB w0 wr v bs) (hq : Quiet wr w) (hc : w.cell? ⟨g, 0, none⟩ = some (byteV b)) (hm : bs.length + 1 = m) (hlen : m ≤ 4096)
    (h : ∀ a' c' bs' w', RowB w0 w' (.slice a' m c') bs' → bs' = bs ++ [b] → bs'.length = m → wpList Try.prog ops Q rest (a.put o.dst (.slice a' m c')) w') :
    wpList Try.prog ops Q (o :: rest) a w := by
  subst hm
  exact wpList_append_oneB hgd s x ho v g b hs hx hown hq hc hlen fun a' c' w' hr => h a' c' _ w' hr rfl (by simp)
theorem one_cell (w : World) (x : Int) (b : UInt8) (hx : x = (b.toNat : Int)) : (w.alloc (.cells #[.int .u8 x] 5)).cell? ⟨w.heap.size, 0, none⟩ = some (byteV b) := by
  subst hx
  rw [(Blk.new w [.int .u8 (b.toNat : Int)] 5).cell]
  rfl
theorem str_size (l : Us.By) : (Us.str l).size = l.length := rfl

theorem enc_sz {l q nm : Us.By} {a b : ByteArray} (h : Us.Parts l q nm) (ea : a.data.toList = q) (eb : b.data.toList = nm) : b.size ≤ 100 ∧ a.size ≤ 155 := by
  have h1 := h.ql; have h2 := h.nl
  subst ea eb
  simp at h1 h2
  exact ⟨h2, h1⟩
theorem RowB.weaken {w w1 wr : World} {ov : Value} {bs : List UInt8} (h : RowB w1 wr ov bs) (hq : Quiet w w1) : RowB w wr ov bs := by
  refine ⟨⟨h.row.1, ?_⟩, hq.trans h.only⟩
  rcases h.row.2 with h1 | ⟨g, cap, cur, h1, h2, h3⟩
  · exact .inl h1
  · exact .inr ⟨g, cap, cur, h1, Nat.le_trans hq.size h2, h3⟩
theorem Us.put_chain (q nm : Us.By) (h : Hd) (s : Us.By) :
    [] ++ Us.txt nm 100 ++ Us.txt (Us.str (Us.oct 7 h.mode.toNat)).data.toList 8 ++ Us.txt (Us.str (Us.oct 7 h.uid.toNat)).data.toList 8 ++ Us.txt (Us.str (Us.oct 7 h.gid.toNat)).data.toList 8 ++ Us.txt (Us.str (Us.oct 11 h.size.toNat)).data.toList 12 ++
      Us.txt (Us.str (Us.oct 11 h.time.toNat)).data.toList 12 ++ s ++ [h.type] ++ Us.txt h.link.data.toList 100 ++ Us.txt (ByteArray.mk #[117, 115, 116, 97, 114]).data.toList 6 ++ (ByteArray.mk #[48, 48]).data.toList ++ Us.txt (ByteArray.mk #[]).data.toList 64 ++
      Us.txt (ByteArray.mk #[48, 48, 48, 48, 48, 48, 48]).data.toList 8 ++ Us.txt (ByteArray.mk #[48, 48, 48, 48, 48, 48, 48]).data.toList 8 ++ Us.txt q 155 ++ Us.txt (ByteArray.mk #[]).data.toList 12 = Us.put q nm h s := by
  have e7 : ∀ n, Us.txt (Us.str (Us.oct 7 n)).data.toList 8 = Us.oct 7 n ++ [0] := fun n => by show Us.txt (Us.oct 7 n) 8 = _; unfold Us.txt; rw [Us.oct_len]; rfl
  have e11 : ∀ n, Us.txt (Us.str (Us.oct 11 n)).data.toList 12 = Us.oct 11 n ++ [0] := fun n => by show Us.txt (Us.oct 11 n) 12 = _; unfold Us.txt; rw [Us.oct_len]; rfl
  rw [e7, e7, e7, e11, e11]
  have m : Us.txt (ByteArray.mk #[117, 115, 116, 97, 114]).data.toList 6 ++ (ByteArray.mk #[48, 48]).data.toList = Us.mag := rfl
  have d : Us.txt (ByteArray.mk #[48, 48, 48, 48, 48, 48, 48]).data.toList 8 ++ Us.txt (ByteArray.mk #[48, 48, 48, 48, 48, 48, 48]).data.toList 8 = Us.dev := rfl
  have z1 : Us.txt (ByteArray.mk #[]).data.toList 64 = Us.zs 64 := rfl
  have z2 : Us.txt (ByteArray.mk #[]).data.toList 12 = Us.zs 12 := rfl
  unfold Us.put Us.F
  rw [← m, ← d, z1, z2]
  simp [List.append_assoc]

set_option maxRecDepth 100000 in
set_option maxHeartbeats 8000000 in
theorem r10put_any (h : Hd) (hp : h.path.size ≤ 140737488351232) {q nm : Us.By} (F : Us.Fit h q nm) (sm : ByteArray) (hsm : sm.size = 8) (w : World) :
    Calls Try.prog 31 #[hdV h, .string sm] w fun e w' => ∃ a c, e = .returned (.slice a 512 c) ∧ RowB w w' (.slice a 512 c) (Us.put q nm h sm.data.toList) := by
  have HP := Lib.hid (fun W => r10path_any h.path hp W)
  have hok : Us.okPath h.path.data.toList = true := by unfold Us.okPath; rw [F.parts, F.clean]; rfl
  rw [hok] at HP
  have HFP : Hid (∀ a b, PathTo h.path.data.toList a b → a.data.toList = q ∧ b.data.toList = nm) := fun a b hab => hab hok q nm F.parts
  have HPS := Lib.hid (Us.parts_of F.parts)
  have HOmode : Hid (∀ W, Calls Try.prog 32 #[.int .i64 h.mode, .int .i64 7] W fun e w' => e = .returned (.string (Us.str (Us.oct 7 h.mode.toNat))) ∧ Quiet W w') := fun W => r10octal_at h.mode F.m1 (by have := F.m2; omega) 7 7 rfl (by decide) W
  have HOuid : Hid (∀ W, Calls Try.prog 32 #[.int .i64 h.uid, .int .i64 7] W fun e w' => e = .returned (.string (Us.str (Us.oct 7 h.uid.toNat))) ∧ Quiet W w') := fun W => r10octal_at h.uid F.u1 (by have := F.u2; omega) 7 7 rfl (by decide) W
  have HOgid : Hid (∀ W, Calls Try.prog 32 #[.int .i64 h.gid, .int .i64 7] W fun e w' => e = .returned (.string (Us.str (Us.oct 7 h.gid.toNat))) ∧ Quiet W w') := fun W => r10octal_at h.gid F.g1 (by have := F.g2; omega) 7 7 rfl (by decide) W
  have HOsize : Hid (∀ W, Calls Try.prog 32 #[.int .i64 h.size, .int .i64 11] W fun e w' => e = .returned (.string (Us.str (Us.oct 11 h.size.toNat))) ∧ Quiet W w') := fun W => r10octal_at h.size F.s1 F.s2 11 11 rfl (by decide) W
  have HOtime : Hid (∀ W, Calls Try.prog 32 #[.int .i64 h.time, .int .i64 11] W fun e w' => e = .returned (.string (Us.str (Us.oct 11 h.time.toNat))) ∧ Quiet W w') := fun W => r10octal_at h.time F.t1 F.t2 11 11 rfl (by decide) W
  have hl : h.link.size ≤ 100 := by have := F.ll; simpa using this
  have HB0 := Lib.hid (Blk.new w (hdL h) 23)
  have HQ0 : Hid (Quiet w (w.alloc (.cells (hdL h).toArray 23))) := Only.alloc _
  clear F hok hp
  unfold hdV
  obtain ⟨c0, c1, c2, c3, c4, c5, c6, c7, fz⟩ := hd_cells HB0.out
  go_enter Try.func31, Try.ntmps31
  go_wp2_with (first
    | (go_at_call 41; have TX := r10text_at HR15.out (⟨#[]⟩) 12 512 12 rfl (by decide) (by rw [HN15.out]) (by decide); (with_reducible refine TX.mono ?_); clear TX; rintro e w22 ⟨a16, c16, b16, rfl, hr, he, hn⟩; have HR16 := Lib.hid hr; have HE16 := Lib.hid he; have HN16 := Lib.hid hn; obtain ⟨d0, d1, d2, d3, d4, d5, d6, d7, dz⟩ := hd_cells (HB1.out.keep HR16.out.only (fun x => x)); clear hr he hn)
    | (go_at_call 41; have TX := r10text_at HR14.out (pa) 155 500 155 rfl az (by rw [HN14.out]) (by decide); (with_reducible refine TX.mono ?_); clear TX; rintro e w21 ⟨a15, c15, b15, rfl, hr, he, hn⟩; have HR15 := Lib.hid hr; have HE15 := Lib.hid he; have HN15 := Lib.hid hn; obtain ⟨d0, d1, d2, d3, d4, d5, d6, d7, dz⟩ := hd_cells (HB1.out.keep HR15.out.only (fun x => x)); clear hr he hn)
    | (go_at_call 41; have TX := r10text_at HR13.out (⟨#[48, 48, 48, 48, 48, 48, 48]⟩) 8 345 8 rfl (by decide) (by rw [HN13.out]) (by decide); (with_reducible refine TX.mono ?_); clear TX; rintro e w20 ⟨a14, c14, b14, rfl, hr, he, hn⟩; have HR14 := Lib.hid hr; have HE14 := Lib.hid he; have HN14 := Lib.hid hn; obtain ⟨d0, d1, d2, d3, d4, d5, d6, d7, dz⟩ := hd_cells (HB1.out.keep HR14.out.only (fun x => x)); clear hr he hn)
    | (go_at_call 41; have TX := r10text_at HR12.out (⟨#[48, 48, 48, 48, 48, 48, 48]⟩) 8 337 8 rfl (by decide) (by rw [HN12.out]) (by decide); (with_reducible refine TX.mono ?_); clear TX; rintro e w19 ⟨a13, c13, b13, rfl, hr, he, hn⟩; have HR13 := Lib.hid hr; have HE13 := Lib.hid he; have HN13 := Lib.hid hn; obtain ⟨d0, d1, d2, d3, d4, d5, d6, d7, dz⟩ := hd_cells (HB1.out.keep HR13.out.only (fun x => x)); clear hr he hn)
    | (go_at_call 41; have TX := r10text_at HR11.out (⟨#[]⟩) 64 329 64 rfl (by decide) (by rw [HN11.out]) (by decide); (with_reducible refine TX.mono ?_); clear TX; rintro e w18 ⟨a12, c12, b12, rfl, hr, he, hn⟩; have HR12 := Lib.hid hr; have HE12 := Lib.hid he; have HN12 := Lib.hid hn; obtain ⟨d0, d1, d2, d3, d4, d5, d6, d7, dz⟩ := hd_cells (HB1.out.keep HR12.out.only (fun x => x)); clear hr he hn)
    | (at_builtin; refine wpList_append_txtN rfl _ _ rfl (.slice a10 263 c10) ⟨#[48, 48]⟩ 265 rfl rfl HR10.out (Only.refl _ _) (by rw [HN10.out]; rfl) (by decide) ?_; intro a11 c11 b11 w17 hr he hn; have HR11 := Lib.hid hr; have HE11 := Lib.hid he; have HN11 := Lib.hid hn; obtain ⟨d0, d1, d2, d3, d4, d5, d6, d7, dz⟩ := hd_cells (HB1.out.keep HR11.out.only (fun x => x)); clear hr he hn)
    | (go_at_call 41; have TX := r10text_at HR9.out (⟨#[117, 115, 116, 97, 114]⟩) 6 263 6 rfl (by decide) (by rw [HN9.out]) (by decide); (with_reducible refine TX.mono ?_); clear TX; rintro e w16 ⟨a10, c10, b10, rfl, hr, he, hn⟩; have HR10 := Lib.hid hr; have HE10 := Lib.hid he; have HN10 := Lib.hid hn; obtain ⟨d0, d1, d2, d3, d4, d5, d6, d7, dz⟩ := hd_cells (HB1.out.keep HR10.out.only (fun x => x)); clear hr he hn)
    | (go_at_call 41; have TX := r10text_at HR8.out (h.link) 100 257 100 rfl hl (by rw [HN8.out]) (by decide); (with_reducible refine TX.mono ?_); clear TX; rintro e w15 ⟨a9, c9, b9, rfl, hr, he, hn⟩; have HR9 := Lib.hid hr; have HE9 := Lib.hid he; have HN9 := Lib.hid hn; obtain ⟨d0, d1, d2, d3, d4, d5, d6, d7, dz⟩ := hd_cells (HB1.out.keep HR9.out.only (fun x => x)); clear hr he hn)
    | (at_builtin; refine wpList_append_oneN rfl _ _ rfl (.slice a7 156 c7) w13.heap.size h.type 157 rfl rfl HR7.out (Only.alloc _) (one_cell _ _ _ rfl) (by rw [HN7.out]) (by decide) ?_; intro a8 c8 b8 w14 hr he hn; have HR8 := Lib.hid hr; have HE8 := Lib.hid he; have HN8 := Lib.hid hn; obtain ⟨d0, d1, d2, d3, d4, d5, d6, d7, dz⟩ := hd_cells (HB1.out.keep HR8.out.only (fun x => x)); clear hr he hn)
    | (at_builtin; refine wpList_append_txtN rfl _ _ rfl (.slice a6 148 c6) sm 156 rfl rfl HR6.out (Only.refl _ _) (by rw [HN6.out, hsm]) (by decide) ?_; intro a7 c7 b7 w13 hr he hn; have HR7 := Lib.hid hr; have HE7 := Lib.hid he; have HN7 := Lib.hid hn; obtain ⟨d0, d1, d2, d3, d4, d5, d6, d7, dz⟩ := hd_cells (HB1.out.keep HR7.out.only (fun x => x)); clear hr he hn)
    | (go_at_call 41; have TX := r10text_at HR5o.out (Us.str (Us.oct 11 h.time.toNat)) 12 148 12 rfl (by rw [str_size, Us.oct_len]; decide) (by rw [HN5.out]) (by decide); (with_reducible refine TX.mono ?_); clear TX; rintro e w12 ⟨a6, c6, b6, rfl, hr, he, hn⟩; have HR6 := Lib.hid hr; have HE6 := Lib.hid he; have HN6 := Lib.hid hn; obtain ⟨d0, d1, d2, d3, d4, d5, d6, d7, dz⟩ := hd_cells (HB1.out.keep HR6.out.only (fun x => x)); clear hr he hn)
    | (go_at_call 32; (with_reducible refine (HOtime.out _).mono ?_); rintro e w11 ⟨rfl, hq⟩; have HR5o := Lib.hid (HR5.out.kept hq); obtain ⟨d0, d1, d2, d3, d4, d5, d6, d7, dz⟩ := hd_cells (HB1.out.keep HR5o.out.only (fun x => x)); clear hq)
    | (go_at_call 41; have TX := r10text_at HR4o.out (Us.str (Us.oct 11 h.size.toNat)) 12 136 12 rfl (by rw [str_size, Us.oct_len]; decide) (by rw [HN4.out]) (by decide); (with_reducible refine TX.mono ?_); clear TX; rintro e w10 ⟨a5, c5, b5, rfl, hr, he, hn⟩; have HR5 := Lib.hid hr; have HE5 := Lib.hid he; have HN5 := Lib.hid hn; obtain ⟨d0, d1, d2, d3, d4, d5, d6, d7, dz⟩ := hd_cells (HB1.out.keep HR5.out.only (fun x => x)); clear hr he hn)
    | (go_at_call 32; (with_reducible refine (HOsize.out _).mono ?_); rintro e w9 ⟨rfl, hq⟩; have HR4o := Lib.hid (HR4.out.kept hq); obtain ⟨d0, d1, d2, d3, d4, d5, d6, d7, dz⟩ := hd_cells (HB1.out.keep HR4o.out.only (fun x => x)); clear hq)
    | (go_at_call 41; have TX := r10text_at HR3o.out (Us.str (Us.oct 7 h.gid.toNat)) 8 124 8 rfl (by rw [str_size, Us.oct_len]; decide) (by rw [HN3.out]) (by decide); (with_reducible refine TX.mono ?_); clear TX; rintro e w8 ⟨a4, c4, b4, rfl, hr, he, hn⟩; have HR4 := Lib.hid hr; have HE4 := Lib.hid he; have HN4 := Lib.hid hn; obtain ⟨d0, d1, d2, d3, d4, d5, d6, d7, dz⟩ := hd_cells (HB1.out.keep HR4.out.only (fun x => x)); clear hr he hn)
    | (go_at_call 32; (with_reducible refine (HOgid.out _).mono ?_); rintro e w7 ⟨rfl, hq⟩; have HR3o := Lib.hid (HR3.out.kept hq); obtain ⟨d0, d1, d2, d3, d4, d5, d6, d7, dz⟩ := hd_cells (HB1.out.keep HR3o.out.only (fun x => x)); clear hq)
    | (go_at_call 41; have TX := r10text_at HR2o.out (Us.str (Us.oct 7 h.uid.toNat)) 8 116 8 rfl (by rw [str_size, Us.oct_len]; decide) (by rw [HN2.out]) (by decide); (with_reducible refine TX.mono ?_); clear TX; rintro e w6 ⟨a3, c3, b3, rfl, hr, he, hn⟩; have HR3 := Lib.hid hr; have HE3 := Lib.hid he; have HN3 := Lib.hid hn; obtain ⟨d0, d1, d2, d3, d4, d5, d6, d7, dz⟩ := hd_cells (HB1.out.keep HR3.out.only (fun x => x)); clear hr he hn)
    | (go_at_call 32; (with_reducible refine (HOuid.out _).mono ?_); rintro e w5 ⟨rfl, hq⟩; have HR2o := Lib.hid (HR2.out.kept hq); obtain ⟨d0, d1, d2, d3, d4, d5, d6, d7, dz⟩ := hd_cells (HB1.out.keep HR2o.out.only (fun x => x)); clear hq)
    | (go_at_call 41; have TX := r10text_at HR1o.out (Us.str (Us.oct 7 h.mode.toNat)) 8 108 8 rfl (by rw [str_size, Us.oct_len]; decide) (by rw [HN1.out]) (by decide); (with_reducible refine TX.mono ?_); clear TX; rintro e w4 ⟨a2, c2, b2, rfl, hr, he, hn⟩; have HR2 := Lib.hid hr; have HE2 := Lib.hid he; have HN2 := Lib.hid hn; obtain ⟨d0, d1, d2, d3, d4, d5, d6, d7, dz⟩ := hd_cells (HB1.out.keep HR2.out.only (fun x => x)); clear hr he hn)
    | (go_at_call 32; (with_reducible refine (HOmode.out _).mono ?_); rintro e w3 ⟨rfl, hq⟩; have HR1o := Lib.hid (HR1.out.kept hq); obtain ⟨d0, d1, d2, d3, d4, d5, d6, d7, dz⟩ := hd_cells (HB1.out.keep HR1o.out.only (fun x => x)); clear hq)
    | (go_at_call 41; have TX := r10text_at HR0.out (pb) 100 100 100 rfl bz rfl (by decide); (with_reducible refine TX.mono ?_); clear TX; rintro e w2 ⟨a1, c1, b1, rfl, hr, he, hn⟩; have HR1 := Lib.hid hr; have HE1 := Lib.hid he; have HN1 := Lib.hid hn; obtain ⟨d0, d1, d2, d3, d4, d5, d6, d7, dz⟩ := hd_cells (HB1.out.keep HR1.out.only (fun x => x)); clear hr he hn)
    | (go_at_call 11; refine (HP.out _).mono ?_; rintro e w1 ⟨pa, pb, rfl, hab, hq⟩; obtain ⟨ea, eb⟩ := HFP.out pa pb hab; have HB1 := Lib.hid (HB0.out.keep hq (fun x => x)); have HQ1 := Lib.hid (HQ0.out.trans hq); have HR0 := Lib.hid (RowB.nil w1); obtain ⟨bz, az⟩ := enc_sz HPS.out ea eb; obtain ⟨d0, d1, d2, d3, d4, d5, d6, d7, dz⟩ := hd_cells (HB1.out.keep HR0.out.only (fun x => x)); clear hab hq))
  go_ret
  refine ⟨a16, c16, rfl, ?_⟩
  have hx := HR16.out.weaken HQ1.out
  have e : b16 = Us.put q nm h sm.data.toList := by
    rw [HE16.out, HE15.out, HE14.out, HE13.out, HE12.out, HE11.out, HE10.out, HE9.out, HE8.out, HE7.out, HE6.out, HE5.out, HE4.out, HE3.out, HE2.out, HE1.out, ea, eb]
    exact Us.put_chain q nm h sm.data.toList
  rw [← e]
  exact hx

end Go.Proofs.Ytemfelonfokcnaa
