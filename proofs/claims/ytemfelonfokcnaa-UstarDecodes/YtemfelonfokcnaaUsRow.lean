/- Rows that a call itself makes, texts and bytes appended; octal and text of the document. Conditions: short. -/
import Derived.Test.YtemfelonfokcnaaUsEncA
import Derived.Lib.AppendStr
namespace Go.Proofs.Ytemfelonfokcnaa
open Go.RowKit

/-- A row that the call itself has made. -/
structure RowB (w wr : World) (ov : Value) (bs : List UInt8) : Prop where
  row : wr.ownsRow w.heap.size 5 1 ov bs.length (bs.map byteV)
  only : Quiet w wr

theorem rowB_shape {w : World} {B n : Nat} {v : Value} {xs : List Value} (h : w.ownsRow B 5 1 v n xs) : ∃ a cap, v = .slice a n cap := by
  rcases h.2 with ⟨rfl, rfl⟩ | ⟨g, cap, cur, rfl, _⟩
  · exact ⟨none, 0, rfl⟩
  · exact ⟨_, cap, rfl⟩
theorem RowB.shape {w wr : World} {ov : Value} {bs : List UInt8} (h : RowB w wr ov bs) : ∃ a c, ov = .slice a bs.length c := rowB_shape h.row
theorem rowB_keep {w w' : World} {B n : Nat} {v : Value} {xs : List Value} (h : w.ownsRow B 5 1 v n xs) (ho : Quiet w w') : w'.ownsRow B 5 1 v n xs := by
  refine ⟨h.1, ?_⟩
  rcases h.2 with h1 | ⟨g, cap, cur, h1, h2, h3, h4⟩
  · exact .inl h1
  · exact .inr ⟨g, cap, cur, h1, h2, ho.keep h3 (fun x => x), h4⟩
theorem RowB.kept {w wr w1 : World} {ov : Value} {bs : List UInt8} (h : RowB w wr ov bs) (ho : Quiet wr w1) : RowB w w1 ov bs := ⟨rowB_keep h.row ho, h.only.trans ho⟩
theorem RowB.app {w wr w1 w2 : World} {ov : Value} {bs y : List UInt8} {v : Value} {n : Nat} (h : RowB w wr ov bs) (ho : Quiet wr w1) (hn : n = bs.length + y.length) (hr : w2.ownsRow w.heap.size 5 1 v n (bs.map byteV ++ y.map byteV)) (hg : w1.grownBy w2 ov.ownBlock) :
    RowB w w2 v (bs ++ y) := by
  subst hn
  refine ⟨by rw [List.length_append, List.map_append]; exact hr, (h.only.trans ho).andThen ((Only.of_grown hg).mono (S' := fun q => some q = ov.ownBlock) (fun q _ h => h)) (fun k hk e => ?_)⟩
  have := (h.row.lt k e.symm).1
  omega
theorem RowB.nil (w : World) : RowB w w (.slice none 0 0) [] := ⟨World.ownsRow_nil _ _ _ _, Only.refl _ _⟩
theorem RowB.bytes {w wr : World} {ov : Value} {bs : List UInt8} (h : RowB w wr ov bs) : BytesAt wr (fun k => w.heap.size ≤ k ∧ k < wr.heap.size) ov bs :=
  (BytesAt.of_row h.row).mono (fun k hk => h.row.lt k hk)

theorem wpList_append_txtB {w0 wr w : World} {ops : Array Oper} {rest : List Oper} {o : Oper} {a : Act} {Q : Exit → Act → World → Prop} (hgd : o.guard = none) (s x : Operand)
    (ho : o.op = .call { callee := .builtin .append, args := #[s, x], argTypes := #[25, 9] }) (v : Value) (t : ByteArray) (hs : a.eval s = v) (hx : a.eval x = .string t)
    {bs : List UInt8} (hown : RowB w0 wr v bs) (hq : Quiet wr w) (hlen : bs.length + t.size ≤ 4096)
    (h : ∀ a' c' w', RowB w0 w' (.slice a' (bs.length + t.size) c') (bs ++ t.data.toList) → wpList Try.prog ops Q rest (a.put o.dst (.slice a' (bs.length + t.size) c')) w') :
    wpList Try.prog ops Q (o :: rest) a w := by
  refine wpList_plain hgd fun K hK => ?_
  obtain ⟨i, hi, hz0, hz1, hz2⟩ := info_parts info_u8
  have hh := hown.only.size
  have hq2 := hq.size
  obtain ⟨v', w', hrun, h2, h3, _⟩ := Lib.run_append_own_string (P := Try.prog) (w := w) w0.heap.size 25 9 o.type 5 i Try.underlying25 Try.underlying9 hi hz0 hz1 hz2 v bs.length (bs.map byteV) (rowB_keep hown.row hq) t
    (by unfold maxLen; omega) (by omega) (by omega)
  obtain ⟨a', c', rfl⟩ := rowB_shape h2
  unfold Oper.wp execOp
  simp only [ho, resolve, invoke, builtin, Sem.run_bind, Sem.run_pure, Result.andThen_ok, List.map_toArray, List.map_cons, List.map_nil, hs, hx, hrun]
  exact hK _ _ (h a' c' w' (hown.app hq (by simp) h2 h3))

theorem wpList_append_oneB {w0 wr w : World} {ops : Array Oper} {rest : List Oper} {o : Oper} {a : Act} {Q : Exit → Act → World → Prop} (hgd : o.guard = none) (s x : Operand)
    (ho : o.op = .call { callee := .builtin .append, args := #[s, x], argTypes := #[25, 25] }) (v : Value) (g : Nat) (b : UInt8) (hs : a.eval s = v) (hx : a.eval x = .slice (some ⟨g, 0, none⟩) 1 1)
    {bs : List UInt8} (hown : RowB w0 wr v bs) (hq : Quiet wr w) (hc : w.cell? ⟨g, 0, none⟩ = some (byteV b)) (hlen : bs.length + 1 ≤ 4096)
    (h : ∀ a' c' w', RowB w0 w' (.slice a' (bs.length + 1) c') (bs ++ [b]) → wpList Try.prog ops Q rest (a.put o.dst (.slice a' (bs.length + 1) c')) w') :
    wpList Try.prog ops Q (o :: rest) a w := by
  refine wpList_plain hgd fun K hK => ?_
  obtain ⟨i, hi, hz0, hz1, hz2⟩ := info_parts info_u8
  have hh := hown.only.size
  have hq2 := hq.size
  obtain ⟨v', w', hrun, h2, h3, _, _⟩ := run_append_own_at (P := Try.prog) w w0.heap.size 25 o.type 5 i _ 1 1 Try.underlying25 hi hz0 hz1 hz2 rfl (by omega) v bs.length (bs.map byteV) (rowB_keep hown.row hq) ⟨g, 0, none⟩ 1 1 [byteV b] (by simp)
    (fun j u hu => by
      match j, hu with
      | 0, hu => cases hu; exact hc) (fun u hu => by simp at hu; subst hu; rfl) (by unfold maxLen; omega) (by omega) (by omega)
  obtain ⟨a', c', rfl⟩ := rowB_shape h2
  unfold Oper.wp execOp
  simp only [ho, resolve, invoke, builtin, Sem.run_bind, Sem.run_pure, Result.andThen_ok, List.map_toArray, List.map_cons, List.map_nil, hs, hx, hrun]
  exact hK _ _ (h a' c' w' (hown.app (y := [b]) hq rfl h2 h3))

theorem conv_one (w : World) (b : UInt8) : (convert 25 9 (.slice (some ⟨w.heap.size, 0, none⟩) 1 1)).run Try.prog (w.alloc (.cells #[byteV b] 5)) = .ok (.string ⟨#[b]⟩) (w.alloc (.cells #[byteV b] 5)) := by
  have h : BytesAt (w.alloc (.cells #[byteV b] 5)) (fun k => k = w.heap.size) (.slice (some ⟨w.heap.size, 0, none⟩) 1 1) [b] :=
    BytesAt.of_block (o := 0) (c := 1) (bs := [b]) (Blk.new w [byteV b] 5).heap (Nat.le_refl _) (fun j x hx => by
      match j, hx with
      | 0, hx => cases hx; rfl)
  exact h.text

set_option maxRecDepth 100000 in
set_option maxHeartbeats 2000000 in
/-- The document's octal. -/
theorem r10octal_any (n : Nat) (hn : n < 4611686018427387904) (d : Nat) (hd : d ≤ 20) (w : World) :
    Calls Try.prog 32 #[.int .i64 (n : Int), .int .i64 (d : Int)] w fun e w' => e = .returned (.string (Us.str (Us.oct d n))) ∧ Quiet w w' := by
  go_enter Try.func32, Try.ntmps32
  go_wp2
  go_loopw [0, 5, 6] (fun nv sv iv wr => ∃ i : Nat, i ≤ d ∧ nv = .int .i64 ((n / 8 ^ i : Nat) : Int) ∧ sv = .string (Us.str (Us.oct i n)) ∧ iv = .int .i64 (i : Int) ∧ Quiet w wr) (fun _ _ iv _ => d - (intOf iv).toNat)
  case atStart => exact ⟨0, Nat.zero_le _, by simp, rfl, rfl, Only.refl _ _⟩
  case round =>
    obtain ⟨i, hi, rfl, rfl, rfl, ho⟩ := hrel
    by_cases hlt : i < d
    · have hN := Nat.div_le_self n (8 ^ i)
      have hdd : n / 8 ^ i / 8 = n / 8 ^ (i + 1) := by rw [Nat.div_div_eq_div_mul, Nat.pow_succ]
      have hcons : Us.oct (i + 1) n = UInt8.ofNat (48 + n / 8 ^ i % 8) :: Us.oct i n := Us.oct_cons i n
      have hsz : (Us.str (Us.oct i n)).size = i := Us.oct_len i n
      have ev : byteV (UInt8.ofNat (48 + n / 8 ^ i % 8)) = .int .u8 (48 + ((n / 8 ^ i % 8 : Nat) : Int)) := by
        unfold byteV; rw [Us.digit_val]; push_cast; rfl
      have hct := conv_one wr (UInt8.ofNat (48 + n / 8 ^ i % 8))
      rw [ev] at hct
      have HO := Lib.hid ho; have HDD := Lib.hid hdd
      have HSTR : Hid (Us.str (Us.oct (i + 1) n) = (⟨#[UInt8.ofNat (48 + n / 8 ^ i % 8)]⟩ : ByteArray) ++ Us.str (Us.oct i n)) := by
        unfold Hid
        rw [hcons]
        apply ByteArray.ext
        apply Array.toList_inj.1
        simp [Us.str]
      clear ho hdd hcons ev
      generalize UInt8.ofNat (48 + n / 8 ^ i % 8) = b at *
      generalize n / 8 ^ i = N at *
      generalize hR : N % 8 = R at *
      have hr : R < 8 := by omega
      generalize Us.str (Us.oct i n) = s at *
      have e1 : (N : Int).tmod 8 = (R : Int) := by rw [Int.tmod_eq_emod_of_nonneg (by omega)]; omega
      have e2 : IntKind.u8.wrap (48 + (R : Int)) = 48 + R := by rw [IntKind.wrap_u8]; omega
      have e3 : (N : Int).tdiv 8 = ((N / 8 : Nat) : Int) := by rw [Int.tdiv_eq_ediv_of_nonneg (by omega)]; omega
      have z3 : ¬ (9223372036854775807 < 1 + s.size) := by omega
      go_wp2
      refine ⟨⟨i + 1, by omega, by rw [← HDD.out]; rfl, by rw [HSTR.out], by go_num, HO.out.trans (Only.alloc _)⟩, by simp [intOf]; omega⟩
    · obtain rfl : i = d := by omega
      have HO := Lib.hid ho
      clear ho
      go_wp2
      go_ret
      exact ⟨rfl, HO.out⟩

namespace Us
theorem zs_snoc (n : Nat) : zs n ++ [0] = zs (n + 1) := by
  unfold zs
  rw [List.replicate_succ']
end Us

set_option maxRecDepth 100000 in
set_option maxHeartbeats 2000000 in
/-- The document's text. -/
theorem r10text_any {w wp : World} {ov : Value} {bs : List UInt8} (hr : RowB w wp ov bs) (s : ByteArray) (n : Nat) (hn : s.size ≤ n) (hl : bs.length + n ≤ 2048) :
    Calls Try.prog 41 #[ov, .string s, .int .i64 (n : Int)] wp fun e w' => ∃ a c, e = .returned (.slice a (bs.length + n) c) ∧ RowB w w' (.slice a (bs.length + n) c) (bs ++ Us.txt s.data.toList n) := by
  have HR := Lib.hid hr
  have hsl : s.data.toList.length = s.size := by simp
  clear hr
  go_enter Try.func41, Try.ntmps41
  go_wp2_with (at_builtin; refine wpList_append_txtB rfl _ _ rfl ov s rfl rfl HR.out (Only.refl _ _) (by omega) ?_; intro a1 c1 w1 hr1; have HR1 := Lib.hid hr1; clear hr1)
  go_loopw [0, 7] (fun rv iv wx => ∃ (j : Nat) (a : Option Addr) (c : Nat), j + s.size ≤ n ∧ rv = .slice a (bs.length + s.size + j) c ∧ iv = .int .i64 ((s.size + j : Nat) : Int) ∧ RowB w wx rv (bs ++ (s.data.toList ++ Us.zs j))) (fun _ iv _ => n - (intOf iv).toNat)
  case atStart => exact ⟨0, a1, c1, by omega, rfl, rfl, by simpa [Us.zs] using HR1.out⟩
  case round =>
    obtain ⟨j, a, c, hj, rfl, rfl, hrow⟩ := hrel
    have hlen : (bs ++ (s.data.toList ++ Us.zs j)).length = bs.length + s.size + j := by simp [Us.zs_len]; omega
    by_cases hlt : j + s.size < n
    · have HW := Lib.hid hrow
      have hlt2 : (((s.size + j : Nat) : Int)) < (n : Int) := by omega
      have HC : Hid ((wr.alloc (.cells #[.int .u8 0] 5)).cell? ⟨wr.heap.size, 0, none⟩ = some (byteV 0)) := by
        unfold Hid; rw [(Blk.new wr [.int .u8 0] 5).cell]; rfl
      have HLEN := Lib.hid hlen
      clear hrow hlen
      generalize hk : s.size + j = k at *
      go_wp2_with (at_builtin; refine wpList_append_oneB rfl _ _ rfl (.slice a (bs.length + s.size + j) c) wr.heap.size 0 rfl rfl HW.out (Only.alloc _) HC.out (by rw [HLEN.out]; omega) ?_; intro a2 c2 w2 hr2; have HR2 := Lib.hid hr2; clear hr2)
      go_roundw
      case rel =>
        have h2 := HR2.out
        rw [HLEN.out] at h2
        have e7 : bs.length + (s.size + (Us.zs j).length) + 1 = bs.length + s.size + (j + 1) := by rw [Us.zs_len]; omega
        rw [e7]
        refine ⟨j + 1, a2, c2, by omega, rfl, by congr 1; omega, ?_⟩
        rw [← Us.zs_snoc, ← List.append_assoc s.data.toList, ← List.append_assoc]
        exact h2
      case measure => simp [intOf]; omega
    · have hjn : s.size + j = n := by omega
      rw [hjn]
      have HT : Hid (RowB w wr (.slice a (bs.length + n) c) (bs ++ Us.txt s.data.toList n)) := by
        have e : Us.txt s.data.toList n = s.data.toList ++ Us.zs j := by unfold Us.txt; rw [hsl]; congr 2; omega
        unfold Hid
        rw [e, ← hjn, ← Nat.add_assoc]
        exact hrow
      have e5 : bs.length + s.size + j = bs.length + n := by omega
      rw [e5]
      clear hrow hlen
      go_wp2
      go_ret
      exact ⟨a, c, rfl, HT.out⟩

end Go.Proofs.Ytemfelonfokcnaa
