/- keeps: what was synced is there behind a crash. Conditions: rows within reach. -/
import Derived.Test.YthjabfhfkikalaaKeep
import Derived.BigFrame
import Derived.BigQuiet
namespace Go.Proofs.Ythjabfhfkikalaa
open Go.RowKit Go.Maps Go.WideMaps

theorem wpList_append_bytes_want (w : World) {ops : Array Oper} {rest : List Oper} {o : Oper} {a : Act} {Q : Exit → Act → World → Prop} (hgd : Region.wanted o (yielded ops a.tmps) = true) (s x : Operand)
    (ho : o.op = .call { callee := .builtin .append, args := #[s, x], argTypes := #[22, 22] }) (v vx : Value) (n : Nat) (xs : List Value) (hs : a.eval s = v) (hx : a.eval x = vx)
    (hown : w.ownsRow 0 5 1 v n xs) {S : Nat → Prop} {bs : List UInt8} (hsrc : BytesAt w S vx bs) (hlen : n + bs.length ≤ 140737488355328)
    (h : ∀ a' c' w', w'.ownsRow 0 5 1 (.slice a' (n + bs.length) c') (n + bs.length) (xs ++ bs.map byteV) → w.grownBy w' v.ownBlock →
      ((Value.slice a' (n + bs.length) c').ownBlock = v.ownBlock ∨ (Value.slice a' (n + bs.length) c').ownBlock = some w.heap.size) → wpList Try.prog ops Q rest (a.put o.dst (.slice a' (n + bs.length) c')) w') :
    wpList Try.prog ops Q (o :: rest) a w := by
  refine BigFrame.wpList_want hgd fun K hK => ?_
  obtain ⟨a', c', w', hrun, h2, h3, h4⟩ := run_append_bytes w o.type v vx n xs hown hsrc hlen
  unfold Oper.wp execOp
  simp only [ho, resolve, invoke, builtin, Sem.run_bind, Sem.run_pure, Result.andThen_ok, List.map_toArray, List.map_cons, List.map_nil, hs, hx, hrun]
  exact hK _ _ (h a' c' w' h2 h3 h4)

/-- An Append of one part that was copied to new memory. -/
theorem append_copied {w wq w2 : World} {b : Nat} {ρ : Roles} {L : Lay} {s : Dm.St} (h : Rep w b ρ L s) (hwf : s.WF) (hst : s.steps < 2 ^ 62) (n : ByteArray) (hn : n.size ≤ maxLen) {bs : List UInt8} (hl : bs.length ≤ 140737488355328)
    {g : Nat} (hg : w.heap.size ≤ g) (hoq : Only (fun _ => False) w wq) {a' : Option Addr} {c' : Nat} (hown : w2.ownsRow 0 5 1 (.slice a' (0 + bs.length) c') (0 + bs.length) ([] ++ bs.map byteV)) (hgr : wq.grownBy w2 (some g))
    (hat : (Value.slice a' (0 + bs.length) c').ownBlock = some g ∨ (Value.slice a' (0 + bs.length) c').ownBlock = some wq.heap.size) :
    Calls Try.prog 21 #[.pointer (some ⟨b, 0, none⟩), .string n, .slice (some ⟨w2.heap.size, 0, none⟩) 1 1] (w2.alloc (.cells #[.slice a' bs.length c'] 22)) (OpPost b ρ w (s.append n.data.toList bs)) := by
  rw [Nat.zero_add, List.nil_append] at hown
  rw [Nat.zero_add] at hat
  have ho2 : Only (fun _ => False) w w2 := hoq.andThen (Only.of_grown hgr) fun k hk h => by
    have h3 : k = g := (Option.some.inj h)
    omega
  have hz := hoq.size
  refine (append_one (h.only_none ho2) hwf hst n hn ((BytesAt.of_row hown).kept (fun _ _ => rfl) fun k hk => ⟨(hown.lt k hk).2, ?_⟩) hl).mono fun e w' hq => hq.after (Moves.none ho2)
  cases hx : ρ k with
  | none => rfl
  | some r =>
    exfalso
    have h1 := h.low k (by rw [hx]; simp)
    rw [hk] at hat
    rcases hat with hat | hat
    · have h3 := Option.some.inj hat
      omega
    · have h3 := Option.some.inj hat
      omega

theorem copy_src {w w4 : World} {S : Nat → Prop} {v : Value} {bs : List UInt8} (hd : BytesAt w S v bs) (hlt : ∀ k, S k → k < w.heap.size) (ho : Only (fun _ => False) w w4) : BytesAt (w4.alloc (.cells #[] 5)) S v bs :=
  hd.kept (fun k hk => (Below.heap_alloc w4 _ k (Nat.lt_of_lt_of_le (hlt k hk) ho.size)).trans (ho.block k (hlt k hk) (fun x => x))) (fun _ h => h)

theorem copy_new (w4 : World) : (w4.alloc (.cells #[] 5)).ownsRow 0 5 1 (.slice (some ⟨w4.heap.size, 0, none⟩) 0 0) 0 [] := World.ownsRow_made w4 #[] 0 (Nat.zero_le _) (Nat.zero_le _) rfl

set_option maxRecDepth 100000 in
set_option maxHeartbeats 1000000 in
theorem keeps_out {w : World} {S : Nat → Prop} (hlt : ∀ k, S k → k < w.heap.size) {dv mv sv cv : Value} {data more : List UInt8} {l : List (OpD × Value × Value)} {cuts : List Int} (dirs : Int)
    (hd : BytesAt w S dv data) (hm : BytesAt w S mv more) (hs : ScriptAt w S sv l) (hc : IntsAt w S cv cuts) (hdl : data.length ≤ 140737488355328) (hml : more.length ≤ 140737488355328) (hll : l.length < 2 ^ 47)
    (hbig : longS 0 (l.map (·.1)) = true ∨ 65536 < data.length ∨ 65536 < more.length) :
    Calls Try.prog 8 #[dv, sv, .agg #[.int .i64 dirs, cv], mv] w fun e w' => e = .returned (.bool true) ∧ Only (fun _ => False) w w' := by
  obtain ⟨da, dc, hds⟩ := hd.shape
  obtain ⟨ma, mc, hms⟩ := hm.shape
  obtain ⟨ca, cc, hcs⟩ := hc.shape
  obtain ⟨sa, sc, hss⟩ := hs.shape
  subst hds hms hcs hss
  have HS := Lib.hid hs; have HLT := Lib.hid hlt; have HLL := Lib.hid hll
  have hal := alive_any (w.alloc (.cells #[.int .i64 dirs, .slice ca cuts.length cc] 26))
  have hlg : ∀ w1, Only (fun _ => False) (w.alloc (.cells #[.int .i64 dirs, .slice ca cuts.length cc] 26)) w1 → Calls Try.prog 10 #[.slice sa l.length sc] w1 fun e w' => e = .returned (.bool (longS 0 (l.map (·.1)))) ∧ Only (fun _ => False) w1 w' := by
    intro w1 ho
    have ho' := (Only.alloc (w := w) (.cells #[.int .i64 dirs, .slice ca cuts.length cc] 26)).trans ho
    exact long_any (HS.out.kept (fun k hk => ho'.block k (HLT.out k hk) (fun x => x)) (fun _ h => h)) (fun k hk => Nat.lt_of_lt_of_le (HLT.out k hk) ho'.size) HLL.out
  clear hs hd hm hc hlt hll
  generalize longS 0 (l.map (·.1)) = lg at *
  have hd1 : decide ((65536 : Int) < (data.length : Int)) = decide (65536 < data.length) := by simp only [decide_eq_decide]; omega
  have hm1 : decide ((65536 : Int) < (more.length : Int)) = decide (65536 < more.length) := by simp only [decide_eq_decide]; omega
  have fin : ∀ w1 w2, Only (fun _ => False) (w.alloc (.cells #[.int .i64 dirs, .slice ca cuts.length cc] 26)) w1 → Only (fun _ => False) w1 w2 → Only (fun _ => False) w w2 := fun w1 w2 h1 h2 => ((Only.alloc _).trans h1).trans h2
  have FIN := Lib.hid fin
  clear fin
  cases lg with
  | true =>
    clear hbig hd1 hm1
    go_enter Try.func8, Try.ntmps8
    go_wp2_with (first
      | (go_at_call 9; refine hal.mono ?_; rintro e w1 ⟨rfl, ho1⟩; have hl1 := hlg w1 ho1; have HO1 := Lib.hid ho1; clear ho1 hal hlg)
      | (go_at_call 10; refine hl1.mono ?_; rintro e w2 ⟨rfl, ho2⟩; have HO2 := Lib.hid ho2; clear ho2 hl1))
    go_ret
    exact ⟨rfl, FIN.out _ _ HO1.out HO2.out⟩
  | false =>
    by_cases h1 : 65536 < data.length
    · have hi : (65536 : Int) < (data.length : Int) := by omega
      clear hbig hd1 hm1
      go_enter Try.func8, Try.ntmps8
      go_wp2_with (first
        | (go_at_call 9; refine hal.mono ?_; rintro e w1 ⟨rfl, ho1⟩; have hl1 := hlg w1 ho1; have HO1 := Lib.hid ho1; clear ho1 hal hlg)
        | (go_at_call 10; refine hl1.mono ?_; rintro e w2 ⟨rfl, ho2⟩; have HO2 := Lib.hid ho2; clear ho2 hl1))
      go_ret
      exact ⟨rfl, FIN.out _ _ HO1.out HO2.out⟩
    · have hi : ¬ (65536 : Int) < (data.length : Int) := by omega
      have hj : (65536 : Int) < (more.length : Int) := by simp [h1] at hbig; omega
      clear hbig hd1 hm1
      go_enter Try.func8, Try.ntmps8
      go_wp2_with (first
        | (go_at_call 9; refine hal.mono ?_; rintro e w1 ⟨rfl, ho1⟩; have hl1 := hlg w1 ho1; have HO1 := Lib.hid ho1; clear ho1 hal hlg)
        | (go_at_call 10; refine hl1.mono ?_; rintro e w2 ⟨rfl, ho2⟩; have HO2 := Lib.hid ho2; clear ho2 hl1))
      go_ret
      exact ⟨rfl, FIN.out _ _ HO1.out HO2.out⟩

end Go.Proofs.Ythjabfhfkikalaa
