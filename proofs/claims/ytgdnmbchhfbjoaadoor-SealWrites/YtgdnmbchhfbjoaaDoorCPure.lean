/- ChaCha20 as plain mathematics: words are integers. Conditions: none. -/
import Derived.Test.YtgdnmbchhfbjoaaDoorGMem
namespace Go.Proofs.YtgdnmbchhfbjoaaDoor
open Go.RowKit
namespace Ch

/-- A word turned left by n bits. -/
def rot (x n : Int) : Int := bits .or .u32 (x * 2 ^ n.toNat % 4294967296) (x / 2 ^ (32 - n.toNat))
def turns : List Int := [16, 12, 8, 7]
def xo (x y : Int) : Int := bits .xor .u32 x y
def low (x : Int) : Int := x % 4294967296

structure V4 where
  (a b c d : Int)

/-- A quarter round. -/
def quarter (s : V4) : V4 :=
  let a := low (s.a + s.b)
  let d := rot (xo s.d a) 16
  let c := low (s.c + d)
  let b := rot (xo s.b c) 12
  let a2 := low (a + b)
  let d2 := rot (xo d a2) 8
  let c2 := low (c + d2)
  let b2 := rot (xo b c2) 7
  ⟨a2, b2, c2, d2⟩

def pick (ws : List Int) (i j k l : Nat) : V4 := ⟨ws.getD i 0, ws.getD j 0, ws.getD k 0, ws.getD l 0⟩
def put (ws : List Int) (i j k l : Nat) (v : V4) : List Int := (((ws.set i v.a).set j v.b).set k v.c).set l v.d
def quart (i j k l : Nat) (ws : List Int) : List Int := put ws i j k l (quarter (pick ws i j k l))

/-- A double round. -/
def round (ws : List Int) : List Int :=
  quart 3 4 9 14 (quart 2 7 8 13 (quart 1 6 11 12 (quart 0 5 10 15 (quart 3 7 11 15 (quart 2 6 10 14 (quart 1 5 9 13 (quart 0 4 8 12 ws)))))))
def rounds : Nat → List Int → List Int
  | 0, ws => ws
  | n + 1, ws => round (rounds n ws)

def word (b0 b1 b2 b3 : UInt8) : Int := b0.toNat + b1.toNat * 256 + b2.toNat * 65536 + b3.toNat * 16777216
def wordAt (bs : List UInt8) (i : Nat) : Int := word (bs.getD (4 * i) 0) (bs.getD (4 * i + 1) 0) (bs.getD (4 * i + 2) 0) (bs.getD (4 * i + 3) 0)
def four : List Int := [1634760805, 857760878, 2036477234, 1797285236]
/-- What every block of a key and a nonce begins as; the counter is the word c. -/
def start (key nonce : List UInt8) (c : Int) : List Int := four ++ ((List.range 8).map (wordAt key) ++ (c :: (List.range 3).map (wordAt nonce)))

def byteAt (ws : List Int) (i : Nat) : UInt8 := UInt8.ofNat (ws.getD (i / 4) 0 / 2 ^ (8 * (i % 4)) % 256).toNat
def sums (xs ys : List Int) : List Int := (List.range 16).map fun i => low (xs.getD i 0 + ys.getD i 0)
def out (ws : List Int) : List UInt8 := (List.range 64).map (byteAt ws)
/-- The block of sixteen words. -/
def blockOf (ws : List Int) : List UInt8 := out (sums (rounds 10 ws) ws)
/-- The block of a key, a counter and a nonce. -/
def block (key nonce : List UInt8) (c : Nat) : List UInt8 := blockOf (start key nonce c)
/-- The stream's byte at p. -/
def byte (key nonce : List UInt8) (p : Nat) : UInt8 := (block key nonce (p / 64)).getD (p % 64) 0
/-- Data under the stream, from the byte p on. -/
def xor (key nonce : List UInt8) (p : Nat) (x : List UInt8) : List UInt8 := x.mapIdx fun i b => b ^^^ byte key nonce (p + i)

theorem put_length (ws : List Int) (i j k l : Nat) (v : V4) : (put ws i j k l v).length = ws.length := by simp [put]
theorem quart_length (ws : List Int) (i j k l : Nat) : (quart i j k l ws).length = ws.length := put_length _ _ _ _ _ _
theorem round_length (ws : List Int) : (round ws).length = ws.length := by simp [round, quart_length]
theorem rounds_length (n : Nat) (ws : List Int) : (rounds n ws).length = ws.length := by
  induction n with
  | zero => rfl
  | succ n ih => rw [rounds, round_length, ih]
theorem start_length (key nonce : List UInt8) (c : Int) : (start key nonce c).length = 16 := by simp [start, four]
theorem sums_length (xs ys : List Int) : (sums xs ys).length = 16 := by simp [sums]
theorem out_length (ws : List Int) : (out ws).length = 64 := by simp [out]
theorem blockOf_length (ws : List Int) : (blockOf ws).length = 64 := out_length _
theorem block_length (key nonce : List UInt8) (c : Nat) : (block key nonce c).length = 64 := out_length _
theorem xor_length (key nonce : List UInt8) (p : Nat) (x : List UInt8) : (xor key nonce p x).length = x.length := by simp [xor]

theorem xor_getElem? (key nonce : List UInt8) (p : Nat) (x : List UInt8) (i : Nat) : (xor key nonce p x)[i]? = x[i]?.map (· ^^^ byte key nonce (p + i)) := by
  simp [xor]

theorem xor_append (key nonce : List UInt8) (p : Nat) (x y : List UInt8) : xor key nonce p (x ++ y) = xor key nonce p x ++ xor key nonce (p + x.length) y := by
  apply List.ext_getElem?
  intro i
  rw [xor_getElem?]
  by_cases h : i < x.length
  · rw [List.getElem?_append_left h, List.getElem?_append_left (by rw [xor_length]; exact h), xor_getElem?]
  · have e : p + i = p + x.length + (i - x.length) := by omega
    rw [List.getElem?_append_right (by omega), List.getElem?_append_right (by rw [xor_length]; omega), xor_getElem?, xor_length, e]

theorem xor_xor (key nonce : List UInt8) (p : Nat) (x : List UInt8) : xor key nonce p (xor key nonce p x) = x := by
  apply List.ext_getElem?
  intro i
  rw [xor_getElem?, xor_getElem?]
  cases x[i]? with
  | none => rfl
  | some b => simp [UInt8.xor_assoc]

theorem xor_drop (key nonce : List UInt8) (p : Nat) (x : List UInt8) (k : Nat) : (xor key nonce p x).drop k = xor key nonce (p + k) (x.drop k) := by
  apply List.ext_getElem?
  intro i
  rw [List.getElem?_drop, xor_getElem?, xor_getElem?, List.getElem?_drop, Nat.add_assoc]

theorem xor_take (key nonce : List UInt8) (p : Nat) (x : List UInt8) (k : Nat) : (xor key nonce p x).take k = xor key nonce p (x.take k) := by
  apply List.ext_getElem?
  intro i
  rw [List.getElem?_take, xor_getElem?, xor_getElem?, List.getElem?_take]
  split <;> rfl

/-- The example of RFC 8439. -/
def key0 : List UInt8 := (List.range 32).map UInt8.ofNat
def nonce0 : List UInt8 := [0, 0, 0, 9, 0, 0, 0, 74, 0, 0, 0, 0]
set_option maxRecDepth 100000 in
theorem block0 : (block key0 nonce0 1)[0]? = some 16 ∧ (block key0 nonce0 1)[1]? = some 241 ∧ (block key0 nonce0 1)[2]? = some 231 ∧ (block key0 nonce0 1)[3]? = some 228 ∧ (block key0 nonce0 1)[15]? = some 196 := by
  have e : (block key0 nonce0 1).take 16 = [16, 241, 231, 228, 209, 59, 89, 21, 80, 15, 221, 31, 163, 32, 113, 196] := by kernel_rfl
  have h : ∀ i, i < 16 → (block key0 nonce0 1)[i]? = [16, 241, 231, 228, 209, 59, 89, 21, 80, 15, 221, 31, 163, 32, 113, (196 : UInt8)][i]? := by
    intro i hi
    rw [← e, List.getElem?_take_of_lt hi]
  exact ⟨h 0 (by decide), h 1 (by decide), h 2 (by decide), h 3 (by decide), h 15 (by decide)⟩

end Ch
end Go.Proofs.YtgdnmbchhfbjoaaDoor
