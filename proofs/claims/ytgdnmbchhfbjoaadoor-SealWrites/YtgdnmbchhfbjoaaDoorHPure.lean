/- SHA-256, HMAC and HKDF as plain mathematics: words are integers. Conditions: none. -/
import Derived.Test.YtgdnmbchhfbjoaaDoorGBase
namespace Go.Proofs.YtgdnmbchhfbjoaaDoor
namespace Sh

/-- A word turned right by n bits. -/
def rot (x n : Int) : Int := bits .or .u32 (x / 2 ^ n.toNat) (x * 2 ^ (32 - n.toNat) % 4294967296)
/-- The numbers of bits that are asked for. -/
def turns : List Int := [2, 6, 7, 11, 13, 17, 18, 19, 22, 25]
def xo (x y : Int) : Int := bits .xor .u32 x y
def an (x y : Int) : Int := bits .and .u32 x y
def no (x : Int) : Int := bits .xor .u32 4294967295 x
def low (x : Int) : Int := x % 4294967296

def word (b0 b1 b2 b3 : UInt8) : Int := b0.toNat * 16777216 + b1.toNat * 65536 + b2.toNat * 256 + b3.toNat

def sg0 (x : Int) : Int := xo (xo (rot x 7) (rot x 18)) (x / 8)
def sg1 (x : Int) : Int := xo (xo (rot x 17) (rot x 19)) (x / 1024)

def first16 (blk : List UInt8) : List Int := (List.range 16).map fun t => word (blk.getD (4 * t) 0) (blk.getD (4 * t + 1) 0) (blk.getD (4 * t + 2) 0) (blk.getD (4 * t + 3) 0)
def next (ws : List Int) : Int := low (sg1 (ws.getD (ws.length - 2) 0) + ws.getD (ws.length - 7) 0 + sg0 (ws.getD (ws.length - 15) 0) + ws.getD (ws.length - 16) 0)
def grow : Nat → List Int → List Int
  | 0, ws => ws
  | n + 1, ws => grow n ws ++ [next (grow n ws)]

structure V8 where
  (a b c d e f g h : Int)

def V8.list (s : V8) : List Int := [s.a, s.b, s.c, s.d, s.e, s.f, s.g, s.h]

def bs0 (x : Int) : Int := xo (xo (rot x 2) (rot x 13)) (rot x 22)
def bs1 (x : Int) : Int := xo (xo (rot x 6) (rot x 11)) (rot x 25)
def ch (e f g : Int) : Int := xo (an e f) (an (no e) g)
def maj (a b c : Int) : Int := xo (xo (an a b) (an a c)) (an b c)
def t1 (k w : Int) (s : V8) : Int := low (s.h + bs1 s.e + ch s.e s.f s.g + k + w)
def t2 (s : V8) : Int := low (bs0 s.a + maj s.a s.b s.c)
def rnd (k w : Int) (s : V8) : V8 := ⟨low (t1 k w s + t2 s), s.a, s.b, s.c, low (s.d + t1 k w s), s.e, s.f, s.g⟩
def rnds (ks ws : List Int) (s : V8) : Nat → V8
  | 0 => s
  | t + 1 => rnd (ks.getD t 0) (ws.getD t 0) (rnds ks ws s t)

def ks : List Int := [1116352408, 1899447441, 3049323471, 3921009573, 961987163, 1508970993, 2453635748, 2870763221, 3624381080, 310598401, 607225278, 1426881987, 1925078388, 2162078206, 2614888103, 3248222580, 3835390401, 4022224774, 264347078, 604807628, 770255983, 1249150122, 1555081692, 1996064986, 2554220882, 2821834349, 2952996808, 3210313671, 3336571891, 3584528711, 113926993, 338241895, 666307205, 773529912, 1294757372, 1396182291, 1695183700, 1986661051, 2177026350, 2456956037, 2730485921, 2820302411, 3259730800, 3345764771, 3516065817, 3600352804, 4094571909, 275423344, 430227734, 506948616, 659060556, 883997877, 958139571, 1322822218, 1537002063, 1747873779, 1955562222, 2024104815, 2227730452, 2361852424, 2428436474, 2756734187, 3204031479, 3329325298]
def h0 : V8 := ⟨1779033703, 3144134277, 1013904242, 2773480762, 1359893119, 2600822924, 528734635, 1541459225⟩

def add8 (s v : V8) : V8 := ⟨low (s.a + v.a), low (s.b + v.b), low (s.c + v.c), low (s.d + v.d), low (s.e + v.e), low (s.f + v.f), low (s.g + v.g), low (s.h + v.h)⟩
def sched (blk : List UInt8) : List Int := grow 48 (first16 blk)
def compress (s : V8) (blk : List UInt8) : V8 := add8 s (rnds ks (sched blk) s 64)

/-- The state behind the first k blocks of m. -/
def after (m : List UInt8) : Nat → V8
  | 0 => h0
  | k + 1 => compress (after m k) ((m.drop (64 * k)).take 64)

def be8 (n : Nat) : List UInt8 := (List.range 8).map fun i => UInt8.ofNat (n / 2 ^ (8 * (7 - i)))
def noughts (n : Nat) : Nat := (119 - n % 64) % 64
def pad (n : Nat) : List UInt8 := 128 :: (List.replicate (noughts n) 0 ++ be8 (n * 8))
def byteAt (s : V8) (i : Nat) : UInt8 := UInt8.ofNat ((s.list.getD (i / 4) 0 / 2 ^ (24 - 8 * (i % 4)) % 256).toNat)
def out (s : V8) : List UInt8 := (List.range 32).map (byteAt s)
/-- SHA-256. -/
def sum (m : List UInt8) : List UInt8 := out (after (m ++ pad m.length) ((m.length + 9 + noughts m.length) / 64))

def laid (key : List UInt8) : List UInt8 := let k := if 64 < key.length then sum key else key; k ++ List.replicate (64 - k.length) 0
def masked (key : List UInt8) (x : UInt8) : List UInt8 := (laid key).map (· ^^^ x)
/-- HMAC. -/
def mac (key m : List UInt8) : List UInt8 := sum (masked key 0x5c ++ sum (masked key 0x36 ++ m))

/-- HKDF: T(i), and the first i of them. -/
def tee (prk info : List UInt8) : Nat → List UInt8
  | 0 => []
  | i + 1 => mac prk (tee prk info i ++ info ++ [UInt8.ofNat (i + 1)])
def tees (prk info : List UInt8) : Nat → List UInt8
  | 0 => []
  | i + 1 => tees prk info i ++ tee prk info (i + 1)

end Sh
end Go.Proofs.YtgdnmbchhfbjoaaDoor
