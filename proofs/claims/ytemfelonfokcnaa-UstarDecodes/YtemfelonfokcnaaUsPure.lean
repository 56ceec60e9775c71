/- Header blocks of archives: a pure account of them. Conditions: none. -/
import Derived.Test.YtemfelonfokcnaaGMem
namespace Go.Proofs.Ytemfelonfokcnaa
open Go.RowKit

/-- A header. -/
structure Hd where
  path : ByteArray
  mode : Int
  uid : Int
  gid : Int
  size : Int
  time : Int
  type : UInt8
  link : ByteArray

def hdL (h : Hd) : List Value := [.string h.path, .int .i64 h.mode, .int .i64 h.uid, .int .i64 h.gid, .int .i64 h.size, .int .i64 h.time, .int .u8 (h.type.toNat : Int), .string h.link]
def hdV (h : Hd) : Value := .agg #[.string h.path, .int .i64 h.mode, .int .i64 h.uid, .int .i64 h.gid, .int .i64 h.size, .int .i64 h.time, .int .u8 (h.type.toNat : Int), .string h.link]

namespace Us
abbrev By := List UInt8
def zs (n : Nat) : By := List.replicate n 0
def txt (s : By) (n : Nat) : By := s ++ zs (n - s.length)
def oct : Nat → Nat → By
  | 0, _ => []
  | d + 1, n => oct d (n / 8) ++ [UInt8.ofNat (48 + n % 8)]
def tot (l : By) : Nat := (l.map UInt8.toNat).sum
def mag : By := [117, 115, 116, 97, 114, 0, 48, 48]
def dev : By := [48, 48, 48, 48, 48, 48, 48, 0, 48, 48, 48, 48, 48, 48, 48, 0]
def blanks : By := [32, 32, 32, 32, 32, 32, 32, 32]

def cleanB (b : UInt8) : Bool := decide (1 ≤ b.toNat) && decide (b.toNat ≤ 127)
def clean (l : By) : Bool := l.all cleanB
def isSpot (l : By) (i : Nat) : Bool := decide (l[i]? = some 47) && (decide (1 ≤ i) && (decide (i ≤ 155) && (decide (i + 1 < l.length) && decide (l.length ≤ i + 101))))
def spot (l : By) : Option Nat := (List.range l.length).find? (isSpot l)
def parted (l : By) : Option (By × By) :=
  if l.length ≤ 100 then (if l = [] then none else some ([], l)) else (spot l).map fun i => (l.take i, l.drop (i + 1))
def join (q nm : By) : By := if q = [] then nm else q ++ 47 :: nm
def okPath (l : By) : Bool := (parted l).isSome && clean l
def okLink (l : By) : Bool := decide (1 ≤ l.length) && (decide (l.length ≤ 100) && clean l)
def okId (n : Int) : Bool := decide (0 ≤ n) && decide (n < 2097152)
def okTime (n : Int) : Bool := decide (0 ≤ n) && decide (n < 8589934592)
def okKind (h : Hd) : Bool :=
  if h.type = 48 ∨ h.type = 120 then decide (h.link.data.toList = [])
  else if h.type = 49 ∨ h.type = 50 then okLink h.link.data.toList && decide (h.size = 0)
  else if h.type = 53 then decide (h.link.data.toList = []) && decide (h.size = 0)
  else false
def fits (h : Hd) : Bool := okPath h.path.data.toList && (okId h.mode && (okId h.uid && (okId h.gid && (okTime h.size && (okTime h.time && okKind h)))))

/-- A block, of its parts. -/
def F (a0 a1 a3 a5 a7 a9 a11 a12 a13 a14 a16 a17 : By) : By :=
  a0 ++ (a1 ++ ([0] ++ (a3 ++ ([0] ++ (a5 ++ ([0] ++ (a7 ++ ([0] ++ (a9 ++ ([0] ++ (a11 ++ (a12 ++ (a13 ++ (a14 ++ (zs 64 ++ (a16 ++ (a17 ++ zs 12)))))))))))))))))

def put (q nm : By) (h : Hd) (s : By) : By :=
  F (txt nm 100) (oct 7 h.mode.toNat) (oct 7 h.uid.toNat) (oct 7 h.gid.toNat) (oct 11 h.size.toNat) (oct 11 h.time.toNat) s [h.type] (txt h.link.data.toList 100) mag dev (txt q 155)

/-- The digits of a sum, and what stands behind them. -/
def sumT (n : Nat) : By := oct 6 n ++ [0, 32]
def encAt (q nm : By) (h : Hd) : By := put q nm h (sumT (tot (put q nm h blanks)))
def enc (h : Hd) : By := encAt ((parted h.path.data.toList).getD ([], [])).1 ((parted h.path.data.toList).getD ([], [])).2 h

/-- The fields of the numbers, one by one. -/
def fields (h : Hd) : List (Nat × Nat × Int) := [(100, 7, h.mode), (108, 7, h.uid), (116, 7, h.gid), (124, 11, h.size), (136, 11, h.time)]
def putNums (l : By) (fs : List (Nat × Nat × Int)) : By := fs.foldl (fun l f => splice l f.1 (oct f.2.1 f.2.2.toNat)) l
/-- The block as the program makes it: cut by cut. -/
def made (q nm : By) (h : Hd) : By :=
  let l := putNums (splice (splice (splice (zs 512) 0 nm) 345 q) 157 h.link.data.toList) (fields h)
  let l := splice (splice (splice l 156 [h.type]) 257 mag) 329 dev
  splice l 148 (sumT (tot (splice l 148 blanks)))

theorem zs_len (n : Nat) : (zs n).length = n := by simp [zs]
theorem txt_len {s : By} {n : Nat} (h : s.length ≤ n) : (txt s n).length = n := by
  unfold txt; rw [List.length_append, zs_len]; omega
theorem oct_len (d : Nat) : ∀ n, (oct d n).length = d := by
  induction d with
  | zero => intro n; rfl
  | succ d ih => intro n; simp [oct, ih]
theorem sumT_len (n : Nat) : (sumT n).length = 8 := by simp [sumT, oct_len]
theorem mag_len : mag.length = 8 := rfl
theorem dev_len : dev.length = 16 := rfl
theorem blanks_len : blanks.length = 8 := rfl

theorem splice_app (A x C y : By) (o : Nat) (ho : A.length = o) (hy : y.length = x.length) : splice (A ++ (x ++ C)) o y = A ++ (y ++ C) := by
  subst ho
  unfold splice
  have e : (A ++ (x ++ C)).drop (A.length + y.length) = C := by
    rw [hy, show A.length + x.length = (A ++ x).length by simp, ← List.append_assoc, List.drop_left' rfl]
  rw [e, List.take_left' rfl]
theorem splice_txt (A C s : By) (n o : Nat) (ho : A.length = o) (hs : s.length ≤ n) : splice (A ++ (zs n ++ C)) o s = A ++ (txt s n ++ C) := by
  have e : zs n = zs s.length ++ zs (n - s.length) := by
    unfold zs; rw [List.replicate_append_replicate]; congr 1; omega
  rw [e, List.append_assoc, splice_app A (zs s.length) _ s o ho (zs_len _).symm]
  unfold txt
  rw [List.append_assoc]
theorem seg_app (A x C : By) (o n : Nat) (ho : A.length = o) (hn : x.length = n) : ((A ++ (x ++ C)).drop o).take n = x := by
  subst ho hn
  rw [List.drop_left' rfl, List.take_left' rfl]

section
variable {a0 a1 a3 a5 a7 a9 a11 a12 a13 a14 a16 a17 : By}

theorem set0 {y : By} (h : y.length ≤ 100) : splice (F (zs 100) a1 a3 a5 a7 a9 a11 a12 a13 a14 a16 a17) 0 y = F (txt y 100) a1 a3 a5 a7 a9 a11 a12 a13 a14 a16 a17 :=
  splice_txt [] _ y 100 0 rfl h
theorem set1 {y : By} (h0 : a0.length = 100) (h : y.length = a1.length) : splice (F a0 a1 a3 a5 a7 a9 a11 a12 a13 a14 a16 a17) 100 y = F a0 y a3 a5 a7 a9 a11 a12 a13 a14 a16 a17 := by
  have := splice_app a0 a1 ([0] ++ (a3 ++ ([0] ++ (a5 ++ ([0] ++ (a7 ++ ([0] ++ (a9 ++ ([0] ++ (a11 ++ (a12 ++ (a13 ++ (a14 ++ (zs 64 ++ (a16 ++ (a17 ++ zs 12)))))))))))))))) y 100 h0 h
  simpa [F, List.append_assoc] using this
theorem set3 {y : By} (h0 : a0.length = 100) (h1 : a1.length = 7) (h : y.length = a3.length) : splice (F a0 a1 a3 a5 a7 a9 a11 a12 a13 a14 a16 a17) 108 y = F a0 a1 y a5 a7 a9 a11 a12 a13 a14 a16 a17 := by
  have := splice_app (a0 ++ (a1 ++ [0])) a3 ([0] ++ (a5 ++ ([0] ++ (a7 ++ ([0] ++ (a9 ++ ([0] ++ (a11 ++ (a12 ++ (a13 ++ (a14 ++ (zs 64 ++ (a16 ++ (a17 ++ zs 12)))))))))))))) y 108 (by simp [h0, h1]) h
  simpa [F, List.append_assoc] using this
theorem set5 {y : By} (h0 : a0.length = 100) (h1 : a1.length = 7) (h3 : a3.length = 7) (h : y.length = a5.length) : splice (F a0 a1 a3 a5 a7 a9 a11 a12 a13 a14 a16 a17) 116 y = F a0 a1 a3 y a7 a9 a11 a12 a13 a14 a16 a17 := by
  have := splice_app (a0 ++ (a1 ++ ([0] ++ (a3 ++ [0])))) a5 ([0] ++ (a7 ++ ([0] ++ (a9 ++ ([0] ++ (a11 ++ (a12 ++ (a13 ++ (a14 ++ (zs 64 ++ (a16 ++ (a17 ++ zs 12)))))))))))) y 116 (by simp [h0, h1, h3]) h
  simpa [F, List.append_assoc] using this
theorem set7 {y : By} (h0 : a0.length = 100) (h1 : a1.length = 7) (h3 : a3.length = 7) (h5 : a5.length = 7) (h : y.length = a7.length) : splice (F a0 a1 a3 a5 a7 a9 a11 a12 a13 a14 a16 a17) 124 y = F a0 a1 a3 a5 y a9 a11 a12 a13 a14 a16 a17 := by
  have := splice_app (a0 ++ (a1 ++ ([0] ++ (a3 ++ ([0] ++ (a5 ++ [0])))))) a7 ([0] ++ (a9 ++ ([0] ++ (a11 ++ (a12 ++ (a13 ++ (a14 ++ (zs 64 ++ (a16 ++ (a17 ++ zs 12)))))))))) y 124 (by simp [h0, h1, h3, h5]) h
  simpa [F, List.append_assoc] using this
theorem set9 {y : By} (h0 : a0.length = 100) (h1 : a1.length = 7) (h3 : a3.length = 7) (h5 : a5.length = 7) (h7 : a7.length = 11) (h : y.length = a9.length) : splice (F a0 a1 a3 a5 a7 a9 a11 a12 a13 a14 a16 a17) 136 y = F a0 a1 a3 a5 a7 y a11 a12 a13 a14 a16 a17 := by
  have := splice_app (a0 ++ (a1 ++ ([0] ++ (a3 ++ ([0] ++ (a5 ++ ([0] ++ (a7 ++ [0])))))))) a9 ([0] ++ (a11 ++ (a12 ++ (a13 ++ (a14 ++ (zs 64 ++ (a16 ++ (a17 ++ zs 12)))))))) y 136 (by simp [h0, h1, h3, h5, h7]) h
  simpa [F, List.append_assoc] using this
variable (h0 : a0.length = 100) (h1 : a1.length = 7) (h3 : a3.length = 7) (h5 : a5.length = 7) (h7 : a7.length = 11) (h9 : a9.length = 11)
include h0 h1 h3 h5 h7 h9
theorem set11 {y : By} (h : y.length = a11.length) : splice (F a0 a1 a3 a5 a7 a9 a11 a12 a13 a14 a16 a17) 148 y = F a0 a1 a3 a5 a7 a9 y a12 a13 a14 a16 a17 := by
  have := splice_app (a0 ++ (a1 ++ ([0] ++ (a3 ++ ([0] ++ (a5 ++ ([0] ++ (a7 ++ ([0] ++ (a9 ++ [0])))))))))) a11 (a12 ++ (a13 ++ (a14 ++ (zs 64 ++ (a16 ++ (a17 ++ zs 12)))))) y 148 (by simp [h0, h1, h3, h5, h7, h9]) h
  simpa [F, List.append_assoc] using this
variable (h11 : a11.length = 8)
include h11
theorem set12 {y : By} (h : y.length = a12.length) : splice (F a0 a1 a3 a5 a7 a9 a11 a12 a13 a14 a16 a17) 156 y = F a0 a1 a3 a5 a7 a9 a11 y a13 a14 a16 a17 := by
  have := splice_app (a0 ++ (a1 ++ ([0] ++ (a3 ++ ([0] ++ (a5 ++ ([0] ++ (a7 ++ ([0] ++ (a9 ++ ([0] ++ a11))))))))))) a12 (a13 ++ (a14 ++ (zs 64 ++ (a16 ++ (a17 ++ zs 12))))) y 156 (by simp [h0, h1, h3, h5, h7, h9, h11]) h
  simpa [F, List.append_assoc] using this
variable (h12 : a12.length = 1)
include h12
theorem set13 {y : By} (h : y.length ≤ 100) : splice (F a0 a1 a3 a5 a7 a9 a11 a12 (zs 100) a14 a16 a17) 157 y = F a0 a1 a3 a5 a7 a9 a11 a12 (txt y 100) a14 a16 a17 := by
  have := splice_txt (a0 ++ (a1 ++ ([0] ++ (a3 ++ ([0] ++ (a5 ++ ([0] ++ (a7 ++ ([0] ++ (a9 ++ ([0] ++ (a11 ++ a12)))))))))))) (a14 ++ (zs 64 ++ (a16 ++ (a17 ++ zs 12)))) y 100 157 (by simp [h0, h1, h3, h5, h7, h9, h11, h12]) h
  simpa [F, List.append_assoc] using this
variable (h13 : a13.length = 100)
include h13
theorem set14 {y : By} (h : y.length = a14.length) : splice (F a0 a1 a3 a5 a7 a9 a11 a12 a13 a14 a16 a17) 257 y = F a0 a1 a3 a5 a7 a9 a11 a12 a13 y a16 a17 := by
  have := splice_app (a0 ++ (a1 ++ ([0] ++ (a3 ++ ([0] ++ (a5 ++ ([0] ++ (a7 ++ ([0] ++ (a9 ++ ([0] ++ (a11 ++ (a12 ++ a13))))))))))))) a14 (zs 64 ++ (a16 ++ (a17 ++ zs 12))) y 257 (by simp [h0, h1, h3, h5, h7, h9, h11, h12, h13]) h
  simpa [F, List.append_assoc] using this
variable (h14 : a14.length = 8)
include h14
theorem set16 {y : By} (h : y.length = a16.length) : splice (F a0 a1 a3 a5 a7 a9 a11 a12 a13 a14 a16 a17) 329 y = F a0 a1 a3 a5 a7 a9 a11 a12 a13 a14 y a17 := by
  have := splice_app (a0 ++ (a1 ++ ([0] ++ (a3 ++ ([0] ++ (a5 ++ ([0] ++ (a7 ++ ([0] ++ (a9 ++ ([0] ++ (a11 ++ (a12 ++ (a13 ++ (a14 ++ zs 64))))))))))))))) a16 (a17 ++ zs 12) y 329 (by simp [h0, h1, h3, h5, h7, h9, h11, h12, h13, h14, zs_len]) h
  simpa [F, List.append_assoc] using this
variable (h16 : a16.length = 16)
include h16
theorem set17 {y : By} (h : y.length ≤ 155) : splice (F a0 a1 a3 a5 a7 a9 a11 a12 a13 a14 a16 (zs 155)) 345 y = F a0 a1 a3 a5 a7 a9 a11 a12 a13 a14 a16 (txt y 155) := by
  have := splice_txt (a0 ++ (a1 ++ ([0] ++ (a3 ++ ([0] ++ (a5 ++ ([0] ++ (a7 ++ ([0] ++ (a9 ++ ([0] ++ (a11 ++ (a12 ++ (a13 ++ (a14 ++ (zs 64 ++ a16)))))))))))))))) (zs 12) y 155 345 (by simp [h0, h1, h3, h5, h7, h9, h11, h12, h13, h14, h16, zs_len]) h
  simpa [F, List.append_assoc] using this
variable (h17 : a17.length = 155)
include h17
theorem F_len : (F a0 a1 a3 a5 a7 a9 a11 a12 a13 a14 a16 a17).length = 512 := by
  simp [F, zs_len, h0, h1, h3, h5, h7, h9, h11, h12, h13, h14, h16, h17]
end

theorem zs_F : zs 512 = F (zs 100) (zs 7) (zs 7) (zs 7) (zs 11) (zs 11) (zs 8) (zs 1) (zs 100) (zs 8) (zs 16) (zs 155) := by decide +kernel

theorem made_eq {q nm : By} {h : Hd} (hq : q.length ≤ 155) (hn : nm.length ≤ 100) (hl : h.link.data.toList.length ≤ 100) : made q nm h = encAt q nm h := by
  have z100 := zs_len 100; have z155 := zs_len 155
  unfold made encAt put
  rw [zs_F, set0 hn, set17 (txt_len hn) (zs_len _) (zs_len _) (zs_len _) (zs_len _) (zs_len _) (zs_len _) (zs_len _) (zs_len _) (zs_len _) (zs_len _) hq,
    set13 (txt_len hn) (zs_len _) (zs_len _) (zs_len _) (zs_len _) (zs_len _) (zs_len _) (zs_len _) hl]
  simp only [putNums, fields, List.foldl_cons, List.foldl_nil]
  rw [set1 (txt_len hn) (by simp [oct_len, zs_len]), set3 (txt_len hn) (oct_len _ _) (by simp [oct_len, zs_len]), set5 (txt_len hn) (oct_len _ _) (oct_len _ _) (by simp [oct_len, zs_len]),
    set7 (txt_len hn) (oct_len _ _) (oct_len _ _) (oct_len _ _) (by simp [oct_len, zs_len]), set9 (txt_len hn) (oct_len _ _) (oct_len _ _) (oct_len _ _) (oct_len _ _) (by simp [oct_len, zs_len]),
    set12 (txt_len hn) (oct_len _ _) (oct_len _ _) (oct_len _ _) (oct_len _ _) (oct_len _ _) (zs_len _) (by simp [zs_len]),
    set14 (txt_len hn) (oct_len _ _) (oct_len _ _) (oct_len _ _) (oct_len _ _) (oct_len _ _) (zs_len _) rfl (txt_len hl) (by simp [zs_len, mag_len]),
    set16 (txt_len hn) (oct_len _ _) (oct_len _ _) (oct_len _ _) (oct_len _ _) (oct_len _ _) (zs_len _) rfl (txt_len hl) mag_len (by simp [zs_len, dev_len]),
    set11 (txt_len hn) (oct_len _ _) (oct_len _ _) (oct_len _ _) (oct_len _ _) (oct_len _ _) (by simp [zs_len, sumT_len]),
    set11 (txt_len hn) (oct_len _ _) (oct_len _ _) (oct_len _ _) (oct_len _ _) (oct_len _ _) (by simp [zs_len, blanks_len])]
end Us

end Go.Proofs.Ytemfelonfokcnaa
