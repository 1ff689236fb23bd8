/-
  SHA-256 on natural numbers: plain mathematics.
-/
namespace Go.Proofs.YtkiaeepdpmcafaaDoor.Sha

abbrev M : Nat := 4294967296

structure St where
  a : Nat
  b : Nat
  c : Nat
  d : Nat
  e : Nat
  f : Nat
  g : Nat
  h : Nat

def rotr (n x : Nat) : Nat := x / 2 ^ n + x % 2 ^ n * 2 ^ (32 - n)
def S1 (e : Nat) : Nat := (rotr 6 e ^^^ rotr 11 e) ^^^ rotr 25 e
def S0 (a : Nat) : Nat := (rotr 2 a ^^^ rotr 13 a) ^^^ rotr 22 a
def ch (e f g : Nat) : Nat := (e &&& f) ^^^ ((4294967295 - e) &&& g)
def maj (a b c : Nat) : Nat := ((a &&& b) ^^^ (a &&& c)) ^^^ (b &&& c)
def t1 (s : St) (k w : Nat) : Nat := (s.h + S1 s.e + ch s.e s.f s.g + k + w) % M
def t2 (s : St) : Nat := (S0 s.a + maj s.a s.b s.c) % M
def round (k w : Nat) (s : St) : St := ⟨(t1 s k w + t2 s) % M, s.a, s.b, s.c, (s.d + t1 s k w) % M, s.e, s.f, s.g⟩

def s0 (x : Nat) : Nat := (rotr 7 x ^^^ rotr 18 x) ^^^ x / 8
def s1 (y : Nat) : Nat := (rotr 17 y ^^^ rotr 19 y) ^^^ y / 1024

/-- a word of a block -/
def word (bl : List Nat) (t : Nat) : Nat := bl.getD (4 * t) 0 * 16777216 + bl.getD (4 * t + 1) 0 * 65536 + bl.getD (4 * t + 2) 0 * 256 + bl.getD (4 * t + 3) 0
def next (ws : List Nat) (t : Nat) : Nat := (s1 (ws.getD (t - 2) 0) + ws.getD (t - 7) 0 + s0 (ws.getD (t - 15) 0) + ws.getD (t - 16) 0) % M
/-- the first n words of a block, n from 16 on by the ones ahead -/
def sched (bl : List Nat) : Nat → List Nat
  | 0 => []
  | t + 1 => sched bl t ++ [if t < 16 then word bl t else next (sched bl t) t]

def keys : List Nat := [0x428a2f98, 0x71374491, 0xb5c0fbcf, 0xe9b5dba5, 0x3956c25b, 0x59f111f1, 0x923f82a4, 0xab1c5ed5, 0xd807aa98, 0x12835b01, 0x243185be, 0x550c7dc3, 0x72be5d74, 0x80deb1fe, 0x9bdc06a7, 0xc19bf174, 0xe49b69c1, 0xefbe4786, 0x0fc19dc6, 0x240ca1cc, 0x2de92c6f, 0x4a7484aa, 0x5cb0a9dc, 0x76f988da, 0x983e5152, 0xa831c66d, 0xb00327c8, 0xbf597fc7, 0xc6e00bf3, 0xd5a79147, 0x06ca6351, 0x14292967, 0x27b70a85, 0x2e1b2138, 0x4d2c6dfc, 0x53380d13, 0x650a7354, 0x766a0abb, 0x81c2c92e, 0x92722c85, 0xa2bfe8a1, 0xa81a664b, 0xc24b8b70, 0xc76c51a3, 0xd192e819, 0xd6990624, 0xf40e3585, 0x106aa070, 0x19a4c116, 0x1e376c08, 0x2748774c, 0x34b0bcb5, 0x391c0cb3, 0x4ed8aa4a, 0x5b9cca4f, 0x682e6ff3, 0x748f82ee, 0x78a5636f, 0x84c87814, 0x8cc70208, 0x90befffa, 0xa4506ceb, 0xbef9a3f7, 0xc67178f2]
def start : St := ⟨0x6a09e667, 0xbb67ae85, 0x3c6ef372, 0xa54ff53a, 0x510e527f, 0x9b05688c, 0x1f83d9ab, 0x5be0cd19⟩

def rounds (ws : List Nat) (s : St) : Nat → St
  | 0 => s
  | n + 1 => round (keys.getD n 0) (ws.getD n 0) (rounds ws s n)

def add (s v : St) : St := ⟨(s.a + v.a) % M, (s.b + v.b) % M, (s.c + v.c) % M, (s.d + v.d) % M, (s.e + v.e) % M, (s.f + v.f) % M, (s.g + v.g) % M, (s.h + v.h) % M⟩
def compress (s : St) (bl : List Nat) : St := add s (rounds (sched bl 64) s 64)

/-- n blocks of a text -/
def run (s : St) (bs : List Nat) : Nat → St
  | 0 => s
  | n + 1 => compress (run s bs n) ((bs.drop (64 * n)).take 64)

/-- the k bytes of a number, the highest first -/
def nbe : Nat → Nat → List Nat
  | 0, _ => []
  | k + 1, n => nbe k (n / 256) ++ [n % 256]

def zerosFor (n : Nat) : Nat := (119 - n % 64) % 64
def pad (bs : List Nat) : List Nat := bs ++ 128 :: (List.replicate (zerosFor bs.length) 0 ++ nbe 8 (8 * bs.length))
def out (s : St) : List Nat := nbe 4 s.a ++ nbe 4 s.b ++ nbe 4 s.c ++ nbe 4 s.d ++ nbe 4 s.e ++ nbe 4 s.f ++ nbe 4 s.g ++ nbe 4 s.h
def sum (bs : List Nat) : List Nat := out (run start (pad bs) ((pad bs).length / 64))
end Go.Proofs.YtkiaeepdpmcafaaDoor.Sha
