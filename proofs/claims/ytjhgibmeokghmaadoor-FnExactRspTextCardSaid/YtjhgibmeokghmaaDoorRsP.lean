/- Answers: what they are, and what is said of them; no function of the program. -/
import Derived.Test.YtjhgibmeokghmaaDoorTag
import Derived.Test.YtjhgibmeokghmaaDoorBod
import Derived.Test.YtjhgibmeokghmaaDoorNum
import Derived.Test.YtjhgibmeokghmaaDoorMaskP
import Derived.Test.YtjhgibmeokghmaaDoorCodP
namespace Go.Proofs.YtjhgibmeokghmaaDoor
open Go.RowKit

/-- An answer. -/
structure Rp where
  code : Int
  mx : Int
  hide : Bool
  tag : ByteArray
  cod : Int
  body : ByteArray
def noRp : Rp := ⟨0, 0, false, ⟨#[]⟩, 0, ⟨#[]⟩⟩
def rspV (r : Rp) : Value := .agg #[.int .i64 r.code, .int .i64 r.mx, .bool r.hide, .string r.tag, .int .i64 r.cod, .string r.body]
def rspC (r : Rp) : Array Value := #[.int .i64 r.code, .int .i64 r.mx, .bool r.hide, .string r.tag, .int .i64 r.cod, .string r.body]
def rspB (r : Rp) : Bool :=
  decide (100 ≤ r.code ∧ r.code ≤ 599) && (decide (-1 ≤ r.mx ∧ r.mx ≤ 999999) && (tagB r.tag.data.toList && (decide (0 ≤ r.cod ∧ r.cod ≤ 2) && bodyB r.body.data.toList)))
def keepB (r : Rp) (mask : Int) : Bool := rspB r && (decide (r.code = 200 ∨ r.code = 404) && (decide (0 < r.mx) && ((!r.hide) && inB mask r.cod)))
def timesB (a n : Int) : Bool := decide (0 ≤ a ∧ a ≤ n ∧ n ≤ 999999)
def ageN (a n : Int) : Int := if 0 ≤ a ∧ a ≤ n ∧ n ≤ 999999 then n - a else 0
def freshB (r : Rp) (a n : Int) : Bool := rspB r && (timesB a n && decide (n - a < r.mx))
def mergeR (o r : Rp) : Rp × Bool :=
  if rspB o = true ∧ rspB r = true ∧ r.code = 304 ∧ o.tag.data.toList ≠ [] ∧ r.tag = o.tag then (⟨o.code, r.mx, r.hide, o.tag, o.cod, o.body⟩, true) else (noRp, false)
def codNm (c : Int) : List UInt8 := if c = 0 then nPlain else if c = 1 then nGz else nBr
def lineC (r : Rp) (age : Int) : List UInt8 :=
  [99, 111, 100, 101, 32] ++ numT r.code ++ [32, 99, 111, 100, 105, 110, 103, 32] ++ codNm r.cod ++ [32, 97, 103, 101, 32] ++ numT age
def lineT (r : Rp) : List UInt8 := [116, 97, 103, 32] ++ r.tag.data.toList
def lineB (r : Rp) : List UInt8 := [98, 111, 100, 121, 32] ++ r.body.data.toList
def rspT (r : Rp) (age : Int) : List (List UInt8) :=
  if rspB r = true ∧ 0 ≤ age ∧ age ≤ 999999 then
    lineC r age :: ((if r.tag.data.toList = [] then [] else [lineT r]) ++ (if r.body.data.toList = [] then [] else [lineB r]))
  else []

structure RpOk (r : Rp) : Prop where
  code : 100 ≤ r.code ∧ r.code ≤ 599
  mx : -1 ≤ r.mx ∧ r.mx ≤ 999999
  tag : tagB r.tag.data.toList = true
  cod : 0 ≤ r.cod ∧ r.cod ≤ 2
  body : bodyB r.body.data.toList = true
theorem rspB_iff {r : Rp} : rspB r = true ↔ RpOk r := by
  unfold rspB
  simp only [Bool.and_eq_true, decide_eq_true_eq]
  exact ⟨fun ⟨a, b, c, d, e⟩ => ⟨a, b, c, d, e⟩, fun h => ⟨h.code, h.mx, h.tag, h.cod, h.body⟩⟩
theorem tag_len {l : List UInt8} (h : tagB l = true) : l.length ≤ 12 := by
  unfold tagB at h
  simp only [Bool.or_eq_true, decide_eq_true_eq] at h
  rcases h with rfl | h
  · simp
  · unfold tokB at h
    simp only [Bool.and_eq_true, decide_eq_true_eq] at h
    exact h.1.2
theorem RpOk.tagLe {r : Rp} (h : RpOk r) : r.tag.size ≤ 12 := by rw [size_len]; exact tag_len h.tag
theorem RpOk.bodyLe {r : Rp} (h : RpOk r) : r.body.size ≤ 20 := by
  have := h.body
  unfold bodyB at this
  simp only [Bool.and_eq_true, decide_eq_true_eq] at this
  rw [size_len]; exact this.1

theorem six_facts {w : World} {b : Nat} {x0 x1 x2 x3 x4 x5 : Value} {T : TypeId} (h : w.heap[b]? = some (.cells #[x0, x1, x2, x3, x4, x5] T (0, 0))) :
    w.cell? ⟨b, 0, none⟩ = some x0 ∧ w.cell? ⟨b, 1, none⟩ = some x1 ∧ w.cell? ⟨b, 2, none⟩ = some x2 ∧ w.cell? ⟨b, 3, none⟩ = some x3 ∧ w.cell? ⟨b, 4, none⟩ = some x4 ∧ w.cell? ⟨b, 5, none⟩ = some x5 := by
  simp [World.cell?, h]
end Go.Proofs.YtjhgibmeokghmaaDoor
