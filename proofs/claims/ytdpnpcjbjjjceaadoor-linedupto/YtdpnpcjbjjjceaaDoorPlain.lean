import Derived.Lib.Split
import Derived.Lib.ParseIntB
set_option linter.unusedSimpArgs false
set_option linter.unusedVariables false
namespace Go.Proofs.YtdpnpcjbjjjceaaDoor.P

def okByte (lo hi : Int) (c : UInt8) : Bool := decide (lo ≤ (c.toNat : Int)) && decide ((c.toNat : Int) ≤ hi)
def within (l : List UInt8) (most lo hi : Int) : Bool := decide (1 ≤ l.length) && decide ((l.length : Int) ≤ most) && l.all (okByte lo hi)
def withinS (s : ByteArray) (most lo hi : Int) : Bool := within s.data.toList most lo hi

def isDig (c : UInt8) : Bool := decide (48 ≤ c.toNat) && decide (c.toNat ≤ 57)
def digits (acc : Nat) : List UInt8 → Option Nat
  | [] => some acc
  | c :: r => if isDig c then digits (acc * 10 + c.toNat - 48) r else none
def rNum (l : List UInt8) (most : Int) : Int :=
  if l = [] ∨ 9 < l.length ∨ (l.head? = some 48 ∧ l ≠ [48]) then -1 else
  match digits 0 l with
  | none => -1
  | some n => if most < (n : Int) then -1 else n
def rNumS (s : ByteArray) (most : Int) : Int := rNum s.data.toList most

def rFit (c : Nat) (l : List UInt8) : Bool :=
  if c = 107 then decide (l.length ≤ 20) else
  if c = 110 then decide (l.length ≤ 8) else
  if c = 116 then decide (l.length ≤ 16) else
  if c = 102 then decide (0 ≤ rNum l 65535) else
  if c = 108 then decide (0 ≤ rNum l 1000000) else
  if c = 115 then decide (0 ≤ rNum l 100) else decide (0 ≤ rNum l 999999999)
def rFitS (c : Nat) (s : ByteArray) : Bool := rFit c s.data.toList

def rShape (l : List UInt8) : List UInt8 :=
  if l = [97, 117, 116, 104] then [110, 116] else
  if l = [113, 117, 105, 116] then [] else
  if l = [115, 116, 97, 116, 115] then [] else
  if l = [103, 101, 116] then [75] else
  if l = [115, 101, 116] then [107, 102, 108, 115] else
  if l = [97, 100, 100] then [107, 102, 108, 115] else
  if l = [114, 101, 112, 108, 97, 99, 101] then [107, 102, 108, 115] else
  if l = [99, 97, 115] then [107, 102, 108, 115, 99] else
  if l = [100, 101, 108, 101, 116, 101] then [107] else
  if l = [105, 110, 99, 114] then [107, 99] else
  if l = [116, 111, 117, 99, 104] then [107, 108] else [63]
def rShapeS (s : ByteArray) : ByteArray := ⟨(rShape s.data.toList).toArray⟩

theorem getElem_list (s : ByteArray) (k : Nat) (h : k < s.size) : s[k] = s.data.toList[k]'(by simpa using h) := by
  rfl
theorem length_list (s : ByteArray) : s.data.toList.length = s.size := by simp
theorem drop_step (s : ByteArray) (k : Nat) (h : k < s.size) : s.data.toList.drop k = s[k] :: s.data.toList.drop (k + 1) := by
  rw [getElem_list s k h]; exact List.drop_eq_getElem_cons (by simpa using h)

theorem all_of (s : ByteArray) (p : UInt8 → Bool) (h : ∀ j (hj : j < s.size), p s[j] = true) : s.data.toList.all p = true := by
  rw [List.all_eq_true]
  intro x hx
  obtain ⟨j, hj, rfl⟩ := List.mem_iff_getElem.1 hx
  have := h j (by simpa using hj)
  rwa [getElem_list s j (by simpa using hj)] at this
theorem not_all_of (s : ByteArray) (p : UInt8 → Bool) (j : Nat) (hj : j < s.size) (h : p s[j] = false) : s.data.toList.all p = false := by
  rw [List.all_eq_false]
  exact ⟨s[j], by rw [getElem_list s j hj]; exact List.getElem_mem _, by simp [h]⟩
def toL (b : ByteArray) : List UInt8 := b.data.toList
def goW (acc : List (List UInt8)) (w : List UInt8) : List UInt8 → Option (List (List UInt8))
  | [] => if w = [] then none else some (acc ++ [w])
  | c :: r => if c.toNat = 32 then (if w = [] then none else goW (acc ++ [w]) [] r)
              else if c.toNat < 33 ∨ 126 < c.toNat then none else goW acc (w ++ [c]) r
def rWords (l : List UInt8) : Option (List (List UInt8)) := goW [] [] l
theorem goW_end (acc : List ByteArray) (cb s : ByteArray) (hc : cb.size ≠ 0) : goW (acc.map toL) (toL cb) (s.data.toList.drop s.size) = some ((acc ++ [cb]).map toL) := by
  rw [List.drop_eq_nil_of_le (by rw [length_list]; omega)]
  have : toL cb ≠ [] := fun h => hc (by rw [← length_list cb]; simp [toL] at h; simp [h])
  simp [goW, this]
theorem goW_end_none (acc : List (List UInt8)) (cb s : ByteArray) (hc : cb.size = 0) : goW acc (toL cb) (s.data.toList.drop s.size) = none := by
  rw [List.drop_eq_nil_of_le (by rw [length_list]; omega)]
  have : toL cb = [] := List.eq_nil_of_length_eq_zero (by rw [toL, length_list]; exact hc)
  simp [goW, this]
theorem goW_blank_none (acc : List (List UInt8)) (cb s : ByteArray) (k : Nat) (hk : k < s.size) (h32 : s[k].toNat = 32) (hc : cb.size = 0) : goW acc (toL cb) (s.data.toList.drop k) = none := by
  have : toL cb = [] := List.eq_nil_of_length_eq_zero (by rw [toL, length_list]; exact hc)
  rw [drop_step s k hk]; simp [goW, this, h32]
theorem goW_blank (acc : List ByteArray) (cb s : ByteArray) (k : Nat) (hk : k < s.size) (h32 : s[k].toNat = 32) (hc : cb.size ≠ 0) : goW (acc.map toL) (toL cb) (s.data.toList.drop k) = goW ((acc ++ [cb]).map toL) (toL ByteArray.empty) (s.data.toList.drop (k + 1)) := by
  have : toL cb ≠ [] := fun h => hc (by rw [← length_list cb]; simp [toL] at h; simp [h])
  rw [drop_step s k hk]; simp [goW, this, h32]; rfl
theorem goW_bad (acc : List (List UInt8)) (cb s : ByteArray) (k : Nat) (hk : k < s.size) (h32 : s[k].toNat ≠ 32) (hb : s[k].toNat < 33 ∨ 126 < s[k].toNat) : goW acc (toL cb) (s.data.toList.drop k) = none := by
  rw [drop_step s k hk]; simp [goW, h32, hb]
theorem goW_on (acc : List (List UInt8)) (cb s : ByteArray) (k : Nat) (hk : k < s.size) (h32 : s[k].toNat ≠ 32) (hb : ¬ (s[k].toNat < 33 ∨ 126 < s[k].toNat)) : goW acc (toL cb) (s.data.toList.drop k) = goW acc (toL (cb ++ s.extract k (k + 1))) (s.data.toList.drop (k + 1)) := by
  have e : toL (cb ++ s.extract k (k + 1)) = toL cb ++ [s[k]] := by
    rw [toL, toL, ByteArray.data_append, Array.toList_append, Go.Lib.extract_data]
    congr 1
    rw [drop_step s k hk]
    simp
  rw [drop_step s k hk, e]; simp [goW, h32, hb]
end Go.Proofs.YtdpnpcjbjjjceaaDoor.P
