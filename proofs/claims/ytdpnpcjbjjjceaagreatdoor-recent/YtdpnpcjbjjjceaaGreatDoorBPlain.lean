import Derived.Lib.Split
import Derived.Lib.ParseIntB
set_option linter.unusedSimpArgs false
set_option linter.unusedVariables false
namespace Go.Proofs.YtdpnpcjbjjjceaaGreatDoor.P

def okByte (lo hi : Int) (c : UInt8) : Bool := decide (lo ≤ (c.toNat : Int)) && decide ((c.toNat : Int) ≤ hi)
def within (l : List UInt8) (most lo hi : Int) : Bool := decide (1 ≤ l.length) && decide ((l.length : Int) ≤ most) && l.all (okByte lo hi)
def withinS (s : ByteArray) (most lo hi : Int) : Bool := within s.data.toList most lo hi

def isDig (c : UInt8) : Bool := decide (48 ≤ c.toNat) && decide (c.toNat ≤ 57)
def digits (acc : Nat) : List UInt8 → Option Nat
  | [] => some acc
  | c :: r => if isDig c then digits (acc * 10 + c.toNat - 48) r else none
def rNum (l : List UInt8) (most : Int) : Int :=
  if l = [] ∨ 9 < l.length ∨ (l.head? = some 48 ∧ l ≠ [48]) then -1 else
  match digits 0 l with
  | none => -1
  | some n => if most < (n : Int) then -1 else n
def rNumS (s : ByteArray) (most : Int) : Int := rNum s.data.toList most

def rFit (c : Nat) (l : List UInt8) : Bool :=
  if c = 107 then decide (l.length ≤ 20) else
  if c = 110 then decide (l.length ≤ 8) else
  if c = 116 then decide (l.length ≤ 16) else
  if c = 102 then decide (0 ≤ rNum l 65535) else
  if c = 108 then decide (0 ≤ rNum l 1000000) else
  if c = 115 then decide (0 ≤ rNum l 100) else decide (0 ≤ rNum l 999999999)
def rFitS (c : Nat) (s : ByteArray) : Bool := rFit c s.data.toList

def rShape (l : List UInt8) : List UInt8 :=
  if l = [97, 117, 116, 104] then [110, 116] else
  if l = [113, 117, 105, 116] then [] else
  if l = [115, 116, 97, 116, 115] then [] else
  if l = [103, 101, 116] then [75] else
  if l = [115, 101, 116] then [107, 102, 108, 115] else
  if l = [97, 100, 100] then [107, 102, 108, 115] else
  if l = [114, 101, 112, 108, 97, 99, 101] then [107, 102, 108, 115] else
  if l = [99, 97, 115] then [107, 102, 108, 115, 99] else
  if l = [100, 101, 108, 101, 116, 101] then [107] else
  if l = [105, 110, 99, 114] then [107, 99] else
  if l = [116, 111, 117, 99, 104] then [107, 108] else [63]
def rShapeS (s : ByteArray) : ByteArray := ⟨(rShape s.data.toList).toArray⟩

theorem getElem_list (s : ByteArray) (k : Nat) (h : k < s.size) : s[k] = s.data.toList[k]'(by simpa using h) := by
  rfl
theorem length_list (s : ByteArray) : s.data.toList.length = s.size := by simp
theorem drop_step (s : ByteArray) (k : Nat) (h : k < s.size) : s.data.toList.drop k = s[k] :: s.data.toList.drop (k + 1) := by
  rw [getElem_list s k h]; exact List.drop_eq_getElem_cons (by simpa using h)

theorem all_of (s : ByteArray) (p : UInt8 → Bool) (h : ∀ j (hj : j < s.size), p s[j] = true) : s.data.toList.all p = true := by
  rw [List.all_eq_true]
  intro x hx
  obtain ⟨j, hj, rfl⟩ := List.mem_iff_getElem.1 hx
  have := h j (by simpa using hj)
  rwa [getElem_list s j (by simpa using hj)] at this
theorem not_all_of (s : ByteArray) (p : UInt8 → Bool) (j : Nat) (hj : j < s.size) (h : p s[j] = false) : s.data.toList.all p = false := by
  rw [List.all_eq_false]
  exact ⟨s[j], by rw [getElem_list s j hj]; exact List.getElem_mem _, by simp [h]⟩
def toL (b : ByteArray) : List UInt8 := b.data.toList
def goW (acc : List (List UInt8)) (w : List UInt8) : List UInt8 → Option (List (List UInt8))
  | [] => if w = [] then none else some (acc ++ [w])
  | c :: r => if c.toNat = 32 then (if w = [] then none else goW (acc ++ [w]) [] r)
              else if c.toNat < 33 ∨ 126 < c.toNat then none else goW acc (w ++ [c]) r
def rWords (l : List UInt8) : Option (List (List UInt8)) := goW [] [] l
theorem goW_end (acc : List ByteArray) (cb s : ByteArray) (hc : cb.size ≠ 0) : goW (acc.map toL) (toL cb) (s.data.toList.drop s.size) = some ((acc ++ [cb]).map toL) := by
  rw [List.drop_eq_nil_of_le (by rw [length_list]; omega)]
  have : toL cb ≠ [] := fun h => hc (by rw [← length_list cb]; simp [toL] at h; simp [h])
  simp [goW, this]
theorem goW_end_none (acc : List (List UInt8)) (cb s : ByteArray) (hc : cb.size = 0) : goW acc (toL cb) (s.data.toList.drop s.size) = none := by
  rw [List.drop_eq_nil_of_le (by rw [length_list]; omega)]
  have : toL cb = [] := List.eq_nil_of_length_eq_zero (by rw [toL, length_list]; exact hc)
  simp [goW, this]
theorem goW_blank_none (acc : List (List UInt8)) (cb s : ByteArray) (k : Nat) (hk : k < s.size) (h32 : s[k].toNat = 32) (hc : cb.size = 0) : goW acc (toL cb) (s.data.toList.drop k) = none := by
  have : toL cb = [] := List.eq_nil_of_length_eq_zero (by rw [toL, length_list]; exact hc)
  rw [drop_step s k hk]; simp [goW, this, h32]
theorem goW_blank (acc : List ByteArray) (cb s : ByteArray) (k : Nat) (hk : k < s.size) (h32 : s[k].toNat = 32) (hc : cb.size ≠ 0) : goW (acc.map toL) (toL cb) (s.data.toList.drop k) = goW ((acc ++ [cb]).map toL) (toL ByteArray.empty) (s.data.toList.drop (k + 1)) := by
  have : toL cb ≠ [] := fun h => hc (by rw [← length_list cb]; simp [toL] at h; simp [h])
  rw [drop_step s k hk]; simp [goW, this, h32]; rfl
theorem goW_bad (acc : List (List UInt8)) (cb s : ByteArray) (k : Nat) (hk : k < s.size) (h32 : s[k].toNat ≠ 32) (hb : s[k].toNat < 33 ∨ 126 < s[k].toNat) : goW acc (toL cb) (s.data.toList.drop k) = none := by
  rw [drop_step s k hk]; simp [goW, h32, hb]
theorem goW_on (acc : List (List UInt8)) (cb s : ByteArray) (k : Nat) (hk : k < s.size) (h32 : s[k].toNat ≠ 32) (hb : ¬ (s[k].toNat < 33 ∨ 126 < s[k].toNat)) : goW acc (toL cb) (s.data.toList.drop k) = goW acc (toL (cb ++ s.extract k (k + 1))) (s.data.toList.drop (k + 1)) := by
  have e : toL (cb ++ s.extract k (k + 1)) = toL cb ++ [s[k]] := by
    rw [toL, toL, ByteArray.data_append, Array.toList_append, Go.Lib.extract_data]
    congr 1
    rw [drop_step s k hk]
    simp
  rw [drop_step s k hk, e]; simp [goW, h32, hb]
end Go.Proofs.YtdpnpcjbjjjceaaGreatDoor.P
namespace Go.Proofs.YtdpnpcjbjjjceaaGreatDoor.P

def rSig (ws : List (List UInt8)) : List UInt8 :=
  if rShape (ws.headD []) = [75] then List.replicate (min 10 (ws.length - 1)) 107 else rShape (ws.headD [])
def fitAll : List UInt8 → List (List UInt8) → Bool
  | c :: cs, x :: xs => rFit c.toNat x && fitAll cs xs
  | _, _ => true
def rGood (ws : List (List UInt8)) : Bool :=
  !(rShape (ws.headD []) == [63]) && !(rShape (ws.headD []) == [75] && decide (ws.length ≤ 1)) && decide ((rSig ws).length + 1 = ws.length) && fitAll (rSig ws) ws.tail
def rRead (l : List UInt8) : Option (List (List UInt8)) :=
  match rWords l with
  | none => none
  | some ws => if rGood ws then some ws else none
def rLine (l : List UInt8) : List UInt8 :=
  match rRead l with
  | none => [98, 97, 100]
  | some ws => ws.headD []

theorem goW_ne : ∀ (l : List UInt8) (acc : List (List UInt8)) (w : List UInt8) (ws : List (List UInt8)), goW acc w l = some ws → ws ≠ []
  | [], acc, w, ws, h => by
    simp only [goW] at h
    split at h
    · cases h
    · cases h; simp
  | c :: r, acc, w, ws, h => by
    simp only [goW] at h
    split at h
    · split at h
      · cases h
      · exact goW_ne r _ _ ws h
    · split at h
      · cases h
      · exact goW_ne r _ _ ws h
theorem rWords_ne {l : List UInt8} {ws : List (List UInt8)} (h : rWords l = some ws) : ws ≠ [] := goW_ne l [] [] ws h

theorem fitAll_step (cs : List UInt8) (xs : List (List UInt8)) (k : Nat) (c : UInt8) (x : List UInt8) (h1 : cs[k]? = some c) (h2 : xs[k]? = some x) :
    fitAll (cs.drop k) (xs.drop k) = (rFit c.toNat x && fitAll (cs.drop (k + 1)) (xs.drop (k + 1))) := by
  obtain ⟨l1, e1⟩ := List.getElem?_eq_some_iff.1 h1
  obtain ⟨l2, e2⟩ := List.getElem?_eq_some_iff.1 h2
  rw [List.drop_eq_getElem_cons l1, List.drop_eq_getElem_cons l2, e1, e2]
  rfl
theorem fitAll_end (cs : List UInt8) (xs : List (List UInt8)) (k : Nat) (h : cs.length ≤ k) : fitAll (cs.drop k) (xs.drop k) = true := by
  rw [List.drop_eq_nil_of_le h]; simp [fitAll]
theorem mk_list (l : List UInt8) : (⟨l.toArray⟩ : ByteArray).data.toList = l := by simp
theorem mk_size (l : List UInt8) : (⟨l.toArray⟩ : ByteArray).size = l.length := by simp [ByteArray.size]
theorem mk_toL (b : ByteArray) : (⟨(toL b).toArray⟩ : ByteArray) = b := by simp [toL]
theorem getElem?_list (s : ByteArray) (k : Nat) (h : k < s.size) : s.data.toList[k]? = some s[k] := by
  rw [getElem_list s k h]; exact List.getElem?_eq_getElem _
theorem replicate_snoc (k : Nat) (cb : ByteArray) (h : toL cb = List.replicate k 107) : toL (cb ++ ⟨#[107]⟩) = List.replicate (k + 1) 107 := by
  rw [toL, ByteArray.data_append, Array.toList_append]
  show toL cb ++ [107] = _
  rw [h, List.replicate_succ']
theorem goW_len : ∀ (l : List UInt8) (acc : List (List UInt8)) (w : List UInt8) (ws : List (List UInt8)), goW acc w l = some ws → ws.length ≤ acc.length + l.length + 1
  | [], acc, w, ws, h => by
    simp only [goW] at h
    split at h
    · cases h
    · cases h; simp
  | c :: r, acc, w, ws, h => by
    simp only [goW] at h
    split at h
    · split at h
      · cases h
      · have := goW_len r _ _ ws h; simp at this ⊢; omega
    · split at h
      · cases h
      · have := goW_len r _ _ ws h; simp at this ⊢; omega
theorem rWords_len {s : ByteArray} {ws : List (List UInt8)} (h : rWords s.data.toList = some ws) : ws.length ≤ s.size + 1 := by
  have := goW_len _ _ _ _ h; rw [length_list] at this; simpa using this
theorem good_q (x0 : List UInt8) (xs : List (List UInt8)) (h : rShape x0 = [63]) : rGood (x0 :: xs) = false := by simp [rGood, h]
theorem good_K (x0 : List UInt8) (xs : List (List UInt8)) (h : rShape x0 = [75]) (h1 : xs.length = 0) : rGood (x0 :: xs) = false := by simp [rGood, h, h1]
theorem good_len (x0 : List UInt8) (xs : List (List UInt8)) (h : ¬ (rSig (x0 :: xs)).length + 1 = xs.length + 1) : rGood (x0 :: xs) = false := by
  unfold rGood
  rw [show decide ((rSig (x0 :: xs)).length + 1 = (x0 :: xs).length) = false from decide_eq_false h]
  simp
theorem good_fit (x0 : List UInt8) (xs : List (List UInt8)) (h1 : ¬ rShape x0 = [63]) (h2 : rShape x0 = [75] → 1 ≤ xs.length) (h : (rSig (x0 :: xs)).length = xs.length) : rGood (x0 :: xs) = fitAll (rSig (x0 :: xs)) xs := by
  have e1 : (rShape x0 == [63]) = false := by simpa using h1
  have e2 : (rShape x0 == [75] && decide (xs.length + 1 ≤ 1)) = false := by
    cases hq : (rShape x0 == [75]) with
    | false => rfl
    | true => have := h2 (by simpa using hq); rw [Bool.true_and]; exact decide_eq_false (by omega)
  unfold rGood
  simp only [List.headD_cons, List.length_cons, List.tail_cons, e1, e2, h]
  simp
theorem sig_K (x0 : List UInt8) (xs : List (List UInt8)) (h : rShape x0 = [75]) : rSig (x0 :: xs) = List.replicate (min 10 xs.length) 107 := by simp [rSig, h]
theorem sig_other (x0 : List UInt8) (xs : List (List UInt8)) (h : ¬ rShape x0 = [75]) : rSig (x0 :: xs) = rShape x0 := by simp [rSig, h]
end Go.Proofs.YtdpnpcjbjjjceaaGreatDoor.P
namespace Go.Proofs.YtdpnpcjbjjjceaaGreatDoor.M
open Go.Proofs.YtdpnpcjbjjjceaaGreatDoor

/-
The document's server, in plain Lean: one store a tenant, a connection by its bytes.
-/

abbrev Bytes := List UInt8
structure Entry where
  key : Bytes
  value : Bytes
  flags : Nat
  mark : Nat
  stop : Nat
structure Store where
  quota : Nat
  rows : List Entry
  mark : Nat
  gets : Nat
  hits : Nat
  stores : Nat
  evicted : Nat
  expired : Nat

def digF : Nat → Nat → Bytes
  | 0, _ => []
  | f + 1, n => if n < 10 then [UInt8.ofNat (48 + n)] else digF f (n / 10) ++ [UInt8.ofNat (48 + n % 10)]
def dig (n : Nat) : Bytes := digF 20 n
def num (w : Bytes) : Nat := (P.digits 0 w).getD 0

def cost (e : Entry) : Nat := e.key.length + e.value.length + 16
def total (l : List Entry) : Nat := (l.map cost).sum
def has (k : Bytes) (e : Entry) : Bool := decide (e.key = k)
def find (l : List Entry) (k : Bytes) : Option Entry := l.find? (has k)
def gone (l : List Entry) (k : Bytes) : List Entry := l.eraseP (has k)
def evict (quota need : Nat) : List Entry → List Entry
  | [] => []
  | e :: r => if total (e :: r) + need ≤ quota then e :: r else evict quota need r
def put (s : Store) (e : Entry) : Store :=
  { s with
    rows := evict s.quota (cost e) (gone s.rows e.key) ++ [{ e with mark := s.mark + 1 }]
    mark := s.mark + 1
    stores := s.stores + 1
    evicted := s.evicted + ((gone s.rows e.key).length - (evict s.quota (cost e) (gone s.rows e.key)).length) }
def store (s : Store) (e : Entry) : Bytes × Store :=
  if s.quota < cost e then ([84, 79, 79, 32, 76, 65, 82, 71, 69], s) else ([83, 84, 79, 82, 69, 68], put s e)
def ends (clock life : Nat) : Nat := if life = 0 then 0 else clock + life
def word (ws : List Bytes) (i : Nat) : Bytes := ws.getD i []
def entryOf (clock : Nat) (ws : List Bytes) (value : Bytes) : Entry :=
  { key := word ws 1, value := value, flags := num (word ws 2), mark := 0, stop := ends clock (num (word ws 3)) }
def stored (clock : Nat) (s : Store) (ws : List Bytes) (value : Bytes) : Bytes × Store :=
  if word ws 0 = [97, 100, 100] then
    (match find s.rows (word ws 1) with
    | some _ => ([78, 79, 84, 32, 83, 84, 79, 82, 69, 68], s)
    | none => store s (entryOf clock ws value))
  else if word ws 0 = [114, 101, 112, 108, 97, 99, 101] then
    (match find s.rows (word ws 1) with
    | some _ => store s (entryOf clock ws value)
    | none => ([78, 79, 84, 32, 83, 84, 79, 82, 69, 68], s))
  else if word ws 0 = [99, 97, 115] then
    (match find s.rows (word ws 1) with
    | some e => if e.mark = num (word ws 5) then store s (entryOf clock ws value) else ([69, 88, 73, 83, 84, 83], s)
    | none => ([78, 79, 84, 32, 70, 79, 85, 78, 68], s))
  else store s (entryOf clock ws value)

def shown (e : Entry) : Bytes :=
  [86, 65, 76, 85, 69, 32] ++ e.key ++ [32] ++ dig e.flags ++ [32] ++ dig e.value.length ++ [32] ++ dig e.mark ++ [10] ++ e.value ++ [10]
def getOne (s : Store) (k : Bytes) : Bytes × Store :=
  match find s.rows k with
  | some e => (shown e, { s with gets := s.gets + 1, hits := s.hits + 1, rows := gone s.rows k ++ [e] })
  | none => ([], { s with gets := s.gets + 1 })
def getAll (s : Store) : List Bytes → Bytes × Store
  | [] => ([69, 78, 68], s)
  | k :: r => ((getOne s k).1 ++ (getAll (getOne s k).2 r).1, (getAll (getOne s k).2 r).2)
def delete (s : Store) (k : Bytes) : Bytes × Store :=
  match find s.rows k with
  | some _ => ([68, 69, 76, 69, 84, 69, 68], { s with rows := gone s.rows k })
  | none => ([78, 79, 84, 32, 70, 79, 85, 78, 68], s)
def numeric (v : Bytes) : Bool := decide (1 ≤ v.length) && decide (v.length ≤ 9) && v.all P.isDig
def incr (s : Store) (k : Bytes) (n : Nat) : Bytes × Store :=
  match find s.rows k with
  | some e =>
    if numeric e.value then
      (if s.quota < cost { e with value := dig (num e.value + n) } then ([84, 79, 79, 32, 76, 65, 82, 71, 69], s)
      else (dig (num e.value + n), put s { e with value := dig (num e.value + n) }))
    else ([78, 79, 84, 32, 78, 85, 77, 66, 69, 82], s)
  | none => ([78, 79, 84, 32, 70, 79, 85, 78, 68], s)
def touch (clock : Nat) (s : Store) (k : Bytes) (life : Nat) : Bytes × Store :=
  match find s.rows k with
  | some e => ([84, 79, 85, 67, 72, 69, 68], { s with rows := gone s.rows k ++ [{ e with stop := ends clock life }] })
  | none => ([78, 79, 84, 32, 70, 79, 85, 78, 68], s)
def stats (s : Store) : Bytes :=
  [103, 101, 116, 115, 32] ++ dig s.gets ++ [10] ++ [104, 105, 116, 115, 32] ++ dig s.hits ++ [10] ++ [115, 116, 111, 114, 101, 115, 32] ++ dig s.stores ++ [10] ++
  [101, 118, 105, 99, 116, 101, 100, 32] ++ dig s.evicted ++ [10] ++ [101, 120, 112, 105, 114, 101, 100, 32] ++ dig s.expired ++ [10] ++
  [105, 116, 101, 109, 115, 32] ++ dig s.rows.length ++ [10] ++ [98, 121, 116, 101, 115, 32] ++ dig (total s.rows) ++ [10] ++ [69, 78, 68]

abbrev Want := Option (Option (Option (List Bytes)))
abbrev Want.line : Want := none
abbrev Want.value (ws : List Bytes) : Want := some (some (some ws))
abbrev Want.skip : Want := some none
abbrev Want.quit : Want := some (some none)
theorem Want.cases {motive : Want → Prop} (line : motive .line) (value : ∀ ws, motive (.value ws)) (skip : motive .skip) (quit : motive .quit) : ∀ w : Want, motive w
  | none => line
  | some none => skip
  | some (some none) => quit
  | some (some (some ws)) => value ws
structure Conn where
  want : Want
  owner : Option Nat
  inn : Bytes
  out : Bytes
structure Sys where
  names : List (Bytes × Bytes)
  stores : List Store
  clock : Nat

def say (c : Conn) (a : Bytes) : Conn := { c with out := c.out ++ (a ++ [10]) }
def who (l : List (Bytes × Bytes)) (name token : Bytes) : Option Nat := l.findIdx? (fun p => decide (p.1 = name) && decide (p.2 = token))
def storeAt (y : Sys) (t : Nat) : Store := y.stores.getD t ⟨0, [], 0, 0, 0, 0, 0, 0⟩
def setAt (y : Sys) (t : Nat) (s : Store) : Sys := { y with stores := y.stores.set t s }
/-- the commands but auth, quit and those that want a value -/
def other (clock : Nat) (s : Store) (ws : List Bytes) : Bytes × Store :=
  if word ws 0 = [103, 101, 116] then getAll s ws.tail
  else if word ws 0 = [115, 116, 97, 116, 115] then (stats s, s)
  else if word ws 0 = [100, 101, 108, 101, 116, 101] then delete s (word ws 1)
  else if word ws 0 = [116, 111, 117, 99, 104] then touch clock s (word ws 1) (num (word ws 2))
  else incr s (word ws 1) (num (word ws 2))
def wantsValue (ws : List Bytes) : Bool :=
  decide (word ws 0 = [115, 101, 116]) || decide (word ws 0 = [97, 100, 100]) || decide (word ws 0 = [114, 101, 112, 108, 97, 99, 101]) || decide (word ws 0 = [99, 97, 115])
def doLine (y : Sys) (c : Conn) (line : Bytes) : Sys × Conn :=
  match P.rRead line, c.owner with
  | none, none => (y, say c [69, 82, 82, 79, 82, 32, 97, 117, 116, 104])
  | none, some _ => (y, say c [69, 82, 82, 79, 82, 32, 98, 97, 100])
  | some ws, o =>
    if word ws 0 = [97, 117, 116, 104] then
      (match who y.names (word ws 1) (word ws 2) with
      | some t => (y, say { c with owner := some t } [79, 75])
      | none => (y, say c [68, 69, 78, 73, 69, 68]))
    else if word ws 0 = [113, 117, 105, 116] then (y, { c with want := .quit })
    else match o with
    | none => (y, say c [69, 82, 82, 79, 82, 32, 97, 117, 116, 104])
    | some t =>
      if wantsValue ws then (y, { c with want := .value ws })
      else (setAt y t (other y.clock (storeAt y t) ws).2, say c (other y.clock (storeAt y t) ws).1)
def nl (t : Bytes) : Option Nat := t.findIdx? (fun b => decide (b = 10))
def trim (l : Bytes) : Bytes := if l.getLast? = some 13 then l.dropLast else l
def ownerOf (c : Conn) : Nat := c.owner.getD 0
def step (y : Sys) (c : Conn) : Bool × Sys × Conn :=
  match c.want with
  | some (some none) => (false, y, { c with inn := [] })
  | some none =>
    (match nl c.inn with
    | none => (false, y, { c with inn := [] })
    | some i => (true, y, { c with inn := c.inn.drop (i + 1), want := .line }))
  | some (some (some ws)) =>
    if c.inn.length < num (word ws 4) + 1 then (false, y, c)
    else if c.inn.getD (num (word ws 4)) 0 = 10 then
      (true, setAt y (ownerOf c) (stored y.clock (storeAt y (ownerOf c)) ws (c.inn.take (num (word ws 4)))).2,
        say { c with want := .line, inn := c.inn.drop (num (word ws 4) + 1) } (stored y.clock (storeAt y (ownerOf c)) ws (c.inn.take (num (word ws 4)))).1)
    else (true, y, say { c with want := .skip, inn := c.inn.drop (num (word ws 4)) } [69, 82, 82, 79, 82, 32, 100, 97, 116, 97])
  | none =>
    (match nl c.inn with
    | none => if 120 < c.inn.length then (true, y, say { c with want := .skip } [69, 82, 82, 79, 82, 32, 108, 111, 110, 103]) else (false, y, c)
    | some i =>
      if 120 < i then (true, y, say { c with want := .skip } [69, 82, 82, 79, 82, 32, 108, 111, 110, 103])
      else (true, doLine y { c with inn := c.inn.drop (i + 1) } (trim (c.inn.take i))))
def size (c : Conn) : Nat := 2 * c.inn.length + (match c.want with
  | none => 1
  | some (some (some _)) => 1
  | some none => 0
  | some (some none) => 0)
def runF : Nat → Sys → Conn → Sys × Conn
  | 0, y, c => (y, c)
  | f + 1, y, c => if (step y c).1 then runF f (step y c).2.1 (step y c).2.2 else (step y c).2
def run (y : Sys) (c : Conn) : Sys × Conn := runF (size c + 1) y c

theorem nl_lt {t : Bytes} {i : Nat} (h : nl t = some i) : i < t.length := by
  unfold nl at h
  obtain ⟨hl, _⟩ := List.findIdx?_eq_some_iff_getElem.1 h
  exact hl
theorem doLine_inn (y : Sys) (c : Conn) (line : Bytes) : (doLine y c line).2.inn = c.inn := by
  unfold doLine
  repeat' split
  all_goals rfl
theorem doLine_size (y : Sys) (c : Conn) (line : Bytes) : size (doLine y c line).2 ≤ 2 * c.inn.length + 1 := by
  unfold size
  rw [doLine_inn]
  split <;> omega
theorem step_size (y : Sys) (c : Conn) (h : (step y c).1 = true) : size (step y c).2.2 < size c := by
  unfold step at h ⊢
  split at h
  · cases h
  · rename_i hw
    split at h
    · cases h
    · rename_i i hi
      have := nl_lt hi
      simp only [size, hw, List.length_drop]
      omega
  · rename_i ws hw
    split at h
    · cases h
    · rename_i h1
      split
      · rename_i h2; exact absurd h2 h1
      · split
        · simp only [size, say, hw, List.length_drop]; omega
        · simp only [size, say, hw, List.length_drop]; omega
  · rename_i hw
    split at h
    · rename_i hi
      split at h
      · rename_i h2
        simp only [if_pos h2, size, say, hw]; omega
      · cases h
    · rename_i i hi
      have := nl_lt hi
      simp only [hw]
      split
      · simp only [size, say, hw]; omega
      · refine Nat.lt_of_le_of_lt (doLine_size _ _ _) ?_
        simp only [size, hw, List.length_drop]; omega
theorem runF_enough : ∀ (f g : Nat) (y : Sys) (c : Conn), size c < f → size c < g → runF f y c = runF g y c
  | 0, _, _, _, h, _ => by omega
  | _ + 1, 0, _, _, _, h => by omega
  | f + 1, g + 1, y, c, h1, h2 => by
    unfold runF
    cases hs : (step y c).1 with
    | false => rfl
    | true =>
      have := step_size y c hs
      simp only [if_true]
      exact runF_enough f g _ _ (by omega) (by omega)
theorem run_go {y y' : Sys} {c c' : Conn} (h : step y c = (true, y', c')) : run y c = run y' c' := by
  have hs := step_size y c (by rw [h])
  rw [h] at hs
  unfold run
  rw [show runF (size c + 1) y c = runF (size c) y' c' by rw [runF, h]; rfl]
  exact runF_enough _ _ _ _ hs (by omega)
theorem run_stop {y y' : Sys} {c c' : Conn} (h : step y c = (false, y', c')) : run y c = (y', c') := by
  unfold run
  rw [runF, h]; rfl
end Go.Proofs.YtdpnpcjbjjjceaaGreatDoor.M
namespace Go.Proofs.YtdpnpcjbjjjceaaGreatDoor.M
open Go.Proofs.YtdpnpcjbjjjceaaGreatDoor

/-- a connection with these bytes more; with this ahead of what was answered -/
def more (c : Conn) (b : Bytes) : Conn := { c with inn := c.inn ++ b }
def ahead (p : Bytes) (c : Conn) : Conn := { c with out := p ++ c.out }

theorem nl_some {a : Bytes} {i : Nat} (h : nl a = some i) (b : Bytes) : nl (a ++ b) = some i := by
  unfold nl at h ⊢
  rw [List.findIdx?_append, h]; rfl
theorem nl_none {a : Bytes} (h : nl a = none) (b : Bytes) : nl (a ++ b) = (nl b).map (· + a.length) := by
  unfold nl at h ⊢
  rw [List.findIdx?_append, h]; rfl
theorem doLine_more (y : Sys) (c : Conn) (b line : Bytes) : doLine y (more c b) line = ((doLine y c line).1, more (doLine y c line).2 b) := by
  cases hp : P.rRead line with
  | none => cases ho : c.owner <;> simp [doLine, hp, ho, more, say]
  | some ws =>
    by_cases h1 : word ws 0 = [97, 117, 116, 104]
    · cases hw : who y.names (word ws 1) (word ws 2) <;> simp [doLine, hp, h1, hw, more, say]
    · by_cases h2 : word ws 0 = [113, 117, 105, 116]
      · simp [doLine, hp, h2, more]
      · cases ho : c.owner with
        | none => simp [doLine, hp, h1, h2, ho, more, say]
        | some t => by_cases h3 : wantsValue ws = true <;> simp [doLine, hp, h1, h2, h3, ho, more, say]
theorem doLine_ahead (y : Sys) (c : Conn) (p line : Bytes) : doLine y (ahead p c) line = ((doLine y c line).1, ahead p (doLine y c line).2) := by
  cases hp : P.rRead line with
  | none => cases ho : c.owner <;> simp [doLine, hp, ho, ahead, say]
  | some ws =>
    by_cases h1 : word ws 0 = [97, 117, 116, 104]
    · cases hw : who y.names (word ws 1) (word ws 2) <;> simp [doLine, hp, h1, hw, ahead, say]
    · by_cases h2 : word ws 0 = [113, 117, 105, 116]
      · simp [doLine, hp, h2, ahead]
      · cases ho : c.owner with
        | none => simp [doLine, hp, h1, h2, ho, ahead, say]
        | some t => by_cases h3 : wantsValue ws = true <;> simp [doLine, hp, h1, h2, h3, ho, ahead, say]
theorem step_ahead (y : Sys) (c : Conn) (p : Bytes) : step y (ahead p c) = ((step y c).1, (step y c).2.1, ahead p (step y c).2.2) := by
  cases hw : c.want using Want.cases with
  | quit => simp [step, hw, ahead]
  | skip => cases hn : nl c.inn <;> simp [step, hw, hn, ahead]
  | value ws =>
    by_cases h1 : c.inn.length < num (word ws 4) + 1
    · simp [step, hw, h1, ahead]
    · by_cases h2 : c.inn.getD (num (word ws 4)) 0 = 10
      · simp only [step, hw, ahead, h1, h2, if_true, if_false, say, ownerOf, List.append_assoc]
      · simp only [step, hw, ahead, h1, h2, if_false, say, List.append_assoc]
  | line =>
    cases hn : nl c.inn with
    | none => by_cases h1 : 120 < c.inn.length <;> simp [step, hw, hn, h1, ahead, say]
    | some i =>
      by_cases h1 : 120 < i
      · simp [step, hw, hn, h1, ahead, say]
      · have := doLine_ahead y { c with inn := c.inn.drop (i + 1) } p (trim (c.inn.take i))
        simp only [step, hw, hn, h1, ahead, if_false] at this ⊢
        rw [this]
theorem step_more {y y' : Sys} {c c' : Conn} (h : step y c = (true, y', c')) (b : Bytes) : step y (more c b) = (true, y', more c' b) := by
  cases hw : c.want using Want.cases with
  | quit => simp [step, hw] at h
  | skip =>
    cases hn : nl c.inn with
    | none => simp [step, hw, hn] at h
    | some i =>
      have hi := nl_lt hn
      simp only [step, hw, hn, Prod.mk.injEq, true_and] at h
      obtain ⟨rfl, rfl⟩ := h
      simp only [step, more, hw, nl_some hn b, List.drop_append_of_le_length (show i + 1 ≤ c.inn.length by omega)]
  | value ws =>
    by_cases h1 : c.inn.length < num (word ws 4) + 1
    · simp [step, hw, h1] at h
    · have h1' : ¬ (c.inn ++ b).length < num (word ws 4) + 1 := by rw [List.length_append]; omega
      have hg : (c.inn ++ b).getD (num (word ws 4)) 0 = c.inn.getD (num (word ws 4)) 0 := by
        rw [List.getD_eq_getElem?_getD, List.getD_eq_getElem?_getD, List.getElem?_append_left (by omega)]
      by_cases h2 : c.inn.getD (num (word ws 4)) 0 = 10
      · simp only [step, hw, h1, h2, if_true, if_false, Prod.mk.injEq, true_and] at h
        obtain ⟨rfl, rfl⟩ := h
        simp only [step, more, hw, h1', hg, h2, if_true, if_false, ownerOf, say, List.take_append_of_le_length (show num (word ws 4) ≤ c.inn.length by omega), List.drop_append_of_le_length (show num (word ws 4) + 1 ≤ c.inn.length by omega)]
      · simp only [step, hw, h1, h2, if_false, Prod.mk.injEq, true_and] at h
        obtain ⟨rfl, rfl⟩ := h
        simp only [step, more, hw, h1', hg, h2, if_false, say, List.drop_append_of_le_length (show num (word ws 4) ≤ c.inn.length by omega)]
  | line =>
    cases hn : nl c.inn with
    | none =>
      by_cases h1 : 120 < c.inn.length
      · simp only [step, hw, hn, h1, if_true, Prod.mk.injEq, true_and] at h
        obtain ⟨rfl, rfl⟩ := h
        have h1' : 120 < (c.inn ++ b).length := by rw [List.length_append]; omega
        cases hb : nl b with
        | none => simp only [step, more, hw, nl_none hn b, hb, Option.map_none, h1', if_true, say]
        | some j =>
          have h2 : 120 < j + c.inn.length := by omega
          simp only [step, more, hw, nl_none hn b, hb, Option.map_some, h2, if_true, say]
      · simp [step, hw, hn, h1] at h
    | some i =>
      have hi := nl_lt hn
      by_cases h1 : 120 < i
      · simp only [step, hw, hn, h1, if_true, Prod.mk.injEq, true_and] at h
        obtain ⟨rfl, rfl⟩ := h
        simp only [step, more, hw, nl_some hn b, h1, if_true, say]
      · simp only [step, hw, hn, h1, if_false, Prod.mk.injEq, true_and] at h
        have hd := doLine_more y { c with inn := c.inn.drop (i + 1) } b (trim (c.inn.take i))
        simp only [hw] at hd
        rw [h] at hd
        simp only [step, more, hw, nl_some hn b, h1, if_false, List.take_append_of_le_length (show i ≤ c.inn.length by omega), List.drop_append_of_le_length (show i + 1 ≤ c.inn.length by omega)] at hd ⊢
        rw [hd]
/-- where a connection waits its bytes more are as if they had come at once -/
theorem run_wait {y y' : Sys} {c c' : Conn} (h : step y c = (false, y', c')) (b : Bytes) : y' = y ∧ run y (more c b) = run y (more c' b) := by
  cases hw : c.want using Want.cases with
  | quit =>
    simp only [step, hw, Prod.mk.injEq, true_and] at h
    obtain ⟨rfl, rfl⟩ := h
    refine ⟨rfl, ?_⟩
    rw [run_stop (y' := y) (c' := { c with inn := [] }) (by simp [step, more, hw]), run_stop (y' := y) (c' := { c with inn := [] }) (by simp [step, more, hw])]
  | skip =>
    cases hn : nl c.inn with
    | some i => simp [step, hw, hn] at h
    | none =>
      simp only [step, hw, hn, Prod.mk.injEq, true_and] at h
      obtain ⟨rfl, rfl⟩ := h
      refine ⟨rfl, ?_⟩
      cases hb : nl b with
      | none =>
        rw [run_stop (y' := y) (c' := { c with inn := [] }) (by simp [step, more, hw, nl_none hn b, hb]), run_stop (y' := y) (c' := { c with inn := [] }) (by simp [step, more, hw, hb])]
      | some j =>
        have e1 : step y (more c b) = (true, y, { c with inn := b.drop (j + 1), want := .line }) := by
          simp [step, more, hw, nl_none hn b, hb, show j + c.inn.length + 1 = c.inn.length + (j + 1) by omega, List.drop_append]
        have e2 : step y (more { c with inn := [] } b) = (true, y, { c with inn := b.drop (j + 1), want := .line }) := by
          simp [step, more, hw, hb]
        simp only [hw] at e2 ⊢
        rw [run_go e1, run_go e2]
  | value ws =>
    by_cases h1 : c.inn.length < num (word ws 4) + 1
    · simp only [step, hw, h1, if_true, Prod.mk.injEq, true_and] at h
      obtain ⟨rfl, rfl⟩ := h
      exact ⟨rfl, rfl⟩
    · by_cases h2 : c.inn.getD (num (word ws 4)) 0 = 10
      · simp only [step, hw, h1, h2, if_true, if_false, Prod.mk.injEq, Bool.true_eq_false, false_and] at h
      · simp only [step, hw, h1, h2, if_false, Prod.mk.injEq, Bool.true_eq_false, false_and] at h
  | line =>
    cases hn : nl c.inn with
    | none =>
      by_cases h1 : 120 < c.inn.length
      · simp [step, hw, hn, h1] at h
      · simp only [step, hw, hn, h1, if_false, Prod.mk.injEq, true_and] at h
        obtain ⟨rfl, rfl⟩ := h
        exact ⟨rfl, rfl⟩
    | some i => by_cases h1 : 120 < i <;> simp [step, hw, hn, h1] at h
/-- HOW THE BYTES ARE CUT CHANGES NOTHING -/
theorem run_more : ∀ (k : Nat) (y : Sys) (c : Conn) (b : Bytes), size c ≤ k → run y (more c b) = run (run y c).1 (more (run y c).2 b)
  | k, y, c, b, hk => by
    cases hs : step y c with
    | mk on r =>
      obtain ⟨y', c'⟩ := r
      cases on with
      | true =>
        have hz := step_size y c (by rw [hs])
        rw [hs] at hz
        cases k with
        | zero => omega
        | succ k =>
          rw [run_go (step_more hs b), run_go hs]
          exact run_more k y' c' b (by simp at hz; omega)
      | false =>
        obtain ⟨rfl, h⟩ := run_wait hs b
        rw [h, run_stop hs]
theorem run_ahead : ∀ (k : Nat) (y : Sys) (c : Conn) (p : Bytes), size c ≤ k → run y (ahead p c) = ((run y c).1, ahead p (run y c).2)
  | k, y, c, p, hk => by
    have ha := step_ahead y c p
    cases hs : step y c with
    | mk on r =>
      obtain ⟨y', c'⟩ := r
      rw [hs] at ha
      cases on with
      | true =>
        have hz := step_size y c (by rw [hs])
        rw [hs] at hz
        cases k with
        | zero => omega
        | succ k =>
          rw [run_go ha, run_go hs]
          exact run_ahead k y' c' p (by simp at hz; omega)
      | false => rw [run_stop ha, run_stop hs]
def feed (y : Sys) (c : Conn) (b : Bytes) : Sys × Conn := run y (more c b)
theorem feed_append (y : Sys) (c : Conn) (a b : Bytes) : feed y c (a ++ b) = feed (feed y c a).1 (feed y c a).2 b := by
  have := run_more _ y (more c a) b (Nat.le_refl _)
  unfold feed
  rw [← this]
  simp [more]
theorem feed_ahead (y : Sys) (c : Conn) (p b : Bytes) : feed y (ahead p c) b = ((feed y c b).1, ahead p (feed y c b).2) := run_ahead _ y (more c b) p (Nat.le_refl _)
end Go.Proofs.YtdpnpcjbjjjceaaGreatDoor.M
namespace Go.Proofs.YtdpnpcjbjjjceaaGreatDoor.M
open Go.Proofs.YtdpnpcjbjjjceaaGreatDoor

structure Server where
  sys : Sys
  conns : List (Option Conn)
def fresh : Conn := ⟨.line, none, [], []⟩
def emptyStore (q : Nat) : Store := ⟨q, [], 0, 0, 0, 0, 0, 0⟩
/-- tenants: the name, the token, the quota -/
def opened (l : List (Bytes × Bytes × Nat)) (n : Nat) : Server :=
  ⟨⟨l.map (fun t => (t.1, t.2.1)), l.map (fun t => emptyStore t.2.2), 0⟩, List.replicate n none⟩
def connAt (s : Server) (c : Int) : Option Conn := if c < 0 then none else (s.conns[c.toNat]?).join
def free (s : Server) : Option Nat := s.conns.findIdx? Option.isNone
def dialled (s : Server) (i : Nat) : Server := { s with conns := s.conns.set i (some fresh) }
def hung (s : Server) (i : Nat) : Server := { s with conns := s.conns.set i none }
def fed (s : Server) (i : Nat) (c : Conn) (b : Bytes) : Server := ⟨(feed s.sys c b).1, s.conns.set i (some (feed s.sys c b).2)⟩
def taken (s : Server) (i : Nat) (c : Conn) (n : Int) : Server := { s with conns := s.conns.set i (some { c with out := c.out.drop n.toNat }) }
def due (t : Nat) (e : Entry) : Bool := decide (0 < e.stop) && decide (e.stop ≤ t)
def aged (t : Nat) (s : Store) : Store := { s with rows := s.rows.filter (fun e => !due t e), expired := s.expired + (s.rows.filter (due t)).length }
def ticked (s : Server) (n : Nat) : Server := { s with sys := { s.sys with clock := s.sys.clock + n, stores := s.sys.stores.map (aged (s.sys.clock + n)) } }

theorem step_line {y : Sys} {c : Conn} {i : Nat} (hw : c.want = .line) (hn : nl c.inn = some i) (hi : i ≤ 120) : step y c = (true, doLine y { c with inn := c.inn.drop (i + 1) } (trim (c.inn.take i))) := by
  simp only [step, hw, hn, if_neg (Nat.not_lt.2 hi)]
theorem step_value {y : Sys} {c : Conn} {ws : List Bytes} {n : Nat} (hw : c.want = .value ws) (hn : num (word ws 4) = n) (hl : n < c.inn.length) (hb : c.inn.getD n 0 = 10) :
    step y c = (true, setAt y (ownerOf c) (stored y.clock (storeAt y (ownerOf c)) ws (c.inn.take n)).2, say { c with want := .line, inn := c.inn.drop (n + 1) } (stored y.clock (storeAt y (ownerOf c)) ws (c.inn.take n)).1) := by
  subst hn
  simp only [step, hw, if_neg (Nat.not_lt.2 (show num (word ws 4) + 1 ≤ c.inn.length from hl)), hb, if_true]
theorem doLine_auth {y : Sys} {c : Conn} {line : Bytes} {ws : List Bytes} {t : Nat} (hp : P.rRead line = some ws) (h0 : word ws 0 = [97, 117, 116, 104]) (hw : who y.names (word ws 1) (word ws 2) = some t) : doLine y c line = (y, say { c with owner := some t } [79, 75]) := by
  simp only [doLine, hp, h0, if_true, hw]
theorem doLine_value {y : Sys} {c : Conn} {line : Bytes} {ws : List Bytes} {t : Nat} (hp : P.rRead line = some ws) (ho : c.owner = some t) (h1 : word ws 0 ≠ [97, 117, 116, 104]) (h2 : word ws 0 ≠ [113, 117, 105, 116]) (h3 : wantsValue ws = true) : doLine y c line = (y, { c with want := .value ws }) := by
  simp only [doLine, hp, h1, h2, if_false, ho, h3, if_true]
theorem doLine_other {y : Sys} {c : Conn} {line : Bytes} {ws : List Bytes} {t : Nat} (hp : P.rRead line = some ws) (ho : c.owner = some t) (h1 : word ws 0 ≠ [97, 117, 116, 104]) (h2 : word ws 0 ≠ [113, 117, 105, 116]) (h3 : wantsValue ws = false) :
    doLine y c line = (setAt y t (other y.clock (storeAt y t) ws).2, say c (other y.clock (storeAt y t) ws).1) := by
  simp only [doLine, hp, h1, h2, if_false, ho, h3]
  rfl

def headIn : Bytes := [97, 117, 116, 104, 32, 97, 110, 110, 32, 97, 49, 10, 115, 101, 116, 32, 122, 32, 53, 32, 48, 32, 49, 10, 113, 10, 103, 101, 116, 32, 122, 10, 100, 101, 108, 101, 116, 101, 32, 122, 10]
def headOut : Bytes := [79, 75, 10, 83, 84, 79, 82, 69, 68, 10, 86, 65, 76, 85, 69, 32, 122, 32, 53, 32, 49, 32, 49, 10, 113, 10, 69, 78, 68, 10, 68, 69, 76, 69, 84, 69, 68, 10]
set_option maxRecDepth 4000 in
theorem head_run (y : Sys) (q : Nat) (l : List Store) (hn : who y.names [97, 110, 110] [97, 49] = some 0) (hs : y.stores = emptyStore q :: l) (hq : 18 ≤ q) (hc : y.clock = 0) :
    feed y fresh headIn = ({ y with stores := ⟨q, [], 1, 1, 1, 1, 0, 0⟩ :: l }, ⟨.line, some 0, [], headOut⟩) := by
  obtain ⟨names, stores, clock⟩ := y
  simp only at hn hs hc
  subst hs hc
  have nq : ¬ q < 18 := by omega
  have e1 : stored 0 (emptyStore q) [[115, 101, 116], [122], [53], [48], [49]] [113] = ([83, 84, 79, 82, 69, 68], ⟨q, [⟨[122], [113], 5, 1, 0⟩], 1, 0, 0, 1, 0, 0⟩) := by
    show store (emptyStore q) ⟨[122], [113], 5, 0, 0⟩ = _
    unfold store
    rw [if_neg (show ¬ (emptyStore q).quota < cost ⟨[122], [113], 5, 0, 0⟩ from nq)]
    rfl
  have s1 : step ⟨names, emptyStore q :: l, 0⟩ ⟨.line, none, headIn, []⟩ = (true, ⟨names, emptyStore q :: l, 0⟩, ⟨.line, some 0, [115, 101, 116, 32, 122, 32, 53, 32, 48, 32, 49, 10, 113, 10, 103, 101, 116, 32, 122, 10, 100, 101, 108, 101, 116, 101, 32, 122, 10], [79, 75, 10]⟩) :=
    (step_line (i := 11) rfl (by rfl) (by decide)).trans (congrArg _ (doLine_auth (ws := [[97, 117, 116, 104], [97, 110, 110], [97, 49]]) (t := 0) (by rfl) rfl hn))
  have s2 : step ⟨names, emptyStore q :: l, 0⟩ ⟨.line, some 0, [115, 101, 116, 32, 122, 32, 53, 32, 48, 32, 49, 10, 113, 10, 103, 101, 116, 32, 122, 10, 100, 101, 108, 101, 116, 101, 32, 122, 10], [79, 75, 10]⟩ = (true, ⟨names, emptyStore q :: l, 0⟩, ⟨.value [[115, 101, 116], [122], [53], [48], [49]], some 0, [113, 10, 103, 101, 116, 32, 122, 10, 100, 101, 108, 101, 116, 101, 32, 122, 10], [79, 75, 10]⟩) :=
    (step_line (i := 11) rfl (by rfl) (by decide)).trans (congrArg _ (doLine_value (ws := [[115, 101, 116], [122], [53], [48], [49]]) (t := 0) (by rfl) rfl (by decide) (by decide) rfl))
  have s3 : step ⟨names, emptyStore q :: l, 0⟩ ⟨.value [[115, 101, 116], [122], [53], [48], [49]], some 0, [113, 10, 103, 101, 116, 32, 122, 10, 100, 101, 108, 101, 116, 101, 32, 122, 10], [79, 75, 10]⟩ = (true, ⟨names, ⟨q, [⟨[122], [113], 5, 1, 0⟩], 1, 0, 0, 1, 0, 0⟩ :: l, 0⟩, ⟨.line, some 0, [103, 101, 116, 32, 122, 10, 100, 101, 108, 101, 116, 101, 32, 122, 10], [79, 75, 10, 83, 84, 79, 82, 69, 68, 10]⟩) := by
    rw [step_value (n := 1) (ws := [[115, 101, 116], [122], [53], [48], [49]]) rfl (by rfl) (by decide) (by rfl)]
    show (true, setAt ⟨names, emptyStore q :: l, 0⟩ 0 (stored 0 (emptyStore q) [[115, 101, 116], [122], [53], [48], [49]] [113]).2, say ⟨.line, some 0, [103, 101, 116, 32, 122, 10, 100, 101, 108, 101, 116, 101, 32, 122, 10], [79, 75, 10]⟩ (stored 0 (emptyStore q) [[115, 101, 116], [122], [53], [48], [49]] [113]).1) = _
    rw [e1]; rfl
  have s4 : step ⟨names, ⟨q, [⟨[122], [113], 5, 1, 0⟩], 1, 0, 0, 1, 0, 0⟩ :: l, 0⟩ ⟨.line, some 0, [103, 101, 116, 32, 122, 10, 100, 101, 108, 101, 116, 101, 32, 122, 10], [79, 75, 10, 83, 84, 79, 82, 69, 68, 10]⟩ = (true, ⟨names, ⟨q, [⟨[122], [113], 5, 1, 0⟩], 1, 1, 1, 1, 0, 0⟩ :: l, 0⟩, ⟨.line, some 0, [100, 101, 108, 101, 116, 101, 32, 122, 10], [79, 75, 10, 83, 84, 79, 82, 69, 68, 10, 86, 65, 76, 85, 69, 32, 122, 32, 53, 32, 49, 32, 49, 10, 113, 10, 69, 78, 68, 10]⟩) :=
    (step_line (i := 5) rfl (by rfl) (by decide)).trans (congrArg _ (doLine_other (ws := [[103, 101, 116], [122]]) (t := 0) (by rfl) rfl (by decide) (by decide) rfl))
  have s5 : step ⟨names, ⟨q, [⟨[122], [113], 5, 1, 0⟩], 1, 1, 1, 1, 0, 0⟩ :: l, 0⟩ ⟨.line, some 0, [100, 101, 108, 101, 116, 101, 32, 122, 10], [79, 75, 10, 83, 84, 79, 82, 69, 68, 10, 86, 65, 76, 85, 69, 32, 122, 32, 53, 32, 49, 32, 49, 10, 113, 10, 69, 78, 68, 10]⟩ = (true, ⟨names, ⟨q, [], 1, 1, 1, 1, 0, 0⟩ :: l, 0⟩, ⟨.line, some 0, [], headOut⟩) :=
    (step_line (i := 8) rfl (by rfl) (by decide)).trans (congrArg _ (doLine_other (ws := [[100, 101, 108, 101, 116, 101], [122]]) (t := 0) (by rfl) rfl (by decide) (by decide) rfl))
  show run ⟨names, emptyStore q :: l, 0⟩ ⟨.line, none, headIn, []⟩ = _
  rw [run_go s1, run_go s2, run_go s3, run_go s4, run_go s5]
  exact run_stop rfl
end Go.Proofs.YtdpnpcjbjjjceaaGreatDoor.M
namespace Go.Proofs.YtdpnpcjbjjjceaaGreatDoor.M
open Go.Proofs.YtdpnpcjbjjjceaaGreatDoor

theorem digF_more : ∀ (f n : Nat), n < 10 ^ f → 0 < f → digF (f + 1) n = digF f n
  | 0, _, _, h => by omega
  | f + 1, n, h, _ => by
    unfold digF
    split
    · rfl
    · rename_i h10
      have hf : 0 < f := by
        rcases Nat.eq_zero_or_pos f with h0 | h0
        · subst h0; simp at h; omega
        · exact h0
      rw [digF_more f (n / 10) (by rw [Nat.pow_succ] at h; omega) hf]
theorem dig_small (n : Nat) (h : n < 10) : dig n = [UInt8.ofNat (48 + n)] := by
  show digF 20 n = _
  unfold digF
  rw [if_pos h]
theorem dig_step (n : Nat) (h : 10 ≤ n) (hn : n < 10 ^ 19) : dig n = dig (n / 10) ++ [UInt8.ofNat (48 + n % 10)] := by
  show digF 20 n = digF 20 (n / 10) ++ _
  rw [digF_more 19 (n / 10) (by omega) (by omega)]
  show digF (19 + 1) n = _
  conv => lhs; unfold digF
  rw [if_neg (by omega)]
theorem toNat48 (d : Nat) (h : d < 10) : (UInt8.ofNat (48 + d)).toNat = 48 + d := UInt8.toNat_ofNat_of_lt' (show 48 + d < 256 by omega)
theorem isDig48 (d : Nat) (h : d < 10) : P.isDig (UInt8.ofNat (48 + d)) = true := by
  unfold P.isDig
  rw [toNat48 d h]
  simp; omega
/-- an induction over the digits -/
theorem dig_ind (p : Nat → Prop) (h0 : ∀ n, n < 10 → p n) (h1 : ∀ n, 10 ≤ n → n < 10 ^ 19 → p (n / 10) → p n) : ∀ n, n < 10 ^ 19 → p n := by
  intro n
  induction n using Nat.strongRecOn with
  | _ n ih =>
    intro hn
    by_cases h : n < 10
    · exact h0 n h
    · exact h1 n (by omega) hn (ih (n / 10) (by omega) (by omega))
theorem dig_all (n : Nat) (hn : n < 10 ^ 19) : (dig n).all P.isDig = true := by
  refine dig_ind (fun n => (dig n).all P.isDig = true) ?_ ?_ n hn
  · intro n h
    rw [dig_small n h, List.all_cons, isDig48 n h]; rfl
  · intro n h h' ih
    rw [dig_step n h h', List.all_append, ih, List.all_cons, isDig48 (n % 10) (by omega)]; rfl
theorem dig_ne (n : Nat) : dig n ≠ [] := by
  show digF 20 n ≠ []
  unfold digF
  split <;> simp
theorem digits_append : ∀ (a b : List UInt8) (acc : Nat), a.all P.isDig = true → P.digits acc (a ++ b) = (P.digits acc a).bind (fun m => P.digits m b)
  | [], _, _, _ => rfl
  | c :: r, b, acc, h => by
    simp only [List.all_cons, Bool.and_eq_true] at h
    simp only [List.cons_append, P.digits, h.1, if_true]
    exact digits_append r b _ h.2
theorem digits_dig (n : Nat) (hn : n < 10 ^ 19) : P.digits 0 (dig n) = some n := by
  refine dig_ind (fun n => P.digits 0 (dig n) = some n) ?_ ?_ n hn
  · intro n h
    rw [dig_small n h]
    simp only [P.digits, isDig48 n h, if_true, toNat48 n h]
    congr 1
    omega
  · intro n h h' ih
    rw [dig_step n h h', digits_append _ _ _ (dig_all _ (by omega)), ih]
    simp only [Option.bind_some, P.digits, isDig48 (n % 10) (by omega), if_true, toNat48 (n % 10) (by omega)]
    congr 1
    omega
theorem num_dig (n : Nat) (hn : n < 10 ^ 19) : num (dig n) = n := by
  unfold num
  rw [digits_dig n hn]; rfl
theorem dig_len (k n : Nat) (h : n < 10 ^ k) (hk : 1 ≤ k) (hk19 : k ≤ 19) : (dig n).length ≤ k := by
  induction k generalizing n with
  | zero => omega
  | succ k ih =>
    by_cases h10 : n < 10
    · rw [dig_small n h10]; simp
    · have hk1 : 1 ≤ k := by
        rcases Nat.eq_zero_or_pos k with h0 | h0
        · subst h0; simp at h; omega
        · exact h0
      have hlt : n < 10 ^ 19 := Nat.lt_of_lt_of_le h (Nat.pow_le_pow_right (by omega) hk19)
      rw [dig_step n (by omega) hlt]
      have := ih (n / 10) (by rw [Nat.pow_succ] at h; omega) hk1 (by omega)
      simp; omega
theorem dig_head (n : Nat) (hn : n < 10 ^ 19) (h0 : 0 < n) : (dig n).head? ≠ some 48 := by
  refine dig_ind (fun n => 0 < n → (dig n).head? ≠ some 48) ?_ ?_ n hn h0
  · intro n h h0
    rw [dig_small n h]
    simp only [List.head?_cons, ne_eq, Option.some.injEq]
    intro e
    have := congrArg UInt8.toNat e
    rw [toNat48 n h] at this
    simp at this
    omega
  · intro n h h' ih _
    have hne := dig_ne (n / 10)
    have := ih (by omega)
    rw [dig_step n h h']
    cases hd : dig (n / 10) with
    | nil => exact absurd hd hne
    | cons c t => rw [hd] at this; simpa using this
/-- what dig writes is a number of the protocol -/
theorem rNum_dig (n most : Nat) (h : n ≤ most) (hm : most ≤ 999999999) : P.rNum (dig n) most = n := by
  unfold P.rNum
  have hlen := dig_len 9 n (by omega) (by omega) (by omega)
  have hhead : ¬ ((dig n).head? = some 48 ∧ dig n ≠ [48]) := by
    rintro ⟨h1, h2⟩
    rcases Nat.eq_zero_or_pos n with h0 | h0
    · subst h0; exact h2 rfl
    · exact dig_head n (by omega) h0 h1
  rw [if_neg (by rintro (h1 | h1 | h1); exact dig_ne n h1; omega; exact hhead h1), digits_dig n (by omega)]
  simp only
  rw [if_neg (by omega)]
theorem dig_clean (n : Nat) (hn : n < 10 ^ 19) : (dig n).all (fun b => decide (33 ≤ b.toNat) && decide (b.toNat ≤ 126)) = true := by
  rw [List.all_eq_true]
  intro x hx
  have := (List.all_eq_true.1 (dig_all n hn)) x hx
  simp [P.isDig] at this
  simp; omega
end Go.Proofs.YtdpnpcjbjjjceaaGreatDoor.M
namespace Go.Proofs.YtdpnpcjbjjjceaaGreatDoor.M
open Go.Proofs.YtdpnpcjbjjjceaaGreatDoor

def okB (b : UInt8) : Bool := decide (33 ≤ b.toNat) && decide (b.toNat ≤ 126)
def cleanW (w : Bytes) : Prop := w ≠ [] ∧ w.all okB = true
def joinW : List Bytes → Bytes
  | [] => []
  | [w] => w
  | w :: x :: r => w ++ 32 :: joinW (x :: r)
theorem goW_word : ∀ (w rest : Bytes) (acc : List Bytes) (cur : Bytes), w.all okB = true → P.goW acc cur (w ++ rest) = P.goW acc (cur ++ w) rest
  | [], rest, acc, cur, _ => by simp
  | c :: r, rest, acc, cur, h => by
    simp only [List.all_cons, Bool.and_eq_true, okB, decide_eq_true_eq] at h
    have h32 : ¬ c.toNat = 32 := by omega
    have hok : ¬ (c.toNat < 33 ∨ 126 < c.toNat) := by omega
    rw [List.cons_append]
    show (if c.toNat = 32 then _ else _) = _
    rw [if_neg h32, if_neg hok, goW_word r rest acc (cur ++ [c]) (by simpa [okB] using h.2)]
    simp
theorem goW_join : ∀ (ws : List Bytes) (acc : List Bytes), ws ≠ [] → (∀ w ∈ ws, cleanW w) → P.goW acc [] (joinW ws) = some (acc ++ ws)
  | [], _, h, _ => absurd rfl h
  | [w], acc, _, hc => by
    obtain ⟨h1, h2⟩ := hc w List.mem_cons_self
    have := goW_word w [] acc [] h2
    rw [List.append_nil, List.nil_append] at this
    show P.goW acc [] w = _
    rw [this]
    show (if w = [] then _ else _) = _
    rw [if_neg h1]
  | w :: x :: r, acc, _, hc => by
    obtain ⟨h1, h2⟩ := hc w List.mem_cons_self
    show P.goW acc [] (w ++ 32 :: joinW (x :: r)) = _
    rw [goW_word w _ acc [] h2, List.nil_append]
    show (if (32 : UInt8).toNat = 32 then (if w = [] then none else P.goW (acc ++ [w]) [] (joinW (x :: r))) else _) = _
    rw [if_pos (show (32 : UInt8).toNat = 32 from rfl), if_neg h1, goW_join (x :: r) (acc ++ [w]) (by simp) (fun y hy => hc y (List.mem_cons_of_mem _ hy))]
    simp
/-- a line of clean words is read as them, if they are a command -/
theorem rRead_join (ws : List Bytes) (h : ws ≠ []) (hc : ∀ w ∈ ws, cleanW w) (hg : P.rGood ws = true) : P.rRead (joinW ws) = some ws := by
  unfold P.rRead P.rWords
  rw [goW_join ws [] h hc, List.nil_append]
  simp only [hg, if_true]
theorem clean_dig (n : Nat) (hn : n < 10 ^ 19) : cleanW (dig n) := ⟨dig_ne n, dig_clean n hn⟩
theorem fit_n (n most : Nat) (h : n ≤ most) (hm : most ≤ 999999999) : decide (0 ≤ P.rNum (dig n) (most : Int)) = true := by
  rw [rNum_dig n most h hm]
  exact decide_eq_true (by omega)
/-- the words of a command that stores -/
theorem good_store (verb key : Bytes) (f l s : Nat) (hv : verb = [115, 101, 116] ∨ verb = [97, 100, 100] ∨ verb = [114, 101, 112, 108, 97, 99, 101]) (hk : key.length ≤ 20) (hf : f ≤ 65535) (hl : l ≤ 1000000) (hs : s ≤ 100) : P.rGood [verb, key, dig f, dig l, dig s] = true := by
  have h1 : decide (0 ≤ P.rNum (dig f) 65535) = true := fit_n f 65535 hf (by omega)
  have h2 : decide (0 ≤ P.rNum (dig l) 1000000) = true := fit_n l 1000000 hl (by omega)
  have h3 : decide (0 ≤ P.rNum (dig s) 100) = true := fit_n s 100 hs (by omega)
  have h4 : decide (key.length ≤ 20) = true := decide_eq_true hk
  have e : P.rShape verb = [107, 102, 108, 115] := by rcases hv with rfl | rfl | rfl <;> rfl
  unfold P.rGood P.rSig
  simp only [List.headD_cons, List.tail_cons, e]
  show (!(false) && !(false && _) && decide (4 + 1 = 5) && (P.rFit 107 key && (P.rFit 102 (dig f) && (P.rFit 108 (dig l) && (P.rFit 115 (dig s) && true))))) = true
  have r1 : P.rFit 107 key = decide (key.length ≤ 20) := rfl
  have r2 : P.rFit 102 (dig f) = decide (0 ≤ P.rNum (dig f) 65535) := rfl
  have r3 : P.rFit 108 (dig l) = decide (0 ≤ P.rNum (dig l) 1000000) := rfl
  have r4 : P.rFit 115 (dig s) = decide (0 ≤ P.rNum (dig s) 100) := rfl
  rw [r1, r2, r3, r4, h1, h2, h3, h4]
  rfl
theorem good_cas (key : Bytes) (f l s m : Nat) (hk : key.length ≤ 20) (hf : f ≤ 65535) (hl : l ≤ 1000000) (hs : s ≤ 100) (hm : m ≤ 999999999) : P.rGood [[99, 97, 115], key, dig f, dig l, dig s, dig m] = true := by
  have h1 : decide (0 ≤ P.rNum (dig f) 65535) = true := fit_n f 65535 hf (by omega)
  have h2 : decide (0 ≤ P.rNum (dig l) 1000000) = true := fit_n l 1000000 hl (by omega)
  have h3 : decide (0 ≤ P.rNum (dig s) 100) = true := fit_n s 100 hs (by omega)
  have h5 : decide (0 ≤ P.rNum (dig m) 999999999) = true := fit_n m 999999999 hm (by omega)
  have h4 : decide (key.length ≤ 20) = true := decide_eq_true hk
  show (!(false) && !(false && _) && decide (5 + 1 = 6) && (P.rFit 107 key && (P.rFit 102 (dig f) && (P.rFit 108 (dig l) && (P.rFit 115 (dig s) && (P.rFit 99 (dig m) && true)))))) = true
  have r1 : P.rFit 107 key = decide (key.length ≤ 20) := rfl
  have r2 : P.rFit 102 (dig f) = decide (0 ≤ P.rNum (dig f) 65535) := rfl
  have r3 : P.rFit 108 (dig l) = decide (0 ≤ P.rNum (dig l) 1000000) := rfl
  have r4 : P.rFit 115 (dig s) = decide (0 ≤ P.rNum (dig s) 100) := rfl
  have r5 : P.rFit 99 (dig m) = decide (0 ≤ P.rNum (dig m) 999999999) := rfl
  rw [r1, r2, r3, r4, r5, h1, h2, h3, h4, h5]
  rfl
theorem good_key (key : Bytes) (hk : key.length ≤ 20) : P.rGood [[100, 101, 108, 101, 116, 101], key] = true := by
  have h4 : decide (key.length ≤ 20) = true := decide_eq_true hk
  show (!(false) && !(false && _) && decide (1 + 1 = 2) && (P.rFit 107 key && true)) = true
  have r1 : P.rFit 107 key = decide (key.length ≤ 20) := rfl
  rw [r1, h4]; rfl
theorem good_incr (key : Bytes) (m : Nat) (hk : key.length ≤ 20) (hm : m ≤ 999999999) : P.rGood [[105, 110, 99, 114], key, dig m] = true := by
  have h4 : decide (key.length ≤ 20) = true := decide_eq_true hk
  have h5 : decide (0 ≤ P.rNum (dig m) 999999999) = true := fit_n m 999999999 hm (by omega)
  show (!(false) && !(false && _) && decide (2 + 1 = 3) && (P.rFit 107 key && (P.rFit 99 (dig m) && true))) = true
  have r1 : P.rFit 107 key = decide (key.length ≤ 20) := rfl
  have r5 : P.rFit 99 (dig m) = decide (0 ≤ P.rNum (dig m) 999999999) := rfl
  rw [r1, r5, h4, h5]; rfl
theorem good_touch (key : Bytes) (l : Nat) (hk : key.length ≤ 20) (hl : l ≤ 1000000) : P.rGood [[116, 111, 117, 99, 104], key, dig l] = true := by
  have h4 : decide (key.length ≤ 20) = true := decide_eq_true hk
  have h2 : decide (0 ≤ P.rNum (dig l) 1000000) = true := fit_n l 1000000 hl (by omega)
  show (!(false) && !(false && _) && decide (2 + 1 = 3) && (P.rFit 107 key && (P.rFit 108 (dig l) && true))) = true
  have r1 : P.rFit 107 key = decide (key.length ≤ 20) := rfl
  have r3 : P.rFit 108 (dig l) = decide (0 ≤ P.rNum (dig l) 1000000) := rfl
  rw [r1, r3, h4, h2]; rfl
theorem good_get (keys : List Bytes) (h1 : 1 ≤ keys.length) (h10 : keys.length ≤ 10) (hk : ∀ k ∈ keys, k.length ≤ 20) : P.rGood ([103, 101, 116] :: keys) = true := by
  have hs : P.rSig ([103, 101, 116] :: keys) = List.replicate keys.length 107 := by
    show List.replicate (min 10 (keys.length + 1 - 1)) 107 = _
    rw [Nat.add_sub_cancel, Nat.min_eq_right h10]
  have hf : ∀ ks : List Bytes, (∀ k ∈ ks, k.length ≤ 20) → P.fitAll (List.replicate ks.length 107) ks = true := by
    intro ks
    induction ks with
    | nil => intro _; rfl
    | cons k r ih =>
      intro h
      show (P.rFit 107 k && P.fitAll (List.replicate r.length 107) r) = true
      have r1 : P.rFit 107 k = decide (k.length ≤ 20) := rfl
      rw [r1, decide_eq_true (h k List.mem_cons_self), ih (fun x hx => h x (List.mem_cons_of_mem _ hx))]
      rfl
  unfold P.rGood
  rw [hs, List.tail_cons, hf keys hk]
  simp only [List.headD_cons, List.length_replicate, List.length_cons]
  rw [decide_eq_false (show ¬ keys.length + 1 ≤ 1 by omega)]
  simp
  decide
end Go.Proofs.YtdpnpcjbjjjceaaGreatDoor.M
namespace Go.Proofs.YtdpnpcjbjjjceaaGreatDoor.M
open Go.Proofs.YtdpnpcjbjjjceaaGreatDoor

/-- the words of a line, joined, are the line -/
theorem goW_inv : ∀ (l : Bytes) (acc : List Bytes) (cur : Bytes) (ws : List Bytes), P.goW acc cur l = some ws → ∃ zs, ws = acc ++ zs ∧ zs ≠ [] ∧ joinW zs = cur ++ l ∧ (∀ z ∈ zs, z ≠ [])
  | [], acc, cur, ws, h => by
    simp only [P.goW] at h
    split at h
    · cases h
    · rename_i hc
      cases h
      exact ⟨[cur], rfl, by simp, by simp [joinW], by simpa using hc⟩
  | c :: r, acc, cur, ws, h => by
    simp only [P.goW] at h
    split at h
    · rename_i h32
      split at h
      · cases h
      · rename_i hc
        obtain ⟨zs, h1, h2, h3, h4⟩ := goW_inv r (acc ++ [cur]) [] ws h
        refine ⟨cur :: zs, by rw [h1]; simp, by simp, ?_, ?_⟩
        · obtain ⟨z, t, rfl⟩ : ∃ z t, zs = z :: t := by
            cases zs with
            | nil => exact absurd rfl h2
            | cons z t => exact ⟨z, t, rfl⟩
          show cur ++ 32 :: joinW (z :: t) = _
          rw [h3, List.nil_append]
          have : c = 32 := UInt8.toNat_inj.1 h32
          rw [this]
        · intro z hz
          rcases List.mem_cons.1 hz with h | h
          · rw [h]; exact hc
          · exact h4 z h
    · split at h
      · cases h
      · obtain ⟨zs, h1, h2, h3, h4⟩ := goW_inv r acc (cur ++ [c]) ws h
        exact ⟨zs, h1, h2, by rw [h3]; simp, h4⟩
theorem rRead_inv {line : Bytes} {ws : List Bytes} (h : P.rRead line = some ws) : joinW ws = line ∧ ws ≠ [] ∧ (∀ z ∈ ws, z ≠ []) ∧ P.rGood ws = true := by
  unfold P.rRead at h
  split at h
  · cases h
  · rename_i zs hw
    split at h
    · rename_i hg
      cases h
      obtain ⟨ys, h1, h2, h3, h4⟩ := goW_inv line [] [] ws hw
      rw [List.nil_append] at h1
      subst h1
      exact ⟨by rw [h3]; rfl, h2, h4, hg⟩
    · cases h
theorem join_len : ∀ (ws : List Bytes), ws ≠ [] → (∀ z ∈ ws, z ≠ []) → 2 * ws.length ≤ (joinW ws).length + 1
  | [], h, _ => absurd rfl h
  | [w], _, hc => by
    have : 1 ≤ w.length := by
      have := hc w List.mem_cons_self
      cases w with
      | nil => exact absurd rfl this
      | cons => simp
    simp [joinW]; omega
  | w :: x :: r, _, hc => by
    have h1 : 1 ≤ w.length := by
      have := hc w List.mem_cons_self
      cases w with
      | nil => exact absurd rfl this
      | cons => simp
    have h2 := join_len (x :: r) (by simp) (fun z hz => hc z (List.mem_cons_of_mem _ hz))
    show 2 * ((x :: r).length + 1) ≤ (w ++ 32 :: joinW (x :: r)).length + 1
    rw [List.length_append, List.length_cons (a := (32 : UInt8))]
    omega
/-- a store whose entries are within the protocol's bounds -/
def SFit (S : Store) : Prop := ∀ e ∈ S.rows, e.key.length ≤ 20 ∧ e.value.length ≤ 100
theorem gone_in (l : List Entry) (k : Bytes) : ∀ e ∈ gone l k, e ∈ l := fun _ he => List.mem_of_mem_eraseP he
theorem find_in {l : List Entry} {k : Bytes} {e : Entry} (h : find l k = some e) : e ∈ l := List.mem_of_find?_eq_some h
theorem evict_in (q need : Nat) : ∀ l, ∀ e ∈ evict q need l, e ∈ l
  | [], _, h => h
  | x :: r, e, h => by
    unfold evict at h
    split at h
    · exact h
    · exact List.mem_cons_of_mem _ (evict_in q need r e h)
theorem SFit.put {S : Store} (h : SFit S) (e : Entry) (hk : e.key.length ≤ 20) (hv : e.value.length ≤ 100) : SFit (put S e) := by
  intro x hx
  rcases List.mem_append.1 (show x ∈ evict S.quota (cost e) (gone S.rows e.key) ++ [{ e with mark := S.mark + 1 }] from hx) with h1 | h1
  · exact h x (gone_in _ _ x (evict_in _ _ _ x h1))
  · simp at h1; subst h1; exact ⟨hk, hv⟩
theorem SFit.snoc {S : Store} (h : SFit S) (k : Bytes) (e : Entry) (he : e.key.length ≤ 20 ∧ e.value.length ≤ 100) : ∀ x ∈ gone S.rows k ++ [e], x.key.length ≤ 20 ∧ x.value.length ≤ 100 := by
  intro x hx
  rcases List.mem_append.1 hx with h1 | h1
  · exact h x (gone_in _ _ x h1)
  · simp at h1; subst h1; exact he
theorem SFit.store {S : Store} (h : SFit S) (e : Entry) (hk : e.key.length ≤ 20) (hv : e.value.length ≤ 100) : SFit (store S e).2 ∧ (store S e).1.length ≤ 10 := by
  unfold M.store
  split
  · exact ⟨h, by simp⟩
  · exact ⟨h.put e hk hv, by simp⟩
theorem SFit.stored {S : Store} (h : SFit S) (ck : Nat) (ws : List Bytes) (v : Bytes) (hk : (word ws 1).length ≤ 20) (hv : v.length ≤ 100) : SFit (stored ck S ws v).2 ∧ (stored ck S ws v).1.length ≤ 10 := by
  have hs := h.store (entryOf ck ws v) hk hv
  unfold M.stored
  repeat' split
  all_goals first | exact hs | exact ⟨h, by simp⟩
theorem digF_len : ∀ (f n : Nat), (digF f n).length ≤ f
  | 0, _ => by simp [digF]
  | f + 1, n => by
    unfold digF
    split
    · simp
    · have := digF_len f (n / 10); simp; omega
theorem dig_le (n : Nat) : (dig n).length ≤ 20 := digF_len 20 n
theorem shown_len (e : Entry) (hk : e.key.length ≤ 20) (hv : e.value.length ≤ 100) : (shown e).length ≤ 191 := by
  have h1 := dig_le e.flags
  have h2 := dig_le e.value.length
  have h3 := dig_le e.mark
  unfold shown
  simp
  omega
theorem SFit.getOne {S : Store} (h : SFit S) (k : Bytes) : SFit (getOne S k).2 ∧ (getOne S k).1.length ≤ 191 := by
  unfold M.getOne
  split
  · rename_i e hf
    have he := h e (find_in hf)
    exact ⟨h.snoc k e he, shown_len e he.1 he.2⟩
  · exact ⟨h, by simp⟩
theorem SFit.getAll : ∀ (ks : List Bytes) (S : Store), SFit S → SFit (getAll S ks).2 ∧ (getAll S ks).1.length ≤ 191 * ks.length + 3
  | [], _, h => ⟨h, by simp [M.getAll]⟩
  | k :: r, S, h => by
    obtain ⟨h1, h2⟩ := h.getOne k
    obtain ⟨h3, h4⟩ := SFit.getAll r _ h1
    refine ⟨h3, ?_⟩
    show ((M.getOne S k).1 ++ (M.getAll (M.getOne S k).2 r).1).length ≤ _
    rw [List.length_append, List.length_cons]
    omega
theorem SFit.other {S : Store} (h : SFit S) (ck : Nat) (ws : List Bytes) : SFit (other ck S ws).2 ∧ (other ck S ws).1.length ≤ 191 * ws.length + 220 := by
  unfold M.other
  split
  · obtain ⟨h1, h2⟩ := SFit.getAll ws.tail S h
    refine ⟨h1, ?_⟩
    have : ws.tail.length ≤ ws.length := by simp
    omega
  split
  · refine ⟨h, ?_⟩
    have h1 := dig_le S.gets
    have h2 := dig_le S.hits
    have h3 := dig_le S.stores
    have h4 := dig_le S.evicted
    have h5 := dig_le S.expired
    have h6 := dig_le S.rows.length
    have h7 := dig_le (total S.rows)
    unfold stats
    simp
    omega
  split
  · unfold M.delete
    split
    · exact ⟨fun x hx => h x (gone_in _ _ x hx), by simp⟩
    · exact ⟨h, by simp⟩
  split
  · unfold M.touch
    split
    · rename_i e hf
      exact ⟨h.snoc _ _ (h e (find_in hf)), by simp⟩
    · exact ⟨h, by simp⟩
  · unfold M.incr
    split
    · rename_i e hf
      have hd := dig_le (num e.value + num (word ws 2))
      split
      · split
        · exact ⟨h, by simp⟩
        · exact ⟨h.put _ (h e (find_in hf)).1 (by show (dig (num e.value + num (word ws 2))).length ≤ 100; omega), by show (dig (num e.value + num (word ws 2))).length ≤ _; omega⟩
      · exact ⟨h, by simp⟩
    · exact ⟨h, by simp⟩
end Go.Proofs.YtdpnpcjbjjjceaaGreatDoor.M
namespace Go.Proofs.YtdpnpcjbjjjceaaGreatDoor.M
open Go.Proofs.YtdpnpcjbjjjceaaGreatDoor

theorem rNum_num {w : Bytes} {most : Nat} (h : 0 ≤ P.rNum w most) : num w ≤ most := by
  unfold P.rNum at h
  split at h
  · omega
  · split at h
    · omega
    · rename_i n hd
      split at h
      · omega
      · unfold num
        rw [hd]
        show n ≤ most
        omega
theorem good_head {ws : List Bytes} (h : P.rGood ws = true) : 3 ≤ (word ws 0).length := by
  have e : ws.headD [] = word ws 0 := by
    unfold word
    cases ws <;> rfl
  unfold P.rGood at h
  rw [e] at h
  simp only [Bool.and_eq_true, Bool.not_eq_true'] at h
  have h63 : ¬ P.rShape (word ws 0) = [63] := by
    have := h.1.1.1
    simpa using this
  generalize word ws 0 = v at h63
  unfold P.rShape at h63
  by_cases c0 : v = [97, 117, 116, 104]
  · subst c0; decide
  rw [if_neg c0] at h63
  by_cases c1 : v = [113, 117, 105, 116]
  · subst c1; decide
  rw [if_neg c1] at h63
  by_cases c2 : v = [115, 116, 97, 116, 115]
  · subst c2; decide
  rw [if_neg c2] at h63
  by_cases c3 : v = [103, 101, 116]
  · subst c3; decide
  rw [if_neg c3] at h63
  by_cases c4 : v = [115, 101, 116]
  · subst c4; decide
  rw [if_neg c4] at h63
  by_cases c5 : v = [97, 100, 100]
  · subst c5; decide
  rw [if_neg c5] at h63
  by_cases c6 : v = [114, 101, 112, 108, 97, 99, 101]
  · subst c6; decide
  rw [if_neg c6] at h63
  by_cases c7 : v = [99, 97, 115]
  · subst c7; decide
  rw [if_neg c7] at h63
  by_cases c8 : v = [100, 101, 108, 101, 116, 101]
  · subst c8; decide
  rw [if_neg c8] at h63
  by_cases c9 : v = [105, 110, 99, 114]
  · subst c9; decide
  rw [if_neg c9] at h63
  by_cases c10 : v = [116, 111, 117, 99, 104]
  · subst c10; decide
  rw [if_neg c10] at h63
  exact absurd rfl h63
theorem good_value_words {ws : List Bytes} (h : P.rGood ws = true) (hv : wantsValue ws = true) : (word ws 1).length ≤ 20 ∧ num (word ws 4) ≤ 100 := by
  have e : ws.headD [] = word ws 0 := by
    unfold word
    cases ws <;> rfl
  have hsig : P.rSig ws = [107, 102, 108, 115] ∨ P.rSig ws = [107, 102, 108, 115, 99] := by
    unfold P.rSig
    rw [e]
    simp only [wantsValue, Bool.or_eq_true, decide_eq_true_eq] at hv
    rcases hv with ((h | h) | h) | h
    · rw [h]; exact Or.inl rfl
    · rw [h]; exact Or.inl rfl
    · rw [h]; exact Or.inl rfl
    · rw [h]; exact Or.inr rfl
  unfold P.rGood at h
  simp only [Bool.and_eq_true, decide_eq_true_eq] at h
  obtain ⟨⟨_, hl⟩, hf⟩ := h
  rcases hsig with hs | hs
  · rw [hs] at hl hf
    obtain ⟨w0, w1, w2, w3, w4, rfl⟩ : ∃ w0 w1 w2 w3 w4, ws = [w0, w1, w2, w3, w4] := by
      match ws, hl with
      | [w0, w1, w2, w3, w4], _ => exact ⟨_, _, _, _, _, rfl⟩
    have hf' : (P.rFit 107 w1 && (P.rFit 102 w2 && (P.rFit 108 w3 && (P.rFit 115 w4 && true)))) = true := hf
    simp only [Bool.and_eq_true] at hf'
    have r1 : P.rFit 107 w1 = decide (w1.length ≤ 20) := rfl
    have r4 : P.rFit 115 w4 = decide (0 ≤ P.rNum w4 100) := rfl
    rw [r1, r4] at hf'
    exact ⟨of_decide_eq_true hf'.1, rNum_num (most := 100) (of_decide_eq_true hf'.2.2.2.1)⟩
  · rw [hs] at hl hf
    obtain ⟨w0, w1, w2, w3, w4, w5, rfl⟩ : ∃ w0 w1 w2 w3 w4 w5, ws = [w0, w1, w2, w3, w4, w5] := by
      match ws, hl with
      | [w0, w1, w2, w3, w4, w5], _ => exact ⟨_, _, _, _, _, _, rfl⟩
    have hf' : (P.rFit 107 w1 && (P.rFit 102 w2 && (P.rFit 108 w3 && (P.rFit 115 w4 && (P.rFit 99 w5 && true))))) = true := hf
    simp only [Bool.and_eq_true] at hf'
    have r1 : P.rFit 107 w1 = decide (w1.length ≤ 20) := rfl
    have r4 : P.rFit 115 w4 = decide (0 ≤ P.rNum w4 100) := rfl
    rw [r1, r4] at hf'
    exact ⟨of_decide_eq_true hf'.1, rNum_num (most := 100) (of_decide_eq_true hf'.2.2.2.1)⟩

def term : Want → Nat
  | none => 20
  | some (some (some _)) => 20
  | some none => 0
  | some (some none) => 0
def phi (c : Conn) : Nat := c.out.length + 160 * c.inn.length + term c.want
/-- a connection that wants a value wants one of the protocol's, and belongs to somebody -/
def WFit (c : Conn) : Prop := ∀ ws, c.want = .value ws → P.rGood ws = true ∧ wantsValue ws = true ∧ c.owner ≠ none
def YFit (y : Sys) : Prop := ∀ S ∈ y.stores, SFit S
theorem term_le (w : Want) : term w ≤ 20 := by cases w using Want.cases <;> simp [term]
theorem storeAt_fit {y : Sys} (h : YFit y) (t : Nat) : SFit (storeAt y t) := by
  unfold storeAt
  rw [List.getD_eq_getElem?_getD]
  cases hs : y.stores[t]? with
  | none => intro e he; cases he
  | some S => exact h S (List.mem_of_getElem? hs)
theorem setAt_fit {y : Sys} (h : YFit y) (t : Nat) (S : Store) (hS : SFit S) : YFit (setAt y t S) := by
  intro x hx
  rcases List.mem_or_eq_of_mem_set hx with h1 | h1
  · exact h x h1
  · rw [h1]; exact hS
theorem join_head (ws : List Bytes) (h : ws ≠ []) : (word ws 0).length ≤ (joinW ws).length := by
  match ws, h with
  | [w], _ => exact Nat.le_refl _
  | w :: x :: r, _ =>
    show w.length ≤ (w ++ 32 :: joinW (x :: r)).length
    simp
theorem doLine_fit (y : Sys) (c : Conn) (line : Bytes) (hy : YFit y) (hw : c.want = .line) : YFit (doLine y c line).1 ∧ WFit (doLine y c line).2 ∧ phi (doLine y c line).2 ≤ phi c + 160 * (line.length + 1) := by
  have hsay : ∀ (d : Conn) (a : Bytes), d.want = .line → d.inn = c.inn → d.out = c.out → a.length + 1 ≤ 160 * (line.length + 1) → WFit (say d a) ∧ phi (say d a) ≤ phi c + 160 * (line.length + 1) := by
    intro d a h1 h2 h3 h4
    refine ⟨fun ws hws => ?_, ?_⟩
    · have : (say d a).want = d.want := rfl
      rw [this, h1] at hws
      cases hws
    · show (d.out ++ (a ++ [10])).length + 160 * d.inn.length + term d.want ≤ _
      unfold phi
      rw [h1, h2, h3, hw]
      simp only [List.length_append, List.length_cons, List.length_nil]
      omega
  cases hp : P.rRead line with
  | none =>
    cases ho : c.owner with
    | none =>
      simp only [doLine, hp, ho]
      exact ⟨hy, hsay c _ hw rfl rfl (by simp; omega)⟩
    | some t =>
      simp only [doLine, hp, ho]
      exact ⟨hy, hsay c _ hw rfl rfl (by simp; omega)⟩
  | some ws =>
    obtain ⟨hj, hne, hz, hg⟩ := rRead_inv hp
    have h3 := good_head hg
    have hl1 := join_head ws hne
    have hl2 := join_len ws hne hz
    rw [hj] at hl1 hl2
    by_cases c1 : word ws 0 = [97, 117, 116, 104]
    · cases hq : who y.names (word ws 1) (word ws 2) with
      | none =>
        simp only [doLine, hp, c1, if_true, hq]
        exact ⟨hy, hsay c _ hw rfl rfl (by simp; omega)⟩
      | some t =>
        simp only [doLine, hp, c1, if_true, hq]
        exact ⟨hy, hsay { c with owner := some t } _ hw rfl rfl (by simp; omega)⟩
    · by_cases c2 : word ws 0 = [113, 117, 105, 116]
      · have hd : doLine y c line = (y, { c with want := .quit }) := by
          simp only [doLine, hp, if_neg c1, if_pos c2]
        rw [hd]
        refine ⟨hy, (fun zs h => by cases h), ?_⟩
        show c.out.length + 160 * c.inn.length + 0 ≤ _
        unfold phi
        omega
      · cases ho : c.owner with
        | none =>
          simp only [doLine, hp, c1, c2, if_false, ho]
          exact ⟨hy, hsay c _ hw rfl rfl (by simp; omega)⟩
        | some t =>
          cases hv : wantsValue ws with
          | true =>
            simp only [doLine, hp, c1, c2, if_false, ho, hv, if_true]
            refine ⟨hy, fun zs h => ?_, ?_⟩
            · cases h
              exact ⟨hg, hv, by simp⟩
            · show c.out.length + 160 * c.inn.length + 20 ≤ _
              unfold phi
              rw [hw]
              show _ ≤ c.out.length + 160 * c.inn.length + 20 + _
              omega
          | false =>
            rw [doLine_other hp ho c1 c2 hv]
            obtain ⟨g1, g2⟩ := (storeAt_fit hy t).other y.clock ws
            exact ⟨setAt_fit hy t _ g1, hsay c _ hw rfl rfl (by omega)⟩
theorem phi_more (c : Conn) (b : Bytes) : phi (more c b) = phi c + 160 * b.length := by
  unfold phi more
  simp only [List.length_append]
  omega
theorem step_fit (y : Sys) (c : Conn) (hy : YFit y) (hw : WFit c) : YFit (step y c).2.1 ∧ WFit (step y c).2.2 ∧ phi (step y c).2.2 ≤ phi c := by
  cases hwant : c.want using Want.cases with
  | quit =>
    simp only [step, hwant]
    refine ⟨hy, (fun zs h => by simp only [] at h; cases h), ?_⟩
    unfold phi
    simp only [hwant, List.length_nil]
    omega
  | skip =>
    cases hn : nl c.inn with
    | none =>
      simp only [step, hwant, hn]
      refine ⟨hy, (fun zs h => by simp only [] at h; cases h), ?_⟩
      unfold phi
      simp only [hwant, List.length_nil]
      omega
    | some i =>
      have hi := nl_lt hn
      simp only [step, hwant, hn]
      refine ⟨hy, (fun zs h => by cases h), ?_⟩
      unfold phi
      simp only [hwant, term, List.length_drop]
      omega
  | value ws =>
    obtain ⟨hg, hv, ho⟩ := hw ws hwant
    obtain ⟨hk, hs⟩ := good_value_words hg hv
    by_cases h1 : c.inn.length < num (word ws 4) + 1
    · have e : step y c = (false, y, c) := by simp only [step, hwant, h1, if_true]
      rw [e]
      exact ⟨hy, hw, Nat.le_refl _⟩
    · by_cases h2 : c.inn.getD (num (word ws 4)) 0 = 10
      · rw [step_value (ws := ws) (n := num (word ws 4)) hwant rfl (by omega) h2]
        obtain ⟨g1, g2⟩ := (storeAt_fit hy (ownerOf c)).stored y.clock ws (c.inn.take (num (word ws 4))) hk (by rw [List.length_take]; omega)
        refine ⟨setAt_fit hy _ _ g1, (fun zs h => by cases h), ?_⟩
        show (c.out ++ (_ ++ [10])).length + 160 * (c.inn.drop (num (word ws 4) + 1)).length + 20 ≤ _
        unfold phi
        simp only [hwant, term, List.length_append, List.length_cons, List.length_nil, List.length_drop]
        omega
      · have e : step y c = (true, y, say { c with want := .skip, inn := c.inn.drop (num (word ws 4)) } [69, 82, 82, 79, 82, 32, 100, 97, 116, 97]) := by simp only [step, hwant, h1, h2, if_false]
        rw [e]
        refine ⟨hy, (fun zs h => by cases h), ?_⟩
        unfold phi say
        simp only [hwant, term, List.length_append, List.length_cons, List.length_nil, List.length_drop]
        omega
  | line =>
    have hlong : YFit y ∧ WFit (say { c with want := .skip } [69, 82, 82, 79, 82, 32, 108, 111, 110, 103]) ∧ phi (say { c with want := .skip } [69, 82, 82, 79, 82, 32, 108, 111, 110, 103]) ≤ phi c := by
      refine ⟨hy, (fun zs h => by cases h), ?_⟩
      unfold phi say
      simp only [hwant, term, List.length_append, List.length_cons, List.length_nil]
      omega
    cases hn : nl c.inn with
    | none =>
      by_cases h1 : 120 < c.inn.length
      · have e : step y c = (true, y, say { c with want := .skip } [69, 82, 82, 79, 82, 32, 108, 111, 110, 103]) := by simp only [step, hwant, hn, h1, if_true]
        rw [e]; exact hlong
      · have e : step y c = (false, y, c) := by simp only [step, hwant, hn, h1, if_false]
        rw [e]; exact ⟨hy, hw, Nat.le_refl _⟩
    | some i =>
      have hi := nl_lt hn
      by_cases h1 : 120 < i
      · have e : step y c = (true, y, say { c with want := .skip } [69, 82, 82, 79, 82, 32, 108, 111, 110, 103]) := by simp only [step, hwant, hn, h1, if_true]
        rw [e]; exact hlong
      · rw [step_line hwant hn (by omega)]
        obtain ⟨g1, g2, g3⟩ := doLine_fit y { c with inn := c.inn.drop (i + 1) } (trim (c.inn.take i)) hy hwant
        refine ⟨g1, g2, Nat.le_trans g3 ?_⟩
        have ht : (trim (c.inn.take i)).length ≤ i := by
          unfold trim
          split
          · simp; omega
          · simp; omega
        unfold phi
        simp only [List.length_drop]
        omega
theorem run_fit : ∀ (k : Nat) (y : Sys) (c : Conn), size c ≤ k → YFit y → WFit c → YFit (run y c).1 ∧ WFit (run y c).2 ∧ phi (run y c).2 ≤ phi c
  | k, y, c, hk, hy, hw => by
    have hf := step_fit y c hy hw
    cases hs : step y c with
    | mk on r =>
      obtain ⟨y', c'⟩ := r
      rw [hs] at hf
      cases on with
      | true =>
        have hz := step_size y c (by rw [hs])
        rw [hs] at hz
        cases k with
        | zero => omega
        | succ k =>
          rw [run_go hs]
          obtain ⟨g1, g2, g3⟩ := run_fit k y' c' (by simp at hz; omega) hf.1 hf.2.1
          exact ⟨g1, g2, Nat.le_trans g3 hf.2.2⟩
      | false =>
        rw [run_stop hs]
        exact hf
theorem feed_fit (y : Sys) (c : Conn) (b : Bytes) (hy : YFit y) (hw : WFit c) : YFit (feed y c b).1 ∧ WFit (feed y c b).2 ∧ phi (feed y c b).2 ≤ phi c + 160 * b.length := by
  obtain ⟨h1, h2, h3⟩ := run_fit _ y (more c b) (Nat.le_refl _) hy hw
  rw [phi_more] at h3
  exact ⟨h1, h2, h3⟩
theorem fresh_fit : WFit fresh ∧ phi fresh = 20 := ⟨(fun _ h => by cases h), rfl⟩
end Go.Proofs.YtdpnpcjbjjjceaaGreatDoor.M
namespace Go.Proofs.YtdpnpcjbjjjceaaGreatDoor.P

def pNum (l : List UInt8) : Option Nat :=
  if 1 < l.length ∧ l.head? = some 48 then none else
  match Go.Lib.parseUintB 64 l with
  | .ok u => if 999999999 < u then none else some u
  | _ => none
def pNumS (s : ByteArray) : Option Nat := pNum s.data.toList
def pAllows (b : Bool) (most : Int) (l : List UInt8) : Bool :=
  if b then (match pNum l with | some n => decide ((n : Int) ≤ most) | none => false) else within l most 33 126
def pAllowsS (b : Bool) (most : Int) (s : ByteArray) : Bool := pAllows b most s.data.toList

end Go.Proofs.YtdpnpcjbjjjceaaGreatDoor.P
namespace Go.Proofs.YtdpnpcjbjjjceaaGreatDoor.M
open Go.Proofs.YtdpnpcjbjjjceaaGreatDoor

def idleO (out : Bytes) : Conn := ⟨.line, some 0, [], out⟩
def lowest (l : Bytes) : Prop := ∀ b ∈ l, 32 ≤ b.toNat
theorem join_low : ∀ (ws : List Bytes), (∀ w ∈ ws, cleanW w) → lowest (joinW ws)
  | [], _ => fun _ h => by cases h
  | [w], hc => by
    intro b hb
    have := (List.all_eq_true.1 (hc w List.mem_cons_self).2) b hb
    simp [okB] at this
    omega
  | w :: x :: r, hc => by
    intro b hb
    rcases List.mem_append.1 (show b ∈ w ++ 32 :: joinW (x :: r) from hb) with h | h
    · have := (List.all_eq_true.1 (hc w List.mem_cons_self).2) b h
      simp [okB] at this
      omega
    · rcases List.mem_cons.1 h with h | h
      · subst h; decide
      · exact join_low (x :: r) (fun y hy => hc y (List.mem_cons_of_mem _ hy)) b h
theorem nl_low (line rest : Bytes) (h : lowest line) : nl (line ++ 10 :: rest) = some line.length := by
  have h1 : nl line = none := by
    unfold nl
    rw [List.findIdx?_eq_none_iff]
    intro b hb
    have := h b hb
    simp only [decide_eq_false_iff_not]
    intro e
    subst e
    exact absurd this (by decide)
  rw [nl_none h1]
  simp [nl, List.findIdx?_cons]
theorem trim_low (line : Bytes) (h : lowest line) : trim line = line := by
  unfold trim
  rw [if_neg]
  intro e
  have := h 13 (List.mem_of_getLast? e)
  exact absurd this (by decide)
theorem run_line (y : Sys) (c : Conn) (hw : c.want = .line) (line rest : Bytes) (h : lowest line) (h120 : line.length ≤ 120) :
    run y { c with inn := line ++ 10 :: rest } = run (doLine y { c with inn := rest } line).1 (doLine y { c with inn := rest } line).2 := by
  have hs := step_line (y := y) (c := { c with inn := line ++ 10 :: rest }) (i := line.length) hw (nl_low line rest h) h120
  have e1 : (line ++ 10 :: rest).drop (line.length + 1) = rest := by
    rw [List.drop_append, List.drop_eq_nil_of_le (by omega)]
    simp
  have e2 : (line ++ 10 :: rest).take line.length = line := by simp
  simp only [e1, e2, trim_low line h] at hs
  exact run_go hs
theorem run_idle (y : Sys) (out : Bytes) : run y (idleO out) = (y, idleO out) := run_stop rfl
section
variable (names : List (Bytes × Bytes)) (S : Store) (l : List Store) (ck : Nat) (out : Bytes)
theorem piece_other (ws : List Bytes) (hne : ws ≠ []) (hc : ∀ w ∈ ws, cleanW w) (hg : P.rGood ws = true) (hl : (joinW ws).length ≤ 120) (h1 : word ws 0 ≠ [97, 117, 116, 104]) (h2 : word ws 0 ≠ [113, 117, 105, 116]) (h3 : wantsValue ws = false) :
    feed ⟨names, S :: l, ck⟩ (idleO out) (joinW ws ++ [10]) = (⟨names, (other ck S ws).2 :: l, ck⟩, idleO (out ++ ((other ck S ws).1 ++ [10]))) := by
  have := run_line ⟨names, S :: l, ck⟩ (idleO out) rfl (joinW ws) [] (join_low ws hc) hl
  show run ⟨names, S :: l, ck⟩ { idleO out with inn := joinW ws ++ 10 :: [] } = _
  rw [this, doLine_other (ws := ws) (t := 0) (rRead_join ws hne hc hg) rfl h1 h2 h3]
  exact run_idle _ _
theorem piece_bad (line : Bytes) (hr : P.rRead line = none) (hl : line.length ≤ 120) (hlow : lowest line) :
    feed ⟨names, S :: l, ck⟩ (idleO out) (line ++ [10]) = (⟨names, S :: l, ck⟩, idleO (out ++ [69, 82, 82, 79, 82, 32, 98, 97, 100, 10])) := by
  have := run_line ⟨names, S :: l, ck⟩ (idleO out) rfl line [] hlow hl
  show run ⟨names, S :: l, ck⟩ { idleO out with inn := line ++ 10 :: [] } = _
  have hd : doLine ⟨names, S :: l, ck⟩ { idleO out with inn := [] } line = (⟨names, S :: l, ck⟩, idleO (out ++ [69, 82, 82, 79, 82, 32, 98, 97, 100, 10])) := by
    simp only [doLine, hr, idleO]
    rfl
  rw [this, hd]
  exact run_idle _ _
theorem piece_wait (ws : List Bytes) (rest : Bytes) (hne : ws ≠ []) (hc : ∀ w ∈ ws, cleanW w) (hg : P.rGood ws = true) (hl : (joinW ws).length ≤ 120) (h1 : word ws 0 ≠ [97, 117, 116, 104]) (h2 : word ws 0 ≠ [113, 117, 105, 116]) (h3 : wantsValue ws = true) :
    feed ⟨names, S :: l, ck⟩ (idleO out) (joinW ws ++ 10 :: rest) = run ⟨names, S :: l, ck⟩ ⟨.value ws, some 0, rest, out⟩ := by
  have := run_line ⟨names, S :: l, ck⟩ (idleO out) rfl (joinW ws) rest (join_low ws hc) hl
  show run ⟨names, S :: l, ck⟩ { idleO out with inn := joinW ws ++ 10 :: rest } = _
  rw [this, doLine_value (ws := ws) (t := 0) (rRead_join ws hne hc hg) rfl h1 h2 h3]
  rfl
theorem piece_store (ws : List Bytes) (value : Bytes) (hne : ws ≠ []) (hc : ∀ w ∈ ws, cleanW w) (hg : P.rGood ws = true) (hl : (joinW ws).length ≤ 120) (h1 : word ws 0 ≠ [97, 117, 116, 104]) (h2 : word ws 0 ≠ [113, 117, 105, 116]) (h3 : wantsValue ws = true) (hn : num (word ws 4) = value.length) :
    feed ⟨names, S :: l, ck⟩ (idleO out) (joinW ws ++ 10 :: (value ++ [10])) = (⟨names, (stored ck S ws value).2 :: l, ck⟩, idleO (out ++ ((stored ck S ws value).1 ++ [10]))) := by
  rw [piece_wait names S l ck out ws (value ++ [10]) hne hc hg hl h1 h2 h3]
  have hs := step_value (y := ⟨names, S :: l, ck⟩) (c := ⟨.value ws, some 0, value ++ [10], out⟩) (ws := ws) (n := value.length) rfl hn (by simp) (by simp [List.getD_eq_getElem?_getD])
  have e1 : (value ++ [10]).take value.length = value := by simp
  have e2 : (value ++ [10]).drop (value.length + 1) = [] := List.drop_eq_nil_of_le (by simp)
  simp only [e1, e2] at hs
  rw [run_go hs]
  exact run_idle _ _
theorem piece_data (ws : List Bytes) (value : Bytes) (hne : ws ≠ []) (hc : ∀ w ∈ ws, cleanW w) (hg : P.rGood ws = true) (hl : (joinW ws).length ≤ 120) (h1 : word ws 0 ≠ [97, 117, 116, 104]) (h2 : word ws 0 ≠ [113, 117, 105, 116]) (h3 : wantsValue ws = true) (hn : num (word ws 4) = value.length) :
    feed ⟨names, S :: l, ck⟩ (idleO out) (joinW ws ++ 10 :: (value ++ [120, 10])) = (⟨names, S :: l, ck⟩, idleO (out ++ [69, 82, 82, 79, 82, 32, 100, 97, 116, 97, 10])) := by
  rw [piece_wait names S l ck out ws (value ++ [120, 10]) hne hc hg hl h1 h2 h3]
  have hs : step ⟨names, S :: l, ck⟩ ⟨.value ws, some 0, value ++ [120, 10], out⟩ = (true, ⟨names, S :: l, ck⟩, ⟨.skip, some 0, [120, 10], out ++ [69, 82, 82, 79, 82, 32, 100, 97, 116, 97, 10]⟩) := by
    simp only [step, hn]
    rw [if_neg (by simp), if_neg (by simp [List.getD_eq_getElem?_getD])]
    simp [say]
  have hs2 : step ⟨names, S :: l, ck⟩ ⟨.skip, some 0, [120, 10], out ++ [69, 82, 82, 79, 82, 32, 100, 97, 116, 97, 10]⟩ = (true, ⟨names, S :: l, ck⟩, idleO (out ++ [69, 82, 82, 79, 82, 32, 100, 97, 116, 97, 10])) := rfl
  rw [run_go hs, run_go hs2]
  exact run_idle _ _
end
end Go.Proofs.YtdpnpcjbjjjceaaGreatDoor.M
