import Derived.WalkKit
import Derived.WalkLawsBesides
import Derived.WalkSpells
import Derived.Below
import Derived.Lib.SliceRun
import Derived.Test.YtdpnpcjbjjjceaaGreatDoorProg
import Derived.Test.YtdpnpcjbjjjceaaGreatDoorBPlain
set_option linter.unusedSimpArgs false
set_option linter.unusedVariables false
namespace Go.Proofs.YtdpnpcjbjjjceaaGreatDoor.K
open Go.RowKit Go.Proofs.YtdpnpcjbjjjceaaGreatDoor

theorem heap_cell {w : World} {g : Nat} {c : Array Value} {t : TypeId} {fz : Nat × Nat} {v : Value} (h : w.heap[g]? = some (.cells c t fz)) (j : Nat) (hj : c[j]? = some v) : w.cell? ⟨g, j, none⟩ = some v := by
  simp only [World.cell?, h]; simpa using hj
theorem alloc_at (W : World) (o : Obj) (g : Nat) (h : g = W.heap.size) : (W.alloc o).heap[g]? = some o := by
  subst h
  show (W.heap.push o)[W.heap.size]? = some o
  rw [Array.getElem?_push, if_pos rfl]

structure Ten where
  n : ByteArray
  k : ByteArray
  q : Nat
def Ten.cells (t : Ten) : List Value := [.string t.n, .string t.k, .int .i64 t.q]
def flatT (ts : List Ten) : List Value := ts.flatMap Ten.cells
def Ten.plain (t : Ten) : M.Bytes × M.Bytes × Nat := (t.n.data.toList, t.k.data.toList, t.q)
def tenOk (t : Ten) : Bool :=
  decide (1 ≤ t.n.size) && decide (t.n.size ≤ 8) && t.n.data.toList.all (fun b => decide (97 ≤ b.toNat) && decide (b.toNat ≤ 122)) &&
  decide (1 ≤ t.k.size) && decide (t.k.size ≤ 16) && t.k.data.toList.all (fun b => decide (33 ≤ b.toNat) && decide (b.toNat ≤ 126)) && decide (1 ≤ t.q) && decide (t.q ≤ 2000)
def tensOk (ts : List Ten) : Prop := 1 ≤ ts.length ∧ ts.length ≤ 5 ∧ (∀ t ∈ ts, tenOk t = true) ∧ (ts.map (·.n)).Nodup

/-- behind a call that writes into the blocks F alone; F': what it has then -/
structure Touch (F : Nat → Prop) (w : World) (F' : Nat → Prop) (w' : World) : Prop where
  os : w'.os = w.os
  tape : w'.tape = w.tape
  output : w'.output = w.output
  size : w.heap.size ≤ w'.heap.size
  block : ∀ k, k < w.heap.size → ¬ F k → w'.heap[k]? = w.heap[k]?
  foot : ∀ k, F' k → F k ∨ w.heap.size ≤ k
theorem Touch.below {F F' : Nat → Prop} {w0 w w' : World} {B : Nat} (h : Touch F w F' w') (hF : ∀ k, F k → B ≤ k) (hb : Below B w0 w) (hB : B ≤ w.heap.size) : Below B w0 w' :=
  hb.trans ⟨h.os, h.tape, h.output, h.size, fun k hk => h.block k (Nat.lt_of_lt_of_le hk hB) (fun hf => absurd (hF k hf) (Nat.not_le.2 hk))⟩
theorem Touch.from {F F' : Nat → Prop} {w w' : World} {B : Nat} (h : Touch F w F' w') (hF : ∀ k, F k → B ≤ k) (hB : B ≤ w.heap.size) : ∀ k, F' k → B ≤ k := by
  intro k hk
  rcases h.foot k hk with h1 | h1
  · exact hF k h1
  · exact Nat.le_trans hB h1
def lim : Nat := 1073741824

/-- WHAT IS ASKED OF THE PROGRAM. Srv w a F m b: at a there lies a server that stands as m does; it has the blocks F; so many bytes were fed to it. Glob: what is asked of package-level variables. -/
structure Iface (Srv : World → Addr → (Nat → Prop) → M.Server → Nat → Prop) (Glob : World → Prop) : Prop where
  glob : ∀ {w w' : World}, Glob w → Below w.heap.size w w' → Glob w'
  frame : ∀ {w w' : World} {a : Addr} {F : Nat → Prop} {m : M.Server} {b : Nat}, Srv w a F m b → w.heap.size ≤ w'.heap.size → (∀ k, F k → w'.heap[k]? = w.heap[k]?) → Srv w' a F m b
  inn : ∀ {w : World} {a : Addr} {F : Nat → Prop} {m : M.Server} {b : Nat}, Srv w a F m b → ∀ k, F k → k < w.heap.size
  outs : ∀ {w : World} {a : Addr} {F : Nat → Prop} {m : M.Server} {b : Nat}, Srv w a F m b → ∀ (c : Nat) (x : M.Conn), m.conns[c]? = some (some x) → x.out.length ≤ 200 * b + 20
  make : ∀ (w : World) (g o cap n : Nat) (ts : List Ten), Glob w → tensOk ts → (∀ j v, (flatT ts)[j]? = some v → w.cell? ⟨g, o + j, none⟩ = some v) → ts.length ≤ cap → 1 ≤ n → n ≤ 8 →
    Calls Tryz.prog 18 #[.slice (some ⟨g, o, none⟩) ts.length cap, .int .i64 n] w fun e w' => ∃ a F, e = .returned (.tuple #[.pointer (some a), .int .i64 0]) ∧ Srv w' a F (M.opened (ts.map Ten.plain) n) 0 ∧ Below w.heap.size w w' ∧ ∀ k, F k → w.heap.size ≤ k
  dial : ∀ {w : World} {a : Addr} {F : Nat → Prop} {m : M.Server} {b : Nat} (i : Nat), Srv w a F m b → Glob w → M.free m = some i →
    Calls Tryz.prog 19 #[.pointer (some a)] w fun e w' => e = .returned (.tuple #[.int .i64 i, .int .i64 0]) ∧ ∃ F', Srv w' a F' (M.dialled m i) b ∧ Touch F w F' w'
  feed : ∀ {w : World} {a : Addr} {F : Nat → Prop} {m : M.Server} {b : Nat} (c : Nat) (x : M.Conn) (s : ByteArray), Srv w a F m b → Glob w → m.conns[c]? = some (some x) → b + s.size ≤ lim →
    Calls Tryz.prog 20 #[.pointer (some a), .int .i64 c, .string s] w fun e w' => e = .returned (.int .i64 0) ∧ ∃ F', Srv w' a F' (M.fed m c x s.data.toList) (b + s.size) ∧ Touch F w F' w'
  take : ∀ {w : World} {a : Addr} {F : Nat → Prop} {m : M.Server} {b : Nat} (c : Nat) (x : M.Conn) (n : Nat), Srv w a F m b → Glob w → m.conns[c]? = some (some x) → n ≤ 1099511627776 →
    Calls Tryz.prog 21 #[.pointer (some a), .int .i64 c, .int .i64 n] w fun e w' => e = .returned (.tuple #[.string ⟨(x.out.take n).toArray⟩, .int .i64 0]) ∧ ∃ F', Srv w' a F' (M.taken m c x n) b ∧ Touch F w F' w'
  line : ∀ (w : World) (s : ByteArray), Glob w → s.size ≤ 1048576 → Calls Tryz.prog 17 #[.string s] w fun e w' => e = .returned (.string ⟨(P.rLine s.data.toList).toArray⟩) ∧ Below w.heap.size w w'
end Go.Proofs.YtdpnpcjbjjjceaaGreatDoor.K
namespace Go.Proofs.YtdpnpcjbjjjceaaGreatDoor.K
open Go.RowKit Go.Proofs.YtdpnpcjbjjjceaaGreatDoor

def pk (c : Int) (n : Nat) : Nat := (if c < 0 then -(c + 1) else c).toNat % n
theorem pk_lt (c : Int) (n : Nat) (h : 0 < n) : pk c n < n := Nat.mod_lt _ h
theorem pk_neg (c : Int) (n : Nat) (h : c < 0) : -((c + 1).tmod n) = (pk c n : Int) := by
  rw [← Int.neg_tmod, Int.tmod_eq_emod_of_nonneg (by omega)]
  unfold pk
  rw [if_pos h, Int.natCast_emod, Int.toNat_of_nonneg (by omega)]
theorem pk_pos (c : Int) (n : Nat) (h : 0 ≤ c) : c % (n : Int) = (pk c n : Int) := by
  unfold pk
  rw [if_neg (by omega), Int.natCast_emod, Int.toNat_of_nonneg h]

theorem pick_c (c : Int) (n : Nat) (w : World) (hlo : -9223372036854775808 ≤ c) (hhi : c ≤ 9223372036854775807) (hn : 0 < n) (hn2 : n ≤ 1099511627776) :
    Calls Tryz.prog 16 #[.int .i64 c, .int .i64 n] w fun e w' => e = .returned (.int .i64 (pk c n)) ∧ w' = w := by
  by_cases h : c < 0
  · have HP : Hid (-((c + 1).tmod n) = (pk c n : Int)) := pk_neg c n h
    go_enter Tryz.func16, Tryz.ntmps16
    go_wp2
    go_ret
    exact ⟨by rw [← HP.out]; rfl, rfl⟩
  · have HP : Hid (c % (n : Int) = (pk c n : Int)) := pk_pos c n (by omega)
    go_enter Tryz.func16, Tryz.ntmps16
    go_wp2
    go_ret
    exact ⟨by rw [← HP.out]; rfl, rfl⟩

def beginsB (s t : ByteArray) : Bool := decide (t.size ≤ s.size) && ((s.extract 0 t.size).toList == t.toList)
theorem begins_c (s t : ByteArray) (w : World) : Calls Tryz.prog 29 #[.string s, .string t] w fun e w' => e = .returned (.bool (beginsB s t)) ∧ w' = w := by
  by_cases h : t.size ≤ s.size
  · have HP : Hid (beginsB s t = ((s.extract 0 t.size).toList == t.toList)) := by
      show _ = _
      unfold beginsB; rw [decide_eq_true h]; rfl
    go_enter Tryz.func29, Tryz.ntmps29
    go_wp2
    go_ret
    exact ⟨by rw [HP.out]; rfl, rfl⟩
  · have HP : Hid (beginsB s t = false) := by
      show _ = _
      unfold beginsB; rw [decide_eq_false h]; rfl
    go_enter Tryz.func29, Tryz.ntmps29
    go_wp2
    go_ret
    exact ⟨by rw [HP.out]; rfl, rfl⟩

def auth0 : ByteArray := ⟨#[97, 117, 116, 104, 32, 97, 110, 110, 32, 97, 49, 10]⟩
theorem auth_c (w : World) : Calls Tryz.prog 23 #[.int .i64 0] w fun e w' => e = .returned (.string auth0) ∧ w' = w := by
  go_enter Tryz.func23, Tryz.ntmps23
  go_wp2
  go_ret
  exact ⟨rfl, rfl⟩
def headI : ByteArray := ⟨M.headIn.toArray⟩
def headO : ByteArray := ⟨M.headOut.toArray⟩
theorem head_c (w : World) : Calls Tryz.prog 24 #[] w fun e w' => e = .returned (.tuple #[.string headI, .string headO]) ∧ w' = w := by
  go_enter Tryz.func24, Tryz.ntmps24
  go_wp2_with (go_at_call 23; refine (auth_c _).mono ?_; rintro e w1 ⟨rfl, rfl⟩)
  go_ret2
  exact ⟨by rfl, rfl⟩

section
variable {Srv : World → Addr → (Nat → Prop) → M.Server → Nat → Prop} {Glob : World → Prop}
theorem told_c (I : Iface Srv Glob) {w : World} {a : Addr} {F : Nat → Prop} {m : M.Server} {b : Nat} (c : Nat) (x : M.Conn) (h : Srv w a F m b) (hg : Glob w) (hx : m.conns[c]? = some (some x)) (hb : b ≤ lim) (_hc : c ≤ 8) :
    Calls Tryz.prog 28 #[.pointer (some a), .int .i64 c] w fun e w' => e = .returned (.tuple #[.string ⟨x.out.toArray⟩, .bool true]) ∧ ∃ F', Srv w' a F' (M.taken m c x (1099511627776 : Nat)) b ∧ Touch F w F' w' := by
  have ho : x.out.take 1099511627776 = x.out := List.take_of_length_le (by have := I.outs h c x hx; unfold lim at hb; omega)
  have hT := I.take c x 1099511627776 h hg hx (Nat.le_refl _)
  rw [ho] at hT
  clear ho hb h hg hx
  go_enter Tryz.func28, Tryz.ntmps28
  go_wp2_with (go_at_call 21; refine hT.mono ?_; rintro e w1 ⟨rfl, hP⟩)
  go_ret2
  exact ⟨rfl, hP⟩
end
end Go.Proofs.YtdpnpcjbjjjceaaGreatDoor.K
namespace Go.Proofs.YtdpnpcjbjjjceaaGreatDoor.K
open Go.RowKit Go.Proofs.YtdpnpcjbjjjceaaGreatDoor

def annS : ByteArray := ⟨#[97, 110, 110]⟩
def bobS : ByteArray := ⟨#[98, 111, 98]⟩
def catS : ByteArray := ⟨#[99, 97, 116]⟩
def a1S : ByteArray := ⟨#[97, 49]⟩
def b2S : ByteArray := ⟨#[98, 50]⟩
def c3S : ByteArray := ⟨#[99, 51]⟩
def tens3 (v : Nat) : List Ten := [⟨annS, a1S, 20 + v % 200⟩, ⟨bobS, b2S, 20 + v / 200 % 200⟩, ⟨catS, c3S, 1 + v / 40000 % 2000⟩]
theorem tens3_ok (v : Nat) : tensOk (tens3 v) := by
  refine ⟨by simp [tens3], by simp [tens3], ?_, ?_⟩
  · intro t ht
    simp only [tens3, List.mem_cons, List.mem_nil_iff, or_false] at ht
    rcases ht with rfl | rfl | rfl
    · have h1 : decide (20 + v % 200 ≤ 2000) = true := decide_eq_true (by omega)
      have h2 : decide (1 ≤ 20 + v % 200) = true := decide_eq_true (by omega)
      simp only [tenOk, h1, h2, annS, a1S]; rfl
    · have h1 : decide (20 + v / 200 % 200 ≤ 2000) = true := decide_eq_true (by omega)
      have h2 : decide (1 ≤ 20 + v / 200 % 200) = true := decide_eq_true (by omega)
      simp only [tenOk, h1, h2, bobS, b2S]; rfl
    · have h1 : decide (1 + v / 40000 % 2000 ≤ 2000) = true := decide_eq_true (by omega)
      have h2 : decide (1 ≤ 1 + v / 40000 % 2000) = true := decide_eq_true (by omega)
      simp only [tenOk, h1, h2, catS, c3S]; rfl
  · show ([annS, bobS, catS] : List ByteArray).Nodup
    decide

theorem tenants_c (c : Int) (w : World) (hlo : -9223372036854775808 ≤ c) (hhi : c ≤ 9223372036854775807) :
    Calls Tryz.prog 30 #[.int .i64 c] w fun e w' => e = .returned (.slice (some ⟨w.heap.size, 0, none⟩) 3 3) ∧ w' = w.alloc (.cells (flatT (tens3 (pk c 1099511627776))).toArray 32) := by
  have hP := fun W => pick_c c 1099511627776 W hlo hhi (by decide) (Nat.le_refl _)
  have hv := pk_lt c 1099511627776 (by decide)
  generalize pk c 1099511627776 = v at hP hv ⊢
  clear hlo hhi
  go_enter Tryz.func30, Tryz.ntmps30
  go_wp2_with (go_at_call 16; refine (hP _).mono ?_; rintro e w1 ⟨rfl, rfl⟩)
  go_ret
  exact ⟨rfl, by rfl⟩

theorem free_at (y : M.Sys) (k n : Nat) : M.free ⟨y, List.replicate k (some M.fresh) ++ List.replicate (n + 1) none⟩ = some k := by
  unfold M.free
  simp only
  rw [List.findIdx?_append]
  have h1 : (List.replicate k (some M.fresh)).findIdx? Option.isNone = none := by
    rw [List.findIdx?_eq_none_iff]
    intro x hx
    rw [List.mem_replicate] at hx
    rw [hx.2]; rfl
  rw [h1, List.replicate_succ]
  simp [List.findIdx?_cons]
theorem dialled_at (y : M.Sys) (k n : Nat) : M.dialled ⟨y, List.replicate k (some M.fresh) ++ List.replicate (n + 1) none⟩ k = ⟨y, List.replicate (k + 1) (some M.fresh) ++ List.replicate n none⟩ := by
  unfold M.dialled
  simp only [M.Server.mk.injEq, true_and]
  rw [List.set_append_right _ _ (by simp), List.length_replicate, Nat.sub_self, List.replicate_succ (n := n), List.set_cons_zero, List.replicate_succ' (n := k)]
  simp
/-- the server of 'opened', with k connections -/
def openM (v k : Nat) : M.Server := ⟨(M.opened ((tens3 v).map Ten.plain) 8).sys, List.replicate k (some M.fresh) ++ List.replicate (8 - k) none⟩
theorem openM_zero (v : Nat) : M.opened ((tens3 v).map Ten.plain) 8 = openM v 0 := rfl
theorem openM_free (v k : Nat) (h : k < 8) : M.free (openM v k) = some k := by
  have e : 8 - k = (8 - (k + 1)) + 1 := by omega
  unfold openM; rw [e]; exact free_at _ _ _
theorem openM_dial (v k : Nat) (h : k < 8) : M.dialled (openM v k) k = openM v (k + 1) := by
  have e : 8 - k = (8 - (k + 1)) + 1 := by omega
  unfold openM; rw [e]; exact dialled_at _ _ _
theorem openM_conn (v k j : Nat) (h : j < k) : (openM v k).conns[j]? = some (some M.fresh) := by
  unfold openM
  simp only
  rw [List.getElem?_append_left (by simpa using h), List.getElem?_replicate, if_pos h]
end Go.Proofs.YtdpnpcjbjjjceaaGreatDoor.K
namespace Go.Proofs.YtdpnpcjbjjjceaaGreatDoor.K
open Go.RowKit Go.Proofs.YtdpnpcjbjjjceaaGreatDoor

section
variable {Srv : World → Addr → (Nat → Prop) → M.Server → Nat → Prop} {Glob : World → Prop}
/-- a server that was made since a world, in a later one -/
structure Up (Srv : World → Addr → (Nat → Prop) → M.Server → Nat → Prop) (w0 : World) (a : Addr) (m : M.Server) (b : Nat) (F : Nat → Prop) (w : World) : Prop where
  srv : Srv w a F m b
  below : Below w0.heap.size w0 w
  foot : ∀ k, F k → w0.heap.size ≤ k
theorem opened_c (I : Iface Srv Glob) (c : Int) (k : Nat) (w : World) (hlo : -9223372036854775808 ≤ c) (hhi : c ≤ 9223372036854775807) (hk : k ≤ 8) (hg : Glob w) :
    Calls Tryz.prog 22 #[.int .i64 c, .int .i64 k] w fun e w' => ∃ a, e = .returned (.pointer (some a)) ∧ ∃ F, Up Srv w a (openM (pk c 1099511627776) k) 0 F w' := by
  have hT := tenants_c c w hlo hhi
  generalize pk c 1099511627776 = v at hT ⊢
  have hb1 : Below w.heap.size w (w.alloc (.cells (flatT (tens3 v)).toArray 32)) := (Below.refl _ _).alloc (Nat.le_refl _) _
  have hO := I.make (w.alloc (.cells (flatT (tens3 v)).toArray 32)) w.heap.size 0 3 8 (tens3 v) (I.glob hg hb1) (tens3_ok v)
    (fun j u hj => by rw [Nat.zero_add]; exact heap_cell (alloc_at w _ _ rfl) j (by simpa using hj)) (by simp [tens3]) (by decide) (by decide)
  have hO' : Calls Tryz.prog 18 #[.slice (some ⟨w.heap.size, 0, none⟩) 3 3, .int .i64 8] (w.alloc (.cells (flatT (tens3 v)).toArray 32)) fun e w' => ∃ a F, e = .returned (.tuple #[.pointer (some a), .int .i64 0]) ∧ Up Srv w a (openM v 0) 0 F w' :=
    hO.mono fun e w' ⟨a, F, he, hs, hb, hF⟩ => ⟨a, F, he, hs, hb1.trans (hb.mono hb1.size), fun q hq => Nat.le_trans hb1.size (hF q hq)⟩
  have HG : Hid (Glob w) := hg
  clear hO hb1 hg hlo hhi
  go_enter Tryz.func22, Tryz.ntmps22
  go_wp2_with (first
    | (go_at_call 30; refine hT.mono ?_; rintro e w1 ⟨rfl, rfl⟩)
    | (go_at_call 18; refine hO'.mono ?_; rintro e w2 ⟨a, F0, rfl, hU⟩)
    | fail)
  go_loopw [7] (fun i wr => ∃ (j : Nat) (F : Nat → Prop), j ≤ k ∧ i = .int .i64 j ∧ Up Srv w a (openM v j) 0 F wr) (fun i _ => k - (intOf i).toNat)
  case atStart => exact ⟨0, F0, by omega, rfl, hU⟩
  case round =>
    obtain ⟨j, F, hj, rfl, hu⟩ := hrel
    by_cases hlt : j < k
    · have klt : (j : Int) < k := by omega
      have hD := I.dial j hu.srv (I.glob HG.out hu.below) (openM_free v j (by omega))
      rw [openM_dial v j (by omega)] at hD
      have hD' : Calls Tryz.prog 19 #[.pointer (some a)] wr fun e w' => e = .returned (.tuple #[.int .i64 j, .int .i64 0]) ∧ ∃ F', Up Srv w a (openM v (j + 1)) 0 F' w' :=
        hD.mono fun e w' ⟨he, F', hs, ht⟩ => ⟨he, F', hs, ht.below hu.foot hu.below hu.below.size, ht.from hu.foot hu.below.size⟩
      clear hD
      go_wp2_with (go_at_call 19; refine hD'.mono ?_; rintro e w3 ⟨rfl, F', hU'⟩)
      go_roundw
      case rel => exact ⟨j + 1, F', by omega, by go_num, hU'⟩
      case measure => simp [intOf] <;> omega
    · obtain rfl : j = k := by omega
      have klt : ¬ (j : Int) < j := by omega
      go_wp2
      go_ret
      exact ⟨a, rfl, F, hu⟩
end
end Go.Proofs.YtdpnpcjbjjjceaaGreatDoor.K
namespace Go.Proofs.YtdpnpcjbjjjceaaGreatDoor.K
open Go.RowKit Go.Proofs.YtdpnpcjbjjjceaaGreatDoor

section
variable {Srv : World → Addr → (Nat → Prop) → M.Server → Nat → Prop} {Glob : World → Prop}
/-- two servers that were made since a world, beside one another -/
def Two (Srv : World → Addr → (Nat → Prop) → M.Server → Nat → Prop) (w0 : World) (a b : Addr) (ma mb : M.Server) (na nb : Nat) (w : World) : Prop :=
  ∃ Fa Fb : Nat → Prop, Srv w a Fa ma na ∧ Srv w b Fb mb nb ∧ (∀ k, Fa k → ¬ Fb k) ∧ (∀ k, Fa k → w0.heap.size ≤ k) ∧ (∀ k, Fb k → w0.heap.size ≤ k) ∧ Below w0.heap.size w0 w
theorem Two.symm {w0 w : World} {a b : Addr} {ma mb : M.Server} {na nb : Nat} (h : Two Srv w0 a b ma mb na nb w) : Two Srv w0 b a mb ma nb na w := by
  obtain ⟨Fa, Fb, h1, h2, h3, h4, h5, h6⟩ := h
  exact ⟨Fb, Fa, h2, h1, fun k hb ha => h3 k ha hb, h5, h4, h6⟩
theorem Two.below {w0 w : World} {a b : Addr} {ma mb : M.Server} {na nb : Nat} (h : Two Srv w0 a b ma mb na nb w) : Below w0.heap.size w0 w := by
  obtain ⟨Fa, Fb, h1, h2, h3, h4, h5, h6⟩ := h
  exact h6
theorem Two.step (I : Iface Srv Glob) {w0 w w' : World} {a b : Addr} {mb ma' : M.Server} {nb na' : Nat} {Fa Fa' Fb : Nat → Prop} (h1 : Srv w b Fb mb nb) (h3 : ∀ k, Fa k → ¬ Fb k) (h4 : ∀ k, Fa k → w0.heap.size ≤ k) (h5 : ∀ k, Fb k → w0.heap.size ≤ k) (h6 : Below w0.heap.size w0 w)
    (hs : Srv w' a Fa' ma' na') (ht : Touch Fa w Fa' w') : Two Srv w0 a b ma' mb na' nb w' := by
  refine ⟨Fa', Fb, hs, I.frame h1 ht.size (fun k hk => ht.block k (I.inn h1 k hk) (fun ha => h3 k ha hk)), ?_, ht.from h4 h6.size, h5, ht.below h4 h6 h6.size⟩
  intro k hk hb
  rcases ht.foot k hk with h | h
  · exact h3 k h hb
  · exact absurd (I.inn h1 k hb) (Nat.not_lt.2 h)
theorem Two.feed (I : Iface Srv Glob) {w0 w : World} {a b : Addr} {ma mb : M.Server} {na nb : Nat} (h : Two Srv w0 a b ma mb na nb w) (hg : Glob w0) (c : Nat) (x : M.Conn) (s : ByteArray) (hx : ma.conns[c]? = some (some x)) (hn : na + s.size ≤ lim) :
    Calls Tryz.prog 20 #[.pointer (some a), .int .i64 c, .string s] w fun e w' => e = .returned (.int .i64 0) ∧ Two Srv w0 a b (M.fed ma c x s.data.toList) mb (na + s.size) nb w' := by
  obtain ⟨Fa, Fb, h1, h2, h3, h4, h5, h6⟩ := h
  exact (I.feed c x s h1 (I.glob hg h6) hx hn).mono fun e w' ⟨he, F', hs, ht⟩ => ⟨he, Two.step I h2 h3 h4 h5 h6 hs ht⟩
theorem Two.take (I : Iface Srv Glob) {w0 w : World} {a b : Addr} {ma mb : M.Server} {na nb : Nat} (h : Two Srv w0 a b ma mb na nb w) (hg : Glob w0) (c : Nat) (x : M.Conn) (n : Nat) (hx : ma.conns[c]? = some (some x)) (hn : n ≤ 1099511627776) :
    Calls Tryz.prog 21 #[.pointer (some a), .int .i64 c, .int .i64 n] w fun e w' => e = .returned (.tuple #[.string ⟨(x.out.take n).toArray⟩, .int .i64 0]) ∧ Two Srv w0 a b (M.taken ma c x n) mb na nb w' := by
  obtain ⟨Fa, Fb, h1, h2, h3, h4, h5, h6⟩ := h
  exact (I.take c x n h1 (I.glob hg h6) hx hn).mono fun e w' ⟨he, F', hs, ht⟩ => ⟨he, Two.step I h2 h3 h4 h5 h6 hs ht⟩
theorem Two.told (I : Iface Srv Glob) {w0 w : World} {a b : Addr} {ma mb : M.Server} {na nb : Nat} (h : Two Srv w0 a b ma mb na nb w) (hg : Glob w0) (c : Nat) (x : M.Conn) (hx : ma.conns[c]? = some (some x)) (hb : na ≤ lim) (hc : c ≤ 8) :
    Calls Tryz.prog 28 #[.pointer (some a), .int .i64 c] w fun e w' => e = .returned (.tuple #[.string ⟨x.out.toArray⟩, .bool true]) ∧ Two Srv w0 a b (M.taken ma c x (1099511627776 : Nat)) mb na nb w' := by
  obtain ⟨Fa, Fb, h1, h2, h3, h4, h5, h6⟩ := h
  exact (told_c I c x h1 (I.glob hg h6) hx hb hc).mono fun e w' ⟨he, F', hs, ht⟩ => ⟨he, Two.step I h2 h3 h4 h5 h6 hs ht⟩
theorem Two.outs (I : Iface Srv Glob) {w0 w : World} {a b : Addr} {ma mb : M.Server} {na nb : Nat} (h : Two Srv w0 a b ma mb na nb w) (c : Nat) (x : M.Conn) (hx : ma.conns[c]? = some (some x)) : x.out.length ≤ 200 * na + 20 := by
  obtain ⟨Fa, Fb, h1, h2, h3, h4, h5, h6⟩ := h
  exact I.outs h1 c x hx
theorem two_of (I : Iface Srv Glob) {w0 w1 w2 : World} {a b : Addr} {ma mb : M.Server} {na nb : Nat} (ha : ∃ F, Up Srv w0 a ma na F w1) (hb : ∃ F, Up Srv w1 b mb nb F w2) : Two Srv w0 a b ma mb na nb w2 := by
  obtain ⟨Fa, ha⟩ := ha
  obtain ⟨Fb, hb⟩ := hb
  refine ⟨Fa, Fb, I.frame ha.srv hb.below.size (fun k hk => hb.below.block k (I.inn ha.srv k hk)), hb.srv, ?_, ha.foot, fun k hk => Nat.le_trans ha.below.size (hb.foot k hk), ha.below.trans (hb.below.mono ha.below.size)⟩
  intro k h1 h2
  exact absurd (I.inn ha.srv k h1) (Nat.not_lt.2 (hb.foot k h2))

/-- one server that was made since a world -/
def UpE (Srv : World → Addr → (Nat → Prop) → M.Server → Nat → Prop) (w0 : World) (a : Addr) (m : M.Server) (n : Nat) (w : World) : Prop := ∃ F, Up Srv w0 a m n F w
theorem UpE.below {w0 w : World} {a : Addr} {m : M.Server} {n : Nat} (h : UpE Srv w0 a m n w) : Below w0.heap.size w0 w := by
  obtain ⟨F, h⟩ := h
  exact h.below
theorem UpE.later (I : Iface Srv Glob) {w0 w w' : World} {a : Addr} {m : M.Server} {n : Nat} (h : UpE Srv w0 a m n w) (hb : Below w.heap.size w w') : UpE Srv w0 a m n w' := by
  obtain ⟨F, h⟩ := h
  exact ⟨F, I.frame h.srv hb.size (fun k hk => hb.block k (I.inn h.srv k hk)), h.below.trans (hb.mono h.below.size), h.foot⟩
theorem UpE.step {w0 w w' : World} {a : Addr} {m m' : M.Server} {n n' : Nat} {F F' : Nat → Prop} (h : Up Srv w0 a m n F w) (hs : Srv w' a F' m' n') (ht : Touch F w F' w') : UpE Srv w0 a m' n' w' :=
  ⟨F', hs, ht.below h.foot h.below h.below.size, ht.from h.foot h.below.size⟩
theorem UpE.dial (I : Iface Srv Glob) {w0 w : World} {a : Addr} {m : M.Server} {n : Nat} (h : UpE Srv w0 a m n w) (hg : Glob w0) (i : Nat) (hi : M.free m = some i) :
    Calls Tryz.prog 19 #[.pointer (some a)] w fun e w' => e = .returned (.tuple #[.int .i64 i, .int .i64 0]) ∧ UpE Srv w0 a (M.dialled m i) n w' := by
  obtain ⟨F, h⟩ := h
  exact (I.dial i h.srv (I.glob hg h.below) hi).mono fun e w' ⟨he, F', hs, ht⟩ => ⟨he, UpE.step h hs ht⟩
theorem UpE.feed (I : Iface Srv Glob) {w0 w : World} {a : Addr} {m : M.Server} {n : Nat} (h : UpE Srv w0 a m n w) (hg : Glob w0) (c : Nat) (x : M.Conn) (s : ByteArray) (hx : m.conns[c]? = some (some x)) (hn : n + s.size ≤ lim) :
    Calls Tryz.prog 20 #[.pointer (some a), .int .i64 c, .string s] w fun e w' => e = .returned (.int .i64 0) ∧ UpE Srv w0 a (M.fed m c x s.data.toList) (n + s.size) w' := by
  obtain ⟨F, h⟩ := h
  exact (I.feed c x s h.srv (I.glob hg h.below) hx hn).mono fun e w' ⟨he, F', hs, ht⟩ => ⟨he, UpE.step h hs ht⟩
theorem UpE.take (I : Iface Srv Glob) {w0 w : World} {a : Addr} {m : M.Server} {n : Nat} (h : UpE Srv w0 a m n w) (hg : Glob w0) (c : Nat) (x : M.Conn) (k : Nat) (hx : m.conns[c]? = some (some x)) (hk : k ≤ 1099511627776) :
    Calls Tryz.prog 21 #[.pointer (some a), .int .i64 c, .int .i64 k] w fun e w' => e = .returned (.tuple #[.string ⟨(x.out.take k).toArray⟩, .int .i64 0]) ∧ UpE Srv w0 a (M.taken m c x k) n w' := by
  obtain ⟨F, h⟩ := h
  exact (I.take c x k h.srv (I.glob hg h.below) hx hk).mono fun e w' ⟨he, F', hs, ht⟩ => ⟨he, UpE.step h hs ht⟩
theorem UpE.told (I : Iface Srv Glob) {w0 w : World} {a : Addr} {m : M.Server} {n : Nat} (h : UpE Srv w0 a m n w) (hg : Glob w0) (c : Nat) (x : M.Conn) (hx : m.conns[c]? = some (some x)) (hb : n ≤ lim) (hc : c ≤ 8) :
    Calls Tryz.prog 28 #[.pointer (some a), .int .i64 c] w fun e w' => e = .returned (.tuple #[.string ⟨x.out.toArray⟩, .bool true]) ∧ UpE Srv w0 a (M.taken m c x (1099511627776 : Nat)) n w' := by
  obtain ⟨F, h⟩ := h
  exact (told_c I c x h.srv (I.glob hg h.below) hx hb hc).mono fun e w' ⟨he, F', hs, ht⟩ => ⟨he, UpE.step h hs ht⟩
theorem UpE.outs (I : Iface Srv Glob) {w0 w : World} {a : Addr} {m : M.Server} {n : Nat} (h : UpE Srv w0 a m n w) (c : Nat) (x : M.Conn) (hx : m.conns[c]? = some (some x)) : x.out.length ≤ 200 * n + 20 := by
  obtain ⟨F, h⟩ := h
  exact I.outs h.srv c x hx
/-- a server of tenants that are laid in a new block -/
theorem make_c (I : Iface Srv Glob) (w : World) (ts : List Ten) (n : Nat) (hg : Glob w) (ht : tensOk ts) (hn : 1 ≤ n) (hn8 : n ≤ 8) :
    Calls Tryz.prog 18 #[.slice (some ⟨w.heap.size, 0, none⟩) ts.length ts.length, .int .i64 n] (w.alloc (.cells (flatT ts).toArray 32)) fun e w' => ∃ a, e = .returned (.tuple #[.pointer (some a), .int .i64 0]) ∧ UpE Srv w a (M.opened (ts.map Ten.plain) n) 0 w' := by
  have hb1 : Below w.heap.size w (w.alloc (.cells (flatT ts).toArray 32)) := (Below.refl _ _).alloc (Nat.le_refl _) _
  have hO := I.make (w.alloc (.cells (flatT ts).toArray 32)) w.heap.size 0 ts.length n ts (I.glob hg hb1) ht
    (fun j u hj => by rw [Nat.zero_add]; exact heap_cell (alloc_at w _ _ rfl) j (by simpa using hj)) (Nat.le_refl _) hn hn8
  exact hO.mono fun e w' ⟨a, F, he, hs, hb, hF⟩ => ⟨a, he, F, hs, hb1.trans (hb.mono hb1.size), fun q hq => Nat.le_trans hb1.size (hF q hq)⟩

/-- a server with the one connection 0 -/
def srv1 (y : M.Sys) (x : M.Conn) : M.Server := ⟨y, some x :: List.replicate 7 none⟩
theorem openM_one (v : Nat) : openM v 1 = srv1 (openM v 0).sys M.fresh := rfl
theorem srv1_conn (y : M.Sys) (x : M.Conn) : (srv1 y x).conns[0]? = some (some x) := rfl
theorem srv1_fed (y : M.Sys) (x : M.Conn) (q : M.Bytes) : M.fed (srv1 y x) 0 x q = srv1 (M.feed y x q).1 (M.feed y x q).2 := rfl
theorem srv1_taken (y : M.Sys) (x : M.Conn) (n : Nat) : M.taken (srv1 y x) 0 x n = srv1 y { x with out := x.out.drop n } := rfl

/-- a slice of integers in memory -/
def IntsAt (w : World) (v : Value) (l : List Int) : Prop :=
  ∃ (ca : Option Addr) (cap : Nat), v = .slice ca l.length cap ∧ (l = [] ∨ ∃ b o, ca = some ⟨b, o, none⟩ ∧ b < w.heap.size ∧ ∀ j q, l[j]? = some q → w.cell? ⟨b, o + j, none⟩ = some (.int .i64 q) ∧ -9223372036854775808 ≤ q ∧ q ≤ 9223372036854775807)
theorem ints_below {w W : World} {v : Value} {l : List Int} (h : IntsAt w v l) (hb : Below w.heap.size w W) : IntsAt W v l := by
  obtain ⟨ca, cap, h1, h2⟩ := h
  refine ⟨ca, cap, h1, h2.imp id ?_⟩
  rintro ⟨b, o, h3, h4, h5⟩
  exact ⟨b, o, h3, Nat.lt_of_lt_of_le h4 hb.size, fun j q hq => ⟨(hb.cell (p := ⟨b, o + j, none⟩) h4).trans (h5 j q hq).1, (h5 j q hq).2⟩⟩
end
end Go.Proofs.YtdpnpcjbjjjceaaGreatDoor.K
namespace Go.Proofs.YtdpnpcjbjjjceaaGreatDoor.K
open Go.RowKit Go.Proofs.YtdpnpcjbjjjceaaGreatDoor

/-- the other server, some bytes p of S fed in pieces, got: what was taken -/
def Piece (y0 : M.Sys) (S : List UInt8) (r got : ByteArray) (y : M.Sys) (x : M.Conn) : Prop :=
  ∃ p, p ++ r.data.toList = S ∧ M.feed y0 M.fresh p = (y, M.ahead got.data.toList x)
theorem piece_start (y0 : M.Sys) (s : ByteArray) : Piece y0 s.data.toList s ⟨#[]⟩ y0 M.fresh :=
  ⟨[], rfl, rfl⟩
theorem piece_more {y0 y : M.Sys} {x : M.Conn} {p g : List UInt8} (h : M.feed y0 M.fresh p = (y, M.ahead g x)) (q : List UInt8) : M.feed y0 M.fresh (p ++ q) = ((M.feed y x q).1, M.ahead g (M.feed y x q).2) := by
  rw [M.feed_append, h]
  exact M.feed_ahead y x g q
theorem cut_list (r : ByteArray) (n : Nat) : (r.extract 0 n).data.toList ++ (r.extract n r.size).data.toList = r.data.toList := by
  rw [Lib.extract_data, Lib.extract_data, Nat.sub_zero, List.drop_zero, List.take_of_length_le (l := r.data.toList.drop n) (by rw [List.length_drop]; simp), List.take_append_drop]
theorem piece_feed {y0 y : M.Sys} {S : List UInt8} {r got : ByteArray} {x : M.Conn} (h : Piece y0 S r got y x) (n : Nat) : Piece y0 S (r.extract n r.size) got (M.feed y x (r.extract 0 n).data.toList).1 (M.feed y x (r.extract 0 n).data.toList).2 := by
  obtain ⟨p, hp, hf⟩ := h
  exact ⟨p ++ (r.extract 0 n).data.toList, by rw [List.append_assoc, cut_list]; exact hp, piece_more hf _⟩
theorem piece_take {y0 y : M.Sys} {S : List UInt8} {r got : ByteArray} {x : M.Conn} (h : Piece y0 S r got y x) (k : Nat) : Piece y0 S r (got ++ ⟨(x.out.take k).toArray⟩) y { x with out := x.out.drop k } := by
  obtain ⟨p, hp, hf⟩ := h
  refine ⟨p, hp, hf.trans ?_⟩
  simp [M.ahead, ByteArray.data_append]
theorem piece_end {y0 y : M.Sys} {S : List UInt8} {r got : ByteArray} {x : M.Conn} (h : Piece y0 S r got y x) : got ++ ⟨(M.feed y x r.data.toList).2.out.toArray⟩ = ⟨(M.feed y0 M.fresh S).2.out.toArray⟩ := by
  obtain ⟨p, hp, hf⟩ := h
  rw [← hp, piece_more hf]
  apply ByteArray.ext
  simp [M.ahead, ByteArray.data_append]

section
variable {Srv : World → Addr → (Nat → Prop) → M.Server → Nat → Prop} {Glob : World → Prop}
/-- the loop of Chunked -/
def ChL (Srv : World → Addr → (Nat → Prop) → M.Server → Nat → Prop) (w : World) (a b : Addr) (ma : M.Server) (na : Nat) (y0 : M.Sys) (S r got : ByteArray) (wr : World) : Prop :=
  ∃ y x, Piece y0 S.data.toList r got y x ∧ r.size ≤ S.size ∧ Two Srv w a b ma (srv1 y x) na (S.size - r.size) wr

theorem begins_nil (s : ByteArray) : beginsB s ⟨#[]⟩ = true := by
  unfold beginsB
  have h : s.extract 0 (⟨#[]⟩ : ByteArray).size = ⟨#[]⟩ := by
    apply ByteArray.ext
    show (s.extract 0 0).data = #[]
    simp
  rw [h]
  simp
  show (0 : Nat) ≤ _
  exact Nat.zero_le _
theorem head_open (v : Nat) : ∃ y1, M.feed (openM v 0).sys M.fresh M.headIn = (y1, ⟨.line, some 0, [], M.headOut⟩) :=
  ⟨_, M.head_run (openM v 0).sys (20 + v % 200) _ rfl rfl (by omega) rfl⟩
theorem begins_app (a b : List UInt8) : beginsB ⟨(a ++ b).toArray⟩ ⟨a.toArray⟩ = true := by
  unfold beginsB
  have h1 : (⟨a.toArray⟩ : ByteArray).size = a.length := P.mk_size a
  have h2 : (⟨(a ++ b).toArray⟩ : ByteArray).size = (a ++ b).length := P.mk_size _
  have h3 : (⟨(a ++ b).toArray⟩ : ByteArray).extract 0 a.length = ⟨a.toArray⟩ := by
    apply ByteArray.ext
    apply Array.ext'
    have := Lib.extract_data ⟨(a ++ b).toArray⟩ 0 a.length
    rw [this]
    simp
  rw [h1, h2, h3, List.length_append]
  simp
theorem begins_head {y0 : M.Sys} (h : ∃ y1, M.feed y0 M.fresh M.headIn = (y1, ⟨.line, some 0, [], M.headOut⟩)) (s : ByteArray) : beginsB ⟨(M.feed y0 M.fresh (headI ++ s).data.toList).2.out.toArray⟩ headO = true := by
  obtain ⟨y1, h⟩ := h
  have e : (headI ++ s).data.toList = M.headIn ++ s.data.toList := by
    rw [ByteArray.data_append, Array.toList_append]; rfl
  rw [e, M.feed_append, h]
  have e2 : (⟨.line, some 0, [], M.headOut⟩ : M.Conn) = M.ahead M.headOut ⟨.line, some 0, [], []⟩ := by simp [M.ahead]
  simp only
  rw [e2, M.feed_ahead]
  exact begins_app _ _
theorem take_size (l : List UInt8) (n : Nat) : (⟨(l.take n).toArray⟩ : ByteArray).size ≤ n := by
  show ((l.take n).toArray).size ≤ n
  simp
  omega
theorem extract_all (r : ByteArray) : r.extract 0 r.size = r := by
  apply ByteArray.ext
  simp
theorem extract_end (r : ByteArray) : r.extract r.size r.size = ByteArray.empty := by
  apply ByteArray.ext
  simp
theorem isEmpty_iff (b : ByteArray) : b.toList.isEmpty = decide (b.size = 0) := by
  rw [Lib.toList_data, ← P.length_list b]
  cases b.data.toList <;> simp
set_option maxRecDepth 20000 in
set_option maxHeartbeats 1000000 in
theorem chunked_c (I : Iface Srv Glob) (c : Int) (s : ByteArray) (cv : Value) (cuts : List Int) (belongs : Bool) (w : World) (hlo : -9223372036854775808 ≤ c) (hhi : c ≤ 9223372036854775807) (hs : s.size ≤ 1048576) (hcu : IntsAt w cv cuts) (hcl : cuts.length ≤ 17592186044416) (hg : Glob w) :
    Calls Tryz.prog 8 #[.int .i64 c, .string s, cv, .bool belongs] w fun e w' => e = .returned (.bool true) ∧ Below w.heap.size w w' := by
  have hO1 := opened_c I c 1 w hlo hhi (by decide) hg
  have hO2 : ∀ W, Below w.heap.size w W → Calls Tryz.prog 22 #[.int .i64 c, .int .i64 (1 : Nat)] W fun e w' => ∃ a, e = .returned (.pointer (some a)) ∧ ∃ F, Up Srv W a (openM (pk c 1099511627776) 1) 0 F w' := fun W hW => opened_c I c 1 W hlo hhi (by decide) (I.glob hg hW)
  generalize pk c 1099511627776 = v at hO1 hO2
  rw [openM_one] at hO1
  simp only [openM_one] at hO2
  obtain ⟨ca, cap, rfl, hcu⟩ := hcu
  have HC : Hid (cuts = [] ∨ ∃ b o, ca = some ⟨b, o, none⟩ ∧ b < w.heap.size ∧ ∀ j q, cuts[j]? = some q → w.cell? ⟨b, o + j, none⟩ = some (.int .i64 q) ∧ -9223372036854775808 ≤ q ∧ q ≤ 9223372036854775807) := hcu
  have HG : Hid (Glob w) := hg
  clear hlo hhi hcu hg
  have HHD : Hid (∃ y1, M.feed (openM v 0).sys M.fresh M.headIn = (y1, ⟨.line, some 0, [], M.headOut⟩)) := head_open v
  generalize (openM v 0).sys = y0 at hO1 hO2 HHD
  cases belongs
  · have HS : Hid (s.size ≤ 1048676) := (by omega : s.size ≤ 1048676)
    go_enter Tryz.func8, Tryz.ntmps8
    go_wp2_with (first
      | (go_at_call 22; refine hO1.mono ?_; rintro e w1 ⟨a, rfl, hU1⟩; clear hO1; have hO2' := hO2 w1 (by obtain ⟨F, h⟩ := hU1; exact h.below); clear hO2)
      | (go_at_call 22; refine hO2'.mono ?_; rintro e w2 ⟨b, rfl, hU2⟩; have hT := two_of I hU1 hU2; clear hO2' hU1 hU2; have hF := hT.feed I HG.out 0 M.fresh s rfl (by have := HS.out; unfold lim; omega); clear hT)
      | (go_at_call 20; refine hF.mono ?_; rintro e w3 ⟨rfl, hT3⟩; clear hF; have hT4out := hT3.outs I 0 (M.feed y0 M.fresh s.data.toList).2 rfl; have hF := hT3.told I HG.out 0 (M.feed y0 M.fresh s.data.toList).2 rfl (by have := HS.out; unfold lim; omega) (by decide); clear hT3)
      | (go_at_call 28; refine hF.mono ?_; rintro e w4 ⟨rfl, hT4⟩; clear hF)
      | fail)
    rw [Nat.zero_add] at hT4
    generalize M.taken (M.fed (srv1 y0 M.fresh) 0 M.fresh s.data.toList) 0 (M.feed y0 M.fresh s.data.toList).2 ((1099511627776 : Nat) : Int) = MA at hT4
    generalize hwant : (M.feed y0 M.fresh s.data.toList).2.out = want
    have HW : Hid ((M.feed y0 M.fresh s.data.toList).2.out = want) := hwant
    have HWL : Hid ((⟨want.toArray⟩ : ByteArray).size ≤ 300000000) := by
      have h1 := hT4out
      rw [hwant] at h1
      have := HS.out
      show want.toArray.size ≤ _
      simp
      omega
    clear hwant hT4out
    go_loopw [1, 17, 18] (fun r g i wr => ∃ (k : Nat) (rs got : ByteArray), k ≤ cuts.length ∧ got.size ≤ 4 * k ∧ r = .string rs ∧ g = .string got ∧ i = .int .i64 k ∧ ChL Srv w a b MA s.size y0 s rs got wr) (fun _ _ i _ => cuts.length - (intOf i).toNat)
    case atStart => exact ⟨0, s, ⟨#[]⟩, by omega, Nat.le_refl 0, rfl, rfl, rfl, y0, M.fresh, piece_start _ s, Nat.le_refl _, by rw [Nat.sub_self]; exact hT4⟩
    case round =>
      obtain ⟨k, r, got, hk, hgs, rfl, rfl, rfl, y, x, hP, hr, hT⟩ := hrel
      have HP : Hid (Piece y0 s.data.toList r got y x) := hP
      have HT : Hid (Two Srv w a b MA (srv1 y x) s.size (s.size - r.size) wr) := hT
      have hbw := hT.below
      have hgo : x.out.length ≤ 200 * (s.size - r.size) + 20 := hT.symm.outs I 0 x rfl
      clear hP hT hT4
      by_cases hgo2 : k < cuts.length ∧ r.size ≠ 0
      · obtain ⟨hkl, hr0⟩ := hgo2
        have klt : (k : Int) < cuts.length := by omega
        have kre : r.toList.isEmpty = false := by rw [isEmpty_iff]; simpa using hr0
        obtain ⟨q, hq⟩ : ∃ q, cuts[k]? = some q := ⟨_, List.getElem?_eq_getElem hkl⟩
        have hne : cuts ≠ [] := by intro h; rw [h] at hq; simp at hq
        obtain ⟨bb, o, rfl, hbb, hcell⟩ := HC.out.resolve_left hne
        obtain ⟨hqc, hq1, hq2⟩ := hcell k q hq
        have cq : wr.cell? ⟨bb, o + k, none⟩ = some (.int .i64 q) := (hbw.cell (p := ⟨bb, o + k, none⟩) hbb).trans hqc
        have hp9 := fun W => pick_c q 9 W hq1 hq2 (by decide) (by decide)
        have hp5 := fun W => pick_c q 5 W hq1 hq2 (by decide) (by decide)
        have h9 := pk_lt q 9 (by decide)
        have h5 := pk_lt q 5 (by decide)
        generalize pk q 9 = n9 at hp9 h9
        generalize pk q 5 = n5 at hp5 h5
        have hFd : ∀ nn, nn ≤ r.size → Calls Tryz.prog 20 #[.pointer (some b), .int .i64 (0 : Nat), .string (r.extract 0 nn)] wr fun e w' => e = .returned (.int .i64 0) ∧ ChL Srv w a b MA s.size y0 s (r.extract nn r.size) got w' := fun nn hnn =>
          (HT.out.symm.feed I HG.out 0 x (r.extract 0 nn) rfl (by rw [ByteArray.size_extract]; have := HS.out; unfold lim; omega)).mono fun e w' ⟨he, h⟩ => ⟨he, _, _, piece_feed HP.out nn, by rw [ByteArray.size_extract]; omega, by
            have e1 : s.size - r.size + (r.extract 0 nn).size = s.size - (r.extract nn r.size).size := by rw [ByteArray.size_extract, ByteArray.size_extract]; omega
            rw [e1] at h
            exact h.symm⟩
        have HP5 : Hid (∀ W, Calls Tryz.prog 16 #[.int .i64 q, .int .i64 (5 : Nat)] W fun e w' => e = .returned (.int .i64 n5) ∧ w' = W) := hp5
        have hpA := hp9
        clear hp5 hp9
        have HQ : Hid (w.cell? ⟨bb, o + k, none⟩ = some (.int .i64 q)) := hqc
        clear HP HT hcell hqc hq hne
        by_cases hgt : r.size < n9
        · have kgt : (r.size : Int) < n9 := by omega
          have hFd' := hFd r.size (Nat.le_refl _)
          rw [extract_all, extract_end] at hFd'
          clear hFd
          go_wp2_with (first
            | (go_at_call 16; refine (hpA _).mono ?_; rintro e w5 ⟨rfl, rfl⟩; clear hpA)
            | (go_at_call 20; refine hFd'.mono ?_; rintro e w6 ⟨rfl, y', x', hP', hr', hT'⟩; have hTk := hT'.symm.take I HG.out 0 x' n5 rfl (by omega); have HP' : Hid _ := hP'; have hpA := HP5.out; have cq6 := (hT'.below.cell (p := ⟨bb, o + k, none⟩) hbb).trans HQ.out; clear hT' hP')
            | (go_at_call 21; refine hTk.mono ?_; rintro e w7 ⟨rfl, hT7⟩; have hts := take_size x'.out n5))
          go_roundw
          case rel => exact ⟨k + 1, _, _, by omega, by rw [ByteArray.size_append]; have := take_size x'.out n5; omega, rfl, rfl, by go_num, y', _, piece_take HP'.out n5, hr', hT7.symm⟩
          case measure => simp [intOf] <;> omega
        · have kgt : ¬ (r.size : Int) < n9 := by omega
          have hFd' := hFd n9 (by omega)
          clear hFd
          go_wp2_with (first
            | (go_at_call 16; refine (hpA _).mono ?_; rintro e w5 ⟨rfl, rfl⟩; clear hpA)
            | (go_at_call 20; refine hFd'.mono ?_; rintro e w6 ⟨rfl, y', x', hP', hr', hT'⟩; have hTk := hT'.symm.take I HG.out 0 x' n5 rfl (by omega); have HP' : Hid _ := hP'; have hpA := HP5.out; have cq6 := (hT'.below.cell (p := ⟨bb, o + k, none⟩) hbb).trans HQ.out; clear hT' hP')
            | (go_at_call 21; refine hTk.mono ?_; rintro e w7 ⟨rfl, hT7⟩; have hts := take_size x'.out n5))
          go_roundw
          case rel => exact ⟨k + 1, _, _, by omega, by rw [ByteArray.size_append]; have := take_size x'.out n5; omega, rfl, rfl, by go_num, y', _, piece_take HP'.out n5, hr', hT7.symm⟩
          case measure => simp [intOf] <;> omega
      · have hFd := (HT.out.symm.feed I HG.out 0 x r rfl (by have := HS.out; unfold lim; omega))
        have HE : Hid (got ++ ⟨(M.feed y x r.data.toList).2.out.toArray⟩ = ⟨want.toArray⟩) := (piece_end HP.out).trans (by rw [HW.out])
        rw [srv1_fed] at hFd
        generalize M.feed y x r.data.toList = yx at hFd HE
        obtain ⟨y', x'⟩ := yx
        simp only at hFd HE
        have hfd : Calls Tryz.prog 20 #[.pointer (some b), .int .i64 (0 : Nat), .string r] wr fun e w' => e = .returned (.int .i64 0) ∧ Two Srv w b a (srv1 y' x') MA (s.size - r.size + r.size) s.size w' := hFd
        clear hFd HP HT
        have hbg := fun W => begins_c ⟨want.toArray⟩ ⟨#[]⟩ W
        have hbt : beginsB ⟨want.toArray⟩ ⟨#[]⟩ = true := begins_nil _
        rw [hbt] at hbg
        clear hbt
        have hle : got.size + (⟨x'.out.toArray⟩ : ByteArray).size = (⟨want.toArray⟩ : ByteArray).size := by rw [← HE.out, ByteArray.size_append]
        have hwl := HWL.out
        have keq : (got ++ ⟨x'.out.toArray⟩ : ByteArray).toList = want := by rw [HE.out, Lib.toList_data]
        rcases Classical.em (k < cuts.length) with hkl | hkl
        · have klt : (k : Int) < cuts.length := by omega
          have hr0 : r.size = 0 := by
            rcases Nat.eq_zero_or_pos r.size with h | h
            · exact h
            · exact absurd ⟨hkl, by omega⟩ hgo2
          have kre : r.toList.isEmpty = true := by rw [isEmpty_iff]; simpa using hr0
          clear hgo2
          go_wp2_with (first
            | (go_at_call 20; refine hfd.mono ?_; rintro e w6 ⟨rfl, hT6⟩; have hTk := hT6.told I HG.out 0 x' rfl (by have := HS.out; unfold lim; omega) (by decide); clear hT6 hfd)
            | (go_at_call 28; refine hTk.mono ?_; rintro e w7 ⟨rfl, hT7⟩; clear hTk)
            | (go_at_call 29; refine (hbg _).mono ?_; rintro e w8 ⟨rfl, rfl⟩))
          go_ret
          exact ⟨rfl, hT7.below⟩
        · have klt : ¬ (k : Int) < cuts.length := by omega
          clear hgo2
          go_wp2_with (first
            | (go_at_call 20; refine hfd.mono ?_; rintro e w6 ⟨rfl, hT6⟩; have hTk := hT6.told I HG.out 0 x' rfl (by have := HS.out; unfold lim; omega) (by decide); clear hT6 hfd)
            | (go_at_call 28; refine hTk.mono ?_; rintro e w7 ⟨rfl, hT7⟩; clear hTk)
            | (go_at_call 29; refine (hbg _).mono ?_; rintro e w8 ⟨rfl, rfl⟩))
          go_ret
          exact ⟨rfl, hT7.below⟩
  · have hhs : headI.size = 41 := rfl
    obtain ⟨S, hcat⟩ : ∃ S, headI ++ s = S := ⟨_, rfl⟩
    have HCT : Hid (headI ++ s = S) := hcat
    have HS : Hid (S.size ≤ 1048676) := by
      show _ ≤ _
      rw [← hcat, ByteArray.size_append]; omega
    go_enter Tryz.func8, Tryz.ntmps8
    go_wp2_with (first
      | (go_at_call 22; refine hO1.mono ?_; rintro e w1 ⟨a, rfl, hU1⟩; clear hO1; have hO2' := hO2 w1 (by obtain ⟨F, h⟩ := hU1; exact h.below); clear hO2)
      | (go_at_call 22; refine hO2'.mono ?_; rintro e w2 ⟨b, rfl, hU2⟩; have hT := two_of I hU1 hU2; clear hO2' hU1 hU2; have hF := hT.feed I HG.out 0 M.fresh S rfl (by have := HS.out; unfold lim; omega); clear hT)
      | (go_at_call 24; refine (head_c _).mono ?_; rintro e w9 ⟨rfl, rfl⟩)
      | (go_at_call 20; refine hF.mono ?_; rintro e w3 ⟨rfl, hT3⟩; clear hF; have hT4out := hT3.outs I 0 (M.feed y0 M.fresh S.data.toList).2 rfl; have hF := hT3.told I HG.out 0 (M.feed y0 M.fresh S.data.toList).2 rfl (by have := HS.out; unfold lim; omega) (by decide); clear hT3)
      | (go_at_call 28; refine hF.mono ?_; rintro e w4 ⟨rfl, hT4⟩; clear hF)
      | fail)
    rw [Nat.zero_add] at hT4
    generalize M.taken (M.fed (srv1 y0 M.fresh) 0 M.fresh S.data.toList) 0 (M.feed y0 M.fresh S.data.toList).2 ((1099511627776 : Nat) : Int) = MA at hT4
    generalize hwant : (M.feed y0 M.fresh S.data.toList).2.out = want
    have HW : Hid ((M.feed y0 M.fresh S.data.toList).2.out = want) := hwant
    have HWL : Hid ((⟨want.toArray⟩ : ByteArray).size ≤ 300000000) := by
      have h1 := hT4out
      rw [hwant] at h1
      have := HS.out
      show want.toArray.size ≤ _
      simp
      omega
    clear hwant hT4out
    go_loopw [1, 17, 18] (fun r g i wr => ∃ (k : Nat) (rs got : ByteArray), k ≤ cuts.length ∧ got.size ≤ 4 * k ∧ r = .string rs ∧ g = .string got ∧ i = .int .i64 k ∧ ChL Srv w a b MA S.size y0 S rs got wr) (fun _ _ i _ => cuts.length - (intOf i).toNat)
    case atStart => exact ⟨0, S, ⟨#[]⟩, by omega, Nat.le_refl 0, rfl, rfl, rfl, y0, M.fresh, piece_start _ S, Nat.le_refl _, by rw [Nat.sub_self]; exact hT4⟩
    case round =>
      obtain ⟨k, r, got, hk, hgs, rfl, rfl, rfl, y, x, hP, hr, hT⟩ := hrel
      have HP : Hid (Piece y0 S.data.toList r got y x) := hP
      have HT : Hid (Two Srv w a b MA (srv1 y x) S.size (S.size - r.size) wr) := hT
      have hbw := hT.below
      have hgo : x.out.length ≤ 200 * (S.size - r.size) + 20 := hT.symm.outs I 0 x rfl
      clear hP hT hT4
      by_cases hgo2 : k < cuts.length ∧ r.size ≠ 0
      · obtain ⟨hkl, hr0⟩ := hgo2
        have klt : (k : Int) < cuts.length := by omega
        have kre : r.toList.isEmpty = false := by rw [isEmpty_iff]; simpa using hr0
        obtain ⟨q, hq⟩ : ∃ q, cuts[k]? = some q := ⟨_, List.getElem?_eq_getElem hkl⟩
        have hne : cuts ≠ [] := by intro h; rw [h] at hq; simp at hq
        obtain ⟨bb, o, rfl, hbb, hcell⟩ := HC.out.resolve_left hne
        obtain ⟨hqc, hq1, hq2⟩ := hcell k q hq
        have cq : wr.cell? ⟨bb, o + k, none⟩ = some (.int .i64 q) := (hbw.cell (p := ⟨bb, o + k, none⟩) hbb).trans hqc
        have hp9 := fun W => pick_c q 9 W hq1 hq2 (by decide) (by decide)
        have hp5 := fun W => pick_c q 5 W hq1 hq2 (by decide) (by decide)
        have h9 := pk_lt q 9 (by decide)
        have h5 := pk_lt q 5 (by decide)
        generalize pk q 9 = n9 at hp9 h9
        generalize pk q 5 = n5 at hp5 h5
        have hFd : ∀ nn, nn ≤ r.size → Calls Tryz.prog 20 #[.pointer (some b), .int .i64 (0 : Nat), .string (r.extract 0 nn)] wr fun e w' => e = .returned (.int .i64 0) ∧ ChL Srv w a b MA S.size y0 S (r.extract nn r.size) got w' := fun nn hnn =>
          (HT.out.symm.feed I HG.out 0 x (r.extract 0 nn) rfl (by rw [ByteArray.size_extract]; have := HS.out; unfold lim; omega)).mono fun e w' ⟨he, h⟩ => ⟨he, _, _, piece_feed HP.out nn, by rw [ByteArray.size_extract]; omega, by
            have e1 : S.size - r.size + (r.extract 0 nn).size = S.size - (r.extract nn r.size).size := by rw [ByteArray.size_extract, ByteArray.size_extract]; omega
            rw [e1] at h
            exact h.symm⟩
        have HP5 : Hid (∀ W, Calls Tryz.prog 16 #[.int .i64 q, .int .i64 (5 : Nat)] W fun e w' => e = .returned (.int .i64 n5) ∧ w' = W) := hp5
        have hpA := hp9
        clear hp5 hp9
        have HQ : Hid (w.cell? ⟨bb, o + k, none⟩ = some (.int .i64 q)) := hqc
        clear HP HT hcell hqc hq hne
        by_cases hgt : r.size < n9
        · have kgt : (r.size : Int) < n9 := by omega
          have hFd' := hFd r.size (Nat.le_refl _)
          rw [extract_all, extract_end] at hFd'
          clear hFd
          go_wp2_with (first
            | (go_at_call 16; refine (hpA _).mono ?_; rintro e w5 ⟨rfl, rfl⟩; clear hpA)
            | (go_at_call 20; refine hFd'.mono ?_; rintro e w6 ⟨rfl, y', x', hP', hr', hT'⟩; have hTk := hT'.symm.take I HG.out 0 x' n5 rfl (by omega); have HP' : Hid _ := hP'; have hpA := HP5.out; have cq6 := (hT'.below.cell (p := ⟨bb, o + k, none⟩) hbb).trans HQ.out; clear hT' hP')
            | (go_at_call 21; refine hTk.mono ?_; rintro e w7 ⟨rfl, hT7⟩; have hts := take_size x'.out n5))
          go_roundw
          case rel => exact ⟨k + 1, _, _, by omega, by rw [ByteArray.size_append]; have := take_size x'.out n5; omega, rfl, rfl, by go_num, y', _, piece_take HP'.out n5, hr', hT7.symm⟩
          case measure => simp [intOf] <;> omega
        · have kgt : ¬ (r.size : Int) < n9 := by omega
          have hFd' := hFd n9 (by omega)
          clear hFd
          go_wp2_with (first
            | (go_at_call 16; refine (hpA _).mono ?_; rintro e w5 ⟨rfl, rfl⟩; clear hpA)
            | (go_at_call 20; refine hFd'.mono ?_; rintro e w6 ⟨rfl, y', x', hP', hr', hT'⟩; have hTk := hT'.symm.take I HG.out 0 x' n5 rfl (by omega); have HP' : Hid _ := hP'; have hpA := HP5.out; have cq6 := (hT'.below.cell (p := ⟨bb, o + k, none⟩) hbb).trans HQ.out; clear hT' hP')
            | (go_at_call 21; refine hTk.mono ?_; rintro e w7 ⟨rfl, hT7⟩; have hts := take_size x'.out n5))
          go_roundw
          case rel => exact ⟨k + 1, _, _, by omega, by rw [ByteArray.size_append]; have := take_size x'.out n5; omega, rfl, rfl, by go_num, y', _, piece_take HP'.out n5, hr', hT7.symm⟩
          case measure => simp [intOf] <;> omega
      · have hFd := (HT.out.symm.feed I HG.out 0 x r rfl (by have := HS.out; unfold lim; omega))
        have HE : Hid (got ++ ⟨(M.feed y x r.data.toList).2.out.toArray⟩ = ⟨want.toArray⟩) := (piece_end HP.out).trans (by rw [HW.out])
        rw [srv1_fed] at hFd
        generalize M.feed y x r.data.toList = yx at hFd HE
        obtain ⟨y', x'⟩ := yx
        simp only at hFd HE
        have hfd : Calls Tryz.prog 20 #[.pointer (some b), .int .i64 (0 : Nat), .string r] wr fun e w' => e = .returned (.int .i64 0) ∧ Two Srv w b a (srv1 y' x') MA (S.size - r.size + r.size) S.size w' := hFd
        clear hFd HP HT
        have hbg := fun W => begins_c ⟨want.toArray⟩ headO W
        have hbt : beginsB ⟨want.toArray⟩ headO = true := by rw [← HW.out, ← HCT.out]; exact begins_head HHD.out s
        rw [hbt] at hbg
        clear hbt
        have hle : got.size + (⟨x'.out.toArray⟩ : ByteArray).size = (⟨want.toArray⟩ : ByteArray).size := by rw [← HE.out, ByteArray.size_append]
        have hwl := HWL.out
        have keq : (got ++ ⟨x'.out.toArray⟩ : ByteArray).toList = want := by rw [HE.out, Lib.toList_data]
        rcases Classical.em (k < cuts.length) with hkl | hkl
        · have klt : (k : Int) < cuts.length := by omega
          have hr0 : r.size = 0 := by
            rcases Nat.eq_zero_or_pos r.size with h | h
            · exact h
            · exact absurd ⟨hkl, by omega⟩ hgo2
          have kre : r.toList.isEmpty = true := by rw [isEmpty_iff]; simpa using hr0
          clear hgo2
          go_wp2_with (first
            | (go_at_call 20; refine hfd.mono ?_; rintro e w6 ⟨rfl, hT6⟩; have hTk := hT6.told I HG.out 0 x' rfl (by have := HS.out; unfold lim; omega) (by decide); clear hT6 hfd)
            | (go_at_call 28; refine hTk.mono ?_; rintro e w7 ⟨rfl, hT7⟩; clear hTk)
            | (go_at_call 29; refine (hbg _).mono ?_; rintro e w8 ⟨rfl, rfl⟩))
          go_ret
          exact ⟨rfl, hT7.below⟩
        · have klt : ¬ (k : Int) < cuts.length := by omega
          clear hgo2
          go_wp2_with (first
            | (go_at_call 20; refine hfd.mono ?_; rintro e w6 ⟨rfl, hT6⟩; have hTk := hT6.told I HG.out 0 x' rfl (by have := HS.out; unfold lim; omega) (by decide); clear hT6 hfd)
            | (go_at_call 28; refine hTk.mono ?_; rintro e w7 ⟨rfl, hT7⟩; clear hTk)
            | (go_at_call 29; refine (hbg _).mono ?_; rintro e w8 ⟨rfl, rfl⟩))
          go_ret
          exact ⟨rfl, hT7.below⟩
end
end Go.Proofs.YtdpnpcjbjjjceaaGreatDoor.K
