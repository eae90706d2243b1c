import Derived.Test.YtdpnpcjbjjjceaaGreatDoorBK11
import Derived.Test.YtdpnpcjbjjjceaaGreatDoorBLru
set_option linter.unusedSimpArgs false
set_option linter.unusedVariables false
namespace Go.Proofs.YtdpnpcjbjjjceaaGreatDoor.K
open Go.RowKit Go.Proofs.YtdpnpcjbjjjceaaGreatDoor

section
variable {Srv : World → Addr → (Nat → Prop) → M.Server → Nat → Prop} {Glob : World → Prop}
def Kept (v : Value) (w w' : World) : Prop := w.heap.size ≤ w'.heap.size ∧ ∀ k, v.ownBlock = some k → w'.heap[k]? = w.heap[k]?
theorem bytes_kept {base : Nat} {w w' : World} {v : Value} {l : List UInt8} (h : BytesAt base w v l) (hk : Kept v w w') : BytesAt base w' v l := by
  obtain ⟨ra, cap, rfl, h1, h2⟩ := h
  refine ⟨ra, cap, rfl, h1, h2.imp id ?_⟩
  rintro ⟨b, rfl, h3, h4, h5⟩
  exact ⟨b, rfl, h3, Nat.lt_of_lt_of_le h4 hk.1, fun j q hq => (World.cell?_of_block (w := w) (a := ⟨b, j, none⟩) (hk.2 b rfl)).trans (h5 j q hq)⟩
/-- a server, and a slice of the law's own beside it -/
def UpA (Srv : World → Addr → (Nat → Prop) → M.Server → Nat → Prop) (w0 : World) (a : Addr) (m : M.Server) (n : Nat) (v : Value) (w : World) : Prop :=
  ∃ F, Up Srv w0 a m n F w ∧ ∀ k, v.ownBlock = some k → k < w.heap.size ∧ ¬ F k
theorem UpA.below {w0 w : World} {a : Addr} {m : M.Server} {n : Nat} {v : Value} (h : UpA Srv w0 a m n v w) : Below w0.heap.size w0 w := by
  obtain ⟨F, h, _⟩ := h
  exact h.below
theorem UpA.step {w0 w w' : World} {a : Addr} {m m' : M.Server} {n n' : Nat} {v : Value} {F F' : Nat → Prop} (h : Up Srv w0 a m n F w) (hk : ∀ k, v.ownBlock = some k → k < w.heap.size ∧ ¬ F k) (hs : Srv w' a F' m' n') (ht : Touch F w F' w') : UpA Srv w0 a m' n' v w' ∧ Kept v w w' := by
  refine ⟨⟨F', ⟨hs, ht.below h.foot h.below h.below.size, ht.from h.foot h.below.size⟩, ?_⟩, ht.size, fun k hv => ht.block k (hk k hv).1 (hk k hv).2⟩
  intro k hv
  obtain ⟨h1, h2⟩ := hk k hv
  refine ⟨Nat.lt_of_lt_of_le h1 ht.size, fun hf => ?_⟩
  rcases ht.foot k hf with h3 | h3
  · exact h2 h3
  · omega
theorem UpA.feed (I : Iface Srv Glob) {w0 w : World} {a : Addr} {m : M.Server} {n : Nat} {v : Value} (h : UpA Srv w0 a m n v w) (hg : Glob w0) (c : Nat) (x : M.Conn) (s : ByteArray) (hx : m.conns[c]? = some (some x)) (hn : n + s.size ≤ lim) :
    Calls Tryz.prog 20 #[.pointer (some a), .int .i64 c, .string s] w fun e w' => e = .returned (.int .i64 0) ∧ UpA Srv w0 a (M.fed m c x s.data.toList) (n + s.size) v w' ∧ Kept v w w' := by
  obtain ⟨F, h, hk⟩ := h
  exact (I.feed c x s h.srv (I.glob hg h.below) hx hn).mono fun e w' ⟨he, F', hs, ht⟩ => ⟨he, UpA.step h hk hs ht⟩
theorem UpA.told (I : Iface Srv Glob) {w0 w : World} {a : Addr} {m : M.Server} {n : Nat} {v : Value} (h : UpA Srv w0 a m n v w) (hg : Glob w0) (c : Nat) (x : M.Conn) (hx : m.conns[c]? = some (some x)) (hb : n ≤ lim) (hc : c ≤ 8) :
    Calls Tryz.prog 28 #[.pointer (some a), .int .i64 c] w fun e w' => e = .returned (.tuple #[.string ⟨x.out.toArray⟩, .bool true]) ∧ UpA Srv w0 a (M.taken m c x (1099511627776 : Nat)) n v w' ∧ Kept v w w' := by
  obtain ⟨F, h, hk⟩ := h
  exact (told_c I c x h.srv (I.glob hg h.below) hx hb hc).mono fun e w' ⟨he, F', hs, ht⟩ => ⟨he, UpA.step h hk hs ht⟩
theorem UpA.outs (I : Iface Srv Glob) {w0 w : World} {a : Addr} {m : M.Server} {n : Nat} {v : Value} (h : UpA Srv w0 a m n v w) (c : Nat) (x : M.Conn) (hx : m.conns[c]? = some (some x)) : x.out.length ≤ 200 * n + 20 := by
  obtain ⟨F, h, _⟩ := h
  exact I.outs h.srv c x hx
/-- what the law makes for itself does not touch it; the slice is another then -/
theorem UpA.later (I : Iface Srv Glob) {w0 w w' : World} {a : Addr} {m : M.Server} {n : Nat} {v v' : Value} (h : UpA Srv w0 a m n v w) (hb : Below w.heap.size w w') (hv : ∀ k, v'.ownBlock = some k → k < w'.heap.size ∧ (w.heap.size ≤ k ∨ v.ownBlock = some k)) : UpA Srv w0 a m n v' w' := by
  obtain ⟨F, h, hk⟩ := h
  refine ⟨F, ⟨I.frame h.srv hb.size (fun k hf => hb.block k (I.inn h.srv k hf)), h.below.trans (hb.mono h.below.size), h.foot⟩, fun k hk' => ⟨(hv k hk').1, fun hf => ?_⟩⟩
  rcases (hv k hk').2 with h1 | h1
  · have := I.inn h.srv k hf; omega
  · exact (hk k h1).2 hf
theorem bytes_block {base : Nat} {w : World} {v : Value} {l : List UInt8} (h : BytesAt base w v l) : ∀ k, v.ownBlock = some k → k < w.heap.size ∧ base ≤ k := by
  obtain ⟨ra, cap, rfl, _, h2⟩ := h
  intro k hk
  rcases h2 with ⟨_, rfl⟩ | ⟨b, rfl, h3, h4, _⟩
  · cases hk
  · cases hk; exact ⟨h4, h3⟩

def recNames : List (M.Bytes × M.Bytes) := [([120], [121])]
/-- the server of Recent, its one connection with these answers -/
def midR (S : M.Store) (o : M.Bytes) : M.Server := ⟨⟨recNames, [S], 0⟩, [some ⟨.line, some 0, [], o⟩]⟩
theorem rec_feed (I : Iface Srv Glob) {w0 w : World} {a : Addr} {S S' : M.Store} {n : Nat} {v : Value} {o : M.Bytes} (h : UpA Srv w0 a (midR S []) n v w) (hg : Glob w0) (s : ByteArray) (hn : n + s.size ≤ lim)
    (hf : M.feed ⟨recNames, [S], 0⟩ M.idle s.data.toList = (⟨recNames, [S'], 0⟩, ⟨.line, some 0, [], o⟩)) :
    Calls Tryz.prog 20 #[.pointer (some a), .int .i64 (0 : Nat), .string s] w fun e w' => e = .returned (.int .i64 0) ∧ UpA Srv w0 a (midR S' o) (n + s.size) v w' ∧ Kept v w w' := by
  have hF := h.feed I hg 0 M.idle s rfl hn
  have e : M.fed (midR S []) 0 M.idle s.data.toList = midR S' o := by
    show M.Server.mk (M.feed ⟨recNames, [S], 0⟩ M.idle s.data.toList).1 [some (M.feed ⟨recNames, [S], 0⟩ M.idle s.data.toList).2] = _
    rw [hf]; rfl
  rw [e] at hF
  exact hF
theorem rec_told (I : Iface Srv Glob) {w0 w : World} {a : Addr} {S : M.Store} {n : Nat} {v : Value} {o : M.Bytes} (h : UpA Srv w0 a (midR S o) n v w) (hg : Glob w0) (hn : n ≤ lim) :
    Calls Tryz.prog 28 #[.pointer (some a), .int .i64 (0 : Nat)] w fun e w' => e = .returned (.tuple #[.string ⟨o.toArray⟩, .bool true]) ∧ UpA Srv w0 a (midR S []) n v w' ∧ Kept v w w' := by
  have hT := h.told I hg 0 ⟨.line, some 0, [], o⟩ rfl hn (by decide)
  have hl := h.outs I 0 ⟨.line, some 0, [], o⟩ rfl
  have e : M.taken (midR S o) 0 ⟨.line, some 0, [], o⟩ ((1099511627776 : Nat) : Int) = midR S [] := by
    have e1 : o.drop 1099511627776 = [] := List.drop_eq_nil_of_le (by unfold lim at hn; simp at hl; omega)
    show M.Server.mk ⟨recNames, [S], 0⟩ [some ⟨.line, some 0, [], o.drop 1099511627776⟩] = _
    rw [e1]; rfl
  rw [e] at hT
  exact hT
end
end Go.Proofs.YtdpnpcjbjjjceaaGreatDoor.K
namespace Go.Proofs.YtdpnpcjbjjjceaaGreatDoor.K
open Go.RowKit Go.Proofs.YtdpnpcjbjjjceaaGreatDoor

theorem atB_iff (l : List UInt8) (k : UInt8) : (k ∈ l → 0 ≤ atB l k) ∧ (k ∉ l → atB l k = -1) := by
  constructor
  · intro h
    unfold atB
    cases hf : l.findIdx? (fun b => decide (b = k)) with
    | some i => simp
    | none =>
      rw [List.findIdx?_eq_none_iff] at hf
      have := hf k h
      simp at this
  · intro h
    exact atB_none (fun j q hq e => h (by rw [← e]; exact List.mem_of_getElem? hq))
theorem mem_moved {R : List UInt8} {k : UInt8} {n : Nat} (hk : k ∈ R) (hl : R.length ≤ n) (b : UInt8) : b ∈ M.movedL R k n ↔ b ∈ R := by
  have h1 : (R.filter (fun b => decide (b ≠ k))).length < R.length := by
    rw [List.length_filter_lt_length_iff_exists]
    exact ⟨k, hk, by simp⟩
  unfold M.movedL
  rw [List.take_of_length_le (by show (R.filter _).length + 1 ≤ n; omega)]
  by_cases hb : b = k
  · subst hb; simp [hk]
  · simp [hb]
def getS (j : Nat) : ByteArray := ⟨#[103, 101, 116, 32]⟩ ++ oneB (97 + j) ++ ⟨#[10]⟩
theorem getS_list (j : Nat) : (getS j).data.toList = [103, 101, 116, 32] ++ [M.kj j] ++ [10] := by
  unfold getS
  rw [ByteArray.data_append, Array.toList_append, ByteArray.data_append, Array.toList_append]
  rfl
theorem kj_nat (j : Nat) (h : j < 8) : ((M.kj j).toNat : Int) = 97 + (j : Int) := by
  unfold M.kj
  rw [UInt8.toNat_ofNat_of_lt' (show 97 + j < 256 by omega)]
  omega

section
variable {Srv : World → Addr → (Nat → Prop) → M.Server → Nat → Prop} {Glob : World → Prop}
/-- what get answers, and how the store stands then -/
theorem ask_get {S : M.Store} {n r : Nat} {R : List UInt8} (h : M.Lru S n r R) (j : Nat) (hj : j < 8) : ∃ S' o R', M.feed ⟨recNames, [S], 0⟩ M.idle (getS j).data.toList = (⟨recNames, [S'], 0⟩, ⟨.line, some 0, [], o⟩) ∧ M.Lru S' n r R' ∧ (∀ b, b ∈ R' ↔ b ∈ R) ∧
    (R' = if M.kj j ∈ R then M.movedL R (M.kj j) n else R) ∧ (o == [69, 78, 68, 10]) = !decide (M.kj j ∈ R) := by
  rw [getS_list, M.rec_get recNames S j hj]
  by_cases hk : M.kj j ∈ R
  · obtain ⟨h1, h2⟩ := h.get_some (M.kj j) hk
    refine ⟨_, _, M.movedL R (M.kj j) n, rfl, h2, fun b => mem_moved hk h.len b, by rw [if_pos hk], ?_⟩
    rw [decide_eq_true hk, Bool.not_true, beq_eq_false_iff_ne]
    intro e
    have := congrArg List.length e
    simp at this
    omega
  · obtain ⟨h1, h2⟩ := h.get_none (M.kj j) hk
    refine ⟨_, _, R, rfl, h2, fun b => Iff.rfl, by rw [if_neg hk], ?_⟩
    rw [decide_eq_false hk, h1]
    rfl

set_option maxRecDepth 20000 in
set_option maxHeartbeats 1000000 in
theorem there_c (I : Iface Srv Glob) {w0 w : World} {a : Addr} {S : M.Store} {m n r : Nat} {v : Value} {R : List UInt8} (hg : Glob w0) (h : UpA Srv w0 a (midR S []) m v w) (hL : M.Lru S n r R) (hv : BytesAt w0.heap.size w v R) (hR : R.length ≤ 100) (hm : m ≤ 1000000) :
    Calls Tryz.prog 35 #[.pointer (some a), .int .i64 0, v] w fun e w' => e = .returned (.bool true) ∧ Below w0.heap.size w0 w' := by
  have HG : Hid (Glob w0) := hg
  have hat : ∀ (W : World) (k : UInt8), BytesAt w0.heap.size W v R → Calls Tryz.prog 33 #[v, .int .u8 (k.toNat : Int)] W fun e w' => e = .returned (.int .i64 (atB R k)) ∧ w' = W := fun W k hW => at_c w0.heap.size W v R k hW hR
  clear hg
  go_enter Tryz.func35, Tryz.ntmps35
  go_wp2_with fail
  go_loopw [7] (fun i wr => ∃ (j : Nat) (S' : M.Store) (R' : List UInt8), j ≤ 8 ∧ i = .int .u8 (97 + (j : Int)) ∧ UpA Srv w0 a (midR S' []) (m + 6 * j) v wr ∧ M.Lru S' n r R' ∧ (∀ b, b ∈ R' ↔ b ∈ R) ∧ BytesAt w0.heap.size wr v R) (fun i _ => 105 - (intOf i).toNat)
  case atStart => exact ⟨0, S, R, by omega, rfl, h, hL, fun _ => Iff.rfl, hv⟩
  case round =>
    obtain ⟨j, S1, R1, hj, rfl, hU, hL1, hiff, hB⟩ := hrel
    by_cases hlt : j < 8
    · have klt : (97 : Int) + j ≤ 104 := by omega
      obtain ⟨S2, o, R2, hfe, hL2, hiff2, _, hend⟩ := ask_get hL1 j hlt
      have hq : (convert 63 9 (.slice (some ⟨wr.heap.size, 0, none⟩) 1 1)).run Tryz.prog (wr.alloc (.cells #[.int .u8 (97 + (j : Int))] 5)) = .ok (.string (oneB (97 + j))) (wr.alloc (.cells #[.int .u8 (97 + (j : Int))] 5)) := one_byte wr (97 + j) (by omega)
      have hbA : Below wr.heap.size wr (wr.alloc (.cells #[.int .u8 (97 + (j : Int))] 5)) := (Below.refl _ _).alloc (Nat.le_refl _) _
      have hKA : Kept v wr (wr.alloc (.cells #[.int .u8 (97 + (j : Int))] 5)) := ⟨hbA.size, fun k hk => hbA.block k (bytes_block hB k hk).1⟩
      have hU1 := hU.later I (v' := v) hbA (fun k hk => ⟨Nat.lt_of_lt_of_le (bytes_block hB k hk).1 hbA.size, Or.inr hk⟩)
      have hB1 := bytes_kept hB hKA
      have hFd := rec_feed I hU1 HG.out (getS j) (by show m + 6 * j + 6 ≤ lim; unfold lim; omega) hfe
      have hFd' : Calls Tryz.prog 20 #[.pointer (some a), .int .i64 (0 : Nat), .string (⟨#[103, 101, 116, 32]⟩ ++ oneB (97 + j) ++ ⟨#[10]⟩)] (wr.alloc (.cells #[.int .u8 (97 + (j : Int))] 5)) fun e w' => e = .returned (.int .i64 0) ∧ UpA Srv w0 a (midR S2 o) (m + 6 * (j + 1)) v w' ∧ BytesAt w0.heap.size w' v R :=
        hFd.mono fun e w' ⟨he, h1, h2⟩ => ⟨he, h1, bytes_kept hB1 h2⟩
      have hob : (oneB (97 + j)).size = 1 := rfl
      have hkn := kj_nat j hlt
      have hmem := hiff (M.kj j)
      have hat1 := fun (W : World) hW => hat W (M.kj j) hW
      rw [hkn] at hat1
      have HX : Hid (M.Lru S2 n r R2 ∧ ∀ b, b ∈ R2 ↔ b ∈ R) := ⟨hL2, fun b => (hiff2 b).trans (hiff b)⟩
      clear hFd hU1 hbA hKA hfe hU hL1 hL2 hiff2 hB1 hat hkn
      by_cases hk : M.kj j ∈ R
      · have hneg : decide (atB R (M.kj j) < 0) = false := decide_eq_false (by have := (atB_iff R (M.kj j)).1 hk; omega)
        rw [decide_eq_true (hmem.2 hk), Bool.not_true] at hend
        generalize atB R (M.kj j) = at1 at hat1 hneg
        clear hmem hiff
        go_wp2_with (first
          | (go_at_call 20; refine hFd'.mono ?_; rintro e w3 ⟨rfl, hU3, hB3⟩; have hTd := rec_told I hU3 HG.out (by unfold lim; omega); clear hFd' hU3)
          | (go_at_call 28; refine hTd.mono ?_; rintro e w4 ⟨rfl, hU4, hK4⟩; have hB4 := bytes_kept hB3 hK4; have hat2 := hat1 w4 hB4; clear hTd hat1)
          | (go_at_call 33; refine hat2.mono ?_; rintro e w5 ⟨rfl, rfl⟩; clear hat2))
        go_roundw
        case rel => exact ⟨j + 1, S2, R2, by omega, by go_num, hU4, HX.out.1, HX.out.2, hB4⟩
        case measure => simp [intOf] <;> omega
      · have hneg : decide (atB R (M.kj j) < 0) = true := by rw [(atB_iff R (M.kj j)).2 hk]; decide
        rw [decide_eq_false (fun h => hk (hmem.1 h)), Bool.not_false] at hend
        generalize atB R (M.kj j) = at1 at hat1 hneg
        clear hmem hiff
        go_wp2_with (first
          | (go_at_call 20; refine hFd'.mono ?_; rintro e w3 ⟨rfl, hU3, hB3⟩; have hTd := rec_told I hU3 HG.out (by unfold lim; omega); clear hFd' hU3)
          | (go_at_call 28; refine hTd.mono ?_; rintro e w4 ⟨rfl, hU4, hK4⟩; have hB4 := bytes_kept hB3 hK4; have hat2 := hat1 w4 hB4; clear hTd hat1)
          | (go_at_call 33; refine hat2.mono ?_; rintro e w5 ⟨rfl, rfl⟩; clear hat2))
        go_roundw
        case rel => exact ⟨j + 1, S2, R2, by omega, by go_num, hU4, HX.out.1, HX.out.2, hB4⟩
        case measure => simp [intOf] <;> omega
    · obtain rfl : j = 8 := by omega
      have hbw := hU.below
      go_wp2
      go_ret
      exact ⟨rfl, hbw⟩
end
end Go.Proofs.YtdpnpcjbjjjceaaGreatDoor.K
namespace Go.Proofs.YtdpnpcjbjjjceaaGreatDoor.K
open Go.RowKit Go.Proofs.YtdpnpcjbjjjceaaGreatDoor

def recT (q : Nat) : List Ten := [⟨⟨#[120]⟩, ⟨#[121]⟩, q⟩]
theorem recT_ok (q : Nat) (h1 : 1 ≤ q) (h2 : q ≤ 2000) : tensOk (recT q) := by
  refine ⟨by simp [recT], by simp [recT], ?_, by simp [recT]⟩
  intro t ht
  simp only [recT, List.mem_cons, List.mem_nil_iff, or_false] at ht
  subst ht
  have e1 : decide (1 ≤ q) = true := decide_eq_true h1
  have e2 : decide (q ≤ 2000) = true := decide_eq_true h2
  simp only [tenOk, e1, e2]
  rfl
def setS (j : Nat) : ByteArray := ⟨#[115, 101, 116, 32]⟩ ++ oneB (97 + j) ++ ⟨#[32, 48, 32, 48, 32, 51, 10, 97, 98, 99, 10]⟩
theorem setS_list (j : Nat) : (setS j).data.toList = [115, 101, 116, 32] ++ [M.kj j] ++ [32, 48, 32, 48, 32, 51, 10, 97, 98, 99, 10] := by
  unfold setS
  rw [ByteArray.data_append, Array.toList_append, ByteArray.data_append, Array.toList_append]
  rfl
theorem lru_start (n r : Nat) (hn : 1 ≤ n) (hr : r < 20) : M.Lru (M.emptyStore (20 * n + r)) n r [] :=
  ⟨rfl, hr, hn, rfl, (fun _ h => by cases h), List.nodup_nil, Nat.zero_le _⟩
theorem bytes_mono {b b' : Nat} {w : World} {v : Value} {l : List UInt8} (h : BytesAt b w v l) (hb : b' ≤ b) : BytesAt b' w v l := by
  obtain ⟨ra, cap, h1, h2, h3⟩ := h
  refine ⟨ra, cap, h1, h2, h3.imp id ?_⟩
  rintro ⟨g, h4, h5, h6⟩
  exact ⟨g, h4, Nat.le_trans hb h5, h6⟩
theorem ask_set {S : M.Store} {n r : Nat} {R : List UInt8} (h : M.Lru S n r R) (j : Nat) (hj : j < 8) : ∃ S', M.feed ⟨recNames, [S], 0⟩ M.idle (setS j).data.toList = (⟨recNames, [S'], 0⟩, ⟨.line, some 0, [], [83, 84, 79, 82, 69, 68, 10]⟩) ∧ M.Lru S' n r (M.movedL R (M.kj j) n) := by
  obtain ⟨h1, h2⟩ := h.set (M.kj j)
  refine ⟨_, ?_, h2⟩
  rw [setS_list, M.rec_set recNames S j hj, h1]
  rfl

section
variable {Srv : World → Addr → (Nat → Prop) → M.Server → Nat → Prop} {Glob : World → Prop}
/-- the loop of Recent -/
def RecL (Srv : World → Addr → (Nat → Prop) → M.Server → Nat → Prop) (w : World) (a : Addr) (n r j : Nat) (v : Value) (wr : World) : Prop :=
  ∃ (S : M.Store) (R : List UInt8) (b : Nat), b ≤ 9 + 20 * j ∧ M.Lru S n r R ∧ UpA Srv w a (midR S []) b v wr ∧ BytesAt w.heap.size wr v R
/-- what was moved stands beside the server -/
theorem rec_moved (I : Iface Srv Glob) {w w5 w6 : World} {a : Addr} {S : M.Store} {b n r j : Nat} {v v' : Value} {R : List UInt8} (hL : M.Lru S n r R) (hU : UpA Srv w a (midR S []) b v w5) (hB : BytesAt w5.heap.size w6 v' R) (hb : Below w5.heap.size w5 w6) (hj : b ≤ 9 + 20 * j) : RecL Srv w a n r j v' w6 :=
  ⟨S, R, b, hj, hL, hU.later I hb (fun k hk => ⟨(bytes_block hB k hk).1, Or.inl (bytes_block hB k hk).2⟩), bytes_mono hB hU.below.size⟩

theorem rec_auth_c (I : Iface Srv Glob) {w0 w : World} {a : Addr} {q n : Nat} (h : UpE Srv w0 a (M.dialled ⟨⟨recNames, [M.emptyStore q], 0⟩, [none]⟩ 0) n w) (hg : Glob w0) (hn : n = 0) :
    Calls Tryz.prog 20 #[.pointer (some a), .int .i64 (0 : Nat), .string ⟨#[97, 117, 116, 104, 32, 120, 32, 121, 10]⟩] w fun e w' => e = .returned (.int .i64 0) ∧ UpA Srv w0 a (midR (M.emptyStore q) [79, 75, 10]) 9 (.slice none 0 0) w' := by
  subst hn
  have hF := h.feed I hg 0 M.fresh ⟨#[97, 117, 116, 104, 32, 120, 32, 121, 10]⟩ rfl (by decide)
  have e : M.fed (M.dialled ⟨⟨recNames, [M.emptyStore q], 0⟩, [none]⟩ 0) 0 M.fresh (⟨#[97, 117, 116, 104, 32, 120, 32, 121, 10]⟩ : ByteArray).data.toList = midR (M.emptyStore q) [79, 75, 10] := by
    show M.Server.mk (M.feed ⟨recNames, [M.emptyStore q], 0⟩ M.fresh [97, 117, 116, 104, 32, 120, 32, 121, 10]).1 [some (M.feed ⟨recNames, [M.emptyStore q], 0⟩ M.fresh [97, 117, 116, 104, 32, 120, 32, 121, 10]).2] = _
    have := M.rec_auth q
    unfold recNames
    rw [this]; rfl
  rw [e] at hF
  exact hF.mono fun e w' ⟨he, F, hU⟩ => ⟨he, F, hU, fun k hk => by cases hk⟩
set_option maxRecDepth 20000 in
set_option maxHeartbeats 1000000 in
theorem recent_c (I : Iface Srv Glob) (room : Int) (rv : Value) (raw : List Int) (w : World) (hlo : -9223372036854775808 ≤ room) (hhi : room ≤ 9223372036854775807) (hra : IntsAt w rv raw) (hrl : raw.length ≤ 17592186044416) (hg : Glob w) :
    Calls Tryz.prog 11 #[.int .i64 room, rv] w fun e w' => e = .returned (.bool true) ∧ Below w.heap.size w w' := by
  have hp7 := fun W => pick_c room 7 W hlo hhi (by decide) (by decide)
  have hp20 := fun W => pick_c room 20 W hlo hhi (by decide) (by decide)
  have h7 := pk_lt room 7 (by decide)
  have h20 := pk_lt room 20 (by decide)
  generalize pk room 7 = p7 at hp7 h7
  generalize pk room 20 = r at hp20 h20
  obtain ⟨n, hn⟩ : ∃ n, n = 1 + p7 := ⟨_, rfl⟩
  have in1 : (1 : Int) + (p7 : Int) = (n : Int) := by omega
  obtain ⟨q, hqd⟩ : ∃ q, q = 20 * n + r := ⟨_, rfl⟩
  have iq : (20 : Int) * (n : Int) + (r : Int) = (q : Int) := by omega
  have hn1 : 1 ≤ n := by omega
  have hn7 : n ≤ 7 := by omega
  have hq1 : q ≤ 200 := by omega
  have hLs := lru_start n r hn1 h20
  rw [← hqd] at hLs
  have HLs : Hid (M.Lru (M.emptyStore q) n r []) := hLs
  have hO : Calls Tryz.prog 18 #[.slice (some ⟨w.heap.size, 0, none⟩) 1 1, .int .i64 1] (w.alloc (.cells #[.string ⟨#[120]⟩, .string ⟨#[121]⟩, .int .i64 (q : Int)] 32)) fun e w' => ∃ a, e = .returned (.tuple #[.pointer (some a), .int .i64 0]) ∧ UpE Srv w a ⟨⟨recNames, [M.emptyStore q], 0⟩, [none]⟩ 0 w' :=
    make_c I w (recT q) 1 hg (recT_ok q (by omega) (by omega)) (by decide) (by decide)
  obtain ⟨ra, rcap, rfl, hra⟩ := hra
  have HR : Hid (raw = [] ∨ ∃ b o, ra = some ⟨b, o, none⟩ ∧ b < w.heap.size ∧ ∀ j q, raw[j]? = some q → w.cell? ⟨b, o + j, none⟩ = some (.int .i64 q) ∧ -9223372036854775808 ≤ q ∧ q ≤ 9223372036854775807) := hra
  have HG : Hid (Glob w) := hg
  have HP : Hid (∀ W, Calls Tryz.prog 16 #[.int .i64 room, .int .i64 (20 : Nat)] W fun e w' => e = .returned (.int .i64 r) ∧ w' = W) := hp20
  clear hra hlo hhi hg hp20 hn hqd hLs
  go_enter Tryz.func11, Tryz.ntmps11
  go_wp2_with (first
    | (go_at_call 16; refine (hp7 _).mono ?_; rintro e w1 ⟨rfl, rfl⟩; clear hp7; have hpB := HP.out)
    | (go_at_call 16; refine (hpB _).mono ?_; rintro e w1 ⟨rfl, rfl⟩; clear hpB)
    | (go_at_call 18; refine hO.mono ?_; rintro e w2 ⟨a, rfl, hU⟩; clear hO; have hD := hU.dial I HG.out 0 rfl; clear hU)
    | (go_at_call 19; refine hD.mono ?_; rintro e w3 ⟨rfl, hU⟩; clear hD; have hF := rec_auth_c I hU HG.out rfl; clear hU)
    | (go_at_call 20; refine hF.mono ?_; rintro e w4 ⟨rfl, hU⟩; clear hF; have hT := rec_told I hU HG.out (by unfold lim; omega); clear hU)
    | (go_at_call 28; refine hT.mono ?_; rintro e w5 ⟨rfl, hU5, _⟩; clear hT)
    | fail)
  go_loopw [13, 14] (fun v i wr => ∃ j : Nat, j ≤ raw.length ∧ j ≤ 1000 ∧ i = .int .i64 j ∧ RecL Srv w1 a n r j v wr) (fun _ i _ => raw.length - (intOf i).toNat)
  case atStart => exact ⟨0, by omega, by omega, rfl, _, [], 9, by omega, HLs.out, hU5, ⟨none, 0, rfl, Nat.le_refl _, Or.inl ⟨rfl, rfl⟩⟩⟩
  case round =>
    obtain ⟨j, hj, hj1000, rfl, S, R, b, hbj, hLR, hU, hB⟩ := hrel
    have HLR : Hid (M.Lru S n r R) := hLR
    have hRl := hLR.len
    have hbw := hU.below
    clear hU5
    by_cases hlt : j < raw.length
    · have klt : (j : Int) < raw.length := by omega
      by_cases h1000 : j < 1000
      · have k1000 : (j : Int) < 1000 := by omega
        obtain ⟨z, hz⟩ : ∃ z, raw[j]? = some z := ⟨_, List.getElem?_eq_getElem hlt⟩
        have hne : raw ≠ [] := by intro h; rw [h] at hz; simp at hz
        obtain ⟨bb, o, rfl, hbb, hcell⟩ := HR.out.resolve_left hne
        obtain ⟨hzc, hz1, hz2⟩ := hcell j z hz
        have cz : wr.cell? ⟨bb, o + j, none⟩ = some (.int .i64 z) := (hbw.cell (p := ⟨bb, o + j, none⟩) hbb).trans hzc
        have hpv := fun W => pick_c z 1099511627776 W hz1 hz2 (by decide) (Nat.le_refl _)
        have hpl := pk_lt z 1099511627776 (by decide)
        generalize pk z 1099511627776 = pv at hpv hpl
        obtain ⟨j8, hj8⟩ : ∃ j8, j8 = pv % 8 := ⟨_, rfl⟩
        have i8 : (pv : Int) % 8 = (j8 : Int) := by omega
        have b8 : j8 < 8 := by omega
        obtain ⟨t3, ht3⟩ : ∃ t3, t3 = pv / 8 % 3 := ⟨_, rfl⟩
        have i3 : (pv : Int) / 8 % 3 = (t3 : Int) := by omega
        clear hcell hz hne hzc hj8 ht3
        have hq8 : (convert 63 9 (.slice (some ⟨wr.heap.size, 0, none⟩) 1 1)).run Tryz.prog (wr.alloc (.cells #[.int .u8 (97 + (j8 : Int))] 5)) = .ok (.string (oneB (97 + j8))) (wr.alloc (.cells #[.int .u8 (97 + (j8 : Int))] 5)) := one_byte wr (97 + j8) (by omega)
        have hbA : Below wr.heap.size wr (wr.alloc (.cells #[.int .u8 (97 + (j8 : Int))] 5)) := (Below.refl _ _).alloc (Nat.le_refl _) _
        have hKA : Kept u13 wr (wr.alloc (.cells #[.int .u8 (97 + (j8 : Int))] 5)) := ⟨hbA.size, fun k hk => hbA.block k (bytes_block hB k hk).1⟩
        have hU1 := hU.later I (v' := u13) hbA (fun k hk => ⟨Nat.lt_of_lt_of_le (bytes_block hB k hk).1 hbA.size, Or.inr hk⟩)
        have hB1 := bytes_kept hB hKA
        have hkn := kj_nat j8 b8
        have HKN : Hid (((M.kj j8).toNat : Int) = 97 + (j8 : Int)) := hkn
        have hat := at_c w1.heap.size _ u13 R (M.kj j8) hB1 (by omega)
        rw [hkn] at hat
        have hob : (oneB (97 + j8)).size = 1 := rfl
        have hatb := atB_iff R (M.kj j8)
        have HAT : Hid ((M.kj j8 ∈ R → 0 ≤ atB R (M.kj j8)) ∧ (M.kj j8 ∉ R → atB R (M.kj j8) = -1)) := hatb
        generalize hag : atB R (M.kj j8) = at1 at hat HAT
        clear hbA hKA hU hkn hatb hag
        by_cases h3 : t3 = 0
        · subst h3
          obtain ⟨S2, o2, R2, hfe, hL2, _, hR2, hend⟩ := ask_get HLR.out j8 b8
          have hFd := rec_feed I hU1 HG.out (getS j8) (by show b + 6 ≤ lim; unfold lim; omega) hfe
          have hFd' : Calls Tryz.prog 20 #[.pointer (some a), .int .i64 (0 : Nat), .string (⟨#[103, 101, 116, 32]⟩ ++ oneB (97 + j8) ++ ⟨#[10]⟩)] (wr.alloc (.cells #[.int .u8 (97 + (j8 : Int))] 5)) fun e w' => e = .returned (.int .i64 0) ∧ UpA Srv w1 a (midR S2 o2) (b + 6) u13 w' ∧ BytesAt w1.heap.size w' u13 R :=
            hFd.mono fun e w' ⟨he, h1, h2⟩ => ⟨he, h1, bytes_kept hB1 h2⟩
          clear hFd hU1 hfe hB1
          by_cases hk : M.kj j8 ∈ R
          · have hneg : decide (at1 < 0) = false := decide_eq_false (by have := HAT.out.1 hk; omega)
            have hge : (0 : Int) ≤ at1 := HAT.out.1 hk
            rw [decide_eq_true hk, Bool.not_true] at hend
            rw [if_pos hk] at hR2
            have HL2 : Hid (M.Lru S2 n r (M.movedL R (M.kj j8) n)) := by
              have := hL2
              rw [hR2] at this
              exact this
            clear hL2 hR2 HAT hLR
            go_wp2_with (first
              | (go_at_call 16; refine (hpv _).mono ?_; rintro e w6 ⟨rfl, rfl⟩; clear hpv)
              | (go_at_call 33; refine hat.mono ?_; rintro e w6 ⟨rfl, rfl⟩; clear hat)
              | (go_at_call 20; refine hFd'.mono ?_; rintro e w7 ⟨rfl, hU7, hB7⟩; have hTd := rec_told I hU7 HG.out (by unfold lim; omega); clear hFd' hU7)
              | (go_at_call 28; refine hTd.mono ?_; rintro e w8 ⟨rfl, hU8, hK8⟩; have hB8 := bytes_kept hB7 hK8; clear hTd; have hmv := moved_c w1.heap.size w8 u13 R (M.kj j8) n hB8 (by have := HLR.out.len; omega) (by omega) (by omega); rw [HKN.out] at hmv)
              | (go_at_call 34; refine hmv.mono ?_; rintro e w9 ⟨v', rfl, hB9, hb9⟩; clear hmv))
            go_roundw
            case rel => exact ⟨j + 1, by omega, by omega, by go_num, rec_moved I HL2.out hU8 hB9 hb9 (by omega)⟩
            case measure => simp [intOf] <;> omega
          · have hneg : decide (at1 < 0) = true := by rw [HAT.out.2 hk]; decide
            have hge : ¬ (0 : Int) ≤ at1 := by rw [HAT.out.2 hk]; decide
            rw [decide_eq_false hk, Bool.not_false] at hend
            rw [if_neg hk] at hR2
            have HL2 : Hid (M.Lru S2 n r R) := by
              have := hL2
              rw [hR2] at this
              exact this
            clear hL2 hR2 HAT hLR
            go_wp2_with (first
              | (go_at_call 16; refine (hpv _).mono ?_; rintro e w6 ⟨rfl, rfl⟩; clear hpv)
              | (go_at_call 33; refine hat.mono ?_; rintro e w6 ⟨rfl, rfl⟩; clear hat)
              | (go_at_call 20; refine hFd'.mono ?_; rintro e w7 ⟨rfl, hU7, hB7⟩; have hTd := rec_told I hU7 HG.out (by unfold lim; omega); clear hFd' hU7)
              | (go_at_call 28; refine hTd.mono ?_; rintro e w8 ⟨rfl, hU8, hK8⟩; have hB8 := bytes_kept hB7 hK8; clear hTd; have hmv := moved_c w1.heap.size w8 u13 R (M.kj j8) n hB8 (by have := HLR.out.len; omega) (by omega) (by omega); rw [HKN.out] at hmv)
              | (go_at_call 34; refine hmv.mono ?_; rintro e w9 ⟨v', rfl, hB9, hb9⟩; clear hmv))
            go_roundw
            case rel => exact ⟨j + 1, by omega, by omega, by go_num, S2, R, b + 6, by omega, HL2.out, hU8, hB8⟩
            case measure => simp [intOf] <;> omega
        · have k3 : ((t3 : Int) == 0) = false := beq_eq_false_iff_ne.2 (by omega)
          have k3' : ((t3 : Int) != 0) = true := bne_iff_ne.2 (by omega)
          have k3n : ¬ t3 = 0 := h3
          obtain ⟨S2, hfe, hL2⟩ := ask_set HLR.out j8 b8
          have hFd := rec_feed I hU1 HG.out (setS j8) (by show b + 16 ≤ lim; unfold lim; omega) hfe
          have hFd' : Calls Tryz.prog 20 #[.pointer (some a), .int .i64 (0 : Nat), .string (⟨#[115, 101, 116, 32]⟩ ++ oneB (97 + j8) ++ ⟨#[32, 48, 32, 48, 32, 51, 10, 97, 98, 99, 10]⟩)] (wr.alloc (.cells #[.int .u8 (97 + (j8 : Int))] 5)) fun e w' => e = .returned (.int .i64 0) ∧ UpA Srv w1 a (midR S2 [83, 84, 79, 82, 69, 68, 10]) (b + 16) u13 w' ∧ BytesAt w1.heap.size w' u13 R :=
            hFd.mono fun e w' ⟨he, h1, h2⟩ => ⟨he, h1, bytes_kept hB1 h2⟩
          have HL2 : Hid (M.Lru S2 n r (M.movedL R (M.kj j8) n)) := hL2
          clear hFd hU1 hfe hB1 hL2 hLR
          by_cases hge : (0 : Int) ≤ at1
          · clear HAT
            go_wp2_with (first
              | (go_at_call 16; refine (hpv _).mono ?_; rintro e w6 ⟨rfl, rfl⟩; clear hpv)
              | (go_at_call 33; refine hat.mono ?_; rintro e w6 ⟨rfl, rfl⟩; clear hat)
              | (go_at_call 20; refine hFd'.mono ?_; rintro e w7 ⟨rfl, hU7, hB7⟩; have hTd := rec_told I hU7 HG.out (by unfold lim; omega); clear hFd' hU7)
              | (go_at_call 28; refine hTd.mono ?_; rintro e w8 ⟨rfl, hU8, hK8⟩; have hB8 := bytes_kept hB7 hK8; clear hTd; have hmv := moved_c w1.heap.size w8 u13 R (M.kj j8) n hB8 (by have := HLR.out.len; omega) (by omega) (by omega); rw [HKN.out] at hmv)
              | (go_at_call 34; refine hmv.mono ?_; rintro e w9 ⟨v', rfl, hB9, hb9⟩; clear hmv))
            go_roundw
            case rel => exact ⟨j + 1, by omega, by omega, by go_num, rec_moved I HL2.out hU8 hB9 hb9 (by omega)⟩
            case measure => simp [intOf] <;> omega
          · clear HAT
            go_wp2_with (first
              | (go_at_call 16; refine (hpv _).mono ?_; rintro e w6 ⟨rfl, rfl⟩; clear hpv)
              | (go_at_call 33; refine hat.mono ?_; rintro e w6 ⟨rfl, rfl⟩; clear hat)
              | (go_at_call 20; refine hFd'.mono ?_; rintro e w7 ⟨rfl, hU7, hB7⟩; have hTd := rec_told I hU7 HG.out (by unfold lim; omega); clear hFd' hU7)
              | (go_at_call 28; refine hTd.mono ?_; rintro e w8 ⟨rfl, hU8, hK8⟩; have hB8 := bytes_kept hB7 hK8; clear hTd; have hmv := moved_c w1.heap.size w8 u13 R (M.kj j8) n hB8 (by have := HLR.out.len; omega) (by omega) (by omega); rw [HKN.out] at hmv)
              | (go_at_call 34; refine hmv.mono ?_; rintro e w9 ⟨v', rfl, hB9, hb9⟩; clear hmv))
            go_roundw
            case rel => exact ⟨j + 1, by omega, by omega, by go_num, rec_moved I HL2.out hU8 hB9 hb9 (by omega)⟩
            case measure => simp [intOf] <;> omega
      · have k1000 : ¬ (j : Int) < 1000 := by omega
        have hTh := there_c I HG.out hU HLR.out hB (by omega) (by omega)
        go_wp2_with (go_at_call 35; refine hTh.mono ?_; rintro e w6 ⟨rfl, hb6⟩)
        go_ret
        exact ⟨rfl, hb6⟩
    · have klt : ¬ (j : Int) < raw.length := by omega
      have hTh := there_c I HG.out hU HLR.out hB (by omega) (by omega)
      go_wp2_with (go_at_call 35; refine hTh.mono ?_; rintro e w6 ⟨rfl, hb6⟩)
      go_ret
      exact ⟨rfl, hb6⟩
end
end Go.Proofs.YtdpnpcjbjjjceaaGreatDoor.K
namespace Go.Proofs.YtdpnpcjbjjjceaaGreatDoor.K
open Go.RowKit Go.Proofs.YtdpnpcjbjjjceaaGreatDoor

/-- no line of it begins with c -/
def NoStart (c : UInt8) (pre : List UInt8) : Prop := ∀ i, i < pre.length → (i = 0 ∨ pre[i - 1]? = some 10) → pre[i]? ≠ some c
def startF (c : UInt8) (st : Bool) : List UInt8 → Bool
  | [] => true
  | b :: r => (!st || decide (b ≠ c)) && startF c (decide (b = 10)) r
theorem start_append (c : UInt8) : ∀ (a b : List UInt8) (st : Bool), startF c st (a ++ b) = (startF c st a && startF c (M.endsF st a) b)
  | [], _, _ => by simp [startF, M.endsF]
  | x :: r, b, st => by
    show ((!st || decide (x ≠ c)) && startF c (decide (x = 10)) (r ++ b)) = ((!st || decide (x ≠ c)) && startF c (decide (x = 10)) r && startF c (M.endsF (decide (x = 10)) r) b)
    rw [start_append c r b, Bool.and_assoc]
theorem start_calm (c : UInt8) (hc : c = 105 ∨ c = 98) : ∀ (l : List UInt8) (st : Bool), M.calmF st l = true → startF c st l = true
  | [], _, _ => rfl
  | x :: r, st, h => by
    simp only [M.calmF, Bool.and_eq_true] at h
    obtain ⟨h1, h2⟩ := h
    simp only [startF, Bool.and_eq_true]
    refine ⟨?_, start_calm c hc r _ h2⟩
    cases st with
    | false => rfl
    | true =>
      simp at h1 ⊢
      rcases hc with rfl | rfl
      · exact h1.1
      · exact h1.2
theorem noStart_of (c : UInt8) : ∀ (l : List UInt8) (st : Bool), startF c st l = true → ∀ i, i < l.length → ((i = 0 ∧ st = true) ∨ (0 < i ∧ l[i - 1]? = some 10)) → l[i]? ≠ some c
  | [], _, _, _, h, _ => by simp at h
  | x :: r, st, h, 0, _, hs => by
    rcases hs with ⟨_, rfl⟩ | ⟨h0, _⟩
    · simp only [startF, Bool.and_eq_true] at h
      have := h.1
      simp at this
      simpa using this
    · omega
  | x :: r, st, h, i + 1, hl, hs => by
    simp only [startF, Bool.and_eq_true] at h
    rcases hs with ⟨h0, _⟩ | ⟨_, h0⟩
    · omega
    · rw [List.getElem?_cons_succ]
      refine noStart_of c r _ h.2 i (by simpa using hl) ?_
      cases i with
      | zero =>
        left
        refine ⟨rfl, ?_⟩
        simp at h0
        simp [h0]
      | succ i =>
        right
        refine ⟨by omega, ?_⟩
        simpa using h0
theorem noStart (c : UInt8) (l : List UInt8) (h : startF c true l = true) : NoStart c l := by
  intro i hi hs
  refine noStart_of c l true h i hi ?_
  rcases Nat.eq_zero_or_pos i with h0 | h0
  · exact Or.inl ⟨h0, rfl⟩
  · rcases hs with h1 | h1
    · omega
    · exact Or.inr ⟨h0, h1⟩
theorem ends_last : ∀ (l : List UInt8) (st : Bool), M.endsF st l = true → l ≠ [] → l[l.length - 1]? = some 10
  | [], _, _, h => absurd rfl h
  | [x], st, h, _ => by
    simp only [M.endsF] at h
    simpa using h
  | x :: y :: r, st, h, _ => by
    have := ends_last (y :: r) (decide (x = 10)) h (by simp)
    simpa using this
theorem get_list (s : ByteArray) (k : Nat) (h : k < s.size) (b : UInt8) (hb : s.data.toList[k]? = some b) : s[k] = b := by
  rw [P.getElem?_list s k h] at hb
  exact Option.some.inj hb
/-- a text in which a word stands at the beginning of a line, and a number behind it -/
structure Told (t word : ByteArray) (pre D post : List UInt8) (c : UInt8) (wr : List UInt8) (m : Nat) : Prop where
  text : t.data.toList = pre ++ (word.data.toList ++ (32 :: (D ++ 10 :: post)))
  word : word.data.toList = c :: wr
  no : NoStart c pre
  last : pre = [] ∨ pre[pre.length - 1]? = some 10
  dig : D = M.dig m
  small : m ≤ 1000000
theorem Told.size {t word : ByteArray} {pre D post : List UInt8} {c : UInt8} {wr : List UInt8} {m : Nat} (h : Told t word pre D post c wr m) : t.size = pre.length + word.size + 2 + D.length + post.length := by
  have := congrArg List.length h.text
  rw [P.length_list] at this
  simp at this
  omega
theorem Told.head {t word : ByteArray} {pre D post : List UInt8} {c : UInt8} {wr : List UInt8} {m : Nat} (h : Told t word pre D post c wr m) (i : Nat) (hi : i < pre.length) : t.data.toList[i]? = pre[i]? := by
  rw [h.text, List.getElem?_append_left hi]
theorem Told.differs {t word : ByteArray} {pre D post : List UInt8} {c : UInt8} {wr : List UInt8} {m : Nat} (h : Told t word pre D post c wr m) (i : Nat) (hi : i < pre.length) (hs : i = 0 ∨ pre[i - 1]? = some 10) (e : Nat) : ((t.extract i e).toList == (word ++ ⟨#[32]⟩ : ByteArray).toList) = false := by
  rw [beq_eq_false_iff_ne]
  intro he
  have h0 := h.no i hi hs
  rw [Lib.toList_data, Lib.toList_data, Lib.extract_data, ByteArray.data_append, Array.toList_append, h.word] at he
  have h1 := congrArg (fun l => l[0]?) he
  simp only [List.cons_append, List.getElem?_cons_zero, List.getElem?_take] at h1
  split at h1
  · rw [List.getElem?_drop, Nat.add_zero, h.head i hi] at h1
    exact h0 h1
  · cases h1
theorem Told.same {t word : ByteArray} {pre D post : List UInt8} {c : UInt8} {wr : List UInt8} {m : Nat} (h : Told t word pre D post c wr m) : ((t.extract pre.length (pre.length + word.size + 1)).toList == (word ++ ⟨#[32]⟩ : ByteArray).toList) = true := by
  rw [beq_iff_eq, Lib.toList_data, Lib.toList_data, Lib.extract_data, h.text, ByteArray.data_append, Array.toList_append]
  have e1 : pre.length + word.size + 1 - pre.length = (word.data.toList ++ [32]).length := by rw [List.length_append, P.length_list]; simp; omega
  rw [List.drop_append_of_le_length (Nat.le_refl _), List.drop_eq_nil_of_le (Nat.le_refl _), List.nil_append, e1]
  rw [show word.data.toList ++ (32 :: (D ++ 10 :: post)) = (word.data.toList ++ [32]) ++ (D ++ 10 :: post) by simp, List.take_left']
  rfl
theorem Told.digit {t word : ByteArray} {pre D post : List UInt8} {c : UInt8} {wr : List UInt8} {m : Nat} (h : Told t word pre D post c wr m) (p : Nat) : t.data.toList[pre.length + word.size + 1 + p]? = (D ++ 10 :: post)[p]? := by
  rw [h.text, show pre ++ (word.data.toList ++ (32 :: (D ++ 10 :: post))) = (pre ++ word.data.toList ++ [32]) ++ (D ++ 10 :: post) by simp, List.getElem?_append_right (by simp; omega)]
  congr 1
  simp
  omega

def valL (l : List UInt8) : Nat := l.foldl (fun a b => 10 * a + (b.toNat - 48)) 0
theorem valL_snoc (l : List UInt8) (b : UInt8) : valL (l ++ [b]) = 10 * valL l + (b.toNat - 48) := by simp [valL]
theorem valL_dig (n : Nat) (hn : n < 10 ^ 19) : valL (M.dig n) = n := by
  refine M.dig_ind (fun n => valL (M.dig n) = n) ?_ ?_ n hn
  · intro n h
    rw [M.dig_small n h]
    show 10 * 0 + ((UInt8.ofNat (48 + n)).toNat - 48) = n
    rw [M.toNat48 n h]; omega
  · intro n h h' ih
    rw [M.dig_step n h h', valL_snoc, ih, M.toNat48 (n % 10) (by omega)]
    omega
theorem valL_lt : ∀ (k : Nat) (l : List UInt8), l.length = k → (∀ b ∈ l, 48 ≤ b.toNat ∧ b.toNat ≤ 57) → valL l < 10 ^ k
  | 0, l, hl, _ => by
    have := List.eq_nil_of_length_eq_zero hl
    subst this
    decide
  | k + 1, l, hl, hb => by
    obtain ⟨a, b, rfl⟩ : ∃ a b, l = a ++ [b] := ⟨l.dropLast, l.getLast (by intro h; rw [h] at hl; simp at hl), (List.dropLast_concat_getLast _).symm⟩
    have h1 := valL_lt k a (by simpa using hl) (fun x hx => hb x (List.mem_append_left _ hx))
    have h2 := hb b (by simp)
    rw [valL_snoc, Nat.pow_succ]
    omega
set_option maxRecDepth 20000 in
set_option maxHeartbeats 1000000 in
theorem number_c (t word : ByteArray) (pre D post : List UInt8) (c : UInt8) (wr : List UInt8) (m : Nat) (w : World) (h : Told t word pre D post c wr m) (ht : t.size ≤ 1000000000) (hpre : pre ≠ []) :
    Calls Tryz.prog 32 #[.string t, .string word] w fun e w' => e = .returned (.int .i64 m) ∧ w' = w := by
  have HT : Hid (Told t word pre D post c wr m) := h
  have hsz := h.size
  clear h
  go_enter Tryz.func32, Tryz.ntmps32
  go_wp2_with fail
  go_loopw [5] (fun i wr => ∃ j : Nat, j ≤ pre.length ∧ i = .int .i64 j ∧ wr = w) (fun i _ => pre.length - (intOf i).toNat)
  case atStart => exact ⟨0, by omega, rfl, rfl⟩
  case round =>
    obtain ⟨j, hj, rfl, rfl⟩ := hrel
    have kle : (j : Int) + word.size + 1 ≤ t.size := by omega
    by_cases hlt : j < pre.length
    · by_cases h0 : j = 0
      · subst h0
        have hd := HT.out.differs 0 hlt (Or.inl rfl) (0 + word.size + 1)
        rw [Nat.zero_add] at hd
        go_wp2
        go_roundw
        case rel => exact ⟨1, by omega, rfl, trivial⟩
        case measure => simp [intOf] <;> omega
      · obtain ⟨k, rfl⟩ : ∃ k, j = k + 1 := ⟨j - 1, by omega⟩
        have hk : k < t.size := by omega
        by_cases h10 : t[k].toNat = 10
        · have k10 : ((t[k].toNat : Int) == 10) = true := beq_iff_eq.2 (by omega)
          have hd := HT.out.differs (k + 1) hlt (Or.inr (by
            rw [Nat.add_sub_cancel, ← HT.out.head k (by omega), P.getElem?_list t k hk]
            congr 1
            exact UInt8.toNat_inj.1 h10)) (k + 1 + word.size + 1)
          go_wp2
          go_roundw
          case rel => exact ⟨k + 2, by omega, by go_num, trivial⟩
          case measure => simp [intOf] <;> omega
        · have k10 : ((t[k].toNat : Int) == 10) = false := beq_eq_false_iff_ne.2 (by omega)
          go_wp2
          go_roundw
          case rel => exact ⟨k + 2, by omega, by go_num, trivial⟩
          case measure => simp [intOf] <;> omega
    · obtain rfl : j = pre.length := by omega
      have hsame := HT.out.same
      by_cases h0 : pre.length = 0
      · exact absurd (List.eq_nil_of_length_eq_zero h0) hpre
      · obtain ⟨k, hk1⟩ : ∃ k, pre.length = k + 1 := ⟨pre.length - 1, by omega⟩
        have hk : k < t.size := by omega
        have k10 : ((t[k].toNat : Int) == 10) = true := by
          have hl := HT.out.last.resolve_left (fun e => h0 (by rw [e]; rfl))
          rw [hk1, Nat.add_sub_cancel, ← HT.out.head k (by omega), P.getElem?_list t k hk] at hl
          rw [Option.some.inj hl]; rfl
        have HK : Hid (pre.length = k + 1) := hk1
        rw [hk1] at hsame ⊢
        have HSZ : Hid (t.size = k + 1 + word.size + 2 + D.length + post.length) := by rw [hk1] at hsz; exact hsz
        have kle2 : (k : Int) + 1 + word.size + 1 ≤ t.size := by omega
        clear hk1 hsz kle
        go_wp2_with fail
        go_loopw [6, 7] (fun n q wz => ∃ p : Nat, p ≤ D.length ∧ n = .int .i64 (valL (D.take p) : Int) ∧ q = .int .i64 ((k : Int) + 1 + word.size + 1 + p) ∧ wz = wr) (fun _ q _ => t.size - (intOf q).toNat)
        case atStart => exact ⟨0, by omega, rfl, by simp, rfl⟩
        case round =>
          obtain ⟨p, hp, rfl, rfl, rfl⟩ := hrel
          obtain ⟨Q, hQ⟩ : ∃ Q, Q = k + 1 + word.size + 1 + p := ⟨_, rfl⟩
          have iQ : (k : Int) + 1 + word.size + 1 + p = (Q : Int) := by omega
          have hQt : Q < t.size := by have := HSZ.out; omega
          have kQt : (Q : Int) < t.size := by omega
          have hel := HT.out.digit p
          rw [HK.out, ← hQ, P.getElem?_list t Q hQt] at hel
          have HQ : Hid (Q = k + 1 + word.size + 1 + p) := hQ
          have hDb : ∀ b ∈ D, 48 ≤ b.toNat ∧ b.toNat ≤ 57 := by rw [HT.out.dig]; exact M.dig_bytes m
          have hDl : D.length ≤ 7 := by
            have h1 := HT.out.small
            rw [HT.out.dig]
            exact M.dig_len 7 m (by omega) (by omega) (by omega)
          clear hQ
          by_cases hlt2 : p < D.length
          · rw [List.getElem?_append_left hlt2] at hel
            obtain ⟨b, hb⟩ : ∃ b, D[p]? = some b := ⟨_, List.getElem?_eq_getElem hlt2⟩
            rw [hb] at hel
            have hbb := hDb b (List.mem_of_getElem? hb)
            have htq : t[Q] = b := Option.some.inj hel
            have hv : valL (D.take (p + 1)) = 10 * valL (D.take p) + (b.toNat - 48) := by
              rw [List.take_add_one, hb]
              exact valL_snoc _ _
            have hvl : valL (D.take p) < 10 ^ 7 := Nat.lt_of_lt_of_le (valL_lt p (D.take p) (by rw [List.length_take]; omega) (fun x hx => hDb x (List.mem_of_mem_take hx))) (Nat.pow_le_pow_right (by omega) (by omega))
            have HV : Hid (valL (D.take (p + 1)) = 10 * valL (D.take p) + (b.toNat - 48)) := hv
            generalize valL (D.take p) = vp at hvl HV
            have kne : ((b.toNat : Int) == 10) = false := beq_eq_false_iff_ne.2 (by omega)
            have kne' : ((b.toNat : Int) != 10) = true := bne_iff_ne.2 (by omega)
            clear hel hb hv hDb
            go_wp2
            go_roundw
            case rel => exact ⟨p + 1, by omega, by rw [HV.out]; congr 1; omega, by have := HQ.out; congr 1; omega, trivial⟩
            case measure => simp [intOf] <;> omega
          · obtain rfl : p = D.length := by omega
            rw [List.getElem?_append_right (Nat.le_refl _), Nat.sub_self, List.getElem?_cons_zero] at hel
            have htq : t[Q] = 10 := Option.some.inj hel
            have HM : Hid (valL (D.take D.length) = m) := by
              show _ = _
              rw [List.take_length, HT.out.dig]
              exact valL_dig m (by have := HT.out.small; omega)
            clear hel hDb
            go_wp2
            go_ret
            exact ⟨by rw [HM.out]; rfl, rfl⟩
end Go.Proofs.YtdpnpcjbjjjceaaGreatDoor.K
namespace Go.Proofs.YtdpnpcjbjjjceaaGreatDoor.K
open Go.RowKit Go.Proofs.YtdpnpcjbjjjceaaGreatDoor

theorem one_list (n : Nat) : (oneB n).data.toList = [UInt8.ofNat n] := rfl
theorem ds_list (n : Nat) : (ds n).data.toList = M.dig n := by simp [ds]
def rawOf (v : Nat) : M.Raw := ⟨[UInt8.ofNat (107 + v / 20 % 5)], v / 33 % 9, v / 100 % 4 * 3, (lVal v (v / 400 % 7)).data.toList, v / 2800 % 6, v / 2800 % 200, v % 20⟩
theorem lVal_bytes (v : Nat) : ∀ n, ∀ b ∈ (lVal v n).data.toList, 48 ≤ b.toNat ∧ b.toNat ≤ 59
  | 0, b, h => by cases h
  | n + 1, b, h => by
    rw [show lVal v (n + 1) = lVal v n ++ oneB (48 + (v / 2800 + n * n) % 12) from rfl, ByteArray.data_append, Array.toList_append, one_list] at h
    rcases List.mem_append.1 h with h | h
    · exact lVal_bytes v n b h
    · simp only [List.mem_singleton] at h
      rw [h, UInt8.toNat_ofNat_of_lt' (show 48 + (v / 2800 + n * n) % 12 < 256 by omega)]
      omega
theorem rawOf_ok (v : Nat) : M.RawOk (rawOf v) := by
  have hb : (UInt8.ofNat (107 + v / 20 % 5)).toNat = 107 + v / 20 % 5 := UInt8.toNat_ofNat_of_lt' (show 107 + v / 20 % 5 < 256 by omega)
  refine ⟨⟨by simp [rawOf], ?_⟩, rfl, ?_, ?_, lVal_bytes v _, ?_, ?_, ?_⟩
  · show ([UInt8.ofNat (107 + v / 20 % 5)] : List UInt8).all M.okB = true
    simp only [List.all_cons, List.all_nil, Bool.and_true, M.okB, hb, Bool.and_eq_true, decide_eq_true_eq]
    omega
  · show v / 33 % 9 ≤ 65535; omega
  · show v / 100 % 4 * 3 ≤ 1000000; omega
  · show (lVal v (v / 400 % 7)).data.toList.length ≤ 100
    rw [P.length_list, lVal_size]; omega
  · show v / 2800 % 6 ≤ 999999999; omega
  · show v / 2800 % 200 ≤ 999999999; omega
theorem lStore_list (v : Nat) : (lStore v).data.toList = 32 :: M.joinW [[UInt8.ofNat (107 + v / 20 % 5)], M.dig (v / 33 % 9), M.dig (v / 100 % 4 * 3), M.dig (v / 400 % 7)] := by
  unfold lStore lKey
  simp only [ByteArray.data_append, Array.toList_append, one_list, ds_list, M.joinW]
  simp
theorem rl_0 (x : M.Raw) (h : x.r < 5) : M.rawLine x = M.joinW [[115, 101, 116], x.key, M.dig x.f, M.dig x.lf, M.dig x.value.length] ++ 10 :: (x.value ++ [10]) := by
  unfold M.rawLine
  repeat (first | rw [if_pos (by omega)] | rw [if_neg (by omega)])
theorem rl_5 (x : M.Raw) (h : x.r = 5) : M.rawLine x = M.joinW [[97, 100, 100], x.key, M.dig x.f, M.dig x.lf, M.dig x.value.length] ++ 10 :: (x.value ++ [10]) := by
  unfold M.rawLine
  repeat (first | rw [if_pos (by omega)] | rw [if_neg (by omega)])
theorem rl_6 (x : M.Raw) (h : x.r = 6) : M.rawLine x = M.joinW [[114, 101, 112, 108, 97, 99, 101], x.key, M.dig x.f, M.dig x.lf, M.dig x.value.length] ++ 10 :: (x.value ++ [10]) := by
  unfold M.rawLine
  repeat (first | rw [if_pos (by omega)] | rw [if_neg (by omega)])
theorem rl_7 (x : M.Raw) (h : x.r = 7) : M.rawLine x = M.joinW [[99, 97, 115], x.key, M.dig x.f, M.dig x.lf, M.dig x.value.length, M.dig x.m] ++ 10 :: (x.value ++ [10]) := by
  unfold M.rawLine
  repeat (first | rw [if_pos (by omega)] | rw [if_neg (by omega)])
theorem rl_8 (x : M.Raw) (h : 7 < x.r ∧ x.r < 12) : M.rawLine x = M.joinW [[103, 101, 116], x.key, [107], [108]] ++ [10] := by
  unfold M.rawLine
  repeat (first | rw [if_pos (by omega)] | rw [if_neg (by omega)])
theorem rl_12 (x : M.Raw) (h : x.r = 12) : M.rawLine x = M.joinW [[100, 101, 108, 101, 116, 101], x.key] ++ [10] := by
  unfold M.rawLine
  repeat (first | rw [if_pos (by omega)] | rw [if_neg (by omega)])
theorem rl_13 (x : M.Raw) (h : 12 < x.r ∧ x.r < 15) : M.rawLine x = M.joinW [[105, 110, 99, 114], x.key, M.dig x.n] ++ [10] := by
  unfold M.rawLine
  repeat (first | rw [if_pos (by omega)] | rw [if_neg (by omega)])
theorem rl_15 (x : M.Raw) (h : x.r = 15) : M.rawLine x = M.joinW [[116, 111, 117, 99, 104], x.key, M.dig x.lf] ++ [10] := by
  unfold M.rawLine
  repeat (first | rw [if_pos (by omega)] | rw [if_neg (by omega)])
theorem rl_16 (x : M.Raw) (h : x.r = 16) : M.rawLine x = M.joinW [[115, 116, 97, 116, 115]] ++ [10] := by
  unfold M.rawLine
  repeat (first | rw [if_pos (by omega)] | rw [if_neg (by omega)])
theorem rl_17 (x : M.Raw) (h : x.r = 17) : M.rawLine x = [110, 111, 116, 104, 105, 110, 103] ++ [10] := by
  unfold M.rawLine
  repeat (first | rw [if_pos (by omega)] | rw [if_neg (by omega)])
theorem rl_18 (x : M.Raw) (h : x.r = 18) : M.rawLine x = M.joinW [[115, 101, 116], x.key, M.dig x.f, M.dig x.lf, M.dig x.value.length] ++ 10 :: (x.value ++ [120, 10]) := by
  unfold M.rawLine
  repeat (first | rw [if_pos (by omega)] | rw [if_neg (by omega)])
theorem rl_19 (x : M.Raw) (h : x.r = 19) : M.rawLine x = [32] ++ [10] := by
  unfold M.rawLine
  repeat (first | rw [if_pos (by omega)] | rw [if_neg (by omega)])
theorem lineS_list (v : Nat) : (lineS v).data.toList = M.rawLine (rawOf v) := by
  have hl : (rawOf v).value.length = v / 400 % 7 := by
    show (lVal v (v / 400 % 7)).data.toList.length = _
    rw [P.length_list, lVal_size]
  rcases (show (v % 20 < 5) ∨ (v % 20 = 5) ∨ (v % 20 = 6) ∨ (v % 20 = 7) ∨ (7 < v % 20 ∧ v % 20 < 12) ∨ (v % 20 = 12) ∨ (12 < v % 20 ∧ v % 20 < 15) ∨ (v % 20 = 15) ∨ (v % 20 = 16) ∨ (v % 20 = 17) ∨ (v % 20 = 18) ∨ (v % 20 = 19) by omega) with h | h | h | h | h | h | h | h | h | h | h | h
  · rw [lineS_0 v h, rl_0 (rawOf v) h, hl]
    simp [ByteArray.data_append, lStore_list, rawOf, M.joinW]
  · rw [lineS_5 v h, rl_5 (rawOf v) h, hl]
    simp [ByteArray.data_append, lStore_list, rawOf, M.joinW]
  · rw [lineS_6 v h, rl_6 (rawOf v) h, hl]
    simp [ByteArray.data_append, lStore_list, rawOf, M.joinW]
  · rw [lineS_7 v h, rl_7 (rawOf v) h, hl]
    simp [ByteArray.data_append, lStore_list, ds_list, rawOf, M.joinW]
  · rw [lineS_8 v h, rl_8 (rawOf v) h]
    simp [ByteArray.data_append, lKey, one_list, rawOf, M.joinW]
  · rw [lineS_12 v h, rl_12 (rawOf v) h]
    simp [ByteArray.data_append, lKey, one_list, rawOf, M.joinW]
  · rw [lineS_13 v h, rl_13 (rawOf v) h]
    simp [ByteArray.data_append, ds_list, lKey, one_list, rawOf, M.joinW]
  · rw [lineS_15 v h, rl_15 (rawOf v) h]
    simp [ByteArray.data_append, ds_list, lKey, one_list, rawOf, M.joinW]
  · rw [lineS_16 v h, rl_16 (rawOf v) h]
    simp [M.joinW]
  · rw [lineS_17 v h, rl_17 (rawOf v) h]
    simp []
  · rw [lineS_18 v h, rl_18 (rawOf v) h, hl]
    simp [ByteArray.data_append, lStore_list, rawOf, M.joinW]
  · rw [lineS_19 v h, rl_19 (rawOf v) h]
    simp []
end Go.Proofs.YtdpnpcjbjjjceaaGreatDoor.K
namespace Go.Proofs.YtdpnpcjbjjjceaaGreatDoor.K
open Go.RowKit Go.Proofs.YtdpnpcjbjjjceaaGreatDoor

def rT (j7 nF nV n7 : Nat) : ByteArray :=
  ⟨#[115, 101, 116, 32]⟩ ++ oneB (97 + j7) ++ ⟨#[32]⟩ ++ ⟨(M.dig nF).toArray⟩ ++ ⟨#[32, 48, 32]⟩ ++ ⟨(M.dig (M.dig nV).length).toArray⟩ ++ ⟨#[10]⟩ ++ ⟨(M.dig nV).toArray⟩ ++ ⟨#[10, 103, 101, 116, 32]⟩ ++ oneB (97 + j7) ++ ⟨#[10]⟩ ++ lineS n7 ++ ⟨#[115, 116, 97, 116, 115, 10]⟩
def rK (j7 : Nat) : M.Bytes := [UInt8.ofNat (97 + j7)]
theorem rT_list (j7 nF nV n7 : Nat) : (rT j7 nF nV n7).data.toList = M.roundIn (rK j7) nF (M.dig nV) (rawOf n7) := by
  unfold rT M.roundIn rK
  have e0 : M.dig 0 = [48] := rfl
  simp [ByteArray.data_append, one_list, lineS_list, M.joinW, e0]
theorem rT_size (j7 nF nV n7 : Nat) : (rT j7 nF nV n7).size ≤ 400 := by
  have h1 := dig_len nF
  have h2 := dig_len nV
  have h3 := dig_len (M.dig nV).length
  have h4 := lineS_size n7
  have h5 := P.length_list (rT j7 nF nV n7)
  rw [← h5, rT_list]
  have h6 := P.length_list (lineS n7)
  rw [lineS_list] at h6
  have e0 : M.dig 0 = [48] := rfl
  unfold M.roundIn rK
  simp [M.joinW, e0]
  omega
def rW1 (j7 nF nV : Nat) : ByteArray := ⟨#[83, 84, 79, 82, 69, 68, 10, 86, 65, 76, 85, 69, 32]⟩ ++ oneB (97 + j7) ++ ⟨#[32]⟩ ++ ⟨(M.dig nF).toArray⟩ ++ ⟨#[32]⟩ ++ ⟨(M.dig (M.dig nV).length).toArray⟩ ++ ⟨#[32]⟩
def rW2 : ByteArray := ⟨#[84, 79, 79, 32, 76, 65, 82, 71, 69, 10]⟩
theorem rW_list (q j7 nF nV : Nat) : M.roundWant q (rK j7) nF (M.dig nV) = if q < 17 + (M.dig nV).length then rW2.data.toList else (rW1 j7 nF nV).data.toList := by
  unfold M.roundWant rW1 rW2 rK
  split
  · rfl
  · simp [ByteArray.data_append, one_list]
def names3 : List (M.Bytes × M.Bytes) := [([97, 110, 110], [97, 49]), ([98, 111, 98], [98, 50]), ([99, 97, 116], [99, 51])]
def rest3 (v : Nat) : List M.Store := [M.emptyStore (20 + v / 200 % 200), M.emptyStore (1 + v / 40000 % 2000)]
/-- the server of Room -/
def srvQ (v : Nat) (S : M.Store) (out : M.Bytes) : M.Server := srv1 ⟨names3, S :: rest3 v, 0⟩ (M.idleO out)
theorem inv_start (q : Nat) : M.Inv q (M.emptyStore q) := ⟨rfl, Nat.zero_le _, (fun _ h => by cases h), List.nodup_nil⟩

section
variable {Srv : World → Addr → (Nat → Prop) → M.Server → Nat → Prop} {Glob : World → Prop}
theorem room_auth (I : Iface Srv Glob) {w0 w : World} {a : Addr} {v : Nat} (h : UpE Srv w0 a (openM v 1) 0 w) (hg : Glob w0) :
    Calls Tryz.prog 20 #[.pointer (some a), .int .i64 (0 : Nat), .string auth0] w fun e w' => e = .returned (.int .i64 0) ∧ UpE Srv w0 a (srvQ v (M.emptyStore (20 + v % 200)) [79, 75, 10]) 12 w' := by
  have hF := h.feed I hg 0 M.fresh auth0 rfl (by decide)
  have hs : M.step ⟨names3, M.emptyStore (20 + v % 200) :: rest3 v, 0⟩ ⟨.line, none, [97, 117, 116, 104, 32, 97, 110, 110, 32, 97, 49, 10], []⟩ = (true, ⟨names3, M.emptyStore (20 + v % 200) :: rest3 v, 0⟩, M.idleO [79, 75, 10]) :=
    (M.step_line (i := 11) rfl (by rfl) (by decide)).trans (congrArg _ (M.doLine_auth (ws := [[97, 117, 116, 104], [97, 110, 110], [97, 49]]) (t := 0) (by rfl) rfl (by rfl)))
  have hr : M.feed ⟨names3, M.emptyStore (20 + v % 200) :: rest3 v, 0⟩ M.fresh auth0.data.toList = (⟨names3, M.emptyStore (20 + v % 200) :: rest3 v, 0⟩, M.idleO [79, 75, 10]) := by
    show M.run ⟨names3, M.emptyStore (20 + v % 200) :: rest3 v, 0⟩ ⟨.line, none, [97, 117, 116, 104, 32, 97, 110, 110, 32, 97, 49, 10], []⟩ = _
    rw [M.run_go hs]
    exact M.run_idle _ _
  have e : M.fed (openM v 1) 0 M.fresh auth0.data.toList = srvQ v (M.emptyStore (20 + v % 200)) [79, 75, 10] := by
    show srv1 (M.feed ⟨names3, M.emptyStore (20 + v % 200) :: rest3 v, 0⟩ M.fresh auth0.data.toList).1 (M.feed ⟨names3, M.emptyStore (20 + v % 200) :: rest3 v, 0⟩ M.fresh auth0.data.toList).2 = _
    rw [hr]; rfl
  rw [e] at hF
  exact hF
theorem room_told (I : Iface Srv Glob) {w0 w : World} {a : Addr} {v n : Nat} {S : M.Store} {o : M.Bytes} (h : UpE Srv w0 a (srvQ v S o) n w) (hg : Glob w0) (hn : n ≤ lim) :
    Calls Tryz.prog 28 #[.pointer (some a), .int .i64 (0 : Nat)] w fun e w' => e = .returned (.tuple #[.string ⟨o.toArray⟩, .bool true]) ∧ UpE Srv w0 a (srvQ v S []) n w' := by
  have hT := h.told I hg 0 (M.idleO o) rfl hn (by decide)
  have hl := h.outs I 0 (M.idleO o) rfl
  have e : M.taken (srvQ v S o) 0 (M.idleO o) ((1099511627776 : Nat) : Int) = srvQ v S [] := by
    have e1 : o.drop 1099511627776 = [] := List.drop_eq_nil_of_le (by unfold lim at hn; simp [M.idleO] at hl; omega)
    show srv1 ⟨names3, S :: rest3 v, 0⟩ ⟨.line, some 0, [], o.drop 1099511627776⟩ = _
    rw [e1]; rfl
  rw [e] at hT
  exact hT
/-- what a round answers -/
structure RoundO (q j7 nF nV : Nat) (t : M.Bytes) (items total : Nat) : Prop where
  want : ∃ more, t = M.roundWant q (rK j7) nF (M.dig nV) ++ more
  itemsAt : ∃ pre post, Told ⟨t.toArray⟩ ⟨#[105, 116, 101, 109, 115]⟩ pre (M.dig items) post 105 [116, 101, 109, 115] items ∧ pre ≠ []
  bytesAt : ∃ pre post, Told ⟨t.toArray⟩ ⟨#[98, 121, 116, 101, 115]⟩ pre (M.dig total) post 98 [121, 116, 101, 115] total ∧ pre ≠ []
  le : total ≤ q
  ge : 17 * items ≤ total
theorem good_ends {o : M.Bytes} (h : M.Good o) : o = [] ∨ o[o.length - 1]? = some 10 := by
  by_cases h0 : o = []
  · exact Or.inl h0
  · exact Or.inr (ends_last o true h.2 h0)
theorem round_o (q j7 nF nV : Nat) (hq : q ≤ 2000) (pre more post : M.Bytes) (Sx : M.Store) (hI : M.Inv q Sx) (hg : M.Good pre) (hw : pre = M.roundWant q (rK j7) nF (M.dig nV) ++ more) :
    RoundO q j7 nF nV (pre ++ ((M.stats Sx ++ [10]) ++ post)) Sx.rows.length (M.total Sx.rows) := by
  have hge := M.total_ge hI.ents
  have hle := hI.room
  have hgA := hg.append (M.statsA_good Sx)
  have hpn : pre ≠ [] := by
    rw [hw]
    unfold M.roundWant
    split <;> simp
  have hnl : ∀ n, ∀ b ∈ ([116, 101, 109, 115, 32] ++ M.dig n : M.Bytes), b ≠ 10 := by
    intro n b hb
    rcases List.mem_append.1 hb with h | h
    · exact (show ∀ b ∈ ([116, 101, 109, 115, 32] : M.Bytes), b ≠ 10 by decide) b h
    · exact M.ne_of_low (by have := M.dig_bytes n b h; show 10 < b.toNat; omega)
  refine ⟨⟨more ++ ((M.stats Sx ++ [10]) ++ post), by rw [hw]; simp⟩, ?_, ?_, hle, hge⟩
  · refine ⟨pre ++ M.statsA Sx, [98, 121, 116, 101, 115] ++ (32 :: (M.dig (M.total Sx.rows) ++ 10 :: ([69, 78, 68, 10] ++ post))), ⟨?_, rfl, noStart 105 _ (start_calm 105 (Or.inl rfl) _ _ hgA.1), good_ends hgA, rfl, by omega⟩, by simp [hpn]⟩
    rw [P.mk_list, M.stats_eq]
    simp
  · have hit : startF 98 true (105 :: (([116, 101, 109, 115, 32] ++ M.dig Sx.rows.length) ++ [10])) = true ∧ M.endsF true (105 :: (([116, 101, 109, 115, 32] ++ M.dig Sx.rows.length) ++ [10])) = true := by
      obtain ⟨g1, g2⟩ := M.calm_noNl ([116, 101, 109, 115, 32] ++ M.dig Sx.rows.length) (hnl _)
      refine ⟨?_, ?_⟩
      · show ((!true || decide ((105 : UInt8) ≠ 98)) && startF 98 (decide ((105 : UInt8) = 10)) (([116, 101, 109, 115, 32] ++ M.dig Sx.rows.length) ++ [10])) = true
        rw [start_append, start_calm 98 (Or.inr rfl) _ _ (show M.calmF (decide ((105 : UInt8) = 10)) _ = true from g1), show M.endsF (decide ((105 : UInt8) = 10)) ([116, 101, 109, 115, 32] ++ M.dig Sx.rows.length) = false from g2]
        rfl
      · show M.endsF (decide ((105 : UInt8) = 10)) (([116, 101, 109, 115, 32] ++ M.dig Sx.rows.length) ++ [10]) = true
        rw [M.ends_append]
        rfl
    have hst : startF 98 true ((pre ++ M.statsA Sx) ++ (105 :: (([116, 101, 109, 115, 32] ++ M.dig Sx.rows.length) ++ [10]))) = true := by
      rw [start_append, start_calm 98 (Or.inr rfl) _ _ hgA.1, hgA.2, hit.1]; rfl
    have hen : M.endsF true ((pre ++ M.statsA Sx) ++ (105 :: (([116, 101, 109, 115, 32] ++ M.dig Sx.rows.length) ++ [10]))) = true := by
      rw [M.ends_append, hgA.2, hit.2]
    refine ⟨(pre ++ M.statsA Sx) ++ (105 :: (([116, 101, 109, 115, 32] ++ M.dig Sx.rows.length) ++ [10])), [69, 78, 68, 10] ++ post, ⟨?_, rfl, noStart 98 _ hst, Or.inr (ends_last _ true hen (by simp)), rfl, by omega⟩, by simp⟩
    rw [P.mk_list, M.stats_eq]
    simp
theorem room_feed (I : Iface Srv Glob) {w0 w : World} {a : Addr} {v n q j7 nF nV n7 : Nat} {S : M.Store} (h : UpE Srv w0 a (srvQ v S []) n w) (hg : Glob w0) (hI : M.Inv q S) (hq : q ≤ 2000) (hj : j7 < 7) (hF : nF ≤ 65535) (_hV : nV < 100000) (hn : n + 400 ≤ lim) :
    Calls Tryz.prog 20 #[.pointer (some a), .int .i64 (0 : Nat), .string (rT j7 nF nV n7)] w fun e w' => e = .returned (.int .i64 0) ∧ ∃ S' t items total, M.Inv q S' ∧ RoundO q j7 nF nV t items total ∧ UpE Srv w0 a (srvQ v S' t) (n + (rT j7 nF nV n7).size) w' := by
  have hsz := rT_size j7 nF nV n7
  have hb : (UInt8.ofNat (97 + j7)).toNat = 97 + j7 := UInt8.toNat_ofNat_of_lt' (show 97 + j7 < 256 by omega)
  have hK : M.cleanW (rK j7) := by
    refine ⟨by simp [rK], ?_⟩
    simp only [rK, List.all_cons, List.all_nil, Bool.and_true, M.okB, hb, Bool.and_eq_true, decide_eq_true_eq]
    omega
  obtain ⟨S', Sx, pre, more, post, h1, h2, h3, h4, h5⟩ := M.room_round names3 S (rest3 v) 0 q hI (rK j7) nF (M.dig nV) (rawOf n7) hK rfl hF (M.dig_val nV) (by have := dig_len nV; omega) (rawOf_ok n7)
  have hFd := h.feed I hg 0 (M.idleO []) (rT j7 nF nV n7) rfl (by omega)
  have e : M.fed (srvQ v S []) 0 (M.idleO []) (rT j7 nF nV n7).data.toList = srvQ v S' (pre ++ ((M.stats Sx ++ [10]) ++ post)) := by
    rw [rT_list]
    show srv1 (M.feed ⟨names3, S :: rest3 v, 0⟩ (M.idleO []) (M.roundIn (rK j7) nF (M.dig nV) (rawOf n7))).1 (M.feed ⟨names3, S :: rest3 v, 0⟩ (M.idleO []) (M.roundIn (rK j7) nF (M.dig nV) (rawOf n7))).2 = _
    rw [h1]; rfl
  rw [e] at hFd
  exact hFd.mono fun e w' ⟨he, hU⟩ => ⟨he, S', _, _, _, h2, round_o q j7 nF nV hq pre more post Sx h3 h4 h5, hU⟩
end
end Go.Proofs.YtdpnpcjbjjjceaaGreatDoor.K
namespace Go.Proofs.YtdpnpcjbjjjceaaGreatDoor.K
open Go.RowKit Go.Proofs.YtdpnpcjbjjjceaaGreatDoor

theorem pk_nat (n N : Nat) : pk (n : Int) N = n % N := by
  unfold pk
  rw [if_neg (by omega)]
  rfl
section
variable {Srv : World → Addr → (Nat → Prop) → M.Server → Nat → Prop} {Glob : World → Prop}
/-- what a round answers, as the law asks of it -/
structure RoundT (q j7 nF nV : Nat) (T : ByteArray) (items total : Nat) : Prop where
  size : T.size ≤ 1000000000
  want : if q < 17 + (M.dig nV).length then rW2.size ≤ T.size ∧ (T.extract 0 rW2.size).toList = rW2.toList else (rW1 j7 nF nV).size ≤ T.size ∧ (T.extract 0 (rW1 j7 nF nV).size).toList = (rW1 j7 nF nV).toList
  number1 : ∀ W, Calls Tryz.prog 32 #[.string T, .string ⟨#[105, 116, 101, 109, 115]⟩] W fun e w' => e = .returned (.int .i64 items) ∧ w' = W
  number2 : ∀ W, Calls Tryz.prog 32 #[.string T, .string ⟨#[98, 121, 116, 101, 115]⟩] W fun e w' => e = .returned (.int .i64 total) ∧ w' = W
  le : total ≤ q
  ge : 17 * items ≤ total
theorem pre_of (t : List UInt8) (W : ByteArray) (more : List UInt8) (h : t = W.data.toList ++ more) : W.size ≤ (⟨t.toArray⟩ : ByteArray).size ∧ ((⟨t.toArray⟩ : ByteArray).extract 0 W.size).toList = W.toList := by
  refine ⟨?_, ?_⟩
  · rw [show (⟨t.toArray⟩ : ByteArray).size = t.length from P.mk_size t, h, List.length_append, P.length_list]; omega
  · rw [Lib.toList_data, Lib.toList_data, Lib.extract_data, P.mk_list, h, Nat.sub_zero, List.drop_zero]
    rw [← P.length_list W]
    simp
theorem room_feed' (I : Iface Srv Glob) {w0 w : World} {a : Addr} {v n q j7 nF nV n7 : Nat} {S : M.Store} (h : UpE Srv w0 a (srvQ v S []) n w) (hg : Glob w0) (hI : M.Inv q S) (hq : q ≤ 2000) (hj : j7 < 7) (hF : nF ≤ 65535) (hV : nV < 100000) (hn : n + 400 ≤ 1000000) :
    Calls Tryz.prog 20 #[.pointer (some a), .int .i64 (0 : Nat), .string (rT j7 nF nV n7)] w fun e w' => e = .returned (.int .i64 0) ∧ ∃ S' T items total n', M.Inv q S' ∧ RoundT q j7 nF nV T items total ∧ n' ≤ n + 400 ∧ Below w0.heap.size w0 w' ∧
      Calls Tryz.prog 28 #[.pointer (some a), .int .i64 (0 : Nat)] w' fun e w2 => e = .returned (.tuple #[.string T, .bool true]) ∧ UpE Srv w0 a (srvQ v S' []) n' w2 := by
  have hsz := rT_size j7 nF nV n7
  refine (room_feed I h hg hI hq hj hF hV (n7 := n7) (by unfold lim; omega)).mono ?_
  rintro e w' ⟨he, S', t, items, total, hI', hR, hU⟩
  have hl := hU.outs I 0 (M.idleO t) rfl
  have hl' : t.length ≤ 200 * (n + (rT j7 nF nV n7).size) + 20 := hl
  obtain ⟨p1, q1, ht1, hn1⟩ := hR.itemsAt
  obtain ⟨p2, q2, ht2, hn2⟩ := hR.bytesAt
  obtain ⟨more, hm⟩ := hR.want
  have hs : (⟨t.toArray⟩ : ByteArray).size ≤ 1000000000 := by rw [P.mk_size]; omega
  refine ⟨he, S', ⟨t.toArray⟩, items, total, n + (rT j7 nF nV n7).size, hI', ⟨hs, ?_, fun W => number_c _ _ p1 _ q1 _ _ _ W ht1 hs hn1, fun W => number_c _ _ p2 _ q2 _ _ _ W ht2 hs hn2, hR.le, hR.ge⟩, by omega, hU.below, room_told I hU hg (by unfold lim; omega)⟩
  rw [rW_list] at hm
  split
  · rename_i hc
    rw [if_pos hc] at hm
    exact pre_of t rW2 more hm
  · rename_i hc
    rw [if_neg hc] at hm
    exact pre_of t (rW1 j7 nF nV) more hm
set_option maxRecDepth 20000 in
set_option maxHeartbeats 2000000 in
theorem room_c (I : Iface Srv Glob) (c : Int) (rv : Value) (raw : List Int) (w : World) (hlo : -9223372036854775808 ≤ c) (hhi : c ≤ 9223372036854775807) (hra : IntsAt w rv raw) (hrl : raw.length ≤ 17592186044416) (hg : Glob w) :
    Calls Tryz.prog 10 #[.int .i64 c, rv] w fun e w' => e = .returned (.bool true) ∧ Below w.heap.size w w' := by
  have hO := opened_c I c 1 w hlo hhi (by decide) hg
  have hT := fun W => tenants_c c W hlo hhi
  generalize pk c 1099511627776 = v at hO hT
  obtain ⟨ra, rcap, rfl, hra⟩ := hra
  have HR : Hid (raw = [] ∨ ∃ b o, ra = some ⟨b, o, none⟩ ∧ b < w.heap.size ∧ ∀ j q, raw[j]? = some q → w.cell? ⟨b, o + j, none⟩ = some (.int .i64 q) ∧ -9223372036854775808 ≤ q ∧ q ≤ 9223372036854775807) := hra
  have HG : Hid (Glob w) := hg
  obtain ⟨q, hqd⟩ : ∃ q, q = 20 + v % 200 := ⟨_, rfl⟩
  have hq1 : q ≤ 2000 := by omega
  have HQ : Hid (q = 20 + v % 200) := hqd
  clear hra hlo hhi hg hqd
  go_enter Tryz.func10, Tryz.ntmps10
  go_wp2_with (first
    | (go_at_call 22; refine hO.mono ?_; rintro e w1 ⟨a, rfl, hU⟩; clear hO; have hU : UpE Srv w a (openM v 1) 0 w1 := hU; have hT1 := hT w1; clear hT)
    | (go_at_call 30; refine hT1.mono ?_; rintro e w2 ⟨rfl, hw2⟩; clear hT1; have hb2 : Below w1.heap.size w1 w2 := (by rw [hw2]; exact (Below.refl _ _).alloc (Nat.le_refl _) _); have cq : w2.cell? ⟨w1.heap.size, 2, none⟩ = some (.int .i64 (q : Int)) := (by rw [hw2, HQ.out]; exact heap_cell (alloc_at _ _ _ rfl) 2 rfl); clear hw2; have hU2 := hU.later I hb2; clear hb2)
    | (go_at_call 23; refine (auth_c _).mono ?_; rintro e w3 ⟨rfl, rfl⟩; have hF := room_auth I hU2 HG.out)
    | (go_at_call 20; refine hF.mono ?_; rintro e w4 ⟨rfl, hU4⟩; clear hF; have hTd := room_told I hU4 HG.out (by unfold lim; omega); clear hU4)
    | (go_at_call 28; refine hTd.mono ?_; rintro e w5 ⟨rfl, hU5⟩; clear hTd)
    | fail)
  rw [← HQ.out] at hU5
  go_loopw [10] (fun i wr => ∃ (j : Nat) (S : M.Store) (n : Nat), j ≤ raw.length ∧ j ≤ 60 ∧ i = .int .i64 j ∧ n ≤ 12 + 400 * j ∧ M.Inv q S ∧ UpE Srv w a (srvQ v S []) n wr) (fun i _ => raw.length - (intOf i).toNat)
  case atStart => exact ⟨0, _, 12, by omega, by omega, rfl, by omega, inv_start q, hU5⟩
  case round =>
    obtain ⟨j, S, n, hj, hj60, rfl, hnj, hI, hU⟩ := hrel
    have HI : Hid (M.Inv q S) := hI
    have hbw := hU.below
    clear hU5 hI
    by_cases hlt : j < raw.length
    · have klt : (j : Int) < raw.length := by omega
      by_cases h60 : j < 60
      · have k60 : (j : Int) < 60 := by omega
        obtain ⟨z, hz⟩ : ∃ z, raw[j]? = some z := ⟨_, List.getElem?_eq_getElem hlt⟩
        have hne : raw ≠ [] := by intro h; rw [h] at hz; simp at hz
        obtain ⟨bb, o, rfl, hbb, hcell⟩ := HR.out.resolve_left hne
        obtain ⟨hzc, hz1, hz2⟩ := hcell j z hz
        have cz : wr.cell? ⟨bb, o + j, none⟩ = some (.int .i64 z) := (hbw.cell (p := ⟨bb, o + j, none⟩) hbb).trans hzc
        have hpv := fun W => pick_c z 1099511627776 W hz1 hz2 (by decide) (Nat.le_refl _)
        have hpl := pk_lt z 1099511627776 (by decide)
        generalize pk z 1099511627776 = pv at hpv hpl
        obtain ⟨j7, e7⟩ : ∃ j7, j7 = pv % 7 := ⟨_, rfl⟩
        obtain ⟨n7, e8⟩ : ∃ n7, n7 = pv / 7 := ⟨_, rfl⟩
        obtain ⟨nV, e9⟩ : ∃ nV, nV = n7 % 100000 := ⟨_, rfl⟩
        obtain ⟨nF, e10⟩ : ∃ nF, nF = pv / 3 % 65536 := ⟨_, rfl⟩
        have i7 : (pv : Int) % 7 = (j7 : Int) := by omega
        have i8 : (pv : Int) / 7 = (n7 : Int) := by omega
        have i9 : (n7 : Int) % 100000 = (nV : Int) := by omega
        have i10 : (pv : Int) / 3 % 65536 = (nF : Int) := by omega
        have b7 : j7 < 7 := by omega
        have b8 : n7 < 1099511627776 := by omega
        have b9 : nV < 100000 := by omega
        have b10 : nF ≤ 65535 := by omega
        clear e7 e8 e9 e10 hcell hz hne hzc
        have hqk : (convert 63 9 (.slice (some ⟨wr.heap.size, 0, none⟩) 1 1)).run Tryz.prog (wr.alloc (.cells #[.int .u8 (97 + (j7 : Int))] 5)) = .ok (.string (oneB (97 + j7))) (wr.alloc (.cells #[.int .u8 (97 + (j7 : Int))] 5)) := one_byte wr (97 + j7) (by omega)
        have hUc := hU.later I ((Below.refl wr.heap.size wr).alloc (Nat.le_refl _) (.cells #[.int .u8 (97 + (j7 : Int))] 5))
        have hL := fun W => line_c (n7 : Int) W (by omega) (by omega)
        rw [pk_nat, Nat.mod_eq_of_lt b8] at hL
        have hob : (oneB (97 + j7)).size = 1 := rfl
        have hls := lineS_size n7
        have dF := dig_len nF
        have dV := dig_len nV
        have dL := dig_len (M.dig nV).length
        clear hU
        go_wp2_with (first
          | (go_at_call 16; refine (hpv _).mono ?_; rintro e w6 ⟨rfl, rfl⟩; clear hpv)
          | (go_at_call 31; refine (digits_c _ _ (by omega)).mono ?_; rintro e w7 ⟨rfl, hb7⟩; replace hUc := hUc.later I hb7; clear hb7)
          | (go_at_call 26; refine (hL _).mono ?_; rintro e w8 ⟨rfl, hb8⟩; replace hUc := hUc.later I hb8; clear hb8 hL; have hFd := room_feed' I hUc HG.out HI.out hq1 b7 b10 b9 (n7 := n7) (by omega); unfold rT at hFd; clear hUc)
          | (go_at_call 20; refine hFd.mono ?_; rintro e w9 ⟨rfl, S', T, items, total, n', hI', hRo, hn', hU9, hTd⟩; clear hFd)
          | fail)
        have HI' : Hid (M.Inv q S') := hI'
        have hts := hRo.size
        have hN1 := fun W => hRo.number1 W
        have HN2 : Hid (∀ W, Calls Tryz.prog 32 #[.string T, .string ⟨#[98, 121, 116, 101, 115]⟩] W fun e w' => e = .returned (.int .i64 total) ∧ w' = W) := fun W => hRo.number2 W
        have hle := hRo.le
        have hge := hRo.ge
        have HW : Hid (if q < 17 + (M.dig nV).length then rW2.size ≤ T.size ∧ (T.extract 0 rW2.size).toList = rW2.toList else (rW1 j7 nF nV).size ≤ T.size ∧ (T.extract 0 (rW1 j7 nF nV).size).toList = (rW1 j7 nF nV).toList) := hRo.want
        clear hI' hRo hU9
        have q1 : ¬ (q : Int) < total := by omega
        have q2 : ¬ (total : Int) < 17 * items := by omega
        have q3 : ¬ (items : Int) < 0 := by omega
        have hN := hN1
        clear hN1
        by_cases hc : q < 17 + (M.dig nV).length
        · have kc : (q : Int) < 17 + (M.dig nV).length := by omega
          have hw := HW.out
          rw [if_pos hc] at hw
          obtain ⟨hw1, hw2⟩ := hw
          have hw1' : 10 ≤ T.size := hw1
          have hw2' : (T.extract 0 10).toList = [84, 79, 79, 32, 76, 65, 82, 71, 69, 10] := by rw [Lib.toList_data rW2] at hw2; exact hw2
          clear hw1 hw2 HW
          go_wp2_with (first
            | (go_at_call 28; refine hTd.mono ?_; rintro e w10 ⟨rfl, hU10⟩; clear hTd)
            | (go_at_call 31; refine (digits_c _ _ (by omega)).mono ?_; rintro e w11 ⟨rfl, hb11⟩; replace hU10 := hU10.later I hb11; clear hb11)
            | (go_at_call 32; refine (hN _).mono ?_; rintro e w12 ⟨rfl, rfl⟩; clear hN; have hN := HN2.out)
            | fail)
          go_roundw
          case rel => exact ⟨j + 1, S', n', by omega, by omega, by go_num, by omega, HI'.out, hU10⟩
          case measure => simp [intOf] <;> omega
        · have kc : ¬ (q : Int) < 17 + (M.dig nV).length := by omega
          have hw := HW.out
          rw [if_neg hc] at hw
          obtain ⟨hw1, hw2⟩ := hw
          obtain ⟨W1, hW1⟩ : ∃ W1, rW1 j7 nF nV = W1 := ⟨_, rfl⟩
          rw [hW1] at hw1 hw2
          unfold rW1 at hW1
          have hw3 : ((T.extract 0 W1.size).toList == W1.toList) = true := by rw [hw2]; exact beq_self_eq_true _
          clear HW
          go_wp2_with (first
            | (go_at_call 28; refine hTd.mono ?_; rintro e w10 ⟨rfl, hU10⟩; clear hTd)
            | (go_at_call 31; refine (digits_c _ _ (by omega)).mono ?_; rintro e w11 ⟨rfl, hb11⟩; replace hU10 := hU10.later I hb11; clear hb11)
            | (go_at_call 32; refine (hN _).mono ?_; rintro e w12 ⟨rfl, rfl⟩; clear hN; have hN := HN2.out)
            | fail)
          go_roundw
          case rel => exact ⟨j + 1, S', n', by omega, by omega, by go_num, by omega, HI'.out, hU10⟩
          case measure => simp [intOf] <;> omega
      · have k60 : ¬ (j : Int) < 60 := by omega
        go_wp2
        go_ret
        exact ⟨rfl, hbw⟩
    · have klt : ¬ (j : Int) < raw.length := by omega
      go_wp2
      go_ret
      exact ⟨rfl, hbw⟩
end
end Go.Proofs.YtdpnpcjbjjjceaaGreatDoor.K
