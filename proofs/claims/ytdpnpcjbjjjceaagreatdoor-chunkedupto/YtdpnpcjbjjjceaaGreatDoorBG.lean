import Derived.Lib.LaidTab
import Derived.Sort.Grow
import Derived.Test.YtdpnpcjbjjjceaaGreatDoorBPlain
import Derived.Test.YtdpnpcjbjjjceaaGreatDoorBSt6
import Derived.Test.YtdpnpcjbjjjceaaGreatDoorBPure
set_option linter.unusedSimpArgs false
set_option linter.unusedVariables false
namespace Go.Proofs.YtdpnpcjbjjjceaaGreatDoor.S
open Go.RowKit Go.Maps Go.MuLone Go.Proofs.YtdpnpcjbjjjceaaGreatDoor

/-- what is asked of package-level variables -/
structure Glob (w : World) : Prop where
  errs : Errs w
  tab : Lib.TabIs Tryz.prog w "internal/strconv.uint64pow10" .u64 Lib.pow10Tab
  room : 8 ≤ w.heap.size
theorem tab_same {w w' : World} (h : Lib.TabIs Tryz.prog w "internal/strconv.uint64pow10" .u64 Lib.pow10Tab) (hb : w'.heap[5]? = w.heap[5]?) : Lib.TabIs Tryz.prog w' "internal/strconv.uint64pow10" .u64 Lib.pow10Tab := by
  unfold Lib.TabIs World.var? at h ⊢
  rw [show Tryz.prog.globalNamed "internal/strconv.uint64pow10" = some 5 by kernel_rfl] at h ⊢
  simp only [Option.bind_some] at h ⊢
  rw [hb]; exact h
theorem err_same {w w' : World} {g : Nat} (h : HasErr w g) (hb : w'.heap[g]? = w.heap[g]?) : HasErr w' g := by
  obtain ⟨ev, h1, h2⟩ := h
  exact ⟨ev, (World.cell?_of_block (a := ⟨g, 0, none⟩) hb).trans h1, h2⟩
theorem Glob.turn {S : Nat → Prop} {w w' : World} (h : Glob w) (ht : Turn S w w') (hS : ∀ k, S k → 8 ≤ k) : Glob w' := by
  have hb : ∀ g, g < 8 → w'.heap[g]? = w.heap[g]? := fun g hg => ht.block g (Nat.lt_of_lt_of_le hg h.room) (fun hs => by have := hS g hs; omega)
  exact ⟨⟨err_same h.errs.1 (hb _ (by decide)), err_same h.errs.2 (hb _ (by decide))⟩, tab_same h.tab (hb _ (by decide)), Nat.le_trans h.room ht.size⟩
theorem Glob.below {w w' : World} (h : Glob w) (hb : Below w.heap.size w w') : Glob w' := h.turn (S := fun _ => False) (Turn.ofBelow hb) (fun _ h => h.elim)

theorem dig_dec : ∀ n, n < 10 ^ 19 → M.dig n = Lib.decDigits n := by
  refine M.dig_ind _ (fun n hn => ?_) (fun n h10 hn ih => ?_)
  · rw [M.dig_small n hn, Lib.decDigits, dif_pos hn]
  · rw [M.dig_step n h10 hn, Lib.decDigits, dif_neg (by omega), ih]
theorem itoa_dig (n : Nat) (h : n < 10 ^ 19) : Lib.itoa (n : Int) = M.dig n := by
  unfold Lib.itoa
  rw [if_neg (by omega), dig_dec n h]; rfl
theorem below_grow (w : World) (k : Nat) (os : Array Obj) : Below w.heap.size w (Go.Sort.grow (w.drewN k) os) := by
  refine ⟨rfl, rfl, rfl, ?_, fun i hi => ?_⟩
  · show w.heap.size ≤ (w.heap ++ os).size
    rw [Array.size_append]; omega
  · show (w.heap ++ os)[i]? = _
    rw [Array.getElem?_append_left hi]
theorem itoa_c (n : Nat) (w : World) (hn : n < 1000000000000000000) (hG : Glob w) : Calls Tryz.prog 188 #[.int .i64 n] w fun e w' => e = .returned (.string ⟨(M.dig n).toArray⟩) ∧ Below w.heap.size w w' := by
  refine (Tryz.strconv_Itoa n (by omega) (by omega) w hG.tab).mono ?_
  rintro e w' ⟨rfl, k, os, rfl⟩
  rw [itoa_dig n (by omega)]
  exact ⟨rfl, below_grow w k os⟩
theorem digits_c (s : ByteArray) (w : World) (hs : s.size ≤ 9223372036854775806) : Calls Tryz.prog 220 #[.string s, .int .i64 9] w fun e w' => e = .returned (.bool (M.numeric s.data.toList)) ∧ w' = w := by
  have e1 : P.withinS s 9 48 57 = M.numeric s.data.toList := by
    unfold P.withinS P.within M.numeric
    have e2 : (s.data.toList.all (P.okByte 48 57)) = s.data.toList.all P.isDig := by
      congr 1
      funext c
      unfold P.okByte P.isDig
      congr 1 <;> (apply decide_eq_decide.2; omega)
    have e3 : decide ((s.data.toList.length : Int) ≤ 9) = decide (s.data.toList.length ≤ 9) := decide_eq_decide.2 (by omega)
    rw [e2, e3]
  rw [← e1]
  clear e1
  go_enter Tryz.func220, Tryz.ntmps220
  go_wp2_with (go_at_call 116; refine (within_c s 9 48 57 _ hs).mono ?_; rintro e w' ⟨rfl, rfl⟩)
  go_ret
  exact ⟨rfl, rfl⟩
theorem dec_digits : ∀ (l : List UInt8) (acc : Nat), Lib.decFrom acc l = P.digits acc l
  | [], _ => rfl
  | c :: r, acc => by
    unfold Lib.decFrom P.digits Lib.digitVal P.isDig
    by_cases h : 48 ≤ c.toNat ∧ c.toNat ≤ 57
    · have e : acc * 10 + (c.toNat - 48) = acc * 10 + c.toNat - 48 := by omega
      rw [if_pos h]
      simp only [h.1, h.2, decide_true, Bool.and_self, if_true, e]
      exact dec_digits r _
    · rw [if_neg h]
      have : (decide (48 ≤ c.toNat) && decide (c.toNat ≤ 57)) = false := by
        rw [Bool.and_eq_false_iff]
        by_cases h1 : 48 ≤ c.toNat
        · exact Or.inr (decide_eq_false (fun h2 => h ⟨h1, h2⟩))
        · exact Or.inl (decide_eq_false h1)
      simp only [this, Bool.false_eq_true, if_false]
theorem digits_some : ∀ (l : List UInt8) (acc : Nat), l.all P.isDig = true → ∃ n, P.digits acc l = some n ∧ n < (acc + 1) * 10 ^ l.length
  | [], acc, _ => ⟨acc, rfl, by simp⟩
  | c :: r, acc, h => by
    rw [List.all_cons, Bool.and_eq_true] at h
    obtain ⟨h1, h2⟩ := h
    obtain ⟨n, e, hn⟩ := digits_some r (acc * 10 + c.toNat - 48) h2
    refine ⟨n, by unfold P.digits; rw [if_pos h1]; exact e, ?_⟩
    unfold P.isDig at h1
    simp only [Bool.and_eq_true, decide_eq_true_eq] at h1
    rw [List.length_cons, Nat.pow_succ]
    have h3 : acc * 10 + c.toNat - 48 + 1 ≤ (acc + 1) * 10 := by omega
    calc n < (acc * 10 + c.toNat - 48 + 1) * 10 ^ r.length := hn
      _ ≤ ((acc + 1) * 10) * 10 ^ r.length := Nat.mul_le_mul_right _ h3
      _ = (acc + 1) * (10 ^ r.length * 10) := by rw [Nat.mul_assoc, Nat.mul_comm 10]
theorem numeric_num {l : M.Bytes} (h : M.numeric l = true) : Lib.atoi l = some (M.num l : Int) ∧ M.num l < 1000000000 := by
  unfold M.numeric at h
  simp only [Bool.and_eq_true, decide_eq_true_eq] at h
  obtain ⟨⟨h1, h2⟩, h3⟩ := h
  obtain ⟨n, e, hn⟩ := digits_some l 0 h3
  have hp : 10 ^ l.length ≤ 10 ^ 9 := Nat.pow_le_pow_right (by decide) h2
  have e1 : M.num l = n := by unfold M.num; rw [e]; rfl
  rw [e1]
  refine ⟨?_, by omega⟩
  cases l with
  | nil => cases h1
  | cons c r =>
    rw [List.all_cons, Bool.and_eq_true] at h3
    have hc := h3.1
    unfold P.isDig at hc
    simp only [Bool.and_eq_true, decide_eq_true_eq] at hc
    have n45 : (c == 45) = false := by
      rw [beq_eq_false_iff_ne]; intro h9; rw [h9] at hc; exact absurd hc.1 (by decide)
    have n43 : (c == 43) = false := by
      rw [beq_eq_false_iff_ne]; intro h9; rw [h9] at hc; exact absurd hc.1 (by decide)
    unfold Lib.atoi
    simp only [n45, n43, Bool.false_eq_true, if_false]
    unfold Lib.decNat
    rw [if_neg (by simp), dec_digits, e]; rfl

theorem numberOf_bad (s : ByteArray) (w : World) (hs : s.size ≤ 9223372036854775806) (h : M.numeric s.data.toList = false) : Calls Tryz.prog 212 #[.string s] w fun e w' => e = .returned (.tuple #[.int .i64 0, .bool false]) ∧ Below w.heap.size w w' := by
  have c := fun W => digits_c s W hs
  rw [h] at c
  clear h
  go_enter Tryz.func212, Tryz.ntmps212
  go_wp2_with (go_at_call 220; refine (c _).mono ?_; rintro e w' ⟨rfl, rfl⟩)
  go_ret2
  exact ⟨rfl, Below.refl _ _⟩
theorem numberOf_good (s : ByteArray) (w : World) (hs : s.size ≤ 18) (h : M.numeric s.data.toList = true) : Calls Tryz.prog 212 #[.string s] w fun e w' => e = .returned (.tuple #[.int .i64 (M.num s.data.toList), .bool true]) ∧ Below w.heap.size w w' := by
  have c := fun W => digits_c s W (Nat.le_trans hs (by decide))
  rw [h] at c
  have cA := fun W => Tryz.strconv_Atoi s _ hs (numeric_num h).1 W
  obtain ⟨m, hm⟩ : ∃ m : Int, m = M.num s.data.toList := ⟨_, rfl⟩
  rw [← hm] at cA ⊢
  clear h hm
  go_enter Tryz.func212, Tryz.ntmps212
  go_wp2_with (first
    | (go_at_call 220; refine (c _).mono ?_; rintro e w' ⟨rfl, hw⟩; rw [hw]; clear hw)
    | (go_at_call 221; refine (cA _).mono ?_; rintro e w1 ⟨rfl, t, hw⟩; have hb : Below w.heap.size w w1 := hw ▸ Lib.bytesWorld_below _ _ _; clear hw))
  go_quiet (fail)
  go_wp2
  go_ret2
  exact ⟨rfl, below_drewN hb _⟩
end Go.Proofs.YtdpnpcjbjjjceaaGreatDoor.S
namespace Go.Proofs.YtdpnpcjbjjjceaaGreatDoor.S
open Go.RowKit Go.Maps Go.MuLone Go.Proofs.YtdpnpcjbjjjceaaGreatDoor
variable {cl : Nat}

set_option maxRecDepth 20000 in
theorem delete_none (w : World) (sb eb : Nat) (x : Num) (rs : List Row) (h : Box w sb eb (0, cl) x rs) (n : Nat) (hs : Sound n x rs) (hn : n ≤ 100000000000) (k : M.Bytes) (K : ByteArray) (hkey : keyOf Tryz.prog 9 (.string K) = some (.string k)) (hfr : findR rs k = none) :
    Calls Tryz.prog 191 #[.pointer (some ⟨sb, 0, none⟩), .string K] w (SPost w sb eb n (0, cl) ([78, 79, 84, 32, 70, 79, 85, 78, 68], toStore x rs)) := by
  have HB := Hid.of h
  have HS := Hid.of hs
  have hsb := h.lt.1
  have HFR : Hid (findR rs k = none) := hfr
  clear h hs hfr
  go_enter_defers Tryz.func191, Tryz.ntmps191
  go_wp2_with (first
    | (go_at_call 90; refine (lock_c HB.out).mono ?_; rintro e w1 ⟨rfl, hB1, hT1⟩; have HB1 := Hid.of hB1; have HT1 := Hid.of hT1; have c3 := hB1.c3; have hsb1 := hB1.lt.1; obtain ⟨D, HD, h1, h2⟩ := hB1.look_none HFR.out; clear hB1 hT1)
    | (at_lookup; refine lookup_ent _ rfl _ _ 153 rfl 9 164 keyed Tryz.underlying153 (zeroEnt _) eb rs.length D rfl HD.out _ _ rfl hkey _ false h1 (h2 _) ?_; unfold entV str int))
  refine leaves_cons (f := 91) (args := #[.pointer (some ⟨sb, 0, none⟩)]) (by simp) (by simp [go_sem]) ?_
  refine (unlock_c (HB1.out.alloc _) .returning).mono ?_
  rintro e u' w3 ⟨rfl, rfl, hB3, hT3⟩
  exact ⟨_, results_tmp rfl _ _ _, rfl, x, rs, hB3, HS.out.mono (Nat.le_succ n), rfl, (HT1.out.alloc _).trans hT3⟩

set_option maxRecDepth 20000 in
theorem touch_none (w : World) (sb eb : Nat) (x : Num) (rs : List Row) (h : Box w sb eb (0, cl) x rs) (n : Nat) (hs : Sound n x rs) (hn : n ≤ 100000000000) (k : M.Bytes) (K : ByteArray) (hkey : keyOf Tryz.prog 9 (.string K) = some (.string k)) (en : Int) (hfr : findR rs k = none) :
    Calls Tryz.prog 194 #[.pointer (some ⟨sb, 0, none⟩), .string K, .int .i64 en] w (SPost w sb eb n (0, cl) ([78, 79, 84, 32, 70, 79, 85, 78, 68], toStore x rs)) := by
  have HB := Hid.of h
  have HS := Hid.of hs
  have hsb := h.lt.1
  have HFR : Hid (findR rs k = none) := hfr
  clear h hs hfr
  go_enter_defers Tryz.func194, Tryz.ntmps194
  go_wp2_with (first
    | (go_at_call 90; refine (lock_c HB.out).mono ?_; rintro e w1 ⟨rfl, hB1, hT1⟩; have HB1 := Hid.of hB1; have HT1 := Hid.of hT1; have c3 := hB1.c3; have hsb1 := hB1.lt.1; obtain ⟨D, HD, h1, h2⟩ := hB1.look_none HFR.out; clear hB1 hT1)
    | (at_lookup; refine lookup_ent _ rfl _ _ 153 rfl 9 164 keyed Tryz.underlying153 (zeroEnt _) eb rs.length D rfl HD.out _ _ rfl hkey _ false h1 (h2 _) ?_; unfold entV str int))
  refine leaves_cons (f := 91) (args := #[.pointer (some ⟨sb, 0, none⟩)]) (by simp) (by simp [go_sem]) ?_
  refine (unlock_c (HB1.out.alloc _) .returning).mono ?_
  rintro e u' w3 ⟨rfl, rfl, hB3, hT3⟩
  exact ⟨_, results_tmp rfl _ _ _, rfl, x, rs, hB3, HS.out.mono (Nat.le_succ n), rfl, (HT1.out.alloc _).trans hT3⟩

set_option maxRecDepth 20000 in
theorem incr_none (w : World) (sb eb : Nat) (x : Num) (rs : List Row) (h : Box w sb eb (0, cl) x rs) (n : Nat) (hs : Sound n x rs) (hn : n ≤ 100000000000) (k : M.Bytes) (K : ByteArray) (hkey : keyOf Tryz.prog 9 (.string K) = some (.string k)) (m : Int) (hfr : findR rs k = none) :
    Calls Tryz.prog 192 #[.pointer (some ⟨sb, 0, none⟩), .string K, .int .i64 m] w (SPost w sb eb n (0, cl) ([78, 79, 84, 32, 70, 79, 85, 78, 68], toStore x rs)) := by
  have HB := Hid.of h
  have HS := Hid.of hs
  have hsb := h.lt.1
  have HFR : Hid (findR rs k = none) := hfr
  clear h hs hfr
  go_enter_defers Tryz.func192, Tryz.ntmps192
  go_wp2_with (first
    | (go_at_call 90; refine (lock_c HB.out).mono ?_; rintro e w1 ⟨rfl, hB1, hT1⟩; have HB1 := Hid.of hB1; have HT1 := Hid.of hT1; have c3 := hB1.c3; have hsb1 := hB1.lt.1; obtain ⟨D, HD, h1, h2⟩ := hB1.look_none HFR.out; clear hB1 hT1)
    | (at_lookup; refine lookup_ent _ rfl _ _ 153 rfl 9 164 keyed Tryz.underlying153 (zeroEnt _) eb rs.length D rfl HD.out _ _ rfl hkey _ false h1 (h2 _) ?_; unfold entV str int))
  refine leaves_cons (f := 91) (args := #[.pointer (some ⟨sb, 0, none⟩)]) (by simp) (by simp [go_sem]) ?_
  refine (unlock_c (HB1.out.alloc _) .returning).mono ?_
  rintro e u' w3 ⟨rfl, rfl, hB3, hT3⟩
  exact ⟨_, results_tmp rfl _ _ _, rfl, x, rs, hB3, HS.out.mono (Nat.le_succ n), rfl, (HT1.out.alloc _).trans hT3⟩

set_option maxRecDepth 20000 in
theorem delete_some (w : World) (sb eb : Nat) (x : Num) (rs : List Row) (h : Box w sb eb (0, cl) x rs) (n : Nat) (hs : Sound n x rs) (hn : n ≤ 100000000000) (k : M.Bytes) (K : ByteArray) (hkey : keyOf Tryz.prog 9 (.string K) = some (.string k)) (p : Row) (hfr : findR rs k = some p) :
    Calls Tryz.prog 191 #[.pointer (some ⟨sb, 0, none⟩), .string K] w (SPost w sb eb n (0, cl) (M.delete (toStore x rs) k)) := by
  have HB := Hid.of h
  have HS := Hid.of hs
  have hsb := h.lt.1
  have HFR : Hid (findR rs k = some p) := hfr
  obtain ⟨pk, hpk1⟩ : ∃ pk, pk = (⟨p.1.key.toArray⟩ : ByteArray) := ⟨_, rfl⟩
  obtain ⟨pv, hpv1⟩ : ∃ pv, pv = (⟨p.1.value.toArray⟩ : ByteArray) := ⟨_, rfl⟩
  have eV : entV p = .agg #[.string pk, .string pv, .int .i64 p.1.flags, .int .i64 p.1.mark, .int .i64 p.1.stop, .int .i64 p.2] := by rw [hpk1, hpv1]; rfl
  have HEV := Hid.of eV
  have HP1 := Hid.of hpk1
  have HP2 := Hid.of hpv1
  clear h hs hfr hpk1 hpv1
  go_enter_defers Tryz.func191, Tryz.ntmps191
  go_wp2_with (first
    | (go_at_call 90; refine (lock_c HB.out).mono ?_; rintro e w1 ⟨rfl, hB1, hT1⟩; have HB1 := Hid.of hB1; have HT1 := Hid.of hT1; have c3 := hB1.c3; have hsb1 := hB1.lt.1; obtain ⟨D, HD, h1, h2⟩ := hB1.look_some HFR.out; clear hB1 hT1)
    | (at_lookup; refine lookup_ent _ rfl _ _ 153 rfl 9 164 keyed Tryz.underlying153 (zeroEnt _) eb rs.length D rfl HD.out _ _ rfl hkey p true h1 (h2 _) ?_; rw [eV]; clear eV))
  have hB2 := HB1.out.alloc (.cells #[.string pk, .string pv, .int .i64 p.1.flags, .int .i64 p.1.mark, .int .i64 p.1.stop, .int .i64 p.2] 164)
  refine (remove_some _ sb eb (1, cl) x rs hB2 n HS.out k K hkey p HFR.out).mono ?_
  rintro e w3 ⟨rfl, hB3, hT3⟩
  go_wp2
  refine leaves_cons (f := 91) (args := #[.pointer (some ⟨sb, 0, none⟩)]) (by simp) (by simp [go_sem]) ?_
  refine (unlock_c hB3 .returning).mono ?_
  rintro e u' w4 ⟨rfl, rfl, hB4, hT4⟩
  refine ⟨_, results_tmp rfl _ _ _, ?_, _, _, hB4, (HS.out.removed HFR.out).mono (Nat.le_succ n), ?_, ((HT1.out.alloc _).trans hT3).trans hT4⟩
  · unfold M.delete; rw [show (toStore x rs).rows = rs.map (·.1) from rfl, find_fst, HFR.out]; rfl
  · unfold M.delete; rw [show (toStore x rs).rows = rs.map (·.1) from rfl, find_fst, HFR.out, gone_fst]; rfl
end Go.Proofs.YtdpnpcjbjjjceaaGreatDoor.S
namespace Go.Proofs.YtdpnpcjbjjjceaaGreatDoor.S
open Go.RowKit Go.Maps Go.MuLone Go.Proofs.YtdpnpcjbjjjceaaGreatDoor
variable {cl : Nat}

/-- an entry's block that the call made, whatever the store is -/
structure Gk (w0 : World) (sb eb g : Nat) (p : Row) (w : World) : Prop where
  res : w.heap[g]? = some (.cells (entC p) 164 (0, 0))
  new : w0.heap.size ≤ g
  old : sb < w0.heap.size ∧ eb < w0.heap.size
section
variable {w0 w w' : World} {sb eb g : Nat} {l : Lk} {x : Num} {rs : List Row} {p : Row}
theorem Gi.k (h : Gi w0 sb eb g l x rs p w) : Gk w0 sb eb g p w := ⟨h.res, h.new, h.old⟩
theorem Gk.drew (h : Gk w0 sb eb g p w) : Gk w0 sb eb g p w.drew := ⟨h.res, h.new, h.old⟩
theorem Gk.turn (h : Gk w0 sb eb g p w) (ht : Turn (ofStore sb eb) w w') : Gk w0 sb eb g p w' := by
  refine ⟨(ht.block g (Array.getElem?_eq_some_iff.1 h.res).1 ?_).trans h.res, h.new, h.old⟩
  have h1 := h.new
  have h2 := h.old
  rintro (e | e) <;> omega
theorem Gk.s (h : Gk w0 sb eb g p w) : w.cell? ⟨g, 0, none⟩ = some (.string ⟨p.1.key.toArray⟩) ∧ w.cell? ⟨g, 2, none⟩ = some (.int .i64 p.1.flags) ∧ w.cell? ⟨g, 4, none⟩ = some (.int .i64 p.1.stop) ∧ Gk w0 sb eb g p w :=
  ⟨heap_cell h.res 0 rfl, heap_cell h.res 2 rfl, heap_cell h.res 4 rfl, h⟩
end
theorem ends_le (cl n : Nat) (hc : cl ≤ 1000000000) (hn : n ≤ 1000000) : M.ends cl n ≤ 1001000000 := by unfold M.ends; split <;> omega

set_option maxRecDepth 20000 in
theorem touch_some (w : World) (sb eb : Nat) (x : Num) (rs : List Row) (h : Box w sb eb (0, cl) x rs) (n : Nat) (hs : Sound n x rs) (hn : n ≤ 100000000000) (k : M.Bytes) (K : ByteArray) (hkey : keyOf Tryz.prog 9 (.string K) = some (.string k)) (li : Nat) (hli : li ≤ 1000000) (hcl : cl ≤ 1000000000) (p : Row) (hfr : findR rs k = some p) :
    Calls Tryz.prog 194 #[.pointer (some ⟨sb, 0, none⟩), .string K, .int .i64 li] w (SPost w sb eb n (0, cl) (M.touch cl (toStore x rs) k li)) := by
  obtain ⟨st, hst9⟩ : ∃ st, M.ends cl li = st := ⟨_, rfl⟩
  have hst : st ≤ 1001000000 := by rw [← hst9]; exact ends_le cl li hcl hli
  have HST := Hid.of hst9
  have cE : Hid (∀ W : World, W.cell? ⟨sb, 4, none⟩ = some (.int .i64 cl) → Calls Tryz.prog 201 #[.pointer (some ⟨sb, 0, none⟩), .int .i64 li] W fun e' w' => e' = .returned (.int .i64 st) ∧ w' = W) := fun W h4 => endOf_c sb li cl st W h4 hli hcl hst9
  have HB := Hid.of h
  have HS := Hid.of hs
  have hsb := h.lt.1
  have hu9 : x.uses ≤ 100000000000 := Nat.le_trans hs.uses hn
  have hl9 : rs.length ≤ 1000 := Nat.le_trans hs.len (by decide)
  have HK9 := Hid.of (find_mem hfr).2
  have HPK : Hid (keyOf Tryz.prog 9 (.string ⟨p.1.key.toArray⟩) = some (.string p.1.key)) := keyLit p.1.key (by have := (hs.small p (find_mem hfr).1).1; omega)
  have HFR : Hid (findR rs k = some p) := hfr
  obtain ⟨pk, hpk1⟩ : ∃ pk, pk = (⟨p.1.key.toArray⟩ : ByteArray) := ⟨_, rfl⟩
  obtain ⟨pv, hpv1⟩ : ∃ pv, pv = (⟨p.1.value.toArray⟩ : ByteArray) := ⟨_, rfl⟩
  have eV : entV p = .agg #[.string pk, .string pv, .int .i64 p.1.flags, .int .i64 p.1.mark, .int .i64 p.1.stop, .int .i64 p.2] := by rw [hpk1, hpv1]; rfl
  have HEV := Hid.of eV
  have HP1 := Hid.of hpk1
  have HP2 := Hid.of hpv1
  clear h hs hfr hpk1 hpv1 hst9 hli hcl
  go_enter_defers Tryz.func194, Tryz.ntmps194
  go_wp2_with (first
    | (go_at_call 90; refine (lock_c HB.out).mono ?_; rintro e w1 ⟨rfl, hB1, hT1⟩; have HB1 := Hid.of hB1; have HT1 := Hid.of hT1; have c3 := hB1.c3; have hsb1 := hB1.lt.1; obtain ⟨D, HD, h1, h2⟩ := hB1.look_some HFR.out; clear hB1 hT1)
    | (at_lookup; refine lookup_ent _ rfl _ _ 153 rfl 9 164 keyed Tryz.underlying153 (zeroEnt _) eb rs.length D rfl HD.out _ _ rfl hkey p true h1 (h2 _) ?_; rw [eV]; clear eV))
  have hB2 := HB1.out.alloc (.cells #[.string pk, .string pv, .int .i64 p.1.flags, .int .i64 p.1.mark, .int .i64 st, .int .i64 p.2] 164)
  go_wp2_with (go_at_call 201; refine (cE.out _ (HB1.out.alloc _).cn).mono ?_; rintro e w' ⟨rfl, hw⟩; rw [hw]; clear hw)
  refine (use_c _ sb eb (1, cl) x rs hB2 (Nat.le_trans hu9 (by decide)) hl9 ({ p.1 with stop := st }, 0) pk pv p.1.flags p.1.mark st p.2 (by rw [HP1.out]; exact HPK.out) (fun j => by rw [HP1.out, HP2.out]; rfl)).mono ?_
  rintro e w3 ⟨rfl, hB3, hT3⟩
  go_wp2
  refine leaves_cons (f := 91) (args := #[.pointer (some ⟨sb, 0, none⟩)]) (by simp) (by simp [go_sem]) ?_
  refine (unlock_c hB3 .returning).mono ?_
  rintro e u' w4 ⟨rfl, rfl, hB4, hT4⟩
  have hB5 : Box w4 sb eb (0, cl) { x with uses := x.uses + 1 } (goneR rs p.1.key ++ [({ p.1 with stop := st }, x.uses + 1)]) := hB4
  rw [show goneR rs p.1.key = goneR rs k from congrArg _ HK9.out] at hB5
  have hS9 : Sound (n + 1) { x with uses := x.uses + 1 } (goneR rs k ++ [({ p.1 with stop := st }, x.uses + 1)]) := HS.out.used_ HFR.out st hst 0 0 (Nat.le_refl _) (by have := HS.out.gets; omega)
  refine ⟨_, results_tmp rfl _ _ _, ?_, { x with uses := x.uses + 1 }, goneR rs k ++ [({ p.1 with stop := st }, x.uses + 1)], hB5, hS9, ?_, ((HT1.out.alloc _).trans hT3).trans hT4⟩
  · unfold M.touch; rw [show (toStore x rs).rows = rs.map (·.1) from rfl, find_fst, HFR.out]; rfl
  · unfold M.touch; rw [show (toStore x rs).rows = rs.map (·.1) from rfl, find_fst, HFR.out, gone_fst]
    unfold toStore
    simp only [List.map_append, List.map_cons, List.map_nil, Option.map_some, HST.out, Nat.add_zero]

set_option maxRecDepth 20000 in
theorem incr_bad (w : World) (sb eb : Nat) (x : Num) (rs : List Row) (h : Box w sb eb (0, cl) x rs) (n : Nat) (hs : Sound n x rs) (hn : n ≤ 100000000000) (k : M.Bytes) (K : ByteArray) (hkey : keyOf Tryz.prog 9 (.string K) = some (.string k)) (m : Int) (hG : Glob w) (p : Row) (hfr : findR rs k = some p) (hnum : M.numeric p.1.value = false) :
    Calls Tryz.prog 192 #[.pointer (some ⟨sb, 0, none⟩), .string K, .int .i64 m] w (SPost w sb eb n (0, cl) ([78, 79, 84, 32, 78, 85, 77, 66, 69, 82], toStore x rs)) := by
  have HB := Hid.of h
  have HS := Hid.of hs
  have hsb := h.lt.1
  have hsm := hs.small p (find_mem hfr).1
  have HG := Hid.of hG
  have hvs : (⟨p.1.value.toArray⟩ : ByteArray).size = p.1.value.length := rfl
  have hu9 : x.uses ≤ 100000000000 := Nat.le_trans hs.uses hn
  have HFR : Hid (findR rs k = some p) := hfr
  obtain ⟨pk, hpk1⟩ : ∃ pk, pk = (⟨p.1.key.toArray⟩ : ByteArray) := ⟨_, rfl⟩
  obtain ⟨pv, hpv1⟩ : ∃ pv, pv = (⟨p.1.value.toArray⟩ : ByteArray) := ⟨_, rfl⟩
  have eV : entV p = .agg #[.string pk, .string pv, .int .i64 p.1.flags, .int .i64 p.1.mark, .int .i64 p.1.stop, .int .i64 p.2] := by rw [hpk1, hpv1]; rfl
  have HEV := Hid.of eV
  have HP1 := Hid.of hpk1
  have HP2 := Hid.of hpv1
  have cN : ∀ W, Calls Tryz.prog 212 #[.string pv] W fun e w' => e = .returned (.tuple #[.int .i64 0, .bool false]) ∧ Below W.heap.size W w' := fun W => numberOf_bad pv W (by rw [hpv1, hvs]; have := hsm.2.1; omega) (by rw [hpv1]; exact hnum)
  have HEC : Hid (entC p = #[.string pk, .string pv, .int .i64 p.1.flags, .int .i64 p.1.mark, .int .i64 p.1.stop, .int .i64 p.2]) := by show _ = _; rw [hpk1, hpv1]; rfl
  clear h hs hfr hpk1 hpv1 hsm hvs hnum hG
  go_enter_defers Tryz.func192, Tryz.ntmps192
  go_wp2_with (first
    | (go_at_call 90; refine (lock_c HB.out).mono ?_; rintro e w1 ⟨rfl, hB1, hT1⟩; have HB1 := Hid.of hB1; have HT1 := Hid.of hT1; have c3 := hB1.c3; have hsb1 := hB1.lt.1; obtain ⟨D, HD, h1, h2⟩ := hB1.look_some HFR.out; clear hB1 hT1)
    | (at_lookup; refine lookup_ent _ rfl _ _ 153 rfl 9 164 keyed Tryz.underlying153 (zeroEnt _) eb rs.length D rfl HD.out _ _ rfl hkey p true h1 (h2 _) ?_; rw [eV]; clear eV))
  have hG2 := Gi.made HB1.out p
  have HG2 := Hid.of hG2
  go_wp2_with (go_at_call 212; refine (cN _).mono ?_; rintro e w3 ⟨rfl, hb3⟩)
  have hG3 := HG2.out.below (by rw [show entC p = _ from HEC.out]; exact hb3)
  refine leaves_cons (f := 91) (args := #[.pointer (some ⟨sb, 0, none⟩)]) (by simp) (by simp [go_sem]) ?_
  refine (unlock_c hG3.box .returning).mono ?_
  rintro e u' w4 ⟨rfl, rfl, hB4, hT4⟩
  exact ⟨_, results_tmp rfl _ _ _, rfl, x, rs, hB4, HS.out.mono (Nat.le_succ n), rfl, (HT1.out.trans hG3.turn).trans hT4⟩
end Go.Proofs.YtdpnpcjbjjjceaaGreatDoor.S
namespace Go.Proofs.YtdpnpcjbjjjceaaGreatDoor.S
open Go.RowKit Go.Maps Go.MuLone Go.Proofs.YtdpnpcjbjjjceaaGreatDoor
variable {cl : Nat}

set_option maxRecDepth 20000 in
theorem incr_large (w : World) (sb eb : Nat) (x : Num) (rs : List Row) (h : Box w sb eb (0, cl) x rs) (n : Nat) (hs : Sound n x rs) (hn : n ≤ 100000000000) (k : M.Bytes) (K : ByteArray) (hkey : keyOf Tryz.prog 9 (.string K) = some (.string k)) (m : Nat) (hm : m ≤ 999999999) (hG : Glob w) (h8 : 8 ≤ sb ∧ 8 ≤ eb) (p : Row) (hfr : findR rs k = some p) (hnum : M.numeric p.1.value = true) (hst : M.store (toStore x rs) { p.1 with value := M.dig (M.num p.1.value + m) } = ([84, 79, 79, 32, 76, 65, 82, 71, 69], toStore x rs)) :
    Calls Tryz.prog 192 #[.pointer (some ⟨sb, 0, none⟩), .string K, .int .i64 m] w (SPost w sb eb n (0, cl) ([84, 79, 79, 32, 76, 65, 82, 71, 69], toStore x rs)) := by
  have HB := Hid.of h
  have HS := Hid.of hs
  have hsb := h.lt.1
  have hsm := hs.small p (find_mem hfr).1
  have HG := Hid.of hG
  have hvs : (⟨p.1.value.toArray⟩ : ByteArray).size = p.1.value.length := rfl
  have hu9 : x.uses ≤ 100000000000 := Nat.le_trans hs.uses hn
  have H8 : Hid (∀ k, ofStore sb eb k → 8 ≤ k) := by rintro k (h9 | h9) <;> omega
  have HFR : Hid (findR rs k = some p) := hfr
  obtain ⟨pk, hpk1⟩ : ∃ pk, pk = (⟨p.1.key.toArray⟩ : ByteArray) := ⟨_, rfl⟩
  obtain ⟨pv, hpv1⟩ : ∃ pv, pv = (⟨p.1.value.toArray⟩ : ByteArray) := ⟨_, rfl⟩
  have eV : entV p = .agg #[.string pk, .string pv, .int .i64 p.1.flags, .int .i64 p.1.mark, .int .i64 p.1.stop, .int .i64 p.2] := by rw [hpk1, hpv1]; rfl
  have HEV := Hid.of eV
  have HP1 := Hid.of hpk1
  have HP2 := Hid.of hpv1
  have hv9 : p.1.value.length ≤ 9 := by
    unfold M.numeric at hnum
    simp only [Bool.and_eq_true, decide_eq_true_eq] at hnum
    exact hnum.1.2
  have hN9 := (numeric_num hnum).2
  have hF2 : Fits { p.1 with value := M.dig (M.num p.1.value + m) } := ⟨hsm.1, Nat.le_trans (M.dig_le _) (by decide), hsm.2.2.1, hsm.2.2.2.2⟩
  have cN : ∀ W, Calls Tryz.prog 212 #[.string pv] W fun e w' => e = .returned (.tuple #[.int .i64 (M.num p.1.value), .bool true]) ∧ Below W.heap.size W w' := fun W => by
    have := numberOf_good pv W (by rw [hpv1, hvs]; omega) (by rw [hpv1]; exact hnum)
    rw [hpv1] at this ⊢
    exact this
  have cI : Hid (∀ W, Glob W → Calls Tryz.prog 188 #[.int .i64 ((M.num p.1.value : Int) + m)] W fun e w' => e = .returned (.string ⟨(M.dig (M.num p.1.value + m)).toArray⟩) ∧ Below W.heap.size W w') := fun W h => itoa_c (M.num p.1.value + m) W (by omega) h
  have cP : Hid (∀ W, Box W sb eb (1, cl) x rs → Calls Tryz.prog 200 #[.pointer (some ⟨sb, 0, none⟩), .agg #[.string pk, .string ⟨(M.dig (M.num p.1.value + m)).toArray⟩, .int .i64 p.1.flags], .int .i64 p.1.stop] W fun e w' => e = .returned (.string ⟨#[84, 79, 79, 32, 76, 65, 82, 71, 69]⟩) ∧ ∃ x' rs', Box w' sb eb (1, cl) x' rs' ∧ Sound (n + 1) x' rs' ∧ toStore x' rs' = toStore x rs ∧ Turn (ofStore sb eb) W w') := fun W hW => by
    have := put_c W sb eb (1, cl) x rs hW n hs hn { p.1 with value := M.dig (M.num p.1.value + m) } hF2 pk ⟨(M.dig (M.num p.1.value + m)).toArray⟩ hpk1 rfl p.1.flags p.1.stop rfl rfl
    rw [hst] at this
    exact this
  have hsum : (M.num p.1.value : Int) + m ≤ 2000000000 := by omega
  have HEC : Hid (entC p = #[.string pk, .string pv, .int .i64 p.1.flags, .int .i64 p.1.mark, .int .i64 p.1.stop, .int .i64 p.2]) := by show _ = _; rw [hpk1, hpv1]; rfl
  obtain ⟨N9, hN99⟩ : ∃ N9, N9 = M.num p.1.value := ⟨_, rfl⟩
  obtain ⟨S9, hS99⟩ : ∃ S9, S9 = (⟨(M.dig (M.num p.1.value + m)).toArray⟩ : ByteArray) := ⟨_, rfl⟩
  rw [← hS99] at cI cP
  rw [← hN99] at cN cI hN9 hsum
  have HS9 := Hid.of hS99
  have HR9 : Hid (toStore x rs = toStore x rs) := rfl
  clear h hs hfr hpk1 hpv1 hsm hvs hnum hG hst h8 hF2 hN99 hS99
  go_enter_defers Tryz.func192, Tryz.ntmps192
  go_wp2_with (first
    | (go_at_call 90; refine (lock_c HB.out).mono ?_; rintro e w1 ⟨rfl, hB1, hT1⟩; have HB1 := Hid.of hB1; have HT1 := Hid.of hT1; have c3 := hB1.c3; have hsb1 := hB1.lt.1; obtain ⟨D, HD, h1, h2⟩ := hB1.look_some HFR.out; clear hB1 hT1)
    | (at_lookup; refine lookup_ent _ rfl _ _ 153 rfl 9 164 keyed Tryz.underlying153 (zeroEnt _) eb rs.length D rfl HD.out _ _ rfl hkey p true h1 (h2 _) ?_; rw [eV]; clear eV))
  have HG2 := Hid.of (Gi.made HB1.out p)
  go_wp2_with (go_at_call 212; refine (cN _).mono ?_; rintro e w3 ⟨rfl, hb3⟩; have HG3 := Hid.of (HG2.out.below (by rw [show entC p = _ from HEC.out]; exact hb3)); clear hb3)
  refine (cI.out _ (HG.out.turn (HT1.out.trans HG3.out.turn) H8.out)).mono ?_
  rintro e w4 ⟨rfl, hb4⟩
  have HG4 := Hid.of (HG3.out.below hb4)
  clear hb4
  obtain ⟨i0, i2, i4, _⟩ := HG4.out.k.s
  rw [← HP1.out] at i0
  go_wp2_with (go_at_call 200; refine (cP.out _ HG4.out.box).mono ?_; rintro e w5 ⟨rfl, x5, rs5, hB5, hS5, hE5, hT5⟩)
  refine leaves_cons (f := 91) (args := #[.pointer (some ⟨sb, 0, none⟩)]) (by simp) (by simp [go_sem]) ?_
  refine (unlock_c hB5 .returning).mono ?_
  rintro e u' w6 ⟨rfl, rfl, hB6, hT6⟩
  exact ⟨_, results_tmp rfl _ _ _, rfl, x5, rs5, hB6, hS5, hE5, ((HT1.out.trans HG4.out.turn).trans hT5).trans hT6⟩

set_option maxRecDepth 20000 in
theorem incr_ok (w : World) (sb eb : Nat) (x : Num) (rs : List Row) (h : Box w sb eb (0, cl) x rs) (n : Nat) (hs : Sound n x rs) (hn : n ≤ 100000000000) (k : M.Bytes) (K : ByteArray) (hkey : keyOf Tryz.prog 9 (.string K) = some (.string k)) (m : Nat) (hm : m ≤ 999999999) (hG : Glob w) (h8 : 8 ≤ sb ∧ 8 ≤ eb) (p : Row) (hfr : findR rs k = some p) (hnum : M.numeric p.1.value = true) (s2 : M.Store) (hst : M.store (toStore x rs) { p.1 with value := M.dig (M.num p.1.value + m) } = ([83, 84, 79, 82, 69, 68], s2)) :
    Calls Tryz.prog 192 #[.pointer (some ⟨sb, 0, none⟩), .string K, .int .i64 m] w (SPost w sb eb n (0, cl) (M.dig (M.num p.1.value + m), s2)) := by
  have HB := Hid.of h
  have HS := Hid.of hs
  have hsb := h.lt.1
  have hsm := hs.small p (find_mem hfr).1
  have HG := Hid.of hG
  have hvs : (⟨p.1.value.toArray⟩ : ByteArray).size = p.1.value.length := rfl
  have hu9 : x.uses ≤ 100000000000 := Nat.le_trans hs.uses hn
  have H8 : Hid (∀ k, ofStore sb eb k → 8 ≤ k) := by rintro k (h9 | h9) <;> omega
  have HFR : Hid (findR rs k = some p) := hfr
  obtain ⟨pk, hpk1⟩ : ∃ pk, pk = (⟨p.1.key.toArray⟩ : ByteArray) := ⟨_, rfl⟩
  obtain ⟨pv, hpv1⟩ : ∃ pv, pv = (⟨p.1.value.toArray⟩ : ByteArray) := ⟨_, rfl⟩
  have eV : entV p = .agg #[.string pk, .string pv, .int .i64 p.1.flags, .int .i64 p.1.mark, .int .i64 p.1.stop, .int .i64 p.2] := by rw [hpk1, hpv1]; rfl
  have HEV := Hid.of eV
  have HP1 := Hid.of hpk1
  have HP2 := Hid.of hpv1
  have hv9 : p.1.value.length ≤ 9 := by
    unfold M.numeric at hnum
    simp only [Bool.and_eq_true, decide_eq_true_eq] at hnum
    exact hnum.1.2
  have hN9 := (numeric_num hnum).2
  have hF2 : Fits { p.1 with value := M.dig (M.num p.1.value + m) } := ⟨hsm.1, Nat.le_trans (M.dig_le _) (by decide), hsm.2.2.1, hsm.2.2.2.2⟩
  have cN : ∀ W, Calls Tryz.prog 212 #[.string pv] W fun e w' => e = .returned (.tuple #[.int .i64 (M.num p.1.value), .bool true]) ∧ Below W.heap.size W w' := fun W => by
    have := numberOf_good pv W (by rw [hpv1, hvs]; omega) (by rw [hpv1]; exact hnum)
    rw [hpv1] at this ⊢
    exact this
  have cI : Hid (∀ W, Glob W → Calls Tryz.prog 188 #[.int .i64 ((M.num p.1.value : Int) + m)] W fun e w' => e = .returned (.string ⟨(M.dig (M.num p.1.value + m)).toArray⟩) ∧ Below W.heap.size W w') := fun W h => itoa_c (M.num p.1.value + m) W (by omega) h
  have cP : Hid (∀ W, Box W sb eb (1, cl) x rs → Calls Tryz.prog 200 #[.pointer (some ⟨sb, 0, none⟩), .agg #[.string pk, .string ⟨(M.dig (M.num p.1.value + m)).toArray⟩, .int .i64 p.1.flags], .int .i64 p.1.stop] W fun e w' => e = .returned (.string ⟨#[83, 84, 79, 82, 69, 68]⟩) ∧ ∃ x' rs', Box w' sb eb (1, cl) x' rs' ∧ Sound (n + 1) x' rs' ∧ toStore x' rs' = s2 ∧ Turn (ofStore sb eb) W w') := fun W hW => by
    have := put_c W sb eb (1, cl) x rs hW n hs hn { p.1 with value := M.dig (M.num p.1.value + m) } hF2 pk ⟨(M.dig (M.num p.1.value + m)).toArray⟩ hpk1 rfl p.1.flags p.1.stop rfl rfl
    rw [hst] at this
    exact this
  have hsum : (M.num p.1.value : Int) + m ≤ 2000000000 := by omega
  have HEC : Hid (entC p = #[.string pk, .string pv, .int .i64 p.1.flags, .int .i64 p.1.mark, .int .i64 p.1.stop, .int .i64 p.2]) := by show _ = _; rw [hpk1, hpv1]; rfl
  obtain ⟨N9, hN99⟩ : ∃ N9, N9 = M.num p.1.value := ⟨_, rfl⟩
  obtain ⟨S9, hS99⟩ : ∃ S9, S9 = (⟨(M.dig (M.num p.1.value + m)).toArray⟩ : ByteArray) := ⟨_, rfl⟩
  rw [← hS99] at cI cP
  rw [← hN99] at cN cI hN9 hsum
  have HS9 := Hid.of hS99
  have HR9 : Hid (toStore x rs = toStore x rs) := rfl
  clear h hs hfr hpk1 hpv1 hsm hvs hnum hG hst h8 hF2 hN99 hS99
  go_enter_defers Tryz.func192, Tryz.ntmps192
  go_wp2_with (first
    | (go_at_call 90; refine (lock_c HB.out).mono ?_; rintro e w1 ⟨rfl, hB1, hT1⟩; have HB1 := Hid.of hB1; have HT1 := Hid.of hT1; have c3 := hB1.c3; have hsb1 := hB1.lt.1; obtain ⟨D, HD, h1, h2⟩ := hB1.look_some HFR.out; clear hB1 hT1)
    | (at_lookup; refine lookup_ent _ rfl _ _ 153 rfl 9 164 keyed Tryz.underlying153 (zeroEnt _) eb rs.length D rfl HD.out _ _ rfl hkey p true h1 (h2 _) ?_; rw [eV]; clear eV))
  have HG2 := Hid.of (Gi.made HB1.out p)
  go_wp2_with (go_at_call 212; refine (cN _).mono ?_; rintro e w3 ⟨rfl, hb3⟩; have HG3 := Hid.of (HG2.out.below (by rw [show entC p = _ from HEC.out]; exact hb3)); clear hb3)
  refine (cI.out _ (HG.out.turn (HT1.out.trans HG3.out.turn) H8.out)).mono ?_
  rintro e w4 ⟨rfl, hb4⟩
  have HG4 := Hid.of (HG3.out.below hb4)
  clear hb4
  obtain ⟨i0, i2, i4, _⟩ := HG4.out.k.s
  rw [← HP1.out] at i0
  go_wp2_with (go_at_call 200; refine (cP.out _ HG4.out.box).mono ?_; rintro e w5 ⟨rfl, x5, rs5, hB5, hS5, hE5, hT5⟩)
  refine leaves_cons (f := 91) (args := #[.pointer (some ⟨sb, 0, none⟩)]) (by simp) (by simp [go_sem]) ?_
  refine (unlock_c hB5 .returning).mono ?_
  rintro e u' w6 ⟨rfl, rfl, hB6, hT6⟩
  exact ⟨_, results_tmp rfl _ _ _, (by rw [← HS9.out]; rfl), x5, rs5, hB6, hS5, hE5, ((HT1.out.trans HG4.out.turn).trans hT5).trans hT6⟩
end Go.Proofs.YtdpnpcjbjjjceaaGreatDoor.S
