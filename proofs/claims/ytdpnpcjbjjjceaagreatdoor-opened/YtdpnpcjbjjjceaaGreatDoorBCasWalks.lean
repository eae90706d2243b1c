import Derived.Deep.RegionHeld3
import Derived.Deep.DeepCutAuto
import Derived.Test.YtdpnpcjbjjjceaaGreatDoorBShapeWalks
set_option linter.unusedSimpArgs false
set_option linter.unusedVariables false
namespace Go.Proofs.YtdpnpcjbjjjceaaGreatDoor
open Go.RowKit

theorem heap_cell {w : World} {g : Nat} {c : Array Value} {t : TypeId} {fz : Nat × Nat} {v : Value} (h : w.heap[g]? = some (.cells c t fz)) (j : Nat) (hj : c[j]? = some v) : w.cell? ⟨g, j, none⟩ = some v := by
  simp only [World.cell?, h]; simpa using hj
theorem heap_frozen {w : World} {g : Nat} {c : Array Value} {t : TypeId} (h : w.heap[g]? = some (.cells c t (0, 0))) (j : Nat) : w.frozen? ⟨g, j, none⟩ = false := by
  simp [World.frozen?, h]
theorem cell_alloc_keep {W : World} {o : Obj} {a : Addr} {v : Value} (h : W.cell? a = some v) : (W.alloc o).cell? a = some v := by
  rw [World.cell?_alloc_old _ _ _ (Nat.ne_of_lt (World.block_lt_of_cell? _ _ h))]; exact h
theorem cell_drew_keep {W : World} {a : Addr} {v : Value} (h : W.cell? a = some v) : W.drew.cell? a = some v := h
theorem frozen_alloc_keep {W : World} {o : Obj} {a : Addr} (hl : a.block < W.heap.size) (h : W.frozen? a = false) : (W.alloc o).frozen? a = false := by
  rw [World.frozen?_of_block (w := W) (Below.heap_alloc W o a.block hl)]; exact h
theorem cell_alloc_at {W : World} {c : Array Value} {t : TypeId} {g j : Nat} {v : Value} (hg : g = W.heap.size) (hj : c[j]? = some v) : (W.alloc (.cells c t)).cell? ⟨g, j, none⟩ = some v := by
  subst hg
  refine heap_cell (c := c) (t := t) (fz := (0, 0)) ?_ j hj
  show (W.heap.push _)[W.heap.size]? = _
  rw [Array.getElem?_push, if_pos rfl]
theorem cell_set_keep {W : World} {p a : Addr} {u v : Value} (hn : a.block ≠ p.block) (h : W.cell? a = some v) : (W.setCell p u).cell? a = some v := by
  rw [World.cell?_of_block (w := W) (Below.heap_setCell W p u a.block hn)]; exact h
theorem alloc_at (W : World) (o : Obj) (g : Nat) (h : g = W.heap.size) : (W.alloc o).heap[g]? = some o := by
  subst h
  show (W.heap.push o)[W.heap.size]? = some o
  rw [Array.getElem?_push, if_pos rfl]
theorem alloc_old (W : World) (o o' : Obj) (g : Nat) (h : W.heap[g]? = some o') : (W.alloc o).heap[g]? = some o' := by
  have hg : g < W.heap.size := (Array.getElem?_eq_some_iff.1 h).1
  show (W.heap.push o)[g]? = some o'
  rw [Array.getElem?_push, if_neg (by omega)]; exact h
theorem heap_at_drew (W : World) (o1 o2 : Obj) (g : Nat) (h : g = W.heap.size) : ((W.alloc o1).alloc o2).drew.heap[g]? = some o1 := heap_at W o1 o2 g h

set_option maxHeartbeats 1000000 in
theorem shapeOf_incr (w : World) : Calls Tryz.prog 60 #[.string ⟨#[105, 110, 99, 114]⟩] w (ShapePost w 2 [(false, 20), (true, 999999999)]) := by
  go_enter Tryz.func60, Tryz.ntmps60
  go_upto_region 2 with (first
    | (go_at_call 75; refine (text_c _ _).mono ?_; rintro e w1 ⟨rfl, hw⟩; rw [hw]; clear hw)
    | (go_at_call 76; refine (number_c _ _).mono ?_; rintro e w1 ⟨rfl, hw⟩; rw [hw]; clear hw)
    | (go_at_call 77; refine (allOf_c _ _ _ _).mono ?_; rintro e w1 ⟨rfl, hw⟩; rw [hw]; clear hw))
  go_cut [4, 5, 6, 7] (fun v4 v5 v6 v7 W => v4 = .pointer (some ⟨w.heap.size + 3, 0, none⟩) ∧ v5 = .pointer (some ⟨w.heap.size + 4, 0, none⟩) ∧ v6 = .pointer (some ⟨w.heap.size + 7, 0, none⟩) ∧ v7 = .pointer (some ⟨w.heap.size + 8, 0, none⟩) ∧
    W.heap.size = w.heap.size + 9 ∧ Below w.heap.size w W ∧ W.heap[w.heap.size]? = some (.cells #[.int .i64 0, .slice none 0 0] 110 (0, 0)) ∧ W.heap[w.heap.size + 3]? = some (.cells #[.bool false, .int .i64 20] 115 (0, 0)) ∧
    W.heap[w.heap.size + 4]? = some (.cells #[.bool true, .int .i64 1000000] 115 (0, 0)) ∧ W.heap[w.heap.size + 7]? = some (.cells #[.bool true, .int .i64 65535] 115 (0, 0)) ∧ W.heap[w.heap.size + 8]? = some (.cells #[.bool true, .int .i64 100] 115 (0, 0)))
  case first =>
    go_wp2_with (first
    | (go_at_call 75; refine (text_c _ _).mono ?_; rintro e w1 ⟨rfl, hw⟩; rw [hw]; clear hw)
    | (go_at_call 76; refine (number_c _ _).mono ?_; rintro e w1 ⟨rfl, hw⟩; rw [hw]; clear hw)
    | (go_at_call 77; refine (allOf_c _ _ _ _).mono ?_; rintro e w1 ⟨rfl, hw⟩; rw [hw]; clear hw))
    go_meet
    case rel =>
      refine ⟨rfl, rfl, rfl, rfl, by simp, ?_, ?_, ?_, ?_, ?_, ?_⟩
      · repeat (first | exact Below.refl _ _ | refine Below.alloc ?_ (by simp; omega) _ | refine Below.alloc ?_ (by simp) _)
      all_goals repeat (first | exact alloc_at _ _ _ (by simp) | refine alloc_old _ _ _ _ ?_)
  case rest =>
    obtain ⟨rfl, rfl, rfl, rfl, hsz, hbel, h0, h3, h4, h7, h8⟩ := hcut
    have c00 := heap_cell h0 0 rfl
    have c01 := heap_cell h0 1 rfl
    have f00 := heap_frozen h0 0
    have f01 := heap_frozen h0 1
    have c30 := heap_cell h3 0 rfl
    have c31 := heap_cell h3 1 rfl
    have c40 := heap_cell h4 0 rfl
    have c41 := heap_cell h4 1 rfl
    have c70 := heap_cell h7 0 rfl
    have c71 := heap_cell h7 1 rfl
    have c80 := heap_cell h8 0 rfl
    have c81 := heap_cell h8 1 rfl
    have HB : Hid (Below w.heap.size w wc) := hbel
    clear hbel h0 h3 h4 h7 h8
    go_wp2_with (first
    | (go_at_call 75; refine (text_c _ _).mono ?_; rintro e w1 ⟨rfl, hw⟩; rw [hw]; clear hw)
    | (go_at_call 76; refine (number_c _ _).mono ?_; rintro e w1 ⟨rfl, hw⟩; rw [hw]; clear hw)
    | (go_at_call 77; refine (allOf_c _ _ _ _).mono ?_; rintro e w1 ⟨rfl, hw⟩; rw [hw]; clear hw))
    go_region_with (first
    | (go_at_call 75; refine (text_c _ _).mono ?_; rintro e w1 ⟨rfl, hw⟩; rw [hw]; clear hw)
    | (go_at_call 76; refine (number_c _ _).mono ?_; rintro e w1 ⟨rfl, hw⟩; rw [hw]; clear hw)
    | (go_at_call 77; refine (allOf_c _ _ _ _).mono ?_; rintro e w1 ⟨rfl, hw⟩; rw [hw]; clear hw))
    all_goals go_wp2
    all_goals
      refine bodyPost_ret (v := .tuple #[.agg #[.int .i64 2, .slice (some ⟨w.heap.size + 9 + 1, 0, none⟩) 2 2], .bool true]) (by simp [results, Tryz.results60, go_sem, hsz, c00, c01]) rfl ⟨⟨_, rfl, Or.inr ⟨w.heap.size + 9 + 1, rfl, by omega, ?_⟩⟩, ?_⟩
      · exact heap_at_drew _ _ _ _ (by simp [hsz])
      · refine Below.drew ?_
        refine Below.alloc (Below.alloc (Below.alloc (Below.setCell (Below.setCell HB.out ?_ _) ?_ _) ?_ _) ?_ _) ?_ _
        all_goals first | exact Nat.le_refl _ | (simp [hsz]; done) | (simp [hsz]; omega)
end Go.Proofs.YtdpnpcjbjjjceaaGreatDoor
namespace Go.Proofs.YtdpnpcjbjjjceaaGreatDoor
open Go.RowKit

def pFits (rules : List (Bool × Int)) (ws : List ByteArray) : Bool :=
  match rules, ws with
  | (b, m) :: r, x :: xs => P.pAllowsS b m x && pFits r xs
  | _, _ => true
theorem pFits_step (rules : List (Bool × Int)) (ws : List ByteArray) (k : Nat) (b : Bool) (m : Int) (x : ByteArray) (h1 : rules[k]? = some (b, m)) (h2 : ws[k]? = some x) :
    pFits (rules.drop k) (ws.drop k) = (P.pAllowsS b m x && pFits (rules.drop (k + 1)) (ws.drop (k + 1))) := by
  obtain ⟨l1, e1⟩ := List.getElem?_eq_some_iff.1 h1
  obtain ⟨l2, e2⟩ := List.getElem?_eq_some_iff.1 h2
  rw [List.drop_eq_getElem_cons l1, List.drop_eq_getElem_cons l2, e1, e2]
  rfl
theorem pFits_end (rules : List (Bool × Int)) (ws : List ByteArray) (k : Nat) (h : ws.length ≤ k) : pFits (rules.drop k) (ws.drop k) = true := by
  rw [List.drop_eq_nil_of_le h]; unfold pFits; split <;> simp_all

theorem flat_get : ∀ (rules : List (Bool × Int)) (k : Nat) (b : Bool) (m : Int), rules[k]? = some (b, m) → (flat rules)[k * 2]? = some (.bool b) ∧ (flat rules)[k * 2 + 1]? = some (.int .i64 m)
  | [], k, b, m, h => by simp at h
  | (b', m') :: r, 0, b, m, h => by simp at h; obtain ⟨rfl, rfl⟩ := h; exact ⟨rfl, rfl⟩
  | (b', m') :: r, k + 1, b, m, h => by
    have := flat_get r k b m (by simpa using h)
    have e : (k + 1) * 2 = k * 2 + 1 + 1 := by omega
    rw [e]
    exact this

def fitsV (least : Nat) (rules : List (Bool × Int)) (ws : List ByteArray) : Bool := decide (least ≤ ws.length) && decide (ws.length ≤ rules.length) && pFits rules ws

set_option maxHeartbeats 2000000 in
/-- the rules lie in block g, the words from offset o of block q on -/
theorem fits_c (least n : Nat) (rules : List (Bool × Int)) (ws : List ByteArray) (a : Option Addr) (q o cap : Nat) (w : World) (hn : rules.length = n) (hn10 : n ≤ 10)
    (ha : rules = [] ∨ ∃ g, a = some ⟨g, 0, none⟩ ∧ w.heap[g]? = some (.cells (flat rules).toArray 115 (0, 0)))
    (hq : q < w.heap.size) (hw : ∀ j x, ws[j]? = some x → w.cell? ⟨q, o + j, none⟩ = some (.string x) ∧ x.size ≤ 281474976710656) (_hl : least ≤ 10) (hE : Errs w) (m : Nat) (hm : ws.length = m) (hm63 : m ≤ 4294967296) :
    Calls Tryz.prog 61 #[.agg #[.int .i64 least, .slice a n n], .slice (some ⟨q, o, none⟩) m cap] w fun e w' => e = .returned (.bool (fitsV least rules ws)) ∧ Below w.heap.size w w' := by
  have HE : Hid (Errs w) := hE
  have HW : Hid (∀ j x, ws[j]? = some x → w.cell? ⟨q, o + j, none⟩ = some (.string x) ∧ x.size ≤ 281474976710656) := hw
  have HN : Hid (rules.length = n) := hn
  have HM : Hid (ws.length = m) := hm
  have HA : Hid (rules = [] ∨ ∃ g, a = some ⟨g, 0, none⟩ ∧ w.heap[g]? = some (.cells (flat rules).toArray 115 (0, 0))) := ha
  clear hE hw hn hm ha
  by_cases h1 : m < least
  · have k1 : (m : Int) < least := by omega
    have HF : Hid (fitsV least rules ws = false) := by
      show _ = _
      unfold fitsV; rw [HM.out, show decide (least ≤ m) = false from decide_eq_false (by omega)]; rfl
    go_enter Tryz.func61, Tryz.ntmps61
    go_wp2
    go_ret
    exact ⟨by rw [HF.out]; rfl, (Below.refl _ _).alloc (Nat.le_refl _) _⟩
  have k1 : ¬ (m : Int) < least := by omega
  by_cases h2 : n < m
  · have k2 : (n : Int) < m := by omega
    have HF : Hid (fitsV least rules ws = false) := by
      show _ = _
      unfold fitsV; rw [HM.out, HN.out, show decide (m ≤ n) = false from decide_eq_false (by omega)]; simp
    go_enter Tryz.func61, Tryz.ntmps61
    go_wp2
    go_ret
    exact ⟨by rw [HF.out]; rfl, (Below.refl _ _).alloc (Nat.le_refl _) _⟩
  have k2 : ¬ (n : Int) < m := by omega
  have HF : Hid (fitsV least rules ws = pFits rules ws) := by
    show _ = _
    unfold fitsV; rw [HM.out, HN.out, show decide (m ≤ n) = true from decide_eq_true (by omega), show decide (least ≤ m) = true from decide_eq_true (by omega)]; simp
  go_enter Tryz.func61, Tryz.ntmps61
  go_wp2_with fail
  go_loopw [22] (fun i wx => ∃ k : Nat, k ≤ m ∧ i = .int .i64 k ∧ Below (w.heap.size + 1) (w.alloc (.cells #[.int .i64 least, .slice a n n] 110)) wx ∧ pFits rules ws = pFits (rules.drop k) (ws.drop k)) (fun i _ => m - (intOf i).toNat)
  case atStart => exact ⟨0, by omega, rfl, Below.refl _ _, by simp⟩
  case round =>
    obtain ⟨k, hk, rfl, hbx, hfa⟩ := hrel
    have HFA : Hid (pFits rules ws = pFits (rules.drop k) (ws.drop k)) := hfa
    clear hfa
    have hb0 : Below w.heap.size w wr := ((Below.refl _ _).alloc (Nat.le_refl _) _).trans (hbx.mono (by omega))
    have hszx : w.heap.size < wr.heap.size := by have := hbx.size; simp at this; omega
    have c1 : wr.cell? ⟨w.heap.size, 1, none⟩ = some (.slice a n n) := (hbx.cell (p := ⟨w.heap.size, 1, none⟩) (by simp)).trans (by simp)
    have HBX : Hid (Below (w.heap.size + 1) (w.alloc (.cells #[.int .i64 least, .slice a n n] 110)) wr) := hbx
    clear hbx
    by_cases hlt : k < m
    · have klt : (k : Int) < m := by omega
      obtain ⟨x, hx⟩ : ∃ x, ws[k]? = some x := ⟨_, List.getElem?_eq_getElem (by rw [HM.out]; exact hlt)⟩
      obtain ⟨⟨b, mo⟩, hr⟩ : ∃ r, rules[k]? = some r := ⟨_, List.getElem?_eq_getElem (by rw [HN.out]; omega)⟩
      obtain ⟨hcx, hxs⟩ := HW.out k x hx
      have cx : wr.cell? ⟨q, o + k, none⟩ = some (.string x) := (hb0.cell (p := ⟨q, o + k, none⟩) hq).trans hcx
      have HA' := HA.out
      have hne : rules ≠ [] := by intro h; rw [h] at hr; simp at hr
      obtain ⟨g, rfl, hg⟩ : ∃ g, a = some ⟨g, 0, none⟩ ∧ w.heap[g]? = some (.cells (flat rules).toArray 115 (0, 0)) := by
        rcases HA' with h | h
        · exact absurd h hne
        · exact h
      have hgl : g < w.heap.size := (Array.getElem?_eq_some_iff.1 hg).1
      have hgx : wr.heap[g]? = some (.cells (flat rules).toArray 115 (0, 0)) := (hb0.block g hgl).trans hg
      obtain ⟨q1, q2⟩ := flat_get rules k b mo hr
      have r1 : wr.cell? ⟨g, k * 2, none⟩ = some (.bool b) := heap_cell hgx (k * 2) (by simpa using q1)
      have r2 : wr.cell? ⟨g, k * 2 + 1, none⟩ = some (.int .i64 mo) := heap_cell hgx (k * 2 + 1) (by simpa using q2)
      have HST : Hid (pFits (rules.drop k) (ws.drop k) = (P.pAllowsS b mo x && pFits (rules.drop (k + 1)) (ws.drop (k + 1)))) := pFits_step rules ws k b mo x hr hx
      have kln : (k : Int) < n := by omega
      have cAl := allows_c b mo x wr hxs (HE.out.below hb0)
      clear HA' hne hgx q1 q2 hr hx hcx hg
      cases hal : P.pAllowsS b mo x with
      | false =>
        rw [hal] at cAl
        have HFF : Hid (fitsV least rules ws = false) := by
          show _ = _
          rw [HF.out, HFA.out, HST.out, hal]; rfl
        clear hal
        go_wp2_with (go_at_call 79; refine cAl.mono ?_; rintro e w2 ⟨rfl, hb2⟩)
        go_ret
        exact ⟨by rw [HFF.out]; rfl, hb0.trans (hb2.mono hb0.size)⟩
      | true =>
        rw [hal] at cAl
        have HFF : Hid (pFits rules ws = pFits (rules.drop (k + 1)) (ws.drop (k + 1))) := by
          show _ = _
          rw [HFA.out, HST.out, hal]; rfl
        clear hal
        go_wp2_with (go_at_call 79; refine cAl.mono ?_; rintro e w2 ⟨rfl, hb2⟩)
        go_roundw
        case rel => exact ⟨k + 1, by omega, by go_num, HBX.out.trans (hb2.mono hszx), HFF.out⟩
        case measure => simp [intOf] <;> omega
    · have klt : ¬ (k : Int) < m := by omega
      have HFF : Hid (fitsV least rules ws = true) := by
        show _ = _
        rw [HF.out, HFA.out]; exact pFits_end _ _ _ (by rw [HM.out]; omega)
      go_wp2
      go_ret
      exact ⟨by rw [HFF.out]; rfl, hb0⟩
end Go.Proofs.YtdpnpcjbjjjceaaGreatDoor
namespace Go.Proofs.YtdpnpcjbjjjceaaGreatDoor
open Go.RowKit
set_option maxHeartbeats 1000000 in
theorem shapeOf_cas (w : World) : Calls Tryz.prog 60 #[.string ⟨#[99, 97, 115]⟩] w (ShapePost w 5 [(false, 20), (true, 65535), (true, 1000000), (true, 100), (true, 999999999)]) := by
  go_enter Tryz.func60, Tryz.ntmps60
  go_upto_region 2 with (first
    | (go_at_call 75; refine (text_c _ _).mono ?_; rintro e w1 ⟨rfl, hw⟩; rw [hw]; clear hw)
    | (go_at_call 76; refine (number_c _ _).mono ?_; rintro e w1 ⟨rfl, hw⟩; rw [hw]; clear hw)
    | (go_at_call 77; refine (allOf_c _ _ _ _).mono ?_; rintro e w1 ⟨rfl, hw⟩; rw [hw]; clear hw))
  go_cut [4, 5, 6, 7] (fun v4 v5 v6 v7 W => v4 = .pointer (some ⟨w.heap.size + 3, 0, none⟩) ∧ v5 = .pointer (some ⟨w.heap.size + 4, 0, none⟩) ∧ v6 = .pointer (some ⟨w.heap.size + 7, 0, none⟩) ∧ v7 = .pointer (some ⟨w.heap.size + 8, 0, none⟩) ∧
    W.heap.size = w.heap.size + 9 ∧ Below w.heap.size w W ∧ W.heap[w.heap.size]? = some (.cells #[.int .i64 0, .slice none 0 0] 110 (0, 0)) ∧ W.heap[w.heap.size + 3]? = some (.cells #[.bool false, .int .i64 20] 115 (0, 0)) ∧
    W.heap[w.heap.size + 4]? = some (.cells #[.bool true, .int .i64 1000000] 115 (0, 0)) ∧ W.heap[w.heap.size + 7]? = some (.cells #[.bool true, .int .i64 65535] 115 (0, 0)) ∧ W.heap[w.heap.size + 8]? = some (.cells #[.bool true, .int .i64 100] 115 (0, 0)))
  case first =>
    go_wp2_with (first
    | (go_at_call 75; refine (text_c _ _).mono ?_; rintro e w1 ⟨rfl, hw⟩; rw [hw]; clear hw)
    | (go_at_call 76; refine (number_c _ _).mono ?_; rintro e w1 ⟨rfl, hw⟩; rw [hw]; clear hw)
    | (go_at_call 77; refine (allOf_c _ _ _ _).mono ?_; rintro e w1 ⟨rfl, hw⟩; rw [hw]; clear hw))
    go_meet
    case rel =>
      refine ⟨rfl, rfl, rfl, rfl, by simp, ?_, ?_, ?_, ?_, ?_, ?_⟩
      · repeat (first | exact Below.refl _ _ | refine Below.alloc ?_ (by simp; omega) _ | refine Below.alloc ?_ (by simp) _)
      all_goals repeat (first | exact alloc_at _ _ _ (by simp) | refine alloc_old _ _ _ _ ?_)
  case rest =>
    obtain ⟨rfl, rfl, rfl, rfl, hsz, hbel, h0, h3, h4, h7, h8⟩ := hcut
    have c00 := heap_cell h0 0 rfl
    have c01 := heap_cell h0 1 rfl
    have f00 := heap_frozen h0 0
    have f01 := heap_frozen h0 1
    have c30 := heap_cell h3 0 rfl
    have c31 := heap_cell h3 1 rfl
    have c40 := heap_cell h4 0 rfl
    have c41 := heap_cell h4 1 rfl
    have c70 := heap_cell h7 0 rfl
    have c71 := heap_cell h7 1 rfl
    have c80 := heap_cell h8 0 rfl
    have c81 := heap_cell h8 1 rfl
    have HB : Hid (Below w.heap.size w wc) := hbel
    have H30 : Hid (wc.cell? ⟨w.heap.size + 3, 0, none⟩ = some (.bool false)) := c30
    have H31 : Hid (wc.cell? ⟨w.heap.size + 3, 1, none⟩ = some (.int .i64 20)) := c31
    have H40 : Hid (wc.cell? ⟨w.heap.size + 4, 0, none⟩ = some (.bool true)) := c40
    have H41 : Hid (wc.cell? ⟨w.heap.size + 4, 1, none⟩ = some (.int .i64 1000000)) := c41
    have H70 : Hid (wc.cell? ⟨w.heap.size + 7, 0, none⟩ = some (.bool true)) := c70
    have H71 : Hid (wc.cell? ⟨w.heap.size + 7, 1, none⟩ = some (.int .i64 65535)) := c71
    have H80 : Hid (wc.cell? ⟨w.heap.size + 8, 0, none⟩ = some (.bool true)) := c80
    have H81 : Hid (wc.cell? ⟨w.heap.size + 8, 1, none⟩ = some (.int .i64 100)) := c81
    clear hbel h0 h3 h4 h7 h8
    go_wp2_with (first
    | (go_at_call 75; refine (text_c _ _).mono ?_; rintro e w1 ⟨rfl, hw⟩; rw [hw]; clear hw)
    | (go_at_call 76; refine (number_c _ _).mono ?_; rintro e w1 ⟨rfl, hw⟩; rw [hw]; clear hw)
    | (go_at_call 77; refine (allOf_c _ _ _ _).mono ?_; rintro e w1 ⟨rfl, hw⟩; rw [hw]; clear hw))
    go_region_held3 (fun w' => w'.cell? ⟨w.heap.size + 3, 0, none⟩ = some (.bool false) ∧ w'.cell? ⟨w.heap.size + 3, 1, none⟩ = some (.int .i64 20) ∧ w'.cell? ⟨w.heap.size + 7, 0, none⟩ = some (.bool true) ∧ w'.cell? ⟨w.heap.size + 7, 1, none⟩ = some (.int .i64 65535) ∧ w'.cell? ⟨w.heap.size + 4, 0, none⟩ = some (.bool true) ∧ w'.cell? ⟨w.heap.size + 4, 1, none⟩ = some (.int .i64 1000000) ∧ w'.cell? ⟨w.heap.size + 8, 0, none⟩ = some (.bool true) ∧ w'.cell? ⟨w.heap.size + 8, 1, none⟩ = some (.int .i64 100)) (first | ((refine ⟨?_, ?_, ?_, ?_, ?_, ?_, ?_, ?_⟩ <;> (repeat (with_reducible (first | assumption | exact H30.out | exact H31.out | exact H40.out | exact H41.out | exact H70.out | exact H71.out | exact H80.out | exact H81.out | refine cell_set_keep (by simp) ?_ | refine cell_drew_keep ?_ | refine cell_alloc_keep ?_)))); done) | (go_keep; done)) (first
    | (go_at_call 75; refine (text_c _ _).mono ?_; rintro e w1 ⟨rfl, hw⟩; rw [hw]; clear hw)
    | (go_at_call 76; refine (number_c _ _).mono ?_; rintro e w1 ⟨rfl, hw⟩; rw [hw]; clear hw)
    | (go_at_call 77; refine (allOf_c _ _ _ _).mono ?_; rintro e w1 ⟨rfl, hw⟩; rw [hw]; clear hw))
    all_goals go_wp2
    all_goals
      refine bodyPost_ret (v := .tuple #[.agg #[.int .i64 5, .slice (some ⟨w.heap.size + 9 + 1, 0, none⟩) 5 5], .bool true]) (by simp [results, Tryz.results60, go_sem, hsz, c00, c01]) rfl ⟨⟨_, rfl, Or.inr ⟨w.heap.size + 9 + 1, rfl, by omega, ?_⟩⟩, ?_⟩
      · exact heap_at_drew _ _ _ _ (by simp [hsz])
      · refine Below.drew ?_
        refine Below.alloc (Below.alloc (Below.alloc (Below.setCell (Below.setCell HB.out ?_ _) ?_ _) ?_ _) ?_ _) ?_ _
        all_goals first | exact Nat.le_refl _ | (simp [hsz]; done) | (simp [hsz]; omega)
end Go.Proofs.YtdpnpcjbjjjceaaGreatDoor
