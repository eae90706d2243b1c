import Derived.Test.YtdpnpcjbjjjceaaDoorCasWalks
set_option linter.unusedSimpArgs false
set_option linter.unusedVariables false
namespace Go.Proofs.YtdpnpcjbjjjceaaDoor
open Go.RowKit

def pFits (rules : List (Bool × Int)) (ws : List ByteArray) : Bool :=
  match rules, ws with
  | (b, m) :: r, x :: xs => P.pAllowsS b m x && pFits r xs
  | _, _ => true
theorem pFits_step (rules : List (Bool × Int)) (ws : List ByteArray) (k : Nat) (b : Bool) (m : Int) (x : ByteArray) (h1 : rules[k]? = some (b, m)) (h2 : ws[k]? = some x) :
    pFits (rules.drop k) (ws.drop k) = (P.pAllowsS b m x && pFits (rules.drop (k + 1)) (ws.drop (k + 1))) := by
  obtain ⟨l1, e1⟩ := List.getElem?_eq_some_iff.1 h1
  obtain ⟨l2, e2⟩ := List.getElem?_eq_some_iff.1 h2
  rw [List.drop_eq_getElem_cons l1, List.drop_eq_getElem_cons l2, e1, e2]
  rfl
theorem pFits_end (rules : List (Bool × Int)) (ws : List ByteArray) (k : Nat) (h : ws.length ≤ k) : pFits (rules.drop k) (ws.drop k) = true := by
  rw [List.drop_eq_nil_of_le h]; unfold pFits; split <;> simp_all

theorem flat_get : ∀ (rules : List (Bool × Int)) (k : Nat) (b : Bool) (m : Int), rules[k]? = some (b, m) → (flat rules)[k * 2]? = some (.bool b) ∧ (flat rules)[k * 2 + 1]? = some (.int .i64 m)
  | [], k, b, m, h => by simp at h
  | (b', m') :: r, 0, b, m, h => by simp at h; obtain ⟨rfl, rfl⟩ := h; exact ⟨rfl, rfl⟩
  | (b', m') :: r, k + 1, b, m, h => by
    have := flat_get r k b m (by simpa using h)
    have e : (k + 1) * 2 = k * 2 + 1 + 1 := by omega
    rw [e]
    exact this

def fitsV (least : Nat) (rules : List (Bool × Int)) (ws : List ByteArray) : Bool := decide (least ≤ ws.length) && decide (ws.length ≤ rules.length) && pFits rules ws

set_option maxHeartbeats 2000000 in
/-- the rules lie in block g, the words from offset o of block q on -/
theorem fits_c (least n : Nat) (rules : List (Bool × Int)) (ws : List ByteArray) (a : Option Addr) (q o cap : Nat) (w : World) (hn : rules.length = n) (hn10 : n ≤ 10)
    (ha : rules = [] ∨ ∃ g, a = some ⟨g, 0, none⟩ ∧ w.heap[g]? = some (.cells (flat rules).toArray 39 (0, 0)))
    (hq : q < w.heap.size) (hw : ∀ j x, ws[j]? = some x → w.cell? ⟨q, o + j, none⟩ = some (.string x) ∧ x.size ≤ 281474976710656) (_hl : least ≤ 10) (hE : Errs w) (m : Nat) (hm : ws.length = m) (hm63 : m ≤ 4294967296) :
    Calls Tryd.prog 11 #[.agg #[.int .i64 least, .slice a n n], .slice (some ⟨q, o, none⟩) m cap] w fun e w' => e = .returned (.bool (fitsV least rules ws)) ∧ Below w.heap.size w w' := by
  have HE : Hid (Errs w) := hE
  have HW : Hid (∀ j x, ws[j]? = some x → w.cell? ⟨q, o + j, none⟩ = some (.string x) ∧ x.size ≤ 281474976710656) := hw
  have HN : Hid (rules.length = n) := hn
  have HM : Hid (ws.length = m) := hm
  have HA : Hid (rules = [] ∨ ∃ g, a = some ⟨g, 0, none⟩ ∧ w.heap[g]? = some (.cells (flat rules).toArray 39 (0, 0))) := ha
  clear hE hw hn hm ha
  by_cases h1 : m < least
  · have k1 : (m : Int) < least := by omega
    have HF : Hid (fitsV least rules ws = false) := by
      show _ = _
      unfold fitsV; rw [HM.out, show decide (least ≤ m) = false from decide_eq_false (by omega)]; rfl
    go_enter Tryd.func11, Tryd.ntmps11
    go_wp2
    go_ret
    exact ⟨by rw [HF.out]; rfl, (Below.refl _ _).alloc (Nat.le_refl _) _⟩
  have k1 : ¬ (m : Int) < least := by omega
  by_cases h2 : n < m
  · have k2 : (n : Int) < m := by omega
    have HF : Hid (fitsV least rules ws = false) := by
      show _ = _
      unfold fitsV; rw [HM.out, HN.out, show decide (m ≤ n) = false from decide_eq_false (by omega)]; simp
    go_enter Tryd.func11, Tryd.ntmps11
    go_wp2
    go_ret
    exact ⟨by rw [HF.out]; rfl, (Below.refl _ _).alloc (Nat.le_refl _) _⟩
  have k2 : ¬ (n : Int) < m := by omega
  have HF : Hid (fitsV least rules ws = pFits rules ws) := by
    show _ = _
    unfold fitsV; rw [HM.out, HN.out, show decide (m ≤ n) = true from decide_eq_true (by omega), show decide (least ≤ m) = true from decide_eq_true (by omega)]; simp
  go_enter Tryd.func11, Tryd.ntmps11
  go_wp2_with fail
  go_loopw [22] (fun i wx => ∃ k : Nat, k ≤ m ∧ i = .int .i64 k ∧ Below (w.heap.size + 1) (w.alloc (.cells #[.int .i64 least, .slice a n n] 34)) wx ∧ pFits rules ws = pFits (rules.drop k) (ws.drop k)) (fun i _ => m - (intOf i).toNat)
  case atStart => exact ⟨0, by omega, rfl, Below.refl _ _, by simp⟩
  case round =>
    obtain ⟨k, hk, rfl, hbx, hfa⟩ := hrel
    have HFA : Hid (pFits rules ws = pFits (rules.drop k) (ws.drop k)) := hfa
    clear hfa
    have hb0 : Below w.heap.size w wr := ((Below.refl _ _).alloc (Nat.le_refl _) _).trans (hbx.mono (by omega))
    have hszx : w.heap.size < wr.heap.size := by have := hbx.size; simp at this; omega
    have c1 : wr.cell? ⟨w.heap.size, 1, none⟩ = some (.slice a n n) := (hbx.cell (p := ⟨w.heap.size, 1, none⟩) (by simp)).trans (by simp)
    have HBX : Hid (Below (w.heap.size + 1) (w.alloc (.cells #[.int .i64 least, .slice a n n] 34)) wr) := hbx
    clear hbx
    by_cases hlt : k < m
    · have klt : (k : Int) < m := by omega
      obtain ⟨x, hx⟩ : ∃ x, ws[k]? = some x := ⟨_, List.getElem?_eq_getElem (by rw [HM.out]; exact hlt)⟩
      obtain ⟨⟨b, mo⟩, hr⟩ : ∃ r, rules[k]? = some r := ⟨_, List.getElem?_eq_getElem (by rw [HN.out]; omega)⟩
      obtain ⟨hcx, hxs⟩ := HW.out k x hx
      have cx : wr.cell? ⟨q, o + k, none⟩ = some (.string x) := (hb0.cell (p := ⟨q, o + k, none⟩) hq).trans hcx
      have HA' := HA.out
      have hne : rules ≠ [] := by intro h; rw [h] at hr; simp at hr
      obtain ⟨g, rfl, hg⟩ : ∃ g, a = some ⟨g, 0, none⟩ ∧ w.heap[g]? = some (.cells (flat rules).toArray 39 (0, 0)) := by
        rcases HA' with h | h
        · exact absurd h hne
        · exact h
      have hgl : g < w.heap.size := (Array.getElem?_eq_some_iff.1 hg).1
      have hgx : wr.heap[g]? = some (.cells (flat rules).toArray 39 (0, 0)) := (hb0.block g hgl).trans hg
      obtain ⟨q1, q2⟩ := flat_get rules k b mo hr
      have r1 : wr.cell? ⟨g, k * 2, none⟩ = some (.bool b) := heap_cell hgx (k * 2) (by simpa using q1)
      have r2 : wr.cell? ⟨g, k * 2 + 1, none⟩ = some (.int .i64 mo) := heap_cell hgx (k * 2 + 1) (by simpa using q2)
      have HST : Hid (pFits (rules.drop k) (ws.drop k) = (P.pAllowsS b mo x && pFits (rules.drop (k + 1)) (ws.drop (k + 1)))) := pFits_step rules ws k b mo x hr hx
      have kln : (k : Int) < n := by omega
      have cAl := allows_c b mo x wr hxs (HE.out.below hb0)
      clear HA' hne hgx q1 q2 hr hx hcx hg
      cases hal : P.pAllowsS b mo x with
      | false =>
        rw [hal] at cAl
        have HFF : Hid (fitsV least rules ws = false) := by
          show _ = _
          rw [HF.out, HFA.out, HST.out, hal]; rfl
        clear hal
        go_wp2_with (go_at_call 22; refine cAl.mono ?_; rintro e w2 ⟨rfl, hb2⟩)
        go_ret
        exact ⟨by rw [HFF.out]; rfl, hb0.trans (hb2.mono hb0.size)⟩
      | true =>
        rw [hal] at cAl
        have HFF : Hid (pFits rules ws = pFits (rules.drop (k + 1)) (ws.drop (k + 1))) := by
          show _ = _
          rw [HFA.out, HST.out, hal]; rfl
        clear hal
        go_wp2_with (go_at_call 22; refine cAl.mono ?_; rintro e w2 ⟨rfl, hb2⟩)
        go_roundw
        case rel => exact ⟨k + 1, by omega, by go_num, HBX.out.trans (hb2.mono hszx), HFF.out⟩
        case measure => simp [intOf] <;> omega
    · have klt : ¬ (k : Int) < m := by omega
      have HFF : Hid (fitsV least rules ws = true) := by
        show _ = _
        rw [HF.out, HFA.out]; exact pFits_end _ _ _ (by rw [HM.out]; omega)
      go_wp2
      go_ret
      exact ⟨by rw [HFF.out]; rfl, hb0⟩
end Go.Proofs.YtdpnpcjbjjjceaaDoor
