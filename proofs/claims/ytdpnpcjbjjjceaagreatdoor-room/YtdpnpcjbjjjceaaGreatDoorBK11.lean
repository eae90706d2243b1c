import Derived.Laws.AppendOwn
import Derived.Laws.OwnMore
import Derived.Test.YtdpnpcjbjjjceaaGreatDoorBK10
set_option linter.unusedSimpArgs false
set_option linter.unusedVariables false
namespace Go.Proofs.YtdpnpcjbjjjceaaGreatDoor.K
open Go.RowKit Go.Proofs.YtdpnpcjbjjjceaaGreatDoor

def byteV (q : UInt8) : Value := .int .u8 (q.toNat : Int)
def movedL (l : List UInt8) (k : UInt8) (n : Nat) : List UInt8 := (k :: l.filter (fun b => decide (b ≠ k))).take n
theorem infoByte : (Tryz.prog.info? 5).map (fun i => (i.zero, i.size, i.bytes)) = some (some (.int .u8 0), 1, 1) := by kernel_rfl
theorem info_parts {x : Option TypeInfo} {z : Option Value} {a b : Nat} (h : x.map (fun i => (i.zero, i.size, i.bytes)) = some (z, a, b)) : ∃ i, x = some i ∧ i.zero = z ∧ i.size = a ∧ i.bytes = b := by
  cases x with
  | none => cases h
  | some i => simp at h; exact ⟨i, rfl, h.1, h.2.1, h.2.2⟩
theorem own_ge {w : World} {base e size n : Nat} {v : Value} {xs : List Value} (h : w.ownsRow base e size v n xs) : ∀ k, v.ownBlock = some k → base ≤ k := by
  intro k hk
  rcases h.2 with ⟨rfl, _⟩ | ⟨g, cap, cur, rfl, hb, _⟩
  · cases hk
  · cases hk; exact hb
theorem cell_new1 (W : World) (v : Value) (t : TypeId) (j : Nat) (u : Value) (h : [v][j]? = some u) : (W.alloc (.cells #[v] t)).cell? ((⟨W.heap.size, 0, none⟩ : Addr).add j) = some u := by
  cases j with
  | zero => simp at h; subst h; exact heap_cell (alloc_at W _ _ rfl) 0 rfl
  | succ j => simp at h

theorem own_slice {w : World} {b e s n : Nat} {v : Value} {l : List Value} (h : w.ownsRow b e s v n l) (hn : n ≠ 0) : ∃ g cap, v = .slice (some ⟨g, 0, none⟩) n cap := by
  rcases h.2 with ⟨_, h0⟩ | ⟨g, cap, cur, h1, _⟩
  · exact absurd h0 hn
  · exact ⟨g, cap, h1⟩
theorem own_cap {w : World} {b e s n g cap : Nat} {l : List Value} (h : w.ownsRow b e s (.slice (some ⟨g, 0, none⟩) n cap) n l) : n ≤ cap ∧ cap ≤ maxLen ∧ b ≤ g ∧ g < w.heap.size := by
  rcases h.2 with ⟨h0, _⟩ | ⟨g', cap', cur, h1, h2, h3, h4, h5, _⟩
  · cases h0
  · cases h1; exact ⟨h4, h5, h2, (Array.getElem?_eq_some_iff.1 h3).1⟩
theorem bytes_of {w : World} {base g cap : Nat} {acc : List UInt8} (h : w.ownsRow base 5 1 (.slice (some ⟨g, 0, none⟩) acc.length cap) acc.length (acc.map byteV)) (n : Nat) (hn : n ≤ acc.length) : BytesAt base w (.slice (some ⟨g, 0, none⟩) n cap) (acc.take n) := by
  obtain ⟨h1, h2, h3, h4⟩ := own_cap h
  refine ⟨_, cap, by rw [List.length_take, Nat.min_eq_left hn], by rw [List.length_take]; omega, Or.inr ⟨g, rfl, h3, h4, ?_⟩⟩
  intro j q hq
  rw [List.getElem?_take] at hq
  split at hq
  · rename_i hj
    have := h.cellAt j (by omega)
    rw [this, List.getElem?_map, hq]; rfl
  · cases hq
set_option maxRecDepth 20000 in
set_option maxHeartbeats 1000000 in
theorem moved_c (base : Nat) (w : World) (v : Value) (l : List UInt8) (k : UInt8) (n : Nat) (h : BytesAt base w v l) (hl : l.length ≤ 100) (hn : 1 ≤ n) (hn100 : n ≤ 100) :
    Calls Tryz.prog 34 #[v, .int .u8 (k.toNat : Int), .int .i64 n] w fun e w' => ∃ v', e = .returned v' ∧ BytesAt w.heap.size w' v' (movedL l k n) ∧ Below w.heap.size w w' := by
  obtain ⟨i0, hi, hz0, hz1, hz2⟩ := info_parts infoByte
  obtain ⟨ra, cap, rfl, _, h⟩ := h
  have H : Hid ((l = [] ∧ ra = none) ∨ ∃ b, ra = some ⟨b, 0, none⟩ ∧ base ≤ b ∧ b < w.heap.size ∧ ∀ (j : Nat) (q : UInt8), l[j]? = some q → w.cell? ⟨b, j, none⟩ = some (.int .u8 (q.toNat : Int))) := h
  clear h
  go_enter Tryz.func34, Tryz.ntmps34
  go_wp2_with fail
  go_loopw [7, 8] (fun o i wr => ∃ (j : Nat) (acc : List UInt8), j ≤ l.length ∧ i = .int .i64 j ∧ acc = k :: (l.take j).filter (fun b => decide (b ≠ k)) ∧ acc.length ≤ j + 1 ∧ wr.ownsRow w.heap.size 5 1 o acc.length (acc.map byteV) ∧ Below w.heap.size w wr) (fun _ i _ => l.length - (intOf i).toNat)
  case atStart => exact ⟨0, [k], by omega, rfl, rfl, by simp, World.ownsRow_lit w #[byteV k] 1 (Nat.le_refl _) (by unfold maxLen; omega) rfl, (Below.refl _ _).alloc (Nat.le_refl _) _⟩
  case round =>
    rename_i o0 _
    obtain ⟨j, acc, hj, rfl, hacc, hal, hown, hb⟩ := hrel
    have HA : Hid (acc = k :: (l.take j).filter (fun b => decide (b ≠ k))) := hacc
    have hne : acc.length ≠ 0 := by rw [hacc]; simp
    clear hacc
    obtain ⟨g, cap', rfl⟩ := own_slice hown hne
    have hcap := own_cap hown
    by_cases hlt : j < l.length
    · have klt : (j : Int) < l.length := by omega
      obtain ⟨q, hq⟩ : ∃ q, l[j]? = some q := ⟨_, List.getElem?_eq_getElem hlt⟩
      obtain ⟨b, rfl, _, hbl, hc⟩ := H.out.resolve_left (fun h => by rw [h.1] at hq; simp at hq)
      have cq : wr.cell? ⟨b, j, none⟩ = some (.int .u8 (q.toNat : Int)) := (hb.cell (p := ⟨b, j, none⟩) hbl).trans (hc j q hq)
      by_cases hqk : q = k
      · have keq : ((q.toNat : Int) == (k.toNat : Int)) = true := by rw [u8_eq]; exact decide_eq_true hqk
        have HN : Hid (acc = k :: (l.take (j + 1)).filter (fun b => decide (b ≠ k))) := by
          show _ = _
          rw [List.take_add_one, hq, List.filter_append, ← List.cons_append, ← HA.out]; simp [hqk]
        clear hc hq
        go_wp2
        go_roundw
        case rel => exact ⟨j + 1, acc, by omega, by go_num, HN.out, by omega, hown, hb⟩
        case measure => simp [intOf] <;> omega
      · have keq : ((q.toNat : Int) == (k.toNat : Int)) = false := by rw [u8_eq]; exact decide_eq_false hqk
        have HN : Hid (acc ++ [q] = k :: (l.take (j + 1)).filter (fun b => decide (b ≠ k))) := by
          show _ = _
          rw [List.take_add_one, hq, List.filter_append, ← List.cons_append, ← HA.out]; simp [hqk]
        clear hc hq
        go_wp2_with (at_builtin; refine wpList_append_own _ rfl _ _ 63 rfl w.heap.size 5 i0 (.int .u8 0) 1 1 Tryz.underlying63 hi hz0 hz1 hz2 rfl (by decide) _ _ _ rfl (hown.alloc _) ⟨wr.heap.size, 0, none⟩ 1 1 [.int .u8 (q.toNat : Int)] rfl rfl (cell_new1 _ _ _) ?c2 ?c3 ?c4 ?c5 ?_)
        case c2 => intro u hu; simp at hu; subst hu; rfl
        case c3 => unfold maxLen; omega
        case c4 => omega
        case c5 => have := hb.size; simp <;> omega
        intro v' w1 hown' hgrow _
        have hb1 : Below w.heap.size w w1 := (hb.alloc hb.size _).grown hgrow (by have := hb.size; simp <;> omega) (own_ge hown)
        have HW : Hid (w1.ownsRow w.heap.size 5 1 v' (acc ++ [q]).length ((acc ++ [q]).map byteV)) := by
          have := hown'
          rw [List.length_append, List.map_append]
          exact this
        clear hgrow hown hown'
        go_wp2
        go_roundw
        case rel => exact ⟨j + 1, acc ++ [q], by omega, by go_num, HN.out, by simp; omega, HW.out, hb1⟩
        case measure => simp [intOf] <;> omega
    · have klt : ¬ (j : Int) < l.length := by omega
      have HE : Hid (movedL l k n = acc.take n) := by
        show _ = _
        unfold movedL
        rw [HA.out, List.take_of_length_le (l := l) (by omega)]
      by_cases hgt : n < acc.length
      · have kgt : (n : Int) < acc.length := by omega
        have kn1 : n ≤ cap' := by omega
        go_wp2
        go_ret
        refine ⟨_, rfl, ?_, hb⟩
        rw [HE.out]
        exact bytes_of hown n (by omega)
      · have kgt : ¬ (n : Int) < acc.length := by omega
        go_wp2
        go_ret
        refine ⟨_, rfl, ?_, hb⟩
        have := bytes_of hown acc.length (Nat.le_refl _)
        rw [List.take_length] at this
        rw [HE.out, List.take_of_length_le (by omega)]
        exact this
end Go.Proofs.YtdpnpcjbjjjceaaGreatDoor.K
