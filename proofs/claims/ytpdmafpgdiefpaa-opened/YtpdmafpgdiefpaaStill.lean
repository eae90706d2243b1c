import Derived.Test.YtpdmafpgdiefpaaHanded
import Derived.Deep.QuietTactic
import Derived.BigQuiet
import Derived.Deep.RegionHeld3
namespace Go.Proofs.Ytpdmafpgdiefpaa
open Go.RowKit Go.Builtin

theorem still_nil (w : World) : Calls Try.prog 9 #[.slice none 0 0, .slice none 0 0] w fun e w' => e = .returned (.bool true) ∧ w' = w := by
  have q1 : ∀ (w : World) (a : Option Addr) (n c n' c' : Nat), (binOp .eql 22 (.slice a n c) (.slice none n' c')).run Try.prog w = .ok (.bool a.isNone) w := fun w a n c n' c' => Lib.run_eql_slice_nil w _ _ a n c n' c' Try.underlying22
  go_enter Try.func9, Try.ntmps9
  go_wp2_with fail
  refine wp_loop_rounds 1 ?_
  rw [rounds_succ]
  go_wp2
  go_ret
  exact ⟨rfl, rfl⟩

theorem tens_lt {w : World} {b off : Nat} {ts : List Ten} (h : TensAt w b off ts) (h0 : 0 < ts.length) : b < w.heap.size := by
  have hj : 0 < (flatT ts).length := by rw [flatT_length]; omega
  exact World.block_lt_of_cell? _ _ (h 0 _ (List.getElem?_eq_getElem hj))
theorem cell_drew_keep {W : World} {a : Addr} {v : Value} (h : W.cell? a = some v) : W.drew.cell? a = some v := h
theorem rowT_old (ts : List Ten) (k : Nat) (t : Ten) (h : ts[k]? = some t) : (rowT ts 8)[k]? = some t := by
  have hk : k < ts.length := (List.getElem?_eq_some_iff.1 h).1
  unfold rowT
  rw [List.getElem?_append_left (by simp; omega), List.getElem?_append_left hk]; exact h
theorem rowT_mark (ts : List Ten) (n k : Nat) (hl : ts.length = n) (hk : k < 8) : (rowT ts 8)[n + k]? = some markT := by
  unfold rowT
  rw [List.getElem?_append_left (by simp; omega), List.getElem?_append_right (by omega), hl, Nat.add_sub_cancel_left, List.getElem?_replicate, if_pos hk]

set_option maxRecDepth 100000 in
set_option maxHeartbeats 1000000 in
theorem still_c (w : World) (g b off n c : Nat) (sp : Option Nat) (ts : List Ten) (hl : ts.length = n) (hT : TensAt w b off ts) (hsp : n = 0 ∨ sp = none) (hn : n ≤ 3518437208780)
    (hg : w.heap[g]? = some (.cells (flatT (rowT ts 8)).toArray 40 (0, 0))) :
    Calls Try.prog 9 #[.slice (some ⟨g, 0, none⟩) n (n + 8), .slice (some ⟨b, off, sp⟩) n c] w fun e w' => e = .returned (.bool true) ∧ Below w.heap.size w w' := by
  have q1 : ∀ (w : World) (a : Option Addr) (n c n' c' : Nat), (binOp .eql 22 (.slice a n c) (.slice none n' c')).run Try.prog w = .ok (.bool a.isNone) w := fun w a n c n' c' => Lib.run_eql_slice_nil w _ _ a n c n' c' Try.underlying22
  have hgl : g < w.heap.size := (Array.getElem?_eq_some_iff.1 hg).1
  have HL : Hid (ts.length = n) := hl
  have HT : Hid (TensAt w b off ts) := hT
  have HG : Hid (w.heap[g]? = some (.cells (flatT (rowT ts 8)).toArray 40 (0, 0))) := hg
  clear hl hT hg
  go_enter Try.func9, Try.ntmps9
  go_wp2_with fail
  go_loopw [6] (fun i wx => ∃ k : Nat, k ≤ n ∧ i = .int .i64 k ∧ Below w.heap.size w wx) (fun i _ => n - (intOf i).toNat)
  case atStart => exact ⟨0, by omega, rfl, Below.refl _ _⟩
  case round =>
    obtain ⟨k, hk, rfl, hbx⟩ := hrel
    by_cases hlt : k < n
    · obtain rfl : sp = none := hsp.resolve_left (by omega)
      have hb : b < w.heap.size := tens_lt HT.out (by rw [HL.out]; omega)
      have klt : (k : Int) < n := by omega
      have klt8 : (k : Int) < n + 8 := by omega
      obtain ⟨t, ht⟩ : ∃ t, ts[k]? = some t := ⟨_, List.getElem?_eq_getElem (by rw [HL.out]; exact hlt)⟩
      obtain ⟨z0, z1, z2⟩ := flatT_get ts k t ht
      obtain ⟨y0, y1, y2⟩ := flatT_get (rowT ts 8) k t (rowT_old ts k t ht)
      have c0 := (hbx.cell (p := ⟨g, k * 3, none⟩) hgl).trans (heap_cell HG.out (k * 3) (by rw [List.getElem?_toArray]; exact y0))
      have c1 := (hbx.cell (p := ⟨g, k * 3 + 1, none⟩) hgl).trans (heap_cell HG.out (k * 3 + 1) (by rw [List.getElem?_toArray]; exact y1))
      have c2 := (hbx.cell (p := ⟨g, k * 3 + 2, none⟩) hgl).trans (heap_cell HG.out (k * 3 + 2) (by rw [List.getElem?_toArray]; exact y2))
      have d0 : wr.cell? ⟨b, off + k * 3, none⟩ = some (.string t.n) := (hbx.cell (p := ⟨b, off + k * 3, none⟩) hb).trans (HT.out _ _ z0)
      have d1 : wr.cell? ⟨b, off + k * 3 + 1, none⟩ = some (.string t.k) := (hbx.cell (p := ⟨b, off + k * 3 + 1, none⟩) hb).trans (by have := HT.out _ _ z1; rwa [← Nat.add_assoc] at this)
      have d2 : wr.cell? ⟨b, off + k * 3 + 2, none⟩ = some (.int .i64 t.q) := (hbx.cell (p := ⟨b, off + k * 3 + 2, none⟩) hb).trans (by have := HT.out _ _ z2; rwa [← Nat.add_assoc] at this)
      clear z0 z1 z2 y0 y1 y2 ht
      go_wp2_with fail
      go_quiet (fail)
      go_wp2
      go_roundw
      case rel => exact ⟨k + 1, by omega, by go_num, below_drewN hbx _⟩
      case measure => simp [intOf] <;> omega
    · have klt : ¬ (k : Int) < n := by omega
      go_wp2_with fail
      clear q1
      go_loopw [8] (fun i wx => ∃ m : Nat, m ≤ 8 ∧ i = .int .i64 m ∧ Below w.heap.size w wx) (fun i _ => 8 - (intOf i).toNat)
      case atStart => exact ⟨0, by omega, rfl, hbx⟩
      case round =>
        obtain ⟨m, hm, rfl, hbm⟩ := hrel
        by_cases hlm : m < 8
        · have klm : (m : Int) < 8 := by omega
          have kbm : (n : Int) + m < n + 8 := by omega
          have hwr : IntKind.i64.wrap ((n : Int) + m) = (n : Int) + m := by rw [IntKind.wrap_i64]; omega
          have kbm4 : (0 : Int) ≤ (n : Int) + m := by omega
          obtain ⟨y0, y1, y2⟩ := flatT_get (rowT ts 8) (n + m) markT (rowT_mark ts n m HL.out hlm)
          have enm : ((n : Int) + m).toNat = n + m := by omega
          have c0 : wr.cell? ⟨g, ((n : Int) + m).toNat * 3, none⟩ = some (.string ⟨#[109, 97, 114, 107]⟩) := (hbm.cell (p := ⟨g, ((n : Int) + m).toNat * 3, none⟩) hgl).trans (heap_cell HG.out (((n : Int) + m).toNat * 3) (by rw [List.getElem?_toArray, enm]; exact y0))
          have c1 : wr.cell? ⟨g, ((n : Int) + m).toNat * 3 + 1, none⟩ = some (.string ⟨#[109, 97, 114, 107]⟩) := (hbm.cell (p := ⟨g, ((n : Int) + m).toNat * 3 + 1, none⟩) hgl).trans (heap_cell HG.out (((n : Int) + m).toNat * 3 + 1) (by rw [List.getElem?_toArray, enm]; exact y1))
          have c2 : wr.cell? ⟨g, ((n : Int) + m).toNat * 3 + 2, none⟩ = some (.int .i64 77) := (hbm.cell (p := ⟨g, ((n : Int) + m).toNat * 3 + 2, none⟩) hgl).trans (heap_cell HG.out (((n : Int) + m).toNat * 3 + 2) (by rw [List.getElem?_toArray, enm]; exact y2))
          clear y0 y1 y2 enm
          go_wp2_with fail
          have hgr : g < wr.heap.size := Nat.lt_of_lt_of_le hgl hbm.size
          have H0 : Hid (wr.cell? ⟨g, ((n : Int) + m).toNat * 3, none⟩ = some (.string ⟨#[109, 97, 114, 107]⟩)) := c0
          have H1 : Hid (wr.cell? ⟨g, ((n : Int) + m).toNat * 3 + 1, none⟩ = some (.string ⟨#[109, 97, 114, 107]⟩)) := c1
          have H2 : Hid (wr.cell? ⟨g, ((n : Int) + m).toNat * 3 + 2, none⟩ = some (.int .i64 77)) := c2
          go_region_held3 (fun w' => w'.cell? ⟨g, ((n : Int) + m).toNat * 3, none⟩ = some (.string ⟨#[109, 97, 114, 107]⟩) ∧ w'.cell? ⟨g, ((n : Int) + m).toNat * 3 + 1, none⟩ = some (.string ⟨#[109, 97, 114, 107]⟩) ∧ w'.cell? ⟨g, ((n : Int) + m).toNat * 3 + 2, none⟩ = some (.int .i64 77)) (first | ((refine ⟨?_, ?_, ?_⟩ <;> (repeat (with_reducible (first | exact H0.out | exact H1.out | exact H2.out | refine cell_drew_keep ?_ | refine cell_alloc_keep ?_)))); done) | (go_keep; done)) (first | (go_at_call 10; refine (mark_c _).mono ?_; rintro e w1 ⟨rfl, hw⟩; rw [hw]; clear hw))
          go_wp2
          go_roundw
          case rel => exact ⟨m + 1, by omega, by go_num, (hbm.alloc hbm.size _).drew⟩
          case measure => simp [intOf] <;> omega
        · have klm : ¬ (m : Int) < 8 := by omega
          go_wp2
          go_ret
          exact ⟨rfl, hbm⟩
end Go.Proofs.Ytpdmafpgdiefpaa
