import Derived.Deep.QuietTactic
import Derived.BigQuiet
import Derived.Deep.RegionHeld3
import Derived.Test.YtdpnpcjbjjjceaaGreatDoorBOBase
set_option linter.unusedSimpArgs false
set_option linter.unusedVariables false
namespace Go.Proofs.YtdpnpcjbjjjceaaGreatDoor.O
open Go.RowKit Go.Builtin
set_option maxRecDepth 20000

theorem still_nil (w : World) : Calls Tryz.prog 38 #[.slice none 0 0, .slice none 0 0] w fun e w' => e = .returned (.bool true) ∧ w' = w := by
  have q1 : ∀ (w : World) (a : Option Addr) (n c n' c' : Nat), (binOp .eql 22 (.slice a n c) (.slice none n' c')).run Tryz.prog w = .ok (.bool a.isNone) w := fun w a n c n' c' => Lib.run_eql_slice_nil w _ _ a n c n' c' Tryz.underlying22
  go_enter Tryz.func38, Tryz.ntmps38
  go_wp2_with fail
  refine wp_loop_rounds 1 ?_
  rw [rounds_succ]
  go_wp2
  go_ret
  exact ⟨rfl, rfl⟩

theorem tens_lt {w : World} {b off : Nat} {ts : List Ten} (h : TensAt w b off ts) (h0 : 0 < ts.length) : b < w.heap.size := by
  have hj : 0 < (flatT ts).length := by rw [flatT_length]; omega
  exact World.block_lt_of_cell? _ _ (h 0 _ (List.getElem?_eq_getElem hj))
theorem cell_drew_keep {W : World} {a : Addr} {v : Value} (h : W.cell? a = some v) : W.drew.cell? a = some v := h
theorem rowT_old (ts : List Ten) (k : Nat) (t : Ten) (h : ts[k]? = some t) : (rowT ts 8)[k]? = some t := by
  have hk : k < ts.length := (List.getElem?_eq_some_iff.1 h).1
  unfold rowT
  rw [List.getElem?_append_left (by simp; omega), List.getElem?_append_left hk]; exact h
theorem rowT_mark (ts : List Ten) (n k : Nat) (hl : ts.length = n) (hk : k < 8) : (rowT ts 8)[n + k]? = some markT := by
  unfold rowT
  rw [List.getElem?_append_left (by simp; omega), List.getElem?_append_right (by omega), hl, Nat.add_sub_cancel_left, List.getElem?_replicate, if_pos hk]

set_option maxRecDepth 100000 in
set_option maxHeartbeats 1000000 in
theorem still_c (w : World) (g b off n c : Nat) (sp : Option Nat) (ts : List Ten) (hl : ts.length = n) (hT : TensAt w b off ts) (hsp : n = 0 ∨ sp = none) (hn : n ≤ 3518437208780)
    (hg : w.heap[g]? = some (.cells (flatT (rowT ts 8)).toArray 32 (0, 0))) :
    Calls Tryz.prog 38 #[.slice (some ⟨g, 0, none⟩) n (n + 8), .slice (some ⟨b, off, sp⟩) n c] w fun e w' => e = .returned (.bool true) ∧ Below w.heap.size w w' := by
  have q1 : ∀ (w : World) (a : Option Addr) (n c n' c' : Nat), (binOp .eql 22 (.slice a n c) (.slice none n' c')).run Tryz.prog w = .ok (.bool a.isNone) w := fun w a n c n' c' => Lib.run_eql_slice_nil w _ _ a n c n' c' Tryz.underlying22
  have hgl : g < w.heap.size := (Array.getElem?_eq_some_iff.1 hg).1
  have HL : Hid (ts.length = n) := hl
  have HT : Hid (TensAt w b off ts) := hT
  have HG : Hid (w.heap[g]? = some (.cells (flatT (rowT ts 8)).toArray 32 (0, 0))) := hg
  clear hl hT hg
  go_enter Tryz.func38, Tryz.ntmps38
  go_wp2_with fail
  go_loopw [6] (fun i wx => ∃ k : Nat, k ≤ n ∧ i = .int .i64 k ∧ Below w.heap.size w wx) (fun i _ => n - (intOf i).toNat)
  case atStart => exact ⟨0, by omega, rfl, Below.refl _ _⟩
  case round =>
    obtain ⟨k, hk, rfl, hbx⟩ := hrel
    by_cases hlt : k < n
    · obtain rfl : sp = none := hsp.resolve_left (by omega)
      have hb : b < w.heap.size := tens_lt HT.out (by rw [HL.out]; omega)
      have klt : (k : Int) < n := by omega
      have klt8 : (k : Int) < n + 8 := by omega
      obtain ⟨t, ht⟩ : ∃ t, ts[k]? = some t := ⟨_, List.getElem?_eq_getElem (by rw [HL.out]; exact hlt)⟩
      obtain ⟨z0, z1, z2⟩ := flatT_get ts k t ht
      obtain ⟨y0, y1, y2⟩ := flatT_get (rowT ts 8) k t (rowT_old ts k t ht)
      have c0 := (hbx.cell (p := ⟨g, k * 3, none⟩) hgl).trans (heap_cell HG.out (k * 3) (by rw [List.getElem?_toArray]; exact y0))
      have c1 := (hbx.cell (p := ⟨g, k * 3 + 1, none⟩) hgl).trans (heap_cell HG.out (k * 3 + 1) (by rw [List.getElem?_toArray]; exact y1))
      have c2 := (hbx.cell (p := ⟨g, k * 3 + 2, none⟩) hgl).trans (heap_cell HG.out (k * 3 + 2) (by rw [List.getElem?_toArray]; exact y2))
      have d0 : wr.cell? ⟨b, off + k * 3, none⟩ = some (.string t.n) := (hbx.cell (p := ⟨b, off + k * 3, none⟩) hb).trans (HT.out _ _ z0)
      have d1 : wr.cell? ⟨b, off + k * 3 + 1, none⟩ = some (.string t.k) := (hbx.cell (p := ⟨b, off + k * 3 + 1, none⟩) hb).trans (by have := HT.out _ _ z1; rwa [← Nat.add_assoc] at this)
      have d2 : wr.cell? ⟨b, off + k * 3 + 2, none⟩ = some (.int .i64 t.q) := (hbx.cell (p := ⟨b, off + k * 3 + 2, none⟩) hb).trans (by have := HT.out _ _ z2; rwa [← Nat.add_assoc] at this)
      clear z0 z1 z2 y0 y1 y2 ht
      go_wp2_with fail
      go_quiet (fail)
      go_wp2
      go_roundw
      case rel => exact ⟨k + 1, by omega, by go_num, below_drewN hbx _⟩
      case measure => simp [intOf] <;> omega
    · have klt : ¬ (k : Int) < n := by omega
      go_wp2_with fail
      clear q1
      go_loopw [8] (fun i wx => ∃ m : Nat, m ≤ 8 ∧ i = .int .i64 m ∧ Below w.heap.size w wx) (fun i _ => 8 - (intOf i).toNat)
      case atStart => exact ⟨0, by omega, rfl, hbx⟩
      case round =>
        obtain ⟨m, hm, rfl, hbm⟩ := hrel
        by_cases hlm : m < 8
        · have klm : (m : Int) < 8 := by omega
          have kbm : (n : Int) + m < n + 8 := by omega
          have hwr : IntKind.i64.wrap ((n : Int) + m) = (n : Int) + m := by rw [IntKind.wrap_i64]; omega
          have kbm4 : (0 : Int) ≤ (n : Int) + m := by omega
          obtain ⟨y0, y1, y2⟩ := flatT_get (rowT ts 8) (n + m) markT (rowT_mark ts n m HL.out hlm)
          have enm : ((n : Int) + m).toNat = n + m := by omega
          have c0 : wr.cell? ⟨g, ((n : Int) + m).toNat * 3, none⟩ = some (.string ⟨#[109, 97, 114, 107]⟩) := (hbm.cell (p := ⟨g, ((n : Int) + m).toNat * 3, none⟩) hgl).trans (heap_cell HG.out (((n : Int) + m).toNat * 3) (by rw [List.getElem?_toArray, enm]; exact y0))
          have c1 : wr.cell? ⟨g, ((n : Int) + m).toNat * 3 + 1, none⟩ = some (.string ⟨#[109, 97, 114, 107]⟩) := (hbm.cell (p := ⟨g, ((n : Int) + m).toNat * 3 + 1, none⟩) hgl).trans (heap_cell HG.out (((n : Int) + m).toNat * 3 + 1) (by rw [List.getElem?_toArray, enm]; exact y1))
          have c2 : wr.cell? ⟨g, ((n : Int) + m).toNat * 3 + 2, none⟩ = some (.int .i64 77) := (hbm.cell (p := ⟨g, ((n : Int) + m).toNat * 3 + 2, none⟩) hgl).trans (heap_cell HG.out (((n : Int) + m).toNat * 3 + 2) (by rw [List.getElem?_toArray, enm]; exact y2))
          clear y0 y1 y2 enm
          go_wp2_with fail
          have hgr : g < wr.heap.size := Nat.lt_of_lt_of_le hgl hbm.size
          have H0 : Hid (wr.cell? ⟨g, ((n : Int) + m).toNat * 3, none⟩ = some (.string ⟨#[109, 97, 114, 107]⟩)) := c0
          have H1 : Hid (wr.cell? ⟨g, ((n : Int) + m).toNat * 3 + 1, none⟩ = some (.string ⟨#[109, 97, 114, 107]⟩)) := c1
          have H2 : Hid (wr.cell? ⟨g, ((n : Int) + m).toNat * 3 + 2, none⟩ = some (.int .i64 77)) := c2
          go_region_held3 (fun w' => w'.cell? ⟨g, ((n : Int) + m).toNat * 3, none⟩ = some (.string ⟨#[109, 97, 114, 107]⟩) ∧ w'.cell? ⟨g, ((n : Int) + m).toNat * 3 + 1, none⟩ = some (.string ⟨#[109, 97, 114, 107]⟩) ∧ w'.cell? ⟨g, ((n : Int) + m).toNat * 3 + 2, none⟩ = some (.int .i64 77)) (first | ((refine ⟨?_, ?_, ?_⟩ <;> (repeat (with_reducible (first | exact H0.out | exact H1.out | exact H2.out | refine cell_drew_keep ?_ | refine cell_alloc_keep ?_)))); done) | (go_keep; done)) (first | (go_at_call 39; refine (mark_c _).mono ?_; rintro e w1 ⟨rfl, hw⟩; rw [hw]; clear hw))
          go_wp2
          go_roundw
          case rel => exact ⟨m + 1, by omega, by go_num, (hbm.alloc hbm.size _).drew⟩
          case measure => simp [intOf] <;> omega
        · have klm : ¬ (m : Int) < 8 := by omega
          go_wp2
          go_ret
          exact ⟨rfl, hbm⟩
end Go.Proofs.YtdpnpcjbjjjceaaGreatDoor.O
namespace Go.Proofs.YtdpnpcjbjjjceaaGreatDoor.O
open Go.RowKit Go.Builtin
set_option maxRecDepth 20000

def okIn (lo hi : Nat) (c : UInt8) : Bool := decide (lo ≤ c.toNat) && decide (c.toNat ≤ hi)
def bytesIn (s : ByteArray) (lo hi : Nat) : Bool := s.data.toList.all (okIn lo hi)
theorem getElem_list (s : ByteArray) (k : Nat) (h : k < s.size) : s[k] = s.data.toList[k]'(by simpa using h) := rfl
theorem bytes_all (s : ByteArray) (lo hi : Nat) (h : ∀ j (hj : j < s.size), okIn lo hi s[j] = true) : bytesIn s lo hi = true := by
  unfold bytesIn
  rw [List.all_eq_true]
  intro x hx
  obtain ⟨j, hj, rfl⟩ := List.mem_iff_getElem.1 hx
  have := h j (by simpa using hj)
  rwa [getElem_list s j (by simpa using hj)] at this
theorem bytes_not (s : ByteArray) (lo hi : Nat) (j : Nat) (hj : j < s.size) (h : okIn lo hi s[j] = false) : bytesIn s lo hi = false := by
  unfold bytesIn
  rw [List.all_eq_false]
  exact ⟨s[j], by rw [getElem_list s j hj]; exact List.getElem_mem _, by simp [h]⟩

def goodB (t : Ten) : Bool :=
  bytesIn t.n 97 122 && bytesIn t.k 33 126 && decide (0 < t.n.size) && decide (t.n.size ≤ 8) && decide (0 < t.k.size) && decide (t.k.size ≤ 16) && decide (0 < t.q) && decide (t.q ≤ 2000)

set_option maxRecDepth 100000 in
set_option maxHeartbeats 4000000 in
theorem rGood_c (t : Ten) (w : World) (hn : t.n.size ≤ 9223372036854775806) (hk : t.k.size ≤ 9223372036854775806) : Calls Tryz.prog 56 #[.agg #[.string t.n, .string t.k, .int .i64 t.q]] w fun e w' => e = .returned (.bool (goodB t)) ∧ Below w.heap.size w w' := by
  obtain ⟨n, k, q⟩ := t
  show Calls Tryz.prog 56 #[.agg #[.string n, .string k, .int .i64 q]] w fun e w' => e = .returned (.bool (goodB ⟨n, k, q⟩)) ∧ Below w.heap.size w w'
  replace hn : n.size ≤ 9223372036854775806 := hn
  replace hk : k.size ≤ 9223372036854775806 := hk
  have hB : Below w.heap.size w (w.alloc (.cells #[.string n, .string k, .int .i64 q] 32)) := (Below.refl _ _).alloc (Nat.le_refl _) _
  go_enter Tryz.func56, Tryz.ntmps56
  go_wp2_with fail
  go_loop [3] (fun i => ∃ j : Nat, j ≤ n.size ∧ i = .int .i64 j ∧ Hid (∀ x (hx : x < n.size), x < j → okIn 97 122 n[x] = true)) (fun i => n.size - (intOf i).toNat)
  case atStart => exact ⟨0, by omega, rfl, fun x _ h => by omega⟩
  case round =>
    obtain ⟨j, hj, rfl, hall⟩ := hrel
    by_cases hlt : j < n.size
    · have klt : (j : Int) < n.size := by omega
      by_cases hlo : n[j].toNat < 97
      · have klo : (n[j].toNat : Int) < 97 := by omega
        go_wp2
        go_ret
        exact ⟨by simp [goodB, bytes_not n 97 122 j hlt (by simp [okIn]; omega)], hB⟩
      · have klo : ¬ (n[j].toNat : Int) < 97 := by omega
        by_cases hhi : 122 < n[j].toNat
        · have khi : (122 : Int) < n[j].toNat := by omega
          go_wp2
          go_ret
          exact ⟨by simp [goodB, bytes_not n 97 122 j hlt (by simp [okIn]; omega)], hB⟩
        · have khi : ¬ (122 : Int) < n[j].toNat := by omega
          go_wp2
          go_round
          case rel => exact ⟨j + 1, by omega, by go_num, fun x hx hxj => by
            by_cases hxx : x < j
            · exact hall.out x hx hxx
            · obtain rfl : x = j := by omega
              simp [okIn]; omega⟩
          case measure => simp [intOf] <;> omega
    · have klt : ¬ (j : Int) < n.size := by omega
      have HN : Hid (bytesIn n 97 122 = true) := bytes_all n 97 122 (fun x hx => hall.out x hx (by omega))
      clear hall
      go_wp2_with fail
      go_loop [4] (fun i => ∃ m : Nat, m ≤ k.size ∧ i = .int .i64 m ∧ Hid (∀ x (hx : x < k.size), x < m → okIn 33 126 k[x] = true)) (fun i => k.size - (intOf i).toNat)
      case atStart => exact ⟨0, by omega, rfl, fun x _ h => by omega⟩
      case round =>
        obtain ⟨m, hm, rfl, hal⟩ := hrel
        by_cases hlm : m < k.size
        · have klm : (m : Int) < k.size := by omega
          by_cases hlo : k[m].toNat < 33
          · have klo : (k[m].toNat : Int) < 33 := by omega
            go_wp2
            go_ret
            exact ⟨by simp [goodB, bytes_not k 33 126 m hlm (by simp [okIn]; omega)], hB⟩
          · have klo : ¬ (k[m].toNat : Int) < 33 := by omega
            by_cases hhi : 126 < k[m].toNat
            · have khi : (126 : Int) < k[m].toNat := by omega
              go_wp2
              go_ret
              exact ⟨by simp [goodB, bytes_not k 33 126 m hlm (by simp [okIn]; omega)], hB⟩
            · have khi : ¬ (126 : Int) < k[m].toNat := by omega
              go_wp2
              go_round
              case rel => exact ⟨m + 1, by omega, by go_num, fun x hx hxj => by
                by_cases hxx : x < m
                · exact hal.out x hx hxx
                · obtain rfl : x = m := by omega
                  simp [okIn]; omega⟩
              case measure => simp [intOf] <;> omega
        · have klm : ¬ (m : Int) < k.size := by omega
          have HK : Hid (bytesIn k 33 126 = true) := bytes_all k 33 126 (fun x hx => hal.out x hx (by omega))
          clear hal
          by_cases h1 : 0 < n.size
          · have k1 : (0 : Int) < n.size := by omega
            by_cases h2 : n.size ≤ 8
            · have k2 : (n.size : Int) ≤ 8 := by omega
              by_cases h3 : 0 < k.size
              · have k3 : (0 : Int) < k.size := by omega
                by_cases h4 : k.size ≤ 16
                · have k4 : (k.size : Int) ≤ 16 := by omega
                  by_cases h5 : 0 < q
                  · by_cases h6 : q ≤ 2000
                    · go_wp2
                      go_ret
                      exact ⟨by simp [goodB, HN.out, HK.out, h1, h2, h3, h4, h5, h6], hB⟩
                    · have HF : Hid (goodB ⟨n, k, q⟩ = false) := by show _ = _; simp [goodB, h6]
                      go_wp2
                      go_ret
                      exact ⟨by rw [HF.out]; first | rfl | (simp <;> omega), hB⟩
                  · have HF : Hid (goodB ⟨n, k, q⟩ = false) := by show _ = _; simp [goodB, h5]
                    go_wp2
                    go_ret
                    exact ⟨by rw [HF.out]; first | rfl | (simp <;> omega), hB⟩
                · have k4 : ¬ (k.size : Int) ≤ 16 := by omega
                  go_wp2
                  go_ret
                  exact ⟨by simp [goodB, h4], hB⟩
              · have k3 : ¬ (0 : Int) < k.size := by omega
                go_wp2
                go_ret
                exact ⟨by simp [goodB, h3], hB⟩
            · have k2 : ¬ (n.size : Int) ≤ 8 := by omega
              go_wp2
              go_ret
              exact ⟨by simp [goodB, h2], hB⟩
          · have k1 : ¬ (0 : Int) < n.size := by omega
            go_wp2
            go_ret
            exact ⟨by simp [goodB, h1], hB⟩
end Go.Proofs.YtdpnpcjbjjjceaaGreatDoor.O
namespace Go.Proofs.YtdpnpcjbjjjceaaGreatDoor.O
open Go.RowKit Go.Builtin
set_option maxRecDepth 20000

/-- the names of the first k differ from this one -/
def newName (ts : List Ten) (k : Nat) (x : Ten) : Bool := (ts.take k).all fun y => !(y.n.toList == x.n.toList)
def okUpto (ts : List Ten) : Nat → Bool
  | 0 => true
  | i + 1 => okUpto ts i && (match ts[i]? with | some x => goodB x && newName ts i x | none => true)
def tensOk (ts : List Ten) : Bool := decide (1 ≤ ts.length) && decide (ts.length ≤ 5) && okUpto ts ts.length
/-- the error that the document asks for -/
def openErr (ts : List Ten) (conns : Int) : Int := if tensOk ts = false then 1 else if conns ≤ 0 ∨ 8 < conns then 2 else 0

theorem okUpto_mono (ts : List Ten) : ∀ (i j : Nat), i ≤ j → okUpto ts i = false → okUpto ts j = false
  | i, j, h, hi => by
    induction j with
    | zero => obtain rfl : i = 0 := by omega
              exact hi
    | succ j ih =>
      by_cases he : i = j + 1
      · subst he; exact hi
      · unfold okUpto; rw [ih (by omega)]; rfl
theorem okUpto_bad (ts : List Ten) (i : Nat) (x : Ten) (h : ts[i]? = some x) (hb : goodB x = false) : okUpto ts (i + 1) = false := by
  unfold okUpto; rw [h]; simp [hb]
theorem newName_step (ts : List Ten) (k : Nat) (x y : Ten) (h : ts[k]? = some y) : newName ts (k + 1) x = (newName ts k x && !(y.n.toList == x.n.toList)) := by
  unfold newName
  rw [List.take_add_one, h, List.all_append]; simp
theorem newName_mono (ts : List Ten) (x : Ten) : ∀ (i j : Nat), i ≤ j → newName ts i x = false → newName ts j x = false
  | i, j, h, hi => by
    unfold newName at *
    rw [List.all_eq_false] at *
    obtain ⟨y, hy, hn⟩ := hi
    exact ⟨y, (List.take_prefix_take_left h).subset hy, hn⟩
theorem okUpto_dup (ts : List Ten) (i k : Nat) (x y : Ten) (hk : k < i) (h : ts[i]? = some x) (hy : ts[k]? = some y) (he : (y.n.toList == x.n.toList) = true) : okUpto ts (i + 1) = false := by
  have h1 : newName ts (k + 1) x = false := by rw [newName_step ts k x y hy, he]; simp
  have h2 := newName_mono ts x (k + 1) i (by omega) h1
  unfold okUpto; rw [h]; simp [h2]
theorem okUpto_step (ts : List Ten) (i : Nat) (x : Ten) (h : ts[i]? = some x) (h0 : okUpto ts i = true) (hg : goodB x = true) (hn : newName ts i x = true) : okUpto ts (i + 1) = true := by
  unfold okUpto; rw [h0, h]; simp [hg, hn]

theorem tens_cells {w : World} {b off : Nat} {ts : List Ten} (h : TensAt w b off ts) (i : Nat) (x : Ten) (hi : ts[i]? = some x) :
    w.cell? ⟨b, off + i * 3, none⟩ = some (.string x.n) ∧ w.cell? ⟨b, off + i * 3 + 1, none⟩ = some (.string x.k) ∧ w.cell? ⟨b, off + i * 3 + 2, none⟩ = some (.int .i64 x.q) := by
  obtain ⟨z0, z1, z2⟩ := flatT_get ts i x hi
  exact ⟨h _ _ z0, by have := h _ _ z1; rwa [← Nat.add_assoc] at this, by have := h _ _ z2; rwa [← Nat.add_assoc] at this⟩
theorem TensAt.below {w w' : World} {b off : Nat} {ts : List Ten} (h : TensAt w b off ts) (hb : Below w.heap.size w w') (hl : b < w.heap.size) : TensAt w' b off ts :=
  fun j v hj => (hb.cell (p := ⟨b, off + j, none⟩) hl).trans (h j v hj)

theorem TensAt.belowAny {w w' : World} {b off : Nat} {ts : List Ten} (h : TensAt w b off ts) (hb : Below w.heap.size w w') : TensAt w' b off ts :=
  fun j v hj => (hb.cell (p := ⟨b, off + j, none⟩) (World.block_lt_of_cell? _ _ (h j v hj))).trans (h j v hj)
theorem rOpen_len (a : Option Addr) (n c : Nat) (conns : Int) (w : World) (hn : n = 0 ∨ 5 < n) (hn63 : n ≤ 9223372036854775806) : Calls Tryz.prog 37 #[.slice a n c, .int .i64 conns] w fun e w' => e = .returned (.tuple #[.pointer none, .int .i64 1]) ∧ w' = w := by
  by_cases h0 : n = 0
  · subst h0
    go_enter Tryz.func37, Tryz.ntmps37
    go_wp2
    go_ret2
    exact ⟨rfl, rfl⟩
  · have k0 : ((n : Int) == 0) = false := beq_eq_false_iff_ne.2 (by omega)
    have k5 : (5 : Int) < n := by omega
    go_enter Tryz.func37, Tryz.ntmps37
    go_wp2
    go_ret2
    exact ⟨rfl, rfl⟩

set_option maxRecDepth 100000 in
set_option maxHeartbeats 4000000 in
/-- one tenant may not be, or two have one name -/
theorem rOpen_loop (b off n c : Nat) (conns : Int) (ts : List Ten) (w : World) (hl : ts.length = n) (hT : TensAt w b off ts) (hb : b < w.heap.size) (h1 : 1 ≤ n) (h5 : n ≤ 5)
    (hsz : ∀ x ∈ ts, x.n.size ≤ 9223372036854775806 ∧ x.k.size ≤ 9223372036854775806) (hbad : okUpto ts n = false) :
    Calls Tryz.prog 37 #[.slice (some ⟨b, off, none⟩) n c, .int .i64 conns] w fun e w' => e = .returned (.tuple #[.pointer none, .int .i64 1]) ∧ Below w.heap.size w w' := by
  have k0 : ((n : Int) == 0) = false := beq_eq_false_iff_ne.2 (by omega)
  have k5 : ¬ (5 : Int) < n := by omega
  have HL : Hid (ts.length = n) := hl
  have HT : Hid (TensAt w b off ts) := hT
  have HSZ : Hid (∀ x ∈ ts, x.n.size ≤ 9223372036854775806 ∧ x.k.size ≤ 9223372036854775806) := hsz
  have HBAD : Hid (okUpto ts n = false) := hbad
  clear hl hT hsz hbad
  go_enter Tryz.func37, Tryz.ntmps37
  go_wp2_with fail
  go_loopw [6] (fun i wx => ∃ j : Nat, j ≤ n ∧ i = .int .i64 j ∧ Hid (okUpto ts j = true) ∧ Below w.heap.size w wx) (fun i _ => n - (intOf i).toNat)
  case atStart => exact ⟨0, by omega, rfl, rfl, Below.refl _ _⟩
  case round =>
    obtain ⟨i, hi, rfl, hok, hbx⟩ := hrel
    by_cases hlt : i < n
    · have klt : (i : Int) < n := by omega
      obtain ⟨x, hx⟩ : ∃ x, ts[i]? = some x := ⟨_, List.getElem?_eq_getElem (by rw [HL.out]; exact hlt)⟩
      have HX : Hid (ts[i]? = some x) := hx
      obtain ⟨c0, c1, c2⟩ := tens_cells (HT.out.below hbx hb) i x hx
      obtain ⟨s1, s2⟩ := HSZ.out x (List.mem_of_getElem? hx)
      clear hx
      have cG := fun W => rGood_c x W s1 s2
      cases hg : goodB x with
      | false =>
        rw [hg] at cG
        have HF : Hid (goodB x = false) := hg
        clear hg
        go_wp2_with (go_at_call 56; refine (cG _).mono ?_; rintro e w1 ⟨rfl, hb1⟩)
        go_ret2
        exact ⟨rfl, hbx.trans (hb1.mono hbx.size)⟩
      | true =>
        rw [hg] at cG
        have HGd : Hid (goodB x = true) := hg
        clear hg
        go_wp2_with (go_at_call 56; refine (cG _).mono ?_; rintro e w1 ⟨rfl, hb1⟩)
        clear cG c0 c1 c2
        have hbw : Below w.heap.size w w1 := hbx.trans (hb1.mono hbx.size)
        clear hb1
        go_loopw [8] (fun v wx => ∃ k : Nat, k ≤ i ∧ v = .int .i64 k ∧ Hid (newName ts k x = true) ∧ Below w.heap.size w wx) (fun v _ => i - (intOf v).toNat)
        case atStart => exact ⟨0, by omega, rfl, rfl, hbw⟩
        case round =>
          obtain ⟨k, hk, rfl, hnew, hbk⟩ := hrel
          by_cases hlk : k < i
          · have klk : (k : Int) < i := by omega
            have klkn : (k : Int) < n := by omega
            obtain ⟨y, hy⟩ : ∃ y, ts[k]? = some y := ⟨_, List.getElem?_eq_getElem (by rw [HL.out]; omega)⟩
            have HY : Hid (ts[k]? = some y) := hy
            obtain ⟨d0, _, _⟩ := tens_cells (HT.out.below hbk hb) k y hy
            obtain ⟨e0, _, _⟩ := tens_cells (HT.out.below hbk hb) i x HX.out
            clear hy
            cases he : (y.n.toList == x.n.toList) with
            | true =>
              go_wp2_with fail
              go_quiet (fail)
              go_wp2
              go_ret2
              exact ⟨rfl, below_drewN hbk _⟩
            | false =>
              have HE : Hid ((y.n.toList == x.n.toList) = false) := he
              go_wp2_with fail
              go_quiet (fail)
              go_wp2
              go_roundw
              case rel => exact ⟨k + 1, by omega, by go_num, by show _ = _; rw [newName_step ts k x y HY.out, hnew.out, HE.out]; rfl, below_drewN hbk _⟩
              case measure => simp [intOf] <;> omega
          · have klk : ¬ (k : Int) < i := by omega
            obtain rfl : k = i := by omega
            go_wp2_with fail
            go_roundw
            case rel => exact ⟨k + 1, by omega, by go_num, okUpto_step ts k x HX.out hok.out HGd.out hnew.out, hbk⟩
            case measure => simp [intOf] <;> omega
    · exfalso
      obtain rfl : i = n := by omega
      have := hok.out
      rw [HBAD.out] at this
      cases this
end Go.Proofs.YtdpnpcjbjjjceaaGreatDoor.O
namespace Go.Proofs.YtdpnpcjbjjjceaaGreatDoor.O
open Go.RowKit Go.Builtin
set_option maxRecDepth 20000

def zconn : List Value := [.bool false, .bool false, .string ByteArray.empty, .string ByteArray.empty, .int .i64 0, .bool false, .slice none 0 0]
def dconn : List Value := [.bool true, .bool false, .string ByteArray.empty, .string ByteArray.empty, .int .i64 (-1), .bool false, .slice none 0 0]
def connsL (d : Nat) : List Value := (List.replicate d dconn ++ List.replicate (8 - d) zconn).flatten
/-- the cells of the document's server: who its tenants are, how many connections there may be, how many there are -/
def srvL (tv : Value) (conns : Int) (d : Nat) : List Value := tv :: .int .i64 conns :: (connsL d ++ (.slice none 0 0 :: List.replicate 31 (.int .i64 0)))
theorem zero_srv (w : World) : (zeroValue 102).run Tryz.prog w = .ok (.agg (srvL (.slice none 0 0) 0 0).toArray) w := by kernel_rfl

set_option maxRecDepth 100000 in
set_option maxHeartbeats 4000000 in
/-- the tenants may be -/
theorem rOpen_arg (b off n c : Nat) (conns : Int) (ts : List Ten) (w : World) (hl : ts.length = n) (hT : TensAt w b off ts) (hb : b < w.heap.size) (h1 : 1 ≤ n) (h5 : n ≤ 5)
    (hsz : ∀ x ∈ ts, x.n.size ≤ 9223372036854775806 ∧ x.k.size ≤ 9223372036854775806) (hbad : okUpto ts n = true) (hc : conns ≤ 0 ∨ 8 < conns) :
    Calls Tryz.prog 37 #[.slice (some ⟨b, off, none⟩) n c, .int .i64 conns] w fun e w' => e = .returned (.tuple #[.pointer none, .int .i64 2]) ∧ Below w.heap.size w w' := by
  have k0 : ((n : Int) == 0) = false := beq_eq_false_iff_ne.2 (by omega)
  have k5 : ¬ (5 : Int) < n := by omega
  have HL : Hid (ts.length = n) := hl
  have HT : Hid (TensAt w b off ts) := hT
  have HSZ : Hid (∀ x ∈ ts, x.n.size ≤ 9223372036854775806 ∧ x.k.size ≤ 9223372036854775806) := hsz
  have HBAD : Hid (okUpto ts n = true) := hbad
  clear hl hT hsz hbad
  go_enter Tryz.func37, Tryz.ntmps37
  go_wp2_with fail
  go_loopw [6] (fun i wx => ∃ j : Nat, j ≤ n ∧ i = .int .i64 j ∧ Hid (okUpto ts j = true) ∧ Below w.heap.size w wx) (fun i _ => n - (intOf i).toNat)
  case atStart => exact ⟨0, by omega, rfl, rfl, Below.refl _ _⟩
  case round =>
    obtain ⟨i, hi, rfl, hok, hbx⟩ := hrel
    by_cases hlt : i < n
    · have klt : (i : Int) < n := by omega
      obtain ⟨x, hx⟩ : ∃ x, ts[i]? = some x := ⟨_, List.getElem?_eq_getElem (by rw [HL.out]; exact hlt)⟩
      have HX : Hid (ts[i]? = some x) := hx
      obtain ⟨c0, c1, c2⟩ := tens_cells (HT.out.below hbx hb) i x hx
      obtain ⟨s1, s2⟩ := HSZ.out x (List.mem_of_getElem? hx)
      clear hx
      have cG := fun W => rGood_c x W s1 s2
      cases hg : goodB x with
      | false =>
        exfalso
        have := okUpto_mono ts (i + 1) n (by omega) (okUpto_bad ts i x HX.out hg)
        rw [HBAD.out] at this; cases this
      | true =>
        rw [hg] at cG
        have HGd : Hid (goodB x = true) := hg
        clear hg
        go_wp2_with (go_at_call 56; refine (cG _).mono ?_; rintro e w1 ⟨rfl, hb1⟩)
        clear cG c0 c1 c2
        have hbw : Below w.heap.size w w1 := hbx.trans (hb1.mono hbx.size)
        clear hb1
        go_loopw [8] (fun v wx => ∃ k : Nat, k ≤ i ∧ v = .int .i64 k ∧ Hid (newName ts k x = true) ∧ Below w.heap.size w wx) (fun v _ => i - (intOf v).toNat)
        case atStart => exact ⟨0, by omega, rfl, rfl, hbw⟩
        case round =>
          obtain ⟨k, hk, rfl, hnew, hbk⟩ := hrel
          by_cases hlk : k < i
          · have klk : (k : Int) < i := by omega
            have klkn : (k : Int) < n := by omega
            obtain ⟨y, hy⟩ : ∃ y, ts[k]? = some y := ⟨_, List.getElem?_eq_getElem (by rw [HL.out]; omega)⟩
            have HY : Hid (ts[k]? = some y) := hy
            obtain ⟨d0, _, _⟩ := tens_cells (HT.out.below hbk hb) k y hy
            obtain ⟨e0, _, _⟩ := tens_cells (HT.out.below hbk hb) i x HX.out
            clear hy
            cases he : (y.n.toList == x.n.toList) with
            | true =>
              exfalso
              have := okUpto_mono ts (i + 1) n (by omega) (okUpto_dup ts i k x y hlk HX.out HY.out he)
              rw [HBAD.out] at this; cases this
            | false =>
              have HE : Hid ((y.n.toList == x.n.toList) = false) := he
              go_wp2_with fail
              go_quiet (fail)
              go_wp2
              go_roundw
              case rel => exact ⟨k + 1, by omega, by go_num, by show _ = _; rw [newName_step ts k x y HY.out, hnew.out, HE.out]; rfl, below_drewN hbk _⟩
              case measure => simp [intOf] <;> omega
          · have klk : ¬ (k : Int) < i := by omega
            obtain rfl : k = i := by omega
            go_wp2_with fail
            go_roundw
            case rel => exact ⟨k + 1, by omega, by go_num, okUpto_step ts k x HX.out hok.out HGd.out hnew.out, hbk⟩
            case measure => simp [intOf] <;> omega
    · have klt : ¬ (i : Int) < n := by omega
      by_cases hc0 : conns ≤ 0
      · go_wp2
        go_ret2
        exact ⟨rfl, hbx⟩
      · have hc8 : 8 < conns := by omega
        go_wp2
        go_ret2
        exact ⟨rfl, hbx⟩

set_option maxRecDepth 100000 in
set_option maxHeartbeats 4000000 in
/-- the tenants may be -/
theorem rOpen_ok (b off n c : Nat) (conns : Int) (ts : List Ten) (w : World) (hl : ts.length = n) (hT : TensAt w b off ts) (hb : b < w.heap.size) (h1 : 1 ≤ n) (h5 : n ≤ 5)
    (hsz : ∀ x ∈ ts, x.n.size ≤ 9223372036854775806 ∧ x.k.size ≤ 9223372036854775806) (hbad : okUpto ts n = true) (hc0 : ¬ conns ≤ 0) (hc8 : ¬ 8 < conns) :
    Calls Tryz.prog 37 #[.slice (some ⟨b, off, none⟩) n c, .int .i64 conns] w fun e w' => ∃ g tv, e = .returned (.tuple #[.pointer (some ⟨g, 0, none⟩), .int .i64 0]) ∧ w.heap.size ≤ g ∧ w'.heap[g]? = some (.cells (srvL tv conns 0).toArray 102 (0, 0)) ∧ Below w.heap.size w w' := by
  obtain ⟨i0, hi, hz0, hz1, hz2⟩ := info_parts infoTen
  have k0 : ((n : Int) == 0) = false := beq_eq_false_iff_ne.2 (by omega)
  have k5 : ¬ (5 : Int) < n := by omega
  have HL : Hid (ts.length = n) := hl
  have HT : Hid (TensAt w b off ts) := hT
  have HSZ : Hid (∀ x ∈ ts, x.n.size ≤ 9223372036854775806 ∧ x.k.size ≤ 9223372036854775806) := hsz
  have HBAD : Hid (okUpto ts n = true) := hbad
  clear hl hT hsz hbad
  go_enter Tryz.func37, Tryz.ntmps37
  go_wp2_with fail
  go_loopw [6] (fun i wx => ∃ j : Nat, j ≤ n ∧ i = .int .i64 j ∧ Hid (okUpto ts j = true) ∧ Below w.heap.size w wx) (fun i _ => n - (intOf i).toNat)
  case atStart => exact ⟨0, by omega, rfl, rfl, Below.refl _ _⟩
  case round =>
    obtain ⟨i, hii, rfl, hok, hbx⟩ := hrel
    by_cases hlt : i < n
    · have klt : (i : Int) < n := by omega
      obtain ⟨x, hx⟩ : ∃ x, ts[i]? = some x := ⟨_, List.getElem?_eq_getElem (by rw [HL.out]; exact hlt)⟩
      have HX : Hid (ts[i]? = some x) := hx
      obtain ⟨c0, c1, c2⟩ := tens_cells (HT.out.below hbx hb) i x hx
      obtain ⟨s1, s2⟩ := HSZ.out x (List.mem_of_getElem? hx)
      clear hx
      have cG := fun W => rGood_c x W s1 s2
      cases hg : goodB x with
      | false =>
        exfalso
        have := okUpto_mono ts (i + 1) n (by omega) (okUpto_bad ts i x HX.out hg)
        rw [HBAD.out] at this; cases this
      | true =>
        rw [hg] at cG
        have HGd : Hid (goodB x = true) := hg
        clear hg
        go_wp2_with (go_at_call 56; refine (cG _).mono ?_; rintro e w1 ⟨rfl, hb1⟩)
        clear cG c0 c1 c2
        have hbw : Below w.heap.size w w1 := hbx.trans (hb1.mono hbx.size)
        clear hb1
        go_loopw [8] (fun v wx => ∃ k : Nat, k ≤ i ∧ v = .int .i64 k ∧ Hid (newName ts k x = true) ∧ Below w.heap.size w wx) (fun v _ => i - (intOf v).toNat)
        case atStart => exact ⟨0, by omega, rfl, rfl, hbw⟩
        case round =>
          obtain ⟨k, hk, rfl, hnew, hbk⟩ := hrel
          by_cases hlk : k < i
          · have klk : (k : Int) < i := by omega
            have klkn : (k : Int) < n := by omega
            obtain ⟨y, hy⟩ : ∃ y, ts[k]? = some y := ⟨_, List.getElem?_eq_getElem (by rw [HL.out]; omega)⟩
            have HY : Hid (ts[k]? = some y) := hy
            obtain ⟨d0, _, _⟩ := tens_cells (HT.out.below hbk hb) k y hy
            obtain ⟨e0, _, _⟩ := tens_cells (HT.out.below hbk hb) i x HX.out
            clear hy
            cases he : (y.n.toList == x.n.toList) with
            | true =>
              exfalso
              have := okUpto_mono ts (i + 1) n (by omega) (okUpto_dup ts i k x y hlk HX.out HY.out he)
              rw [HBAD.out] at this; cases this
            | false =>
              have HE : Hid ((y.n.toList == x.n.toList) = false) := he
              go_wp2_with fail
              go_quiet (fail)
              go_wp2
              go_roundw
              case rel => exact ⟨k + 1, by omega, by go_num, by show _ = _; rw [newName_step ts k x y HY.out, hnew.out, HE.out]; rfl, below_drewN hbk _⟩
              case measure => simp [intOf] <;> omega
          · have klk : ¬ (k : Int) < i := by omega
            obtain rfl : k = i := by omega
            go_wp2_with fail
            go_roundw
            case rel => exact ⟨k + 1, by omega, by go_num, okUpto_step ts k x HX.out hok.out HGd.out hnew.out, hbk⟩
            case measure => simp [intOf] <;> omega
    · have klt : ¬ (i : Int) < n := by omega
      have z1 := zero_srv
      have z2 : ∀ v, (srvL (.slice none 0 0) 0 0).toArray.setIfInBounds 1 (.int .i64 v) = (srvL (.slice none 0 0) v 0).toArray := fun _ => rfl
      have z3 : ¬ (srvL (.slice none 0 0) 0 0).toArray.size < 2 := by decide
      have z4 : ¬ (srvL (.slice none 0 0) 0 0).length < 2 := by decide
      have z5 : ∀ v, (srvL (.slice none 0 0) v 0)[0]? = some (.slice none 0 0) := fun _ => rfl
      have z6 : ∀ v, (srvL (.slice none 0 0) v 0).toArray[0]? = some (.slice none 0 0) := fun _ => rfl
      have hbr : b < wr.heap.size := Nat.lt_of_lt_of_le hb hbx.size
      go_wp2_with (at_builtin; refine wpList_append_own _ rfl _ _ 22 rfl w.heap.size 32 i0 _ 3 40 Tryz.underlying22 hi hz0 hz1 hz2 rfl (by decide) (.slice none 0 0) 0 [] rfl (World.ownsRow_nil _ _ _ _) ⟨b, off, none⟩ n c (flatT ts) rfl ?c0 ?c1 (flatT_one ts) ?c3 ?c4 ?c5 ?_)
      case c0 => rw [flatT_length, HL.out]
      case c1 =>
        intro j v hj
        exact (HT.out.below hbx hb) j v hj
      case c3 => unfold maxLen; omega
      case c4 => omega
      case c5 => have := hbx.size; simp <;> omega
      intro v' w2 hown hgrow _
      have hg2 : w2.heap[wr.heap.size]? = some (.cells (srvL (.slice none 0 0) conns 0).toArray 102 (0, 0)) := (hgrow.block wr.heap.size (by simp) (by intro h; cases h)).trans (alloc_at _ _ _ rfl)
      have c0 : w2.cell? ⟨wr.heap.size, 0, none⟩ = some (.slice none 0 0) := heap_cell hg2 0 rfl
      have hex : ∃ g' cap', v' = .slice (some ⟨g', 0, none⟩) n cap' := by
        rcases hown.2 with ⟨_, h⟩ | ⟨g', cap', _, h, _⟩
        · omega
        · exact ⟨g', cap', h⟩
      obtain ⟨g', cap', hv⟩ := hex
      rw [hv]
      have f0 := heap_frozen hg2 0
      have HG : Hid (w2.heap[wr.heap.size]? = some (.cells (srvL (.slice none 0 0) conns 0).toArray 102 (0, 0))) := hg2
      have hbw : Below w.heap.size w w2 := (hbx.alloc hbx.size _).grown hgrow (by have := hbx.size; simp <;> omega) (by intro k h; cases h)
      have hsx := hbx.size
      clear hg2 hown hgrow hv z1 z2 z3 z4 z5 z6
      go_wp2
      go_ret2
      refine ⟨wr.heap.size, .slice (some ⟨g', 0, none⟩) n cap', rfl, hsx, ?_, hbw.setCell (p := ⟨wr.heap.size, 0, none⟩) hsx _⟩
      rw [set_heap _ _ _ _ _ _ _ HG.out]
      rfl

end Go.Proofs.YtdpnpcjbjjjceaaGreatDoor.O
namespace Go.Proofs.YtdpnpcjbjjjceaaGreatDoor.O
open Go.RowKit Go.Builtin
set_option maxRecDepth 20000

/-- what the world outside the heap is -/
def SameOs (w w' : World) : Prop := w'.os = w.os ∧ w'.tape = w.tape ∧ w'.output = w.output
theorem SameOs.trans {a b c : World} (h : SameOs a b) (k : SameOs b c) : SameOs a c := ⟨k.1.trans h.1, k.2.1.trans h.2.1, k.2.2.trans h.2.2⟩
theorem SameOs.refl (a : World) : SameOs a a := ⟨rfl, rfl, rfl⟩
theorem SameOs.setCell {a b : World} (h : SameOs a b) (p : Addr) (v : Value) : SameOs a (b.setCell p v) := h
theorem conn_len : ∀ d, d ≤ 8 → (connsL d).length = 56 := by decide
def rsrv (w : World) (g : Nat) (conns : Int) (d : Nat) : Prop := ∃ tv, w.heap[g]? = some (.cells (srvL tv conns d).toArray 102 (0, 0))

theorem there_at (tv : Value) (conns : Int) : ∀ d, d ≤ 8 → ∀ c, c < 8 → (srvL tv conns d)[2 + c * 7]? = some (.bool (decide (c < d))) := by
  intro d hd c hc
  have h : ∀ d, d ≤ 8 → ∀ c, c < 8 → (connsL d)[c * 7]? = some (.bool (decide (c < d))) := by
    intro d hd c hc
    rcases d with _ | _ | _ | _ | _ | _ | _ | _ | _ | d
    all_goals first | omega | skip
    all_goals
      rcases c with _ | _ | _ | _ | _ | _ | _ | _ | c
      all_goals first | omega | rfl
  have e : 2 + c * 7 = c * 7 + 1 + 1 := by omega
  rw [e]
  show (connsL d ++ _)[c * 7]? = _
  rw [List.getElem?_append_left (by rw [conn_len d hd]; omega)]
  exact h d hd c hc

theorem free_at (tv : Value) (conns : Int) : ∀ d, d < 8 → ∀ j, j < 7 → (srvL tv conns d)[2 + d * 7 + j]? = zconn[j]? := by
  intro d hd j hj
  have h : ∀ d, d < 8 → ∀ j, j < 7 → (connsL d)[d * 7 + j]? = zconn[j]? := by
    intro d hd j hj
    rcases d with _ | _ | _ | _ | _ | _ | _ | _ | d
    all_goals first | omega | skip
    all_goals
      rcases j with _ | _ | _ | _ | _ | _ | _ | j
      all_goals first | omega | rfl
  have e : 2 + d * 7 + j = d * 7 + j + 1 + 1 := by omega
  rw [e]
  show (connsL d ++ _)[d * 7 + j]? = _
  rw [List.getElem?_append_left (by rw [conn_len d (by omega)]; omega)]
  exact h d hd j hj
theorem dialed (tv : Value) (conns : Int) : ∀ d, d < 8 → ((((((((srvL tv conns d).toArray.setIfInBounds (2 + d * 7) (.bool true)).setIfInBounds (2 + d * 7 + 1) (.bool false)).setIfInBounds (2 + d * 7 + 2) (.string ByteArray.empty)).setIfInBounds (2 + d * 7 + 3) (.string ByteArray.empty)).setIfInBounds (2 + d * 7 + 4) (.int .i64 (-1))).setIfInBounds (2 + d * 7 + 5) (.bool false)).setIfInBounds (2 + d * 7 + 6) (.slice none 0 0)) = (srvL tv conns (d + 1)).toArray := by
  intro d hd
  rcases d with _ | _ | _ | _ | _ | _ | _ | _ | d
  all_goals first | omega | kernel_rfl

set_option maxRecDepth 100000 in
set_option maxHeartbeats 4000000 in
theorem rDial_c (w : World) (g : Nat) (conns : Int) (d : Nat) (hd8 : d ≤ 8) (hdc : (d : Int) ≤ conns) (hc8 : conns ≤ 8) (hR : rsrv w g conns d) :
    Calls Tryz.prog 40 #[.pointer (some ⟨g, 0, none⟩)] w fun e w' => e = .returned (if (d : Int) < conns then .tuple #[.int .i64 d, .int .i64 0] else .tuple #[.int .i64 0, .int .i64 3]) ∧
      rsrv w' g conns (if (d : Int) < conns then d + 1 else d) ∧ (∀ k, k ≠ g → w'.heap[k]? = w.heap[k]?) ∧ w'.heap.size = w.heap.size ∧ SameOs w w' := by
  obtain ⟨tv, hg⟩ := hR
  have HG : Hid (w.heap[g]? = some (.cells (srvL tv conns d).toArray 102 (0, 0))) := hg
  have cm : w.cell? ⟨g, 1, none⟩ = some (.int .i64 conns) := heap_cell hg 1 rfl
  clear hg
  go_enter Tryz.func40, Tryz.ntmps40
  go_wp2_with fail
  go_loop [4] (fun i => ∃ c : Nat, c ≤ d ∧ i = .int .i64 c) (fun i => d + 1 - (intOf i).toNat)
  case atStart => exact ⟨0, by omega, rfl⟩
  case round =>
    obtain ⟨c, hc, rfl⟩ := hrel
    by_cases hcd : c < d
    · have k1 : (c : Int) < conns := by omega
      have k8 : (c : Int) < 8 := by omega
      have ct : w.cell? ⟨g, 2 + c * 7, none⟩ = some (.bool true) := heap_cell HG.out _ (by rw [List.getElem?_toArray, there_at tv conns d hd8 c (by omega)]; simp [hcd])
      go_wp2
      go_round
      case rel => exact ⟨c + 1, by omega, by go_num⟩
      case measure => simp [intOf] <;> omega
    · obtain rfl : c = d := by omega
      by_cases hfull : (c : Int) < conns
      · have k8 : (c : Int) < 8 := by omega
        have ct : w.cell? ⟨g, 2 + c * 7, none⟩ = some (.bool false) := heap_cell HG.out _ (by rw [List.getElem?_toArray, there_at tv conns c hd8 c (by omega)]; simp)
        have f0 := heap_frozen HG.out (2 + c * 7)
        have b1 : w.cell? ⟨g, 2 + c * 7 + 1, none⟩ = some (.bool false) := heap_cell HG.out _ (by rw [List.getElem?_toArray]; exact free_at tv conns c (by omega) 1 (by omega))
        have f1 := heap_frozen HG.out (2 + c * 7 + 1)
        have b2 : w.cell? ⟨g, 2 + c * 7 + 2, none⟩ = some (.string ByteArray.empty) := heap_cell HG.out _ (by rw [List.getElem?_toArray]; exact free_at tv conns c (by omega) 2 (by omega))
        have f2 := heap_frozen HG.out (2 + c * 7 + 2)
        have b3 : w.cell? ⟨g, 2 + c * 7 + 3, none⟩ = some (.string ByteArray.empty) := heap_cell HG.out _ (by rw [List.getElem?_toArray]; exact free_at tv conns c (by omega) 3 (by omega))
        have f3 := heap_frozen HG.out (2 + c * 7 + 3)
        have b4 : w.cell? ⟨g, 2 + c * 7 + 4, none⟩ = some (.int .i64 0) := heap_cell HG.out _ (by rw [List.getElem?_toArray]; exact free_at tv conns c (by omega) 4 (by omega))
        have f4 := heap_frozen HG.out (2 + c * 7 + 4)
        have b5 : w.cell? ⟨g, 2 + c * 7 + 5, none⟩ = some (.bool false) := heap_cell HG.out _ (by rw [List.getElem?_toArray]; exact free_at tv conns c (by omega) 5 (by omega))
        have f5 := heap_frozen HG.out (2 + c * 7 + 5)
        have b6 : w.cell? ⟨g, 2 + c * 7 + 6, none⟩ = some (.slice none 0 0) := heap_cell HG.out _ (by rw [List.getElem?_toArray]; exact free_at tv conns c (by omega) 6 (by omega))
        have f6 := heap_frozen HG.out (2 + c * 7 + 6)
        go_wp2
        go_ret2
        refine ⟨?_, ?_, ?_, ?_, ?_⟩
        · first | rfl | (rw [if_pos hfull]; rfl)
        · try rw [if_pos hfull]
          refine ⟨tv, ?_⟩
          rw [set_heap _ _ _ _ _ _ _ (set_heap _ _ _ _ _ _ _ (set_heap _ _ _ _ _ _ _ (set_heap _ _ _ _ _ _ _ (set_heap _ _ _ _ _ _ _ (set_heap _ _ _ _ _ _ _ (set_heap _ _ _ _ _ _ _ HG.out))))))]
          exact congrArg (fun x => some (Obj.cells x 102 (0, 0))) (dialed tv conns c (by omega))
        · intro k hk
          repeat rw [Below.heap_setCell _ _ _ k (show k ≠ _ from hk)]
        · simp [World.setCell]
        · exact SameOs.setCell (SameOs.setCell (SameOs.setCell (SameOs.setCell (SameOs.setCell (SameOs.setCell (SameOs.setCell (SameOs.refl _) _ _) _ _) _ _) _ _) _ _) _ _) _ _
      · go_wp2
        go_ret2
        refine ⟨?_, ?_, ?_, rfl, SameOs.refl _⟩
        · first | rfl | (rw [if_neg (by omega)]; rfl)
        · try rw [if_neg (by omega)]
          exact ⟨tv, HG.out⟩
        · exact fun k _ => rfl

theorem rThere0_c (w : World) (g : Nat) (conns : Int) (hR : rsrv w g conns 0) : Calls Tryz.prog 57 #[.pointer (some ⟨g, 0, none⟩), .int .i64 0] w fun e w' => e = .returned (.bool false) ∧ w' = w := by
  obtain ⟨tv, hg⟩ := hR
  have ct : w.cell? ⟨g, 2, none⟩ = some (.bool false) := heap_cell hg 2 rfl
  clear hg
  go_enter Tryz.func57, Tryz.ntmps57
  go_wp2
  go_ret
  exact ⟨rfl, rfl⟩
theorem rTake0_c (w : World) (g : Nat) (conns n : Int) (hR : rsrv w g conns 0) : Calls Tryz.prog 44 #[.pointer (some ⟨g, 0, none⟩), .int .i64 0, .int .i64 n] w fun e w' => e = .returned (.tuple #[.string ByteArray.empty, .int .i64 4]) ∧ w' = w := by
  have c1 := rThere0_c w g conns hR
  clear hR
  go_enter Tryz.func44, Tryz.ntmps44
  go_wp2_with (go_at_call 57; refine c1.mono ?_; rintro e w1 ⟨rfl, hw⟩; replace hw := hw.symm; subst hw)
  go_ret2
  exact ⟨rfl, rfl⟩
end Go.Proofs.YtdpnpcjbjjjceaaGreatDoor.O
