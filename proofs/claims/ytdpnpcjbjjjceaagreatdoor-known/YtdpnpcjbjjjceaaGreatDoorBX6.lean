import Derived.Test.YtdpnpcjbjjjceaaGreatDoorBC2
import Derived.Test.YtdpnpcjbjjjceaaGreatDoorBSt14b
set_option linter.unusedSimpArgs false
set_option linter.unusedVariables false
namespace Go.Proofs.YtdpnpcjbjjjceaaGreatDoor.S
open Go.RowKit Go.Maps Go.MuLone Go.Proofs.YtdpnpcjbjjjceaaGreatDoor

theorem statC_cells {w : World} {g a b s e x i k : Nat} (h : w.heap[g]? = some (.cells (statC a b s e x i k) 257 (0, 0))) :
    w.cell? ⟨g, 0, none⟩ = some (.int .i64 a) ∧ w.cell? ⟨g, 1, none⟩ = some (.int .i64 b) ∧ w.cell? ⟨g, 2, none⟩ = some (.int .i64 s) ∧ w.cell? ⟨g, 3, none⟩ = some (.int .i64 e) ∧ w.cell? ⟨g, 4, none⟩ = some (.int .i64 x) ∧ w.cell? ⟨g, 5, none⟩ = some (.int .i64 i) ∧ w.cell? ⟨g, 6, none⟩ = some (.int .i64 k) :=
  ⟨heap_cell h 0 rfl, heap_cell h 1 rfl, heap_cell h 2 rfl, heap_cell h 3 rfl, heap_cell h 4 rfl, heap_cell h 5 rfl, heap_cell h 6 rfl⟩

/-- while the numbers are shown -/
structure SG (X : Cx) (w0 : World) (n : Nat) (y : M.Sys) (c : M.Conn) (rv : Value) (B : Nat) (cs : Array Value) (L : Nat) (w : World) : Prop where
  kat : KAt X w n y c rv
  glob : Glob w
  blk : w.heap[B]? = some (.cells cs 257 (0, 0))
  turn : TurnK X w0 w
  len : c.out.length ≤ L
theorem SG.count {X : Cx} {w0 w : World} {n : Nat} {y : M.Sys} {c : M.Conn} {rv : Value} {B : Nat} {cs : Array Value} {L : Nat} (h : SG X w0 n y c rv B cs L w) (hB : X.O B) (nm : ByteArray) (m : Nat) (hm : m ≤ 10000000000) (hnm : nm.size ≤ 100) (hL : L ≤ 70368744177664) :
    Calls Tryz.prog 215 #[.pointer (some ⟨X.cb, 0, none⟩), .string nm, .int .i64 m] w fun e w' => e = .returned (.tuple #[]) ∧ SG X w0 n y (M.say c (nm.data.toList ++ [32] ++ M.dig m)) rv B cs (L + 200) w' :=
  (count_c h.kat h.glob nm m (by omega) hnm (Nat.le_trans h.len hL)).mono fun _ _ ⟨he, hk, hT⟩ => ⟨he, hk, h.glob.turnK h.kat.ok hT, keep_k h.kat.ok hB (by decide) h.blk hT, h.turn.trans hT, say_len h.len (word_dig nm hnm m)⟩
theorem kat_eq {X : Cx} {w : World} {n : Nat} {y : M.Sys} {c c' : M.Conn} {rv : Value} (h : KAt X w n y c rv) (e : c = c') : KAt X w n y c' rv := e ▸ h

set_option maxRecDepth 20000 in
set_option maxHeartbeats 4000000 in
theorem cstats_c {X : Cx} {w : World} {n : Nat} {y : M.Sys} {c : M.Conn} {rv : Value} (h : KAt X w n y c rv) (hn : n ≤ 10000000000) (hG : Glob w) {t : Nat} (ht : t < X.N) (hown : c.owner = some t) (ho : c.out.length ≤ 35184372088832) :
    Calls Tryz.prog 195 #[.pointer (some ⟨X.cb, 0, none⟩)] w fun e w' => e = .returned (.tuple #[]) ∧ KPost X w n (M.setAt y t (M.storeAt y t), M.say c (M.stats (M.storeAt y t))) rv w' := by
  obtain ⟨sv, wt, nv, tv, iv, av, hc, hcb⟩ := conn_cells h
  obtain ⟨x, rs, hB, hS, hE⟩ := h.sys.at ht
  have c1 : w.cell? ⟨X.cb, 1, none⟩ = some (.pointer (some ⟨X.sb t, 0, none⟩)) := by
    rcases hc.owner with ⟨h1, _⟩ | ⟨u, _, h1, h2⟩
    · rw [hown] at h1; cases h1
    · rw [hown] at h1
      cases h1
      rw [← h2]; exact hc.cb.c1
  have cS := stats_c w _ _ x rs hB
  have hb0 : x.gets ≤ 10000000000 := Nat.le_trans hS.gets hn
  have hb1 : x.hits ≤ 10000000000 := Nat.le_trans hS.hits hb0
  have hb2 : x.mark ≤ 10000000000 := Nat.le_trans hS.marked (Nat.le_trans hS.uses hn)
  have hb3 : x.evicted ≤ 10000000000 := by have := hS.evicted; omega
  have hb6 : x.expired ≤ 10000000000 := by have := hS.evicted; omega
  have hb4 : rs.length ≤ 125 := hS.len
  have hb5 : x.cost ≤ 2000 := Nat.le_trans hS.fits hS.quota
  have HEND : Hid (∀ c', c' = M.say (M.say (M.say (M.say (M.say (M.say (M.say (M.say c ([103, 101, 116, 115] ++ [32] ++ M.dig x.gets)) ([104, 105, 116, 115] ++ [32] ++ M.dig x.hits)) ([115, 116, 111, 114, 101, 115] ++ [32] ++ M.dig x.mark)) ([101, 118, 105, 99, 116, 101, 100] ++ [32] ++ M.dig x.evicted)) ([101, 120, 112, 105, 114, 101, 100] ++ [32] ++ M.dig x.expired)) ([105, 116, 101, 109, 115] ++ [32] ++ M.dig rs.length)) ([98, 121, 116, 101, 115] ++ [32] ++ M.dig x.cost)) [69, 78, 68] → c' = M.say c (M.stats (M.storeAt y t))) := by
    intro c' hc'
    rw [hc', hE]
    have hT : M.total (rs.map (·.1)) = x.cost := hS.cost.symm
    unfold M.stats toStore M.say
    simp only [hT, List.length_map, List.append_assoc, List.cons_append, List.nil_append]
  have HK := Hid.of h
  have HS : Hid (∀ w', Box w' (X.sb t) (X.eb t) (0, y.clock) x rs → Turn (ofStore (X.sb t) (X.eb t)) w w' → KAt X w' n (M.setAt y t (M.storeAt y t)) c rv) := fun w' hB' hT' => HK.out.store (Nat.le_refl _) ht hT' ⟨x, rs, hB', hS, hE⟩
  have HGl := Hid.of hG
  obtain ⟨y2, hy2⟩ : ∃ y2, y2 = M.setAt y t (M.storeAt y t) := ⟨_, rfl⟩
  rw [← hy2] at HS ⊢
  clear h hc hB hS hE hG hown hy2
  obtain ⟨ge, hge⟩ : ∃ ge, ge = x.gets := ⟨_, rfl⟩
  obtain ⟨hi, hhi⟩ : ∃ hi, hi = x.hits := ⟨_, rfl⟩
  obtain ⟨st, hst⟩ : ∃ st, st = x.mark := ⟨_, rfl⟩
  obtain ⟨ev, hev⟩ : ∃ ev, ev = x.evicted := ⟨_, rfl⟩
  obtain ⟨ex, hex⟩ : ∃ ex, ex = x.expired := ⟨_, rfl⟩
  obtain ⟨it, hit⟩ : ∃ it, it = rs.length := ⟨_, rfl⟩
  obtain ⟨co, hco⟩ : ∃ co, co = x.cost := ⟨_, rfl⟩
  rw [← hge, ← hhi, ← hst, ← hev, ← hex, ← hit, ← hco] at cS HEND
  rw [← hge] at hb0
  rw [← hhi] at hb1
  rw [← hst] at hb2
  rw [← hev] at hb3
  rw [← hex] at hb6
  rw [← hit] at hb4
  rw [← hco] at hb5
  clear hge hhi hst hev hex hit hco
  have CS := Hid.of cS
  clear cS
  unfold statC at CS
  go_enter Tryz.func195, Tryz.ntmps195
  go_wp2_with (first
    | (go_at_call 214; refine CS.out.mono ?_; rintro e w1 ⟨rfl, hB1, hT1⟩; have HK1 := Hid.of (HS.out w1 hB1 hT1); have HT1 := Hid.of (TurnK.store ht hT1); clear hB1 hT1)
    | fail)
  have hT1' := HT1.out.trans (TurnK.below ((Below.refl w1.heap.size w1).alloc (Nat.le_refl _) (.cells (statC ge hi st ev ex it co) 257)))
  have hSG : SG X w n y2 c rv w1.heap.size (statC ge hi st ev ex it co) 35184372088832 (w1.alloc (.cells (statC ge hi st ev ex it co) 257)) := ⟨HK1.out.alloc _, HGl.out.turnK HK.out.ok hT1', alloc_here _ _, hT1', ho⟩
  have HB : Hid (X.O w1.heap.size) := HK1.out.new
  clear hT1' HK1 HT1
  unfold statC at hSG
  have HSG := Hid.of hSG
  clear hSG
  refine (HSG.out.count HB.out _ _ (by omega) (by decide) (by decide)).mono ?_
  rintro e w2 ⟨rfl, hS2⟩
  obtain ⟨d0, d1, d2, d3, d4, d5, d6⟩ := statC_cells hS2.blk
  have HSG := Hid.of hS2
  clear hS2
  go_wp2_with (first
    | (go_at_call 215; refine (HSG.out.count HB.out _ _ (by omega) (by decide) (by decide)).mono ?_; rintro e w2 ⟨rfl, hS2⟩; obtain ⟨d0, d1, d2, d3, d4, d5, d6⟩ := statC_cells hS2.blk; have HSG := Hid.of hS2; clear hS2)
    | (go_at_call 120; refine (say_1 HSG.out.kat _ (by have := HSG.out.len; show _ + 3 + 1 ≤ _; omega) _ rfl).mono ?_; rintro e w9 ⟨rfl, hK9, hT9⟩))
  go_end0
  exact ⟨rfl, kat_eq hK9 (HEND.out _ rfl), HSG.out.turn.trans hT9⟩
end Go.Proofs.YtdpnpcjbjjjceaaGreatDoor.S
namespace Go.Proofs.YtdpnpcjbjjjceaaGreatDoor.S
open Go.RowKit Go.Maps Go.MuLone Go.Proofs.YtdpnpcjbjjjceaaGreatDoor

section
variable {X : Cx} {w : World} {n : Nat} {y : M.Sys} {c : M.Conn} {rv : Value}
theorem delete_k (h : KAt X w n y c rv) (hn : n ≤ 10000000000) {t : Nat} (ht : t < X.N) (k : M.Bytes) (hk : k.length ≤ 1000000) :
    Calls Tryz.prog 191 #[.pointer (some ⟨X.sb t, 0, none⟩), .string ⟨k.toArray⟩] w fun e w' => e = .returned (.string ⟨(M.delete (M.storeAt y t) k).1.toArray⟩) ∧ KAt X w' (n + 1) (M.setAt y t (M.delete (M.storeAt y t) k).2) c rv ∧ TurnK X w w' := by
  obtain ⟨x, rs, hB, hS, hE⟩ := h.sys.at ht
  have hrows : (M.storeAt y t).rows = rs.map (·.1) := by rw [hE]; rfl
  cases hf : findR rs k with
  | none =>
    have e1 : M.delete (M.storeAt y t) k = ([78, 79, 84, 32, 70, 79, 85, 78, 68], toStore x rs) := by
      unfold M.delete; rw [hrows, find_fst, hf, hE]; rfl
    rw [e1]
    exact (delete_none w _ _ x rs hB n hS (by omega) k _ (keyLit' k hk) hf).mono fun _ _ hp => post_k h ht hp
  | some p =>
    rw [hE]
    exact (delete_some w _ _ x rs hB n hS (by omega) k _ (keyLit' k hk) p hf).mono fun _ _ hp => post_k h ht hp
theorem touch_k (h : KAt X w n y c rv) (hn : n ≤ 10000000000) {t : Nat} (ht : t < X.N) (k : M.Bytes) (hk : k.length ≤ 1000000) (st : Nat) (hst : st ≤ 1000000) :
    Calls Tryz.prog 194 #[.pointer (some ⟨X.sb t, 0, none⟩), .string ⟨k.toArray⟩, .int .i64 st] w fun e w' => e = .returned (.string ⟨(M.touch y.clock (M.storeAt y t) k st).1.toArray⟩) ∧ KAt X w' (n + 1) (M.setAt y t (M.touch y.clock (M.storeAt y t) k st).2) c rv ∧ TurnK X w w' := by
  obtain ⟨x, rs, hB, hS, hE⟩ := h.sys.at ht
  have hrows : (M.storeAt y t).rows = rs.map (·.1) := by rw [hE]; rfl
  cases hf : findR rs k with
  | none =>
    have e1 : M.touch y.clock (M.storeAt y t) k st = ([78, 79, 84, 32, 70, 79, 85, 78, 68], toStore x rs) := by
      unfold M.touch; rw [hrows, find_fst, hf, hE]; rfl
    rw [e1]
    exact (touch_none w _ _ x rs hB n hS (by omega) k _ (keyLit' k hk) _ hf).mono fun _ _ hp => post_k h ht hp
  | some p =>
    rw [hE]
    exact (touch_some w _ _ x rs hB n hS (by omega) k _ (keyLit' k hk) st hst h.sys.clock p hf).mono fun _ _ hp => post_k h ht hp
theorem incr_k (h : KAt X w n y c rv) (hG : Glob w) (hn : n ≤ 10000000000) {t : Nat} (ht : t < X.N) (k : M.Bytes) (hk : k.length ≤ 1000000) (m : Nat) (hm : m ≤ 999999999) :
    Calls Tryz.prog 192 #[.pointer (some ⟨X.sb t, 0, none⟩), .string ⟨k.toArray⟩, .int .i64 m] w fun e w' => e = .returned (.string ⟨(M.incr (M.storeAt y t) k m).1.toArray⟩) ∧ KAt X w' (n + 1) (M.setAt y t (M.incr (M.storeAt y t) k m).2) c rv ∧ TurnK X w w' := by
  obtain ⟨x, rs, hB, hS, hE⟩ := h.sys.at ht
  have h8 := h.ok.eightS w ht
  have hrows : (toStore x rs).rows = rs.map (·.1) := rfl
  rw [hE]
  cases hf : findR rs k with
  | none =>
    have e1 : M.incr (toStore x rs) k m = ([78, 79, 84, 32, 70, 79, 85, 78, 68], toStore x rs) := by
      unfold M.incr; rw [hrows, find_fst, hf]; rfl
    rw [e1]
    exact (incr_none w _ _ x rs hB n hS (by omega) k _ (keyLit' k hk) _ hf).mono fun _ _ hp => post_k h ht hp
  | some p =>
    have e0 : M.incr (toStore x rs) k m = if M.numeric p.1.value then
      (if (toStore x rs).quota < M.cost { p.1 with value := M.dig (M.num p.1.value + m) } then ([84, 79, 79, 32, 76, 65, 82, 71, 69], toStore x rs)
      else (M.dig (M.num p.1.value + m), M.put (toStore x rs) { p.1 with value := M.dig (M.num p.1.value + m) })) else ([78, 79, 84, 32, 78, 85, 77, 66, 69, 82], toStore x rs) := by
      unfold M.incr; rw [hrows, find_fst, hf]; rfl
    cases hnum : M.numeric p.1.value with
    | false =>
      rw [e0, hnum]
      exact (incr_bad w _ _ x rs hB n hS (by omega) k _ (keyLit' k hk) _ hG p hf hnum).mono fun _ _ hp => post_k h ht hp
    | true =>
      rw [e0, hnum, if_pos rfl]
      by_cases hq : (toStore x rs).quota < M.cost { p.1 with value := M.dig (M.num p.1.value + m) }
      · rw [if_pos hq]
        exact (incr_large w _ _ x rs hB n hS (by omega) k _ (keyLit' k hk) m hm hG h8 p hf hnum (by unfold M.store; rw [if_pos hq])).mono fun _ _ hp => post_k h ht hp
      · rw [if_neg hq]
        exact (incr_ok w _ _ x rs hB n hS (by omega) k _ (keyLit' k hk) m hm hG h8 p hf hnum _ (by unfold M.store; rw [if_neg hq])).mono fun _ _ hp => post_k h ht hp
end

/-- the words of a command, by its shape -/
theorem cmd_shape {base : Nat} {W : World} {ws : List M.Bytes} {nv tv iv : Value} (h : CmdW base W ws (.agg #[nv, tv, iv])) {least : Nat} {rules : List (Bool × Int)} (hs : pShape (M.word ws 0) = some (least, rules)) :
    nv = str (M.word ws 0) ∧ least ≤ ws.tail.length ∧ ws.tail.length ≤ rules.length ∧ P.pFitsL rules ws.tail = true ∧ ws = M.word ws 0 :: ws.tail ∧
    W.ownsRow base 9 1 tv (tL rules ws.tail).length ((tL rules ws.tail).map str) ∧ W.ownsRow base 3 1 iv (nL rules ws.tail).length ((nL rules ws.tail).map int) := by
  obtain ⟨least', rules', h1, h2, _, tv', nv', hv, h5, h6⟩ := h
  have hv1 : nv = str (M.word ws 0) ∧ tv = tv' ∧ iv = nv' := by
    simp only [Value.agg.injEq, Array.mk.injEq, List.cons.injEq, and_true] at hv
    exact hv
  obtain ⟨rfl, rfl, rfl⟩ := hv1
  have he := Option.some.inj (h1.symm.trans hs)
  simp only [Prod.mk.injEq] at he
  obtain ⟨rfl, rfl⟩ := he
  obtain ⟨f1, f2, f3⟩ := fits_split h2
  obtain ⟨xs, hxs⟩ := word_head h1
  refine ⟨rfl, f1, f2, f3, ?_, h5, h6⟩
  rw [hxs]; rfl
theorem row_slice {w : World} {base e n : Nat} {v : Value} {l : List Value} (h : w.ownsRow base e 1 v n l) : ∃ q a b, v = .slice q a b := by
  rcases h.2 with ⟨rfl, _⟩ | ⟨g, c, cur, rfl, _⟩
  · exact ⟨_, _, _, rfl⟩
  · exact ⟨_, _, _, rfl⟩
theorem cmd_slices {base : Nat} {W : World} {ws : List M.Bytes} {nv tv iv : Value} (h : CmdW base W ws (.agg #[nv, tv, iv])) : nv = str (M.word ws 0) ∧ (∃ q a b, tv = .slice q a b) ∧ ∃ q a b, iv = .slice q a b := by
  have h' := h
  obtain ⟨least', rules', h1, h2, _, tv', nv', hv, h5, h6⟩ := h'
  obtain ⟨a, _, _, _, _, b, d⟩ := cmd_shape h h1
  exact ⟨a, row_slice b, row_slice d⟩
def oneKey (l : M.Bytes) : Prop := l = [100, 101, 108, 101, 116, 101] ∨ l = [105, 110, 99, 114] ∨ l = [116, 111, 117, 99, 104]
theorem cmd_key {base : Nat} {W : World} {ws : List M.Bytes} {nv tv iv : Value} (h : CmdW base W ws (.agg #[nv, tv, iv])) (hk : oneKey (M.word ws 0)) :
    (∃ g c, tv = .slice (some ⟨g, 0, none⟩) 1 c ∧ g < W.heap.size ∧ W.cell? ⟨g, 0, none⟩ = some (str (M.word ws 1))) ∧ (M.word ws 1).length ≤ 20 ∧
    (M.word ws 0 ≠ [100, 101, 108, 101, 116, 101] → ∃ g c, iv = .slice (some ⟨g, 0, none⟩) 1 c ∧ g < W.heap.size ∧ W.cell? ⟨g, 0, none⟩ = some (int (M.num (M.word ws 2)))) ∧
    (M.word ws 0 = [105, 110, 99, 114] → M.num (M.word ws 2) ≤ 999999999) ∧ (M.word ws 0 = [116, 111, 117, 99, 104] → M.num (M.word ws 2) ≤ 1000000) := by
  have two : ∀ m : Nat, pShape (M.word ws 0) = some (2, [(false, 20), (true, (m : Int))]) → (∃ g c, tv = .slice (some ⟨g, 0, none⟩) 1 c ∧ g < W.heap.size ∧ W.cell? ⟨g, 0, none⟩ = some (str (M.word ws 1))) ∧ (M.word ws 1).length ≤ 20 ∧ (∃ g c, iv = .slice (some ⟨g, 0, none⟩) 1 c ∧ g < W.heap.size ∧ W.cell? ⟨g, 0, none⟩ = some (int (M.num (M.word ws 2)))) ∧ M.num (M.word ws 2) ≤ m := by
    intro m hs
    obtain ⟨_, f1, f2, f3, hw, h5, h6⟩ := cmd_shape h hs
    obtain ⟨a, b, hx⟩ : ∃ a b, ws.tail = [a, b] := by
      match ws.tail, f1, f2 with
      | [a, b], _, _ => exact ⟨a, b, rfl⟩
    rw [hx] at hw f3 h5 h6
    have e1 : M.word ws 1 = a := by rw [hw]; rfl
    have e2 : M.word ws 2 = b := by rw [hw]; rfl
    simp only [P.pFitsL, Bool.and_eq_true, and_true] at f3
    have t1 : tL [(false, 20), (true, (m : Int))] [a, b] = [a] := rfl
    have n1 : nL [(false, 20), (true, (m : Int))] [a, b] = [M.num b] := rfl
    rw [t1] at h5
    rw [n1] at h6
    obtain ⟨g1, c1, v1, _, l1, k1, _⟩ := row_cell h5 0 (str a) rfl
    obtain ⟨g2, c2, v2, _, l2, k2, _⟩ := row_cell h6 0 (int (M.num b)) rfl
    rw [e1, e2]
    exact ⟨⟨g1, c1, v1, l1, k1⟩, allows_text (m := 20) f3.1, ⟨g2, c2, v2, l2, k2⟩, allows_le (m := m) f3.2⟩
  rcases hk with hn | hn | hn
  · have hs : pShape (M.word ws 0) = some (1, [(false, 20)]) := by rw [hn]; decide
    obtain ⟨_, f1, f2, f3, hw, h5, h6⟩ := cmd_shape h hs
    obtain ⟨a, hx⟩ : ∃ a, ws.tail = [a] := by
      match ws.tail, f1, f2 with
      | [a], _, _ => exact ⟨a, rfl⟩
    rw [hx] at hw f3 h5 h6
    have e1 : M.word ws 1 = a := by rw [hw]; rfl
    simp only [P.pFitsL, Bool.and_eq_true, and_true] at f3
    have t1 : tL [(false, 20)] [a] = [a] := rfl
    rw [t1] at h5
    obtain ⟨g1, c1, v1, _, l1, k1, _⟩ := row_cell h5 0 (str a) rfl
    rw [e1]
    exact ⟨⟨g1, c1, v1, l1, k1⟩, allows_text (m := 20) f3, fun h => absurd hn h, fun h => by rw [hn] at h; exact absurd h (by decide), fun h => by rw [hn] at h; exact absurd h (by decide)⟩
  · obtain ⟨a, b, d, e⟩ := two 999999999 (by rw [hn]; decide)
    exact ⟨a, b, fun _ => d, fun _ => e, fun h => by rw [hn] at h; exact absurd h (by decide)⟩
  · obtain ⟨a, b, d, e⟩ := two 1000000 (by rw [hn]; decide)
    exact ⟨a, b, fun _ => d, fun h => by rw [hn] at h; exact absurd h (by decide), fun _ => e⟩
theorem tL_all : ∀ (k : Nat) (xs : List M.Bytes), xs.length ≤ k → tL (List.replicate k (false, 20)) xs = xs
  | 0, [], _ => rfl
  | 0, _ :: _, h => by simp at h
  | k + 1, [], _ => rfl
  | k + 1, x :: xs, h => by
    rw [List.replicate_succ]
    unfold tL
    simp only [Bool.false_eq_true, if_false]
    rw [tL_all k xs (by simp only [List.length_cons] at h; omega)]
theorem fits_all : ∀ (k : Nat) (xs : List M.Bytes), xs.length ≤ k → P.pFitsL (List.replicate k (false, 20)) xs = true → ∀ x ∈ xs, x.length ≤ 20
  | 0, [], _, _ => by intro x hx; cases hx
  | 0, _ :: _, hl, _ => by simp at hl
  | k + 1, [], _, _ => by intro x hx; cases hx
  | k + 1, x :: xs, hl, h => by
    rw [List.replicate_succ] at h
    unfold P.pFitsL at h
    rw [Bool.and_eq_true] at h
    intro z hz
    rcases List.mem_cons.1 hz with rfl | hz
    · exact allows_text (m := 20) h.1
    · exact fits_all k xs (by simp only [List.length_cons] at hl; omega) h.2 z hz
theorem cmd_get {base : Nat} {W : World} {ws : List M.Bytes} {nv tv iv : Value} (h : CmdW base W ws (.agg #[nv, tv, iv])) (hn : M.word ws 0 = [103, 101, 116]) :
    ∃ g c m, tv = .slice (some ⟨g, 0, none⟩) m c ∧ base ≤ g ∧ ws.tail.length = m ∧ 1 ≤ m ∧ m ≤ 10 ∧ (∃ cur, W.heap[g]? = some (.cells cur 9 (0, 0)) ∧ ∀ (j : Nat) k, ws.tail[j]? = some k → cur[j]? = some (str k)) ∧ ∀ k ∈ ws.tail, k.length ≤ 20 := by
  have hs : pShape (M.word ws 0) = some (1, List.replicate 10 (false, 20)) := by rw [hn]; decide
  obtain ⟨_, f1, f2, f3, hw, h5, _⟩ := cmd_shape h hs
  rw [List.length_replicate] at f2
  rw [tL_all _ _ f2] at h5
  rcases h5.2 with ⟨_, h0⟩ | ⟨g, c, cur, hv, hb, hg, h4, _, h6, h7⟩
  · omega
  · refine ⟨g, c, _, hv, hb, rfl, f1, f2, ⟨cur, hg, fun j k hj => ?_⟩, fits_all _ _ f2 f3⟩
    have h8 : (ws.tail.map str)[j]? = some (str k) := by rw [List.getElem?_map, hj]; rfl
    rw [← h7, List.getElem?_take, Array.getElem?_toList] at h8
    split at h8
    · exact h8
    · cases h8
end Go.Proofs.YtdpnpcjbjjjceaaGreatDoor.S
namespace Go.Proofs.YtdpnpcjbjjjceaaGreatDoor.S
open Go.RowKit Go.Maps Go.MuLone Go.Proofs.YtdpnpcjbjjjceaaGreatDoor

/-- while a command is done at once: the connection, and the box of the command -/
structure DA (X : Cx) (w0 : World) (base B : Nat) (ws : List M.Bytes) (nv tv iv : Value) (t n : Nat) (y : M.Sys) (c : M.Conn) (rv : Value) (w : World) : Prop where
  kat : KAt X w n y c rv
  glob : Glob w
  own : c.owner = some t
  blk : w.heap[B]? = some (.cells #[nv, tv, iv] 79 (0, 0))
  cmd : CmdW base w ws (.agg #[nv, tv, iv])
  turn : TurnK X w0 w
  old : ∀ k, base ≤ k → X.O k
  oldB : X.O B
/-- what is held of the world while it is done -/
structure DS (X : Cx) (B : Nat) (nv tv iv : Value) (t : Nat) (w : World) : Prop where
  c1 : w.cell? ⟨X.cb, 1, none⟩ = some (.pointer (some ⟨X.sb t, 0, none⟩))
  lt : X.cb < w.heap.size
  blk : w.heap[B]? = some (.cells #[nv, tv, iv] 79 (0, 0))
section
variable {X : Cx} {w0 w w' : World} {base B : Nat} {ws : List M.Bytes} {nv tv iv : Value} {t n n' : Nat} {y y' : M.Sys} {c c' : M.Conn} {rv : Value}
theorem DS.drew (h : DS X B nv tv iv t w) : DS X B nv tv iv t w.drew := ⟨h.c1, h.lt, h.blk⟩
theorem DS.alloc (h : DS X B nv tv iv t w) (o : Obj) : DS X B nv tv iv t (w.alloc o) :=
  ⟨(((Below.refl _ _).alloc (Nat.le_refl _) o : Below w.heap.size w (w.alloc o)).cell (p := ⟨X.cb, 1, none⟩) h.lt).trans h.c1, Nat.lt_of_lt_of_le h.lt (by simp), alloc_old h.blk⟩
theorem DS.s (h : DS X B nv tv iv t w) : w.cell? ⟨X.cb, 1, none⟩ = some (.pointer (some ⟨X.sb t, 0, none⟩)) ∧ w.cell? ⟨B, 0, none⟩ = some nv ∧ w.cell? ⟨B, 1, none⟩ = some tv ∧ w.cell? ⟨B, 2, none⟩ = some iv ∧ DS X B nv tv iv t w :=
  ⟨h.c1, heap_cell h.blk 0 rfl, heap_cell h.blk 1 rfl, heap_cell h.blk 2 rfl, h⟩
theorem DA.ds (h : DA X w0 base B ws nv tv iv t n y c rv w) : DS X B nv tv iv t w := ⟨store_ptr h.kat h.own, h.kat.lt, h.blk⟩
theorem DA.step (h : DA X w0 base B ws nv tv iv t n y c rv w) (hk : KAt X w' n' y' c' rv) (ho : c'.owner = some t) (hT : TurnK X w w') : DA X w0 base B ws nv tv iv t n' y' c' rv w' :=
  ⟨hk, h.glob.turnK h.kat.ok hT, ho, keep_k h.kat.ok h.oldB (by decide) h.blk hT, h.cmd.same (fun k _ _ hb he hc => (keep_k h.kat.ok (h.old k hb) he hc hT).trans hc.symm), h.turn.trans hT, h.old, h.oldB⟩
theorem DA.below (h : DA X w0 base B ws nv tv iv t n y c rv w) (hb : Below w.heap.size w w') : DA X w0 base B ws nv tv iv t n y c rv w' := h.step (h.kat.below hb) h.own (TurnK.below hb)
theorem DA.drew (h : DA X w0 base B ws nv tv iv t n y c rv w) : DA X w0 base B ws nv tv iv t n y c rv w.drew := h.below (below_drew w)
theorem DA.key (h : DA X w0 base B ws nv tv iv t n y c rv w) (hk : oneKey (M.word ws 0)) : Calls Tryz.prog 166 #[.agg #[nv, tv, iv]] w fun e w' => e = .returned (str (M.word ws 1)) ∧ DA X w0 base B ws nv tv iv t n y c rv w' := by
  obtain ⟨⟨g, c1, rfl, hl, hc⟩, _⟩ := cmd_key h.cmd hk
  obtain ⟨rfl, _, hi⟩ := cmd_slices h.cmd
  exact (key_c _ _ w g 1 c1 _ _ rfl hc hl (by decide) ⟨_, rfl⟩ hi).mono fun _ _ ⟨he, hb⟩ => ⟨he, h.below hb⟩
theorem DA.num (h : DA X w0 base B ws nv tv iv t n y c rv w) (h0 : M.word ws 0 = [105, 110, 99, 114]) : Calls Tryz.prog 193 #[.agg #[nv, tv, iv]] w fun e w' => e = .returned (int (M.num (M.word ws 2))) ∧ DA X w0 base B ws nv tv iv t n y c rv w' := by
  obtain ⟨_, _, hn, _⟩ := cmd_key h.cmd (Or.inr (Or.inl h0))
  obtain ⟨g, c1, rfl, hl, hc⟩ := hn (by rw [h0]; decide)
  obtain ⟨rfl, ht, _⟩ := cmd_slices h.cmd
  exact (numb_c _ _ w g 1 c1 _ hc hl (by decide) ⟨_, rfl⟩ ht).mono fun _ _ ⟨he, hb⟩ => ⟨he, h.below hb⟩
theorem DA.life (h : DA X w0 base B ws nv tv iv t n y c rv w) (h0 : M.word ws 0 = [116, 111, 117, 99, 104]) : Calls Tryz.prog 168 #[.agg #[nv, tv, iv]] w fun e w' => e = .returned (int (M.num (M.word ws 2))) ∧ DA X w0 base B ws nv tv iv t n y c rv w' := by
  obtain ⟨_, _, hn, _⟩ := cmd_key h.cmd (Or.inr (Or.inr h0))
  obtain ⟨g, c1, rfl, hl, hc⟩ := hn (by rw [h0]; decide)
  obtain ⟨rfl, ht, _⟩ := cmd_slices h.cmd
  have := (life_touch tv w g 1 c1 _ hc hl (by decide) ht).mono fun e w' (p : e = _ ∧ _) => (⟨p.1, h.below p.2⟩ : e = .returned (int (M.num (M.word ws 2))) ∧ DA X w0 base B ws (str (M.word ws 0)) tv (.slice (some ⟨g, 0, none⟩) 1 c1) t n y c rv w')
  rw [h0] at this ⊢
  exact this
theorem DA.del (h : DA X w0 base B ws nv tv iv t n y c rv w) (hn : n ≤ 10000000000) (ht : t < X.N) (k : M.Bytes) (hk : k.length ≤ 1000000) :
    Calls Tryz.prog 191 #[.pointer (some ⟨X.sb t, 0, none⟩), .string ⟨k.toArray⟩] w fun e w' => e = .returned (.string ⟨(M.delete (M.storeAt y t) k).1.toArray⟩) ∧ DA X w0 base B ws nv tv iv t (n + 1) (M.setAt y t (M.delete (M.storeAt y t) k).2) c rv w' :=
  (delete_k h.kat hn ht k hk).mono fun _ _ ⟨he, hk, hT⟩ => ⟨he, h.step hk h.own hT⟩
theorem DA.inc (h : DA X w0 base B ws nv tv iv t n y c rv w) (hn : n ≤ 10000000000) (ht : t < X.N) (k : M.Bytes) (hk : k.length ≤ 1000000) (m : Nat) (hm : m ≤ 999999999) :
    Calls Tryz.prog 192 #[.pointer (some ⟨X.sb t, 0, none⟩), .string ⟨k.toArray⟩, .int .i64 m] w fun e w' => e = .returned (.string ⟨(M.incr (M.storeAt y t) k m).1.toArray⟩) ∧ DA X w0 base B ws nv tv iv t (n + 1) (M.setAt y t (M.incr (M.storeAt y t) k m).2) c rv w' :=
  (incr_k h.kat h.glob hn ht k hk m hm).mono fun _ _ ⟨he, hk, hT⟩ => ⟨he, h.step hk h.own hT⟩
theorem DA.tou (h : DA X w0 base B ws nv tv iv t n y c rv w) (hn : n ≤ 10000000000) (ht : t < X.N) (k : M.Bytes) (hk : k.length ≤ 1000000) (m : Nat) (hm : m ≤ 1000000) :
    Calls Tryz.prog 194 #[.pointer (some ⟨X.sb t, 0, none⟩), .string ⟨k.toArray⟩, .int .i64 m] w fun e w' => e = .returned (.string ⟨(M.touch y.clock (M.storeAt y t) k m).1.toArray⟩) ∧ DA X w0 base B ws nv tv iv t (n + 1) (M.setAt y t (M.touch y.clock (M.storeAt y t) k m).2) c rv w' :=
  (touch_k h.kat hn ht k hk m hm).mono fun _ _ ⟨he, hk, hT⟩ => ⟨he, h.step hk h.own hT⟩
theorem DA.say (h : DA X w0 base B ws nv tv iv t n y c rv w) (s : ByteArray) (hlen : c.out.length + s.size + 1 ≤ 140737488355328) (H : Nat) (hH : w.heap.size = H) :
    Calls Tryz.prog 120 #[.pointer (some ⟨X.cb, 0, none⟩), .slice (some ⟨H, 0, none⟩) 1 1] (w.alloc (.cells #[.string s] 9)) fun e w' => e = .returned (.tuple #[]) ∧ DA X w0 base B ws nv tv iv t n y (M.say c s.data.toList) rv w' :=
  (say_1 h.kat s hlen H hH).mono fun _ _ ⟨he, hk, hT⟩ => ⟨he, h.step hk h.own hT⟩
end
theorem other_delete {ws : List M.Bytes} (h : M.word ws 0 = [100, 101, 108, 101, 116, 101]) (cl : Nat) (s : M.Store) : M.other cl s ws = M.delete s (M.word ws 1) := by
  unfold M.other; rw [h, if_neg (by decide), if_neg (by decide), if_pos rfl]
theorem other_touch {ws : List M.Bytes} (h : M.word ws 0 = [116, 111, 117, 99, 104]) (cl : Nat) (s : M.Store) : M.other cl s ws = M.touch cl s (M.word ws 1) (M.num (M.word ws 2)) := by
  unfold M.other; rw [h, if_neg (by decide), if_neg (by decide), if_neg (by decide), if_pos rfl]
theorem other_incr {ws : List M.Bytes} (h : M.word ws 0 = [105, 110, 99, 114]) (cl : Nat) (s : M.Store) : M.other cl s ws = M.incr s (M.word ws 1) (M.num (M.word ws 2)) := by
  unfold M.other; rw [h, if_neg (by decide), if_neg (by decide), if_neg (by decide), if_neg (by decide)]
theorem other_get {ws : List M.Bytes} (h : M.word ws 0 = [103, 101, 116]) (cl : Nat) (s : M.Store) : M.other cl s ws = M.getAll s ws.tail := by
  unfold M.other; rw [h, if_pos rfl]
theorem other_stats {ws : List M.Bytes} (h : M.word ws 0 = [115, 116, 97, 116, 115]) (cl : Nat) (s : M.Store) : M.other cl s ws = (M.stats s, s) := by
  unfold M.other; rw [h, if_neg (by decide), if_pos rfl]
theorem ans_len (r : M.Bytes × M.Store) (h : r.1.length ≤ 1000) (s : ByteArray) (hs : s = ⟨r.1.toArray⟩) : s.size ≤ 1000 := by
  subst hs
  show r.1.toArray.size ≤ _
  rw [List.size_toArray]; exact h
theorem dig_len20 (n : Nat) : (M.dig n).length ≤ 20 := M.dig_le n
theorem delete_len (s : M.Store) (k : M.Bytes) : (M.delete s k).1.length ≤ 1000 := by unfold M.delete; split <;> simp
theorem touch_len (cl : Nat) (s : M.Store) (k : M.Bytes) (m : Nat) : (M.touch cl s k m).1.length ≤ 1000 := by unfold M.touch; split <;> simp
theorem incr_len (s : M.Store) (k : M.Bytes) (m : Nat) : (M.incr s k m).1.length ≤ 1000 := by
  unfold M.incr
  split
  · split
    · split
      · simp
      · exact Nat.le_trans (dig_len20 _) (by decide)
    · simp
  · simp
end Go.Proofs.YtdpnpcjbjjjceaaGreatDoor.S
namespace Go.Proofs.YtdpnpcjbjjjceaaGreatDoor.S
open Go.RowKit Go.Maps Go.MuLone Go.Proofs.YtdpnpcjbjjjceaaGreatDoor

theorem ws_pos {base : Nat} {W : World} {ws : List M.Bytes} {v : Value} (h : CmdW base W ws v) : 1 ≤ ws.length := by
  obtain ⟨least', rules', h1, _⟩ := h
  obtain ⟨xs, hxs⟩ := word_head h1
  rw [hxs, List.length_cons]; omega
/-- the frame of doAtOnce, at its beginning -/
theorem da_start {X : Cx} {w : World} {base : Nat} {ws : List M.Bytes} {nv tv iv : Value} {t n : Nat} {y : M.Sys} {c : M.Conn} {rv : Value} (h : KAt X w n y c rv) (hG : Glob w) (hown : c.owner = some t) (hbase : ∀ k, base ≤ k → X.O k) (hcmd : CmdW base w ws (.agg #[nv, tv, iv])) :
    DA X w base w.heap.size ws nv tv iv t n y c rv (w.alloc (.cells #[nv, tv, iv] 79)) := by
  have hb : Below w.heap.size w (w.alloc (.cells #[nv, tv, iv] 79)) := (Below.refl _ _).alloc (Nat.le_refl _) _
  exact ⟨h.below hb, hG.below hb, hown, alloc_here _ _, hcmd.same (fun k _ _ _ _ hc => hb.block k (Array.getElem?_eq_some_iff.1 hc).1), TurnK.below hb, hbase, h.new⟩

set_option maxRecDepth 20000 in
set_option maxHeartbeats 4000000 in
theorem once_delete {X : Cx} {w : World} {base : Nat} {ws : List M.Bytes} {nv tv iv : Value} {t n : Nat} {y : M.Sys} {c : M.Conn} {rv : Value} (h : KAt X w n y c rv) (hG : Glob w) (hn : n ≤ 10000000000) (ht : t < X.N) (hown : c.owner = some t) (ho : c.out.length ≤ 35184372088832) (hbase : ∀ k, base ≤ k → X.O k) (hcmd : CmdW base w ws (.agg #[nv, tv, iv])) (h0 : M.word ws 0 = [100, 101, 108, 101, 116, 101]) :
    Calls Tryz.prog 163 #[.pointer (some ⟨X.cb, 0, none⟩), .agg #[nv, tv, iv]] w fun e w' => e = .returned (.tuple #[]) ∧ KPost X w (n + 1) (M.setAt y t (M.other y.clock (M.storeAt y t) ws).2, M.say c (M.other y.clock (M.storeAt y t) ws).1) rv w' := by
  obtain ⟨rfl, ⟨q1, a1, b1, rfl⟩, ⟨q2, a2, b2, rfl⟩⟩ := cmd_slices hcmd
  have hDA := da_start h hG hown hbase hcmd
  have hkl : (M.word ws 1).length ≤ 1000000 := Nat.le_trans (cmd_key hcmd (Or.inl h0)).2.1 (by decide)
  have HK0 : Hid (oneKey (M.word ws 0)) := Or.inl h0
  have H0 := Hid.of h0
  rw [other_delete h0]
  have HL := Hid.of (delete_len (M.storeAt y t) (M.word ws 1))
  obtain ⟨r, hr⟩ : ∃ r, r = M.delete (M.storeAt y t) (M.word ws 1) := ⟨_, rfl⟩
  have HR := Hid.of hr
  have HD : Hid (∀ w5, DA X w base w.heap.size ws (str (M.word ws 0)) (.slice q1 a1 b1) (.slice q2 a2 b2) t n y c rv w5 → Calls Tryz.prog 191 #[.pointer (some ⟨X.sb t, 0, none⟩), str (M.word ws 1)] w5 fun e w' => e = .returned (.string ⟨r.1.toArray⟩) ∧ DA X w base w.heap.size ws (str (M.word ws 0)) (.slice q1 a1 b1) (.slice q2 a2 b2) t (n + 1) (M.setAt y t r.2) c rv w') := by
    intro w5 h5
    rw [HR.out]
    exact h5.del hn ht _ hkl
  have HS : Hid (c.out.length + (ByteArray.mk r.1.toArray).size + 1 ≤ 140737488355328) := by
    have := ans_len _ HL.out _ (show (ByteArray.mk r.1.toArray) = _ by rw [HR.out])
    show _ ≤ _
    omega
  have HKEY : Hid (∀ w5, DA X w base w.heap.size ws (str (M.word ws 0)) (.slice q1 a1 b1) (.slice q2 a2 b2) t n y c rv w5 → Calls Tryz.prog 166 #[.agg #[str (M.word ws 0), .slice q1 a1 b1, .slice q2 a2 b2]] w5 fun e w' => e = .returned (str (M.word ws 1)) ∧ DA X w base w.heap.size ws (str (M.word ws 0)) (.slice q1 a1 b1) (.slice q2 a2 b2) t n y c rv w') := fun w5 h5 => h5.key HK0.out
  rw [← hr]
  clear h hG hcmd hown hkl HL hr HR HK0 H0 hbase
  unfold str at HD HKEY hDA ⊢
  rw [h0] at HD HKEY hDA ⊢
  clear h0
  obtain ⟨K, hK⟩ : ∃ K : ByteArray, K = ⟨(M.word ws 1).toArray⟩ := ⟨_, rfl⟩
  rw [← hK] at HD HKEY
  clear hK
  obtain ⟨R, hR⟩ : ∃ R : ByteArray, R = ⟨r.1.toArray⟩ := ⟨_, rfl⟩
  rw [← hR] at HD HS
  have HRR : Hid (R.data.toList = r.1) := by show _ = _; rw [hR]
  clear hR
  go_enter Tryz.func163, Tryz.ntmps163
  go_wp2_with fail
  generalize w.alloc _ = w1 at hDA ⊢
  generalize w.heap.size = B at HD HKEY hDA ⊢
  go_region_held3 (fun w' => w'.cell? ⟨X.cb, 1, none⟩ = some (.pointer (some ⟨X.sb t, 0, none⟩)) ∧ w'.cell? ⟨B, 0, none⟩ = some (.string ⟨#[100, 101, 108, 101, 116, 101]⟩) ∧ w'.cell? ⟨B, 1, none⟩ = some (.slice q1 a1 b1) ∧ w'.cell? ⟨B, 2, none⟩ = some (.slice q2 a2 b2) ∧ DS X B (.string ⟨#[100, 101, 108, 101, 116, 101]⟩) (.slice q1 a1 b1) (.slice q2 a2 b2) t w')
    ((refine DS.s ?_; repeat (first | with_reducible assumption | with_reducible exact DA.ds (by assumption) | with_reducible refine DS.drew ?_ | with_reducible refine DS.alloc ?_ _)))
    (first
      | (go_at_call 166; refine (HKEY.out _ (by first | with_reducible assumption | with_reducible exact DA.drew (by assumption))).mono ?_; rintro e w5 ⟨rfl, hDA5⟩)
      | (go_at_call 191; refine (HD.out _ (by with_reducible assumption)).mono ?_; rintro e w7 ⟨rfl, hDA7⟩)
      | (go_at_call 120; refine (DA.say hDA7 R HS.out _ rfl).mono ?_; rintro e w8 ⟨rfl, hDA8⟩))
  go_wp2
  go_end0
  rw [HRR.out] at hDA8
  exact ⟨rfl, hDA8.kat, hDA8.turn⟩
set_option maxRecDepth 20000 in
set_option maxHeartbeats 4000000 in
theorem once_incr {X : Cx} {w : World} {base : Nat} {ws : List M.Bytes} {nv tv iv : Value} {t n : Nat} {y : M.Sys} {c : M.Conn} {rv : Value} (h : KAt X w n y c rv) (hG : Glob w) (hn : n ≤ 10000000000) (ht : t < X.N) (hown : c.owner = some t) (ho : c.out.length ≤ 35184372088832) (hbase : ∀ k, base ≤ k → X.O k) (hcmd : CmdW base w ws (.agg #[nv, tv, iv])) (h0 : M.word ws 0 = [105, 110, 99, 114]) :
    Calls Tryz.prog 163 #[.pointer (some ⟨X.cb, 0, none⟩), .agg #[nv, tv, iv]] w fun e w' => e = .returned (.tuple #[]) ∧ KPost X w (n + 1) (M.setAt y t (M.other y.clock (M.storeAt y t) ws).2, M.say c (M.other y.clock (M.storeAt y t) ws).1) rv w' := by
  obtain ⟨rfl, ⟨q1, a1, b1, rfl⟩, ⟨q2, a2, b2, rfl⟩⟩ := cmd_slices hcmd
  have hDA := da_start h hG hown hbase hcmd
  have hkl : (M.word ws 1).length ≤ 1000000 := Nat.le_trans (cmd_key hcmd (Or.inr (Or.inl h0))).2.1 (by decide)
  have hml := (cmd_key hcmd (Or.inr (Or.inl h0))).2.2.2.1 h0
  have HK0 : Hid (oneKey (M.word ws 0)) := Or.inr (Or.inl h0)
  have H0 := Hid.of h0
  rw [other_incr h0]
  have HL := Hid.of (incr_len (M.storeAt y t) (M.word ws 1) (M.num (M.word ws 2)))
  obtain ⟨r, hr⟩ : ∃ r, r = M.incr (M.storeAt y t) (M.word ws 1) (M.num (M.word ws 2)) := ⟨_, rfl⟩
  have HR := Hid.of hr
  have HD : Hid (∀ w5, DA X w base w.heap.size ws (str (M.word ws 0)) (.slice q1 a1 b1) (.slice q2 a2 b2) t n y c rv w5 → Calls Tryz.prog 192 #[.pointer (some ⟨X.sb t, 0, none⟩), str (M.word ws 1), int (M.num (M.word ws 2))] w5 fun e w' => e = .returned (.string ⟨r.1.toArray⟩) ∧ DA X w base w.heap.size ws (str (M.word ws 0)) (.slice q1 a1 b1) (.slice q2 a2 b2) t (n + 1) (M.setAt y t r.2) c rv w') := by
    intro w5 h5
    rw [HR.out]
    exact h5.inc hn ht _ hkl _ hml
  have HS : Hid (c.out.length + (ByteArray.mk r.1.toArray).size + 1 ≤ 140737488355328) := by
    have := ans_len _ HL.out _ (show (ByteArray.mk r.1.toArray) = _ by rw [HR.out])
    show _ ≤ _
    omega
  have HKEY : Hid (∀ w5, DA X w base w.heap.size ws (str (M.word ws 0)) (.slice q1 a1 b1) (.slice q2 a2 b2) t n y c rv w5 → Calls Tryz.prog 166 #[.agg #[str (M.word ws 0), .slice q1 a1 b1, .slice q2 a2 b2]] w5 fun e w' => e = .returned (str (M.word ws 1)) ∧ DA X w base w.heap.size ws (str (M.word ws 0)) (.slice q1 a1 b1) (.slice q2 a2 b2) t n y c rv w') := fun w5 h5 => h5.key HK0.out
  have HNUM : Hid (∀ w5, DA X w base w.heap.size ws (str (M.word ws 0)) (.slice q1 a1 b1) (.slice q2 a2 b2) t n y c rv w5 → Calls Tryz.prog 193 #[.agg #[str (M.word ws 0), .slice q1 a1 b1, .slice q2 a2 b2]] w5 fun e w' => e = .returned (int (M.num (M.word ws 2))) ∧ DA X w base w.heap.size ws (str (M.word ws 0)) (.slice q1 a1 b1) (.slice q2 a2 b2) t n y c rv w') := fun w5 h5 => h5.num H0.out
  rw [← hr]
  clear h hG hcmd hown hkl HL hr HR HK0 H0 hbase hml
  unfold str at HD HKEY HNUM hDA ⊢
  unfold int at HD HNUM
  rw [h0] at HD HKEY HNUM hDA ⊢
  clear h0
  obtain ⟨K, hK⟩ : ∃ K : ByteArray, K = ⟨(M.word ws 1).toArray⟩ := ⟨_, rfl⟩
  rw [← hK] at HD HKEY
  clear hK
  obtain ⟨R, hR⟩ : ∃ R : ByteArray, R = ⟨r.1.toArray⟩ := ⟨_, rfl⟩
  rw [← hR] at HD HS
  have HRR : Hid (R.data.toList = r.1) := by show _ = _; rw [hR]
  clear hR
  obtain ⟨nn, hnn⟩ : ∃ nn, nn = M.num (M.word ws 2) := ⟨_, rfl⟩
  rw [← hnn] at HD HNUM
  clear hnn
  go_enter Tryz.func163, Tryz.ntmps163
  go_wp2_with fail
  generalize w.alloc _ = w1 at hDA ⊢
  generalize w.heap.size = B at HD HKEY HNUM hDA ⊢
  go_region_held3 (fun w' => w'.cell? ⟨X.cb, 1, none⟩ = some (.pointer (some ⟨X.sb t, 0, none⟩)) ∧ w'.cell? ⟨B, 0, none⟩ = some (.string ⟨#[105, 110, 99, 114]⟩) ∧ w'.cell? ⟨B, 1, none⟩ = some (.slice q1 a1 b1) ∧ w'.cell? ⟨B, 2, none⟩ = some (.slice q2 a2 b2) ∧ DS X B (.string ⟨#[105, 110, 99, 114]⟩) (.slice q1 a1 b1) (.slice q2 a2 b2) t w')
    ((refine DS.s ?_; repeat (first | with_reducible assumption | with_reducible exact DA.ds (by assumption) | with_reducible refine DS.drew ?_ | with_reducible refine DS.alloc ?_ _)))
    (first
      | (go_at_call 166; refine (HKEY.out _ (by first | with_reducible assumption | with_reducible exact DA.drew (by assumption))).mono ?_; rintro e w5 ⟨rfl, hDA5⟩)
      | (go_at_call 193; refine (HNUM.out _ (by first | with_reducible assumption | with_reducible exact DA.drew (by assumption))).mono ?_; rintro e w6 ⟨rfl, hDA6⟩)
      | (go_at_call 192; refine (HD.out _ (by with_reducible assumption)).mono ?_; rintro e w7 ⟨rfl, hDA7⟩)
      | (go_at_call 120; refine (DA.say hDA7 R HS.out _ rfl).mono ?_; rintro e w8 ⟨rfl, hDA8⟩))
  go_wp2
  go_end0
  rw [HRR.out] at hDA8
  exact ⟨rfl, hDA8.kat, hDA8.turn⟩
set_option maxRecDepth 20000 in
set_option maxHeartbeats 4000000 in
theorem once_touch {X : Cx} {w : World} {base : Nat} {ws : List M.Bytes} {nv tv iv : Value} {t n : Nat} {y : M.Sys} {c : M.Conn} {rv : Value} (h : KAt X w n y c rv) (hG : Glob w) (hn : n ≤ 10000000000) (ht : t < X.N) (hown : c.owner = some t) (ho : c.out.length ≤ 35184372088832) (hbase : ∀ k, base ≤ k → X.O k) (hcmd : CmdW base w ws (.agg #[nv, tv, iv])) (h0 : M.word ws 0 = [116, 111, 117, 99, 104]) :
    Calls Tryz.prog 163 #[.pointer (some ⟨X.cb, 0, none⟩), .agg #[nv, tv, iv]] w fun e w' => e = .returned (.tuple #[]) ∧ KPost X w (n + 1) (M.setAt y t (M.other y.clock (M.storeAt y t) ws).2, M.say c (M.other y.clock (M.storeAt y t) ws).1) rv w' := by
  obtain ⟨rfl, ⟨q1, a1, b1, rfl⟩, ⟨q2, a2, b2, rfl⟩⟩ := cmd_slices hcmd
  have hDA := da_start h hG hown hbase hcmd
  have hkl : (M.word ws 1).length ≤ 1000000 := Nat.le_trans (cmd_key hcmd (Or.inr (Or.inr h0))).2.1 (by decide)
  have hml := (cmd_key hcmd (Or.inr (Or.inr h0))).2.2.2.2 h0
  have HK0 : Hid (oneKey (M.word ws 0)) := Or.inr (Or.inr h0)
  have H0 := Hid.of h0
  rw [other_touch h0]
  have HL := Hid.of (touch_len y.clock (M.storeAt y t) (M.word ws 1) (M.num (M.word ws 2)))
  obtain ⟨r, hr⟩ : ∃ r, r = M.touch y.clock (M.storeAt y t) (M.word ws 1) (M.num (M.word ws 2)) := ⟨_, rfl⟩
  have HR := Hid.of hr
  have HD : Hid (∀ w5, DA X w base w.heap.size ws (str (M.word ws 0)) (.slice q1 a1 b1) (.slice q2 a2 b2) t n y c rv w5 → Calls Tryz.prog 194 #[.pointer (some ⟨X.sb t, 0, none⟩), str (M.word ws 1), int (M.num (M.word ws 2))] w5 fun e w' => e = .returned (.string ⟨r.1.toArray⟩) ∧ DA X w base w.heap.size ws (str (M.word ws 0)) (.slice q1 a1 b1) (.slice q2 a2 b2) t (n + 1) (M.setAt y t r.2) c rv w') := by
    intro w5 h5
    rw [HR.out]
    exact h5.tou hn ht _ hkl _ hml
  have HS : Hid (c.out.length + (ByteArray.mk r.1.toArray).size + 1 ≤ 140737488355328) := by
    have := ans_len _ HL.out _ (show (ByteArray.mk r.1.toArray) = _ by rw [HR.out])
    show _ ≤ _
    omega
  have HKEY : Hid (∀ w5, DA X w base w.heap.size ws (str (M.word ws 0)) (.slice q1 a1 b1) (.slice q2 a2 b2) t n y c rv w5 → Calls Tryz.prog 166 #[.agg #[str (M.word ws 0), .slice q1 a1 b1, .slice q2 a2 b2]] w5 fun e w' => e = .returned (str (M.word ws 1)) ∧ DA X w base w.heap.size ws (str (M.word ws 0)) (.slice q1 a1 b1) (.slice q2 a2 b2) t n y c rv w') := fun w5 h5 => h5.key HK0.out
  have HNUM : Hid (∀ w5, DA X w base w.heap.size ws (str (M.word ws 0)) (.slice q1 a1 b1) (.slice q2 a2 b2) t n y c rv w5 → Calls Tryz.prog 168 #[.agg #[str (M.word ws 0), .slice q1 a1 b1, .slice q2 a2 b2]] w5 fun e w' => e = .returned (int (M.num (M.word ws 2))) ∧ DA X w base w.heap.size ws (str (M.word ws 0)) (.slice q1 a1 b1) (.slice q2 a2 b2) t n y c rv w') := fun w5 h5 => h5.life H0.out
  rw [← hr]
  clear h hG hcmd hown hkl HL hr HR HK0 H0 hbase hml
  unfold str at HD HKEY HNUM hDA ⊢
  unfold int at HD HNUM
  rw [h0] at HD HKEY HNUM hDA ⊢
  clear h0
  obtain ⟨K, hK⟩ : ∃ K : ByteArray, K = ⟨(M.word ws 1).toArray⟩ := ⟨_, rfl⟩
  rw [← hK] at HD HKEY
  clear hK
  obtain ⟨R, hR⟩ : ∃ R : ByteArray, R = ⟨r.1.toArray⟩ := ⟨_, rfl⟩
  rw [← hR] at HD HS
  have HRR : Hid (R.data.toList = r.1) := by show _ = _; rw [hR]
  clear hR
  obtain ⟨nn, hnn⟩ : ∃ nn, nn = M.num (M.word ws 2) := ⟨_, rfl⟩
  rw [← hnn] at HD HNUM
  clear hnn
  go_enter Tryz.func163, Tryz.ntmps163
  go_wp2_with fail
  generalize w.alloc _ = w1 at hDA ⊢
  generalize w.heap.size = B at HD HKEY HNUM hDA ⊢
  go_region_held3 (fun w' => w'.cell? ⟨X.cb, 1, none⟩ = some (.pointer (some ⟨X.sb t, 0, none⟩)) ∧ w'.cell? ⟨B, 0, none⟩ = some (.string ⟨#[116, 111, 117, 99, 104]⟩) ∧ w'.cell? ⟨B, 1, none⟩ = some (.slice q1 a1 b1) ∧ w'.cell? ⟨B, 2, none⟩ = some (.slice q2 a2 b2) ∧ DS X B (.string ⟨#[116, 111, 117, 99, 104]⟩) (.slice q1 a1 b1) (.slice q2 a2 b2) t w')
    ((refine DS.s ?_; repeat (first | with_reducible assumption | with_reducible exact DA.ds (by assumption) | with_reducible refine DS.drew ?_ | with_reducible refine DS.alloc ?_ _)))
    (first
      | (go_at_call 166; refine (HKEY.out _ (by first | with_reducible assumption | with_reducible exact DA.drew (by assumption))).mono ?_; rintro e w5 ⟨rfl, hDA5⟩)
      | (go_at_call 168; refine (HNUM.out _ (by first | with_reducible assumption | with_reducible exact DA.drew (by assumption))).mono ?_; rintro e w6 ⟨rfl, hDA6⟩)
      | (go_at_call 194; refine (HD.out _ (by with_reducible assumption)).mono ?_; rintro e w7 ⟨rfl, hDA7⟩)
      | (go_at_call 120; refine (DA.say hDA7 R HS.out _ rfl).mono ?_; rintro e w8 ⟨rfl, hDA8⟩))
  go_wp2
  go_end0
  rw [HRR.out] at hDA8
  exact ⟨rfl, hDA8.kat, hDA8.turn⟩
end Go.Proofs.YtdpnpcjbjjjceaaGreatDoor.S
namespace Go.Proofs.YtdpnpcjbjjjceaaGreatDoor.S
open Go.RowKit Go.Maps Go.MuLone Go.Proofs.YtdpnpcjbjjjceaaGreatDoor

set_option maxRecDepth 20000 in
set_option maxHeartbeats 4000000 in
theorem once_get {X : Cx} {w : World} {base : Nat} {ws : List M.Bytes} {nv tv iv : Value} {t n : Nat} {y : M.Sys} {c : M.Conn} {rv : Value} (h : KAt X w n y c rv) (hG : Glob w) (hn : n + 10 ≤ 10000000000) (ht : t < X.N) (hown : c.owner = some t) (ho : c.out.length ≤ 35184372088832) (hbase : ∀ k, base ≤ k → X.O k) (hcmd : CmdW base w ws (.agg #[nv, tv, iv])) (h0 : M.word ws 0 = [103, 101, 116]) :
    Calls Tryz.prog 163 #[.pointer (some ⟨X.cb, 0, none⟩), .agg #[nv, tv, iv]] w fun e w' => e = .returned (.tuple #[]) ∧ KPost X w (n + ws.tail.length) (M.setAt y t (M.other y.clock (M.storeAt y t) ws).2, M.say c (M.other y.clock (M.storeAt y t) ws).1) rv w' := by
  obtain ⟨rfl, _, ⟨q2, a2, b2, rfl⟩⟩ := cmd_slices hcmd
  have hDA := da_start h hG hown hbase hcmd
  obtain ⟨g, cp, m, rfl, hgb, hm, hm1, hm10, hrow, hks⟩ := cmd_get hDA.cmd h0
  rw [other_get h0]
  have CG := Hid.of (cget_c hDA.kat hDA.glob ht hDA.own ho g cp ws.tail m hm hm10 hn (hbase g hgb) hrow (fun k hk => Nat.le_trans (hks k hk) (by decide)))
  rw [hm]
  have HT := Hid.of hDA.turn
  obtain ⟨r, hr⟩ : ∃ r, r = M.getAll (M.storeAt y t) ws.tail := ⟨_, rfl⟩
  rw [← hr] at CG ⊢
  clear h hG hcmd hown hDA hrow hks hr hbase hm
  unfold str at CG HT ⊢
  rw [h0] at CG HT ⊢
  go_enter Tryz.func163, Tryz.ntmps163
  go_wp2_with (go_at_call 190; refine CG.out.mono ?_; rintro e w2 ⟨rfl, hK2, hT2⟩)
  go_end0
  exact ⟨rfl, hK2, HT.out.trans hT2⟩
set_option maxRecDepth 20000 in
set_option maxHeartbeats 4000000 in
theorem once_stats {X : Cx} {w : World} {base : Nat} {ws : List M.Bytes} {nv tv iv : Value} {t n : Nat} {y : M.Sys} {c : M.Conn} {rv : Value} (h : KAt X w n y c rv) (hG : Glob w) (hn : n ≤ 10000000000) (ht : t < X.N) (hown : c.owner = some t) (ho : c.out.length ≤ 35184372088832) (hbase : ∀ k, base ≤ k → X.O k) (hcmd : CmdW base w ws (.agg #[nv, tv, iv])) (h0 : M.word ws 0 = [115, 116, 97, 116, 115]) :
    Calls Tryz.prog 163 #[.pointer (some ⟨X.cb, 0, none⟩), .agg #[nv, tv, iv]] w fun e w' => e = .returned (.tuple #[]) ∧ KPost X w n (M.setAt y t (M.other y.clock (M.storeAt y t) ws).2, M.say c (M.other y.clock (M.storeAt y t) ws).1) rv w' := by
  obtain ⟨rfl, ⟨q1, a1, b1, rfl⟩, ⟨q2, a2, b2, rfl⟩⟩ := cmd_slices hcmd
  have hDA := da_start h hG hown hbase hcmd
  rw [other_stats h0]
  have CG := Hid.of (cstats_c hDA.kat hn hDA.glob ht hDA.own ho)
  have HT := Hid.of hDA.turn
  clear h hG hcmd hown hDA hbase
  unfold str at CG HT ⊢
  rw [h0] at CG HT ⊢
  go_enter Tryz.func163, Tryz.ntmps163
  go_wp2_with (go_at_call 195; refine CG.out.mono ?_; rintro e w2 ⟨rfl, hK2, hT2⟩)
  go_end0
  exact ⟨rfl, hK2, HT.out.trans hT2⟩
/-- the names that there are -/
theorem name_of {base : Nat} {W : World} {ws : List M.Bytes} {v : Value} (h : CmdW base W ws v) : M.word ws 0 = [115, 101, 116] ∨ M.word ws 0 = [97, 100, 100] ∨ M.word ws 0 = [114, 101, 112, 108, 97, 99, 101] ∨ M.word ws 0 = [99, 97, 115] ∨ M.word ws 0 = [103, 101, 116] ∨ M.word ws 0 = [115, 116, 97, 116, 115] ∨ M.word ws 0 = [100, 101, 108, 101, 116, 101] ∨ M.word ws 0 = [116, 111, 117, 99, 104] ∨ M.word ws 0 = [105, 110, 99, 114] ∨ M.word ws 0 = [97, 117, 116, 104] ∨ M.word ws 0 = [113, 117, 105, 116] := by
  obtain ⟨least, rules, h1, _⟩ := h
  generalize M.word ws 0 = l at h1 ⊢
  unfold pShape at h1
  by_cases e : l = [97, 117, 116, 104]
  · simp [e]
  rw [if_neg e] at h1
  clear e
  by_cases e : l = [113, 117, 105, 116]
  · simp [e]
  rw [if_neg e] at h1
  clear e
  by_cases e : l = [115, 116, 97, 116, 115]
  · simp [e]
  rw [if_neg e] at h1
  clear e
  by_cases e : l = [103, 101, 116]
  · simp [e]
  rw [if_neg e] at h1
  clear e
  by_cases e : l = [115, 101, 116]
  · simp [e]
  rw [if_neg e] at h1
  clear e
  by_cases e : l = [97, 100, 100]
  · simp [e]
  rw [if_neg e] at h1
  clear e
  by_cases e : l = [114, 101, 112, 108, 97, 99, 101]
  · simp [e]
  rw [if_neg e] at h1
  clear e
  by_cases e : l = [99, 97, 115]
  · simp [e]
  rw [if_neg e] at h1
  clear e
  by_cases e : l = [100, 101, 108, 101, 116, 101]
  · simp [e]
  rw [if_neg e] at h1
  clear e
  by_cases e : l = [105, 110, 99, 114]
  · simp [e]
  rw [if_neg e] at h1
  clear e
  by_cases e : l = [116, 111, 117, 99, 104]
  · simp [e]
  rw [if_neg e] at h1
  clear e
  cases h1
theorem KPost.more {X : Cx} {w w' : World} {n n' : Nat} {yc : M.Sys × M.Conn} {rv : Value} (h : KPost X w n yc rv w') (hn : n ≤ n') : KPost X w n' yc rv w' := ⟨h.1.more hn, h.2⟩
theorem once_c {X : Cx} {w : World} {base : Nat} {ws : List M.Bytes} {nv tv iv : Value} {t n : Nat} {y : M.Sys} {c : M.Conn} {rv : Value} (h : KAt X w n y c rv) (hG : Glob w) (hn : n + 10 ≤ 10000000000) (ht : t < X.N) (hown : c.owner = some t) (ho : c.out.length ≤ 35184372088832) (hbase : ∀ k, base ≤ k → X.O k) (hcmd : CmdW base w ws (.agg #[nv, tv, iv])) (hv : M.wantsValue ws = false) (hna : M.word ws 0 ≠ [97, 117, 116, 104]) (hnq : M.word ws 0 ≠ [113, 117, 105, 116]) :
    Calls Tryz.prog 163 #[.pointer (some ⟨X.cb, 0, none⟩), .agg #[nv, tv, iv]] w fun e w' => e = .returned (.tuple #[]) ∧ KPost X w (n + ws.length) (M.setAt y t (M.other y.clock (M.storeAt y t) ws).2, M.say c (M.other y.clock (M.storeAt y t) ws).1) rv w' := by
  have hl := ws_pos hcmd
  have hl2 : ws.tail.length ≤ ws.length := by rw [List.length_tail]; omega
  have hv' : M.word ws 0 ≠ [115, 101, 116] ∧ M.word ws 0 ≠ [97, 100, 100] ∧ M.word ws 0 ≠ [114, 101, 112, 108, 97, 99, 101] ∧ M.word ws 0 ≠ [99, 97, 115] := by
    unfold M.wantsValue at hv
    simp only [Bool.or_eq_false_iff, decide_eq_false_iff_not] at hv
    exact ⟨hv.1.1.1, hv.1.1.2, hv.1.2, hv.2⟩
  rcases name_of hcmd with e | e | e | e | e | e | e | e | e | e | e
  · exact absurd e hv'.1
  · exact absurd e hv'.2.1
  · exact absurd e hv'.2.2.1
  · exact absurd e hv'.2.2.2
  · exact (once_get h hG hn ht hown ho hbase hcmd e).mono fun _ _ ⟨a, b⟩ => ⟨a, b.more (by omega)⟩
  · exact (once_stats h hG (by omega) ht hown ho hbase hcmd e).mono fun _ _ ⟨a, b⟩ => ⟨a, b.more (by omega)⟩
  · exact (once_delete h hG (by omega) ht hown ho hbase hcmd e).mono fun _ _ ⟨a, b⟩ => ⟨a, b.more (by omega)⟩
  · exact (once_touch h hG (by omega) ht hown ho hbase hcmd e).mono fun _ _ ⟨a, b⟩ => ⟨a, b.more (by omega)⟩
  · exact (once_incr h hG (by omega) ht hown ho hbase hcmd e).mono fun _ _ ⟨a, b⟩ => ⟨a, b.more (by omega)⟩
  · exact absurd e hna
  · exact absurd e hnq
end Go.Proofs.YtdpnpcjbjjjceaaGreatDoor.S
namespace Go.Proofs.YtdpnpcjbjjjceaaGreatDoor.S
open Go.RowKit Go.Maps Go.MuLone Go.Proofs.YtdpnpcjbjjjceaaGreatDoor

theorem str_size (l : M.Bytes) : (ByteArray.mk l.toArray).size = l.length := by
  show l.toArray.size = _
  rw [List.size_toArray]
theorem toList_mk (l : M.Bytes) : (ByteArray.mk l.toArray).data.toList = l := rfl
theorem store_nil {X : Cx} {w : World} {n : Nat} {y : M.Sys} {c : M.Conn} {rv : Value} (h : KAt X w n y c rv) (hown : c.owner = none) : w.cell? ⟨X.cb, 1, none⟩ = some (.pointer none) := by
  obtain ⟨sv, wt, nv, tv, iv, av, hc⟩ := h.conn
  rcases hc.owner with ⟨_, h2⟩ | ⟨u, _, h1, _⟩
  · rw [← h2]; exact hc.cb.c1
  · rw [hown] at h1; cases h1
theorem KAt.fz {X : Cx} {w : World} {n : Nat} {y : M.Sys} {c : M.Conn} {rv : Value} (h : KAt X w n y c rv) (j : Nat) : w.frozen? ⟨X.cb, j, none⟩ = false := by
  obtain ⟨sv, wt, nv, tv, iv, av, hc⟩ := h.conn
  exact hc.cb.fz j
/-- behind Clone and Read -/
structure RdAt (X : Cx) (w0 : World) (n : Nat) (y : M.Sys) (c : M.Conn) (rv : Value) (w : World) : Prop where
  kat : KAt X w n y c rv
  glob : Glob w
  turn : TurnK X w0 w
theorem RdAt.below {X : Cx} {w0 w w' : World} {n : Nat} {y : M.Sys} {c : M.Conn} {rv : Value} (h : RdAt X w0 n y c rv w) (hb : Below w.heap.size w w') : RdAt X w0 n y c rv w' := ⟨h.kat.below hb, h.glob.below hb, h.turn.trans (TurnK.below hb)⟩
theorem RdAt.alloc {X : Cx} {w0 w : World} {n : Nat} {y : M.Sys} {c : M.Conn} {rv : Value} (h : RdAt X w0 n y c rv w) (o : Obj) : RdAt X w0 n y c rv (w.alloc o) := h.below ((Below.refl _ _).alloc (Nat.le_refl _) o)
theorem Glob.errs' {w : World} (h : Glob w) : Errs w := h.1

set_option maxRecDepth 20000 in
set_option maxHeartbeats 4000000 in
/-- a line that is no command -/
theorem line_none {X : Cx} {w : World} {n : Nat} {y : M.Sys} {c : M.Conn} {rv : Value} (h : KAt X w n y c rv) (hG : Glob w) (ho : c.out.length ≤ 35184372088832) (line : M.Bytes) (hl : line.length ≤ 1000) (hr : P.rRead line = none) (a : ByteArray) (hown : (c.owner = none ∧ a = ⟨#[69, 82, 82, 79, 82, 32, 97, 117, 116, 104]⟩) ∨ (∃ t, c.owner = some t) ∧ a = ⟨#[69, 82, 82, 79, 82, 32, 98, 97, 100]⟩) :
    Calls Tryz.prog 118 #[.pointer (some ⟨X.cb, 0, none⟩), .string ⟨line.toArray⟩] w fun e w' => e = .returned (.tuple #[]) ∧ KPost X w n (y, M.say c a.data.toList) rv w' := by
  have hs : (ByteArray.mk line.toArray).size ≤ 1000 := by rw [str_size]; exact hl
  have hR := fun W (hW : Glob W) => read_c ⟨line.toArray⟩ W (Nat.le_trans hs (by decide)) hW.errs'
  simp only [hr] at hR
  unfold noCommand at hR
  have H0 : Hid (RdAt X w n y c rv w) := ⟨h, hG, TurnK.refl _ _⟩
  have HR := Hid.of hR
  obtain ⟨L, hL⟩ : ∃ L : ByteArray, L = ⟨line.toArray⟩ := ⟨_, rfl⟩
  rw [← hL] at hs HR ⊢
  clear hR hL hr hl
  have HA : Hid (a.size ≤ 10) := by
    show a.size ≤ 10
    rcases hown with ⟨_, rfl⟩ | ⟨_, rfl⟩ <;> decide
  rcases hown with ⟨hown, rfl⟩ | ⟨⟨t, hown⟩, rfl⟩
  · have HO := Hid.of hown
    clear h hG hown
    go_enter Tryz.func118, Tryz.ntmps118
    go_wp2_with (first
      | (go_at_call 47; refine (clone_s L _ (by omega)).mono ?_; rintro e w1 ⟨rfl, hb1⟩; have H1 := Hid.of (H0.out.below hb1); clear hb1)
      | (go_at_call 46; refine (HR.out _ H1.out.glob).mono ?_; rintro e w2 ⟨rfl, hb2⟩; have H2 := Hid.of (H1.out.below hb2); have c12 := store_nil H2.out.kat HO.out; have hcb := H2.out.kat.lt; clear hb2)
      | (go_at_call 120; refine (say_1 (H2.out.alloc _).kat _ (by have := HA.out; omega) _ (by simp)).mono ?_; rintro e w3 ⟨rfl, hK3, hT3⟩))
    go_end0
    exact ⟨rfl, hK3, (H2.out.alloc _).turn.trans hT3⟩
  · have HO := Hid.of hown
    clear h hG hown
    go_enter Tryz.func118, Tryz.ntmps118
    go_wp2_with (first
      | (go_at_call 47; refine (clone_s L _ (by omega)).mono ?_; rintro e w1 ⟨rfl, hb1⟩; have H1 := Hid.of (H0.out.below hb1); clear hb1)
      | (go_at_call 46; refine (HR.out _ H1.out.glob).mono ?_; rintro e w2 ⟨rfl, hb2⟩; have H2 := Hid.of (H1.out.below hb2); have c12 := store_ptr H2.out.kat HO.out; have hcb := H2.out.kat.lt; clear hb2)
      | (go_at_call 120; refine (say_1 (H2.out.alloc _).kat _ (by have := HA.out; omega) _ (by simp)).mono ?_; rintro e w3 ⟨rfl, hK3, hT3⟩))
    go_end0
    exact ⟨rfl, hK3, (H2.out.alloc _).turn.trans hT3⟩
end Go.Proofs.YtdpnpcjbjjjceaaGreatDoor.S
namespace Go.Proofs.YtdpnpcjbjjjceaaGreatDoor.S
open Go.RowKit Go.Maps Go.MuLone Go.Proofs.YtdpnpcjbjjjceaaGreatDoor

theorem cmd_agg {base : Nat} {W : World} {ws : List M.Bytes} {v : Value} (h : CmdW base W ws v) : ∃ q1 a1 b1 q2 a2 b2, v = .agg #[str (M.word ws 0), .slice q1 a1 b1, .slice q2 a2 b2] := by
  have h' := h
  obtain ⟨least', rules', h1, h2, _, tv', nv', rfl, h5, h6⟩ := h'
  obtain ⟨_, ⟨q1, a1, b1, rfl⟩, ⟨q2, a2, b2, rfl⟩⟩ := cmd_slices h
  exact ⟨q1, a1, b1, q2, a2, b2, rfl⟩
theorem KAt.newk {X : Cx} {w : World} {n : Nat} {y : M.Sys} {c : M.Conn} {rv : Value} (h : KAt X w n y c rv) : ∀ k, w.heap.size ≤ k → X.O k := by
  obtain ⟨sv, wt, nv, tv, iv, av, hc⟩ := h.conn
  exact hc.cb.new
theorem KAt.c2 {X : Cx} {w : World} {n : Nat} {y : M.Sys} {c : M.Conn} {rv : Value} (h : KAt X w n y c rv) : ∃ wt, w.cell? ⟨X.cb, 2, none⟩ = some (.int .i64 wt) := by
  obtain ⟨sv, wt, nv, tv, iv, av, hc⟩ := h.conn
  exact ⟨wt, hc.cb.c2⟩
theorem CmdW.below {w w' : World} {base : Nat} {ws : List M.Bytes} {v : Value} (h : CmdW base w ws v) (hb : Below w.heap.size w w') : CmdW base w' ws v := h.same (fun k _ _ _ _ hc => hb.block k (Array.getElem?_eq_some_iff.1 hc).1)
/-- what Read gives where the line is a command -/
def RdC (line : ByteArray) (ws : List M.Bytes) : Prop := ∀ W, Glob W → Calls Tryz.prog 46 #[.string line] W fun e w' => (∃ v, e = .returned (.tuple #[v, .bool true]) ∧ CmdW W.heap.size w' ws v) ∧ Below W.heap.size W w'
theorem rdc_of (line : M.Bytes) (ws : List M.Bytes) (hl : line.length ≤ 1000) (hr : P.rRead line = some ws) : RdC ⟨line.toArray⟩ ws := by
  intro W hW
  have hs : (ByteArray.mk line.toArray).size ≤ 1000 := by rw [str_size]; exact hl
  have h := read_c ⟨line.toArray⟩ W (Nat.le_trans hs (by decide)) hW.errs'
  simp only [hr] at h
  exact h
/-- behind Read: the connection, and the command -/
structure RC (X : Cx) (w0 : World) (n : Nat) (y : M.Sys) (c : M.Conn) (rv : Value) (base : Nat) (ws : List M.Bytes) (v : Value) (w : World) : Prop where
  kat : KAt X w n y c rv
  glob : Glob w
  turn : TurnK X w0 w
  old : ∀ k, base ≤ k → X.O k
  cmd : CmdW base w ws v
theorem RC.below {X : Cx} {w0 w w' : World} {n : Nat} {y : M.Sys} {c : M.Conn} {rv : Value} {base : Nat} {ws : List M.Bytes} {v : Value} (h : RC X w0 n y c rv base ws v w) (hb : Below w.heap.size w w') : RC X w0 n y c rv base ws v w' := ⟨h.kat.below hb, h.glob.below hb, h.turn.trans (TurnK.below hb), h.old, h.cmd.below hb⟩
theorem RC.alloc {X : Cx} {w0 w : World} {n : Nat} {y : M.Sys} {c : M.Conn} {rv : Value} {base : Nat} {ws : List M.Bytes} {v : Value} (h : RC X w0 n y c rv base ws v w) (o : Obj) : RC X w0 n y c rv base ws v (w.alloc o) := h.below ((Below.refl _ _).alloc (Nat.le_refl _) o)
theorem RC.drew {X : Cx} {w0 w : World} {n : Nat} {y : M.Sys} {c : M.Conn} {rv : Value} {base : Nat} {ws : List M.Bytes} {v : Value} (h : RC X w0 n y c rv base ws v w) : RC X w0 n y c rv base ws v w.drew := h.below (below_drew w)
theorem RdAt.rc {X : Cx} {w0 w w' : World} {n : Nat} {y : M.Sys} {c : M.Conn} {rv : Value} {ws : List M.Bytes} {v : Value} (h : RdAt X w0 n y c rv w) (hb : Below w.heap.size w w') (hc : CmdW w.heap.size w' ws v) : RC X w0 n y c rv w.heap.size ws v w' := ⟨h.kat.below hb, h.glob.below hb, h.turn.trans (TurnK.below hb), h.kat.newk, hc⟩
theorem cmd_auth {base : Nat} {W : World} {ws : List M.Bytes} {q1 : Option Addr} {a1 b1 : Nat} {nv iv : Value} (h : CmdW base W ws (.agg #[nv, .slice q1 a1 b1, iv])) (hn : M.word ws 0 = [97, 117, 116, 104]) :
    ∃ g, q1 = some ⟨g, 0, none⟩ ∧ a1 = 2 ∧ g < W.heap.size ∧ W.cell? ⟨g, 0, none⟩ = some (str (M.word ws 1)) ∧ W.cell? ⟨g, 1, none⟩ = some (str (M.word ws 2)) ∧ (M.word ws 1).length ≤ 8 := by
  have hs : pShape (M.word ws 0) = some (2, [(false, 8), (false, 16)]) := by rw [hn]; decide
  obtain ⟨_, f1, f2, f3, hw, h5, _⟩ := cmd_shape h hs
  obtain ⟨a, b, hx⟩ : ∃ a b, ws.tail = [a, b] := by
    match ws.tail, f1, f2 with
    | [a, b], _, _ => exact ⟨a, b, rfl⟩
  rw [hx] at hw f3 h5
  have e1 : M.word ws 1 = a := by rw [hw]; rfl
  have e2 : M.word ws 2 = b := by rw [hw]; rfl
  simp only [P.pFitsL, Bool.and_eq_true, and_true] at f3
  have t1 : tL [(false, 8), (false, 16)] [a, b] = [a, b] := rfl
  rw [t1] at h5
  obtain ⟨g1, c1, v1, _, l1, k1, _⟩ := row_cell h5 0 (str a) rfl
  obtain ⟨g2, c2, v2, _, l2, k2, _⟩ := row_cell h5 1 (str b) rfl
  cases v1
  cases v2
  rw [e1, e2]
  exact ⟨g1, rfl, rfl, l1, k1, k2, allows_text (m := 8) f3.1⟩
theorem blkA {w w' : World} {a : Array Value} {t : TypeId} (h : Below (w.alloc (.cells a t (0, 0))).heap.size (w.alloc (.cells a t (0, 0))) w') : w'.heap[w.heap.size]? = some (.cells a t (0, 0)) := (h.block _ (by simp)).trans (alloc_here _ _)
def authed (y : M.Sys) (c : M.Conn) (nm tok : M.Bytes) : M.Sys × M.Conn := match M.who y.names nm tok with | some t => (y, M.say { c with owner := some t } [79, 75]) | none => (y, M.say c [68, 69, 78, 73, 69, 68])
theorem auth_a {X : Cx} {w : World} {n : Nat} {y : M.Sys} {c : M.Conn} {rv : Value} (h : KAt X w n y c rv) (nm tok : M.Bytes) (hnm : nm.length ≤ 1000000) (ho : c.out.length ≤ 70368744177664) :
    Calls Tryz.prog 161 #[.pointer (some ⟨X.cb, 0, none⟩), str nm, str tok] w fun e w' => e = .returned (.tuple #[]) ∧ KPost X w n (authed y c nm tok) rv w' := auth_c h nm tok hnm ho
theorem value_set {X : Cx} {w : World} {n : Nat} {y : M.Sys} {c : M.Conn} {rv : Value} (h : KAt X w n y c rv) (ws : List M.Bytes) (base : Nat) (hbase : ∀ k, base ≤ k → X.O k) {L : ByteArray} {q1 q2 : Option Addr} {a1 b1 a2 b2 : Nat} (hcmd : CmdW base w ws (.agg #[.string L, .slice q1 a1 b1, .slice q2 a2 b2])) :
    KPost X w n (y, { c with want := .value ws }) rv ((((w.setCell ⟨X.cb, 3, none⟩ (.string L)).setCell ⟨X.cb, 4, none⟩ (.slice q1 a1 b1)).setCell ⟨X.cb, 5, none⟩ (.slice q2 a2 b2)).setCell ⟨X.cb, 2, none⟩ (.int .i64 1)) := by
  obtain ⟨sv, wt, nv, tv, iv, av, hc⟩ := h.conn
  have hne : ∀ k, k ≠ X.cb → ((((w.setCell ⟨X.cb, 3, none⟩ (.string L)).setCell ⟨X.cb, 4, none⟩ (.slice q1 a1 b1)).setCell ⟨X.cb, 5, none⟩ (.slice q2 a2 b2)).setCell ⟨X.cb, 2, none⟩ (.int .i64 1)).heap[k]? = w.heap[k]? := fun k hk => (heap_set_other _ _ _ _ hk).trans ((heap_set_other _ _ _ _ hk).trans ((heap_set_other _ _ _ _ hk).trans (heap_set_other _ _ _ _ hk)))
  have hT : TurnK X w ((((w.setCell ⟨X.cb, 3, none⟩ (.string L)).setCell ⟨X.cb, 4, none⟩ (.slice q1 a1 b1)).setCell ⟨X.cb, 5, none⟩ (.slice q2 a2 b2)).setCell ⟨X.cb, 2, none⟩ (.int .i64 1)) :=
    ((((Turn.refl _ _).setCell (p := ⟨X.cb, 3, none⟩) (Or.inl (Or.inl rfl)) _).setCell (p := ⟨X.cb, 4, none⟩) (Or.inl (Or.inl rfl)) _).setCell (p := ⟨X.cb, 5, none⟩) (Or.inl (Or.inl rfl)) _).setCell (p := ⟨X.cb, 2, none⟩) (Or.inl (Or.inl rfl)) _
  have k1 := hc.cb.set (fv' := .func (.func 51) #[.pointer (some ⟨X.g, 0, none⟩)] #[]) (sv' := sv) (wt' := wt) (nv' := .string L) (tv' := tv) (iv' := iv) (rv' := rv) 3 (.string L) rfl
  have k2 := k1.set (fv' := .func (.func 51) #[.pointer (some ⟨X.g, 0, none⟩)] #[]) (sv' := sv) (wt' := wt) (nv' := .string L) (tv' := .slice q1 a1 b1) (iv' := iv) (rv' := rv) 4 (.slice q1 a1 b1) rfl
  have k3 := k2.set (fv' := .func (.func 51) #[.pointer (some ⟨X.g, 0, none⟩)] #[]) (sv' := sv) (wt' := wt) (nv' := .string L) (tv' := .slice q1 a1 b1) (iv' := .slice q2 a2 b2) (rv' := rv) 5 (.slice q2 a2 b2) rfl
  have k4 := k3.set (fv' := .func (.func 51) #[.pointer (some ⟨X.g, 0, none⟩)] #[]) (sv' := sv) (wt' := 1) (nv' := .string L) (tv' := .slice q1 a1 b1) (iv' := .slice q2 a2 b2) (rv' := rv) 2 (.int .i64 1) rfl
  refine ⟨⟨h.ok, h.sys.same (Nat.le_refl _) (hne _ ?_) (hne _ ?_) (fun u hu => ⟨hne _ ?_, hne _ ?_⟩), sv, 1, .string L, .slice q1 a1 b1, .slice q2 a2 b2, av, k4, hc.owner, ?_, ⟨_, rfl⟩, ⟨_, _, _, rfl⟩, ⟨_, _, _, rfl⟩⟩, hT⟩
  · intro e; have := h.ok.g; rw [e, h.ok.cb] at this; cases this
  · intro e; have := h.ok.T; rw [e, h.ok.cb] at this; cases this
  · intro e; have := h.ok.sb u hu; rw [e, h.ok.cb] at this; omega
  · intro e; have := h.ok.eb u hu; rw [e, h.ok.cb] at this; omega
  · exact ⟨rfl, base, hcmd.same (fun k _ _ hb _ hcc => hne k (fun e1 => h.ok.apartC (e1 ▸ hbase k hb))), fun q a b hv => hbase _ (hcmd.own.1 q a b hv).1, fun q a b hv => hbase _ (hcmd.own.2 q a b hv).1⟩
end Go.Proofs.YtdpnpcjbjjjceaaGreatDoor.S
namespace Go.Proofs.YtdpnpcjbjjjceaaGreatDoor.S
open Go.RowKit Go.Maps Go.MuLone Go.Proofs.YtdpnpcjbjjjceaaGreatDoor

set_option maxRecDepth 20000 in
set_option maxHeartbeats 4000000 in
theorem line_quit {X : Cx} {w : World} {n : Nat} {y : M.Sys} {c : M.Conn} {rv : Value} (h : KAt X w n y c rv) (hG : Glob w) (L : ByteArray) (hL : L.size ≤ 1000) (ws : List M.Bytes) (hrd : RdC L ws) (h0 : M.word ws 0 = [113, 117, 105, 116]) :
    Calls Tryz.prog 118 #[.pointer (some ⟨X.cb, 0, none⟩), .string L] w fun e w' => e = .returned (.tuple #[]) ∧ KPost X w n (y, { c with want := .quit }) rv w' := by
  have H0 : Hid (RdAt X w n y c rv w) := ⟨h, hG, TurnK.refl _ _⟩
  have HR := Hid.of hrd
  clear hrd
  go_enter Tryz.func118, Tryz.ntmps118
  go_wp2_with (first
    | (go_at_call 47; refine (clone_s L _ (by omega)).mono ?_; rintro e w1 ⟨rfl, hb1⟩; have H1 := Hid.of (H0.out.below hb1); clear hb1)
    | (go_at_call 46; refine (HR.out _ H1.out.glob).mono ?_; rintro e w2 ⟨⟨v, rfl, hC⟩, hb2⟩; obtain ⟨q1, a1, b1, q2, a2, b2, rfl⟩ := cmd_agg hC; have H2 := Hid.of (H1.out.rc hb2 hC); have hcb := H2.out.kat.lt; obtain ⟨wt, c22⟩ := H2.out.kat.c2; have f22 := H2.out.kat.fz 2; unfold str at H2 ⊢; rw [h0] at H2 ⊢; clear hb2 hC))
  go_end0
  have hW := wants_set H2.out.kat .quit 3 (Or.inr (Or.inr ⟨rfl, rfl⟩))
  exact ⟨rfl, hW.1.alloc _, (H2.out.turn.trans hW.2).trans (TurnK.below ((Below.refl _ _).alloc (Nat.le_refl _) _))⟩
set_option maxRecDepth 20000 in
set_option maxHeartbeats 4000000 in
theorem line_nobody {X : Cx} {w : World} {n : Nat} {y : M.Sys} {c : M.Conn} {rv : Value} (h : KAt X w n y c rv) (hG : Glob w) (ho : c.out.length ≤ 35184372088832) (L : ByteArray) (hL : L.size ≤ 1000) (ws : List M.Bytes) (hrd : RdC L ws) (hown : c.owner = none) (nm : M.Bytes) (h0 : M.word ws 0 = nm) (hnm : nm = [115, 101, 116] ∨ nm = [97, 100, 100] ∨ nm = [114, 101, 112, 108, 97, 99, 101] ∨ nm = [99, 97, 115] ∨ nm = [103, 101, 116] ∨ nm = [115, 116, 97, 116, 115] ∨ nm = [100, 101, 108, 101, 116, 101] ∨ nm = [116, 111, 117, 99, 104] ∨ nm = [105, 110, 99, 114]) :
    Calls Tryz.prog 118 #[.pointer (some ⟨X.cb, 0, none⟩), .string L] w fun e w' => e = .returned (.tuple #[]) ∧ KPost X w n (y, M.say c [69, 82, 82, 79, 82, 32, 97, 117, 116, 104]) rv w' := by
  have H0 : Hid (RdAt X w n y c rv w) := ⟨h, hG, TurnK.refl _ _⟩
  have HR := Hid.of hrd
  clear hrd
  have HO := Hid.of hown
  clear h hG hown
  rcases hnm with rfl | rfl | rfl | rfl | rfl | rfl | rfl | rfl | rfl
  all_goals
    go_enter Tryz.func118, Tryz.ntmps118
    go_wp2_with (first
      | (go_at_call 47; refine (clone_s L _ (by omega)).mono ?_; rintro e w1 ⟨rfl, hb1⟩; have H1 := Hid.of (H0.out.below hb1); clear hb1)
      | (go_at_call 46; refine (HR.out _ H1.out.glob).mono ?_; rintro e w2 ⟨⟨v, rfl, hC⟩, hb2⟩; obtain ⟨q1, a1, b1, q2, a2, b2, rfl⟩ := cmd_agg hC; have H2 := Hid.of (H1.out.rc hb2 hC); have hcb := H2.out.kat.lt; have c12 := store_nil H2.out.kat HO.out; unfold str at H2 ⊢; rw [h0] at H2 ⊢; clear hb2 hC)
      | (go_at_call 120; refine (say_1 (H2.out.alloc _).kat _ (by show _ + 10 + 1 ≤ _; omega) _ (by simp)).mono ?_; rintro e w3 ⟨rfl, hK3, hT3⟩))
    go_end0
    exact ⟨rfl, hK3, (H2.out.alloc _).turn.trans hT3⟩
set_option maxRecDepth 20000 in
set_option maxHeartbeats 4000000 in
theorem line_value {X : Cx} {w : World} {n : Nat} {y : M.Sys} {c : M.Conn} {rv : Value} (h : KAt X w n y c rv) (hG : Glob w) (L : ByteArray) (hL : L.size ≤ 1000) (ws : List M.Bytes) (hrd : RdC L ws) {t : Nat} (hown : c.owner = some t) (nm : M.Bytes) (h0 : M.word ws 0 = nm) (hnm : nm = [115, 101, 116] ∨ nm = [97, 100, 100] ∨ nm = [114, 101, 112, 108, 97, 99, 101] ∨ nm = [99, 97, 115]) :
    Calls Tryz.prog 118 #[.pointer (some ⟨X.cb, 0, none⟩), .string L] w fun e w' => e = .returned (.tuple #[]) ∧ KPost X w n (y, { c with want := .value ws }) rv w' := by
  have H0 : Hid (RdAt X w n y c rv w) := ⟨h, hG, TurnK.refl _ _⟩
  have HR := Hid.of hrd
  clear hrd
  have HO := Hid.of hown
  clear h hG hown
  rcases hnm with rfl | rfl | rfl | rfl
  all_goals
    go_enter Tryz.func118, Tryz.ntmps118
    go_wp2_with (first
      | (go_at_call 47; refine (clone_s L _ (by omega)).mono ?_; rintro e w1 ⟨rfl, hb1⟩; have H1 := Hid.of (H0.out.below hb1); clear hb1)
      | (go_at_call 46; refine (HR.out _ H1.out.glob).mono ?_; rintro e w2 ⟨⟨v, rfl, hC⟩, hb2⟩; obtain ⟨q1, a1, b1, q2, a2, b2, rfl⟩ := cmd_agg hC; have H2 := Hid.of (H1.out.rc hb2 hC); have hcb := H2.out.kat.lt; have c12 := store_ptr H2.out.kat HO.out; have HST := Hid.of (fun W => stores_c (M.word ws 0) (.slice q1 a1 b1) (.slice q2 a2 b2) W ⟨_, _, _, rfl⟩ ⟨_, _, _, rfl⟩ (by rw [h0]; simp)); unfold str at HST; rw [h0] at HST; unfold str at H2 ⊢; rw [h0] at H2 ⊢; clear hb2 hC)
      | (go_at_call 162; refine (HST.out _).mono ?_; rintro e w3 ⟨rfl, hb3⟩; have H3 := Hid.of ((H2.out.alloc _).below hb3); obtain ⟨sv3, wt3, nv3, tv3, iv3, av3, hc3⟩ := H3.out.kat.conn; have e2 := hc3.cb.c2; have e3 := hc3.cb.c3; have e4 := hc3.cb.c4; have e5 := hc3.cb.c5; have z2 := H3.out.kat.fz 2; have z3 := H3.out.kat.fz 3; have z4 := H3.out.kat.fz 4; have z5 := H3.out.kat.fz 5; have hB3 := blkA hb3; have d0 := heap_cell hB3 0 rfl; have d1 := heap_cell hB3 1 rfl; have d2 := heap_cell hB3 2 rfl; have hcb3 := H3.out.kat.lt; clear hc3 hb3 hB3))
    go_end0
    have hW := value_set H3.out.kat ws _ H3.out.old H3.out.cmd
    exact ⟨rfl, hW.1, H3.out.turn.trans hW.2⟩
set_option maxRecDepth 20000 in
set_option maxHeartbeats 4000000 in
theorem line_once {X : Cx} {w : World} {n : Nat} {y : M.Sys} {c : M.Conn} {rv : Value} (h : KAt X w n y c rv) (hG : Glob w) (hn : n + 10 ≤ 10000000000) (ho : c.out.length ≤ 35184372088832) (L : ByteArray) (hL : L.size ≤ 1000) (ws : List M.Bytes) (hrd : RdC L ws) {t : Nat} (ht : t < X.N) (hown : c.owner = some t) (nm : M.Bytes) (h0 : M.word ws 0 = nm) (hnm : nm = [103, 101, 116] ∨ nm = [115, 116, 97, 116, 115] ∨ nm = [100, 101, 108, 101, 116, 101] ∨ nm = [116, 111, 117, 99, 104] ∨ nm = [105, 110, 99, 114]) :
    Calls Tryz.prog 118 #[.pointer (some ⟨X.cb, 0, none⟩), .string L] w fun e w' => e = .returned (.tuple #[]) ∧ KPost X w (n + ws.length) (M.setAt y t (M.other y.clock (M.storeAt y t) ws).2, M.say c (M.other y.clock (M.storeAt y t) ws).1) rv w' := by
  have H0 : Hid (RdAt X w n y c rv w) := ⟨h, hG, TurnK.refl _ _⟩
  have HR := Hid.of hrd
  clear hrd
  have HO := Hid.of hown
  clear h hG hown
  rcases hnm with rfl | rfl | rfl | rfl | rfl
  all_goals
    have hwv : M.wantsValue ws = false := by unfold M.wantsValue; rw [h0]; decide
    have hna : M.word ws 0 ≠ [97, 117, 116, 104] := by rw [h0]; decide
    have hnq : M.word ws 0 ≠ [113, 117, 105, 116] := by rw [h0]; decide
    go_enter Tryz.func118, Tryz.ntmps118
    go_wp2_with (first
      | (go_at_call 47; refine (clone_s L _ (by omega)).mono ?_; rintro e w1 ⟨rfl, hb1⟩; have H1 := Hid.of (H0.out.below hb1); clear hb1)
      | (go_at_call 46; refine (HR.out _ H1.out.glob).mono ?_; rintro e w2 ⟨⟨v, rfl, hC⟩, hb2⟩; obtain ⟨q1, a1, b1, q2, a2, b2, rfl⟩ := cmd_agg hC; have H2 := Hid.of (H1.out.rc hb2 hC); have hcb := H2.out.kat.lt; have c12 := store_ptr H2.out.kat HO.out; have HST := Hid.of (fun W => stores_c (M.word ws 0) (.slice q1 a1 b1) (.slice q2 a2 b2) W ⟨_, _, _, rfl⟩ ⟨_, _, _, rfl⟩ (by rw [h0]; simp)); unfold str at HST; rw [h0] at HST; unfold str at H2 ⊢; rw [h0] at H2 ⊢; clear hb2 hC)
      | (go_at_call 162; refine (HST.out _).mono ?_; rintro e w3 ⟨rfl, hb3⟩; have H3 := Hid.of ((H2.out.alloc _).below hb3); have hB3 := blkA hb3; have d0 := heap_cell hB3 0 rfl; have d1 := heap_cell hB3 1 rfl; have d2 := heap_cell hB3 2 rfl; clear hb3 hB3)
      | (go_at_call 163; refine (once_c H3.out.kat H3.out.glob hn ht HO.out ho H3.out.old H3.out.cmd hwv hna hnq).mono ?_; rintro e w4 ⟨rfl, hK4, hT4⟩))
    go_end0
    exact ⟨rfl, hK4, H3.out.turn.trans hT4⟩
set_option maxRecDepth 20000 in
set_option maxHeartbeats 4000000 in
theorem line_auth {X : Cx} {w : World} {n : Nat} {y : M.Sys} {c : M.Conn} {rv : Value} (h : KAt X w n y c rv) (hG : Glob w) (ho : c.out.length ≤ 35184372088832) (L : ByteArray) (hL : L.size ≤ 1000) (ws : List M.Bytes) (hrd : RdC L ws) (h0 : M.word ws 0 = [97, 117, 116, 104]) :
    Calls Tryz.prog 118 #[.pointer (some ⟨X.cb, 0, none⟩), .string L] w fun e w' => e = .returned (.tuple #[]) ∧ KPost X w n (authed y c (M.word ws 1) (M.word ws 2)) rv w' := by
  have H0 : Hid (RdAt X w n y c rv w) := ⟨h, hG, TurnK.refl _ _⟩
  have HR := Hid.of hrd
  clear hrd
  have h0' := Hid.of h0
  clear h hG
  go_enter Tryz.func118, Tryz.ntmps118
  go_wp2_with (first
    | (go_at_call 47; refine (clone_s L _ (by omega)).mono ?_; rintro e w1 ⟨rfl, hb1⟩; have H1 := Hid.of (H0.out.below hb1); clear hb1)
    | (go_at_call 46; refine (HR.out _ H1.out.glob).mono ?_; rintro e w2 ⟨⟨v, rfl, hC⟩, hb2⟩; obtain ⟨q1, a1, b1, q2, a2, b2, rfl⟩ := cmd_agg hC; have H2 := Hid.of (H1.out.rc hb2 hC); have hcb := H2.out.kat.lt; obtain ⟨g, rfl, rfl, hg, k0, k1, kl⟩ := cmd_auth hC h0; have HKL := Hid.of (Nat.le_trans kl (show 8 ≤ 1000000 by decide)); clear kl; unfold str at H2 ⊢; rw [h0] at H2 ⊢; clear hb2 hC))
  have HA := Hid.of (fun W (hW : RC X w n y c rv w1.heap.size ws (.agg #[.string ⟨#[97, 117, 116, 104]⟩, .slice (some ⟨g, 0, none⟩) 2 b1, .slice q2 a2 b2]) W) => auth_a hW.kat (M.word ws 1) (M.word ws 2) HKL.out (Nat.le_trans ho (by decide)))
  unfold str at HA k0 k1
  obtain ⟨A1, hA1⟩ : ∃ A1 : ByteArray, A1 = ⟨(M.word ws 1).toArray⟩ := ⟨_, rfl⟩
  obtain ⟨A2, hA2⟩ : ∃ A2 : ByteArray, A2 = ⟨(M.word ws 2).toArray⟩ := ⟨_, rfl⟩
  rw [← hA1] at HA k0
  rw [← hA2] at HA k1
  clear hA1 hA2
  go_region_with (go_at_call 161; refine (HA.out _ (H2.out.alloc _).drew).mono ?_; rintro e w4 ⟨rfl, hK4, hT4⟩)
  all_goals
    go_wp2
    go_end0
    exact ⟨rfl, hK4, (H2.out.alloc _).drew.turn.trans hT4⟩
end Go.Proofs.YtdpnpcjbjjjceaaGreatDoor.S
