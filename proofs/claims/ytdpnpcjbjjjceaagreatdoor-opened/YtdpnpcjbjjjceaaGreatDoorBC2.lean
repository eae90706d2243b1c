import Derived.Test.YtdpnpcjbjjjceaaGreatDoorBC1
import Derived.Test.YtdpnpcjbjjjceaaGreatDoorBRd
set_option linter.unusedSimpArgs false
set_option linter.unusedVariables false
namespace Go.Proofs.YtdpnpcjbjjjceaaGreatDoor.S
open Go.RowKit Go.Maps Go.MuLone Go.Proofs.YtdpnpcjbjjjceaaGreatDoor

theorem row_cell {w : World} {base e n : Nat} {v : Value} {l : List Value} (h : w.ownsRow base e 1 v n l) (i : Nat) (u : Value) (hi : l[i]? = some u) : ∃ g c, v = .slice (some ⟨g, 0, none⟩) n c ∧ base ≤ g ∧ g < w.heap.size ∧ w.cell? ⟨g, i, none⟩ = some u ∧ i < n := by
  have hl : l.length = n := by have := h.1; omega
  have hin : i < n := by rw [← hl]; exact (List.getElem?_eq_some_iff.1 hi).1
  rcases h.2 with ⟨_, h0⟩ | ⟨g, c, cur, hv, hb, hg, h4, h5, h6, h7⟩
  · omega
  · refine ⟨g, c, hv, hb, (Array.getElem?_eq_some_iff.1 hg).1, ?_, hin⟩
    refine heap_cell hg i ?_
    rw [← h7, List.getElem?_take, if_pos (by omega), Array.getElem?_toList] at hi
    exact hi
section
variable (nv tv iv : Value) (w : World) (g n c i : Nat)
theorem key_c (u : Value) (k : ByteArray) (hu : u = .string k) (hc : w.cell? ⟨g, 0, none⟩ = some u) (hg : g < w.heap.size) (hn : 0 < n) (hnv : ∃ b, nv = .string b) (hiv : ∃ q a b, iv = .slice q a b) : Calls Tryz.prog 166 #[.agg #[nv, .slice (some ⟨g, 0, none⟩) n c, iv]] w fun e w' => e = .returned (.string k) ∧ Below w.heap.size w w' := by
  subst hu
  obtain ⟨b, rfl⟩ := hnv
  obtain ⟨q, a1, b1, rfl⟩ := hiv
  have kn : (0 : Int) < n := by omega
  go_enter Tryz.func166, Tryz.ntmps166
  go_wp2
  go_ret
  exact ⟨rfl, (Below.refl _ _).alloc (Nat.le_refl _) _⟩
end
theorem flags_c (nv tv : Value) (w : World) (g n c : Nat) (m : Int) (hc : w.cell? ⟨g, 0, none⟩ = some (.int .i64 m)) (hg : g < w.heap.size) (hn : 0 < n) (hnv : ∃ b, nv = .string b) (htv : ∃ q a b, tv = .slice q a b) : Calls Tryz.prog 167 #[.agg #[nv, tv, .slice (some ⟨g, 0, none⟩) n c]] w fun e w' => e = .returned (.int .i64 m) ∧ Below w.heap.size w w' := by
  obtain ⟨b, rfl⟩ := hnv
  obtain ⟨q, a1, b1, rfl⟩ := htv
  have kn : (0 : Int) < n := by omega
  go_enter Tryz.func167, Tryz.ntmps167
  go_wp2
  go_ret
  exact ⟨rfl, (Below.refl _ _).alloc (Nat.le_refl _) _⟩
theorem size_c (nv tv : Value) (w : World) (g n c : Nat) (m : Int) (hc : w.cell? ⟨g, 2, none⟩ = some (.int .i64 m)) (hg : g < w.heap.size) (hn : 2 < n) (hnv : ∃ b, nv = .string b) (htv : ∃ q a b, tv = .slice q a b) : Calls Tryz.prog 121 #[.agg #[nv, tv, .slice (some ⟨g, 0, none⟩) n c]] w fun e w' => e = .returned (.int .i64 m) ∧ Below w.heap.size w w' := by
  obtain ⟨b, rfl⟩ := hnv
  obtain ⟨q, a1, b1, rfl⟩ := htv
  have kn : (2 : Int) < n := by omega
  go_enter Tryz.func121, Tryz.ntmps121
  go_wp2
  go_ret
  exact ⟨rfl, (Below.refl _ _).alloc (Nat.le_refl _) _⟩
theorem mark_c (nv tv : Value) (w : World) (g n c : Nat) (m : Int) (hc : w.cell? ⟨g, 3, none⟩ = some (.int .i64 m)) (hg : g < w.heap.size) (hn : 3 < n) (hnv : ∃ b, nv = .string b) (htv : ∃ q a b, tv = .slice q a b) : Calls Tryz.prog 172 #[.agg #[nv, tv, .slice (some ⟨g, 0, none⟩) n c]] w fun e w' => e = .returned (.int .i64 m) ∧ Below w.heap.size w w' := by
  obtain ⟨b, rfl⟩ := hnv
  obtain ⟨q, a1, b1, rfl⟩ := htv
  have kn : (3 : Int) < n := by omega
  go_enter Tryz.func172, Tryz.ntmps172
  go_wp2
  go_ret
  exact ⟨rfl, (Below.refl _ _).alloc (Nat.le_refl _) _⟩
theorem numb_c (nv tv : Value) (w : World) (g n c : Nat) (m : Int) (hc : w.cell? ⟨g, 0, none⟩ = some (.int .i64 m)) (hg : g < w.heap.size) (hn : 0 < n) (hnv : ∃ b, nv = .string b) (htv : ∃ q a b, tv = .slice q a b) : Calls Tryz.prog 193 #[.agg #[nv, tv, .slice (some ⟨g, 0, none⟩) n c]] w fun e w' => e = .returned (.int .i64 m) ∧ Below w.heap.size w w' := by
  obtain ⟨b, rfl⟩ := hnv
  obtain ⟨q, a1, b1, rfl⟩ := htv
  have kn : (0 : Int) < n := by omega
  go_enter Tryz.func193, Tryz.ntmps193
  go_wp2
  go_ret
  exact ⟨rfl, (Below.refl _ _).alloc (Nat.le_refl _) _⟩
def storesB (l : M.Bytes) : Bool := decide (l = [115, 101, 116]) || decide (l = [97, 100, 100]) || decide (l = [114, 101, 112, 108, 97, 99, 101]) || decide (l = [99, 97, 115])
theorem stores_c (l : M.Bytes) (tv iv : Value) (w : World) (htv : ∃ q a b, tv = .slice q a b) (hiv : ∃ q a b, iv = .slice q a b) (hn : l = [115, 101, 116] ∨ l = [97, 100, 100] ∨ l = [114, 101, 112, 108, 97, 99, 101] ∨ l = [99, 97, 115] ∨ l = [103, 101, 116] ∨ l = [115, 116, 97, 116, 115] ∨ l = [100, 101, 108, 101, 116, 101] ∨ l = [116, 111, 117, 99, 104] ∨ l = [105, 110, 99, 114]) :
    Calls Tryz.prog 162 #[.agg #[str l, tv, iv]] w fun e w' => e = .returned (.bool (storesB l)) ∧ Below w.heap.size w w' := by
  obtain ⟨q, a1, b1, rfl⟩ := htv
  obtain ⟨q2, a2, b2, rfl⟩ := hiv
  unfold str
  rcases hn with rfl | rfl | rfl | rfl | rfl | rfl | rfl | rfl | rfl
  all_goals
    go_enter Tryz.func162, Tryz.ntmps162
    go_wp2
    go_ret
    exact ⟨rfl, (Below.refl _ _).alloc (Nat.le_refl _) _⟩
end Go.Proofs.YtdpnpcjbjjjceaaGreatDoor.S
namespace Go.Proofs.YtdpnpcjbjjjceaaGreatDoor.S
open Go.RowKit Go.Maps Go.MuLone Go.Proofs.YtdpnpcjbjjjceaaGreatDoor

/-- where a server lies: its own block, the tenants, a connection, the stores and their entries; ρ: what each block is for -/
structure Cx where
  g : Nat
  T : Nat
  cb : Nat
  N : Nat
  sb : Nat → Nat
  eb : Nat → Nat
  ρ : Nat → Nat
  names : List (M.Bytes × M.Bytes)
def Cx.O (X : Cx) (k : Nat) : Prop := X.ρ k = 0
structure Cx.Ok (X : Cx) : Prop where
  g : X.ρ X.g = 2
  T : X.ρ X.T = 3
  cb : X.ρ X.cb = 1
  sb : ∀ t, t < X.N → X.ρ (X.sb t) = 4 + 2 * t
  eb : ∀ t, t < X.N → X.ρ (X.eb t) = 5 + 2 * t
  glob : ∀ k, k < 8 → X.ρ k = 1000000
  few : X.N ≤ 5
/-- a block of bytes -/
def Yb (w : World) (k : Nat) : Prop := ∃ cur, w.heap[k]? = some (.cells cur 5 (0, 0))
/-- what a connection's work may turn -/
def SK (X : Cx) (w : World) (k : Nat) : Prop := k = X.cb ∨ (X.O k ∧ Yb w k) ∨ ∃ t, t < X.N ∧ (k = X.sb t ∨ k = X.eb t)
def TurnK (X : Cx) (w w' : World) : Prop := Turn (SK X w) w w'
theorem TurnK.refl (X : Cx) (w : World) : TurnK X w w := Turn.refl _ _
theorem TurnK.trans {X : Cx} {a b c : World} (h : TurnK X a b) (k : TurnK X b c) : TurnK X a c := by
  refine ⟨k.os.trans h.os, k.tape.trans h.tape, k.output.trans h.output, Nat.le_trans h.size k.size, fun i hi hn => ?_⟩
  have h1 := h.block i hi hn
  refine (k.block i (Nat.lt_of_lt_of_le hi h.size) ?_).trans h1
  rintro (e | ⟨ho, cur, hc⟩ | e)
  · exact hn (Or.inl e)
  · exact hn (Or.inr (Or.inl ⟨ho, cur, h1.symm.trans hc⟩))
  · exact hn (Or.inr (Or.inr e))
theorem TurnK.below {X : Cx} {a b : World} (h : Below a.heap.size a b) : TurnK X a b := Turn.ofBelow h
theorem TurnK.store {X : Cx} {a b : World} {t : Nat} (ht : t < X.N) (h : Turn (ofStore (X.sb t) (X.eb t)) a b) : TurnK X a b := h.mono (fun k _ hk => Or.inr (Or.inr ⟨t, ht, hk⟩))

section
variable {X : Cx} {w w' : World}
theorem Cx.Ok.apartC (h : X.Ok) : ¬ X.O X.cb := by unfold Cx.O; rw [h.cb]; decide
theorem Cx.Ok.apartS (h : X.Ok) {t : Nat} (ht : t < X.N) {k : Nat} (hk : ofStore (X.sb t) (X.eb t) k) : k ≠ X.cb ∧ ¬ X.O k := by
  have h1 := h.cb
  have h2 := h.sb t ht
  have h3 := h.eb t ht
  unfold Cx.O
  rcases hk with rfl | rfl
  · exact ⟨fun e => by rw [e] at h2; omega, by omega⟩
  · exact ⟨fun e => by rw [e] at h3; omega, by omega⟩
theorem Cx.Ok.other (h : X.Ok) {t u : Nat} (ht : t < X.N) (hu : u < X.N) (hne : t ≠ u) : ∀ k, ofStore (X.sb u) (X.eb u) k → ¬ ofStore (X.sb t) (X.eb t) k := by
  have a1 := h.sb t ht
  have a2 := h.eb t ht
  have b1 := h.sb u hu
  have b2 := h.eb u hu
  rintro k (rfl | rfl) (e | e)
  · rw [e] at b1; omega
  · rw [e] at b1; omega
  · rw [e] at b2; omega
  · rw [e] at b2; omega
theorem Cx.Ok.eight (h : X.Ok) : ∀ k, SK X w k → 8 ≤ k := by
  intro k hk
  rcases Nat.lt_or_ge k 8 with hl | hl
  · exfalso
    have := h.glob k hl
    rcases hk with rfl | ⟨ho, _⟩ | ⟨t, ht, rfl | rfl⟩
    · have := h.cb; omega
    · unfold Cx.O at ho; omega
    · have := h.sb t ht; have := h.few; omega
    · have := h.eb t ht; have := h.few; omega
  · exact hl
theorem Glob.turnK (h : Glob w) (hX : X.Ok) (ht : TurnK X w w') : Glob w' := h.turn ht hX.eight
theorem Cx.Ok.eightS (h : X.Ok) (w : World) {t : Nat} (ht : t < X.N) : 8 ≤ X.sb t ∧ 8 ≤ X.eb t := ⟨h.eight (w := w) _ (Or.inr (Or.inr ⟨t, ht, Or.inl rfl⟩)), h.eight (w := w) _ (Or.inr (Or.inr ⟨t, ht, Or.inr rfl⟩))⟩
end

/-- how a tenant in the map reads: its token, its store's block -/
def tenD (tok : M.Bytes) (b : Nat) : DataW Unit := .agg [.lit (.string tok), .lit (.int .i64 b)]
def tenV (tok : M.Bytes) (b : Nat) : Value := .agg #[str tok, .pointer (some ⟨b, 0, none⟩)]
def tenE (v : Value) : Option (DataW Unit × List MemPlace) :=
  match v with
  | .agg a => match a.toList with
    | [.string s, .pointer (some ⟨b, 0, none⟩)] => some (.agg [.lit (.string s.data.toList), .lit (.int .i64 b)], [])
    | [.string s, .pointer none] => some (.agg [.lit (.string s.data.toList), .nil], [])
    | _ => none
  | _ => none
theorem tenE_mk (tok : M.Bytes) (b : Nat) : tenE (tenV tok b) = some (tenD tok b, []) := rfl
theorem tenE_inv {v : Value} {tok : M.Bytes} {b : Nat} {ps : List MemPlace} (h : tenE v = some (tenD tok b, ps)) : v = tenV tok b := by
  unfold tenE at h
  split at h
  · rename_i a
    split at h
    · rename_i s b' he
      simp only [tenD, Option.some.injEq, Prod.mk.injEq, DataW.agg.injEq, List.cons.injEq, DataW.lit.injEq, Lit.string.injEq, Lit.int.injEq, true_and, and_true] at h
      obtain ⟨⟨h1, h2⟩, _⟩ := h
      unfold tenV str
      congr 1
      apply Array.ext'
      rw [he, bytes_eq h1, show b' = b by omega]
    · simp [tenD] at h
    · cases h
  · cases h
theorem tenE_zero {v : Value} {ps : List MemPlace} (h : tenE v = some (.agg [.lit (.string []), .nil], ps)) : v = .agg #[.string ⟨#[]⟩, .pointer none] := by
  unfold tenE at h
  split at h
  · rename_i a
    split at h
    · simp at h
    · rename_i s he
      simp only [Option.some.injEq, Prod.mk.injEq, DataW.agg.injEq, List.cons.injEq, DataW.lit.injEq, Lit.string.injEq, true_and, and_true] at h
      congr 1
      apply Array.ext'
      rw [he, bytes_eq h.1]
    · cases h
  · cases h
/-- the map of the tenants -/
structure TenHold (D : DataW Unit) (names : List (M.Bytes × M.Bytes)) (sb : Nat → Nat) : Prop where
  has : ∀ k : M.Bytes, Maps.has D (.string k) = names.any (fun p => decide (p.1 = k))
  at_ : ∀ t p, names[t]? = some p → ∀ z, D.atKey (.string p.1) z = tenD p.2 (sb t)
  nodup : (names.map (·.1)).Nodup
structure SysAt (X : Cx) (w : World) (n : Nat) (y : M.Sys) : Prop where
  names : y.names = X.names
  len : y.stores.length = X.N
  lenN : X.names.length = X.N
  clock : y.clock ≤ 1000000000
  stores : ∀ t s, y.stores[t]? = some s → StoreAt w (X.sb t) (X.eb t) n y.clock s
  srv : ∃ cv, w.heap[X.g]? = some (.cells #[.map (some X.T), cv, .int .i64 y.clock] 87 (0, 0))
  tens : ∃ D m, w.ownsMap Tryz.prog 9 tenE X.T m D ∧ TenHold D X.names X.sb
/-- what the connection waits for -/
def WantAt (X : Cx) (w : World) (wt : Int) (nv tv iv : Value) : M.Want → Prop
  | none => wt = 0
  | some (some (some ws)) => wt = 1 ∧ ∃ base, CmdW base w ws (.agg #[nv, tv, iv]) ∧ (∀ q a b, tv = .slice (some q) a b → X.O q.block) ∧ ∀ q a b, iv = .slice (some q) a b → X.O q.block
  | some none => wt = 2
  | some (some none) => wt = 3
structure ConnAt (X : Cx) (w : World) (c : M.Conn) (rv : Value) (sv : Value) (wt : Int) (nv tv iv av : Value) : Prop where
  cb : CB w X.cb X.O (.func (.func 51) #[.pointer (some ⟨X.g, 0, none⟩)] #[]) sv wt nv tv iv rv av c.out
  owner : (c.owner = none ∧ sv = .pointer none) ∨ ∃ t, t < X.N ∧ c.owner = some t ∧ sv = .pointer (some ⟨X.sb t, 0, none⟩)
  want : WantAt X w wt nv tv iv c.want
  nv : ∃ b, nv = .string b
  tv : ∃ q a b, tv = .slice q a b
  iv : ∃ q a b, iv = .slice q a b
structure KAt (X : Cx) (w : World) (n : Nat) (y : M.Sys) (c : M.Conn) (rv : Value) : Prop where
  ok : X.Ok
  sys : SysAt X w n y
  conn : ∃ sv wt nv tv iv av, ConnAt X w c rv sv wt nv tv iv av
end Go.Proofs.YtdpnpcjbjjjceaaGreatDoor.S
namespace Go.Proofs.YtdpnpcjbjjjceaaGreatDoor.S
open Go.RowKit Go.Maps Go.MuLone Go.Proofs.YtdpnpcjbjjjceaaGreatDoor

theorem row_same {w w' : World} {base e n : Nat} {v : Value} {l : List Value} (h : w.ownsRow base e 1 v n l) (hk : ∀ k cur, base ≤ k → w.heap[k]? = some (.cells cur e (0, 0)) → w'.heap[k]? = w.heap[k]?) : w'.ownsRow base e 1 v n l := by
  refine ⟨h.1, ?_⟩
  rcases h.2 with h0 | ⟨g, c, cur, hv, hb, hg, r⟩
  · exact Or.inl h0
  · exact Or.inr ⟨g, c, cur, hv, hb, (hk g cur hb hg).trans hg, r⟩
theorem CmdW.same {w w' : World} {base : Nat} {ws : List M.Bytes} {v : Value} (h : CmdW base w ws v) (hk : ∀ k cur e, base ≤ k → e ≠ 5 → w.heap[k]? = some (.cells cur e (0, 0)) → w'.heap[k]? = w.heap[k]?) : CmdW base w' ws v := by
  obtain ⟨least, rules, h1, h2, h3, tv, nv, h4, h5, h6⟩ := h
  exact ⟨least, rules, h1, h2, h3, tv, nv, h4, row_same h5 (fun k cur hb hc => hk k cur _ hb (by decide) hc), row_same h6 (fun k cur hb hc => hk k cur _ hb (by decide) hc)⟩
theorem row_same2 {w w' : World} {base e n : Nat} {v : Value} {l : List Value} (h : w.ownsRow base e 1 v n l) (hk : ∀ q a b cur, v = .slice (some q) a b → w.heap[q.block]? = some (.cells cur e (0, 0)) → w'.heap[q.block]? = w.heap[q.block]?) : w'.ownsRow base e 1 v n l := by
  refine ⟨h.1, ?_⟩
  rcases h.2 with h0 | ⟨g, c, cur, hv, hb, hg, r⟩
  · exact Or.inl h0
  · exact Or.inr ⟨g, c, cur, hv, hb, (hk _ _ _ cur hv hg).trans hg, r⟩
theorem CmdW.same2 {w w' : World} {base : Nat} {ws : List M.Bytes} {nv tv iv : Value} (h : CmdW base w ws (.agg #[nv, tv, iv])) (hk : ∀ q a b cur e, (tv = .slice (some q) a b ∨ iv = .slice (some q) a b) → e ≠ 5 → w.heap[q.block]? = some (.cells cur e (0, 0)) → w'.heap[q.block]? = w.heap[q.block]?) : CmdW base w' ws (.agg #[nv, tv, iv]) := by
  obtain ⟨least, rules, h1, h2, h3, tv', nv', h4, h5, h6⟩ := h
  have hv1 : nv = str (M.word ws 0) ∧ tv = tv' ∧ iv = nv' := by
    simp only [Value.agg.injEq, Array.mk.injEq, List.cons.injEq, and_true] at h4
    exact h4
  obtain ⟨_, rfl, rfl⟩ := hv1
  exact ⟨least, rules, h1, h2, h3, tv, iv, h4, row_same2 h5 (fun q a b cur hv hc => hk q a b cur _ (Or.inl hv) (by decide) hc), row_same2 h6 (fun q a b cur hv hc => hk q a b cur _ (Or.inr hv) (by decide) hc)⟩
/-- the blocks of the words are new ones -/
theorem CmdW.own {w : World} {base : Nat} {ws : List M.Bytes} {nv tv iv : Value} (h : CmdW base w ws (.agg #[nv, tv, iv])) : (∀ q a b, tv = .slice (some q) a b → base ≤ q.block ∧ q.block < w.heap.size) ∧ ∀ q a b, iv = .slice (some q) a b → base ≤ q.block ∧ q.block < w.heap.size := by
  obtain ⟨least, rules, h1, h2, h3, tv', nv', h4, h5, h6⟩ := h
  have hv1 : nv = str (M.word ws 0) ∧ tv = tv' ∧ iv = nv' := by
    simp only [Value.agg.injEq, Array.mk.injEq, List.cons.injEq, and_true] at h4
    exact h4
  obtain ⟨_, rfl, rfl⟩ := hv1
  exact ⟨fun q a b hv => h5.lt _ (by rw [hv]; rfl), fun q a b hv => h6.lt _ (by rw [hv]; rfl)⟩
section
variable {X : Cx} {w w' : World} {n n' : Nat} {y y' : M.Sys} {c : M.Conn} {rv : Value}
theorem StoreAt.same {sb eb cl : Nat} {s : M.Store} (h : StoreAt w sb eb n cl s) (h1 : w'.heap[sb]? = w.heap[sb]?) (h2 : w'.heap[eb]? = w.heap[eb]?) : StoreAt w' sb eb n cl s := by
  obtain ⟨x, rs, hB, r⟩ := h
  exact ⟨x, rs, hB.same h1 h2, r⟩
theorem StoreAt.lt {sb eb cl : Nat} {s : M.Store} (h : StoreAt w sb eb n cl s) : sb < w.heap.size ∧ eb < w.heap.size := by
  obtain ⟨x, rs, hB, _⟩ := h
  exact hB.lt
theorem StoreAt.mono {sb eb cl : Nat} {s : M.Store} (h : StoreAt w sb eb n cl s) (hn : n ≤ n') : StoreAt w sb eb n' cl s := by
  obtain ⟨x, rs, hB, hS, r⟩ := h
  exact ⟨x, rs, hB, hS.mono hn, r⟩
theorem SysAt.lts (h : SysAt X w n y) : X.g < w.heap.size ∧ X.T < w.heap.size := by
  obtain ⟨cv, h1⟩ := h.srv
  obtain ⟨D, m, h2, _⟩ := h.tens
  exact ⟨(Array.getElem?_eq_some_iff.1 h1).1, h2.lt⟩
theorem SysAt.at (h : SysAt X w n y) {t : Nat} (ht : t < X.N) : StoreAt w (X.sb t) (X.eb t) n y.clock (M.storeAt y t) := by
  have hl : t < y.stores.length := by rw [h.len]; exact ht
  refine h.stores t _ ?_
  unfold M.storeAt
  rw [List.getD_eq_getElem?_getD, List.getElem?_eq_getElem hl]; rfl
/-- nothing of the system has turned -/
theorem SysAt.same (h : SysAt X w n y) (hn : n ≤ n') (hg : w'.heap[X.g]? = w.heap[X.g]?) (hT : w'.heap[X.T]? = w.heap[X.T]?) (hs : ∀ t, t < X.N → w'.heap[X.sb t]? = w.heap[X.sb t]? ∧ w'.heap[X.eb t]? = w.heap[X.eb t]?) : SysAt X w' n' y := by
  refine ⟨h.names, h.len, h.lenN, h.clock, fun t s hts => ?_, ?_, ?_⟩
  · have ht : t < X.N := by rw [← h.len]; exact (List.getElem?_eq_some_iff.1 hts).1
    exact ((h.stores t s hts).same (hs t ht).1 (hs t ht).2).mono hn
  · obtain ⟨cv, h1⟩ := h.srv
    exact ⟨cv, hg.trans h1⟩
  · obtain ⟨D, m, h2, h3⟩ := h.tens
    exact ⟨D, m, own_same h2 hT, h3⟩
theorem SysAt.below (h : SysAt X w n y) (hb : Below w.heap.size w w') : SysAt X w' n y :=
  h.same (Nat.le_refl _) (hb.block _ h.lts.1) (hb.block _ h.lts.2) (fun t ht => ⟨hb.block _ (h.at ht).lt.1, hb.block _ (h.at ht).lt.2⟩)
/-- one store has become another -/
theorem SysAt.store (h : SysAt X w n y) (hX : X.Ok) (hn : n ≤ n') {t : Nat} (ht : t < X.N) (hT : Turn (ofStore (X.sb t) (X.eb t)) w w') {s : M.Store} (hs : StoreAt w' (X.sb t) (X.eb t) n' y.clock s) : SysAt X w' n' (M.setAt y t s) := by
  have hne : ∀ k, X.ρ k = 2 ∨ X.ρ k = 3 → ¬ ofStore (X.sb t) (X.eb t) k := by
    intro k hk
    have h1 := hX.sb t ht
    have h2 := hX.eb t ht
    rintro (rfl | rfl) <;> omega
  refine ⟨h.names, by show (y.stores.set t s).length = X.N; rw [List.length_set, h.len], h.lenN, h.clock, fun u s' hu => ?_, ?_, ?_⟩
  · have hu' : u < X.N := by
      have := (List.getElem?_eq_some_iff.1 hu).1
      rw [show (M.setAt y t s).stores = y.stores.set t s from rfl, List.length_set, h.len] at this
      exact this
    rw [show (M.setAt y t s).stores = y.stores.set t s from rfl, List.getElem?_set] at hu
    by_cases e : t = u
    · subst e
      rw [if_pos rfl, if_pos (by rw [h.len]; exact ht)] at hu
      cases hu
      exact hs
    · rw [if_neg e] at hu
      have h3 := h.stores u s' hu
      have h4 := hX.other ht hu' e
      exact (h3.same (hT.block _ h3.lt.1 (h4 _ (Or.inl rfl))) (hT.block _ h3.lt.2 (h4 _ (Or.inr rfl)))).mono hn
  · obtain ⟨cv, h1⟩ := h.srv
    exact ⟨cv, (hT.block _ h.lts.1 (hne _ (Or.inl hX.g))).trans h1⟩
  · obtain ⟨D, m, h2, h3⟩ := h.tens
    exact ⟨D, m, own_same h2 (hT.block _ h.lts.2 (hne _ (Or.inr hX.T))), h3⟩
theorem WantAt.same {wt : Int} {nv tv iv : Value} {q : M.Want} (h : WantAt X w wt nv tv iv q) (hk : ∀ k cur e, X.O k → e ≠ 5 → w.heap[k]? = some (.cells cur e (0, 0)) → w'.heap[k]? = w.heap[k]?) : WantAt X w' wt nv tv iv q := by
  cases q using M.Want.cases with
  | line => exact h
  | skip => exact h
  | quit => exact h
  | value ws =>
    obtain ⟨h1, base, h2, h3, h4⟩ := h
    refine ⟨h1, base, h2.same2 (fun p a b cur e hv he hc => hk _ cur e ?_ he hc), h3, h4⟩
    rcases hv with hv | hv
    · exact h3 p a b hv
    · exact h4 p a b hv
theorem KAt.below (h : KAt X w n y c rv) (hb : Below w.heap.size w w') : KAt X w' n y c rv := by
  obtain ⟨sv, wt, nv, tv, iv, av, hc⟩ := h.conn
  exact ⟨h.ok, h.sys.below hb, sv, wt, nv, tv, iv, av, hc.cb.below hb, hc.owner, hc.want.same (fun k cur e _ _ hcc => hb.block k (Array.getElem?_eq_some_iff.1 hcc).1), hc.nv, hc.tv, hc.iv⟩
theorem KAt.alloc (h : KAt X w n y c rv) (o : Obj) : KAt X (w.alloc o) n y c rv := h.below ((Below.refl _ _).alloc (Nat.le_refl _) o)
theorem below_drew (w : World) : Below w.heap.size w w.drew := ⟨rfl, rfl, rfl, Nat.le_refl _, fun _ _ => rfl⟩
theorem KAt.drew (h : KAt X w n y c rv) : KAt X w.drew n y c rv := h.below (below_drew w)
theorem KAt.drewN (h : KAt X w n y c rv) (q : Nat) : KAt X (w.drewN q) n y c rv := h.below (below_drewN (Below.refl _ _) q)
theorem KAt.store (h : KAt X w n y c rv) (hn : n ≤ n') {t : Nat} (ht : t < X.N) (hT : Turn (ofStore (X.sb t) (X.eb t)) w w') {s : M.Store} (hs : StoreAt w' (X.sb t) (X.eb t) n' y.clock s) : KAt X w' n' (M.setAt y t s) c rv := by
  obtain ⟨sv, wt, nv, tv, iv, av, hc⟩ := h.conn
  exact ⟨h.ok, h.sys.store h.ok hn ht hT hs, sv, wt, nv, tv, iv, av, hc.cb.turn hT (fun k hk => h.ok.apartS ht hk), hc.owner,
    hc.want.same (fun k cur e ho _ hcc => hT.block k (Array.getElem?_eq_some_iff.1 hcc).1 (fun hk => (h.ok.apartS ht hk).2 ho)), hc.nv, hc.tv, hc.iv⟩
theorem KAt.more (h : KAt X w n y c rv) (hn : n ≤ n') : KAt X w n' y c rv :=
  ⟨h.ok, h.sys.same hn rfl rfl (fun _ _ => ⟨rfl, rfl⟩), h.conn⟩
theorem KAt.lt (h : KAt X w n y c rv) : X.cb < w.heap.size := by
  obtain ⟨sv, wt, nv, tv, iv, av, hc⟩ := h.conn
  exact hc.cb.lt
end
/-- the connection says a line -/
theorem say_k {X : Cx} {w : World} {n : Nat} {y : M.Sys} {c : M.Conn} {rv : Value} (h : KAt X w n y c rv) (g m : Nat) (xs : List ByteArray) (hm : xs.length = m) (hg : g < w.heap.size) (hcells : ∀ (j : Nat) x, xs[j]? = some x → w.cell? ⟨g, 0 + j, none⟩ = some (.string x)) (hlen : (sayOut c.out xs).length ≤ 140737488355328) (hm2 : m ≤ 1000) :
    Calls Tryz.prog 120 #[.pointer (some ⟨X.cb, 0, none⟩), .slice (some ⟨g, 0, none⟩) m m] w fun e w' => e = .returned (.tuple #[]) ∧ KAt X w' n y (M.say c (Lib.join (xs.map (·.data.toList)) [32])) rv ∧ TurnK X w w' := by
  obtain ⟨sv, wt, nv, tv, iv, av, hc⟩ := h.conn
  have h2 : CB w X.cb (fun k => X.O k ∧ (Yb w k ∨ w.heap.size ≤ k)) (.func (.func 51) #[.pointer (some ⟨X.g, 0, none⟩)] #[]) sv wt nv tv iv rv av c.out := by
    refine ⟨hc.cb.cells, ?_, fun ho => hc.cb.apart ho.1, fun k hk => ⟨hc.cb.new k hk, Or.inr hk⟩⟩
    rcases hc.cb.ans with ha | ⟨g', off, cap, cur, a1, a2, a3, r⟩
    · exact Or.inl ha
    · exact Or.inr ⟨g', off, cap, cur, a1, ⟨a2, Or.inl ⟨cur, a3⟩⟩, a3, r⟩
  refine (say_c w X.cb _ _ sv nv tv iv rv av wt c.out h2 g m xs hm hg hcells hlen hm2).mono ?_
  rintro e w' ⟨rfl, av', hC, hT⟩
  have hk : ∀ k, k < w.heap.size → k ≠ X.cb → ¬ (X.O k ∧ Yb w k) → w'.heap[k]? = w.heap[k]? := by
    intro k hkl h3 h4
    refine hT.block k hkl ?_
    rintro (e | ⟨ho, hy | hy⟩)
    · exact h3 e
    · exact h4 ⟨ho, hy⟩
    · omega
  have hne : ∀ k, X.ρ k ≠ 0 → k ≠ X.cb → k < w.heap.size → w'.heap[k]? = w.heap[k]? := fun k h3 h4 h5 => hk k h5 h4 (fun h6 => h3 h6.1)
  refine ⟨rfl, ⟨h.ok, ?_, sv, wt, nv, tv, iv, av', ⟨hC.cells, ?_, h.ok.apartC, fun k hk => (hC.new k hk).1⟩, hc.owner, ?_, hc.nv, hc.tv, hc.iv⟩, ?_⟩
  · refine h.sys.same (Nat.le_refl _) (hne _ ?_ ?_ h.sys.lts.1) (hne _ ?_ ?_ h.sys.lts.2) (fun t ht => ⟨hne _ ?_ ?_ (h.sys.at ht).lt.1, hne _ ?_ ?_ (h.sys.at ht).lt.2⟩)
    · rw [h.ok.g]; decide
    · intro e; have := h.ok.g; rw [e, h.ok.cb] at this; cases this
    · rw [h.ok.T]; decide
    · intro e; have := h.ok.T; rw [e, h.ok.cb] at this; cases this
    · rw [h.ok.sb t ht]; omega
    · intro e; have := h.ok.sb t ht; rw [e, h.ok.cb] at this; omega
    · rw [h.ok.eb t ht]; omega
    · intro e; have := h.ok.eb t ht; rw [e, h.ok.cb] at this; omega
  · rcases hC.ans with ha | ⟨g', off, cap, cur, a1, a2, r⟩
    · exact Or.inl ha
    · exact Or.inr ⟨g', off, cap, cur, a1, a2.1, r⟩
  · refine hc.want.same (fun k cur e ho he hcc => hk k (Array.getElem?_eq_some_iff.1 hcc).1 ?_ ?_)
    · intro e1; rw [e1] at ho; exact h.ok.apartC ho
    · rintro ⟨_, cur', hy⟩
      rw [hcc] at hy
      cases hy
      exact he rfl
  · refine hT.mono ?_
    rintro k hkl (e | ⟨ho, hy | hy⟩)
    · exact Or.inl e
    · exact Or.inr (Or.inl ⟨ho, hy⟩)
    · omega
/-- .. of one text -/
theorem say_1 {X : Cx} {w : World} {n : Nat} {y : M.Sys} {c : M.Conn} {rv : Value} (h : KAt X w n y c rv) (s : ByteArray) (hlen : c.out.length + s.size + 1 ≤ 140737488355328) (H : Nat) (hH : w.heap.size = H) :
    Calls Tryz.prog 120 #[.pointer (some ⟨X.cb, 0, none⟩), .slice (some ⟨H, 0, none⟩) 1 1] (w.alloc (.cells #[.string s] 9)) fun e w' => e = .returned (.tuple #[]) ∧ KAt X w' n y (M.say c s.data.toList) rv ∧ TurnK X w w' := by
  subst hH
  have e1 : Lib.join ([s].map (·.data.toList)) [32] = s.data.toList := by simp [Lib.join]
  have := say_k (h.alloc (.cells #[.string s] 9)) w.heap.size 1 [s] rfl (by simp) (fun j x hj => by
    match j, hj with
    | 0, hj => cases hj; exact heap_cell (alloc_here _ _) 0 rfl
    | j + 1, hj => cases hj) (by
      unfold sayOut
      rw [e1]
      simp only [List.length_append, List.length_cons, List.length_nil]
      have : s.data.toList.length = s.size := Array.length_toList
      omega) (by decide)
  rw [e1] at this
  exact this.mono fun e w' ⟨he, hk, hT⟩ => ⟨he, hk, (TurnK.below ((Below.refl _ _).alloc (Nat.le_refl _) _)).trans hT⟩
end Go.Proofs.YtdpnpcjbjjjceaaGreatDoor.S
namespace Go.Proofs.YtdpnpcjbjjjceaaGreatDoor.S
open Go.RowKit Go.Maps Go.MuLone Go.Proofs.YtdpnpcjbjjjceaaGreatDoor

theorem zeroTen2 (w : World) : (zeroValue 120).run Tryz.prog w = .ok (.agg #[.string ⟨#[]⟩, .pointer none]) w := by kernel_rfl
theorem who_none {names : List (M.Bytes × M.Bytes)} {nm tok : M.Bytes} (h : names.any (fun p => decide (p.1 = nm)) = false) : M.who names nm tok = none := by
  unfold M.who
  rw [List.findIdx?_eq_none_iff]
  intro p hp
  have := List.any_eq_false.1 h p hp
  simp only [decide_eq_true_eq] at this
  simp [this]
theorem who_some {names : List (M.Bytes × M.Bytes)} (hn : (names.map (·.1)).Nodup) {t : Nat} {p : M.Bytes × M.Bytes} (ht : names[t]? = some p) (tok : M.Bytes) : M.who names p.1 tok = if p.2 = tok then some t else none := by
  unfold M.who
  induction names generalizing t with
  | nil => cases ht
  | cons a r ih =>
    obtain ⟨h1, h2⟩ := List.nodup_cons.1 hn
    rw [List.findIdx?_cons]
    cases t with
    | zero =>
      have ha : a = p := by simpa using ht
      subst ha
      by_cases he : a.2 = tok
      · simp [he]
      · simp only [he, decide_false, Bool.and_false, Bool.false_eq_true, if_false]
        have : r.findIdx? (fun q => decide (q.1 = a.1) && decide (q.2 = tok)) = none := by
          rw [List.findIdx?_eq_none_iff]
          intro q hq
          have : q.1 ≠ a.1 := fun e => h1 (List.mem_map.2 ⟨q, hq, e⟩)
          simp [this]
        rw [this]; rfl
    | succ t =>
      have hp : p ∈ r := List.mem_of_getElem? ht
      have hne : a.1 ≠ p.1 := fun e => h1 (List.mem_map.2 ⟨p, hp, e.symm⟩)
      simp only [hne, decide_false, Bool.false_and, Bool.false_eq_true, if_false]
      rw [ih h2 ht]
      split <;> rfl
theorem any_get {names : List (M.Bytes × M.Bytes)} {nm : M.Bytes} (h : names.any (fun p => decide (p.1 = nm)) = true) : ∃ (t : Nat) (p : M.Bytes × M.Bytes), names[t]? = some p ∧ p.1 = nm := by
  obtain ⟨p, hp, he⟩ := List.any_eq_true.1 h
  obtain ⟨t, ht⟩ := List.getElem?_of_mem hp
  exact ⟨t, p, ht, by simpa using he⟩
theorem lookup_ten {P : Program} (w : World) {ops : Array Oper} {rest : List Oper} {o : Oper} {a : Act} {Q : Exit → Act → World → Prop}
    (hg : o.guard = none) (m x : Operand) (t : TypeId) (hop : o.op = Op.lookup t m x true)
    (k e : TypeId) (K : Keyed P k) (ht : P.underlying t = some (.map k e)) (hz : (zeroValue e).run P w = .ok (.agg #[.string ⟨#[]⟩, .pointer none]) w) (b n : Nat) (D : DataW Unit)
    (hm : a.eval m = .map (some b)) (hown : w.ownsMap P k tenE b n D) (key : Value) (kl : Lit) (hx : a.eval x = key) (hkey : keyOf P k key = some kl) (v : Value) (bv : Bool) (hbv : Maps.has D kl = bv) (hv : ∀ u ps, tenE u = some (D.atKey kl (.agg [.lit (.string []), .nil]), ps) → u = v)
    (hK : wpList P ops Q rest (a.put o.dst (.tuple #[v, .bool bv])) w) :
    wpList P ops Q (o :: rest) a w :=
  wpList_lookup_own_ok w hg m x t hop k e K ht tenE hz (.agg [.lit (.string []), .nil]) [] rfl b n D hm hown key kl hx hkey (fun u ps hu => by
    rw [hv u ps hu, hbv]; exact hK)
def ptrOf (X : Cx) : Option Nat → Value
  | none => .pointer none
  | some t => .pointer (some ⟨X.sb t, 0, none⟩)

set_option maxRecDepth 20000 in
theorem storeOf_c {X : Cx} {w : World} {n : Nat} {y : M.Sys} (h : SysAt X w n y) (nm tok : M.Bytes) (hnm : nm.length ≤ 1000000) :
    Calls Tryz.prog 51 #[.pointer (some ⟨X.g, 0, none⟩), str nm, str tok] w fun e w' => e = .returned (ptrOf X (M.who X.names nm tok)) ∧ Below w.heap.size w w' := by
  obtain ⟨cv, hsrv⟩ := h.srv
  obtain ⟨D, m, hD, hH⟩ := h.tens
  have hg := h.lts.1
  have c0 : w.cell? ⟨X.g, 0, none⟩ = some (.map (some X.T)) := heap_cell hsrv 0 rfl
  have hkey := keyLit nm hnm
  have HD := Hid.of hD
  cases hh : X.names.any (fun p => decide (p.1 = nm)) with
  | false =>
    have h1 : Maps.has D (.string nm) = false := by rw [hH.has, hh]
    rw [who_none hh]
    have hat := atKey_of_not_has h1
    have HV : Hid (∀ u ps, tenE u = some (D.atKey (.string nm) (.agg [.lit (.string []), .nil]), ps) → u = .agg #[.string ⟨#[]⟩, .pointer none]) := fun u ps hu => by rw [hat] at hu; exact tenE_zero hu
    clear hsrv hD hH hh hat h
    unfold ptrOf
    unfold str at hkey ⊢
    obtain ⟨nb, hnb⟩ : ∃ nb : ByteArray, nb = ⟨nm.toArray⟩ := ⟨_, rfl⟩
    obtain ⟨tb, htb⟩ : ∃ tb : ByteArray, tb = ⟨tok.toArray⟩ := ⟨_, rfl⟩
    rw [← hnb] at hkey
    rw [← hnb, ← htb]
    clear hnb htb
    go_enter Tryz.func51, Tryz.ntmps51
    go_wp2_with (at_lookup; refine lookup_ten _ rfl _ _ 82 rfl 9 120 keyed Tryz.underlying82 (zeroTen2 _) X.T m D rfl HD.out _ _ rfl hkey _ false h1 HV.out ?_)
    go_ret
    exact ⟨rfl, (Below.refl _ _).alloc (Nat.le_refl _) _⟩
  | true =>
    obtain ⟨t, p, ht, hp⟩ := any_get hh
    have h1 : Maps.has D (.string nm) = true := by rw [hH.has, hh]
    have hat := hH.at_ t p ht
    rw [hp] at hat
    have hwho := who_some hH.nodup ht tok
    rw [hp] at hwho
    rw [hwho]
    obtain ⟨kb, hkb⟩ : ∃ kb : ByteArray, kb = ⟨p.2.toArray⟩ := ⟨_, rfl⟩
    have HV : Hid (∀ u ps, tenE u = some (D.atKey (.string nm) (.agg [.lit (.string []), .nil]), ps) → u = .agg #[.string kb, .pointer (some ⟨X.sb t, 0, none⟩)]) := fun u ps hu => by rw [hat] at hu; rw [hkb]; exact tenE_inv hu
    obtain ⟨nb, hnb⟩ : ∃ nb : ByteArray, nb = ⟨nm.toArray⟩ := ⟨_, rfl⟩
    obtain ⟨tb, htb⟩ : ∃ tb : ByteArray, tb = ⟨tok.toArray⟩ := ⟨_, rfl⟩
    have heq : kb = tb ↔ p.2 = tok := by
      rw [hkb, htb]
      constructor
      · intro e
        have := congrArg (fun b : ByteArray => b.data.toList) e
        simpa using this
      · intro e; rw [e]
    unfold str at hkey ⊢
    rw [← hnb] at hkey
    rw [← hnb, ← htb]
    by_cases he : p.2 = tok
    · rw [if_pos he]
      have e9 : kb = tb := heq.2 he
      subst e9
      clear hsrv hD hH hh hat h hnb htb hkb heq he hwho ht hp
      unfold ptrOf
      go_enter Tryz.func51, Tryz.ntmps51
      go_wp2_with (at_lookup; refine lookup_ten _ rfl _ _ 82 rfl 9 120 keyed Tryz.underlying82 (zeroTen2 _) X.T m D rfl HD.out _ _ rfl hkey _ true h1 HV.out ?_)
      go_ret
      exact ⟨rfl, (Below.refl _ _).alloc (Nat.le_refl _) _⟩
    · rw [if_neg he]
      have e9 : (kb.toList == tb.toList) = false := by
        rw [beq_eq_false_iff_ne, ByteArray.toList_eq, ByteArray.toList_eq]
        intro e
        rw [hkb, htb] at e
        exact he (by simpa using e)
      clear hsrv hD hH hh hat h hnb htb hkb heq he hwho ht hp
      unfold ptrOf
      go_enter Tryz.func51, Tryz.ntmps51
      go_wp2_with (at_lookup; refine lookup_ten _ rfl _ _ 82 rfl 9 120 keyed Tryz.underlying82 (zeroTen2 _) X.T m D rfl HD.out _ _ rfl hkey _ true h1 HV.out ?_)
      go_ret
      exact ⟨rfl, (Below.refl _ _).alloc (Nat.le_refl _) _⟩
end Go.Proofs.YtdpnpcjbjjjceaaGreatDoor.S
namespace Go.Proofs.YtdpnpcjbjjjceaaGreatDoor.S
open Go.RowKit Go.Maps Go.MuLone Go.Proofs.YtdpnpcjbjjjceaaGreatDoor

/-- behind a call on a connection: what it and the system have become; n' bounds the counters -/
def KPost (X : Cx) (w : World) (n : Nat) (yc : M.Sys × M.Conn) (rv : Value) (w' : World) : Prop := KAt X w' n yc.1 yc.2 rv ∧ TurnK X w w'
theorem owner_set {X : Cx} {w : World} {n : Nat} {y : M.Sys} {c : M.Conn} {rv : Value} (h : KAt X w n y c rv) (t : Nat) (ht : t < X.N) :
    KPost X w n (y, { c with owner := some t }) rv (w.setCell ⟨X.cb, 1, none⟩ (.pointer (some ⟨X.sb t, 0, none⟩))) := by
  obtain ⟨sv, wt, nv, tv, iv, av, hc⟩ := h.conn
  have hne : ∀ k, k ≠ X.cb → (w.setCell ⟨X.cb, 1, none⟩ (.pointer (some ⟨X.sb t, 0, none⟩))).heap[k]? = w.heap[k]? := fun k hk => heap_set_other _ _ _ _ hk
  refine ⟨⟨h.ok, h.sys.same (Nat.le_refl _) (hne _ ?_) (hne _ ?_) (fun u hu => ⟨hne _ ?_, hne _ ?_⟩), _, wt, nv, tv, iv, av, hc.cb.set 1 _ rfl, Or.inr ⟨t, ht, rfl, rfl⟩, hc.want.same (fun k cur e ho _ _ => hne k (fun e1 => h.ok.apartC (e1 ▸ ho))), hc.nv, hc.tv, hc.iv⟩, (Turn.refl _ _).setCell (p := ⟨X.cb, 1, none⟩) (Or.inl (Or.inl rfl)) _⟩
  · intro e; have := h.ok.g; rw [e, h.ok.cb] at this; cases this
  · intro e; have := h.ok.T; rw [e, h.ok.cb] at this; cases this
  · intro e; have := h.ok.sb u hu; rw [e, h.ok.cb] at this; omega
  · intro e; have := h.ok.eb u hu; rw [e, h.ok.cb] at this; omega
theorem wants_set {X : Cx} {w : World} {n : Nat} {y : M.Sys} {c : M.Conn} {rv : Value} (h : KAt X w n y c rv) (q : M.Want) (wt' : Int) (hq : (q = .line ∧ wt' = 0) ∨ (q = .skip ∧ wt' = 2) ∨ (q = .quit ∧ wt' = 3)) :
    KPost X w n (y, { c with want := q }) rv (w.setCell ⟨X.cb, 2, none⟩ (.int .i64 wt')) := by
  obtain ⟨sv, wt, nv, tv, iv, av, hc⟩ := h.conn
  have hne : ∀ k, k ≠ X.cb → (w.setCell ⟨X.cb, 2, none⟩ (.int .i64 wt')).heap[k]? = w.heap[k]? := fun k hk => heap_set_other _ _ _ _ hk
  refine ⟨⟨h.ok, h.sys.same (Nat.le_refl _) (hne _ ?_) (hne _ ?_) (fun u hu => ⟨hne _ ?_, hne _ ?_⟩), sv, wt', nv, tv, iv, av, hc.cb.set 2 _ rfl, hc.owner, ?_, hc.nv, hc.tv, hc.iv⟩, (Turn.refl _ _).setCell (p := ⟨X.cb, 2, none⟩) (Or.inl (Or.inl rfl)) _⟩
  · intro e; have := h.ok.g; rw [e, h.ok.cb] at this; cases this
  · intro e; have := h.ok.T; rw [e, h.ok.cb] at this; cases this
  · intro e; have := h.ok.sb u hu; rw [e, h.ok.cb] at this; omega
  · intro e; have := h.ok.eb u hu; rw [e, h.ok.cb] at this; omega
  · rcases hq with ⟨rfl, rfl⟩ | ⟨rfl, rfl⟩ | ⟨rfl, rfl⟩ <;> rfl
theorem KPost.trans {X : Cx} {w w' w'' : World} {n n' : Nat} {y y' : M.Sys} {c c' : M.Conn} {rv : Value} (h : KPost X w n (y, c) rv w') (k : KPost X w' n' (y', c') rv w'') : KPost X w n' (y', c') rv w'' := ⟨k.1, h.2.trans k.2⟩
theorem conn_cells {X : Cx} {w : World} {n : Nat} {y : M.Sys} {c : M.Conn} {rv : Value} (h : KAt X w n y c rv) : ∃ sv wt nv tv iv av, ConnAt X w c rv sv wt nv tv iv av ∧ X.cb < w.heap.size := by
  obtain ⟨sv, wt, nv, tv, iv, av, hc⟩ := h.conn
  exact ⟨sv, wt, nv, tv, iv, av, hc, hc.cb.lt⟩

set_option maxRecDepth 20000 in
theorem auth_c {X : Cx} {w : World} {n : Nat} {y : M.Sys} {c : M.Conn} {rv : Value} (h : KAt X w n y c rv) (nm tok : M.Bytes) (hnm : nm.length ≤ 1000000) (ho : c.out.length ≤ 70368744177664) :
    Calls Tryz.prog 161 #[.pointer (some ⟨X.cb, 0, none⟩), str nm, str tok] w fun e w' => e = .returned (.tuple #[]) ∧
      KPost X w n (match M.who y.names nm tok with | some t => (y, M.say { c with owner := some t } [79, 75]) | none => (y, M.say c [68, 69, 78, 73, 69, 68])) rv w' := by
  obtain ⟨sv, wt, nv, tv, iv, av, hc, hcb⟩ := conn_cells h
  have c0 := hc.cb.c0
  have hS := storeOf_c h.sys nm tok hnm
  rw [h.sys.names]
  have HK := Hid.of h
  cases hw : M.who X.names nm tok with
  | none =>
    rw [hw] at hS
    unfold ptrOf at hS
    simp only
    clear hc h hw
    unfold str at hS ⊢
    obtain ⟨nb, hnb⟩ : ∃ nb : ByteArray, nb = ⟨nm.toArray⟩ := ⟨_, rfl⟩
    obtain ⟨tb, htb⟩ : ∃ tb : ByteArray, tb = ⟨tok.toArray⟩ := ⟨_, rfl⟩
    rw [← hnb, ← htb] at hS ⊢
    clear hnb htb
    go_enter Tryz.func161, Tryz.ntmps161
    go_wp2_with (first
      | (go_at_call 51; refine hS.mono ?_; rintro e w1 ⟨rfl, hb1⟩; have HK1 := Hid.of (HK.out.below hb1); have HB1 := Hid.of hb1; clear hb1)
      | (go_at_call 120; refine (say_1 HK1.out _ (by show _ + 6 + 1 ≤ _; omega) _ rfl).mono ?_; rintro e w2 ⟨rfl, hK2, hT2⟩))
    refine bodyPost_ret (results_none rfl _ _ _) rfl ⟨rfl, hK2, (TurnK.below HB1.out).trans hT2⟩
  | some t =>
    have ht : t < X.N := by
      unfold M.who at hw
      have := (List.findIdx?_eq_some_iff_getElem.1 hw).1
      rw [h.sys.lenN] at this; exact this
    rw [hw] at hS
    unfold ptrOf at hS
    simp only
    have HC := Hid.of hc
    clear hc h hw
    unfold str at hS ⊢
    obtain ⟨nb, hnb⟩ : ∃ nb : ByteArray, nb = ⟨nm.toArray⟩ := ⟨_, rfl⟩
    obtain ⟨tb, htb⟩ : ∃ tb : ByteArray, tb = ⟨tok.toArray⟩ := ⟨_, rfl⟩
    rw [← hnb, ← htb] at hS ⊢
    clear hnb htb
    go_enter Tryz.func161, Tryz.ntmps161
    go_wp2_with (first
      | (go_at_call 51; refine hS.mono ?_; rintro e w1 ⟨rfl, hb1⟩; have HK1 := Hid.of (HK.out.below hb1); have HB1 := Hid.of hb1; have hcb1 := (HC.out.cb.below hb1).lt; have c11 := (HC.out.cb.below hb1).c1; have f11 := (HC.out.cb.below hb1).fz 1; have HO := Hid.of (owner_set HK1.out t ht); clear hb1)
      | (go_at_call 120; refine (say_1 HO.out.1 _ (by show c.out.length + 2 + 1 ≤ _; omega) w1.heap.size (by simp)).mono ?_; rintro e w2 ⟨rfl, hK2, hT2⟩))
    go_end0
    exact ⟨rfl, hK2, ((TurnK.below HB1.out).trans HO.out.2).trans hT2⟩
end Go.Proofs.YtdpnpcjbjjjceaaGreatDoor.S
namespace Go.Proofs.YtdpnpcjbjjjceaaGreatDoor.S
open Go.RowKit Go.Maps Go.MuLone Go.Proofs.YtdpnpcjbjjjceaaGreatDoor

/-- .. of several texts -/
theorem say_n {X : Cx} {w : World} {n : Nat} {y : M.Sys} {c : M.Conn} {rv : Value} (h : KAt X w n y c rv) (xs : List ByteArray) (arr : Array Value) (ha : arr = (xs.map Value.string).toArray) (m : Nat) (hm : xs.length = m) (a : M.Bytes) (hj : Lib.join (xs.map (·.data.toList)) [32] = a) (hlen : c.out.length + a.length + 1 ≤ 140737488355328) (hm2 : m ≤ 1000) (H : Nat) (hH : w.heap.size = H) :
    Calls Tryz.prog 120 #[.pointer (some ⟨X.cb, 0, none⟩), .slice (some ⟨H, 0, none⟩) m m] (w.alloc (.cells arr 9)) fun e w' => e = .returned (.tuple #[]) ∧ KAt X w' n y (M.say c a) rv ∧ TurnK X w w' := by
  subst hH ha
  have := say_k (h.alloc (.cells (xs.map Value.string).toArray 9)) w.heap.size m xs hm (by simp) (fun j x hj => by
    refine heap_cell (alloc_here _ _) (0 + j) ?_
    rw [Nat.zero_add, List.getElem?_toArray, List.getElem?_map, hj]; rfl) (by
      unfold sayOut
      rw [hj]
      simp only [List.length_append, List.length_cons, List.length_nil]
      omega) hm2
  rw [hj] at this
  exact this.mono fun e w' ⟨he, hk, hT⟩ => ⟨he, hk, (TurnK.below ((Below.refl _ _).alloc (Nat.le_refl _) _)).trans hT⟩

theorem post_k {X : Cx} {w w' : World} {n : Nat} {y : M.Sys} {c : M.Conn} {rv : Value} (h : KAt X w n y c rv) {t : Nat} (ht : t < X.N) {r : M.Bytes × M.Store} {e : Ending} (hp : SPost w (X.sb t) (X.eb t) n (0, y.clock) r e w') :
    e = .returned (.string ⟨r.1.toArray⟩) ∧ KAt X w' (n + 1) (M.setAt y t r.2) c rv ∧ TurnK X w w' := by
  obtain ⟨he, x', rs', hB, hS, hE, hT⟩ := hp
  exact ⟨he, h.store (Nat.le_succ n) ht hT ⟨x', rs', hB, hS, hE.symm⟩, TurnK.store ht hT⟩
theorem keyLit' (k : M.Bytes) (hk : k.length ≤ 1000000) : keyOf Tryz.prog 9 (.string ⟨k.toArray⟩) = some (.string k) := keyLit k hk

/-- what Get gives -/
theorem get_k {X : Cx} {w : World} {n : Nat} {y : M.Sys} {c : M.Conn} {rv : Value} (h : KAt X w n y c rv) (hn : n ≤ 10000000000) {t : Nat} (ht : t < X.N) (k : M.Bytes) (hk : k.length ≤ 1000000) :
    Calls Tryz.prog 211 #[.pointer (some ⟨X.sb t, 0, none⟩), .string ⟨k.toArray⟩] w fun e w' =>
      (match M.find (M.storeAt y t).rows k with
      | none => e = .returned (.tuple #[entV zeroRow, .bool false])
      | some en => ∃ u, e = .returned (.tuple #[entV (en, u), .bool true]) ∧ en.key.length ≤ 20 ∧ en.value.length ≤ 100 ∧ en.flags ≤ 65535 ∧ en.mark ≤ n) ∧
      KAt X w' (n + 1) (M.setAt y t (M.getOne (M.storeAt y t) k).2) c rv ∧ TurnK X w w' := by
  obtain ⟨x, rs, hB, hS, hE⟩ := h.sys.at ht
  have hu := hS.uses
  have hg := hS.gets
  have hh := hS.hits
  have hrows : (M.storeAt y t).rows = rs.map (·.1) := by rw [hE]; rfl
  cases hf : findR rs k with
  | none =>
    have e1 : M.find (M.storeAt y t).rows k = none := by rw [hrows, find_fst, hf]; rfl
    refine (get_none w _ _ x rs hB (by omega) k _ (keyLit' k hk) hf).mono ?_
    rintro e w' ⟨rfl, hB', hT'⟩
    rw [e1]
    refine ⟨rfl, h.store (Nat.le_succ n) ht hT' ⟨_, rs, hB', hS.missed, ?_⟩, TurnK.store ht hT'⟩
    unfold M.getOne
    rw [e1, hE]; rfl
  | some p =>
    have e1 : M.find (M.storeAt y t).rows k = some p.1 := by rw [hrows, find_fst, hf]; rfl
    refine (get_some w _ _ x rs hB (by omega) (by omega) (by omega) (Nat.le_trans hS.len (by decide)) k _ (keyLit' k hk) p hf).mono ?_
    rintro e w' ⟨rfl, hB', hT'⟩
    rw [e1]
    obtain ⟨h1, h2, h3, h4, h5⟩ := hS.small p (find_mem hf).1
    have hS' := hS.used_ hf p.1.stop h5 1 1 (Nat.le_refl _) (by omega)
    refine ⟨⟨p.2, rfl, h1, h2, h3, h4⟩, h.store (Nat.le_succ n) ht hT' ⟨_, _, hB', hS', ?_⟩, TurnK.store ht hT'⟩
    unfold M.getOne
    rw [e1]
    simp only
    rw [hE]
    unfold toStore
    simp only [gone_fst, List.map_append, List.map_cons, List.map_nil]

set_option maxRecDepth 20000 in
theorem count_c {X : Cx} {w : World} {n : Nat} {y : M.Sys} {c : M.Conn} {rv : Value} (h : KAt X w n y c rv) (hG : Glob w) (nm : ByteArray) (m : Nat) (hm : m < 1000000000000000000) (hnm : nm.size ≤ 100) (ho : c.out.length ≤ 70368744177664) :
    Calls Tryz.prog 215 #[.pointer (some ⟨X.cb, 0, none⟩), .string nm, .int .i64 m] w fun e w' => e = .returned (.tuple #[]) ∧ KPost X w n (y, M.say c (nm.data.toList ++ [32] ++ M.dig m)) rv w' := by
  have HK := Hid.of h
  have hcb := h.lt
  have cI := itoa_c m w hm hG
  have hl9 := M.dig_le m
  have hnl : nm.data.toList.length = nm.size := Array.length_toList
  have HJ : Hid (Lib.join ([nm, ⟨(M.dig m).toArray⟩].map (·.data.toList)) [32] = nm.data.toList ++ [32] ++ M.dig m) := by
    show _ = _
    simp [Lib.join]
  have HL : Hid (c.out.length + (nm.data.toList ++ [32] ++ M.dig m).length + 1 ≤ 140737488355328) := by
    show _ ≤ _
    simp only [List.length_append, List.length_cons, List.length_nil]
    omega
  obtain ⟨a, ha⟩ : ∃ a, a = nm.data.toList ++ [32] ++ M.dig m := ⟨_, rfl⟩
  obtain ⟨D, hD⟩ : ∃ D : ByteArray, D = ⟨(M.dig m).toArray⟩ := ⟨_, rfl⟩
  rw [← ha] at HJ HL ⊢
  rw [← hD] at cI HJ
  clear h hG ha hD hl9 hnl
  go_enter Tryz.func215, Tryz.ntmps215
  go_wp2_with (first
    | (go_at_call 188; refine cI.mono ?_; rintro e w1 ⟨rfl, hb1⟩; have HK1 := Hid.of (HK.out.below hb1); have HB1 := Hid.of hb1; clear hb1)
    | (go_at_call 120; refine (say_n HK1.out [nm, D] _ rfl 2 rfl a HJ.out HL.out (by decide) _ rfl).mono ?_; rintro e w2 ⟨rfl, hK2, hT2⟩))
  go_end0
  exact ⟨rfl, hK2, (TurnK.below HB1.out).trans hT2⟩
end Go.Proofs.YtdpnpcjbjjjceaaGreatDoor.S
namespace Go.Proofs.YtdpnpcjbjjjceaaGreatDoor.S
open Go.RowKit Go.Maps Go.MuLone Go.Proofs.YtdpnpcjbjjjceaaGreatDoor

theorem keep_k {X : Cx} (hX : X.Ok) {w w' : World} {g : Nat} {cur : Array Value} {t : TypeId} (ho : X.O g) (ht : t ≠ 5) (h : w.heap[g]? = some (.cells cur t (0, 0))) (hT : TurnK X w w') : w'.heap[g]? = some (.cells cur t (0, 0)) := by
  refine (hT.block g (Array.getElem?_eq_some_iff.1 h).1 ?_).trans h
  unfold Cx.O at ho
  rintro (e | ⟨_, cur', hc⟩ | ⟨u, hu, e | e⟩)
  · have := hX.cb; rw [← e] at this; omega
  · rw [h] at hc; cases hc; exact ht rfl
  · have := hX.sb u hu; rw [← e] at this; omega
  · have := hX.eb u hu; rw [← e] at this; omega
theorem KAt.new {X : Cx} {w : World} {n : Nat} {y : M.Sys} {c : M.Conn} {rv : Value} (h : KAt X w n y c rv) : X.O w.heap.size := by
  obtain ⟨sv, wt, nv, tv, iv, av, hc⟩ := h.conn
  exact hc.cb.new _ (Nat.le_refl _)
theorem say_len {c : M.Conn} {a : M.Bytes} {B : Nat} (h : c.out.length ≤ B) (ha : a.length ≤ 199) : (M.say c a).out.length ≤ B + 200 := by
  show (c.out ++ (a ++ [10])).length ≤ _
  simp only [List.length_append, List.length_cons, List.length_nil]
  omega
theorem word_dig (nm : ByteArray) (h : nm.size ≤ 100) (m : Nat) : (nm.data.toList ++ [32] ++ M.dig m).length ≤ 199 := by
  have h1 := M.dig_le m
  have h2 : nm.data.toList.length = nm.size := Array.length_toList
  simp only [List.length_append, List.length_cons, List.length_nil]
  omega
end Go.Proofs.YtdpnpcjbjjjceaaGreatDoor.S
namespace Go.Proofs.YtdpnpcjbjjjceaaGreatDoor.S
open Go.RowKit Go.Maps Go.MuLone Go.Proofs.YtdpnpcjbjjjceaaGreatDoor

/-- so far: of the keys those from i on are to come -/
def GetL (X : Cx) (w0 : World) (n : Nat) (y : M.Sys) (c : M.Conn) (rv : Value) (t : Nat) (ks : List M.Bytes) (i : Nat) (w : World) : Prop :=
  ∃ (s : M.Store) (acc : M.Bytes), KAt X w (n + i) (M.setAt y t s) { c with out := c.out ++ acc } rv ∧ TurnK X w0 w ∧ acc.length ≤ 200 * i ∧
    M.getAll (M.storeAt y t) ks = (acc ++ (M.getAll s (ks.drop i)).1, (M.getAll s (ks.drop i)).2)
theorem setAt_at (y : M.Sys) (t : Nat) (s : M.Store) (h : t < y.stores.length) : M.storeAt (M.setAt y t s) t = s := by
  unfold M.storeAt M.setAt
  simp only
  rw [List.getD_eq_getElem?_getD, List.getElem?_set_self h]; rfl
theorem setAt_twice (y : M.Sys) (t : Nat) (s s' : M.Store) : M.setAt (M.setAt y t s) t s' = M.setAt y t s' := by
  unfold M.setAt
  simp only [List.set_set]
theorem setAt_self (y : M.Sys) (t : Nat) (h : t < y.stores.length) : M.setAt y t (M.storeAt y t) = y := by
  obtain ⟨a, b, d⟩ := y
  unfold M.setAt M.storeAt
  simp only [List.getD_eq_getElem?_getD, List.getElem?_eq_getElem h, Option.getD_some, List.set_getElem_self]
theorem getl_start {X : Cx} {w : World} {n : Nat} {y : M.Sys} {c : M.Conn} {rv : Value} (h : KAt X w n y c rv) {t : Nat} (ht : t < X.N) (ks : List M.Bytes) : GetL X w n y c rv t ks 0 w := by
  refine ⟨M.storeAt y t, [], ?_, TurnK.refl _ _, Nat.le_refl _, rfl⟩
  rw [setAt_self y t (by rw [h.sys.len]; exact ht), List.append_nil]
  exact h
theorem getl_none {s : M.Store} {ks : List M.Bytes} {i : Nat} {k : M.Bytes} (hk : ks[i]? = some k) (hf : M.find s.rows k = none) : M.getAll s (ks.drop i) = ((M.getAll (M.getOne s k).2 (ks.drop (i + 1))).1, (M.getAll (M.getOne s k).2 (ks.drop (i + 1))).2) := by
  obtain ⟨l1, e1⟩ := List.getElem?_eq_some_iff.1 hk
  rw [List.drop_eq_getElem_cons l1, e1]
  have : (M.getOne s k).1 = [] := by unfold M.getOne; rw [hf]
  rw [show M.getAll s (k :: ks.drop (i + 1)) = ((M.getOne s k).1 ++ (M.getAll (M.getOne s k).2 (ks.drop (i + 1))).1, (M.getAll (M.getOne s k).2 (ks.drop (i + 1))).2) from rfl, this, List.nil_append]
theorem getl_some {s : M.Store} {ks : List M.Bytes} {i : Nat} {k : M.Bytes} (hk : ks[i]? = some k) {en : M.Entry} (hf : M.find s.rows k = some en) : M.getAll s (ks.drop i) = (M.shown en ++ (M.getAll (M.getOne s k).2 (ks.drop (i + 1))).1, (M.getAll (M.getOne s k).2 (ks.drop (i + 1))).2) := by
  obtain ⟨l1, e1⟩ := List.getElem?_eq_some_iff.1 hk
  rw [List.drop_eq_getElem_cons l1, e1]
  have : (M.getOne s k).1 = M.shown en := by unfold M.getOne; rw [hf]
  rw [show M.getAll s (k :: ks.drop (i + 1)) = ((M.getOne s k).1 ++ (M.getAll (M.getOne s k).2 (ks.drop (i + 1))).1, (M.getAll (M.getOne s k).2 (ks.drop (i + 1))).2) from rfl, this]
theorem find_key {l : List M.Entry} {k : M.Bytes} {en : M.Entry} (h : M.find l k = some en) : en.key = k := by
  have := List.find?_some h
  simpa [M.has] using this
theorem store_ptr {X : Cx} {w : World} {n : Nat} {y : M.Sys} {c : M.Conn} {rv : Value} (h : KAt X w n y c rv) {t : Nat} (hown : c.owner = some t) : w.cell? ⟨X.cb, 1, none⟩ = some (.pointer (some ⟨X.sb t, 0, none⟩)) := by
  obtain ⟨sv, wt, nv, tv, iv, av, hc⟩ := h.conn
  rcases hc.owner with ⟨h1, _⟩ | ⟨u, _, h1, h2⟩
  · rw [hown] at h1; cases h1
  · rw [hown] at h1
    cases h1
    rw [← h2]; exact hc.cb.c1

/-- while an entry is shown -/
structure KG (X : Cx) (w0 : World) (n : Nat) (y : M.Sys) (c : M.Conn) (rv : Value) (B : Nat) (p : Row) (w : World) : Prop where
  kat : KAt X w n y c rv
  glob : Glob w
  eb : w.heap[B]? = some (.cells (entC p) 164 (0, 0))
  turn : TurnK X w0 w
def EB (B : Nat) (p : Row) (w : World) : Prop := w.heap[B]? = some (.cells (entC p) 164 (0, 0))
section
variable {X : Cx} {w0 w w' : World} {n : Nat} {y : M.Sys} {c : M.Conn} {rv : Value} {B : Nat} {p : Row}
theorem KG.below (h : KG X w0 n y c rv B p w) (hb : Below w.heap.size w w') : KG X w0 n y c rv B p w' :=
  ⟨h.kat.below hb, h.glob.below hb, (hb.block _ (Array.getElem?_eq_some_iff.1 h.eb).1).trans h.eb, h.turn.trans (TurnK.below hb)⟩
theorem KG.drew (h : KG X w0 n y c rv B p w) : KG X w0 n y c rv B p w.drew := h.below (below_drew w)
theorem EB.drew (h : EB B p w) : EB B p w.drew := h
theorem EB.alloc (h : EB B p w) (o : Obj) : EB B p (w.alloc o) := alloc_old h
theorem EB.s (h : EB B p w) : w.cell? ⟨B, 1, none⟩ = some (.string ⟨p.1.value.toArray⟩) ∧ w.cell? ⟨B, 2, none⟩ = some (.int .i64 p.1.flags) ∧ w.cell? ⟨B, 3, none⟩ = some (.int .i64 p.1.mark) ∧ EB B p w :=
  ⟨heap_cell h 1 rfl, heap_cell h 2 rfl, heap_cell h 3 rfl, h⟩
theorem KG.itoa (h : KG X w0 n y c rv B p w) (m : Nat) (hm : m < 1000000000000000000) : Calls Tryz.prog 188 #[.int .i64 m] w fun e w' => e = .returned (.string ⟨(M.dig m).toArray⟩) ∧ KG X w0 n y c rv B p w' :=
  (itoa_c m w hm h.glob).mono fun _ _ ⟨he, hb⟩ => ⟨he, h.below hb⟩
theorem KG.say (h : KG X w0 n y c rv B p w) (hB : X.O B) (xs : List ByteArray) (arr : Array Value) (ha : arr = (xs.map Value.string).toArray) (m : Nat) (hm : xs.length = m) (a : M.Bytes) (hj : Lib.join (xs.map (·.data.toList)) [32] = a) (hlen : c.out.length + a.length + 1 ≤ 140737488355328) (hm2 : m ≤ 1000) (H : Nat) (hH : w.heap.size = H) :
    Calls Tryz.prog 120 #[.pointer (some ⟨X.cb, 0, none⟩), .slice (some ⟨H, 0, none⟩) m m] (w.alloc (.cells arr 9)) fun e w' => e = .returned (.tuple #[]) ∧ KG X w0 n y (M.say c a) rv B p w' :=
  (say_n h.kat xs arr ha m hm a hj hlen hm2 H hH).mono fun _ _ ⟨he, hk, hT⟩ => ⟨he, hk, h.glob.turnK h.kat.ok hT, keep_k h.kat.ok hB (by decide) h.eb hT, h.turn.trans hT⟩
end
theorem shown_say (c : M.Conn) (acc : M.Bytes) (en : M.Entry) : M.say (M.say { c with out := c.out ++ acc } ([86, 65, 76, 85, 69] ++ [32] ++ en.key ++ [32] ++ M.dig en.flags ++ [32] ++ M.dig en.value.length ++ [32] ++ M.dig en.mark)) en.value = { c with out := c.out ++ (acc ++ M.shown en) } := by
  unfold M.say M.shown
  simp only [List.append_assoc, List.cons_append, List.nil_append]

set_option maxRecDepth 20000 in
set_option maxHeartbeats 4000000 in
theorem cget_c {X : Cx} {w : World} {n : Nat} {y : M.Sys} {c : M.Conn} {rv : Value} (h : KAt X w n y c rv) (hG : Glob w) {t : Nat} (ht : t < X.N) (hown : c.owner = some t) (ho : c.out.length ≤ 35184372088832) (g cap : Nat) (ks : List M.Bytes) (m : Nat) (hm : ks.length = m) (hm10 : m ≤ 10) (hn : n + 10 ≤ 10000000000)
    (hgO : X.O g) (hrow : ∃ cur, w.heap[g]? = some (.cells cur 9 (0, 0)) ∧ ∀ (j : Nat) k, ks[j]? = some k → cur[j]? = some (str k)) (hks : ∀ k ∈ ks, k.length ≤ 1000) :
    Calls Tryz.prog 190 #[.pointer (some ⟨X.cb, 0, none⟩), .slice (some ⟨g, 0, none⟩) m cap] w fun e w' => e = .returned (.tuple #[]) ∧ KPost X w (n + m) (M.setAt y t (M.getAll (M.storeAt y t) ks).2, M.say c (M.getAll (M.storeAt y t) ks).1) rv w' := by
  have HST := Hid.of (getl_start h ht ks)
  have HOK := Hid.of h.ok
  have HLEN : Hid (t < y.stores.length) := by show _ < _; rw [h.sys.len]; exact ht
  have HG := Hid.of hG
  have HOW := Hid.of hown
  have HROW := Hid.of hrow
  have HKS := Hid.of hks
  have HM := Hid.of hm
  have hcb := h.lt
  obtain ⟨cur0, hcur0, _⟩ := hrow
  have hg0 := (Array.getElem?_eq_some_iff.1 hcur0).1
  clear h hG hown hks hm hcur0
  go_enter Tryz.func190, Tryz.ntmps190
  go_wp2_with fail
  go_loopw [10] (fun i wr => ∃ j : Nat, j ≤ m ∧ i = .int .i64 j ∧ Hid (GetL X w n y c rv t ks j wr)) (fun i _ => m - (intOf i).toNat)
  case atStart => exact ⟨0, by omega, rfl, HST.out⟩
  case round =>
    obtain ⟨j, hj, rfl, hrel⟩ := hrel
    obtain ⟨s, acc, hK, hT, hacc, hall⟩ := hrel.out
    clear hrel
    have HK := Hid.of hK
    have HT := Hid.of hT
    have HALL := Hid.of hall
    have hcbr := hK.lt
    have c1 := store_ptr hK (t := t) HOW.out
    have HOWN : Hid (({ c with out := c.out ++ acc } : M.Conn).owner = some t) := HOW.out
    have hol : (c.out ++ acc).length ≤ 35184372088832 + 200 * j := by rw [List.length_append]; omega
    clear hK hT hall
    by_cases hlt : j < m
    · have klt : (j : Int) < m := by omega
      obtain ⟨k, hk⟩ : ∃ k, ks[j]? = some k := ⟨_, List.getElem?_eq_getElem (by rw [HM.out]; exact hlt)⟩
      obtain ⟨cur, hcur, hcells⟩ := HROW.out
      have hcurr := keep_k HOK.out hgO (by decide) hcur HT.out
      have hgr := (Array.getElem?_eq_some_iff.1 hcurr).1
      have cj : wr.cell? ⟨g, j, none⟩ = some (.string ⟨k.toArray⟩) := heap_cell hcurr j (hcells j k hk)
      have hkl := HKS.out k (List.mem_of_getElem? hk)
      have cG := get_k HK.out (by omega) ht k (by omega)
      rw [setAt_at y t s HLEN.out, setAt_twice] at cG
      have HKJ := Hid.of hk
      have HRR := Hid.of hcurr
      clear hcur hcells hk hcurr
      cases hf : M.find s.rows k with
      | none =>
        rw [hf] at cG
        simp only at cG
        have HFD := Hid.of hf
        clear hf
        obtain ⟨K, hKe⟩ : ∃ K : ByteArray, K = ⟨k.toArray⟩ := ⟨_, rfl⟩
        rw [← hKe] at cG cj
        clear hKe
        unfold entV zeroRow str int at cG
        go_wp2_with (go_at_call 211; refine cG.mono ?_; rintro e w1 ⟨rfl, hK1, hT1⟩)
        go_roundw
        case rel =>
          refine ⟨j + 1, by omega, by go_num, (M.getOne s k).2, acc, hK1.alloc _, (HT.out.trans hT1).trans (TurnK.below ((Below.refl _ _).alloc (Nat.le_refl _) _)), by omega, ?_⟩
          rw [HALL.out, getl_none HKJ.out HFD.out]
        case measure => simp [intOf] <;> omega
      | some en =>
        rw [hf] at cG
        simp only at cG
        have HFD := Hid.of hf
        have hke : en.key = k := find_key hf
        clear hf
        have HKE := Hid.of hke
        clear hke
        obtain ⟨K, hKe⟩ : ∃ K : ByteArray, K = ⟨k.toArray⟩ := ⟨_, rfl⟩
        obtain ⟨V, hVe⟩ : ∃ V : ByteArray, V = ⟨en.value.toArray⟩ := ⟨_, rfl⟩
        obtain ⟨KK, hKKe⟩ : ∃ KK : ByteArray, KK = ⟨en.key.toArray⟩ := ⟨_, rfl⟩
        have hVs : V.size = en.value.length := by rw [hVe]; rfl
        rw [← hKe] at cG cj
        have cG2 : Calls Tryz.prog 211 #[.pointer (some ⟨X.sb t, 0, none⟩), .string K] wr fun e w' => ∃ u : Nat, e = .returned (.tuple #[.agg #[.string KK, .string V, .int .i64 en.flags, .int .i64 en.mark, .int .i64 en.stop, .int .i64 u], .bool true]) ∧ Hid ((en.key.length ≤ 20 ∧ en.value.length ≤ 100 ∧ en.flags ≤ 65535 ∧ en.mark ≤ n + j) ∧ KAt X w' (n + j + 1) (M.setAt y t (M.getOne s k).2) { c with out := c.out ++ acc } rv ∧ TurnK X wr w') := by
          refine cG.mono ?_
          rintro e w' ⟨⟨u, he, hs⟩, hK1, hT1⟩
          exact ⟨u, by rw [he, hKKe, hVe]; rfl, hs, hK1, hT1⟩
        clear cG
        have HJ5 : Hid (Lib.join ([⟨#[86, 65, 76, 85, 69]⟩, K, ⟨(M.dig en.flags).toArray⟩, ⟨(M.dig en.value.length).toArray⟩, ⟨(M.dig en.mark).toArray⟩].map (·.data.toList)) [32] = [86, 65, 76, 85, 69] ++ [32] ++ en.key ++ [32] ++ M.dig en.flags ++ [32] ++ M.dig en.value.length ++ [32] ++ M.dig en.mark) := by
          show _ = _
          rw [hKe, HKE.out]
          simp [Lib.join]
        have HJ1 : Hid (Lib.join ([V].map (·.data.toList)) [32] = en.value) := by
          show _ = _
          rw [hVe]
          simp [Lib.join]
        have d1 := M.dig_le en.flags
        have d2 := M.dig_le en.value.length
        have d3 := M.dig_le en.mark
        have HL5 : Hid (en.key.length ≤ 20 → ({ c with out := c.out ++ acc } : M.Conn).out.length + ([86, 65, 76, 85, 69] ++ [32] ++ en.key ++ [32] ++ M.dig en.flags ++ [32] ++ M.dig en.value.length ++ [32] ++ M.dig en.mark).length + 1 ≤ 140737488355328) := by
          intro hk20
          show (c.out ++ acc).length + _ + 1 ≤ _
          simp only [List.length_append, List.length_cons, List.length_nil] at hol ⊢
          omega
        have HL1 : Hid (en.key.length ≤ 20 → en.value.length ≤ 100 → (M.say { c with out := c.out ++ acc } ([86, 65, 76, 85, 69] ++ [32] ++ en.key ++ [32] ++ M.dig en.flags ++ [32] ++ M.dig en.value.length ++ [32] ++ M.dig en.mark)).out.length + en.value.length + 1 ≤ 140737488355328) := by
          intro hk20 hv100
          show ((c.out ++ acc) ++ (_ ++ [10])).length + _ + 1 ≤ _
          simp only [List.length_append, List.length_cons, List.length_nil] at hol ⊢
          omega
        obtain ⟨a5, ha5⟩ : ∃ a5, a5 = [86, 65, 76, 85, 69] ++ [32] ++ en.key ++ [32] ++ M.dig en.flags ++ [32] ++ M.dig en.value.length ++ [32] ++ M.dig en.mark := ⟨_, rfl⟩
        obtain ⟨c5, hc5⟩ : ∃ c5 : M.Conn, c5 = { c with out := c.out ++ acc } := ⟨_, rfl⟩
        have HSH : Hid (M.say (M.say c5 a5) en.value = { c with out := c.out ++ (acc ++ M.shown en) }) := by
          show _ = _
          rw [hc5, ha5]; exact shown_say c acc en
        rw [← ha5] at HJ5 HL5 HL1
        rw [← hc5] at HL5 HL1 cG2
        rw [← hVs] at HJ5
        have HVE := Hid.of hVe
        have HKKE := Hid.of hKKe
        have HVS := Hid.of hVs
        clear hVe hKKe hKe ha5 hc5 d1 d2 d3 hVs
        go_wp2_with (go_at_call 211; refine cG2.mono ?_; rintro e w1 ⟨u, rfl, hP1⟩)
        obtain ⟨⟨q1, q2, q3, q4⟩, hK1, hT1⟩ := hP1.out
        have hKG : KG X w (n + j + 1) (M.setAt y t (M.getOne s k).2) c5 rv w1.heap.size (en, u) (w1.alloc (.cells #[.string KK, .string V, .int .i64 en.flags, .int .i64 en.mark, .int .i64 en.stop, .int .i64 u] 164)) := by
          refine ⟨hK1.alloc _, ((HG.out.turnK HOK.out HT.out).turnK HOK.out hT1).below ((Below.refl _ _).alloc (Nat.le_refl _) _), ?_, (HT.out.trans hT1).trans (TurnK.below ((Below.refl _ _).alloc (Nat.le_refl _) _))⟩
          rw [HKKE.out, HVE.out]; exact alloc_here _ _
        have HB : Hid (X.O w1.heap.size) := hK1.new
        have hEB : EB w1.heap.size (en, u) (w1.alloc (.cells #[.string KK, .string V, .int .i64 en.flags, .int .i64 en.mark, .int .i64 en.stop, .int .i64 u] 164)) := hKG.eb
        clear hP1 hK1 hT1 cG2
        generalize w1.alloc _ = w2 at hKG hEB ⊢
        generalize w1.heap.size = B at hKG hEB HB ⊢
        have hV100 : V.size ≤ 100 := by rw [HVS.out]; exact q2
        have HL5' := Hid.of (HL5.out q1)
        have HL1' := Hid.of (HL1.out q1 q2)
        go_wp2_with fail
        go_region_held3 (fun w' => w'.cell? ⟨B, 1, none⟩ = some (.string V) ∧ w'.cell? ⟨B, 2, none⟩ = some (.int .i64 en.flags) ∧ w'.cell? ⟨B, 3, none⟩ = some (.int .i64 en.mark) ∧ EB B (en, u) w')
          ((rw [HVE.out]; refine EB.s (p := (en, u)) ?_; repeat (first | assumption | exact KG.eb (by assumption) | refine EB.drew ?_ | refine EB.alloc ?_ _)))
          (first
            | (go_at_call 188; refine (KG.itoa (by first | assumption | exact KG.drew (by assumption)) _ (by omega)).mono ?_; rintro e w5 ⟨rfl, hKG5⟩)
            | (go_at_call 120; refine (KG.say (by assumption) HB.out [⟨#[86, 65, 76, 85, 69]⟩, K, ⟨(M.dig en.flags).toArray⟩, ⟨(M.dig V.size).toArray⟩, ⟨(M.dig en.mark).toArray⟩] _ rfl 5 rfl a5 HJ5.out HL5'.out (by decide) _ rfl).mono ?_; rintro e w6 ⟨rfl, hKG6⟩))
        rename_i hHeld; clear hHeld
        have e1 := (EB.s (p := (en, u)) hKG6.eb).1
        rw [show (ByteArray.mk (en, u).1.value.toArray) = V from HVE.out.symm] at e1
        have HKG6 := Hid.of hKG6
        clear hKG hKG6 hEB
        go_wp2_with (go_at_call 120; refine (KG.say HKG6.out HB.out [V] _ rfl 1 rfl en.value HJ1.out HL1'.out (by decide) _ rfl).mono ?_; rintro e w7 ⟨rfl, hKG7⟩)
        have hK7 := hKG7.kat
        rw [HSH.out] at hK7
        have hT7 := hKG7.turn
        have HK7 := Hid.of hK7
        have HT7 := Hid.of hT7
        have hsl := M.shown_len en q1 q2
        clear hK7 hT7 hKG7
        go_roundw
        case rel =>
          refine ⟨j + 1, by omega, by go_num, (M.getOne s k).2, acc ++ M.shown en, HK7.out, HT7.out, by rw [List.length_append]; omega, ?_⟩
          rw [HALL.out, getl_some HKJ.out HFD.out]
          simp only [List.append_assoc]
        case measure => simp [intOf] <;> omega
    · have klt : ¬ (j : Int) < m := by omega
      obtain rfl : j = m := by omega
      have HEND : Hid (M.getAll (M.storeAt y t) ks = (acc ++ [69, 78, 68], s)) := by
        show _ = _
        rw [HALL.out, List.drop_eq_nil_of_le (by rw [HM.out]; exact Nat.le_refl _)]; rfl
      go_wp2_with (go_at_call 120; refine (say_1 HK.out _ (by show (c.out ++ acc).length + 3 + 1 ≤ _; omega) _ rfl).mono ?_; rintro e w2 ⟨rfl, hK2, hT2⟩)
      go_end0
      refine ⟨rfl, ?_, HT.out.trans hT2⟩
      rw [HEND.out]
      have e9 : M.say { c with out := c.out ++ acc } [69, 78, 68] = M.say c (acc ++ [69, 78, 68]) := by unfold M.say; simp only [List.append_assoc]
      rw [← e9]
      exact hK2
end Go.Proofs.YtdpnpcjbjjjceaaGreatDoor.S
namespace Go.Proofs.YtdpnpcjbjjjceaaGreatDoor.S
open Go.RowKit Go.Maps Go.MuLone Go.Proofs.YtdpnpcjbjjjceaaGreatDoor

theorem life_st (l : M.Bytes) (tv : Value) (w : World) (g n c : Nat) (m : Int) (hc : w.cell? ⟨g, 1, none⟩ = some (.int .i64 m)) (hg : g < w.heap.size) (hn : 1 < n) (htv : ∃ q a b, tv = .slice q a b) (hl : l = [115, 101, 116] ∨ l = [97, 100, 100] ∨ l = [114, 101, 112, 108, 97, 99, 101] ∨ l = [99, 97, 115]) :
    Calls Tryz.prog 168 #[.agg #[str l, tv, .slice (some ⟨g, 0, none⟩) n c]] w fun e w' => e = .returned (.int .i64 m) ∧ Below w.heap.size w w' := by
  have hb : storesB l = true := by rcases hl with rfl | rfl | rfl | rfl <;> decide
  have cS := fun W => stores_c l tv (.slice (some ⟨g, 0, none⟩) n c) W htv ⟨_, _, _, rfl⟩ (by rcases hl with h | h | h | h <;> simp [h])
  rw [hb] at cS
  obtain ⟨q, a1, b1, rfl⟩ := htv
  have kn : (1 : Int) < n := by omega
  obtain ⟨L, hL⟩ : ∃ L : ByteArray, L = ⟨l.toArray⟩ := ⟨_, rfl⟩
  unfold str at cS ⊢
  rw [← hL] at cS ⊢
  clear hb hl hL
  go_enter Tryz.func168, Tryz.ntmps168
  go_wp2_with (go_at_call 162; refine (cS _).mono ?_; rintro e w1 ⟨rfl, hb1⟩; have hB : Below w.heap.size w w1 := ((Below.refl _ _).alloc (Nat.le_refl _) _).trans (hb1.mono (by simp)); have cc := (hB.cell (p := ⟨g, 1, none⟩) hg).trans hc; have hg1 := Nat.lt_of_lt_of_le hg hB.size; have k2 := (hb1.cell (p := ⟨w.heap.size, 2, none⟩) (by simp)).trans (cell_alloc_at rfl rfl); clear hb1)
  go_ret
  exact ⟨rfl, hB⟩
theorem life_touch (tv : Value) (w : World) (g n c : Nat) (m : Int) (hc : w.cell? ⟨g, 0, none⟩ = some (.int .i64 m)) (hg : g < w.heap.size) (hn : 0 < n) (htv : ∃ q a b, tv = .slice q a b) :
    Calls Tryz.prog 168 #[.agg #[str [116, 111, 117, 99, 104], tv, .slice (some ⟨g, 0, none⟩) n c]] w fun e w' => e = .returned (.int .i64 m) ∧ Below w.heap.size w w' := by
  have cS := fun W => stores_c [116, 111, 117, 99, 104] tv (.slice (some ⟨g, 0, none⟩) n c) W htv ⟨_, _, _, rfl⟩ (by simp)
  rw [show storesB [116, 111, 117, 99, 104] = false by decide] at cS
  obtain ⟨q, a1, b1, rfl⟩ := htv
  have kn : (0 : Int) < n := by omega
  unfold str at cS ⊢
  go_enter Tryz.func168, Tryz.ntmps168
  go_wp2_with (go_at_call 162; refine (cS _).mono ?_; rintro e w1 ⟨rfl, hb1⟩; have hB : Below w.heap.size w w1 := ((Below.refl _ _).alloc (Nat.le_refl _) _).trans (hb1.mono (by simp)); have cc := (hB.cell (p := ⟨g, 0, none⟩) hg).trans hc; have hg1 := Nat.lt_of_lt_of_le hg hB.size; have k2 := (hb1.cell (p := ⟨w.heap.size, 2, none⟩) (by simp)).trans (cell_alloc_at rfl rfl); clear hb1)
  go_ret
  exact ⟨rfl, hB⟩

theorem fits_split {least : Nat} {rules : List (Bool × Int)} {xs : List M.Bytes} (h : P.fitsL least rules xs = true) : least ≤ xs.length ∧ xs.length ≤ rules.length ∧ P.pFitsL rules xs = true := by
  unfold P.fitsL at h
  simp only [Bool.and_eq_true, decide_eq_true_eq] at h
  exact ⟨h.1.1, h.1.2, h.2⟩
theorem allows_text {m : Nat} {x : M.Bytes} (h : P.pAllows false m x = true) : x.length ≤ m := by
  unfold P.pAllows P.within at h
  simp only [Bool.false_eq_true, if_false, Bool.and_eq_true, decide_eq_true_eq] at h
  omega
theorem allows_le {m : Nat} {x : M.Bytes} (h : P.pAllows true m x = true) : M.num x ≤ m := by
  have h1 := P.allows_num h
  unfold P.pAllows at h
  rw [h1] at h
  simp only [if_true, decide_eq_true_eq] at h
  omega
theorem word_head {ws : List M.Bytes} {q : Nat × List (Bool × Int)} (h : pShape (M.word ws 0) = some q) : ∃ xs, ws = M.word ws 0 :: xs := by
  cases ws with
  | nil => exact absurd h (by simp only [M.word, List.getD_nil]; decide +revert)
  | cons a r => exact ⟨r, rfl⟩

/-- the words of a command that wants a value -/
structure StoreCmd (base : Nat) (W : World) (ws : List M.Bytes) (tv iv : Value) : Prop where
  tx : ∃ g c, tv = .slice (some ⟨g, 0, none⟩) 1 c ∧ base ≤ g ∧ g < W.heap.size ∧ W.cell? ⟨g, 0, none⟩ = some (str (M.word ws 1))
  nm : ∃ g c n, iv = .slice (some ⟨g, 0, none⟩) n c ∧ base ≤ g ∧ g < W.heap.size ∧ 3 ≤ n ∧ W.cell? ⟨g, 0, none⟩ = some (int (M.num (M.word ws 2))) ∧ W.cell? ⟨g, 1, none⟩ = some (int (M.num (M.word ws 3))) ∧ W.cell? ⟨g, 2, none⟩ = some (int (M.num (M.word ws 4))) ∧
    (M.word ws 0 = [99, 97, 115] → 4 ≤ n ∧ W.cell? ⟨g, 3, none⟩ = some (int (M.num (M.word ws 5))))
  key : (M.word ws 1).length ≤ 20
  flags : M.num (M.word ws 2) ≤ 65535
  life : M.num (M.word ws 3) ≤ 1000000
  size : M.num (M.word ws 4) ≤ 100
theorem four_of {α : Type} {xs : List α} (h : xs.length = 4) : ∃ a b c d, xs = [a, b, c, d] := by
  match xs, h with
  | [a, b, c, d], _ => exact ⟨a, b, c, d, rfl⟩
theorem five_of {α : Type} {xs : List α} (h : xs.length = 5) : ∃ a b c d e, xs = [a, b, c, d, e] := by
  match xs, h with
  | [a, b, c, d, e], _ => exact ⟨a, b, c, d, e, rfl⟩
theorem cmd_store {base : Nat} {W : World} {ws : List M.Bytes} {nv tv iv : Value} (h : CmdW base W ws (.agg #[nv, tv, iv])) (hw : M.wantsValue ws = true) : nv = str (M.word ws 0) ∧ StoreCmd base W ws tv iv ∧ (M.word ws 0 = [115, 101, 116] ∨ M.word ws 0 = [97, 100, 100] ∨ M.word ws 0 = [114, 101, 112, 108, 97, 99, 101] ∨ M.word ws 0 = [99, 97, 115]) := by
  obtain ⟨least, rules, h1, h2, _, tv', nv', hv, h5, h6⟩ := h
  have hv1 : nv = str (M.word ws 0) ∧ tv = tv' ∧ iv = nv' := by
    simp only [Value.agg.injEq, Array.mk.injEq, List.cons.injEq, and_true] at hv
    exact hv
  obtain ⟨rfl, rfl, rfl⟩ := hv1
  obtain ⟨xs, hxs⟩ := word_head h1
  have hname : M.word ws 0 = [115, 101, 116] ∨ M.word ws 0 = [97, 100, 100] ∨ M.word ws 0 = [114, 101, 112, 108, 97, 99, 101] ∨ M.word ws 0 = [99, 97, 115] := by
    unfold M.wantsValue at hw
    simp only [Bool.or_eq_true, decide_eq_true_eq] at hw
    rcases hw with ((hw | hw) | hw) | hw <;> simp [hw]
  refine ⟨rfl, ?_, hname⟩
  have hfour : ∀ (rules' : List (Bool × Int)), rules' = [(false, 20), (true, 65535), (true, 1000000), (true, 100)] → rules = rules' → least = 4 → M.word ws 0 ≠ [99, 97, 115] → StoreCmd base W ws tv iv := by
    rintro _ rfl rfl rfl hnc
    obtain ⟨f1, f2, f3⟩ := fits_split h2
    rw [hxs, List.tail_cons] at f1 f2 f3 h5 h6
    obtain ⟨a, b, c, d, rfl⟩ := four_of (show xs.length = 4 by simp only [List.length_cons, List.length_nil] at f2; omega)
    simp only [P.pFitsL, Bool.and_eq_true, and_true] at f3
    obtain ⟨p1, p2, p3, p4⟩ := f3
    have e1 : M.word ws 1 = a := by rw [hxs]; rfl
    have e2 : M.word ws 2 = b := by rw [hxs]; rfl
    have e3 : M.word ws 3 = c := by rw [hxs]; rfl
    have e4 : M.word ws 4 = d := by rw [hxs]; rfl
    have t1 : tL [(false, 20), (true, 65535), (true, 1000000), (true, 100)] [a, b, c, d] = [a] := rfl
    have n1 : nL [(false, 20), (true, 65535), (true, 1000000), (true, 100)] [a, b, c, d] = [M.num b, M.num c, M.num d] := rfl
    rw [t1] at h5
    rw [n1] at h6
    obtain ⟨g1, c1, v1, b1, l1, k1, _⟩ := row_cell h5 0 (str a) rfl
    obtain ⟨g2, c2, v2, b2, l2, k2, _⟩ := row_cell h6 0 (int (M.num b)) rfl
    obtain ⟨g3, c3, v3, _, _, k3, _⟩ := row_cell h6 1 (int (M.num c)) rfl
    obtain ⟨g4, c4, v4, _, _, k4, _⟩ := row_cell h6 2 (int (M.num d)) rfl
    rw [v2] at v3 v4
    simp only [Value.slice.injEq, Option.some.injEq, Addr.mk.injEq, and_true, true_and] at v3 v4
    obtain ⟨rfl, _⟩ := v3
    obtain ⟨rfl, _⟩ := v4
    refine ⟨⟨g1, c1, v1, b1, l1, by rw [e1]; exact k1⟩, ⟨g2, c2, 3, v2, b2, l2, Nat.le_refl _, by rw [e2]; exact k2, by rw [e3]; exact k3, by rw [e4]; exact k4, fun h => absurd h hnc⟩, ?_, ?_, ?_, ?_⟩
    · rw [e1]; exact allows_text (m := 20) p1
    · rw [e2]; exact allows_le (m := 65535) p2
    · rw [e3]; exact allows_le (m := 1000000) p3
    · rw [e4]; exact allows_le (m := 100) p4
  rcases hname with hn | hn | hn | hn
  · rw [hn] at h1
    have := (Option.some.inj (h1.symm.trans (show pShape [115, 101, 116] = some (4, [(false, 20), (true, 65535), (true, 1000000), (true, 100)]) by decide)))
    simp only [Prod.mk.injEq] at this
    exact hfour _ rfl this.2 this.1 (by rw [hn]; decide)
  · rw [hn] at h1
    have := (Option.some.inj (h1.symm.trans (show pShape [97, 100, 100] = some (4, [(false, 20), (true, 65535), (true, 1000000), (true, 100)]) by decide)))
    simp only [Prod.mk.injEq] at this
    exact hfour _ rfl this.2 this.1 (by rw [hn]; decide)
  · rw [hn] at h1
    have := (Option.some.inj (h1.symm.trans (show pShape [114, 101, 112, 108, 97, 99, 101] = some (4, [(false, 20), (true, 65535), (true, 1000000), (true, 100)]) by decide)))
    simp only [Prod.mk.injEq] at this
    exact hfour _ rfl this.2 this.1 (by rw [hn]; decide)
  · rw [hn] at h1
    have hp := (Option.some.inj (h1.symm.trans (show pShape [99, 97, 115] = some (5, [(false, 20), (true, 65535), (true, 1000000), (true, 100), (true, 999999999)]) by decide)))
    simp only [Prod.mk.injEq] at hp
    obtain ⟨rfl, rfl⟩ := hp
    obtain ⟨f1, f2, f3⟩ := fits_split h2
    rw [hxs, List.tail_cons] at f1 f2 f3 h5 h6
    obtain ⟨a, b, c, d, e, rfl⟩ := five_of (show xs.length = 5 by simp only [List.length_cons, List.length_nil] at f2; omega)
    simp only [P.pFitsL, Bool.and_eq_true, and_true] at f3
    obtain ⟨p1, p2, p3, p4, p5⟩ := f3
    have e1 : M.word ws 1 = a := by rw [hxs]; rfl
    have e2 : M.word ws 2 = b := by rw [hxs]; rfl
    have e3 : M.word ws 3 = c := by rw [hxs]; rfl
    have e4 : M.word ws 4 = d := by rw [hxs]; rfl
    have e5 : M.word ws 5 = e := by rw [hxs]; rfl
    have t1 : tL [(false, 20), (true, 65535), (true, 1000000), (true, 100), (true, 999999999)] [a, b, c, d, e] = [a] := rfl
    have n1 : nL [(false, 20), (true, 65535), (true, 1000000), (true, 100), (true, 999999999)] [a, b, c, d, e] = [M.num b, M.num c, M.num d, M.num e] := rfl
    rw [t1] at h5
    rw [n1] at h6
    obtain ⟨g1, c1, v1, b1, l1, k1, _⟩ := row_cell h5 0 (str a) rfl
    obtain ⟨g2, c2, v2, b2, l2, k2, _⟩ := row_cell h6 0 (int (M.num b)) rfl
    obtain ⟨g3, c3, v3, _, _, k3, _⟩ := row_cell h6 1 (int (M.num c)) rfl
    obtain ⟨g4, c4, v4, _, _, k4, _⟩ := row_cell h6 2 (int (M.num d)) rfl
    obtain ⟨g5, c5, v5, _, _, k5, _⟩ := row_cell h6 3 (int (M.num e)) rfl
    rw [v2] at v3 v4 v5
    simp only [Value.slice.injEq, Option.some.injEq, Addr.mk.injEq, and_true, true_and] at v3 v4 v5
    obtain ⟨rfl, _⟩ := v3
    obtain ⟨rfl, _⟩ := v4
    obtain ⟨rfl, _⟩ := v5
    refine ⟨⟨g1, c1, v1, b1, l1, by rw [e1]; exact k1⟩, ⟨g2, c2, 4, v2, b2, l2, by decide, by rw [e2]; exact k2, by rw [e3]; exact k3, by rw [e4]; exact k4, fun _ => ⟨Nat.le_refl _, by rw [e5]; exact k5⟩⟩, ?_, ?_, ?_, ?_⟩
    · rw [e1]; exact allows_text (m := 20) p1
    · rw [e2]; exact allows_le (m := 65535) p2
    · rw [e3]; exact allows_le (m := 1000000) p3
    · rw [e4]; exact allows_le (m := 100) p4
end Go.Proofs.YtdpnpcjbjjjceaaGreatDoor.S
namespace Go.Proofs.YtdpnpcjbjjjceaaGreatDoor.S
open Go.RowKit Go.Maps Go.MuLone Go.Proofs.YtdpnpcjbjjjceaaGreatDoor

/-- behind a call that makes new blocks alone -/
def Bw (w W w' : World) : Prop := Below w.heap.size w w' ∧ Below W.heap.size W w'
theorem bw_of {w W w' : World} (h : Below w.heap.size w W) (hb : Below W.heap.size W w') : Bw w W w' := ⟨h.trans (hb.mono h.size), hb⟩

/-- what a command that stores does, on the store itself -/
theorem stored_k {X : Cx} {w : World} {n : Nat} {y : M.Sys} {c : M.Conn} {rv : Value} (h : KAt X w n y c rv) (hn : n ≤ 10000000000) {t : Nat} (ht : t < X.N) (ws : List M.Bytes) (v : M.Bytes) (hv : v.length ≤ 100) (hk : (M.word ws 1).length ≤ 20) (hf : M.num (M.word ws 2) ≤ 65535) (hl : M.num (M.word ws 3) ≤ 1000000) :
    ∀ W, Below w.heap.size w W →
    (M.word ws 0 = [97, 100, 100] → Calls Tryz.prog 169 #[.pointer (some ⟨X.sb t, 0, none⟩), .agg #[str (M.word ws 1), str v, int (M.num (M.word ws 2))], int (M.num (M.word ws 3))] W fun e w' => e = .returned (.string ⟨(M.stored y.clock (M.storeAt y t) ws v).1.toArray⟩) ∧ KAt X w' (n + 1) (M.setAt y t (M.stored y.clock (M.storeAt y t) ws v).2) c rv ∧ TurnK X w w') ∧
    (M.word ws 0 = [114, 101, 112, 108, 97, 99, 101] → Calls Tryz.prog 170 #[.pointer (some ⟨X.sb t, 0, none⟩), .agg #[str (M.word ws 1), str v, int (M.num (M.word ws 2))], int (M.num (M.word ws 3))] W fun e w' => e = .returned (.string ⟨(M.stored y.clock (M.storeAt y t) ws v).1.toArray⟩) ∧ KAt X w' (n + 1) (M.setAt y t (M.stored y.clock (M.storeAt y t) ws v).2) c rv ∧ TurnK X w w') ∧
    (M.word ws 0 = [99, 97, 115] → Calls Tryz.prog 171 #[.pointer (some ⟨X.sb t, 0, none⟩), .agg #[str (M.word ws 1), str v, int (M.num (M.word ws 2))], int (M.num (M.word ws 3)), int (M.num (M.word ws 5))] W fun e w' => e = .returned (.string ⟨(M.stored y.clock (M.storeAt y t) ws v).1.toArray⟩) ∧ KAt X w' (n + 1) (M.setAt y t (M.stored y.clock (M.storeAt y t) ws v).2) c rv ∧ TurnK X w w') ∧
    (M.word ws 0 = [115, 101, 116] → Calls Tryz.prog 173 #[.pointer (some ⟨X.sb t, 0, none⟩), .agg #[str (M.word ws 1), str v, int (M.num (M.word ws 2))], int (M.num (M.word ws 3))] W fun e w' => e = .returned (.string ⟨(M.stored y.clock (M.storeAt y t) ws v).1.toArray⟩) ∧ KAt X w' (n + 1) (M.setAt y t (M.stored y.clock (M.storeAt y t) ws v).2) c rv ∧ TurnK X w w') := by
  intro W hW
  have hK := h.below hW
  have hT := TurnK.below (X := X) hW
  obtain ⟨x, rs, hB, hS, hE⟩ := hK.sys.at ht
  have hrows : (M.storeAt y t).rows = rs.map (·.1) := by rw [hE]; rfl
  have hF : Fits (M.entryOf y.clock ws v) := ⟨hk, hv, hf, ends_le _ _ hK.sys.clock hl⟩
  have fin : ∀ {r : M.Bytes × M.Store} {e : Ending} {w' : World}, M.stored y.clock (M.storeAt y t) ws v = r → SPost W (X.sb t) (X.eb t) n (0, y.clock) r e w' → e = .returned (.string ⟨(M.stored y.clock (M.storeAt y t) ws v).1.toArray⟩) ∧ KAt X w' (n + 1) (M.setAt y t (M.stored y.clock (M.storeAt y t) ws v).2) c rv ∧ TurnK X w w' := by
    intro r e w' hr hp
    rw [hr]
    obtain ⟨h1, h2, h3⟩ := post_k hK ht hp
    exact ⟨h1, h2, hT.trans h3⟩
  refine ⟨fun h0 => ?_, fun h0 => ?_, fun h0 => ?_, fun h0 => ?_⟩
  · cases hfr : findR rs (M.word ws 1) with
    | none =>
      refine (add_new W _ _ x rs hB n hS (by omega) (M.entryOf y.clock ws v) hF _ _ rfl rfl _ _ rfl hl hK.sys.clock rfl hfr).mono fun e w' hp => fin ?_ hp
      unfold M.stored
      rw [if_pos h0, hrows, find_fst, hfr, hE]; rfl
    | some p =>
      refine (add_there W _ _ x rs hB n hS (by omega) (M.entryOf y.clock ws v) hF _ _ rfl rfl _ _ rfl hl hK.sys.clock rfl p hfr).mono fun e w' hp => fin ?_ hp
      unfold M.stored
      rw [if_pos h0, hrows, find_fst, hfr, hE]; rfl
  · have hna : M.word ws 0 ≠ [97, 100, 100] := by rw [h0]; decide
    cases hfr : findR rs (M.word ws 1) with
    | none =>
      refine (replace_new W _ _ x rs hB n hS (by omega) (M.entryOf y.clock ws v) hF _ _ rfl rfl _ _ rfl hl hK.sys.clock rfl hfr).mono fun e w' hp => fin ?_ hp
      unfold M.stored
      rw [if_neg hna, if_pos h0, hrows, find_fst, hfr, hE]; rfl
    | some p =>
      refine (replace_there W _ _ x rs hB n hS (by omega) (M.entryOf y.clock ws v) hF _ _ rfl rfl _ _ rfl hl hK.sys.clock rfl p hfr).mono fun e w' hp => fin ?_ hp
      unfold M.stored
      rw [if_neg hna, if_pos h0, hrows, find_fst, hfr, hE]; rfl
  · have hna : M.word ws 0 ≠ [97, 100, 100] := by rw [h0]; decide
    have hnr : M.word ws 0 ≠ [114, 101, 112, 108, 97, 99, 101] := by rw [h0]; decide
    cases hfr : findR rs (M.word ws 1) with
    | none =>
      refine (cas_new W _ _ x rs hB n hS (by omega) (M.entryOf y.clock ws v) hF _ _ rfl rfl _ _ rfl hl hK.sys.clock rfl _ hfr).mono fun e w' hp => fin ?_ hp
      unfold M.stored
      rw [if_neg hna, if_neg hnr, if_pos h0, hrows, find_fst, hfr, hE]; rfl
    | some p =>
      by_cases hm : p.1.mark = M.num (M.word ws 5)
      · refine (cas_same W _ _ x rs hB n hS (by omega) (M.entryOf y.clock ws v) hF _ _ rfl rfl _ _ rfl hl hK.sys.clock rfl _ p hfr (by rw [hm])).mono fun e w' hp => fin ?_ hp
        unfold M.stored
        rw [if_neg hna, if_neg hnr, if_pos h0, hrows, find_fst, hfr, hE]
        show (if p.1.mark = _ then _ else _) = _
        rw [if_pos hm]
      · refine (cas_other W _ _ x rs hB n hS (by omega) (M.entryOf y.clock ws v) hF _ _ rfl rfl _ _ rfl hl hK.sys.clock rfl _ p hfr (by omega)).mono fun e w' hp => fin ?_ hp
        unfold M.stored
        rw [if_neg hna, if_neg hnr, if_pos h0, hrows, find_fst, hfr, hE]
        show (if p.1.mark = _ then _ else _) = _
        rw [if_neg hm]
  · have hna : M.word ws 0 ≠ [97, 100, 100] := by rw [h0]; decide
    have hnr : M.word ws 0 ≠ [114, 101, 112, 108, 97, 99, 101] := by rw [h0]; decide
    have hnc : M.word ws 0 ≠ [99, 97, 115] := by rw [h0]; decide
    refine (set_c W _ _ x rs hB n hS (by omega) (M.entryOf y.clock ws v) hF _ _ rfl rfl _ _ rfl hl hK.sys.clock rfl).mono fun e w' hp => fin ?_ hp
    unfold M.stored
    rw [if_neg hna, if_neg hnr, if_neg hnc, hE]
end Go.Proofs.YtdpnpcjbjjjceaaGreatDoor.S
