import Derived.Test.YtmjncadancppoaaGreatDoorBK7
import Derived.Test.YtmjncadancppoaaGreatDoorBIso
set_option linter.unusedSimpArgs false
set_option linter.unusedVariables false
namespace Go.Proofs.YtmjncadancppoaaGreatDoor.K
open Go.RowKit Go.Proofs.YtmjncadancppoaaGreatDoor

theorem ba_app (a b : ByteArray) : (a ++ b).data.toList = a.data.toList ++ b.data.toList := by
  rw [ByteArray.data_append, Array.toList_append]
def No97 (b : ByteArray) : Prop := (97 : UInt8) ∉ b.data.toList
theorem No97.app {a b : ByteArray} (ha : No97 a) (hb : No97 b) : No97 (a ++ b) := by
  unfold No97
  rw [ba_app]
  intro h
  rcases List.mem_append.1 h with h | h
  · exact ha h
  · exact hb h
theorem no97_ds (n : Nat) (hn : n < 10 ^ 19) : No97 (ds n) := by
  intro h
  have h' : (97 : UInt8) ∈ M.dig n := by simpa [ds] using h
  have := List.all_eq_true.1 (M.dig_all n hn) 97 h'
  revert this
  decide
theorem no97_one (n : Nat) (h1 : n ≠ 97) (h2 : n < 256) : No97 (oneB n) := by
  intro h
  have h' : (97 : UInt8) = UInt8.ofNat n := by simpa [oneB] using h
  have := congrArg UInt8.toNat h'
  have h3 : 97 = n % 256 := by simpa using this
  omega
theorem no97_key (v : Nat) : No97 (lKey v) := no97_one _ (by omega) (by omega)
theorem no97_val (v : Nat) : ∀ n, No97 (lVal v n)
  | 0 => by intro h; cases h
  | n + 1 => (no97_val v n).app (no97_one _ (by omega) (by omega))
theorem no97_c (l : List UInt8) (h : (97 : UInt8) ∉ l) : No97 ⟨l.toArray⟩ := by simpa [No97] using h
theorem no97_store (v : Nat) : No97 (lStore v) := by
  unfold lStore
  exact ((((((No97.app (no97_c [32] (by decide)) (no97_key v)).app (no97_c [32] (by decide))).app (no97_ds _ (by omega))).app (no97_c [32] (by decide))).app (no97_ds _ (by omega))).app (no97_c [32] (by decide))).app (no97_ds _ (by omega))
/-- a line of the laws: no 'au', no 'an', and a newline at its end -/
structure Tame (b : ByteArray) : Prop where
  au : M.NoAdj 97 117 b.data.toList
  an : M.NoAdj 97 110 b.data.toList
  ends : M.Ends b.data.toList
theorem tame_of (p : List UInt8) (q r : ByteArray) (hp : (97 : UInt8) ∉ p ∨ ((117 : UInt8) ∉ p ∧ (110 : UInt8) ∉ p ∧ p.getLast? ≠ some 97)) (hq : No97 q) (hr : r = ⟨p.toArray⟩ ++ q) (he : M.Ends r.data.toList) : Tame r := by
  have e : r.data.toList = p ++ q.data.toList := by rw [hr, ba_app]
  rcases hp with h | ⟨h1, h2, h3⟩
  · have : (97 : UInt8) ∉ r.data.toList := by
      rw [e]; intro hm
      rcases List.mem_append.1 hm with hm | hm
      · exact h hm
      · exact hq hm
    exact ⟨M.noAdj_of_notin this, M.noAdj_of_notin this, he⟩
  · refine ⟨?_, ?_, he⟩
    · rw [e]; exact M.noAdj_pre (M.noAdj_of_notin2 h1) h3 hq
    · rw [e]; exact M.noAdj_pre (M.noAdj_of_notin2 h2) h3 hq
theorem ends_nl (a : ByteArray) (l : List UInt8) (h : ∃ p, l = p ++ [10]) : M.Ends (a ++ ⟨l.toArray⟩).data.toList := by
  obtain ⟨p, hp⟩ := h
  right
  exact ⟨a.data.toList ++ p, by rw [ba_app, List.append_assoc]; show _ ++ l = _; rw [hp]⟩
theorem asc (a b c : ByteArray) : a ++ b ++ c = a ++ (b ++ c) := ByteArray.append_assoc
theorem line_tame (v : Nat) : Tame (lineS v) := by
  have hS := no97_store v
  have hV := no97_val v (v / 400 % 7)
  have hK := no97_key v
  have n10 : No97 ⟨#[10]⟩ := no97_c [10] (by decide)
  have n32 : No97 ⟨#[32]⟩ := no97_c [32] (by decide)
  have e10 : ∃ p : List UInt8, [10] = p ++ [10] := ⟨[], rfl⟩
  by_cases h0 : v % 20 < 5
  · rw [lineS_0 v h0]
    exact tame_of [115, 101, 116] (lStore v ++ (⟨#[10]⟩ ++ (lVal v (v / 400 % 7) ++ ⟨#[10]⟩))) _ (Or.inl (by decide)) (hS.app (n10.app (hV.app n10))) (by simp only [asc]) (ends_nl _ [10] e10)
  by_cases h5 : v % 20 = 5
  · rw [lineS_5 v h5]
    exact tame_of [97, 100, 100] (lStore v ++ (⟨#[10]⟩ ++ (lVal v (v / 400 % 7) ++ ⟨#[10]⟩))) _ (Or.inr (by decide)) (hS.app (n10.app (hV.app n10))) (by simp only [asc]) (ends_nl _ [10] e10)
  by_cases h6 : v % 20 = 6
  · rw [lineS_6 v h6]
    exact tame_of [114, 101, 112, 108, 97, 99, 101] (lStore v ++ (⟨#[10]⟩ ++ (lVal v (v / 400 % 7) ++ ⟨#[10]⟩))) _ (Or.inr (by decide)) (hS.app (n10.app (hV.app n10))) (by simp only [asc]) (ends_nl _ [10] e10)
  by_cases h7 : v % 20 = 7
  · rw [lineS_7 v h7]
    exact tame_of [99, 97, 115] (lStore v ++ (⟨#[32]⟩ ++ (ds (v / 2800 % 6) ++ (⟨#[10]⟩ ++ (lVal v (v / 400 % 7) ++ ⟨#[10]⟩))))) _ (Or.inr (by decide)) (hS.app (n32.app ((no97_ds _ (by omega)).app (n10.app (hV.app n10))))) (by simp only [asc]) (ends_nl _ [10] e10)
  by_cases h8 : v % 20 < 12
  · rw [lineS_8 v ⟨by omega, h8⟩]
    exact tame_of [103, 101, 116, 32] (lKey v ++ ⟨#[32, 107, 32, 108, 10]⟩) _ (Or.inl (by decide)) (hK.app (no97_c [32, 107, 32, 108, 10] (by decide))) (by simp only [asc]) (ends_nl _ [32, 107, 32, 108, 10] ⟨[32, 107, 32, 108], rfl⟩)
  by_cases h12 : v % 20 = 12
  · rw [lineS_12 v h12]
    exact tame_of [100, 101, 108, 101, 116, 101, 32] (lKey v ++ ⟨#[10]⟩) _ (Or.inl (by decide)) (hK.app n10) (by simp only [asc]) (ends_nl _ [10] e10)
  by_cases h13 : v % 20 < 15
  · rw [lineS_13 v ⟨by omega, h13⟩]
    exact tame_of [105, 110, 99, 114, 32] (lKey v ++ (⟨#[32]⟩ ++ (ds (v / 2800 % 200) ++ ⟨#[10]⟩))) _ (Or.inl (by decide)) (hK.app (n32.app ((no97_ds _ (by omega)).app n10))) (by simp only [asc]) (ends_nl _ [10] e10)
  by_cases h15 : v % 20 = 15
  · rw [lineS_15 v h15]
    exact tame_of [116, 111, 117, 99, 104, 32] (lKey v ++ (⟨#[32]⟩ ++ (ds (v / 100 % 4 * 3) ++ ⟨#[10]⟩))) _ (Or.inl (by decide)) (hK.app (n32.app ((no97_ds _ (by omega)).app n10))) (by simp only [asc]) (ends_nl _ [10] e10)
  by_cases h16 : v % 20 = 16
  · rw [lineS_16 v h16]
    exact tame_of [115, 116, 97, 116, 115, 10] ⟨#[]⟩ _ (Or.inr (by decide)) (no97_c [] (by decide)) rfl (Or.inr ⟨[115, 116, 97, 116, 115], rfl⟩)
  by_cases h17 : v % 20 = 17
  · rw [lineS_17 v h17]
    exact tame_of [110, 111, 116, 104, 105, 110, 103, 10] ⟨#[]⟩ _ (Or.inl (by decide)) (no97_c [] (by decide)) rfl (Or.inr ⟨[110, 111, 116, 104, 105, 110, 103], rfl⟩)
  by_cases h18 : v % 20 = 18
  · rw [lineS_18 v h18]
    exact tame_of [115, 101, 116] (lStore v ++ (⟨#[10]⟩ ++ (lVal v (v / 400 % 7) ++ ⟨#[120, 10]⟩))) _ (Or.inl (by decide)) (hS.app (n10.app (hV.app (no97_c [120, 10] (by decide))))) (by simp only [asc]) (ends_nl _ [120, 10] ⟨[120], rfl⟩)
  · rw [lineS_19 v (by omega)]
    exact tame_of [32, 10] ⟨#[]⟩ _ (Or.inl (by decide)) (no97_c [] (by decide)) rfl (Or.inr ⟨[32], rfl⟩)
theorem line_bys (v k : Nat) (hk : k < 4) : M.Bys k (lineS v).data.toList := ⟨fun _ => (line_tame v).au, fun _ => (line_tame v).an, fun _ => (line_tame v).ends, fun h => by omega⟩

/-- the law's beginning -/
def authL : Nat → M.Bytes
  | 0 => [97, 117, 116, 104, 32, 97, 110, 110, 32, 97, 49, 10]
  | 1 => [97, 117, 116, 104, 32, 98, 111, 98, 32, 98, 50, 10]
  | _ => [97, 117, 116, 104, 32, 99, 97, 116, 32, 99, 51, 10]
def a1 (v : Nat) : M.Server := M.fed (openM v 5) 0 M.fresh M.headIn
def a2 (v : Nat) : M.Server := M.fed (a1 v) 1 M.fresh (authL 0)
def a3 (v : Nat) : M.Server := M.fed (a2 v) 2 M.fresh (authL 1)
def a4 (v : Nat) : M.Server := M.fed (a3 v) 3 M.fresh (authL 2)
def sA (v : Nat) : Nat → M.Server
  | 0 => openM v 5
  | 1 => a1 v
  | 2 => a2 v
  | 3 => a3 v
  | _ => a4 v
def sB (v : Nat) : Nat → M.Server
  | 0 => openM v 5
  | 1 => a1 v
  | _ => a2 v
def sys1 (v : Nat) : M.Sys := { (openM v 5).sys with stores := ⟨20 + v % 200, [], 1, 1, 1, 1, 0, 0⟩ :: (openM v 5).sys.stores.tail }
def x0 : M.Conn := ⟨.line, some 0, [], M.headOut⟩
def xt (t : Nat) : M.Conn := ⟨.line, some t, [], M.okB3⟩
theorem a1_eq (v : Nat) : a1 v = ⟨sys1 v, [some x0, some M.fresh, some M.fresh, some M.fresh, some M.fresh, none, none, none]⟩ := by
  have h := M.head_run (openM v 5).sys (20 + v % 200) (openM v 5).sys.stores.tail rfl rfl (by omega) rfl
  unfold a1 M.fed
  rw [h]; rfl
theorem a2_eq (v : Nat) : a2 v = ⟨sys1 v, [some x0, some (xt 0), some M.fresh, some M.fresh, some M.fresh, none, none, none]⟩ := by
  unfold a2
  rw [a1_eq]
  unfold M.fed
  rw [M.auth_run (sys1 v) 0 (authL 0) [[97, 117, 116, 104], [97, 110, 110], [97, 49]] 11 rfl (by decide) rfl (by rfl) rfl rfl]; rfl
theorem a3_eq (v : Nat) : a3 v = ⟨sys1 v, [some x0, some (xt 0), some (xt 1), some M.fresh, some M.fresh, none, none, none]⟩ := by
  unfold a3
  rw [a2_eq]
  unfold M.fed
  rw [M.auth_run (sys1 v) 1 (authL 1) [[97, 117, 116, 104], [98, 111, 98], [98, 50]] 11 rfl (by decide) rfl (by rfl) rfl rfl]; rfl
theorem a4_eq (v : Nat) : a4 v = ⟨sys1 v, [some x0, some (xt 0), some (xt 1), some (xt 2), some M.fresh, none, none, none]⟩ := by
  unfold a4
  rw [a3_eq]
  unfold M.fed
  rw [M.auth_run (sys1 v) 2 (authL 2) [[97, 117, 116, 104], [99, 97, 116], [99, 51]] 11 rfl (by decide) rfl (by rfl) rfl rfl]; rfl
theorem ann_first (v : Nat) : M.AnnFirst (sys1 v).names := by
  intro n t h
  unfold M.who at h
  obtain ⟨h1, h2, _⟩ := List.findIdx?_eq_some_iff_getElem.1 h
  have e : (sys1 v).names[0] = ([97, 110, 110], [97, 49]) := rfl
  rw [e] at h2
  simp only [Bool.and_eq_true, decide_eq_true_eq] at h2
  exact h2.1.symm
theorem isl_start (v : Nat) : M.Isl (sA v 4) (sB v 4) := by
  show M.Isl (a4 v) (a2 v)
  rw [a4_eq, a2_eq]
  refine ⟨fun k hk => ?_, fun k hk => ?_, ⟨rfl, rfl, rfl, (fun h => by cases h), fun h => by cases h⟩, ann_first v, ?_⟩
  · rcases (show k = 0 ∨ k = 1 ∨ k = 2 ∨ k = 3 ∨ k = 4 by omega) with rfl | rfl | rfl | rfl | rfl
    · exact ⟨x0, rfl, (fun _ h => by cases h), fun _ => ⟨rfl, M.NoAdj.nil _ _⟩, (fun h => by omega), fun _ => Or.inl rfl, (fun h => by omega), ⟨[], rfl⟩⟩
    · exact ⟨xt 0, rfl, (fun _ h => by cases h), fun _ => ⟨rfl, M.NoAdj.nil _ _⟩, (fun h => by omega), fun _ => Or.inl rfl, (fun h => by omega), ⟨[], rfl⟩⟩
    · exact ⟨xt 1, rfl, (fun _ h => by cases h), (fun h => by omega), fun _ => ⟨(fun h => by cases h), M.NoAdj.nil _ _⟩, fun _ => Or.inl rfl, (fun h => by omega), ⟨M.okB3, rfl⟩⟩
    · exact ⟨xt 2, rfl, (fun _ h => by cases h), (fun h => by omega), fun _ => ⟨(fun h => by cases h), M.NoAdj.nil _ _⟩, fun _ => Or.inl rfl, (fun h => by omega), ⟨M.okB3, rfl⟩⟩
    · exact ⟨M.fresh, rfl, M.fresh_fit.1, (fun h => by omega), fun _ => ⟨(fun h => by cases h), M.NoAdj.nil _ _⟩, fun _ => Or.inl rfl, (fun _ h => by cases h), ⟨[], rfl⟩⟩
  · rcases (show k = 0 ∨ k = 1 by omega) with rfl | rfl <;> rfl
  · intro S hS e he
    have hS' : S ∈ [(⟨20 + v % 200, [], 1, 1, 1, 1, 0, 0⟩ : M.Store), M.emptyStore (20 + v / 200 % 200), M.emptyStore (1 + v / 40000 % 2000)] := hS
    simp only [List.mem_cons, List.not_mem_nil, or_false] at hS'
    rcases hS' with rfl | rfl | rfl <;> cases he
end Go.Proofs.YtmjncadancppoaaGreatDoor.K
