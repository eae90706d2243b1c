import Derived.KernelRfl
import Derived.Test.YtdpnpcjbjjjceaaGreatDoorBPlain
set_option linter.unusedSimpArgs false
set_option linter.unusedVariables false
namespace Go.Proofs.YtdpnpcjbjjjceaaGreatDoor.M
open Go.Proofs.YtdpnpcjbjjjceaaGreatDoor

def abc : Bytes := [97, 98, 99]
def movedL (l : List UInt8) (k : UInt8) (n : Nat) : List UInt8 := (k :: l.filter (fun b => decide (b ≠ k))).take n
/-- the store of Recent: R: the keys, used last at first -/
structure Lru (S : Store) (n r : Nat) (R : List UInt8) : Prop where
  quota : S.quota = 20 * n + r
  small : r < 20
  pos : 1 ≤ n
  keys : S.rows.map (·.key) = R.reverse.map (fun b => [b])
  costs : ∀ e ∈ S.rows, cost e = 20
  nodup : R.Nodup
  len : R.length ≤ n
theorem sing_nodup {R : List UInt8} (h : R.Nodup) : (R.reverse.map (fun b => [b])).Nodup := by
  unfold List.Nodup at h ⊢
  rw [List.pairwise_map, List.pairwise_reverse]
  exact h.imp (fun hab e => hab (by simpa using e.symm))
theorem gone_filter : ∀ (l : List Entry) (k : Bytes), (l.map (·.key)).Nodup → gone l k = l.filter (fun e => !has k e)
  | [], _, _ => rfl
  | e :: r, k, h => by
    simp only [List.map_cons, List.nodup_cons] at h
    unfold gone
    by_cases he : has k e = true
    · rw [List.eraseP_cons_of_pos he, List.filter_cons_of_neg (by simp [he])]
      symm
      rw [List.filter_eq_self]
      intro x hx
      have : x.key ≠ e.key := fun hxe => h.1 (by rw [← hxe]; exact List.mem_map_of_mem hx)
      simp only [has, decide_eq_true_eq] at he
      simp only [has, Bool.not_eq_true', decide_eq_false_iff_not]
      rw [← he]; exact this
    · rw [List.eraseP_cons_of_neg he, List.filter_cons_of_pos (by simp [he])]
      congr 1
      exact gone_filter r k h.2
theorem filter_keys (l : List Entry) (k : Bytes) : (l.filter (fun e => !has k e)).map (·.key) = (l.map (·.key)).filter (fun b => !decide (b = k)) := by
  rw [List.filter_map]; rfl
theorem filter_sing (l : List UInt8) (k : UInt8) : (l.map (fun b => [b])).filter (fun b => !decide (b = [k])) = (l.filter (fun b => decide (b ≠ k))).map (fun b => [b]) := by
  rw [List.filter_map]
  congr 1
  apply List.filter_congr
  intro x _
  simp
theorem Lru.goneKeys {S : Store} {n r : Nat} {R : List UInt8} (h : Lru S n r R) (k : UInt8) : (gone S.rows [k]).map (·.key) = ((R.filter (fun b => decide (b ≠ k))).reverse).map (fun b => [b]) := by
  rw [gone_filter _ _ (by rw [h.keys]; exact sing_nodup h.nodup), filter_keys, h.keys, filter_sing, List.filter_reverse]
theorem gone_sub (l : List Entry) (k : Bytes) : ∀ e ∈ gone l k, e ∈ l := fun _ he => List.mem_of_mem_eraseP he
theorem Lru.find {S : Store} {n r : Nat} {R : List UInt8} (h : Lru S n r R) (k : UInt8) : (k ∈ R → ∃ e, M.find S.rows [k] = some e ∧ e ∈ S.rows ∧ e.key = [k]) ∧ (k ∉ R → M.find S.rows [k] = none) := by
  constructor
  · intro hk
    have hm : ([k] : Bytes) ∈ S.rows.map (·.key) := by rw [h.keys]; exact List.mem_map_of_mem (List.mem_reverse.2 hk)
    obtain ⟨e, he, hek⟩ := List.mem_map.1 hm
    cases hf : M.find S.rows [k] with
    | none =>
      unfold M.find at hf
      rw [List.find?_eq_none] at hf
      exact absurd (by simp [has, hek]) (hf e he)
    | some x =>
      unfold M.find at hf
      exact ⟨x, rfl, List.mem_of_find?_eq_some hf, by have := List.find?_some hf; simpa [has] using this⟩
  · intro hk
    unfold M.find
    rw [List.find?_eq_none]
    intro e he hh
    have : e.key = [k] := by simpa [has] using hh
    have hm : ([k] : Bytes) ∈ S.rows.map (·.key) := by rw [← this]; exact List.mem_map_of_mem he
    rw [h.keys, List.mem_map] at hm
    obtain ⟨b, hb, hbk⟩ := hm
    simp at hbk
    subst hbk
    exact hk (List.mem_reverse.1 hb)
theorem moved_nodup {R : List UInt8} (h : R.Nodup) (k : UInt8) (n : Nat) : (movedL R k n).Nodup := by
  unfold movedL
  apply List.Nodup.sublist (List.take_sublist _ _)
  rw [List.nodup_cons]
  exact ⟨by simp, h.filter _⟩
theorem Lru.get_none {S : Store} {n r : Nat} {R : List UInt8} (h : Lru S n r R) (k : UInt8) (hk : k ∉ R) : (getAll S [[k]]).1 = [69, 78, 68] ∧ Lru (getAll S [[k]]).2 n r R := by
  have hf := (h.find k).2 hk
  simp only [getAll, getOne, hf]
  exact ⟨rfl, h.quota, h.small, h.pos, h.keys, h.costs, h.nodup, h.len⟩
theorem Lru.get_some {S : Store} {n r : Nat} {R : List UInt8} (h : Lru S n r R) (k : UInt8) (hk : k ∈ R) : 4 ≤ (getAll S [[k]]).1.length ∧ Lru (getAll S [[k]]).2 n r (movedL R k n) := by
  obtain ⟨e, hf, he, hek⟩ := (h.find k).1 hk
  simp only [getAll, getOne, hf]
  refine ⟨?_, h.quota, h.small, h.pos, ?_, ?_, moved_nodup h.nodup k n, ?_⟩
  · simp [shown]
  · have hlen : (k :: R.filter (fun b => decide (b ≠ k))).length ≤ n := by
      have h1 : (R.filter (fun b => decide (b ≠ k))).length < R.length := by
        rw [List.length_filter_lt_length_iff_exists]
        exact ⟨k, hk, by simp⟩
      have := h.len
      show (R.filter (fun b => decide (b ≠ k))).length + 1 ≤ n
      omega
    unfold movedL
    rw [List.take_of_length_le hlen]
    simp only [List.map_append, List.map_cons, List.map_nil, hek, h.goneKeys k, List.reverse_cons]
  · intro x hx
    rcases List.mem_append.1 hx with h1 | h1
    · exact h.costs x (gone_sub _ _ x h1)
    · simp at h1; subst h1; exact h.costs _ he
  · unfold movedL
    rw [List.length_take]; omega
theorem evict_drop (n r : Nat) (hn : 1 ≤ n) (hr : r < 20) : ∀ l : List Entry, (∀ e ∈ l, cost e = 20) → evict (20 * n + r) 20 l = l.drop (l.length - (n - 1))
  | [], _ => by simp [evict]
  | e :: t, h => by
    have ht : ∀ l : List Entry, (∀ e ∈ l, cost e = 20) → total l = 20 * l.length := by
      intro l
      induction l with
      | nil => intro _; rfl
      | cons x xs ih =>
        intro hx
        have := ih (fun e he => hx e (List.mem_cons_of_mem _ he))
        unfold total at this ⊢
        rw [List.map_cons, List.sum_cons, this, hx x List.mem_cons_self]
        simp; omega
    unfold evict
    rw [ht _ h]
    by_cases hc : 20 * (e :: t).length + 20 ≤ 20 * n + r
    · rw [if_pos hc, show (e :: t).length - (n - 1) = 0 by omega, List.drop_zero]
    · rw [if_neg hc, evict_drop n r hn hr t (fun x hx => h x (List.mem_cons_of_mem _ hx))]
      have e1 : (e :: t).length - (n - 1) = (t.length - (n - 1)) + 1 := by simp at hc ⊢; omega
      rw [e1, List.drop_succ_cons]
theorem Lru.set {S : Store} {n r : Nat} {R : List UInt8} (h : Lru S n r R) (k : UInt8) : (store S ⟨[k], abc, 0, 0, 0⟩).1 = [83, 84, 79, 82, 69, 68] ∧ Lru (store S ⟨[k], abc, 0, 0, 0⟩).2 n r (movedL R k n) := by
  have hc : cost ⟨[k], abc, 0, 0, 0⟩ = 20 := rfl
  have hq : ¬ S.quota < cost ⟨[k], abc, 0, 0, 0⟩ := by rw [hc, h.quota]; have := h.pos; omega
  unfold store
  rw [if_neg hq]
  have hev : evict S.quota (cost ⟨[k], abc, 0, 0, 0⟩) (gone S.rows [k]) = (gone S.rows [k]).drop ((gone S.rows [k]).length - (n - 1)) := by
    rw [hc, h.quota]
    exact evict_drop n r h.pos h.small _ (fun e he => h.costs e (gone_sub _ _ e he))
  refine ⟨rfl, h.quota, h.small, h.pos, ?_, ?_, moved_nodup h.nodup k n, ?_⟩
  · show (evict S.quota (cost ⟨[k], abc, 0, 0, 0⟩) (gone S.rows [k]) ++ [({ key := [k], value := abc, flags := 0, mark := S.mark + 1, stop := 0 } : Entry)]).map (fun e : Entry => e.key) = _
    rw [hev, List.map_append, List.map_drop, h.goneKeys k]
    have hl : (gone S.rows [k]).length = (R.filter (fun b => decide (b ≠ k))).length := by
      have := congrArg List.length (h.goneKeys k)
      simpa using this
    rw [hl]
    unfold movedL
    obtain ⟨m, hm⟩ : ∃ m, n = m + 1 := ⟨n - 1, by have := h.pos; omega⟩
    subst hm
    rw [List.take_succ_cons, List.reverse_cons, List.map_append, ← List.map_drop]
    congr 1
    rw [Nat.add_sub_cancel, List.reverse_take]
  · intro x hx
    have hx' : x ∈ evict S.quota (cost ⟨[k], abc, 0, 0, 0⟩) (gone S.rows [k]) ++ [{ key := [k], value := abc, flags := 0, mark := S.mark + 1, stop := 0 }] := hx
    rw [hev] at hx'
    rcases List.mem_append.1 hx' with h1 | h1
    · exact h.costs x (gone_sub _ _ x (List.mem_of_mem_drop h1))
    · simp at h1; subst h1; rfl
  · unfold movedL
    rw [List.length_take]; omega
end Go.Proofs.YtdpnpcjbjjjceaaGreatDoor.M
namespace Go.Proofs.YtdpnpcjbjjjceaaGreatDoor.M
open Go.Proofs.YtdpnpcjbjjjceaaGreatDoor

def kj (j : Nat) : UInt8 := UInt8.ofNat (97 + j)
def idle : Conn := ⟨.line, some 0, [], []⟩
theorem rec_get (names : List (Bytes × Bytes)) (S : Store) (j : Nat) (hj : j < 8) :
    feed ⟨names, [S], 0⟩ idle ([103, 101, 116, 32] ++ [kj j] ++ [10]) = (⟨names, [(getAll S [[kj j]]).2], 0⟩, ⟨.line, some 0, [], (getAll S [[kj j]]).1 ++ [10]⟩) := by
  have hs : step ⟨names, [S], 0⟩ ⟨.line, some 0, [103, 101, 116, 32] ++ [kj j] ++ [10], []⟩ = (true, ⟨names, [(getAll S [[kj j]]).2], 0⟩, ⟨.line, some 0, [], (getAll S [[kj j]]).1 ++ [10]⟩) := by
    rcases (show j = 0 ∨ j = 1 ∨ j = 2 ∨ j = 3 ∨ j = 4 ∨ j = 5 ∨ j = 6 ∨ j = 7 by omega) with rfl | rfl | rfl | rfl | rfl | rfl | rfl | rfl
    all_goals exact (step_line (i := 5) rfl (by rfl) (by decide)).trans (congrArg _ (doLine_other (ws := [[103, 101, 116], [kj _]]) (t := 0) (by rfl) rfl (by decide) (by decide) rfl))
  show run ⟨names, [S], 0⟩ ⟨.line, some 0, [103, 101, 116, 32] ++ [kj j] ++ [10], []⟩ = _
  rw [run_go hs]
  exact run_stop rfl
theorem rec_set (names : List (Bytes × Bytes)) (S : Store) (j : Nat) (hj : j < 8) :
    feed ⟨names, [S], 0⟩ idle ([115, 101, 116, 32] ++ [kj j] ++ [32, 48, 32, 48, 32, 51, 10, 97, 98, 99, 10]) = (⟨names, [(store S ⟨[kj j], abc, 0, 0, 0⟩).2], 0⟩, ⟨.line, some 0, [], (store S ⟨[kj j], abc, 0, 0, 0⟩).1 ++ [10]⟩) := by
  have h1 : step ⟨names, [S], 0⟩ ⟨.line, some 0, [115, 101, 116, 32] ++ [kj j] ++ [32, 48, 32, 48, 32, 51, 10, 97, 98, 99, 10], []⟩ = (true, ⟨names, [S], 0⟩, ⟨.value [[115, 101, 116], [kj j], [48], [48], [51]], some 0, [97, 98, 99, 10], []⟩) := by
    rcases (show j = 0 ∨ j = 1 ∨ j = 2 ∨ j = 3 ∨ j = 4 ∨ j = 5 ∨ j = 6 ∨ j = 7 by omega) with rfl | rfl | rfl | rfl | rfl | rfl | rfl | rfl
    all_goals exact (step_line (i := 11) rfl (by rfl) (by decide)).trans (congrArg _ (doLine_value (ws := [[115, 101, 116], [kj _], [48], [48], [51]]) (t := 0) (by rfl) rfl (by decide) (by decide) rfl))
  have h2 : step ⟨names, [S], 0⟩ ⟨.value [[115, 101, 116], [kj j], [48], [48], [51]], some 0, [97, 98, 99, 10], []⟩ = (true, ⟨names, [(store S ⟨[kj j], abc, 0, 0, 0⟩).2], 0⟩, ⟨.line, some 0, [], (store S ⟨[kj j], abc, 0, 0, 0⟩).1 ++ [10]⟩) :=
    step_value (n := 3) (ws := [[115, 101, 116], [kj j], [48], [48], [51]]) rfl (by rfl) (show 3 < 4 by decide) (by rfl)
  show run ⟨names, [S], 0⟩ ⟨.line, some 0, [115, 101, 116, 32] ++ [kj j] ++ [32, 48, 32, 48, 32, 51, 10, 97, 98, 99, 10], []⟩ = _
  rw [run_go h1, run_go h2]
  exact run_stop rfl
theorem rec_auth (q : Nat) : feed ⟨[([120], [121])], [emptyStore q], 0⟩ fresh [97, 117, 116, 104, 32, 120, 32, 121, 10] = (⟨[([120], [121])], [emptyStore q], 0⟩, ⟨.line, some 0, [], [79, 75, 10]⟩) := by
  have hs : step ⟨[([120], [121])], [emptyStore q], 0⟩ ⟨.line, none, [97, 117, 116, 104, 32, 120, 32, 121, 10], []⟩ = (true, ⟨[([120], [121])], [emptyStore q], 0⟩, ⟨.line, some 0, [], [79, 75, 10]⟩) :=
    (step_line (i := 8) rfl (by rfl) (by decide)).trans (congrArg _ (doLine_auth (ws := [[97, 117, 116, 104], [120], [121]]) (t := 0) (by rfl) rfl (by rfl)))
  show run ⟨[([120], [121])], [emptyStore q], 0⟩ ⟨.line, none, [97, 117, 116, 104, 32, 120, 32, 121, 10], []⟩ = _
  rw [run_go hs]
  exact run_stop rfl
end Go.Proofs.YtdpnpcjbjjjceaaGreatDoor.M
namespace Go.Proofs.YtdpnpcjbjjjceaaGreatDoor.M
open Go.Proofs.YtdpnpcjbjjjceaaGreatDoor

/-- no line of it begins with i or b; st: is a line's beginning here? -/
def calmF (st : Bool) : Bytes → Bool
  | [] => true
  | c :: r => (!st || (decide (c ≠ 105) && decide (c ≠ 98))) && calmF (decide (c = 10)) r
def endsF (st : Bool) : Bytes → Bool
  | [] => st
  | c :: r => endsF (decide (c = 10)) r
theorem ends_append : ∀ (a b : Bytes) (st : Bool), endsF st (a ++ b) = endsF (endsF st a) b
  | [], _, _ => rfl
  | _ :: r, b, _ => ends_append r b _
theorem calm_append : ∀ (a b : Bytes) (st : Bool), calmF st (a ++ b) = (calmF st a && calmF (endsF st a) b)
  | [], _, _ => by simp [calmF, endsF]
  | c :: r, b, st => by
    show ((!st || (decide (c ≠ 105) && decide (c ≠ 98))) && calmF (decide (c = 10)) (r ++ b)) = ((!st || (decide (c ≠ 105) && decide (c ≠ 98))) && calmF (decide (c = 10)) r && calmF (endsF (decide (c = 10)) r) b)
    rw [calm_append r b, Bool.and_assoc]
def Good (o : Bytes) : Prop := calmF true o = true ∧ endsF true o = true
theorem Good.append {a b : Bytes} (ha : Good a) (hb : Good b) : Good (a ++ b) := by
  refine ⟨?_, ?_⟩
  · rw [calm_append, ha.1, ha.2, hb.1]; rfl
  · rw [ends_append, ha.2, hb.2]
theorem good_nil : Good [] := ⟨rfl, rfl⟩
theorem calm_noNl : ∀ (w : Bytes), (∀ b ∈ w, b ≠ 10) → calmF false w = true ∧ endsF false w = false
  | [], _ => ⟨rfl, rfl⟩
  | c :: r, h => by
    have hc : decide (c = 10) = false := decide_eq_false (h c List.mem_cons_self)
    obtain ⟨h1, h2⟩ := calm_noNl r (fun b hb => h b (List.mem_cons_of_mem _ hb))
    refine ⟨?_, ?_⟩
    · show ((!false || _) && calmF (decide (c = 10)) r) = true
      rw [hc, h1]; rfl
    · show endsF (decide (c = 10)) r = false
      rw [hc, h2]
/-- a line that begins with another byte -/
theorem good_line (c : UInt8) (w : Bytes) (h1 : c ≠ 105) (h2 : c ≠ 98) (h3 : c ≠ 10) (hw : ∀ b ∈ w, b ≠ 10) : Good (c :: (w ++ [10])) := by
  obtain ⟨g1, g2⟩ := calm_noNl w hw
  have hc : decide (c = 10) = false := decide_eq_false h3
  refine ⟨?_, ?_⟩
  · show ((!true || (decide (c ≠ 105) && decide (c ≠ 98))) && calmF (decide (c = 10)) (w ++ [10])) = true
    rw [hc, calm_append, g1, g2, decide_eq_true h1, decide_eq_true h2]; rfl
  · show endsF (decide (c = 10)) (w ++ [10]) = true
    rw [hc, ends_append, g2]; rfl
theorem digF_bytes : ∀ (f n : Nat), ∀ b ∈ digF f n, 48 ≤ b.toNat ∧ b.toNat ≤ 57
  | 0, _, b, h => by cases h
  | f + 1, n, b, h => by
    unfold digF at h
    split at h
    · rename_i hn
      simp only [List.mem_singleton] at h
      rw [h, toNat48 n hn]
      omega
    · rcases List.mem_append.1 h with h | h
      · exact digF_bytes f (n / 10) b h
      · simp only [List.mem_singleton] at h
        rw [h, toNat48 (n % 10) (by omega)]
        omega
theorem dig_bytes (n : Nat) : ∀ b ∈ dig n, 48 ≤ b.toNat ∧ b.toNat ≤ 57 := digF_bytes 20 n
theorem ne_of_low {b c : UInt8} (h : c.toNat < b.toNat) : b ≠ c := fun e => by rw [e] at h; omega
theorem ne_of_high {b c : UInt8} (h : b.toNat < c.toNat) : b ≠ c := fun e => by rw [e] at h; omega
/-- bytes that a value of these laws has -/
def valW (v : Bytes) : Prop := ∀ b ∈ v, 48 ≤ b.toNat ∧ b.toNat ≤ 59
theorem good_value (v : Bytes) (h : valW v) : Good (v ++ [10]) := by
  cases v with
  | nil => exact ⟨rfl, rfl⟩
  | cons c r =>
    have hc := h c List.mem_cons_self
    exact good_line c r (ne_of_high (by show c.toNat < 105; omega)) (ne_of_high (by show c.toNat < 98; omega)) (ne_of_low (by show 10 < c.toNat; omega)) (fun b hb => ne_of_low (by have := h b (List.mem_cons_of_mem _ hb); show 10 < b.toNat; omega))
theorem dig_val (n : Nat) : valW (dig n) := fun b hb => by have := dig_bytes n b hb; omega
def keyW (k : Bytes) : Prop := 1 ≤ k.length ∧ ∀ b ∈ k, 33 ≤ b.toNat
structure EntOk (e : Entry) : Prop where
  key : keyW e.key
  value : valW e.value
theorem shown_good (e : Entry) (h : EntOk e) : Good (shown e) := by
  have e1 : shown e = (86 :: (([65, 76, 85, 69, 32] ++ e.key ++ [32] ++ dig e.flags ++ [32] ++ dig e.value.length ++ [32] ++ dig e.mark) ++ [10])) ++ (e.value ++ [10]) := by
    unfold shown
    simp
  rw [e1]
  refine Good.append (good_line 86 _ (by decide) (by decide) (by decide) ?_) (good_value _ h.value)
  have n1 : ∀ b ∈ ([65, 76, 85, 69, 32] : Bytes), b ≠ 10 := by decide
  have n2 : ∀ b ∈ e.key, b ≠ 10 := fun b hb => ne_of_low (by have := h.key.2 b hb; show 10 < b.toNat; omega)
  have n3 : ∀ b ∈ ([32] : Bytes), b ≠ 10 := by decide
  have nd : ∀ n, ∀ b ∈ dig n, b ≠ 10 := fun n b hb => ne_of_low (by have := dig_bytes n b hb; show 10 < b.toNat; omega)
  intro b hb
  simp only [List.mem_append] at hb
  rcases hb with ((((((hb | hb) | hb) | hb) | hb) | hb) | hb) | hb
  · exact n1 b hb
  · exact n2 b hb
  · exact n3 b hb
  · exact nd _ b hb
  · exact n3 b hb
  · exact nd _ b hb
  · exact n3 b hb
  · exact nd _ b hb

/-- how a store stands in Room -/
structure Inv (q : Nat) (S : Store) : Prop where
  quota : S.quota = q
  room : total S.rows ≤ q
  ents : ∀ e ∈ S.rows, EntOk e
  uniq : (S.rows.map (·.key)).Nodup
theorem total_append (a b : List Entry) : total (a ++ b) = total a + total b := by simp [total]
theorem gone_total : ∀ (l : List Entry) (k : Bytes), total (gone l k) ≤ total l
  | [], _ => Nat.le_refl _
  | e :: r, k => by
    unfold gone
    by_cases h : has k e = true
    · rw [List.eraseP_cons_of_pos h]
      simp [total]
    · rw [List.eraseP_cons_of_neg h]
      have := gone_total r k
      unfold gone at this
      simp [total] at this ⊢
      omega
theorem gone_find : ∀ (l : List Entry) (k : Bytes) (e : Entry), find l k = some e → total (gone l k) + cost e = total l
  | [], _, _, h => by cases h
  | x :: r, k, e, h => by
    unfold find at h
    unfold gone
    by_cases hx : has k x = true
    · rw [List.find?_cons_of_pos hx] at h
      cases h
      rw [List.eraseP_cons_of_pos hx]
      simp [total]; omega
    · rw [List.find?_cons_of_neg hx] at h
      rw [List.eraseP_cons_of_neg hx]
      have := gone_find r k e h
      unfold gone at this
      simp [total] at this ⊢
      omega
theorem gone_mem (l : List Entry) (k : Bytes) : ∀ e ∈ gone l k, e ∈ l := fun _ he => List.mem_of_mem_eraseP he
theorem find_mem {l : List Entry} {k : Bytes} {e : Entry} (h : find l k = some e) : e ∈ l := List.mem_of_find?_eq_some h
theorem evict_le (q need : Nat) (h : need ≤ q) : ∀ l, total (evict q need l) + need ≤ q
  | [] => by simpa [evict, total] using h
  | e :: r => by
    unfold evict
    split
    · assumption
    · exact evict_le q need h r
theorem evict_mem (q need : Nat) : ∀ l, ∀ e ∈ evict q need l, e ∈ l
  | [], _, h => h
  | x :: r, e, h => by
    unfold evict at h
    split at h
    · exact h
    · exact List.mem_cons_of_mem _ (evict_mem q need r e h)
theorem gone_uniq (l : List Entry) (k : Bytes) (h : (l.map (·.key)).Nodup) : ((gone l k).map (·.key)).Nodup ∧ ∀ e ∈ gone l k, e.key ≠ k := by
  refine ⟨h.sublist (List.Sublist.map _ List.eraseP_sublist), fun e he => ?_⟩
  rw [gone_filter l k h, List.mem_filter] at he
  have := he.2
  simp only [has, Bool.not_eq_true', decide_eq_false_iff_not] at this
  exact this
theorem snoc_uniq (l : List Entry) (e : Entry) (h : (l.map (·.key)).Nodup) (hk : ∀ x ∈ l, x.key ≠ e.key) : ((l ++ [e]).map (·.key)).Nodup := by
  rw [List.map_append]
  unfold List.Nodup at h ⊢
  rw [List.pairwise_append]
  refine ⟨h, by simp, ?_⟩
  intro a ha b hb
  obtain ⟨x, hx, rfl⟩ := List.mem_map.1 ha
  simp at hb
  subst hb
  exact hk x hx
theorem evict_sub (q need : Nat) : ∀ l, (evict q need l).Sublist l
  | [] => List.Sublist.refl _
  | x :: r => by
    unfold evict
    split
    · exact List.Sublist.refl _
    · exact (evict_sub q need r).cons x
theorem put_uniq (S : Store) (e : Entry) (h : (S.rows.map (·.key)).Nodup) : ((put S e).rows.map (·.key)).Nodup := by
  obtain ⟨h1, h2⟩ := gone_uniq S.rows e.key h
  exact snoc_uniq _ { e with mark := S.mark + 1 } (h1.sublist (List.Sublist.map _ (evict_sub _ _ _))) (fun x hx => h2 x (evict_mem _ _ _ x hx))
theorem Inv.put {q : Nat} {S : Store} (h : Inv q S) (e : Entry) (he : EntOk e) (hc : cost e ≤ q) : Inv q (put S e) := by
  refine ⟨h.quota, ?_, ?_, put_uniq S e h.uniq⟩
  · show total (evict S.quota (cost e) (gone S.rows e.key) ++ [{ e with mark := S.mark + 1 }]) ≤ q
    rw [total_append, h.quota]
    have := evict_le q (cost e) hc (gone S.rows e.key)
    have e1 : total [{ e with mark := S.mark + 1 }] = cost e := by simp [total, cost]
    omega
  · intro x hx
    rcases List.mem_append.1 (show x ∈ evict S.quota (cost e) (gone S.rows e.key) ++ [{ e with mark := S.mark + 1 }] from hx) with h1 | h1
    · exact h.ents x (gone_mem _ _ x (evict_mem _ _ _ x h1))
    · simp at h1; subst h1; exact ⟨he.key, he.value⟩
theorem Inv.store {q : Nat} {S : Store} (h : Inv q S) (e : Entry) (he : EntOk e) : Inv q (store S e).2 ∧ Good ((store S e).1 ++ [10]) := by
  unfold M.store
  split
  · exact ⟨h, rfl, rfl⟩
  · rename_i hq
    exact ⟨h.put e he (by rw [← h.quota]; omega), rfl, rfl⟩
theorem Inv.stored {q : Nat} {S : Store} (h : Inv q S) (ck : Nat) (ws : List Bytes) (v : Bytes) (hk : keyW (word ws 1)) (hv : valW v) : Inv q (stored ck S ws v).2 ∧ Good ((stored ck S ws v).1 ++ [10]) := by
  have hs := h.store (entryOf ck ws v) ⟨hk, hv⟩
  unfold M.stored
  repeat' split
  all_goals first | exact hs | exact ⟨h, rfl, rfl⟩
theorem Inv.getOne {q : Nat} {S : Store} (h : Inv q S) (k : Bytes) : Inv q (getOne S k).2 ∧ Good (getOne S k).1 := by
  unfold M.getOne
  split
  · rename_i e hf
    have hke : e.key = k := by have := List.find?_some hf; simpa [has] using this
    obtain ⟨g1, g2⟩ := gone_uniq S.rows k h.uniq
    refine ⟨⟨h.quota, ?_, ?_, snoc_uniq _ e g1 (fun x hx => by rw [hke]; exact g2 x hx)⟩, shown_good e (h.ents e (find_mem hf))⟩
    · show total (gone S.rows k ++ [e]) ≤ q
      rw [total_append]
      have := gone_find S.rows k e hf
      have e1 : total [e] = cost e := by simp [total]
      have := h.room
      omega
    · intro x hx
      rcases List.mem_append.1 (show x ∈ gone S.rows k ++ [e] from hx) with h1 | h1
      · exact h.ents x (gone_mem _ _ x h1)
      · simp at h1; subst h1; exact h.ents x (find_mem hf)
  · exact ⟨⟨h.quota, h.room, h.ents, h.uniq⟩, good_nil⟩
theorem Inv.getAll {q : Nat} : ∀ (ks : List Bytes) (S : Store), Inv q S → Inv q (getAll S ks).2 ∧ Good ((getAll S ks).1 ++ [10])
  | [], _, h => ⟨h, rfl, rfl⟩
  | k :: r, S, h => by
    obtain ⟨h1, h2⟩ := h.getOne k
    obtain ⟨h3, h4⟩ := Inv.getAll r _ h1
    refine ⟨h3, ?_⟩
    show Good (((M.getOne S k).1 ++ (M.getAll (M.getOne S k).2 r).1) ++ [10])
    rw [List.append_assoc]
    exact h2.append h4
theorem Inv.delete {q : Nat} {S : Store} (h : Inv q S) (k : Bytes) : Inv q (delete S k).2 ∧ Good ((delete S k).1 ++ [10]) := by
  unfold M.delete
  split
  · exact ⟨⟨h.quota, Nat.le_trans (gone_total _ _) h.room, fun e he => h.ents e (gone_mem _ _ e he), (gone_uniq S.rows k h.uniq).1⟩, rfl, rfl⟩
  · exact ⟨h, rfl, rfl⟩
theorem Inv.touch {q : Nat} {S : Store} (h : Inv q S) (ck : Nat) (k : Bytes) (life : Nat) : Inv q (touch ck S k life).2 ∧ Good ((touch ck S k life).1 ++ [10]) := by
  unfold M.touch
  split
  · rename_i e hf
    have hke : e.key = k := by have := List.find?_some hf; simpa [has] using this
    obtain ⟨g1, g2⟩ := gone_uniq S.rows k h.uniq
    refine ⟨⟨h.quota, ?_, ?_, snoc_uniq _ { e with stop := ends ck life } g1 (fun x hx => by show x.key ≠ e.key; rw [hke]; exact g2 x hx)⟩, rfl, rfl⟩
    · show total (gone S.rows k ++ [{ e with stop := ends ck life }]) ≤ q
      rw [total_append]
      have := gone_find S.rows k e hf
      have e1 : total [{ e with stop := ends ck life }] = cost e := by simp [total, cost]
      have := h.room
      omega
    · intro x hx
      rcases List.mem_append.1 (show x ∈ gone S.rows k ++ [{ e with stop := ends ck life }] from hx) with h1 | h1
      · exact h.ents x (gone_mem _ _ x h1)
      · simp at h1; subst h1; exact ⟨(h.ents e (find_mem hf)).key, (h.ents e (find_mem hf)).value⟩
  · exact ⟨h, rfl, rfl⟩
theorem Inv.incr {q : Nat} {S : Store} (h : Inv q S) (k : Bytes) (m : Nat) : Inv q (incr S k m).2 ∧ Good ((incr S k m).1 ++ [10]) := by
  unfold M.incr
  split
  · rename_i e hf
    split
    · split
      · exact ⟨h, rfl, rfl⟩
      · rename_i hq
        exact ⟨h.put _ ⟨(h.ents e (find_mem hf)).key, dig_val _⟩ (by rw [← h.quota]; omega), good_value _ (dig_val _)⟩
    · exact ⟨h, rfl, rfl⟩
  · exact ⟨h, rfl, rfl⟩
theorem total_ge {S : Store} (h : ∀ e ∈ S.rows, EntOk e) : 17 * S.rows.length ≤ total S.rows := by
  have : ∀ l : List Entry, (∀ e ∈ l, EntOk e) → 17 * l.length ≤ total l := by
    intro l
    induction l with
    | nil => intro _; exact Nat.le_refl _
    | cons e r ih =>
      intro hl
      have h1 := ih (fun x hx => hl x (List.mem_cons_of_mem _ hx))
      have h2 := (hl e List.mem_cons_self).key.1
      have e1 : total (e :: r) = cost e + total r := by simp [total]
      rw [e1]
      unfold cost
      simp; omega
  exact this _ h
end Go.Proofs.YtdpnpcjbjjjceaaGreatDoor.M
namespace Go.Proofs.YtdpnpcjbjjjceaaGreatDoor.M
open Go.Proofs.YtdpnpcjbjjjceaaGreatDoor

/-- a line of raw numbers: its key, flags, life, value, mark, number, and which -/
structure Raw where
  key : Bytes
  f : Nat
  lf : Nat
  value : Bytes
  m : Nat
  n : Nat
  r : Nat
structure RawOk (x : Raw) : Prop where
  key : cleanW x.key
  klen : x.key.length = 1
  f : x.f ≤ 65535
  lf : x.lf ≤ 1000000
  value : valW x.value
  vlen : x.value.length ≤ 100
  m : x.m ≤ 999999999
  n : x.n ≤ 999999999
def rawLine (x : Raw) : Bytes :=
  if x.r < 5 then joinW [[115, 101, 116], x.key, dig x.f, dig x.lf, dig x.value.length] ++ 10 :: (x.value ++ [10])
  else if x.r = 5 then joinW [[97, 100, 100], x.key, dig x.f, dig x.lf, dig x.value.length] ++ 10 :: (x.value ++ [10])
  else if x.r = 6 then joinW [[114, 101, 112, 108, 97, 99, 101], x.key, dig x.f, dig x.lf, dig x.value.length] ++ 10 :: (x.value ++ [10])
  else if x.r = 7 then joinW [[99, 97, 115], x.key, dig x.f, dig x.lf, dig x.value.length, dig x.m] ++ 10 :: (x.value ++ [10])
  else if x.r < 12 then joinW [[103, 101, 116], x.key, [107], [108]] ++ [10]
  else if x.r = 12 then joinW [[100, 101, 108, 101, 116, 101], x.key] ++ [10]
  else if x.r < 15 then joinW [[105, 110, 99, 114], x.key, dig x.n] ++ [10]
  else if x.r = 15 then joinW [[116, 111, 117, 99, 104], x.key, dig x.lf] ++ [10]
  else if x.r = 16 then joinW [[115, 116, 97, 116, 115]] ++ [10]
  else if x.r = 17 then [110, 111, 116, 104, 105, 110, 103] ++ [10]
  else if x.r = 18 then joinW [[115, 101, 116], x.key, dig x.f, dig x.lf, dig x.value.length] ++ 10 :: (x.value ++ [120, 10])
  else [32] ++ [10]
theorem clean_lit (w : Bytes) (h1 : w ≠ []) (h2 : w.all okB = true) : cleanW w := ⟨h1, h2⟩
theorem dlen (n : Nat) (h : n ≤ 999999999) : (dig n).length ≤ 9 := dig_len 9 n (by omega) (by omega) (by omega)
theorem RawOk.keyW {x : Raw} (h : RawOk x) : keyW x.key := by
  refine ⟨by rw [h.klen]; omega, fun b hb => ?_⟩
  have := (List.all_eq_true.1 h.key.2) b hb
  simp [okB] at this
  omega
section
variable (names : List (Bytes × Bytes)) (S : Store) (l : List Store) (ck : Nat) (out : Bytes) (q : Nat) (x : Raw)
theorem storer_piece (hI : Inv q S) (hx : RawOk x) (verb : Bytes) (hv : verb = [115, 101, 116] ∨ verb = [97, 100, 100] ∨ verb = [114, 101, 112, 108, 97, 99, 101]) :
    ∃ S' o, feed ⟨names, S :: l, ck⟩ (idleO out) (joinW [verb, x.key, dig x.f, dig x.lf, dig x.value.length] ++ 10 :: (x.value ++ [10])) = (⟨names, S' :: l, ck⟩, idleO (out ++ o)) ∧ Inv q S' ∧ Good o := by
  have hvl : verb.length ≤ 7 ∧ cleanW verb ∧ verb ≠ [97, 117, 116, 104] ∧ verb ≠ [113, 117, 105, 116] := by
    rcases hv with rfl | rfl | rfl
    all_goals exact ⟨by decide, clean_lit _ (by decide) (by decide), by decide, by decide⟩
  have d1 := dlen x.f (by have := hx.f; omega)
  have d2 := dlen x.lf (by have := hx.lf; omega)
  have d3 := dlen x.value.length (by have := hx.vlen; omega)
  have hp := piece_store names S l ck out [verb, x.key, dig x.f, dig x.lf, dig x.value.length] x.value (by simp)
    (by
      intro w hw
      simp only [List.mem_cons, List.mem_nil_iff, or_false] at hw
      rcases hw with rfl | rfl | rfl | rfl | rfl
      · exact hvl.2.1
      · exact hx.key
      · exact clean_dig _ (by have := hx.f; omega)
      · exact clean_dig _ (by have := hx.lf; omega)
      · exact clean_dig _ (by have := hx.vlen; omega))
    (good_store verb x.key x.f x.lf x.value.length hv (by rw [hx.klen]; omega) hx.f hx.lf hx.vlen)
    (by simp [joinW, hx.klen]; omega) hvl.2.2.1 hvl.2.2.2 (by rcases hv with rfl | rfl | rfl <;> rfl) (num_dig _ (by have := hx.vlen; omega))
  obtain ⟨h1, h2⟩ := hI.stored ck [verb, x.key, dig x.f, dig x.lf, dig x.value.length] x.value hx.keyW hx.value
  exact ⟨_, _, hp, h1, h2⟩
/-- WHAT A LINE OF RAW NUMBERS DOES -/
theorem line_piece (hI : Inv q S) (hx : RawOk x) : ∃ S' o, feed ⟨names, S :: l, ck⟩ (idleO out) (rawLine x) = (⟨names, S' :: l, ck⟩, idleO (out ++ o)) ∧ Inv q S' ∧ (Good o ∨ (o = stats S ++ [10] ∧ S' = S)) := by
  have d1 := dlen x.f (by have := hx.f; omega)
  have d2 := dlen x.lf (by have := hx.lf; omega)
  have d3 := dlen x.value.length (by have := hx.vlen; omega)
  have d4 := dlen x.m hx.m
  have d5 := dlen x.n hx.n
  have c1 := clean_dig x.f (by have := hx.f; omega)
  have c2 := clean_dig x.lf (by have := hx.lf; omega)
  have c3 := clean_dig x.value.length (by have := hx.vlen; omega)
  have c4 := clean_dig x.m (by have := hx.m; omega)
  have c5 := clean_dig x.n (by have := hx.n; omega)
  have kl := hx.klen
  unfold rawLine
  by_cases h0 : x.r < 5
  · rw [if_pos h0]
    obtain ⟨S', o, h1, h2, h3⟩ := storer_piece names S l ck out q x hI hx [115, 101, 116] (Or.inl rfl)
    exact ⟨S', o, h1, h2, Or.inl h3⟩
  rw [if_neg h0]
  by_cases h1 : x.r = 5
  · rw [if_pos h1]
    obtain ⟨S', o, h1, h2, h3⟩ := storer_piece names S l ck out q x hI hx [97, 100, 100] (Or.inr (Or.inl rfl))
    exact ⟨S', o, h1, h2, Or.inl h3⟩
  rw [if_neg h1]
  by_cases h2 : x.r = 6
  · rw [if_pos h2]
    obtain ⟨S', o, h1, h2, h3⟩ := storer_piece names S l ck out q x hI hx [114, 101, 112, 108, 97, 99, 101] (Or.inr (Or.inr rfl))
    exact ⟨S', o, h1, h2, Or.inl h3⟩
  rw [if_neg h2]
  by_cases h3 : x.r = 7
  · rw [if_pos h3]
    have hp := piece_store names S l ck out [[99, 97, 115], x.key, dig x.f, dig x.lf, dig x.value.length, dig x.m] x.value (by simp)
      (by
        intro w hw
        simp only [List.mem_cons, List.mem_nil_iff, or_false] at hw
        rcases hw with rfl | rfl | rfl | rfl | rfl | rfl
        · exact clean_lit _ (by decide) (by decide)
        · exact hx.key
        · exact c1
        · exact c2
        · exact c3
        · exact c4)
      (good_cas x.key x.f x.lf x.value.length x.m (by omega) hx.f hx.lf hx.vlen hx.m)
      (by simp [joinW, kl]; omega) (show ([99, 97, 115] : Bytes) ≠ [97, 117, 116, 104] by decide) (show ([99, 97, 115] : Bytes) ≠ [113, 117, 105, 116] by decide) rfl (num_dig _ (by have := hx.vlen; omega))
    obtain ⟨h1, h2⟩ := hI.stored ck [[99, 97, 115], x.key, dig x.f, dig x.lf, dig x.value.length, dig x.m] x.value hx.keyW hx.value
    exact ⟨_, _, hp, h1, Or.inl h2⟩
  rw [if_neg h3]
  by_cases h4 : x.r < 12
  · rw [if_pos h4]
    have hp := piece_other names S l ck out [[103, 101, 116], x.key, [107], [108]] (by simp)
      (by
        intro w hw
        simp only [List.mem_cons, List.mem_nil_iff, or_false] at hw
        rcases hw with rfl | rfl | rfl | rfl
        · exact clean_lit _ (by decide) (by decide)
        · exact hx.key
        · exact clean_lit _ (by decide) (by decide)
        · exact clean_lit _ (by decide) (by decide))
      (good_get [x.key, [107], [108]] (by simp) (by simp) (by
        intro k hk
        simp only [List.mem_cons, List.mem_nil_iff, or_false] at hk
        rcases hk with rfl | rfl | rfl
        · omega
        · decide
        · decide))
      (by simp [joinW, kl]) (show ([103, 101, 116] : Bytes) ≠ [97, 117, 116, 104] by decide) (show ([103, 101, 116] : Bytes) ≠ [113, 117, 105, 116] by decide) rfl
    obtain ⟨h1, h2⟩ := Inv.getAll [x.key, [107], [108]] S hI
    exact ⟨_, _, hp, h1, Or.inl h2⟩
  rw [if_neg h4]
  by_cases h5 : x.r = 12
  · rw [if_pos h5]
    have hp := piece_other names S l ck out [[100, 101, 108, 101, 116, 101], x.key] (by simp)
      (by
        intro w hw
        simp only [List.mem_cons, List.mem_nil_iff, or_false] at hw
        rcases hw with rfl | rfl
        · exact clean_lit _ (by decide) (by decide)
        · exact hx.key)
      (good_key x.key (by omega)) (by simp [joinW, kl]) (show ([100, 101, 108, 101, 116, 101] : Bytes) ≠ [97, 117, 116, 104] by decide) (show ([100, 101, 108, 101, 116, 101] : Bytes) ≠ [113, 117, 105, 116] by decide) rfl
    obtain ⟨h1, h2⟩ := hI.delete x.key
    exact ⟨_, _, hp, h1, Or.inl h2⟩
  rw [if_neg h5]
  by_cases h6 : x.r < 15
  · rw [if_pos h6]
    have hp := piece_other names S l ck out [[105, 110, 99, 114], x.key, dig x.n] (by simp)
      (by
        intro w hw
        simp only [List.mem_cons, List.mem_nil_iff, or_false] at hw
        rcases hw with rfl | rfl | rfl
        · exact clean_lit _ (by decide) (by decide)
        · exact hx.key
        · exact c5)
      (good_incr x.key x.n (by omega) hx.n) (by simp [joinW, kl]; omega) (show ([105, 110, 99, 114] : Bytes) ≠ [97, 117, 116, 104] by decide) (show ([105, 110, 99, 114] : Bytes) ≠ [113, 117, 105, 116] by decide) rfl
    obtain ⟨h1, h2⟩ := hI.incr x.key (num (dig x.n))
    exact ⟨_, _, hp, h1, Or.inl h2⟩
  rw [if_neg h6]
  by_cases h7 : x.r = 15
  · rw [if_pos h7]
    have hp := piece_other names S l ck out [[116, 111, 117, 99, 104], x.key, dig x.lf] (by simp)
      (by
        intro w hw
        simp only [List.mem_cons, List.mem_nil_iff, or_false] at hw
        rcases hw with rfl | rfl | rfl
        · exact clean_lit _ (by decide) (by decide)
        · exact hx.key
        · exact c2)
      (good_touch x.key x.lf (by omega) hx.lf) (by simp [joinW, kl]; omega) (show ([116, 111, 117, 99, 104] : Bytes) ≠ [97, 117, 116, 104] by decide) (show ([116, 111, 117, 99, 104] : Bytes) ≠ [113, 117, 105, 116] by decide) rfl
    obtain ⟨h1, h2⟩ := hI.touch ck x.key (num (dig x.lf))
    exact ⟨_, _, hp, h1, Or.inl h2⟩
  rw [if_neg h7]
  by_cases h8 : x.r = 16
  · rw [if_pos h8]
    have hp := piece_other names S l ck out [[115, 116, 97, 116, 115]] (by simp)
      (by
        intro w hw
        simp only [List.mem_cons, List.mem_nil_iff, or_false] at hw
        subst hw
        exact clean_lit _ (by decide) (by decide))
      (by rfl) (by decide) (by decide) (by decide) rfl
    exact ⟨_, _, hp, hI, Or.inr ⟨rfl, rfl⟩⟩
  rw [if_neg h8]
  by_cases h9 : x.r = 17
  · rw [if_pos h9]
    have hp := piece_bad names S l ck out [110, 111, 116, 104, 105, 110, 103] (by rfl) (by decide) (by intro b hb; revert b; decide)
    exact ⟨_, _, hp, hI, Or.inl ⟨rfl, rfl⟩⟩
  rw [if_neg h9]
  by_cases h10 : x.r = 18
  · rw [if_pos h10]
    have hp := piece_data names S l ck out [[115, 101, 116], x.key, dig x.f, dig x.lf, dig x.value.length] x.value (by simp)
      (by
        intro w hw
        simp only [List.mem_cons, List.mem_nil_iff, or_false] at hw
        rcases hw with rfl | rfl | rfl | rfl | rfl
        · exact clean_lit _ (by decide) (by decide)
        · exact hx.key
        · exact c1
        · exact c2
        · exact c3)
      (good_store [115, 101, 116] x.key x.f x.lf x.value.length (Or.inl rfl) (by omega) hx.f hx.lf hx.vlen)
      (by simp [joinW, kl]; omega) (show ([115, 101, 116] : Bytes) ≠ [97, 117, 116, 104] by decide) (show ([115, 101, 116] : Bytes) ≠ [113, 117, 105, 116] by decide) rfl (num_dig _ (by have := hx.vlen; omega))
    exact ⟨_, _, hp, hI, Or.inl ⟨rfl, rfl⟩⟩
  · rw [if_neg h10]
    have hp := piece_bad names S l ck out [32] (by rfl) (by decide) (by intro b hb; revert b; decide)
    exact ⟨_, _, hp, hI, Or.inl ⟨rfl, rfl⟩⟩
end
end Go.Proofs.YtdpnpcjbjjjceaaGreatDoor.M
namespace Go.Proofs.YtdpnpcjbjjjceaaGreatDoor.M
open Go.Proofs.YtdpnpcjbjjjceaaGreatDoor

/-- what Room feeds in a round -/
def roundIn (K : Bytes) (f : Nat) (V : Bytes) (x : Raw) : Bytes :=
  (joinW [[115, 101, 116], K, dig f, dig 0, dig V.length] ++ 10 :: (V ++ [10])) ++ ((joinW [[103, 101, 116], K] ++ [10]) ++ (rawLine x ++ (joinW [[115, 116, 97, 116, 115]] ++ [10])))
def roundWant (q : Nat) (K : Bytes) (f : Nat) (V : Bytes) : Bytes :=
  if q < 17 + V.length then [84, 79, 79, 32, 76, 65, 82, 71, 69, 10] else [83, 84, 79, 82, 69, 68, 10, 86, 65, 76, 85, 69, 32] ++ K ++ [32] ++ dig f ++ [32] ++ dig V.length ++ [32]
theorem put_find (S : Store) (e : Entry) (h : (S.rows.map (·.key)).Nodup) : find (put S e).rows e.key = some { e with mark := S.mark + 1 } := by
  obtain ⟨h1, h2⟩ := gone_uniq S.rows e.key h
  show List.find? (has e.key) (evict S.quota (cost e) (gone S.rows e.key) ++ [{ e with mark := S.mark + 1 }]) = _
  rw [List.find?_append]
  have : List.find? (has e.key) (evict S.quota (cost e) (gone S.rows e.key)) = none := by
    rw [List.find?_eq_none]
    intro x hx
    have := h2 x (evict_mem _ _ _ x hx)
    simpa [has] using this
  rw [this]
  simp [has]
section
variable (names : List (Bytes × Bytes)) (S : Store) (l : List Store) (ck : Nat) (q : Nat)
theorem room_round (hI : Inv q S) (K : Bytes) (f : Nat) (V : Bytes) (x : Raw) (hK : cleanW K) (hKl : K.length = 1) (hf : f ≤ 65535) (hV : valW V) (hVl : V.length ≤ 100) (hx : RawOk x) :
    ∃ S' Sx pre more post, feed ⟨names, S :: l, ck⟩ (idleO []) (roundIn K f V x) = (⟨names, S' :: l, ck⟩, idleO (pre ++ ((stats Sx ++ [10]) ++ post))) ∧ Inv q S' ∧ Inv q Sx ∧ Good pre ∧ pre = roundWant q K f V ++ more := by
  have d1 := dlen f (by omega)
  have d3 := dlen V.length (by omega)
  have hKw : keyW K := by
    refine ⟨by omega, fun b hb => ?_⟩
    have := (List.all_eq_true.1 hK.2) b hb
    simp [okB] at this
    omega
  -- the first piece
  have hp1 := fun out => piece_store names S l ck out [[115, 101, 116], K, dig f, dig 0, dig V.length] V (by simp)
    (by
      intro w hw
      simp only [List.mem_cons, List.mem_nil_iff, or_false] at hw
      rcases hw with rfl | rfl | rfl | rfl | rfl
      · exact clean_lit _ (by decide) (by decide)
      · exact hK
      · exact clean_dig _ (by omega)
      · exact clean_dig _ (by omega)
      · exact clean_dig _ (by omega))
    (good_store [115, 101, 116] K f 0 V.length (Or.inl rfl) (by omega) hf (by omega) hVl)
    (by have : (dig 0).length = 1 := rfl
        simp [joinW, hKl, this]; omega) (show ([115, 101, 116] : Bytes) ≠ [97, 117, 116, 104] by decide) (show ([115, 101, 116] : Bytes) ≠ [113, 117, 105, 116] by decide) rfl (num_dig _ (by omega))
  have hst : stored ck S [[115, 101, 116], K, dig f, dig 0, dig V.length] V = store S ⟨K, V, f, 0, 0⟩ := by
    have e1 : entryOf ck [[115, 101, 116], K, dig f, dig 0, dig V.length] V = ⟨K, V, f, 0, 0⟩ := by
      show (⟨K, V, num (dig f), 0, ends ck (num (dig 0))⟩ : Entry) = _
      rw [num_dig f (by omega), num_dig 0 (by omega)]
      rfl
    show store S (entryOf ck [[115, 101, 116], K, dig f, dig 0, dig V.length] V) = _
    rw [e1]
  rw [hst] at hp1
  obtain ⟨hI1, hg1⟩ := hI.store ⟨K, V, f, 0, 0⟩ ⟨hKw, hV⟩
  have hcost : cost ⟨K, V, f, 0, 0⟩ = 17 + V.length := by
    show K.length + V.length + 16 = _
    omega
  obtain ⟨S1, hS1⟩ : ∃ S1, S1 = (store S ⟨K, V, f, 0, 0⟩).2 := ⟨_, rfl⟩
  obtain ⟨o1, ho1⟩ : ∃ o1, o1 = (store S ⟨K, V, f, 0, 0⟩).1 ++ [10] := ⟨_, rfl⟩
  rw [← hS1] at hI1
  rw [← ho1] at hg1
  -- the second
  have hp2 := fun out => piece_other names S1 l ck out [[103, 101, 116], K] (by simp)
    (by
      intro w hw
      simp only [List.mem_cons, List.mem_nil_iff, or_false] at hw
      rcases hw with rfl | rfl
      · exact clean_lit _ (by decide) (by decide)
      · exact hK)
    (good_get [K] (by simp) (by simp) (by intro k hk; simp at hk; subst hk; omega)) (by simp [joinW, hKl]) (show ([103, 101, 116] : Bytes) ≠ [97, 117, 116, 104] by decide) (show ([103, 101, 116] : Bytes) ≠ [113, 117, 105, 116] by decide) rfl
  obtain ⟨hI2, hg2⟩ := Inv.getAll [K] S1 hI1
  have hot : other ck S1 [[103, 101, 116], K] = getAll S1 [K] := rfl
  rw [hot] at hp2
  -- what they answer
  have hwant : ∃ more, o1 ++ ((getAll S1 [K]).1 ++ [10]) = roundWant q K f V ++ more := by
    unfold roundWant
    by_cases hc : q < 17 + V.length
    · rw [if_pos hc]
      refine ⟨(getAll S1 [K]).1 ++ [10], ?_⟩
      rw [ho1]
      unfold store
      rw [if_pos (by rw [hcost, hI.quota]; exact hc)]
      rfl
    · rw [if_neg hc]
      have hs : store S ⟨K, V, f, 0, 0⟩ = ([83, 84, 79, 82, 69, 68], put S ⟨K, V, f, 0, 0⟩) := by
        unfold store
        rw [if_neg (by rw [hcost, hI.quota]; exact hc)]
      have hfi := put_find S ⟨K, V, f, 0, 0⟩ hI.uniq
      have hS1' : S1 = put S ⟨K, V, f, 0, 0⟩ := by rw [hS1, hs]
      have hga : (getAll S1 [K]).1 = shown ⟨K, V, f, S.mark + 1, 0⟩ ++ [69, 78, 68] := by
        rw [hS1']
        simp only [getAll, getOne]
        rw [hfi]
      rw [hga, ho1, hs]
      refine ⟨dig (S.mark + 1) ++ [10] ++ V ++ [10] ++ [69, 78, 68, 10], ?_⟩
      unfold shown
      simp
  -- the third and the fourth
  obtain ⟨S3, o3, hp3, hI3, ho3⟩ := line_piece names (getAll S1 [K]).2 l ck (o1 ++ ((getAll S1 [K]).1 ++ [10])) q x hI2 hx
  have hp4 := fun out => piece_other names S3 l ck out [[115, 116, 97, 116, 115]] (by simp)
    (by
      intro w hw
      simp only [List.mem_cons, List.mem_nil_iff, or_false] at hw
      subst hw
      exact clean_lit _ (by decide) (by decide))
    (by rfl) (by decide) (by decide) (by decide) rfl
  have hot4 : other ck S3 [[115, 116, 97, 116, 115]] = (stats S3, S3) := rfl
  rw [hot4] at hp4
  have hrun : feed ⟨names, S :: l, ck⟩ (idleO []) (roundIn K f V x) = (⟨names, S3 :: l, ck⟩, idleO (o1 ++ ((getAll S1 [K]).1 ++ [10]) ++ o3 ++ (stats S3 ++ [10]))) := by
    unfold roundIn
    rw [feed_append, hp1 [], ← hS1, ← ho1, List.nil_append]
    simp only
    rw [feed_append, hp2 o1]
    simp only
    rw [feed_append, hp3]
    simp only
    rw [hp4]
  obtain ⟨more, hm⟩ := hwant
  rcases ho3 with hg3 | ⟨h3, h3'⟩
  · refine ⟨S3, S3, o1 ++ ((getAll S1 [K]).1 ++ [10]) ++ o3, more ++ o3, [], by rw [hrun]; simp, hI3, hI3, (hg1.append hg2).append hg3, by rw [hm]; simp⟩
  · refine ⟨S3, (getAll S1 [K]).2, o1 ++ ((getAll S1 [K]).1 ++ [10]), more, stats S3 ++ [10], by rw [hrun, h3]; simp, hI3, hI2, hg1.append hg2, hm⟩
end
/-- the lines of stats ahead of items -/
def statsA (S : Store) : Bytes :=
  (103 :: (([101, 116, 115, 32] ++ dig S.gets) ++ [10])) ++ ((104 :: (([105, 116, 115, 32] ++ dig S.hits) ++ [10])) ++ ((115 :: (([116, 111, 114, 101, 115, 32] ++ dig S.stores) ++ [10])) ++ ((101 :: (([118, 105, 99, 116, 101, 100, 32] ++ dig S.evicted) ++ [10])) ++ (101 :: (([120, 112, 105, 114, 101, 100, 32] ++ dig S.expired) ++ [10])))))
theorem stats_eq (S : Store) : stats S ++ [10] = statsA S ++ ([105, 116, 101, 109, 115] ++ (32 :: (dig S.rows.length ++ 10 :: ([98, 121, 116, 101, 115] ++ (32 :: (dig (total S.rows) ++ 10 :: [69, 78, 68, 10])))))) := by
  unfold stats statsA
  simp
theorem statsA_good (S : Store) : Good (statsA S) := by
  have nd : ∀ n, ∀ b ∈ dig n, b ≠ 10 := fun n b hb => ne_of_low (by have := dig_bytes n b hb; show 10 < b.toNat; omega)
  have hl : ∀ (c : UInt8) (w : Bytes) (n : Nat), c ≠ 105 → c ≠ 98 → c ≠ 10 → (∀ b ∈ w, b ≠ 10) → Good (c :: ((w ++ dig n) ++ [10])) := fun c w n h1 h2 h3 hw =>
    good_line c _ h1 h2 h3 (fun b hb => by
      rcases List.mem_append.1 hb with h | h
      · exact hw b h
      · exact nd n b h)
  unfold statsA
  exact (hl _ _ _ (by decide) (by decide) (by decide) (by decide)).append ((hl _ _ _ (by decide) (by decide) (by decide) (by decide)).append ((hl _ _ _ (by decide) (by decide) (by decide) (by decide)).append ((hl _ _ _ (by decide) (by decide) (by decide) (by decide)).append (hl _ _ _ (by decide) (by decide) (by decide) (by decide)))))
end Go.Proofs.YtdpnpcjbjjjceaaGreatDoor.M
