import Derived.Test.YtpdmafpgdiefpaaStill
namespace Go.Proofs.Ytpdmafpgdiefpaa
open Go.RowKit Go.Builtin

def okIn (lo hi : Nat) (c : UInt8) : Bool := decide (lo ≤ c.toNat) && decide (c.toNat ≤ hi)
def bytesIn (s : ByteArray) (lo hi : Nat) : Bool := s.data.toList.all (okIn lo hi)
theorem getElem_list (s : ByteArray) (k : Nat) (h : k < s.size) : s[k] = s.data.toList[k]'(by simpa using h) := rfl
theorem bytes_all (s : ByteArray) (lo hi : Nat) (h : ∀ j (hj : j < s.size), okIn lo hi s[j] = true) : bytesIn s lo hi = true := by
  unfold bytesIn
  rw [List.all_eq_true]
  intro x hx
  obtain ⟨j, hj, rfl⟩ := List.mem_iff_getElem.1 hx
  have := h j (by simpa using hj)
  rwa [getElem_list s j (by simpa using hj)] at this
theorem bytes_not (s : ByteArray) (lo hi : Nat) (j : Nat) (hj : j < s.size) (h : okIn lo hi s[j] = false) : bytesIn s lo hi = false := by
  unfold bytesIn
  rw [List.all_eq_false]
  exact ⟨s[j], by rw [getElem_list s j hj]; exact List.getElem_mem _, by simp [h]⟩

def goodB (t : Ten) : Bool :=
  bytesIn t.n 97 122 && bytesIn t.k 33 126 && decide (0 < t.n.size) && decide (t.n.size ≤ 8) && decide (0 < t.k.size) && decide (t.k.size ≤ 16) && decide (0 < t.q) && decide (t.q ≤ 2000)

set_option maxRecDepth 100000 in
set_option maxHeartbeats 4000000 in
theorem rGood_c (t : Ten) (w : World) (hn : t.n.size ≤ 9223372036854775806) (hk : t.k.size ≤ 9223372036854775806) : Calls Try.prog 22 #[.agg #[.string t.n, .string t.k, .int .i64 t.q]] w fun e w' => e = .returned (.bool (goodB t)) ∧ Below w.heap.size w w' := by
  obtain ⟨n, k, q⟩ := t
  show Calls Try.prog 22 #[.agg #[.string n, .string k, .int .i64 q]] w fun e w' => e = .returned (.bool (goodB ⟨n, k, q⟩)) ∧ Below w.heap.size w w'
  replace hn : n.size ≤ 9223372036854775806 := hn
  replace hk : k.size ≤ 9223372036854775806 := hk
  have hB : Below w.heap.size w (w.alloc (.cells #[.string n, .string k, .int .i64 q] 40)) := (Below.refl _ _).alloc (Nat.le_refl _) _
  go_enter Try.func22, Try.ntmps22
  go_wp2_with fail
  go_loop [3] (fun i => ∃ j : Nat, j ≤ n.size ∧ i = .int .i64 j ∧ Hid (∀ x (hx : x < n.size), x < j → okIn 97 122 n[x] = true)) (fun i => n.size - (intOf i).toNat)
  case atStart => exact ⟨0, by omega, rfl, fun x _ h => by omega⟩
  case round =>
    obtain ⟨j, hj, rfl, hall⟩ := hrel
    by_cases hlt : j < n.size
    · have klt : (j : Int) < n.size := by omega
      by_cases hlo : n[j].toNat < 97
      · have klo : (n[j].toNat : Int) < 97 := by omega
        go_wp2
        go_ret
        exact ⟨by simp [goodB, bytes_not n 97 122 j hlt (by simp [okIn]; omega)], hB⟩
      · have klo : ¬ (n[j].toNat : Int) < 97 := by omega
        by_cases hhi : 122 < n[j].toNat
        · have khi : (122 : Int) < n[j].toNat := by omega
          go_wp2
          go_ret
          exact ⟨by simp [goodB, bytes_not n 97 122 j hlt (by simp [okIn]; omega)], hB⟩
        · have khi : ¬ (122 : Int) < n[j].toNat := by omega
          go_wp2
          go_round
          case rel => exact ⟨j + 1, by omega, by go_num, fun x hx hxj => by
            by_cases hxx : x < j
            · exact hall.out x hx hxx
            · obtain rfl : x = j := by omega
              simp [okIn]; omega⟩
          case measure => simp [intOf] <;> omega
    · have klt : ¬ (j : Int) < n.size := by omega
      have HN : Hid (bytesIn n 97 122 = true) := bytes_all n 97 122 (fun x hx => hall.out x hx (by omega))
      clear hall
      go_wp2_with fail
      go_loop [4] (fun i => ∃ m : Nat, m ≤ k.size ∧ i = .int .i64 m ∧ Hid (∀ x (hx : x < k.size), x < m → okIn 33 126 k[x] = true)) (fun i => k.size - (intOf i).toNat)
      case atStart => exact ⟨0, by omega, rfl, fun x _ h => by omega⟩
      case round =>
        obtain ⟨m, hm, rfl, hal⟩ := hrel
        by_cases hlm : m < k.size
        · have klm : (m : Int) < k.size := by omega
          by_cases hlo : k[m].toNat < 33
          · have klo : (k[m].toNat : Int) < 33 := by omega
            go_wp2
            go_ret
            exact ⟨by simp [goodB, bytes_not k 33 126 m hlm (by simp [okIn]; omega)], hB⟩
          · have klo : ¬ (k[m].toNat : Int) < 33 := by omega
            by_cases hhi : 126 < k[m].toNat
            · have khi : (126 : Int) < k[m].toNat := by omega
              go_wp2
              go_ret
              exact ⟨by simp [goodB, bytes_not k 33 126 m hlm (by simp [okIn]; omega)], hB⟩
            · have khi : ¬ (126 : Int) < k[m].toNat := by omega
              go_wp2
              go_round
              case rel => exact ⟨m + 1, by omega, by go_num, fun x hx hxj => by
                by_cases hxx : x < m
                · exact hal.out x hx hxx
                · obtain rfl : x = m := by omega
                  simp [okIn]; omega⟩
              case measure => simp [intOf] <;> omega
        · have klm : ¬ (m : Int) < k.size := by omega
          have HK : Hid (bytesIn k 33 126 = true) := bytes_all k 33 126 (fun x hx => hal.out x hx (by omega))
          clear hal
          by_cases h1 : 0 < n.size
          · have k1 : (0 : Int) < n.size := by omega
            by_cases h2 : n.size ≤ 8
            · have k2 : (n.size : Int) ≤ 8 := by omega
              by_cases h3 : 0 < k.size
              · have k3 : (0 : Int) < k.size := by omega
                by_cases h4 : k.size ≤ 16
                · have k4 : (k.size : Int) ≤ 16 := by omega
                  by_cases h5 : 0 < q
                  · by_cases h6 : q ≤ 2000
                    · go_wp2
                      go_ret
                      exact ⟨by simp [goodB, HN.out, HK.out, h1, h2, h3, h4, h5, h6], hB⟩
                    · have HF : Hid (goodB ⟨n, k, q⟩ = false) := by show _ = _; simp [goodB, h6]
                      go_wp2
                      go_ret
                      exact ⟨by rw [HF.out]; first | rfl | (simp <;> omega), hB⟩
                  · have HF : Hid (goodB ⟨n, k, q⟩ = false) := by show _ = _; simp [goodB, h5]
                    go_wp2
                    go_ret
                    exact ⟨by rw [HF.out]; first | rfl | (simp <;> omega), hB⟩
                · have k4 : ¬ (k.size : Int) ≤ 16 := by omega
                  go_wp2
                  go_ret
                  exact ⟨by simp [goodB, h4], hB⟩
              · have k3 : ¬ (0 : Int) < k.size := by omega
                go_wp2
                go_ret
                exact ⟨by simp [goodB, h3], hB⟩
            · have k2 : ¬ (n.size : Int) ≤ 8 := by omega
              go_wp2
              go_ret
              exact ⟨by simp [goodB, h2], hB⟩
          · have k1 : ¬ (0 : Int) < n.size := by omega
            go_wp2
            go_ret
            exact ⟨by simp [goodB, h1], hB⟩
end Go.Proofs.Ytpdmafpgdiefpaa
