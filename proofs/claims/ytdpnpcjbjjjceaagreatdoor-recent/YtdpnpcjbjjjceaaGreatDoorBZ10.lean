import Derived.Test.YtdpnpcjbjjjceaaGreatDoorBZ9b
import Derived.Test.YtdpnpcjbjjjceaaGreatDoorBZ6
set_option linter.unusedSimpArgs false
set_option linter.unusedVariables false
namespace Go.Proofs.YtdpnpcjbjjjceaaGreatDoor.S
open Go.RowKit Go.Maps Go.MuLone Go.Proofs.YtdpnpcjbjjjceaaGreatDoor
theorem inst : K.Iface Srv Glob where
  glob := fun h hb => h.below hb
  frame := fun h hs hf => srv_frame h hs hf
  inn := fun h => srv_inn h
  outs := fun h => srv_outs h
  make := fun w g o cap n ts hg ht hc _ h1 h8 => by
    obtain ⟨l1, l5, hok, hnd⟩ := ht
    exact open_t _ n ts w hg.room (byName_t g o ts.length cap ts w rfl hc l1 l5 hok hnd) ⟨_, _, _, rfl⟩ l5 (fun t ht => (ok_within (hok t ht)).2.2.2.1) h1 h8
  dial := fun i h _ hf => srv_dial i h hf
  feed := fun c x s h hg hx hb => srv_feed c x s h hg hx hb
  take := fun c x n h _ hx hn => srv_take c x n h hx hn
  line := fun w s hg hs => by
    have e1 : pLineS s = ⟨(P.rLine s.data.toList).toArray⟩ := by unfold pLineS; rw [P.line_same]
    rw [← e1]
    exact line_c s w hs hg.errs
end Go.Proofs.YtdpnpcjbjjjceaaGreatDoor.S
