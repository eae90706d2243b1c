import Derived.Conc.RwLib
import Derived.Conc.MuData
import Derived.KernelRfl
import Derived.Test.YtmjncadancppoaaGreatDoorProg
set_option linter.unusedSimpArgs false
set_option linter.unusedVariables false
namespace Go.Proofs
/-- the mutex's functions and types, by their numbers in this dump -/
abbrev Tryz.muLink : Go.Conc.Locks.MuLink := { lock := 153, unlock := 154, ilock := 167, iunlock := 168, lockSlow := 180, unlockSlow := 183, disable := 176, enable := 178, acquire := 179, relMerge := 181, cas32 := 177, add32 := 182, tMutex := 144, tIMutex := 142, tPMutex := 221, tPIMutex := 226, tPI32 := 228, tUP := 223, tNoCopy := 139, tU32 := 140 }
theorem Tryz.muLib : Go.Conc.Locks.MuLib Tryz.prog Tryz.muLink :=
  ⟨Tryz.func153, Tryz.func154, Tryz.func167, Tryz.func168, Tryz.func176, Tryz.func178, Tryz.func179, Tryz.func181, Tryz.func177, Tryz.func182, Tryz.underlying142, Tryz.runUnderlying142, Tryz.sizeOf142, Tryz.isAgg142, Tryz.zeroValue142, Tryz.underlying144, Tryz.runUnderlying144, Tryz.sizeOf144, Tryz.isAgg144, Tryz.zeroValue144, Tryz.underlying221, Tryz.runUnderlying221, Tryz.sizeOf221, Tryz.isAgg221, Tryz.zeroValue221, Tryz.underlying226, Tryz.runUnderlying226, Tryz.sizeOf226, Tryz.isAgg226, Tryz.zeroValue226, Tryz.underlying228, Tryz.runUnderlying228, Tryz.sizeOf228, Tryz.isAgg228, Tryz.zeroValue228, Tryz.underlying223, Tryz.runUnderlying223, Tryz.sizeOf223, Tryz.isAgg223, Tryz.zeroValue223, Tryz.underlying139, Tryz.runUnderlying139, Tryz.sizeOf139, Tryz.isAgg139, Tryz.zeroValue139, Tryz.underlying21, Tryz.runUnderlying21, Tryz.sizeOf21, Tryz.isAgg21, Tryz.zeroValue21, (by kernel_rfl)⟩
end Go.Proofs
