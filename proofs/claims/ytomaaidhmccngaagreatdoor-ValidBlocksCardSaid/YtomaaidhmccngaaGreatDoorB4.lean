import Derived.Test.YtomaaidhmccngaaGreatDoorB5
set_option linter.unusedSimpArgs false
set_option linter.unusedVariables false
set_option maxRecDepth 100000
set_option maxHeartbeats 16000000
namespace Go.Proofs.YtomaaidhmccngaaGreatDoor
open Go.RowKit Go.Lib
open L3 (Blk Reads)
open L11 (Crt zeroC crtL crtC mayV okW crtInfo qak eqlC neqC qbI qai)
theorem qkP {α : Type} {L M : List α} {j : Nat} (h1 : j < L.length) (h2 : j < M.length) (h : L[j] ≠ M[j]) : L ≠ M := fun e => by subst e; exact h rfl
end Go.Proofs.YtomaaidhmccngaaGreatDoor
namespace Go.Proofs.YtomaaidhmccngaaGreatDoor
open Go.RowKit Go.Lib
open L3 (Blk Reads)
open L11 (Crt zeroC crtL crtC mayV okW crtInfo qak eqlC neqC qbI qai)
theorem Rd.at_ {α : Type} {f : α -> List Value} {k : Nat} {w : World} {ad : Addr} {L : List α} (h : Rd f k w (some ad) L) {i : Nat} (hi : i < L.length) : ∀ j u, (f L[i])[j]? = some u -> w.cell? ((ad.add (i * k)).add j) = some u := fun j u hj => by
 obtain ⟨ad', e, _, hc⟩ := h i hi
 injection e with e
 subst e
 exact hc j u hj
end Go.Proofs.YtomaaidhmccngaaGreatDoor
