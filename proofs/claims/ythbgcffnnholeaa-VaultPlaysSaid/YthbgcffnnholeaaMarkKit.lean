/- What the walks of a range over a function lean on. No statement of the seat is proved here. -/
import Derived.Test.YthbgcffnnholeaaMem
import Derived.RangeFuncNested
import Derived.RangeFuncLeaves
import Derived.RangeFuncCalls
namespace Go.Proofs.Ythbgcffnnholeaa
open Go.RowKit
theorem abides_drewN {β : Type} {B : Nat} {J : β → World → Prop} (h : AbidesFrom B J) {s : β} {W : World} (q : Nat) (hs : J s W) : J s (W.drewN q) :=
  h s W _ none hs ⟨rfl, rfl, rfl, Nat.le_refl _, fun _ _ _ => rfl⟩ (fun r e => by cases e)
theorem leaves_mark {F : Fence} {n D : Nat} {P : Program} {fn : Func} {tmps : Array Value} {R : Ending → World → Prop} {W : World} (hK : W.heap[D]? = some (.deferred (some [])))
    (h : LeavesInM F n P fn tmps R [] .returning (W.putObj D (.deferred none))) : LeavesInM F n P fn tmps R [{ target := .collected D, args := #[] }] .returning W :=
  ⟨by simp, .inl ⟨_, _, rfl, run_takeDeferred hK, h⟩⟩
theorem own_post {α : Type} {Kp : World → World → Prop} {I : List α → World → Prop} {Ix : Code → List α → World → Prop} {xs : List α} {W W' : World} {a : Act} (h1 : KeepsOthers W W') (h2 : Kp W W') (h3 : I xs W') : ownPostK Kp I Ix xs W .normal a W' := ⟨h1, h2, h3⟩
theorem own_ret {α : Type} {Kp : World → World → Prop} {I : List α → World → Prop} {Ix : Code → List α → World → Prop} {xs : List α} {W W' : World} {a : Act} (h1 : KeepsOthers W W') (h3 : Ix .ret xs W') : ownPostK Kp I Ix xs W .ret a W' := ⟨h1, h3⟩
end Go.Proofs.Ythbgcffnnholeaa
