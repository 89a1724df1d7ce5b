/- TreeAround returns true at every tree and every name. -/
import Derived.Test.YtinajnkjfhbmkaaDoorAroundE
namespace Go.Proofs.YtinajnkjfhbmkaaDoor
open Go Go.Proofs Go.RowKit

theorem around_any (t : TreeD) (p : Ptr6) (name : ByteArray) (w : World) (hE : Env w) (hT : TreeAt (Lt w.heap.size) w t p) (b1 : t.nodes.length ≤ maxLen) (b2 : t.types.length ≤ maxLen) (b3 : t.aliases.length ≤ maxLen) (hs : name.size ≤ maxLen) :
    Calls Tryd.prog 3 #[treeV t p, .string name] w fun e w' => e = .returned (.bool true) ∧ Below w.heap.size w w' := by
  unfold maxLen at b1 b2 b3 hs
  by_cases hG : fewB t = true ∧ t.nodes.length ≤ 50 ∧ t.nodes.length ≠ 0 ∧ name.size ≤ 50
  · exact around_yes t p name w hE hT hG.1 hG.2.1 (by omega) hG.2.2.2
  · exact around_not t p name w hE hT b1 b2 b3 hs hG
end Go.Proofs.YtinajnkjfhbmkaaDoor
