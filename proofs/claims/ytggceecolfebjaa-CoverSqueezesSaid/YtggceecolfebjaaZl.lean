/-
  What Longest of package trie returns. Condition: the tree lies at the pointer's block.
-/
import Derived.Test.YtggceecolfebjaaZo
namespace Go.Proofs.Ytggceecolfebjaa
open Go.RowKit
set_option maxRecDepth 100000

end Go.Proofs.Ytggceecolfebjaa
