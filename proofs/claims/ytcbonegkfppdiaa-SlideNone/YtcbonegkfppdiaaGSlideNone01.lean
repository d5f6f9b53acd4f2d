import Derived.Test.YtcbonegkfppdiaaGS07
namespace Go.Proofs.Ytcbonegkfppdiaa
set_option maxRecDepth 100000
set_option linter.unusedVariables false
open Go.RowKit
attribute [local go_sem ↓] Go.wp_at_zero Go.wp_at_succ
set_option maxHeartbeats 1000000 in
theorem snone_walk (w:World):Calls Try.prog 13 #[] w fun e w' => e=.returned (.bool true)∧Below w.heap.size w w' := by
 have C0:=awake12_any w
 go_enter Try.func13,Try.ntmps13
 go_wp2_with (first | (go_at_call 25;refine C0.mono ?_;rintro e w1 ⟨rfl,k1⟩;have C1:=live_none (.slice (some ⟨w1.heap.size,0,none⟩) 1 1) (w1.alloc (.cells #[.int .i64 0] 3));have C2:=coll_none (.slice none 0 0) (w1.alloc (.cells #[.int .i64 0] 3));have K:Hid (Same0 w (w1.alloc (.cells #[.int .i64 0] 3))):=k1.alloc _;clear k1) | (go_at_call 28;refine C1.mono ?_;rintro e w2 ⟨rfl,h2⟩;subst h2) | (go_at_call 34;refine C2.mono ?_;rintro e w3 ⟨rfl,h3⟩;subst h3))
 go_ret
 exact ⟨rfl,K.out.below⟩
end Go.Proofs.Ytcbonegkfppdiaa
