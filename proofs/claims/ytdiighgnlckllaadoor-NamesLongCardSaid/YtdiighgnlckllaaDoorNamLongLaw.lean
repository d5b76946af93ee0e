/- Layer 3: the walk of NamesLong. -/
import Derived.Test.YtdiighgnlckllaaDoorNamLongA
import Derived.Test.YtdiighgnlckllaaDoorNamLongB
import Derived.Test.YtdiighgnlckllaaDoorNamLongC
namespace Go.Proofs.YtdiighgnlckllaaDoor.nam
open Go.RowKit Go.Shelf

theorem longlaw_walk (n parts : Int) (w : World) (hm : MaxL w) :
    Calls Tryd.prog 8 #[.int .i64 n, .int .i64 parts] w fun e w' => e = .returned (.bool true) ∧ Below w.heap.size w w' := by
  obtain ⟨k, hk, hk6⟩ := wr_mod n 601 (by omega) (by omega)
  obtain c | c | c | c | c | c : k ≤ 0 ∨ (1 ≤ k ∧ k ≤ 32) ∨ (33 ≤ k ∧ k ≤ 63) ∨ (64 ≤ k ∧ k ≤ 253) ∨ (254 ≤ k ∧ k ≤ 511) ∨ 512 ≤ k := by omega
  · exact longlaw_c0 n parts k hk (by omega) (by omega) w hm
  · exact longlaw_c1 n parts k hk (by omega) (by omega) w hm
  · exact longlaw_c2 n parts k hk (by omega) (by omega) w hm
  · exact longlaw_c3 n parts k hk (by omega) (by omega) w hm
  · exact longlaw_c4 n parts k hk (by omega) (by omega) w hm
  · exact longlaw_c5 n parts k hk (by omega) (by omega) w hm
end Go.Proofs.YtdiighgnlckllaaDoor.nam
