/-
  The maker of addresses.
-/
import Derived.Test.YtpdiainbcekpiaaRows
import Derived.Test.YtpdiainbcekpiaaMem
import Derived.Test.YtpdiainbcekpiaaOpen
import Derived.ProofKit
import Derived.Laws.Cover3
import Derived.Laws.BitsAll
namespace Go.Proofs.Ytpdiainbcekpiaa
open Go.RowKit
set_option maxHeartbeats 400000 in
theorem mac_any (n : Int) (w : World) :
    Calls Try.prog 15 #[.int .i64 n] w fun e w' => e = .returned (.agg #[.int .u8 2, .int .u8 0, .int .u8 (n / 16777216 % 256), .int .u8 (n / 65536 % 256), .int .u8 (n / 256 % 256), .int .u8 (n % 256)]) ∧ Below w.heap.size w w' := by
  go_enter Try.func15, Try.ntmps15
  go_wp2
  exact bodyPost_ret (v := .agg #[.int .u8 2, .int .u8 0, .int .u8 (n / 16777216 % 256), .int .u8 (n / 65536 % 256), .int .u8 (n / 256 % 256), .int .u8 (n % 256)]) (by simp [results, Try.results15, go_sem]) rfl ⟨rfl, (by repeat (with_reducible first | exact Below.refl _ _ | assumption | refine Below.drew ?_ | refine below_drewN ?_ _ | refine Below.alloc ?_ (by simp) _ | refine Below.setCell ?_ (by first | (simp; done) | omega | (simp; omega)) _ | refine Below.alloc ?_ (by simp; omega) _))⟩
end Go.Proofs.Ytpdiainbcekpiaa
