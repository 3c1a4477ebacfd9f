/-
  Joined: TwND.
-/
import Derived.Deep.RegionHeld
import Derived.Deep.CutBlock
import Derived.BigGuard
import Derived.Defers
import Derived.Outline
import Derived.Recover
import Derived.Test.YtponmfkddglopaaWU28
namespace Go.Proofs.Ytponmfkddglopaa
open Go.RowKit

theorem Try.mk_mvD (w : World) : (Instr.makeMap 73 none).run Try.prog w = .ok (.map (some w.heap.size)) (w.alloc (.map #[] 0)) := by kernel_rfl
theorem Try.mk_mcD (w : World) : (Instr.makeMap 74 none).run Try.prog w = .ok (.map (some w.heap.size)) (w.alloc (.map #[] 0)) := by kernel_rfl
set_option maxHeartbeats 16000000 in
set_option maxRecDepth 100000 in
theorem new_D (w : World) :
  Calls Try.prog 26 #[] w fun e w' => ∃ g gv gc, e = .returned (.pointer (some ⟨g, 0, none⟩)) ∧ TlR 76 encD okD w' g gv gc [] ∧ Below w.heap.size w w' ∧ ∀ q, D3 g gv gc q → w.heap.size ≤ q := by
 have hmk1 := Try.mk_mvD
 have hmk2 := Try.mk_mcD
 go_enter Try.func26, Try.ntmps26
 go_wp2
 go_ret
 have x1 : Below w.heap.size w (w.alloc (.map #[] 0)) := below1_ w _
 have x2 : Below (w.alloc (.map #[] 0)).heap.size (w.alloc (.map #[] 0)) ((w.alloc (.map #[] 0)).alloc (.map #[] 0)) := below1_ _ _
 have x3 := below1_ ((w.alloc (.map #[] 0)).alloc (.map #[] 0)) (.cells #[.map (some w.heap.size), .map (some (w.heap.size + 1))] 76)
 have h1 : VMp encD okD (w.alloc (.map #[] 0)) w.heap.size [] := VMp.made w
 have h2 : CMp encD okD ((w.alloc (.map #[] 0)).alloc (.map #[] 0)) (w.heap.size + 1) (fun _ => 0) := by
  have := CMp.made (enc := encD) (ok := okD) (w.alloc (.map #[] 0))
  rwa [World.size_alloc] at this
 refine ⟨w.heap.size + 1 + 1, w.heap.size, w.heap.size + 1, rfl, ⟨Blk.fresh (by simp) rfl, (h1.through x2).through x3, (h2.through x3).congr (fun q => rfl), by omega, List.nodup_nil⟩, below_step (below_step x1 x2) x3, ?_⟩
 rintro q (rfl | rfl | rfl) <;> omega
end Go.Proofs.Ytponmfkddglopaa
