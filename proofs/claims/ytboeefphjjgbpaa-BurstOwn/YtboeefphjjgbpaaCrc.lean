/- What the functions of package crc that hold no table answer, said of natural numbers. -/
import Derived.Test.YtboeefphjjgbpaaOf
import Derived.Test.YtboeefphjjgbpaaRowo
import Derived.Test.YtboeefphjjgbpaaCmath
import Derived.Deep.QuietTactic
import Derived.BigQuiet
namespace Go.Proofs.Ytboeefphjjgbpaa
open Go.RowKit

theorem shr31_hi {s : Nat} (h : s < 4294967296) (hb : 2147483648 ≤ s) : ((s : Int) / 2147483648 == 1) = true := by simp; omega
theorem shr31_lo {s : Nat} (hb : s < 2147483648) : ((s : Int) / 2147483648 == 1) = false := by simp; omega
theorem info_u8 : (Try.prog.info? 5).map (fun i => (i.zero, i.size, i.bytes)) = some (some (.int .u8 0), 1, 1) := by kernel_rfl
theorem size_u8 : (Try.prog.info? 5).map (·.size) = some 1 := by kernel_rfl
theorem build0 (w : World) : (Instr.buildSlice 22 0 #[]).run Try.prog w = .ok (.slice (some ⟨w.heap.size, 0, none⟩) 0 0) (w.alloc (.cells #[] 5)) := by kernel_rfl
theorem log2_g : Nat.log2 4812730177 = 32 := PM.g_log2
theorem xor32 (a b : Nat) (ha : a < 4294967296) (hb : b < 4294967296) : bits .xor .u32 (a : Int) (b : Int) = ((a ^^^ b : Nat) : Int) := u32_xor_nat a b ha hb
theorem or32_add (x y : Nat) (k : Nat) (hx : x % 2 ^ k = 0) (hy : y < 2 ^ k) (h1 : x < 4294967296) (h2 : y < 4294967296) : bits .or .u32 (x : Int) (y : Int) = ((x + y : Nat) : Int) := by
  rw [u32_or_nat x y h1 h2, nat_join k x y hx hy]

end Go.Proofs.Ytboeefphjjgbpaa
