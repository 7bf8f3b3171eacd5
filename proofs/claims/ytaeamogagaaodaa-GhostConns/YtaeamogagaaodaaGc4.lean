/- Layer 18: Copied of no facts. -/
import Derived.Test.YtaeamogagaaodaaGc3
import Derived.Laws.AppendOwnNone
namespace Go.Proofs.Ytaeamogagaaodaa
open Go.RowKit Go.Maps Go.Sort
set_option maxRecDepth 100000
set_option maxHeartbeats 4000000 in
theorem gcopied0 (a : Option Addr) (cap : Nat) (w : World) : Calls Try.prog 12 #[.slice a 0 cap] w fun r w' => ∃ a' c, r = .returned (.slice a' 0 c) ∧ Hid (Below w.heap.size w w' ∧ w'.ownsRow w.heap.size 43 8 (.slice a' 0 c) 0 []) := by
  obtain ⟨i0, hI, hz0, hz1, hz2⟩ := info_parts info_fact
  have hbF := build0F
  have bA : Below w.heap.size w (w.alloc (.cells #[] 43)) := (Below.refl _ _).alloc (Nat.le_refl _) _
  have hszA := bA.size
  have O0 : (w.alloc (.cells #[] 43)).ownsRow w.heap.size 43 8 (.slice (some ⟨w.heap.size, 0, none⟩) 0 0) 0 [] := World.ownsRow_made w #[] 0 (Nat.le_refl _) (Nat.zero_le _) rfl
  cases a with
  | none =>
    go_enter Try.func12, Try.ntmps12
    go_wp2_with (at_builtin; refine wpList_append_own_none rfl (.tmp 5) (.tmp 6) 26 rfl w.heap.size 43 i0 8 Try.underlying26 hI (.slice (some ⟨w.heap.size, 0, none⟩) 0 0) 0 [] rfl O0 rfl ?_)
    go_wp2_with fail
    go_loopw [4, 10, 11, 12, 13, 14, 15, 16, 17, 18, 19, 20, 21, 22, 23, 24] (fun _ c _ _ _ _ _ _ _ _ _ _ _ _ _ _ wr => c = .int .i64 0 ∧ Hid (Below w.heap.size w wr ∧ wr.ownsRow w.heap.size 43 8 (.slice (some ⟨w.heap.size, 0, none⟩) 0 0) 0 [])) (fun _ _ _ _ _ _ _ _ _ _ _ _ _ _ _ _ _ => 0)
    case atStart => exact ⟨rfl, bA, O0⟩
    case round =>
      obtain ⟨rfl, HI⟩ := hrel
      go_wp2_with fail
      go_ret
      exact ⟨_, _, rfl, HI⟩
  | some x =>
    go_enter Try.func12, Try.ntmps12
    go_wp2_with (at_builtin; refine wpList_append_own_at _ rfl (.tmp 5) (.tmp 6) 26 rfl w.heap.size 43 i0 (.agg #[.int .i64 0, .int .i64 0, .int .i64 0, .int .u32 0, .int .u32 0, .bool false, .int .i64 0, .slice none 0 0]) 8 72 Try.underlying26 hI hz0 hz1 hz2 rfl (by decide) (.slice (some ⟨w.heap.size, 0, none⟩) 0 0) 0 [] rfl O0 x 0 cap [] rfl rfl (fun j u hu => by simp at hu) (fun u hu => by simp at hu) (by unfold maxLen; omega) (by omega) hszA ?_)
    intro v2 w2 O2 G2 hne _
    have b2 : Below w.heap.size w w2 := bA.grown G2 hszA (fun k hk => (O0.lt k hk).1)
    obtain ⟨a2, c2, rfl⟩ : ∃ a2 c2, v2 = .slice a2 0 c2 := by
      rcases O2.2 with ⟨e, _⟩ | ⟨g, cp, cur, e, _⟩
      · exact ⟨_, _, e⟩
      · exact ⟨_, _, e⟩
    have HB : Hid (Below w.heap.size w w2 ∧ w2.ownsRow w.heap.size 43 8 (.slice a2 0 c2) 0 []) := ⟨b2, O2⟩
    clear O2 G2 b2 O0 bA hszA hne
    go_wp2_with fail
    go_loopw [4, 10, 11, 12, 13, 14, 15, 16, 17, 18, 19, 20, 21, 22, 23, 24] (fun _ c _ _ _ _ _ _ _ _ _ _ _ _ _ _ wr => c = .int .i64 0 ∧ Hid (Below w.heap.size w wr ∧ wr.ownsRow w.heap.size 43 8 (.slice a2 0 c2) 0 [])) (fun _ _ _ _ _ _ _ _ _ _ _ _ _ _ _ _ _ => 0)
    case atStart => exact ⟨rfl, HB⟩
    case round =>
      obtain ⟨rfl, HI⟩ := hrel
      go_wp2_with fail
      go_ret
      exact ⟨_, _, rfl, HI⟩
end Go.Proofs.Ytaeamogagaaodaa
