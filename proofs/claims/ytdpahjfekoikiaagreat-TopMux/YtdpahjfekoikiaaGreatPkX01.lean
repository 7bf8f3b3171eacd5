/- Part 2: contracts that the proof rests on. -/
import Derived.Test.YtdpahjfekoikiaaGreatProg
import Derived.WalkKit
import Derived.WalkSpells
import Derived.OpenShut
import Derived.Defers
import Derived.Recover
import Derived.Laws.BitsAllLaws
import Derived.Laws.Pointers
import Derived.Laws.LoneSync
import Derived.Laws.NewBlocks
import Derived.RegionTactic
import Derived.RegionCalls
import Derived.ChangeAlike
import Derived.Deep.DeepCutAuto
import Derived.Deep.RegionWith
import Derived.Deep.QuietTactic
import Derived.Test.YtdpahjfekoikiaaGreatPkX00
set_option maxHeartbeats 64000000
set_option maxRecDepth 100000
namespace Go.Proofs.YtdpahjfekoikiaaGreat
open Tryz
open Go.RowKit
theorem disable (w:World):(callFunc 186 #[]).run prog w=.ok (.value (.tuple #[])) w:=run_call_mark0 func186 (by kernel_rfl) (by kernel_rfl) (by kernel_rfl) .disable (by kernel_rfl) w
theorem enable (w:World):(callFunc 188 #[]).run prog w=.ok (.value (.tuple #[])) w:=run_call_mark0 func188 (by kernel_rfl) (by kernel_rfl) (by kernel_rfl) .enable (by kernel_rfl) w
theorem acquire (a:Addr) (w:World):(callFunc 189 #[.pointer (some a)]).run prog w=.ok (.value (.tuple #[])) w:=run_call_marked func189 (by kernel_rfl) (by kernel_rfl) (by kernel_rfl) .acquire (by kernel_rfl) a w
theorem releaseMerge (a:Addr) (w:World):(callFunc 191 #[.pointer (some a)]).run prog w=.ok (.value (.tuple #[])) w:=run_call_marked func191 (by kernel_rfl) (by kernel_rfl) (by kernel_rfl) .releaseMerge (by kernel_rfl) a w
theorem pE (a:Addr) (d:Int) (w:World) (h0:w.cell? a=some (.int .u32 d)) :
  Calls prog 172 #[.pointer (some a)] w fun e w'=>e=.returned (.bool (d != 0))∧w'=w:=by
 have hl:=run_call_load (P:=prog) func201 (by kernel_rfl) (by kernel_rfl) (by kernel_rfl) .u32 (by kernel_rfl) h0
 go_enter func172,ntmps172
 go_wp2
 go_ret
 exact⟨rfl,rfl⟩
theorem il (a:Addr) (x:Value) (u:FrameMode) (w:World) (hc:w.cell? a=some x) (hz:w.frozen? a=false) :
  CallsD prog 173 #[.pointer (some a),.bool true] u w fun e u' w'=>u'=u∧(e=.returned (.tuple #[])∧w'=w.drew.setCell a (.int .u32 1)):=by
 have hc':w.drew.cell? a=some x:=by go_simp
 have hz':w.drew.frozen? a=false:=by go_simp
 have hst:=run_call_store (P:=prog) func202 (by kernel_rfl) (by kernel_rfl) (by kernel_rfl) (by kernel_rfl) (k:=.u32) (y:=1) hc' hz'
 go_enter_d func173,ntmps173
 go_wp2
 go_region_calls
 all_goals (go_end0;exact⟨rfl,rfl⟩)
theorem sC (a:Addr) (w:World) (hc:w.cell? a=some (.int .i32 1)) (hz:w.frozen? a=false) :
  Calls prog 155 #[.pointer (some a)] w fun e w'=>e=.returned (.tuple #[])∧w'=w.setCell a (.int .i32 0):=by
 have hd:=disable
 have he:=enable
 have hr:=releaseMerge
 have hadd:=run_call_add (P:=prog) func192 (by kernel_rfl) (by kernel_rfl) (by kernel_rfl) .i32 (by kernel_rfl) (y:=-1) (s:=0) hc hz (by simp[go_sem];rfl)
 have hcv:=run_convert_to_unsafe (P:=prog) (src:=275) (dst:=146) underlying275 underlying146 (by kernel_rfl) hc
 go_enter func155,ntmps155
 go_wp2
 go_end0
 exact⟨rfl,rfl⟩
theorem co (a:Addr) (u:FrameMode) (w:World) (hc:w.cell? a=some (.int .i32 1)) (hz:w.frozen? a=false) :
  CallsD prog 128 #[.pointer (some a)] u w fun e u' w'=>u'=u∧(e=.returned (.tuple #[])∧w'=w.setCell a (.int .i32 0)):=by
 go_enter_d func128,ntmps128
 go_wp2_with (go_at_call 155;refine (sC a _ hc hz).mono ?_;rintro e w' ⟨rfl,rfl⟩)
 go_end0
 exact⟨rfl,rfl⟩
theorem uA (a:Addr) (w:World) (hc:w.cell? a=some (.int .i32 0)) (hz:w.frozen? a=false) :
  Calls prog 154 #[.pointer (some a)] w fun e w'=>e=.returned (.tuple #[])∧w'=w.setCell a (.int .i32 1):=by
 have hd:=disable
 have he:=enable
 have ha:=acquire
 have hcas:=run_call_cas_hit (P:=prog) func187 (by kernel_rfl) (by kernel_rfl) (by kernel_rfl) .i32 (by kernel_rfl) (y:=1) hc hz
 have hc':(w.setCell a (.int .i32 1)).cell? a=some (.int .i32 1):=World.cell?_setCell_same w a _ hc
 have hcv:=run_convert_to_unsafe (P:=prog) (src:=275) (dst:=146) underlying275 underlying146 (by kernel_rfl) hc'
 go_enter func154,ntmps154
 go_wp2
 first | go_end0 | (simp only[Exit.inBlock,Exit.then];refine bodyPost_ret (results_none rfl _ _ _) rfl ?_) | refine bodyPost_ret (results_none rfl _ _ _) rfl ?_
 exact⟨rfl,rfl⟩
theorem eK (a:Addr) (w:World) (hc:w.cell? a=some (.int .i32 0)) (hz:w.frozen? a=false) :
  Calls prog 127 #[.pointer (some a)] w fun e w'=>e=.returned (.tuple #[])∧w'=w.setCell a (.int .i32 1):=by
 go_enter func127,ntmps127
 go_wp2_with (go_at_call 154;refine (uA a _ hc hz).mono ?_;rintro e w' ⟨rfl,rfl⟩)
 go_end0
 exact⟨rfl,rfl⟩
theorem s9 (F:FuncId) (b o:Nat) (cap:Array Value) (w:World) (Post:World→Prop) (hcf:∀ w,(callFunc F cap).run prog w=.ok (.enter F cap) w)
  (h0:w.cell? ⟨b,o,none⟩=some (.int .u32 0)) (h1:w.cell? ⟨b,o+1,none⟩=some (.int .i32 0)) (f1:w.frozen? ⟨b,o+1,none⟩=false)
  (hf:Calls prog F cap (w.setCell ⟨b,o+1,none⟩ (.int .i32 1)) fun e w2=>e=.returned (.tuple #[])∧Post w2)
  (hP:∀ w2,Post w2→w2.cell? ⟨b,o,none⟩=some (.int .u32 0)∧w2.cell? ⟨b,o+1,none⟩=some (.int .i32 1)∧w2.frozen? ⟨b,o,none⟩=false∧w2.frozen? ⟨b,o+1,none⟩=false) :
  Calls prog 204 #[aa b o,.func (.func F) #[] cap] w fun e w'=>e=.returned (.tuple #[]) ∧
   ∃ w2,Post w2∧w'=(w2.drew.setCell ⟨b,o,none⟩ (.int .u32 1)).setCell ⟨b,o+1,none⟩ (.int .i32 0):=by
 have h01:(w.setCell ⟨b,o+1,none⟩ (.int .i32 1)).cell? ⟨b,o,none⟩=some (.int .u32 0):=(World.cell?_setCell_other _ ⟨b,o+1,none⟩ ⟨b,o,none⟩ _ (by simp)).trans h0
 have hld:=pE ⟨b,o,none⟩ 0 _ h01
 go_enter_defers func204,ntmps204
 go_wp2_with (first | (go_at_call 127;refine (eK ⟨b,o+1,none⟩ _ h1 f1).mono ?_;rintro e w' ⟨rfl,rfl⟩) | (go_at_call 172;refine hld.mono ?_;rintro e w' ⟨rfl,rfl⟩))
 refine hf.mono ?_
 rintro e w2 ⟨rfl,hpost⟩
 obtain⟨c0,c1,z0,z1⟩:=hP w2 hpost
 clear hf hP hld hcf
 go_wp2_with fail
 refine leaves_cons (f:=173) (args:=#[aa b o,.bool true]) (by simp) (by simp[go_sem]) ?_
 refine (il ⟨b,o,none⟩ (.int .u32 0) .returning _ c0 z0).mono ?_
 rintro e u' w'' ⟨rfl,rfl,rfl⟩
 refine leaves_cons (f:=128) (args:=#[aa b (o+1)]) (by simp[settle]) (by simp[go_sem]) ?_
 refine (co ⟨b,o+1,none⟩ _ _ ?_ (by simp[z1])).mono ?_
 ·refine (World.cell?_setCell_other _ ⟨b,o,none⟩ ⟨b,o+1,none⟩ _ (by simp)).trans ?_
  rw[World.cell?_drew];exact c1
 rintro e u' w'' ⟨rfl,rfl,rfl⟩
 simp[Leaves,settle,results,results204]
 exact⟨w2,hpost,rfl⟩
theorem uu (F:FuncId) (b o:Nat) (cap:Array Value) (w:World) (Post:World→Prop) (hcf:∀ w,(callFunc F cap).run prog w=.ok (.enter F cap) w)
  (h0:w.cell? ⟨b,o,none⟩=some (.int .u32 0)) (h1:w.cell? ⟨b,o+1,none⟩=some (.int .i32 0)) (f1:w.frozen? ⟨b,o+1,none⟩=false)
  (hf:Calls prog F cap (w.setCell ⟨b,o+1,none⟩ (.int .i32 1)) fun e w2=>e=.returned (.tuple #[])∧Post w2)
  (hP:∀ w2,Post w2→w2.cell? ⟨b,o,none⟩=some (.int .u32 0)∧w2.cell? ⟨b,o+1,none⟩=some (.int .i32 1)∧w2.frozen? ⟨b,o,none⟩=false∧w2.frozen? ⟨b,o+1,none⟩=false) :
  Calls prog 174 #[aa b o,.func (.func F) #[] cap] w fun e w'=>e=.returned (.tuple #[]) ∧
   ∃ w2,Post w2∧w'=(w2.drew.setCell ⟨b,o,none⟩ (.int .u32 1)).setCell ⟨b,o+1,none⟩ (.int .i32 0):=by
 have hS:=s9 F b o cap w Post hcf h0 h1 f1 hf hP
 have hld:=pE ⟨b,o,none⟩ 0 _ h0
 clear hf hP hcf
 go_enter func174,ntmps174
 go_wp2_with (first | (go_at_call 172;refine hld.mono ?_;rintro e w' ⟨rfl,rfl⟩) | (go_at_call 204;refine hS.mono ?_;rintro e w' ⟨rfl,h⟩))
 go_end0
 exact⟨rfl,h⟩
theorem sd (a:Addr) (fv:Value) (w:World) (h0:w.cell? a=some (.int .u32 1)) :
  Calls prog 174 #[.pointer (some a),fv] w fun e w'=>e=.returned (.tuple #[])∧w'=w:=by
 have hld:=pE a 1 _ h0
 go_enter func174,ntmps174
 go_wp2_with (go_at_call 172;refine hld.mono ?_;rintro e w' ⟨rfl,rfl⟩)
 go_end0
 exact⟨rfl,rfl⟩
end Go.Proofs.YtdpahjfekoikiaaGreat
