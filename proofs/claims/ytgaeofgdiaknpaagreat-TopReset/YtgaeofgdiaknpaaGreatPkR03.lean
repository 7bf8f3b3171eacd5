/- Part 4: contracts that the proof rests on. -/
import Derived.Test.YtgaeofgdiaknpaaGreatProg
import Derived.WalkKit
import Derived.WalkSpells
import Derived.OpenShut
import Derived.Defers
import Derived.Recover
import Derived.Laws.BitsAllLaws
import Derived.Laws.Pointers
import Derived.Laws.LoneSync
import Derived.Laws.NewBlocks
import Derived.RegionTactic
import Derived.RegionCalls
import Derived.ChangeAlike
import Derived.Deep.DeepCutAuto
import Derived.Deep.RegionWith
import Derived.Deep.QuietTactic
set_option maxHeartbeats 64000000
namespace Go.Proofs.YtgaeofgdiaknpaaGreat
set_option maxRecDepth 100000
open Go.RowKit
theorem disable (w:World):(callFunc 156 #[]).run Tryz.prog w=.ok (.value (.tuple #[])) w:=run_call_mark0 Tryz.func156 (by kernel_rfl) (by kernel_rfl) (by kernel_rfl) .disable (by kernel_rfl) w
theorem enable (w:World):(callFunc 158 #[]).run Tryz.prog w=.ok (.value (.tuple #[])) w:=run_call_mark0 Tryz.func158 (by kernel_rfl) (by kernel_rfl) (by kernel_rfl) .enable (by kernel_rfl) w
theorem acquire (a:Addr) (w:World):(callFunc 159 #[.pointer (some a)]).run Tryz.prog w=.ok (.value (.tuple #[])) w:=run_call_marked Tryz.func159 (by kernel_rfl) (by kernel_rfl) (by kernel_rfl) .acquire (by kernel_rfl) a w
theorem releaseMerge (a:Addr) (w:World):(callFunc 161 #[.pointer (some a)]).run Tryz.prog w=.ok (.value (.tuple #[])) w:=run_call_marked Tryz.func161 (by kernel_rfl) (by kernel_rfl) (by kernel_rfl) .releaseMerge (by kernel_rfl) a w
theorem bload (a:Addr) (d:Int) (w:World) (h0:w.cell? a=some (.int .u32 d)) :
  Calls Tryz.prog 164 #[.pointer (some a)] w fun e w'=>e=.returned (.bool (d != 0))∧w'=w:=by
 have hl:=run_call_load (P:=Tryz.prog) Tryz.func196 (by kernel_rfl) (by kernel_rfl) (by kernel_rfl) .u32 (by kernel_rfl) h0
 go_enter Tryz.func164,Tryz.ntmps164
 go_wp2
 go_ret
 exact⟨rfl,rfl⟩
theorem store_deferred (a:Addr) (x:Value) (u:FrameMode) (w:World) (hc:w.cell? a=some x) (hz:w.frozen? a=false) :
  CallsD Tryz.prog 123 #[.pointer (some a),.bool true] u w fun e u' w'=>u'=u∧(e=.returned (.tuple #[])∧w'=w.drew.setCell a (.int .u32 1)):=by
 have hc':w.drew.cell? a=some x:=by go_simp
 have hz':w.drew.frozen? a=false:=by go_simp
 have hst:=run_call_store (P:=Tryz.prog) Tryz.func154 (by kernel_rfl) (by kernel_rfl) (by kernel_rfl) (by kernel_rfl) (k:=.u32) (y:=1) hc' hz'
 go_enter_d Tryz.func123,Tryz.ntmps123
 go_wp2
 go_region_calls
 all_goals (go_end0;exact⟨rfl,rfl⟩)
set_option maxRecDepth 100000 in
theorem iunlock (a:Addr) (w:World) (hc:w.cell? a=some (.int .i32 1)) (hz:w.frozen? a=false) :
  Calls Tryz.prog 125 #[.pointer (some a)] w fun e w'=>e=.returned (.tuple #[])∧w'=w.setCell a (.int .i32 0):=by
 have hd:=disable
 have he:=enable
 have hr:=releaseMerge
 have hadd:=run_call_add (P:=Tryz.prog) Tryz.func162 (by kernel_rfl) (by kernel_rfl) (by kernel_rfl) .i32 (by kernel_rfl) (y:=-1) (s:=0) hc hz (by simp[go_sem];rfl)
 have hcv:=run_convert_to_unsafe (P:=Tryz.prog) (src:=260) (dst:=143) Tryz.underlying260 Tryz.underlying143 (by kernel_rfl) hc
 go_enter Tryz.func125,Tryz.ntmps125
 go_wp2
 go_end0
 exact⟨rfl,rfl⟩
theorem unlock_deferred (a:Addr) (u:FrameMode) (w:World) (hc:w.cell? a=some (.int .i32 1)) (hz:w.frozen? a=false) :
  CallsD Tryz.prog 98 #[.pointer (some a)] u w fun e u' w'=>u'=u∧(e=.returned (.tuple #[])∧w'=w.setCell a (.int .i32 0)):=by
 go_enter_d Tryz.func98,Tryz.ntmps98
 go_wp2_with (go_at_call 125;refine (iunlock a _ hc hz).mono ?_;rintro e w' ⟨rfl,rfl⟩)
 go_end0
 exact⟨rfl,rfl⟩
set_option maxRecDepth 100000 in
theorem ilock (a:Addr) (w:World) (hc:w.cell? a=some (.int .i32 0)) (hz:w.frozen? a=false) :
  Calls Tryz.prog 124 #[.pointer (some a)] w fun e w'=>e=.returned (.tuple #[])∧w'=w.setCell a (.int .i32 1):=by
 have hd:=disable
 have he:=enable
 have ha:=acquire
 have hcas:=run_call_cas_hit (P:=Tryz.prog) Tryz.func157 (by kernel_rfl) (by kernel_rfl) (by kernel_rfl) .i32 (by kernel_rfl) (y:=1) hc hz
 have hc':(w.setCell a (.int .i32 1)).cell? a=some (.int .i32 1):=World.cell?_setCell_same w a _ hc
 have hcv:=run_convert_to_unsafe (P:=Tryz.prog) (src:=260) (dst:=143) Tryz.underlying260 Tryz.underlying143 (by kernel_rfl) hc'
 go_enter Tryz.func124,Tryz.ntmps124
 go_wp2
 first | go_end0 | (simp only[Exit.inBlock,Exit.then];refine bodyPost_ret (results_none rfl _ _ _) rfl ?_) | refine bodyPost_ret (results_none rfl _ _ _) rfl ?_
 exact⟨rfl,rfl⟩
theorem lock_free (a:Addr) (w:World) (hc:w.cell? a=some (.int .i32 0)) (hz:w.frozen? a=false) :
  Calls Tryz.prog 97 #[.pointer (some a)] w fun e w'=>e=.returned (.tuple #[])∧w'=w.setCell a (.int .i32 1):=by
 go_enter Tryz.func97,Tryz.ntmps97
 go_wp2_with (go_at_call 124;refine (ilock a _ hc hz).mono ?_;rintro e w' ⟨rfl,rfl⟩)
 go_end0
 exact⟨rfl,rfl⟩
set_option maxRecDepth 100000 in
theorem slow_cl (F:FuncId) (b o:Nat) (cap:Array Value) (w:World) (Post:World→Prop) (hcf:∀ w,(callFunc F cap).run Tryz.prog w=.ok (.enter F cap) w)
  (h0:w.cell? ⟨b,o,none⟩=some (.int .u32 0)) (h1:w.cell? ⟨b,o+1,none⟩=some (.int .i32 0)) (f1:w.frozen? ⟨b,o+1,none⟩=false)
  (hf:Calls Tryz.prog F cap (w.setCell ⟨b,o+1,none⟩ (.int .i32 1)) fun e w2=>e=.returned (.tuple #[])∧Post w2)
  (hP:∀ w2,Post w2→w2.cell? ⟨b,o,none⟩=some (.int .u32 0)∧w2.cell? ⟨b,o+1,none⟩=some (.int .i32 1)∧w2.frozen? ⟨b,o,none⟩=false∧w2.frozen? ⟨b,o+1,none⟩=false) :
  Calls Tryz.prog 211 #[.pointer (some ⟨b,o,none⟩),.func (.func F) #[] cap] w fun e w'=>e=.returned (.tuple #[]) ∧
   ∃ w2,Post w2∧w'=(w2.drew.setCell ⟨b,o,none⟩ (.int .u32 1)).setCell ⟨b,o+1,none⟩ (.int .i32 0):=by
 have h01:(w.setCell ⟨b,o+1,none⟩ (.int .i32 1)).cell? ⟨b,o,none⟩=some (.int .u32 0):=(World.cell?_setCell_other _ ⟨b,o+1,none⟩ ⟨b,o,none⟩ _ (by simp)).trans h0
 have hld:=bload ⟨b,o,none⟩ 0 _ h01
 go_enter_defers Tryz.func211,Tryz.ntmps211
 go_wp2_with (first | (go_at_call 97;refine (lock_free ⟨b,o+1,none⟩ _ h1 f1).mono ?_;rintro e w' ⟨rfl,rfl⟩) | (go_at_call 164;refine hld.mono ?_;rintro e w' ⟨rfl,rfl⟩))
 refine hf.mono ?_
 rintro e w2 ⟨rfl,hpost⟩
 obtain⟨c0,c1,z0,z1⟩:=hP w2 hpost
 clear hf hP hld hcf
 go_wp2_with fail
 refine leaves_cons (f:=123) (args:=#[.pointer (some ⟨b,o,none⟩),.bool true]) (by simp) (by simp[go_sem]) ?_
 refine (store_deferred ⟨b,o,none⟩ (.int .u32 0) .returning _ c0 z0).mono ?_
 rintro e u' w'' ⟨rfl,rfl,rfl⟩
 refine leaves_cons (f:=98) (args:=#[.pointer (some ⟨b,o+1,none⟩)]) (by simp[settle]) (by simp[go_sem]) ?_
 refine (unlock_deferred ⟨b,o+1,none⟩ _ _ ?_ (by simp[z1])).mono ?_
 ·refine (World.cell?_setCell_other _ ⟨b,o,none⟩ ⟨b,o+1,none⟩ _ (by simp)).trans ?_
  rw[World.cell?_drew];exact c1
 rintro e u' w'' ⟨rfl,rfl,rfl⟩
 simp[Leaves,settle,results,Tryz.results211]
 exact⟨w2,hpost,rfl⟩
set_option maxRecDepth 100000 in
theorem do_cl (F:FuncId) (b o:Nat) (cap:Array Value) (w:World) (Post:World→Prop) (hcf:∀ w,(callFunc F cap).run Tryz.prog w=.ok (.enter F cap) w)
  (h0:w.cell? ⟨b,o,none⟩=some (.int .u32 0)) (h1:w.cell? ⟨b,o+1,none⟩=some (.int .i32 0)) (f1:w.frozen? ⟨b,o+1,none⟩=false)
  (hf:Calls Tryz.prog F cap (w.setCell ⟨b,o+1,none⟩ (.int .i32 1)) fun e w2=>e=.returned (.tuple #[])∧Post w2)
  (hP:∀ w2,Post w2→w2.cell? ⟨b,o,none⟩=some (.int .u32 0)∧w2.cell? ⟨b,o+1,none⟩=some (.int .i32 1)∧w2.frozen? ⟨b,o,none⟩=false∧w2.frozen? ⟨b,o+1,none⟩=false) :
  Calls Tryz.prog 197 #[.pointer (some ⟨b,o,none⟩),.func (.func F) #[] cap] w fun e w'=>e=.returned (.tuple #[]) ∧
   ∃ w2,Post w2∧w'=(w2.drew.setCell ⟨b,o,none⟩ (.int .u32 1)).setCell ⟨b,o+1,none⟩ (.int .i32 0):=by
 have hS:=slow_cl F b o cap w Post hcf h0 h1 f1 hf hP
 have hld:=bload ⟨b,o,none⟩ 0 _ h0
 clear hf hP hcf
 go_enter Tryz.func197,Tryz.ntmps197
 go_wp2_with (first | (go_at_call 164;refine hld.mono ?_;rintro e w' ⟨rfl,rfl⟩) | (go_at_call 211;refine hS.mono ?_;rintro e w' ⟨rfl,h⟩))
 go_end0
 exact⟨rfl,h⟩
theorem do_done (a:Addr) (fv:Value) (w:World) (h0:w.cell? a=some (.int .u32 1)) :
  Calls Tryz.prog 197 #[.pointer (some a),fv] w fun e w'=>e=.returned (.tuple #[])∧w'=w:=by
 have hld:=bload a 1 _ h0
 go_enter Tryz.func197,Tryz.ntmps197
 go_wp2_with (go_at_call 164;refine hld.mono ?_;rintro e w' ⟨rfl,rfl⟩)
 go_end0
 exact⟨rfl,rfl⟩
end Go.Proofs.YtgaeofgdiaknpaaGreat
