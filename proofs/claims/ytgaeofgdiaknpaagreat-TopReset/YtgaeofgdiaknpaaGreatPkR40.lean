/- Part 41: contracts that the proof rests on. -/
import Derived.Test.YtgaeofgdiaknpaaGreatPkR38
set_option maxHeartbeats 64000000
namespace Go.Proofs.YtgaeofgdiaknpaaGreat
set_option maxRecDepth 100000
open Go.RowKit Go.Maps
set_option linter.unusedVariables false
theorem info_conY:(Tryz.prog.info? 73).map (fun i=>(i.zero,i.size,i.bytes))=some (some (.agg #[.pointer none,.pointer none,.pointer none]),3,24):=by kernel_rfl
theorem held_two {P:Program} {md:Region.Mode} {ops:Array Oper} {Q:Exit→Act→World→Prop} {S:World→Prop} {fuel:Nat} {l:Array Bool} {a:Act} {w:World} {i j:Nat} (hr:Region.ready md ops l=[i,j])
  (h1:wpOp P ops Q i (fun a' w'=>S w'∧wpAnyH P md ops Q S fuel (l.setIfInBounds i true) a' w') a w) (h2:wpOp P ops Q j (fun a' w'=>S w'∧wpAnyH P md ops Q S fuel (l.setIfInBounds j true) a' w') a w):wpAnyH P md ops Q S (fuel+1) l a w:=
 wpAnyH_all hr (by simp) (fun k hk=>by
  rcases List.mem_cons.1 hk with rfl | hk
  ·exact h1
  ·obtain rfl:=List.mem_singleton.1 hk
   exact h2)
theorem app_runC {o:Oper} {a:Act} {w w':World} {v v' u:Value} {s x:Operand} (hop:o.op=Op.call { callee:=Callee.builtin Builtin.append,args:=#[s,x],argTypes:=#[65,65] }) (hty:o.type=65) (hs:a.eval s=v) (hx:a.eval x=u) (hr:(Builtin.append_ #[65,65] 65 #[v,u]).run Tryz.prog w=.ok v' w'):(execOp a.eval o).run Tryz.prog w=.ok (.value v') w':=by
 unfold execOp
 simp only[hop,hty,resolve,invoke,builtin,Sem.run_bind,Sem.run_pure,Result.andThen_ok,List.map_toArray,List.map_cons,List.map_nil,hs,hx,hr]
end Go.Proofs.YtgaeofgdiaknpaaGreat
