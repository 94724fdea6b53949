/-
  errors.As at what Check answers.
-/
import Derived.Test.YtifhgjpglicjbaaGreatDoorLawA
namespace Go.Proofs.YtifhgjpglicjbaaGreatDoor
open Go.Proofs.Tryz
open Go.RowKit Go.Extern.Stop Go.Stop Go.Extern
theorem Tryz.methodKind (h:Value)(w:World):(Go.method 533 135 (.agg #[h]) "Kind").run prog w=.ok (240,h) w:=by kernel_rfl
theorem Tryz.kindW (w:World):((ReflectliteType.abiMethod fun t=>(fun a:Nat=>Value.int IntKind.u8 (a:Int)) <$> Rtype.kind t) #[.pointer (some ⟨15,116,none⟩)]).run prog w=.ok (.int .u8 25) w:=by kernel_rfl
theorem rlm {α:Type}(v:Value)(f:Value→α)(g:Array Value→α):ReflectliteValue.method.match_2 (fun _=>α) #[v] f g=f v:=rfl
theorem Tryz.methodElem (h:Value)(w:World):(Go.method 533 135 (.agg #[h]) "Elem").run prog w=.ok (254,.agg #[h]) w:=by kernel_rfl
theorem Tryz.methodImplements (h:Value)(w:World):(Go.method 533 135 (.agg #[h]) "Implements").run prog w=.ok (255,.agg #[h]) w:=by kernel_rfl
theorem Tryz.methodAssignableTo (h:Value)(w:World):(Go.method 533 135 (.agg #[h]) "AssignableTo").run prog w=.ok (252,.agg #[h]) w:=by kernel_rfl
theorem Tryz.implementsW (w:World):(ReflectliteType.relation "Implements" ReflectliteType.implements_ #[.agg #[.pointer (some ⟨15,116,none⟩)],.iface 135 (.agg #[.pointer (some ⟨15,28,none⟩)])]).run prog w=.ok (.bool true) w:=by kernel_rfl
theorem Tryz.typeOfW (v:Value)(w:World):(ReflectliteType.typeOf #[.iface 116 v]).run prog w=.ok (.iface 135 (.agg #[.pointer (some ⟨15,116,none⟩)])) w:=by kernel_rfl
theorem Tryz.assignableW (w:World):(ReflectliteType.relation "AssignableTo" ReflectliteType.assignableTo #[.agg #[.pointer (some ⟨15,116,none⟩)],.iface 135 (.agg #[.pointer (some ⟨15,116,none⟩)])]).run prog w=.ok (.bool true) w:=by kernel_rfl
theorem Tryz.valueOfW (x y:Value)(w:World):(ReflectliteValue.unpack (.iface 116 (.agg #[x,y]))).run prog w
  = .ok (.agg #[.pointer (some ⟨15,116,none⟩),.pointer (some ⟨w.heap.size,0,none⟩),.int .u64 153]) (w.alloc (.cells #[x,y] 116)):=by kernel_rfl
theorem Tryz.mkW (p:Addr)(w:World):(ReflectliteValue.mk 116 p ReflectliteValue.flagAddr).run prog w=.ok (.agg #[.pointer (some ⟨15,116,none⟩),.pointer (some p),.int .u64 409]) w:=by kernel_rfl
theorem Tryz.partsWa (a:Addr)(w:World):(ReflectliteValue.parts (.agg #[.pointer (some ⟨15,116,none⟩),.pointer (some a),.int .u64 409])).run prog w=.ok (some (116,a,409)) w:=by kernel_rfl
theorem Tryz.partsW (a:Addr)(w:World):(ReflectliteValue.parts (.agg #[.pointer (some ⟨15,116,none⟩),.pointer (some a),.int .u64 153])).run prog w=.ok (some (116,a,153)) w:=by kernel_rfl
theorem Tryz.directW (w:World):(Rtype.directlyAssignable 116 116).run prog w=.ok true w:=by kernel_rfl
theorem Tryz.sizeW (w:World):(sizeOf 116).run prog w=.ok 2 w:=by kernel_rfl
theorem rls {α:Type}(v x:Value)(f:Value→Value→α)(g:Array Value→α):ReflectliteValue.set.match_3 (fun _=>α) #[v,x] f g=f v x:=rfl
theorem Tryz.isAggW (w:World):(isAgg 116).run prog w=.ok true w:=by kernel_rfl
theorem Tryz.setW (tB bB:Nat)(p:Int)(a:Addr)(o0 o1:Value)(W:World)(hb0:W.cell? ⟨bB,0,none⟩=some (.int .i64 p))(hb1:W.cell? ⟨bB,1,none⟩=some (errVal a))(ht0:W.cell? ⟨tB,0,none⟩=some o0)(ht1:W.cell? ⟨tB,1,none⟩=some o1)(hf0:W.frozen? ⟨tB,0,none⟩=false)(hf1:W.frozen? ⟨tB,1,none⟩=false):
  (ReflectliteValue.set #[.agg #[.pointer (some ⟨15,116,none⟩),.pointer (some ⟨tB,0,none⟩),.int .u64 409],.agg #[.pointer (some ⟨15,116,none⟩),.pointer (some ⟨bB,0,none⟩),.int .u64 153]]).run prog W
   = .ok (.tuple #[]) ((W.setCell ⟨tB,0,none⟩ (.int .i64 p)).setCell ⟨tB,1,none⟩ (errVal a)):=by
 delta ReflectliteValue.set
 rw[rls]
 simp only[Sem.run_bind,Tryz.partsWa,Tryz.partsW,Result.andThen]
 simp[ReflectliteValue.flagAddr,loadVar,Tryz.directW,Result.andThen,storeVar,hb0,hb1,ht0,ht1,hf0,hf1,go_sem,loadCellsFrom,Value.cells,storeCells,Addr.add]
end Go.Proofs.YtifhgjpglicjbaaGreatDoor
