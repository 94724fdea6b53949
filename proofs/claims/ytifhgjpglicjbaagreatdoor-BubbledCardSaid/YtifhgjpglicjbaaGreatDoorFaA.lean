/-
  errors.As at a fault: At is found in an At, and in a Why it is not.
-/
import Derived.Test.YtifhgjpglicjbaaGreatDoorLawB
set_option maxHeartbeats 4000000
namespace Go.Proofs.YtifhgjpglicjbaaGreatDoor
open Go.Proofs.Tryz
open Go.RowKit Go.Extern.Stop Go.Stop Go.Extern
abbrev whyB (b:ByteArray):Value:=.iface 69 (.string b)
abbrev atV2 (z:Int)(b:ByteArray):Value:=.iface 186 (.agg #[.int .i64 z,whyB b])
theorem Tryz.fa_valueOfP (t:Addr)(w:World):(ReflectliteValue.unpack (.iface 304 (.pointer (some t)))).run prog w
  = .ok (.agg #[.pointer (some ⟨15,304,none⟩),.pointer (some ⟨w.heap.size,0,none⟩),.int .u64 150]) (w.alloc (.cells #[.pointer (some t)] 304)):=by kernel_rfl
theorem Tryz.fa_typeP (a:Addr)(w:World):(ReflectliteValue.methodAny (ReflectliteValue.valueError "reflectlite.Value.Type" 0) (fun t _ _ _=>ReflectliteType.toType t) #[.agg #[.pointer (some ⟨15,304,none⟩),.pointer (some a),.int .u64 150]]).run prog w
  = .ok (.iface 135 (.agg #[.pointer (some ⟨15,304,none⟩)])) w:=by kernel_rfl
theorem Tryz.fa_kindP (w:World):((ReflectliteType.abiMethod fun t=>(fun a:Nat=>Value.int IntKind.u8 (a:Int)) <$> Rtype.kind t) #[.pointer (some ⟨15,304,none⟩)]).run prog w=.ok (.int .u8 22) w:=by kernel_rfl
theorem Tryz.fa_kindW (w:World):((ReflectliteType.abiMethod fun t=>(fun a:Nat=>Value.int IntKind.u8 (a:Int)) <$> Rtype.kind t) #[.pointer (some ⟨15,186,none⟩)]).run prog w=.ok (.int .u8 25) w:=by kernel_rfl
theorem Tryz.fa_partsP (a:Addr)(w:World):(ReflectliteValue.parts (.agg #[.pointer (some ⟨15,304,none⟩),.pointer (some a),.int .u64 150])).run prog w=.ok (some (304,a,150)) w:=by kernel_rfl
theorem Tryz.fa_isNilP (a p:Addr)(W:World)(ha:W.cell? a=some (.pointer (some p))):
  (ReflectliteValue.method (ReflectliteValue.valueError "reflectlite.Value.IsNil" 0) ReflectliteValue.isNil #[.agg #[.pointer (some ⟨15,304,none⟩),.pointer (some a),.int .u64 150]]).run prog W=.ok (.bool false) W:=by
 delta ReflectliteValue.method
 rw[rlm]
 simp only[Sem.run_bind,Tryz.fa_partsP,Result.andThen]
 simp[ReflectliteValue.isNil,loadVar,isAgg,underlying,underlying304,ha,Result.andThen]
theorem Tryz.fa_elemP (w:World):(ReflectliteType.method ReflectliteType.elem #[.agg #[.pointer (some ⟨15,304,none⟩)]]).run prog w=.ok (.iface 135 (.agg #[.pointer (some ⟨15,186,none⟩)])) w:=by kernel_rfl
theorem Tryz.fa_implementsW (w:World):(ReflectliteType.relation "Implements" ReflectliteType.implements_ #[.agg #[.pointer (some ⟨15,186,none⟩)],.iface 135 (.agg #[.pointer (some ⟨15,28,none⟩)])]).run prog w=.ok (.bool true) w:=by kernel_rfl
theorem Tryz.fa_typeOfW (v:Value)(w:World):(ReflectliteType.typeOf #[.iface 186 v]).run prog w=.ok (.iface 135 (.agg #[.pointer (some ⟨15,186,none⟩)])) w:=by kernel_rfl
theorem Tryz.fa_assignableW (w:World):(ReflectliteType.relation "AssignableTo" ReflectliteType.assignableTo #[.agg #[.pointer (some ⟨15,186,none⟩)],.iface 135 (.agg #[.pointer (some ⟨15,186,none⟩)])]).run prog w=.ok (.bool true) w:=by kernel_rfl
theorem Tryz.fa_valueOfW (x y:Value)(w:World):(ReflectliteValue.unpack (.iface 186 (.agg #[x,y]))).run prog w
  = .ok (.agg #[.pointer (some ⟨15,186,none⟩),.pointer (some ⟨w.heap.size,0,none⟩),.int .u64 153]) (w.alloc (.cells #[x,y] 186)):=by kernel_rfl
theorem Tryz.fa_elemOfP (w:World):(Rtype.elem? 304).run prog w=.ok (some 186) w:=by kernel_rfl
theorem Tryz.fa_mkW (p:Addr)(w:World):(ReflectliteValue.mk 186 p ReflectliteValue.flagAddr).run prog w=.ok (.agg #[.pointer (some ⟨15,186,none⟩),.pointer (some p),.int .u64 409]) w:=by kernel_rfl
theorem Tryz.fa_elemVP (a p:Addr)(W:World)(ha:W.cell? a=some (.pointer (some p))):
  (ReflectliteValue.method (ReflectliteValue.valueError "reflectlite.Value.Elem" 0) ReflectliteValue.elem #[.agg #[.pointer (some ⟨15,304,none⟩),.pointer (some a),.int .u64 150]]).run prog W
   = .ok (.agg #[.pointer (some ⟨15,186,none⟩),.pointer (some p),.int .u64 409]) W:=by
 delta ReflectliteValue.method
 rw[rlm]
 simp only[Sem.run_bind,Tryz.fa_partsP,Result.andThen]
 simp[ReflectliteValue.elem,loadVar,isAgg,underlying,underlying304,ha,Result.andThen,Tryz.fa_elemOfP,Tryz.fa_mkW]
theorem Tryz.fa_partsWa (a:Addr)(w:World):(ReflectliteValue.parts (.agg #[.pointer (some ⟨15,186,none⟩),.pointer (some a),.int .u64 409])).run prog w=.ok (some (186,a,409)) w:=by kernel_rfl
theorem Tryz.fa_partsW (a:Addr)(w:World):(ReflectliteValue.parts (.agg #[.pointer (some ⟨15,186,none⟩),.pointer (some a),.int .u64 153])).run prog w=.ok (some (186,a,153)) w:=by kernel_rfl
theorem Tryz.fa_directW (w:World):(Rtype.directlyAssignable 186 186).run prog w=.ok true w:=by kernel_rfl
theorem Tryz.fa_sizeW (w:World):(sizeOf 186).run prog w=.ok 2 w:=by kernel_rfl
theorem Tryz.fa_isAggW (w:World):(isAgg 186).run prog w=.ok true w:=by kernel_rfl
theorem Tryz.fa_setW (tB bB:Nat)(p:Int)(b:ByteArray)(o0 o1:Value)(W:World)(hb0:W.cell? ⟨bB,0,none⟩=some (.int .i64 p))(hb1:W.cell? ⟨bB,1,none⟩=some (whyB b))(ht0:W.cell? ⟨tB,0,none⟩=some o0)(ht1:W.cell? ⟨tB,1,none⟩=some o1)(hf0:W.frozen? ⟨tB,0,none⟩=false)(hf1:W.frozen? ⟨tB,1,none⟩=false):
  (ReflectliteValue.set #[.agg #[.pointer (some ⟨15,186,none⟩),.pointer (some ⟨tB,0,none⟩),.int .u64 409],.agg #[.pointer (some ⟨15,186,none⟩),.pointer (some ⟨bB,0,none⟩),.int .u64 153]]).run prog W
   = .ok (.tuple #[]) ((W.setCell ⟨tB,0,none⟩ (.int .i64 p)).setCell ⟨tB,1,none⟩ (whyB b)):=by
 delta ReflectliteValue.set
 rw[rls]
 simp only[Sem.run_bind,Tryz.fa_partsWa,Tryz.fa_partsW,Result.andThen]
 simp[ReflectliteValue.flagAddr,loadVar,Tryz.fa_directW,Result.andThen,storeVar,hb0,hb1,ht0,ht1,hf0,hf1,go_sem,loadCellsFrom,Value.cells,storeCells,Addr.add]
theorem asAt_hit (p:Int)(b:ByteArray)(t:Nat)(o0 o1:Value)(w:World)(hg:w.cell? ⟨9,0,none⟩=some (.iface 135 (.agg #[.pointer (some ⟨15,28,none⟩)])))(ht0:w.cell? ⟨t,0,none⟩=some o0)(ht1:w.cell? ⟨t,1,none⟩=some o1)(hf0:w.frozen? ⟨t,0,none⟩=false)(hf1:w.frozen? ⟨t,1,none⟩=false):
  Calls prog 146 #[atV2 p b,.iface 304 (.pointer (some ⟨t,0,none⟩))] w fun e w'=>e=.returned (.bool true)∧Touch (·=t) w w'∧w'.cell? ⟨t,0,none⟩=some (.int .i64 p):=by
 have h6:=@run_callFunc_extern prog 178 _ (fun args=>ReflectliteValue.unpack (args.getD 0 (.tuple #[]))) func178 (by kernel_rfl) (by kernel_rfl) (by kernel_rfl) (by kernel_rfl)
 have h7:=@run_callFunc_extern prog 179 _ (ReflectliteValue.methodAny (ReflectliteValue.valueError "reflectlite.Value.Type" 0) (fun t _ _ _=>ReflectliteType.toType t)) func179 (by kernel_rfl) (by kernel_rfl) (by kernel_rfl) (by kernel_rfl)
 have h8:=@run_callFunc_extern prog 180 _ (ReflectliteValue.method (ReflectliteValue.valueError "reflectlite.Value.IsNil" 0) ReflectliteValue.isNil) func180 (by kernel_rfl) (by kernel_rfl) (by kernel_rfl) (by kernel_rfl)
 have h27:=@run_callFunc_extern prog 240 _ (ReflectliteType.abiMethod fun t=>do pure (.int .u8 (←Rtype.kind t))) func240 (by kernel_rfl) (by kernel_rfl) (by kernel_rfl) (by kernel_rfl)
 have h37:=@run_callFunc_extern prog 254 _ (ReflectliteType.method ReflectliteType.elem) func254 (by kernel_rfl) (by kernel_rfl) (by kernel_rfl) (by kernel_rfl)
 have h38:=@run_callFunc_extern prog 255 _ (ReflectliteType.relation "Implements" ReflectliteType.implements_) func255 (by kernel_rfl) (by kernel_rfl) (by kernel_rfl) (by kernel_rfl)
 have h10:=@run_callFunc_extern prog 30 _ ReflectliteType.typeOf func30 (by kernel_rfl) (by kernel_rfl) (by kernel_rfl) (by kernel_rfl)
 have h35:=@run_callFunc_extern prog 252 _ (ReflectliteType.relation "AssignableTo" ReflectliteType.assignableTo) func252 (by kernel_rfl) (by kernel_rfl) (by kernel_rfl) (by kernel_rfl)
 have h11:=@run_callFunc_extern prog 204 _ (ReflectliteValue.method (ReflectliteValue.valueError "reflectlite.Value.Elem" 0) ReflectliteValue.elem) func204 (by kernel_rfl) (by kernel_rfl) (by kernel_rfl) (by kernel_rfl)
 have h12:=@run_callFunc_extern prog 205 _ ReflectliteValue.set func205 (by kernel_rfl) (by kernel_rfl) (by kernel_rfl) (by kernel_rfl)
 have tO:=Tryz.fa_typeOfW
 have mA:=Tryz.methodAssignableTo
 have a25:=Tryz.fa_assignableW
 have v25:=Tryz.fa_valueOfW
 have f6:=Tryz.fa_valueOfP
 have f7:=Tryz.fa_typeP
 have mK:=Tryz.methodKind
 have mE:=Tryz.methodElem
 have mI:=Tryz.methodImplements
 have k27:=Tryz.fa_kindP
 have k25:=Tryz.fa_kindW
 have e27:=Tryz.fa_elemP
 have i25:=Tryz.fa_implementsW
 have hlt:9<w.heap.size:=cell_lt hg
 have htl:t<w.heap.size:=cell_lt ht0
 have n8:=Tryz.fa_isNilP ⟨w.heap.size,0,none⟩ ⟨t,0,none⟩ ((w.alloc (.cells #[.pointer (some ⟨t,0,none⟩)] 304)).alloc (.cells #[.pointer (some ⟨15,304,none⟩),.pointer (some ⟨w.heap.size,0,none⟩),.int .u64 150] 335)) (by simp)
 have hg2:((w.alloc (.cells #[.pointer (some ⟨t,0,none⟩)] 304)).alloc (.cells #[.pointer (some ⟨15,304,none⟩),.pointer (some ⟨w.heap.size,0,none⟩),.int .u64 150] 335)).cell? ⟨9,0,none⟩=some (.iface 135 (.agg #[.pointer (some ⟨15,28,none⟩)])):=alloc_cell (alloc_cell hg)
 have el:=Tryz.fa_elemVP ⟨w.heap.size,0,none⟩ ⟨t,0,none⟩ (((w.alloc (.cells #[.pointer (some ⟨t,0,none⟩)] 304)).alloc (.cells #[.pointer (some ⟨15,304,none⟩),.pointer (some ⟨w.heap.size,0,none⟩),.int .u64 150] 335)).alloc (.cells #[.pointer (some ⟨15,304,none⟩),.pointer (some ⟨w.heap.size,0,none⟩),.int .u64 150] 335)) (by rw[World.cell?_alloc_lt _ _ ⟨w.heap.size,0,none⟩ (by simp;omega)];simp)
 have st:=Tryz.fa_setW t (w.heap.size+1+1+1) p b o0 o1 ((((w.alloc (.cells #[.pointer (some ⟨t,0,none⟩)] 304)).alloc (.cells #[.pointer (some ⟨15,304,none⟩),.pointer (some ⟨w.heap.size,0,none⟩),.int .u64 150] 335)).alloc (.cells #[.pointer (some ⟨15,304,none⟩),.pointer (some ⟨w.heap.size,0,none⟩),.int .u64 150] 335)).alloc (.cells #[.int .i64 p,whyB b] 186))
  (by rw[World.cell?_alloc_at _ _ _ _ (by simp)];rfl) (by rw[World.cell?_alloc_at _ _ _ _ (by simp)];rfl)
  (alloc_cell (alloc_cell (alloc_cell (alloc_cell ht0)))) (alloc_cell (alloc_cell (alloc_cell (alloc_cell ht1))))
  (by rw[World.frozen?_alloc_old _ _ _ (by simp;omega),World.frozen?_alloc_old _ _ _ (by simp;omega),World.frozen?_alloc_old _ _ _ (by simp;omega),World.frozen?_alloc_old _ _ _ (by simp;omega)];exact hf0)
  (by rw[World.frozen?_alloc_old _ _ _ (by simp;omega),World.frozen?_alloc_old _ _ _ (by simp;omega),World.frozen?_alloc_old _ _ _ (by simp;omega),World.frozen?_alloc_old _ _ _ (by simp;omega)];exact hf1)
 go_enter func146,ntmps146
 go_wp2
 refine wp_loop_rounds 1 ?_
 rw[rounds_succ]
 go_wp2
 go_ret
 refine⟨rfl,?_,?_⟩
 ·exact ((((((Touch.refl (·=t) w).alloc _).alloc _).alloc _).alloc _).setCell (p:=⟨t,0,none⟩) (Or.inl rfl) _).setCell (p:=⟨t,1,none⟩) (Or.inl rfl) _
 ·rw[World.cell?_setCell_other _ _ _ _ (by simp)]
  exact World.cell?_setCell_same _ _ _ (alloc_cell (alloc_cell (alloc_cell (alloc_cell ht0))))
end Go.Proofs.YtifhgjpglicjbaaGreatDoor
