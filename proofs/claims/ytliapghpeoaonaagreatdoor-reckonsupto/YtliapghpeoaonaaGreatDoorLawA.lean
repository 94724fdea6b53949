/-
  errors.Is at what Check answers: an api.Wrong whose cause is a sentinel.
-/
import Derived.Test.YtliapghpeoaonaaGreatDoorCln
import Derived.LaidEql
import Derived.Stop.Asserts
import Derived.RowKitTokens
set_option maxHeartbeats 4000000
namespace Go.Proofs.YtliapghpeoaonaaGreatDoor
open Go.Proofs.Tryz
open Go.RowKit Go.Extern.Stop Go.Stop Go.Extern
theorem Tryz.isTypeOf (v:Value)(w:World):(Extern.ReflectliteType.typeOf #[.iface 503 v]).run prog w=.ok (.iface 334 (.agg #[.pointer (some ⟨15,503,none⟩)])) w:=by kernel_rfl
theorem Tryz.isComparable (w:World):((Extern.ReflectliteType.method fun t=>do Rtype.noPackHeld "Comparable" t;(fun a=>Value.bool a.comparable) <$> typeInfo t) #[.agg #[.pointer (some ⟨15,503,none⟩)]]).run prog w=.ok (.bool true) w:=by kernel_rfl
theorem Tryz.isMethodComparable (v:Value)(w:World):(Go.method 634 334 v "Comparable").run prog w=.ok (328,v) w:=by kernel_rfl
theorem Tryz.methodUnwrap (x y:Value)(w:World):(Go.method 634 163 (.agg #[x,y]) "Unwrap").run prog w=.ok (310,.agg #[x,y]) w:=by kernel_rfl
theorem Tryz.isComp:(prog.info? 503).map (·.comparable)=some true:=by kernel_rfl
theorem Tryz.isSize:(prog.info? 505).map (·.size)=some 1:=by kernel_rfl
theorem Tryz.noIsE (v:Value)(xT:TypeId)(w:World):(Instr.typeAssert (.iface 503 v) xT 336 true).run prog w=.ok (.tuple #[.nilIface,.bool false]) w:=run_typeAssert_lacksB underlying336 (by kernel_rfl) (by kernel_rfl) v xT w
theorem Tryz.noUnwrapE (v:Value)(xT:TypeId)(w:World):(Instr.typeAssert (.iface 503 v) xT 339 true).run prog w=.ok (.tuple #[.nilIface,.bool false]) w:=run_typeAssert_lacksB underlying339 (by kernel_rfl) (by kernel_rfl) v xT w
theorem Tryz.noUnwrapsE (v:Value)(xT:TypeId)(w:World):(Instr.typeAssert (.iface 503 v) xT 340 true).run prog w=.ok (.tuple #[.nilIface,.bool false]) w:=run_typeAssert_lacksB underlying340 (by kernel_rfl) (by kernel_rfl) v xT w
theorem Tryz.noIsW (v:Value)(xT:TypeId)(w:World):(Instr.typeAssert (.iface 163 v) xT 336 true).run prog w=.ok (.tuple #[.nilIface,.bool false]) w:=run_typeAssert_lacksB underlying336 (by kernel_rfl) (by kernel_rfl) v xT w
theorem Tryz.hasUnwrapW (v:Value)(xT:TypeId)(w:World):(Instr.typeAssert (.iface 163 v) xT 339 true).run prog w=.ok (.tuple #[.iface 163 v,.bool true]) w:=run_typeAssert_hasB underlying339 (by kernel_rfl) v xT w
theorem Zpd (p:Nat)(a:Addr)(w:World):Calls prog 310 #[.agg #[.int .i64 ((p:Nat):Int),Za8 a]] w fun e w'=>e=.returned (Za8 a)∧Below w.heap.size w w':=by
 go_enter func310,ntmps310
 go_wp2
 go_ret
 exact⟨rfl,by first | exact Below.refl _ _ | exact Zab w _⟩
theorem Zcz (p:Nat)(b:Addr)(w:World):
  Calls prog 71 #[Za2 p b,Za8 b] w fun e w'=>e=.returned (.bool true)∧Below w.heap.size w w':=by
 obtain⟨i,hi,hcmp⟩:=Option.map_eq_some_iff.1 Tryz.isComp
 obtain⟨j,hj,hjs⟩:=Option.map_eq_some_iff.1 Tryz.isSize
 have h8:=@run_callFunc_extern prog 118 _ Extern.ReflectliteType.typeOf func118 (by kernel_rfl) (by kernel_rfl) (by kernel_rfl) (by kernel_rfl)
 have h32:=@run_callFunc_extern prog 328 _ (Extern.ReflectliteType.method fun t=>do Rtype.noPackHeld "Comparable" t;pure (.bool (←typeInfo t).comparable)) func328 (by kernel_rfl) (by kernel_rfl) (by kernel_rfl) (by kernel_rfl)
 have tT:=Tryz.isTypeOf
 have cT:=Tryz.isComparable
 have mR:=Tryz.isMethodComparable
 have mU:=Tryz.methodUnwrap
 have nE:=Tryz.noIsE
 have uE:=Tryz.noUnwrapE
 have vE:=Tryz.noUnwrapsE
 have nW:=Tryz.noIsW
 have uW:=Tryz.hasUnwrapW
 have hty:=run_eql_iface_types (P:=prog) 163 503 (.agg #[.int .i64 ((p:Nat):Int),Za8 b]) (.pointer (some b)) underlying51 (by decide) w
 go_enter func71,ntmps71
 go_wp2
 refine wp_loop_rounds 2 ?_
 rw[rounds_succ]
 go_wp2_with (go_at_call 310;refine (Zpd p b _).mono ?_;rintro e w2 ⟨rfl,hb2⟩)
 have heq:=run_eql_iface_ptr_same (P:=prog) w2 b underlying51 underlying503 hi hcmp hj
 rw[rounds_succ]
 go_wp2
 go_ret
 exact⟨rfl,hb2⟩
theorem Zo4 (p:Nat)(a b:Addr)(ca cb:Array Value)(ta tb:TypeId)(w:World)(hne:a≠b)(ha:w.heap[a.block]?=some (.cells ca ta (0,0)))(hb:w.heap[b.block]?=some (.cells cb tb (0,0))):
  Calls prog 71 #[Za2 p a,Za8 b] w fun e w'=>e=.returned (.bool false)∧Below w.heap.size w w':=by
 obtain⟨i,hi,hcmp⟩:=Option.map_eq_some_iff.1 Tryz.isComp
 obtain⟨j,hj,hjs⟩:=Option.map_eq_some_iff.1 Tryz.isSize
 have h8:=@run_callFunc_extern prog 118 _ Extern.ReflectliteType.typeOf func118 (by kernel_rfl) (by kernel_rfl) (by kernel_rfl) (by kernel_rfl)
 have h32:=@run_callFunc_extern prog 328 _ (Extern.ReflectliteType.method fun t=>do Rtype.noPackHeld "Comparable" t;pure (.bool (←typeInfo t).comparable)) func328 (by kernel_rfl) (by kernel_rfl) (by kernel_rfl) (by kernel_rfl)
 have tT:=Tryz.isTypeOf
 have cT:=Tryz.isComparable
 have mR:=Tryz.isMethodComparable
 have mU:=Tryz.methodUnwrap
 have nE:=Tryz.noIsE
 have uE:=Tryz.noUnwrapE
 have vE:=Tryz.noUnwrapsE
 have nW:=Tryz.noIsW
 have uW:=Tryz.hasUnwrapW
 have hty:=run_eql_iface_types (P:=prog) 163 503 (.agg #[.int .i64 ((p:Nat):Int),Za8 a]) (.pointer (some b)) underlying51 (by decide) w
 go_enter func71,ntmps71
 go_wp2
 refine wp_loop_rounds 2 ?_
 rw[rounds_succ]
 go_wp2_with (go_at_call 310;refine (Zpd p a _).mono ?_;rintro e w2 ⟨rfl,hb2⟩)
 have heq:=run_eql_iface_ptr_other (P:=prog) w2 underlying51 underlying503 hi hcmp hj (by rw[hjs];decide) hne (by rw[hb2.block _ (Zag ha)];exact ha) (by rw[hb2.block _ (Zag hb)];exact hb)
 rw[rounds_succ]
 go_wp2
 go_ret
 exact⟨rfl,hb2⟩
theorem Tryz.valueOfP (t:Addr)(w:World):(ReflectliteValue.unpack (.iface 165 (.pointer (some t)))).run prog w
  = .ok (.agg #[.pointer (some ⟨15,165,none⟩),.pointer (some ⟨w.heap.size,0,none⟩),.int .u64 150]) (w.alloc (.cells #[.pointer (some t)] 165)):=by kernel_rfl
theorem Tryz.typeP (a:Addr)(w:World):(ReflectliteValue.methodAny (ReflectliteValue.valueError "reflectlite.Value.Type" 0) (fun t _ _ _=>ReflectliteType.toType t) #[.agg #[.pointer (some ⟨15,165,none⟩),.pointer (some a),.int .u64 150]]).run prog w
  = .ok (.iface 334 (.agg #[.pointer (some ⟨15,165,none⟩)])) w:=by kernel_rfl
theorem Tryz.methodKind (h:Value)(w:World):(Go.method 634 334 (.agg #[h]) "Kind").run prog w=.ok (303,h) w:=by kernel_rfl
theorem Tryz.kindP (w:World):((ReflectliteType.abiMethod fun t=>(fun a:Nat=>Value.int IntKind.u8 (a:Int)) <$> Rtype.kind t) #[.pointer (some ⟨15,165,none⟩)]).run prog w=.ok (.int .u8 22) w:=by kernel_rfl
theorem Tryz.kindW (w:World):((ReflectliteType.abiMethod fun t=>(fun a:Nat=>Value.int IntKind.u8 (a:Int)) <$> Rtype.kind t) #[.pointer (some ⟨15,163,none⟩)]).run prog w=.ok (.int .u8 25) w:=by kernel_rfl
theorem rlm {α:Type}(v:Value)(f:Value→α)(g:Array Value→α):ReflectliteValue.method.match_2 (fun _=>α) #[v] f g=f v:=rfl
theorem Tryz.partsP (a:Addr)(w:World):(ReflectliteValue.parts (.agg #[.pointer (some ⟨15,165,none⟩),.pointer (some a),.int .u64 150])).run prog w=.ok (some (165,a,150)) w:=by kernel_rfl
theorem Tryz.isNilP (a p:Addr)(W:World)(ha:W.cell? a=some (.pointer (some p))):
  (ReflectliteValue.method (ReflectliteValue.valueError "reflectlite.Value.IsNil" 0) ReflectliteValue.isNil #[.agg #[.pointer (some ⟨15,165,none⟩),.pointer (some a),.int .u64 150]]).run prog W=.ok (.bool false) W:=by
 delta ReflectliteValue.method
 rw[rlm]
 simp only[Sem.run_bind,Tryz.partsP,Result.andThen]
 simp[ReflectliteValue.isNil,loadVar,isAgg,underlying,underlying165,ha,Result.andThen]
theorem Tryz.methodElem (h:Value)(w:World):(Go.method 634 334 (.agg #[h]) "Elem").run prog w=.ok (329,.agg #[h]) w:=by kernel_rfl
theorem Tryz.methodImplements (h:Value)(w:World):(Go.method 634 334 (.agg #[h]) "Implements").run prog w=.ok (330,.agg #[h]) w:=by kernel_rfl
theorem Tryz.methodAssignableTo (h:Value)(w:World):(Go.method 634 334 (.agg #[h]) "AssignableTo").run prog w=.ok (327,.agg #[h]) w:=by kernel_rfl
theorem Tryz.elemP (w:World):(ReflectliteType.method ReflectliteType.elem #[.agg #[.pointer (some ⟨15,165,none⟩)]]).run prog w=.ok (.iface 334 (.agg #[.pointer (some ⟨15,163,none⟩)])) w:=by kernel_rfl
theorem Tryz.implementsW (w:World):(ReflectliteType.relation "Implements" ReflectliteType.implements_ #[.agg #[.pointer (some ⟨15,163,none⟩)],.iface 334 (.agg #[.pointer (some ⟨15,51,none⟩)])]).run prog w=.ok (.bool true) w:=by kernel_rfl
theorem Tryz.typeOfW (v:Value)(w:World):(ReflectliteType.typeOf #[.iface 163 v]).run prog w=.ok (.iface 334 (.agg #[.pointer (some ⟨15,163,none⟩)])) w:=by kernel_rfl
theorem Tryz.assignableW (w:World):(ReflectliteType.relation "AssignableTo" ReflectliteType.assignableTo #[.agg #[.pointer (some ⟨15,163,none⟩)],.iface 334 (.agg #[.pointer (some ⟨15,163,none⟩)])]).run prog w=.ok (.bool true) w:=by kernel_rfl
theorem Tryz.valueOfW (x y:Value)(w:World):(ReflectliteValue.unpack (.iface 163 (.agg #[x,y]))).run prog w
  = .ok (.agg #[.pointer (some ⟨15,163,none⟩),.pointer (some ⟨w.heap.size,0,none⟩),.int .u64 153]) (w.alloc (.cells #[x,y] 163)):=by kernel_rfl
theorem Tryz.elemOfP (w:World):(Rtype.elem? 165).run prog w=.ok (some 163) w:=by kernel_rfl
theorem Tryz.mkW (p:Addr)(w:World):(ReflectliteValue.mk 163 p ReflectliteValue.flagAddr).run prog w=.ok (.agg #[.pointer (some ⟨15,163,none⟩),.pointer (some p),.int .u64 409]) w:=by kernel_rfl
theorem Tryz.elemVP (a p:Addr)(W:World)(ha:W.cell? a=some (.pointer (some p))):
  (ReflectliteValue.method (ReflectliteValue.valueError "reflectlite.Value.Elem" 0) ReflectliteValue.elem #[.agg #[.pointer (some ⟨15,165,none⟩),.pointer (some a),.int .u64 150]]).run prog W
   = .ok (.agg #[.pointer (some ⟨15,163,none⟩),.pointer (some p),.int .u64 409]) W:=by
 delta ReflectliteValue.method
 rw[rlm]
 simp only[Sem.run_bind,Tryz.partsP,Result.andThen]
 simp[ReflectliteValue.elem,loadVar,isAgg,underlying,underlying165,ha,Result.andThen,Tryz.elemOfP,Tryz.mkW]
theorem Tryz.partsWa (a:Addr)(w:World):(ReflectliteValue.parts (.agg #[.pointer (some ⟨15,163,none⟩),.pointer (some a),.int .u64 409])).run prog w=.ok (some (163,a,409)) w:=by kernel_rfl
theorem Tryz.partsW (a:Addr)(w:World):(ReflectliteValue.parts (.agg #[.pointer (some ⟨15,163,none⟩),.pointer (some a),.int .u64 153])).run prog w=.ok (some (163,a,153)) w:=by kernel_rfl
theorem Tryz.directW (w:World):(Rtype.directlyAssignable 163 163).run prog w=.ok true w:=by kernel_rfl
theorem Tryz.sizeW (w:World):(sizeOf 163).run prog w=.ok 2 w:=by kernel_rfl
theorem rls {α:Type}(v x:Value)(f:Value→Value→α)(g:Array Value→α):ReflectliteValue.set.match_3 (fun _=>α) #[v,x] f g=f v x:=rfl
theorem Tryz.isAggW (w:World):(isAgg 163).run prog w=.ok true w:=by kernel_rfl
theorem Tryz.setW (tB bB:Nat)(p:Int)(a:Addr)(o0 o1:Value)(W:World)(hb0:W.cell? ⟨bB,0,none⟩=some (.int .i64 p))(hb1:W.cell? ⟨bB,1,none⟩=some (Za8 a))(ht0:W.cell? ⟨tB,0,none⟩=some o0)(ht1:W.cell? ⟨tB,1,none⟩=some o1)(hf0:W.frozen? ⟨tB,0,none⟩=false)(hf1:W.frozen? ⟨tB,1,none⟩=false):
  (ReflectliteValue.set #[.agg #[.pointer (some ⟨15,163,none⟩),.pointer (some ⟨tB,0,none⟩),.int .u64 409],.agg #[.pointer (some ⟨15,163,none⟩),.pointer (some ⟨bB,0,none⟩),.int .u64 153]]).run prog W
   = .ok (.tuple #[]) ((W.setCell ⟨tB,0,none⟩ (.int .i64 p)).setCell ⟨tB,1,none⟩ (Za8 a)):=by
 delta ReflectliteValue.set
 rw[rls]
 simp only[Sem.run_bind,Tryz.partsWa,Tryz.partsW,Result.andThen]
 simp[ReflectliteValue.flagAddr,loadVar,Tryz.directW,Result.andThen,storeVar,hb0,hb1,ht0,ht1,hf0,hf1,go_sem,loadCellsFrom,Value.cells,storeCells,Addr.add]
theorem Zon (p:Nat)(a:Addr)(t:Nat)(o0 o1:Value)(w:World)(hg:w.cell? ⟨9,0,none⟩=some (.iface 334 (.agg #[.pointer (some ⟨15,51,none⟩)])))(ht0:w.cell? ⟨t,0,none⟩=some o0)(ht1:w.cell? ⟨t,1,none⟩=some o1)(hf0:w.frozen? ⟨t,0,none⟩=false)(hf1:w.frozen? ⟨t,1,none⟩=false):
  Calls prog 72 #[Za2 p a,.iface 165 (.pointer (some ⟨t,0,none⟩))] w fun e w'=>e=.returned (.bool true)∧Zaa (·=t) w w'∧w'.cell? ⟨t,0,none⟩=some (.int .i64 ((p:Nat):Int)):=by
 have h6:=@run_callFunc_extern prog 120 _ (fun args=>ReflectliteValue.unpack (args.getD 0 (.tuple #[]))) func120 (by kernel_rfl) (by kernel_rfl) (by kernel_rfl) (by kernel_rfl)
 have h7:=@run_callFunc_extern prog 121 _ (ReflectliteValue.methodAny (ReflectliteValue.valueError "reflectlite.Value.Type" 0) (fun t _ _ _=>ReflectliteType.toType t)) func121 (by kernel_rfl) (by kernel_rfl) (by kernel_rfl) (by kernel_rfl)
 have h8:=@run_callFunc_extern prog 122 _ (ReflectliteValue.method (ReflectliteValue.valueError "reflectlite.Value.IsNil" 0) ReflectliteValue.isNil) func122 (by kernel_rfl) (by kernel_rfl) (by kernel_rfl) (by kernel_rfl)
 have h27:=@run_callFunc_extern prog 303 _ (ReflectliteType.abiMethod fun t=>do pure (.int .u8 (←Rtype.kind t))) func303 (by kernel_rfl) (by kernel_rfl) (by kernel_rfl) (by kernel_rfl)
 have h37:=@run_callFunc_extern prog 329 _ (ReflectliteType.method ReflectliteType.elem) func329 (by kernel_rfl) (by kernel_rfl) (by kernel_rfl) (by kernel_rfl)
 have h38:=@run_callFunc_extern prog 330 _ (ReflectliteType.relation "Implements" ReflectliteType.implements_) func330 (by kernel_rfl) (by kernel_rfl) (by kernel_rfl) (by kernel_rfl)
 have h10:=@run_callFunc_extern prog 118 _ ReflectliteType.typeOf func118 (by kernel_rfl) (by kernel_rfl) (by kernel_rfl) (by kernel_rfl)
 have h35:=@run_callFunc_extern prog 327 _ (ReflectliteType.relation "AssignableTo" ReflectliteType.assignableTo) func327 (by kernel_rfl) (by kernel_rfl) (by kernel_rfl) (by kernel_rfl)
 have h11:=@run_callFunc_extern prog 167 _ (ReflectliteValue.method (ReflectliteValue.valueError "reflectlite.Value.Elem" 0) ReflectliteValue.elem) func167 (by kernel_rfl) (by kernel_rfl) (by kernel_rfl) (by kernel_rfl)
 have h12:=@run_callFunc_extern prog 168 _ ReflectliteValue.set func168 (by kernel_rfl) (by kernel_rfl) (by kernel_rfl) (by kernel_rfl)
 have tO:=Tryz.typeOfW
 have mA:=Tryz.methodAssignableTo
 have a25:=Tryz.assignableW
 have v25:=Tryz.valueOfW
 have f6:=Tryz.valueOfP
 have f7:=Tryz.typeP
 have mK:=Tryz.methodKind
 have mE:=Tryz.methodElem
 have mI:=Tryz.methodImplements
 have k27:=Tryz.kindP
 have k25:=Tryz.kindW
 have e27:=Tryz.elemP
 have i25:=Tryz.implementsW
 have hlt:9<w.heap.size:=Zae hg
 have htl:t<w.heap.size:=Zae ht0
 have n8:=Tryz.isNilP ⟨w.heap.size,0,none⟩ ⟨t,0,none⟩ ((w.alloc (.cells #[.pointer (some ⟨t,0,none⟩)] 165)).alloc (.cells #[.pointer (some ⟨15,165,none⟩),.pointer (some ⟨w.heap.size,0,none⟩),.int .u64 150] 249)) (by simp)
 have hg2:((w.alloc (.cells #[.pointer (some ⟨t,0,none⟩)] 165)).alloc (.cells #[.pointer (some ⟨15,165,none⟩),.pointer (some ⟨w.heap.size,0,none⟩),.int .u64 150] 249)).cell? ⟨9,0,none⟩=some (.iface 334 (.agg #[.pointer (some ⟨15,51,none⟩)])):=Zac (Zac hg)
 have el:=Tryz.elemVP ⟨w.heap.size,0,none⟩ ⟨t,0,none⟩ (((w.alloc (.cells #[.pointer (some ⟨t,0,none⟩)] 165)).alloc (.cells #[.pointer (some ⟨15,165,none⟩),.pointer (some ⟨w.heap.size,0,none⟩),.int .u64 150] 249)).alloc (.cells #[.pointer (some ⟨15,165,none⟩),.pointer (some ⟨w.heap.size,0,none⟩),.int .u64 150] 249)) (by rw[World.cell?_alloc_lt _ _ ⟨w.heap.size,0,none⟩ (by simp;omega)];simp)
 have st:=Tryz.setW t (w.heap.size+1+1+1) ((p:Nat):Int) a o0 o1 ((((w.alloc (.cells #[.pointer (some ⟨t,0,none⟩)] 165)).alloc (.cells #[.pointer (some ⟨15,165,none⟩),.pointer (some ⟨w.heap.size,0,none⟩),.int .u64 150] 249)).alloc (.cells #[.pointer (some ⟨15,165,none⟩),.pointer (some ⟨w.heap.size,0,none⟩),.int .u64 150] 249)).alloc (.cells #[.int .i64 ((p:Nat):Int),Za8 a] 163))
  (by rw[World.cell?_alloc_at _ _ _ _ (by simp)];rfl) (by rw[World.cell?_alloc_at _ _ _ _ (by simp)];rfl)
  (Zac (Zac (Zac (Zac ht0)))) (Zac (Zac (Zac (Zac ht1))))
  (by rw[World.frozen?_alloc_old _ _ _ (by simp;omega),World.frozen?_alloc_old _ _ _ (by simp;omega),World.frozen?_alloc_old _ _ _ (by simp;omega),World.frozen?_alloc_old _ _ _ (by simp;omega)];exact hf0)
  (by rw[World.frozen?_alloc_old _ _ _ (by simp;omega),World.frozen?_alloc_old _ _ _ (by simp;omega),World.frozen?_alloc_old _ _ _ (by simp;omega),World.frozen?_alloc_old _ _ _ (by simp;omega)];exact hf1)
 go_enter func72,ntmps72
 go_wp2
 refine wp_loop_rounds 1 ?_
 rw[rounds_succ]
 go_wp2
 go_ret
 refine⟨rfl,?_,?_⟩
 ·exact ((((((Zaa.refl (·=t) w).alloc _).alloc _).alloc _).alloc _).setCell (p:=⟨t,0,none⟩) (Or.inl rfl) _).setCell (p:=⟨t,1,none⟩) (Or.inl rfl) _
 ·rw[World.cell?_setCell_other _ _ _ _ (by simp)]
  exact World.cell?_setCell_same _ _ _ (Zac (Zac (Zac (Zac ht0))))
end Go.Proofs.YtliapghpeoaonaaGreatDoor
