/-
  checkExpr, expr by expr.
-/
import Derived.Test.YtifhgjpglicjbaaGreatDoorParseW
set_option maxHeartbeats 2000000
set_option maxRecDepth 100000
namespace Go.Proofs.YtifhgjpglicjbaaGreatDoor
open Go.Proofs.Tryz
open Go.RowKit
attribute [local go_sem ↓] Go.wp_at_zero Go.wp_at_succ
theorem ta_Variable_Variable (x:Value)(w:World):(Instr.typeAssert (.iface 277 x) 64 277 true).run prog w=.ok (.tuple #[x,.bool true]) w:=by kernel_rfl
theorem ta_Let_Variable (x:Value)(w:World):(Instr.typeAssert (.iface 279 x) 64 277 true).run prog w=.ok (.tuple #[.agg #[.int .i64 0,.string ⟨#[]⟩],.bool false]) w:=by kernel_rfl
theorem ta_Let_Let (x:Value)(w:World):(Instr.typeAssert (.iface 279 x) 64 279 true).run prog w=.ok (.tuple #[x,.bool true]) w:=by kernel_rfl
theorem ta_Call_Variable (x:Value)(w:World):(Instr.typeAssert (.iface 282 x) 64 277 true).run prog w=.ok (.tuple #[.agg #[.int .i64 0,.string ⟨#[]⟩],.bool false]) w:=by kernel_rfl
theorem ta_Call_Let (x:Value)(w:World):(Instr.typeAssert (.iface 282 x) 64 279 true).run prog w=.ok (.tuple #[.agg #[.int .i64 0,.string ⟨#[]⟩,.int .i64 0,.nilIface,.nilIface],.bool false]) w:=by kernel_rfl
theorem ta_Call_Call (x:Value)(w:World):(Instr.typeAssert (.iface 282 x) 64 282 true).run prog w=.ok (.tuple #[x,.bool true]) w:=by kernel_rfl
theorem ta_Map_Variable (x:Value)(w:World):(Instr.typeAssert (.iface 286 x) 64 277 true).run prog w=.ok (.tuple #[.agg #[.int .i64 0,.string ⟨#[]⟩],.bool false]) w:=by kernel_rfl
theorem ta_Map_Let (x:Value)(w:World):(Instr.typeAssert (.iface 286 x) 64 279 true).run prog w=.ok (.tuple #[.agg #[.int .i64 0,.string ⟨#[]⟩,.int .i64 0,.nilIface,.nilIface],.bool false]) w:=by kernel_rfl
theorem ta_Map_Call (x:Value)(w:World):(Instr.typeAssert (.iface 286 x) 64 282 true).run prog w=.ok (.tuple #[.agg #[.int .i64 0,.string ⟨#[]⟩,.int .i64 0,.slice none 0 0],.bool false]) w:=by kernel_rfl
theorem ta_Map_Map (x:Value)(w:World):(Instr.typeAssert (.iface 286 x) 64 286 true).run prog w=.ok (.tuple #[x,.bool true]) w:=by kernel_rfl
theorem ta_List_Variable (x:Value)(w:World):(Instr.typeAssert (.iface 288 x) 64 277 true).run prog w=.ok (.tuple #[.agg #[.int .i64 0,.string ⟨#[]⟩],.bool false]) w:=by kernel_rfl
theorem ta_List_Let (x:Value)(w:World):(Instr.typeAssert (.iface 288 x) 64 279 true).run prog w=.ok (.tuple #[.agg #[.int .i64 0,.string ⟨#[]⟩,.int .i64 0,.nilIface,.nilIface],.bool false]) w:=by kernel_rfl
theorem ta_List_Call (x:Value)(w:World):(Instr.typeAssert (.iface 288 x) 64 282 true).run prog w=.ok (.tuple #[.agg #[.int .i64 0,.string ⟨#[]⟩,.int .i64 0,.slice none 0 0],.bool false]) w:=by kernel_rfl
theorem ta_List_Map (x:Value)(w:World):(Instr.typeAssert (.iface 288 x) 64 286 true).run prog w=.ok (.tuple #[.agg #[.int .i64 0,.string ⟨#[]⟩,.int .i64 0,.nilIface],.bool false]) w:=by kernel_rfl
theorem ta_List_List (x:Value)(w:World):(Instr.typeAssert (.iface 288 x) 64 288 true).run prog w=.ok (.tuple #[x,.bool true]) w:=by kernel_rfl
theorem ta_If_Variable (x:Value)(w:World):(Instr.typeAssert (.iface 290 x) 64 277 true).run prog w=.ok (.tuple #[.agg #[.int .i64 0,.string ⟨#[]⟩],.bool false]) w:=by kernel_rfl
theorem ta_If_Let (x:Value)(w:World):(Instr.typeAssert (.iface 290 x) 64 279 true).run prog w=.ok (.tuple #[.agg #[.int .i64 0,.string ⟨#[]⟩,.int .i64 0,.nilIface,.nilIface],.bool false]) w:=by kernel_rfl
theorem ta_If_Call (x:Value)(w:World):(Instr.typeAssert (.iface 290 x) 64 282 true).run prog w=.ok (.tuple #[.agg #[.int .i64 0,.string ⟨#[]⟩,.int .i64 0,.slice none 0 0],.bool false]) w:=by kernel_rfl
theorem ta_If_Map (x:Value)(w:World):(Instr.typeAssert (.iface 290 x) 64 286 true).run prog w=.ok (.tuple #[.agg #[.int .i64 0,.string ⟨#[]⟩,.int .i64 0,.nilIface],.bool false]) w:=by kernel_rfl
theorem ta_If_List (x:Value)(w:World):(Instr.typeAssert (.iface 290 x) 64 288 true).run prog w=.ok (.tuple #[.agg #[.int .i64 0,.slice none 0 0],.bool false]) w:=by kernel_rfl
theorem ta_If_If (x:Value)(w:World):(Instr.typeAssert (.iface 290 x) 64 290 true).run prog w=.ok (.tuple #[x,.bool true]) w:=by kernel_rfl
theorem ta_Set_Variable (x:Value)(w:World):(Instr.typeAssert (.iface 292 x) 64 277 true).run prog w=.ok (.tuple #[.agg #[.int .i64 0,.string ⟨#[]⟩],.bool false]) w:=by kernel_rfl
theorem ta_Set_Let (x:Value)(w:World):(Instr.typeAssert (.iface 292 x) 64 279 true).run prog w=.ok (.tuple #[.agg #[.int .i64 0,.string ⟨#[]⟩,.int .i64 0,.nilIface,.nilIface],.bool false]) w:=by kernel_rfl
theorem ta_Set_Call (x:Value)(w:World):(Instr.typeAssert (.iface 292 x) 64 282 true).run prog w=.ok (.tuple #[.agg #[.int .i64 0,.string ⟨#[]⟩,.int .i64 0,.slice none 0 0],.bool false]) w:=by kernel_rfl
theorem ta_Set_Map (x:Value)(w:World):(Instr.typeAssert (.iface 292 x) 64 286 true).run prog w=.ok (.tuple #[.agg #[.int .i64 0,.string ⟨#[]⟩,.int .i64 0,.nilIface],.bool false]) w:=by kernel_rfl
theorem ta_Set_List (x:Value)(w:World):(Instr.typeAssert (.iface 292 x) 64 288 true).run prog w=.ok (.tuple #[.agg #[.int .i64 0,.slice none 0 0],.bool false]) w:=by kernel_rfl
theorem ta_Set_If (x:Value)(w:World):(Instr.typeAssert (.iface 292 x) 64 290 true).run prog w=.ok (.tuple #[.agg #[.int .i64 0,.nilIface,.nilIface,.nilIface],.bool false]) w:=by kernel_rfl
theorem ta_Set_Set (x:Value)(w:World):(Instr.typeAssert (.iface 292 x) 64 292 true).run prog w=.ok (.tuple #[x,.bool true]) w:=by kernel_rfl
theorem ta_Binary_Variable (x:Value)(w:World):(Instr.typeAssert (.iface 295 x) 64 277 true).run prog w=.ok (.tuple #[.agg #[.int .i64 0,.string ⟨#[]⟩],.bool false]) w:=by kernel_rfl
theorem ta_Binary_Let (x:Value)(w:World):(Instr.typeAssert (.iface 295 x) 64 279 true).run prog w=.ok (.tuple #[.agg #[.int .i64 0,.string ⟨#[]⟩,.int .i64 0,.nilIface,.nilIface],.bool false]) w:=by kernel_rfl
theorem ta_Binary_Call (x:Value)(w:World):(Instr.typeAssert (.iface 295 x) 64 282 true).run prog w=.ok (.tuple #[.agg #[.int .i64 0,.string ⟨#[]⟩,.int .i64 0,.slice none 0 0],.bool false]) w:=by kernel_rfl
theorem ta_Binary_Map (x:Value)(w:World):(Instr.typeAssert (.iface 295 x) 64 286 true).run prog w=.ok (.tuple #[.agg #[.int .i64 0,.string ⟨#[]⟩,.int .i64 0,.nilIface],.bool false]) w:=by kernel_rfl
theorem ta_Binary_List (x:Value)(w:World):(Instr.typeAssert (.iface 295 x) 64 288 true).run prog w=.ok (.tuple #[.agg #[.int .i64 0,.slice none 0 0],.bool false]) w:=by kernel_rfl
theorem ta_Binary_If (x:Value)(w:World):(Instr.typeAssert (.iface 295 x) 64 290 true).run prog w=.ok (.tuple #[.agg #[.int .i64 0,.nilIface,.nilIface,.nilIface],.bool false]) w:=by kernel_rfl
theorem ta_Binary_Set (x:Value)(w:World):(Instr.typeAssert (.iface 295 x) 64 292 true).run prog w=.ok (.tuple #[.agg #[.int .i64 0,.nilIface,.nilIface,.nilIface],.bool false]) w:=by kernel_rfl
theorem ta_Binary_Binary (x:Value)(w:World):(Instr.typeAssert (.iface 295 x) 64 295 true).run prog w=.ok (.tuple #[x,.bool true]) w:=by kernel_rfl
theorem ta_Len_Variable (x:Value)(w:World):(Instr.typeAssert (.iface 297 x) 64 277 true).run prog w=.ok (.tuple #[.agg #[.int .i64 0,.string ⟨#[]⟩],.bool false]) w:=by kernel_rfl
theorem ta_Len_Let (x:Value)(w:World):(Instr.typeAssert (.iface 297 x) 64 279 true).run prog w=.ok (.tuple #[.agg #[.int .i64 0,.string ⟨#[]⟩,.int .i64 0,.nilIface,.nilIface],.bool false]) w:=by kernel_rfl
theorem ta_Len_Call (x:Value)(w:World):(Instr.typeAssert (.iface 297 x) 64 282 true).run prog w=.ok (.tuple #[.agg #[.int .i64 0,.string ⟨#[]⟩,.int .i64 0,.slice none 0 0],.bool false]) w:=by kernel_rfl
theorem ta_Len_Map (x:Value)(w:World):(Instr.typeAssert (.iface 297 x) 64 286 true).run prog w=.ok (.tuple #[.agg #[.int .i64 0,.string ⟨#[]⟩,.int .i64 0,.nilIface],.bool false]) w:=by kernel_rfl
theorem ta_Len_List (x:Value)(w:World):(Instr.typeAssert (.iface 297 x) 64 288 true).run prog w=.ok (.tuple #[.agg #[.int .i64 0,.slice none 0 0],.bool false]) w:=by kernel_rfl
theorem ta_Len_If (x:Value)(w:World):(Instr.typeAssert (.iface 297 x) 64 290 true).run prog w=.ok (.tuple #[.agg #[.int .i64 0,.nilIface,.nilIface,.nilIface],.bool false]) w:=by kernel_rfl
theorem ta_Len_Set (x:Value)(w:World):(Instr.typeAssert (.iface 297 x) 64 292 true).run prog w=.ok (.tuple #[.agg #[.int .i64 0,.nilIface,.nilIface,.nilIface],.bool false]) w:=by kernel_rfl
theorem ta_Len_Binary (x:Value)(w:World):(Instr.typeAssert (.iface 297 x) 64 295 true).run prog w=.ok (.tuple #[.agg #[.int .i64 0,.string ⟨#[]⟩,.nilIface,.nilIface],.bool false]) w:=by kernel_rfl
theorem ta_Len_Len (x:Value)(w:World):(Instr.typeAssert (.iface 297 x) 64 297 true).run prog w=.ok (.tuple #[x,.bool true]) w:=by kernel_rfl
theorem ta_Number_Variable (x:Value)(w:World):(Instr.typeAssert (.iface 306 x) 64 277 true).run prog w=.ok (.tuple #[.agg #[.int .i64 0,.string ⟨#[]⟩],.bool false]) w:=by kernel_rfl
theorem ta_Number_Let (x:Value)(w:World):(Instr.typeAssert (.iface 306 x) 64 279 true).run prog w=.ok (.tuple #[.agg #[.int .i64 0,.string ⟨#[]⟩,.int .i64 0,.nilIface,.nilIface],.bool false]) w:=by kernel_rfl
theorem ta_Number_Call (x:Value)(w:World):(Instr.typeAssert (.iface 306 x) 64 282 true).run prog w=.ok (.tuple #[.agg #[.int .i64 0,.string ⟨#[]⟩,.int .i64 0,.slice none 0 0],.bool false]) w:=by kernel_rfl
theorem ta_Number_Map (x:Value)(w:World):(Instr.typeAssert (.iface 306 x) 64 286 true).run prog w=.ok (.tuple #[.agg #[.int .i64 0,.string ⟨#[]⟩,.int .i64 0,.nilIface],.bool false]) w:=by kernel_rfl
theorem ta_Number_List (x:Value)(w:World):(Instr.typeAssert (.iface 306 x) 64 288 true).run prog w=.ok (.tuple #[.agg #[.int .i64 0,.slice none 0 0],.bool false]) w:=by kernel_rfl
theorem ta_Number_If (x:Value)(w:World):(Instr.typeAssert (.iface 306 x) 64 290 true).run prog w=.ok (.tuple #[.agg #[.int .i64 0,.nilIface,.nilIface,.nilIface],.bool false]) w:=by kernel_rfl
theorem ta_Number_Set (x:Value)(w:World):(Instr.typeAssert (.iface 306 x) 64 292 true).run prog w=.ok (.tuple #[.agg #[.int .i64 0,.nilIface,.nilIface,.nilIface],.bool false]) w:=by kernel_rfl
theorem ta_Number_Binary (x:Value)(w:World):(Instr.typeAssert (.iface 306 x) 64 295 true).run prog w=.ok (.tuple #[.agg #[.int .i64 0,.string ⟨#[]⟩,.nilIface,.nilIface],.bool false]) w:=by kernel_rfl
theorem ta_Number_Len (x:Value)(w:World):(Instr.typeAssert (.iface 306 x) 64 297 true).run prog w=.ok (.tuple #[.agg #[.int .i64 0,.nilIface],.bool false]) w:=by kernel_rfl
theorem ta_Text_Variable (x:Value)(w:World):(Instr.typeAssert (.iface 308 x) 64 277 true).run prog w=.ok (.tuple #[.agg #[.int .i64 0,.string ⟨#[]⟩],.bool false]) w:=by kernel_rfl
theorem ta_Text_Let (x:Value)(w:World):(Instr.typeAssert (.iface 308 x) 64 279 true).run prog w=.ok (.tuple #[.agg #[.int .i64 0,.string ⟨#[]⟩,.int .i64 0,.nilIface,.nilIface],.bool false]) w:=by kernel_rfl
theorem ta_Text_Call (x:Value)(w:World):(Instr.typeAssert (.iface 308 x) 64 282 true).run prog w=.ok (.tuple #[.agg #[.int .i64 0,.string ⟨#[]⟩,.int .i64 0,.slice none 0 0],.bool false]) w:=by kernel_rfl
theorem ta_Text_Map (x:Value)(w:World):(Instr.typeAssert (.iface 308 x) 64 286 true).run prog w=.ok (.tuple #[.agg #[.int .i64 0,.string ⟨#[]⟩,.int .i64 0,.nilIface],.bool false]) w:=by kernel_rfl
theorem ta_Text_List (x:Value)(w:World):(Instr.typeAssert (.iface 308 x) 64 288 true).run prog w=.ok (.tuple #[.agg #[.int .i64 0,.slice none 0 0],.bool false]) w:=by kernel_rfl
theorem ta_Text_If (x:Value)(w:World):(Instr.typeAssert (.iface 308 x) 64 290 true).run prog w=.ok (.tuple #[.agg #[.int .i64 0,.nilIface,.nilIface,.nilIface],.bool false]) w:=by kernel_rfl
theorem ta_Text_Set (x:Value)(w:World):(Instr.typeAssert (.iface 308 x) 64 292 true).run prog w=.ok (.tuple #[.agg #[.int .i64 0,.nilIface,.nilIface,.nilIface],.bool false]) w:=by kernel_rfl
theorem ta_Text_Binary (x:Value)(w:World):(Instr.typeAssert (.iface 308 x) 64 295 true).run prog w=.ok (.tuple #[.agg #[.int .i64 0,.string ⟨#[]⟩,.nilIface,.nilIface],.bool false]) w:=by kernel_rfl
theorem ta_Text_Len (x:Value)(w:World):(Instr.typeAssert (.iface 308 x) 64 297 true).run prog w=.ok (.tuple #[.agg #[.int .i64 0,.nilIface],.bool false]) w:=by kernel_rfl
attribute [local go_sem] ta_Variable_Variable ta_Let_Variable ta_Let_Let ta_Call_Variable ta_Call_Let ta_Call_Call ta_Map_Variable ta_Map_Let ta_Map_Call ta_Map_Map ta_List_Variable ta_List_Let ta_List_Call ta_List_Map ta_List_List ta_If_Variable ta_If_Let ta_If_Call ta_If_Map ta_If_List ta_If_If ta_Set_Variable ta_Set_Let ta_Set_Call ta_Set_Map ta_Set_List ta_Set_If ta_Set_Set ta_Binary_Variable ta_Binary_Let ta_Binary_Call ta_Binary_Map ta_Binary_List ta_Binary_If ta_Binary_Set ta_Binary_Binary ta_Len_Variable ta_Len_Let ta_Len_Call ta_Len_Map ta_Len_List ta_Len_If ta_Len_Set ta_Len_Binary ta_Len_Len ta_Number_Variable ta_Number_Let ta_Number_Call ta_Number_Map ta_Number_List ta_Number_If ta_Number_Set ta_Number_Binary ta_Number_Len ta_Text_Variable ta_Text_Let ta_Text_Call ta_Text_Map ta_Text_List ta_Text_If ta_Text_Set ta_Text_Binary ta_Text_Len
theorem ce_num (sp:Nat)(x:Int)(sv:Value)(B:Nat)(w:World):
  Calls prog 104 #[.iface 306 (.agg #[.int .i64 ((sp:Nat):Int),.int .i64 x]),sv,.map (some B)] w fun r w'=>r=.returned .nilIface∧w'=w:=by
 go_enter func104,ntmps104
 go_wp2
 go_ret
 exact⟨rfl,rfl⟩
theorem ce_txt (sp:Nat)(b:ByteArray)(sv:Value)(B:Nat)(w:World):
  Calls prog 104 #[.iface 308 (.agg #[.int .i64 ((sp:Nat):Int),.string b]),sv,.map (some B)] w fun r w'=>r=.returned .nilIface∧w'=w:=by
 go_enter func104,ntmps104
 go_wp2
 go_ret
 exact⟨rfl,rfl⟩
theorem place_any (z:Int)(w:World):Calls prog 138 #[.int .i64 z] w fun e w'=>e=.returned (.int .i64 z)∧w'=w:=by
 go_enter func138,ntmps138
 go_wp2
 go_ret
 exact⟨rfl,rfl⟩
theorem ce_var (nb:ByteArray)(a:Nat)(sv:Value)(bs:List ByteArray)(B:Nat)(w:World)(D:Nat→Prop)(aN aA aW:Addr)(hS:StrsAt w D sv bs)(hn:bs.length≤100000)(hN:ErrsN w aN aA aW):
  Calls prog 104 #[.iface 277 (.agg #[.int .i64 ((a:Nat):Int),.string nb]),sv,.map (some B)] w fun r w'=>r=.returned (if hasB bs nb then .nilIface else wrongV a aN)∧Below w.heap.size w w':=by
 have cc:=fun w h=>contains_any sv bs nb w D h hn
 have eN:=hN.eN
 have hl:=cell_lt eN
 have hS':StrsAt (w.alloc (Obj.cells #[.int .i64 ((a:Nat):Int),.string nb] 277)) D sv bs:=hS.below (below1 w _)
 cases hb:hasB bs nb with
 | true =>
  rw[hb] at cc
  go_enter func104,ntmps104
  go_wp2_with (go_at_call 103;refine (cc _ hS').mono ?_;rintro e w1 ⟨rfl,rfl⟩)
  go_ret
  exact⟨rfl,below1 w _⟩
 | false =>
  rw[hb] at cc
  go_enter func104,ntmps104
  go_wp2_with (go_at_call 103;refine (cc _ hS').mono ?_;rintro e w1 ⟨rfl,rfl⟩)
  go_quiet ((go_at_call 138;refine Calls.quiet_of_same (place_any _ _)))
  go_wp2
  go_ret
  exact⟨rfl,drawn (below1 w _) _⟩
end Go.Proofs.YtifhgjpglicjbaaGreatDoor
namespace Go.Proofs.YtifhgjpglicjbaaGreatDoor
open Go.Proofs.Tryz
open Go.RowKit
attribute [local go_sem ↓] Go.wp_at_zero Go.wp_at_succ
attribute [local go_sem] ta_Variable_Variable ta_Let_Variable ta_Let_Let ta_Call_Variable ta_Call_Let ta_Call_Call ta_Map_Variable ta_Map_Let ta_Map_Call ta_Map_Map ta_List_Variable ta_List_Let ta_List_Call ta_List_Map ta_List_List ta_If_Variable ta_If_Let ta_If_Call ta_If_Map ta_If_List ta_If_If ta_Set_Variable ta_Set_Let ta_Set_Call ta_Set_Map ta_Set_List ta_Set_If ta_Set_Set ta_Binary_Variable ta_Binary_Let ta_Binary_Call ta_Binary_Map ta_Binary_List ta_Binary_If ta_Binary_Set ta_Binary_Binary ta_Len_Variable ta_Len_Let ta_Len_Call ta_Len_Map ta_Len_List ta_Len_If ta_Len_Set ta_Len_Binary ta_Len_Len ta_Number_Variable ta_Number_Let ta_Number_Call ta_Number_Map ta_Number_List ta_Number_If ta_Number_Set ta_Number_Binary ta_Number_Len ta_Text_Variable ta_Text_Let ta_Text_Call ta_Text_Map ta_Text_List ta_Text_If ta_Text_Set ta_Text_Binary ta_Text_Len
theorem lit_row (w:World)(cs:Array Value)(g n:Nat)(hg:g=w.heap.size)(hm:n≤maxLen)(hs:cs.size=n*1):RowAt (w.alloc (.cells cs 64)) (fun _=>True) 64 1 (.slice (some ⟨g,0,none⟩) n n) n cs.toList:=by
 subst hg
 refine⟨by simp[hs],Or.inr ⟨w.heap.size,n,cs,rfl,trivial,heap_alloc_new _ _,Nat.le_refl _,hm,hs,?_⟩⟩
 rw[List.take_of_length_le (by simp[hs])]
theorem ce_list {k:Nat}(IH:ExprDo k)(sp:Nat)(ks:List Ex)(ad:Option Addr)(len cap:Nat)(vs:List Value)(D3:Nat→Prop)(B:Nat)(fs:List (List UInt8×Nat))(sv:Value)(bs:List ByteArray)(w:World)(D D2:Nat→Prop)(aN aA aW:Addr)(hS:StrsAt w D2 sv bs)(hA:AheadAt w B fs)(hN:ErrsN w aN aA aW)(hsz:szEs ks≤k+1)(hb:bs.length+szEs ks≤100000)(hR:RowAt w D3 64 1 (.slice ad len cap) vs.length vs)(hE:RepEs w D ks vs):
  Calls prog 104 #[.iface 288 (.agg #[.int .i64 ((sp:Nat):Int),.slice ad len cap]),sv,.map (some B)] w fun r w'=>r=.returned (errN (nmEs fs (namesOf bs) ks) aN aA aW)∧Below w.heap.size w w':=by
 have bel:Below w.heap.size w (w.alloc (Obj.cells #[.int .i64 ((sp:Nat):Int),.slice ad len cap] 288)):=below1 w _
 have ce:=checkExprs_of IH ks (.slice ad len cap) sv vs bs B fs _ D D2 D3 aN aA aW hsz hb (row_below hR bel) (hE.below bel) (hS.below bel) (hA.below bel) (hN.below bel)
 clear hR hE
 go_enter func104,ntmps104
 go_wp2_with (go_at_call 141;refine ce.mono ?_;rintro e w1 ⟨rfl,hb1⟩)
 go_ret
 exact⟨rfl,bel.trans (hb1.mono bel.size)⟩
theorem ce_if {k:Nat}(IH:ExprDo k)(sp:Nat)(ks:List Ex)(t0 t1 t2:TypeId)(x0 x1 x2:Value)(B:Nat)(fs:List (List UInt8×Nat))(sv:Value)(bs:List ByteArray)(w:World)(D D2:Nat→Prop)(aN aA aW:Addr)(hS:StrsAt w D2 sv bs)(hA:AheadAt w B fs)(hN:ErrsN w aN aA aW)(hsz:szEs ks≤k+1)(hb:bs.length+szEs ks≤100000)(hE:RepEs w D ks [.iface t0 x0,.iface t1 x1,.iface t2 x2]):
  Calls prog 104 #[.iface 290 (.agg #[.int .i64 ((sp:Nat):Int),.iface t0 x0,.iface t1 x1,.iface t2 x2]),sv,.map (some B)] w fun r w'=>r=.returned (errN (nmEs fs (namesOf bs) ks) aN aA aW)∧Below w.heap.size w w':=by
 have bel:Below w.heap.size w ((w.alloc (Obj.cells #[.int .i64 ((sp:Nat):Int),.iface t0 x0,.iface t1 x1,.iface t2 x2] 290)).alloc (Obj.cells #[.iface t0 x0,.iface t1 x1,.iface t2 x2] 64)):=((Below.refl _ _).alloc (Nat.le_refl _) _).alloc (by simp) _
 have hrow:RowAt ((w.alloc (Obj.cells #[.int .i64 ((sp:Nat):Int),.iface t0 x0,.iface t1 x1,.iface t2 x2] 290)).alloc (Obj.cells #[.iface t0 x0,.iface t1 x1,.iface t2 x2] 64)) (fun _=>True) 64 1 (.slice (some ⟨w.heap.size+1,0,none⟩) 3 3) 3 [.iface t0 x0,.iface t1 x1,.iface t2 x2]:=lit_row _ #[.iface t0 x0,.iface t1 x1,.iface t2 x2] (w.heap.size+1) 3 (by simp) (by unfold maxLen;decide) rfl
 have ce:=checkExprs_of IH ks (.slice (some ⟨w.heap.size+1,0,none⟩) 3 3) sv [.iface t0 x0,.iface t1 x1,.iface t2 x2] bs B fs _ D D2 (fun _=>True) aN aA aW hsz hb hrow (hE.below bel) (hS.below bel) (hA.below bel) (hN.below bel)
 clear hrow hE
 go_enter func104,ntmps104
 go_wp2_with (go_at_call 141;refine ce.mono ?_;rintro e w1 ⟨rfl,hb1⟩)
 go_ret
 exact⟨rfl,bel.trans (hb1.mono bel.size)⟩
theorem ce_set {k:Nat}(IH:ExprDo k)(sp:Nat)(ks:List Ex)(t0 t1 t2:TypeId)(x0 x1 x2:Value)(B:Nat)(fs:List (List UInt8×Nat))(sv:Value)(bs:List ByteArray)(w:World)(D D2:Nat→Prop)(aN aA aW:Addr)(hS:StrsAt w D2 sv bs)(hA:AheadAt w B fs)(hN:ErrsN w aN aA aW)(hsz:szEs ks≤k+1)(hb:bs.length+szEs ks≤100000)(hE:RepEs w D ks [.iface t0 x0,.iface t1 x1,.iface t2 x2]):
  Calls prog 104 #[.iface 292 (.agg #[.int .i64 ((sp:Nat):Int),.iface t0 x0,.iface t1 x1,.iface t2 x2]),sv,.map (some B)] w fun r w'=>r=.returned (errN (nmEs fs (namesOf bs) ks) aN aA aW)∧Below w.heap.size w w':=by
 have bel:Below w.heap.size w ((w.alloc (Obj.cells #[.int .i64 ((sp:Nat):Int),.iface t0 x0,.iface t1 x1,.iface t2 x2] 292)).alloc (Obj.cells #[.iface t0 x0,.iface t1 x1,.iface t2 x2] 64)):=((Below.refl _ _).alloc (Nat.le_refl _) _).alloc (by simp) _
 have hrow:RowAt ((w.alloc (Obj.cells #[.int .i64 ((sp:Nat):Int),.iface t0 x0,.iface t1 x1,.iface t2 x2] 292)).alloc (Obj.cells #[.iface t0 x0,.iface t1 x1,.iface t2 x2] 64)) (fun _=>True) 64 1 (.slice (some ⟨w.heap.size+1,0,none⟩) 3 3) 3 [.iface t0 x0,.iface t1 x1,.iface t2 x2]:=lit_row _ #[.iface t0 x0,.iface t1 x1,.iface t2 x2] (w.heap.size+1) 3 (by simp) (by unfold maxLen;decide) rfl
 have ce:=checkExprs_of IH ks (.slice (some ⟨w.heap.size+1,0,none⟩) 3 3) sv [.iface t0 x0,.iface t1 x1,.iface t2 x2] bs B fs _ D D2 (fun _=>True) aN aA aW hsz hb hrow (hE.below bel) (hS.below bel) (hA.below bel) (hN.below bel)
 clear hrow hE
 go_enter func104,ntmps104
 go_wp2_with (go_at_call 141;refine ce.mono ?_;rintro e w1 ⟨rfl,hb1⟩)
 go_ret
 exact⟨rfl,bel.trans (hb1.mono bel.size)⟩
theorem ce_binary {k:Nat}(IH:ExprDo k)(sp:Nat)(ks:List Ex)(ob:ByteArray)(t0 t1:TypeId)(x0 x1:Value)(B:Nat)(fs:List (List UInt8×Nat))(sv:Value)(bs:List ByteArray)(w:World)(D D2:Nat→Prop)(aN aA aW:Addr)(hS:StrsAt w D2 sv bs)(hA:AheadAt w B fs)(hN:ErrsN w aN aA aW)(hsz:szEs ks≤k+1)(hb:bs.length+szEs ks≤100000)(hE:RepEs w D ks [.iface t0 x0,.iface t1 x1]):
  Calls prog 104 #[.iface 295 (.agg #[.int .i64 ((sp:Nat):Int),.string ob,.iface t0 x0,.iface t1 x1]),sv,.map (some B)] w fun r w'=>r=.returned (errN (nmEs fs (namesOf bs) ks) aN aA aW)∧Below w.heap.size w w':=by
 have bel:Below w.heap.size w ((w.alloc (Obj.cells #[.int .i64 ((sp:Nat):Int),.string ob,.iface t0 x0,.iface t1 x1] 295)).alloc (Obj.cells #[.iface t0 x0,.iface t1 x1] 64)):=((Below.refl _ _).alloc (Nat.le_refl _) _).alloc (by simp) _
 have hrow:RowAt ((w.alloc (Obj.cells #[.int .i64 ((sp:Nat):Int),.string ob,.iface t0 x0,.iface t1 x1] 295)).alloc (Obj.cells #[.iface t0 x0,.iface t1 x1] 64)) (fun _=>True) 64 1 (.slice (some ⟨w.heap.size+1,0,none⟩) 2 2) 2 [.iface t0 x0,.iface t1 x1]:=lit_row _ #[.iface t0 x0,.iface t1 x1] (w.heap.size+1) 2 (by simp) (by unfold maxLen;decide) rfl
 have ce:=checkExprs_of IH ks (.slice (some ⟨w.heap.size+1,0,none⟩) 2 2) sv [.iface t0 x0,.iface t1 x1] bs B fs _ D D2 (fun _=>True) aN aA aW hsz hb hrow (hE.below bel) (hS.below bel) (hA.below bel) (hN.below bel)
 clear hrow hE
 go_enter func104,ntmps104
 go_wp2_with (go_at_call 141;refine ce.mono ?_;rintro e w1 ⟨rfl,hb1⟩)
 go_ret
 exact⟨rfl,bel.trans (hb1.mono bel.size)⟩
theorem new_cells4 (w:World)(x y z u:Value)(t:TypeId):let X:=w.alloc (.cells #[x,y,z,u] t)
  X.cell? ⟨w.heap.size,0,none⟩=some x∧X.cell? ⟨w.heap.size,1,none⟩=some y∧X.cell? ⟨w.heap.size,2,none⟩=some z∧X.cell? ⟨w.heap.size,3,none⟩=some u∧w.heap.size<X.heap.size:=by
 have h:(w.alloc (Obj.cells #[x,y,z,u] t)).heap[w.heap.size]?=some (.cells #[x,y,z,u] t):=heap_alloc_new _ _
 refine⟨?_,?_,?_,?_,by simp⟩<;>(unfold World.cell?;rw[h];rfl)
theorem ce_len {k:Nat}(IH:ExprDo k)(sp:Nat)(x:Ex)(t0:TypeId)(x0:Value)(B:Nat)(fs:List (List UInt8×Nat))(sv:Value)(bs:List ByteArray)(w:World)(D D2:Nat→Prop)(aN aA aW:Addr)(hS:StrsAt w D2 sv bs)(hA:AheadAt w B fs)(hN:ErrsN w aN aA aW)(hsz:szE x≤k)(hb:bs.length+szE x≤100000)(hE:RepE w D x (.iface t0 x0)):
  Calls prog 104 #[.iface 297 (.agg #[.int .i64 ((sp:Nat):Int),.iface t0 x0]),sv,.map (some B)] w fun r w'=>r=.returned (errN (nmE fs (namesOf bs) x) aN aA aW)∧Below w.heap.size w w':=by
 have bel:Below w.heap.size w (w.alloc (Obj.cells #[.int .i64 ((sp:Nat):Int),.iface t0 x0] 297)):=below1 w _
 have ce:=IH x (.iface t0 x0) sv bs B fs _ D D2 aN aA aW hsz hb (hE.below bel) (hS.below bel) (hA.below bel) (hN.below bel)
 clear hE IH
 go_enter func104,ntmps104
 go_wp2_with (go_at_call 104;refine ce.mono ?_;rintro e w1 ⟨rfl,hb1⟩)
 go_ret
 exact⟨rfl,bel.trans (hb1.mono bel.size)⟩
theorem ce_map {k:Nat}(IH:ExprDo k)(sp:Nat)(x:Ex)(nb:ByteArray)(at_:Nat)(t0:TypeId)(x0:Value)(B:Nat)(fs:List (List UInt8×Nat))(sv:Value)(bs:List ByteArray)(w:World)(D D2:Nat→Prop)(aN aA aW:Addr)(hS:StrsAt w D2 sv bs)(hA:AheadAt w B fs)(hN:ErrsN w aN aA aW)(hnb:nb.size≤2000)(hsz:szE x≤k)(hb:bs.length+szE x≤100000)(hE:RepE w D x (.iface t0 x0)):
  Calls prog 104 #[.iface 286 (.agg #[.int .i64 ((sp:Nat):Int),.string nb,.int .i64 ((at_:Nat):Int),.iface t0 x0]),sv,.map (some B)] w fun r w'=>r=.returned (errN (orE (callErr fs nb.data.toList at_ 1) (nmE fs (namesOf bs) x)) aN aA aW)∧Below w.heap.size w w':=by
 have bel:Below w.heap.size w (w.alloc (Obj.cells #[.int .i64 ((sp:Nat):Int),.string nb,.int .i64 ((at_:Nat):Int),.iface t0 x0] 286)):=below1 w _
 obtain⟨n0,n1,n2,n3,n4⟩:=new_cells4 w (.int .i64 ((sp:Nat):Int)) (.string nb) (.int .i64 ((at_:Nat):Int)) (.iface t0 x0) 286
 have ck:=check_any B fs nb at_ 1 _ aN aA aW (hA.below bel) (hN.below bel) hnb
 have ce:=fun w' (bel2:Below w.heap.size w w')=>IH x (.iface t0 x0) sv bs B fs w' D D2 aN aA aW hsz hb (hE.below bel2) (hS.below bel2) (hA.below bel2) (hN.below bel2)
 have CE:Hid (∀w' (bel2:Below w.heap.size w w'),Calls prog 104 #[.iface t0 x0,sv,.map (some B)] w' fun r w''=>r=.returned (errN (nmE fs (namesOf bs) x) aN aA aW)∧Below w'.heap.size w' w''):=ce
 clear hE IH ce hS hA hN
 cases hc:callErr fs nb.data.toList at_ 1 with
 | some y =>
  obtain⟨c,p⟩:=y
  rw[hc] at ck
  obtain⟨a,ha⟩:∃a,errN (some (c,p)) aN aA aW=wrongV p a:=⟨_,rfl⟩
  have e:errN (orE (some (c,p)) (nmE fs (namesOf bs) x)) aN aA aW=wrongV p a:=ha
  rw[e]
  rw[ha] at ck
  clear hc ha e
  go_enter func104,ntmps104
  go_wp2_with (go_at_call 140;refine ck.mono ?_;rintro e w1 ⟨rfl,hb1⟩)
  go_ret
  exact⟨rfl,bel.trans (hb1.mono bel.size)⟩
 | none =>
  rw[hc] at ck
  have e:orE none (nmE fs (namesOf bs) x)=nmE fs (namesOf bs) x:=rfl
  rw[e]
  have e2:errN none aN aA aW=.nilIface:=rfl
  rw[e2] at ck
  clear hc e e2
  go_enter func104,ntmps104
  go_wp2_with fail
  refine ck.mono ?_
  rintro e w1 ⟨rfl,hb1⟩
  have bel1:=bel.trans (hb1.mono bel.size)
  have m3:w1.cell? ⟨w.heap.size,3,none⟩=some (.iface t0 x0):=Below.cellv hb1 n3
  clear n0 n1 n2 n3 n4 ck
  go_wp2_with (go_at_call 104;refine (CE.out _ bel1).mono ?_;rintro e w2 ⟨rfl,hb2⟩)
  go_ret
  exact⟨rfl,bel1.trans (hb2.mono bel1.size)⟩
theorem ce_call {k:Nat}(IH:ExprDo k)(sp:Nat)(ks:List Ex)(nb:ByteArray)(at_:Nat)(ad:Option Addr)(cap:Nat)(vs:List Value)(D3:Nat→Prop)(B:Nat)(fs:List (List UInt8×Nat))(sv:Value)(bs:List ByteArray)(w:World)(D D2:Nat→Prop)(aN aA aW:Addr)(hS:StrsAt w D2 sv bs)(hA:AheadAt w B fs)(hN:ErrsN w aN aA aW)(hnb:nb.size≤2000)(hsz:szEs ks≤k+1)(hb:bs.length+szEs ks≤100000)(hR:RowAt w D3 64 1 (.slice ad vs.length cap) vs.length vs)(hE:RepEs w D ks vs):
  Calls prog 104 #[.iface 282 (.agg #[.int .i64 ((sp:Nat):Int),.string nb,.int .i64 ((at_:Nat):Int),.slice ad vs.length cap]),sv,.map (some B)] w fun r w'=>r=.returned (errN (orE (callErr fs nb.data.toList at_ vs.length) (nmEs fs (namesOf bs) ks)) aN aA aW)∧Below w.heap.size w w':=by
 have bel:Below w.heap.size w (w.alloc (Obj.cells #[.int .i64 ((sp:Nat):Int),.string nb,.int .i64 ((at_:Nat):Int),.slice ad vs.length cap] 282)):=below1 w _
 obtain⟨n0,n1,n2,n3,n4⟩:=new_cells4 w (.int .i64 ((sp:Nat):Int)) (.string nb) (.int .i64 ((at_:Nat):Int)) (.slice ad vs.length cap) 282
 have ck:=check_any B fs nb at_ vs.length _ aN aA aW (hA.below bel) (hN.below bel) hnb
 have ce:=fun w' (bel2:Below w.heap.size w w')=>checkExprs_of IH ks (.slice ad vs.length cap) sv vs bs B fs w' D D2 D3 aN aA aW hsz hb (row_below hR bel2) (hE.below bel2) (hS.below bel2) (hA.below bel2) (hN.below bel2)
 have CE:Hid (∀w' (bel2:Below w.heap.size w w'),Calls prog 141 #[.slice ad vs.length cap,sv,.map (some B)] w' fun r w''=>r=.returned (errN (nmEs fs (namesOf bs) ks) aN aA aW)∧Below w'.heap.size w' w''):=ce
 clear hE IH ce hS hA hN hR
 cases hc:callErr fs nb.data.toList at_ vs.length with
 | some y =>
  obtain⟨c,p⟩:=y
  rw[hc] at ck
  obtain⟨a,ha⟩:∃a,errN (some (c,p)) aN aA aW=wrongV p a:=⟨_,rfl⟩
  have e:errN (orE (some (c,p)) (nmEs fs (namesOf bs) ks)) aN aA aW=wrongV p a:=ha
  rw[e]
  rw[ha] at ck
  clear hc ha e
  go_enter func104,ntmps104
  go_wp2_with (go_at_call 140;refine ck.mono ?_;rintro e w1 ⟨rfl,hb1⟩)
  go_ret
  exact⟨rfl,bel.trans (hb1.mono bel.size)⟩
 | none =>
  rw[hc] at ck
  have e:orE none (nmEs fs (namesOf bs) ks)=nmEs fs (namesOf bs) ks:=rfl
  rw[e]
  have e2:errN none aN aA aW=.nilIface:=rfl
  rw[e2] at ck
  clear hc e e2
  go_enter func104,ntmps104
  go_wp2_with fail
  refine ck.mono ?_
  rintro e w1 ⟨rfl,hb1⟩
  have bel1:=bel.trans (hb1.mono bel.size)
  have m3:w1.cell? ⟨w.heap.size,3,none⟩=some (.slice ad vs.length cap):=Below.cellv hb1 n3
  clear n0 n1 n2 n3 n4 ck
  go_wp2_with (go_at_call 141;refine (CE.out _ bel1).mono ?_;rintro e w2 ⟨rfl,hb2⟩)
  go_ret
  exact⟨rfl,bel1.trans (hb2.mono bel1.size)⟩
theorem new_cells5 (w:World)(x y z u v:Value)(t:TypeId):let X:=w.alloc (.cells #[x,y,z,u,v] t)
  X.cell? ⟨w.heap.size,0,none⟩=some x∧X.cell? ⟨w.heap.size,1,none⟩=some y∧X.cell? ⟨w.heap.size,2,none⟩=some z∧X.cell? ⟨w.heap.size,3,none⟩=some u∧X.cell? ⟨w.heap.size,4,none⟩=some v∧w.heap.size<X.heap.size:=by
 have h:(w.alloc (Obj.cells #[x,y,z,u,v] t)).heap[w.heap.size]?=some (.cells #[x,y,z,u,v] t):=heap_alloc_new _ _
 refine⟨?_,?_,?_,?_,?_,by simp⟩<;>(unfold World.cell?;rw[h];rfl)
theorem ce_let {k:Nat}(IH:ExprDo k)(sp:Nat)(x y:Ex)(nb:ByteArray)(at_:Nat)(t0 t1:TypeId)(x0 x1:Value)(B:Nat)(fs:List (List UInt8×Nat))(sv:Value)(bs:List ByteArray)(w:World)(D D2:Nat→Prop)(aN aA aW:Addr)(hS:StrsAt w D2 sv bs)(hA:AheadAt w B fs)(hN:ErrsN w aN aA aW)(hsx:szE x≤k)(hsy:szE y≤k)(hbx:bs.length+szE x≤100000)(hby:bs.length+1+szE y≤100000)(hX:RepE w D x (.iface t0 x0))(hY:RepE w D y (.iface t1 x1)):
  Calls prog 104 #[.iface 279 (.agg #[.int .i64 ((sp:Nat):Int),.string nb,.int .i64 ((at_:Nat):Int),.iface t0 x0,.iface t1 x1]),sv,.map (some B)] w fun r w'=>r=.returned (errN (orE (nmE fs (namesOf bs) x) (nmE fs (namesOf bs++[nb.data.toList]) y)) aN aA aW)∧Below w.heap.size w w':=by
 have bel:Below w.heap.size w (w.alloc (Obj.cells #[.int .i64 ((sp:Nat):Int),.string nb,.int .i64 ((at_:Nat):Int),.iface t0 x0,.iface t1 x1] 279)):=below1 w _
 obtain⟨n9,n0,n1,n2,n3,n4⟩:=new_cells5 w (.int .i64 ((sp:Nat):Int)) (.string nb) (.int .i64 ((at_:Nat):Int)) (.iface t0 x0) (.iface t1 x1) 279
 have ce:=IH x (.iface t0 x0) sv bs B fs _ D D2 aN aA aW hsx hbx (hX.below bel) (hS.below bel) (hA.below bel) (hN.below bel)
 have CW:Hid (∀w' (bel2:Below w.heap.size w w'),Calls prog 139 #[sv,nameV nb at_] w' fun e w''=>∃v',e=.returned v'∧StrsAt w'' (w'.heap.size≤·) v' (bs++[nb])∧Below w'.heap.size w' w''):=fun w' bel2=>within_any sv bs nb at_ w' D2 (hS.below bel2) (by omega)
 have hns:namesOf (bs++[nb])=namesOf bs++[nb.data.toList]:=by simp[namesOf]
 have CY:Hid (∀w' (D4:Nat→Prop) (v':Value) (bel2:Below w.heap.size w w'),StrsAt w' D4 v' (bs++[nb])→Calls prog 104 #[.iface t1 x1,v',.map (some B)] w' fun r w''=>r=.returned (errN (nmE fs (namesOf bs++[nb.data.toList]) y) aN aA aW)∧Below w'.heap.size w' w''):=fun w' D4 v' bel2 hs=>by
  have:=IH y (.iface t1 x1) v' (bs++[nb]) B fs w' D D4 aN aA aW hsy (by simp;omega) (hY.below bel2) hs (hA.below bel2) (hN.below bel2)
  rw[hns] at this
  exact this
 clear hX hY IH hS hA hN hns
 cases hm:nmE fs (namesOf bs) x with
 | some q =>
  obtain⟨c,p⟩:=q
  rw[hm] at ce
  obtain⟨a,ha⟩:∃a,errN (some (c,p)) aN aA aW=wrongV p a:=⟨_,rfl⟩
  have e:errN (orE (some (c,p)) (nmE fs (namesOf bs++[nb.data.toList]) y)) aN aA aW=wrongV p a:=ha
  rw[e]
  rw[ha] at ce
  clear hm ha e
  go_enter func104,ntmps104
  go_wp2_with (go_at_call 104;refine ce.mono ?_;rintro e w1 ⟨rfl,hb1⟩)
  go_ret
  exact⟨rfl,bel.trans (hb1.mono bel.size)⟩
 | none =>
  rw[hm] at ce
  have e:orE none (nmE fs (namesOf bs++[nb.data.toList]) y)=nmE fs (namesOf bs++[nb.data.toList]) y:=rfl
  rw[e]
  have e2:errN none aN aA aW=.nilIface:=rfl
  rw[e2] at ce
  generalize hR:errN (nmE fs (namesOf bs++[nb.data.toList]) y) aN aA aW=R at CY ⊢
  clear hm e e2 hR
  go_enter func104,ntmps104
  go_wp2_with fail
  refine ce.mono ?_
  rintro e w1 ⟨rfl,hb1⟩
  have bel1:=bel.trans (hb1.mono bel.size)
  have m0:w1.cell? ⟨w.heap.size,1,none⟩=some (.string nb):=Below.cellv hb1 n0
  have m1:w1.cell? ⟨w.heap.size,2,none⟩=some (.int .i64 ((at_:Nat):Int)):=Below.cellv hb1 n1
  have m3:w1.cell? ⟨w.heap.size,4,none⟩=some (.iface t1 x1):=Below.cellv hb1 n3
  clear n9 n0 n1 n2 n3 n4 ce
  go_wp2_with fail
  go_region_held3 (fun w'=>w'.cell? ⟨w.heap.size,1,none⟩=some (.string nb)∧w'.cell? ⟨w.heap.size,2,none⟩=some (.int .i64 ((at_:Nat):Int))∧w'.cell? ⟨w.heap.size,4,none⟩=some (.iface t1 x1)) (first | go_keep | (refine⟨Below.cellv hb2 ?_,Below.cellv hb2 ?_,Below.cellv hb2 ?_⟩<;>assumption) | (refine⟨Below.cellv hb3 ?_,Below.cellv hb3 ?_,Below.cellv hb3 ?_⟩<;>(refine Below.cellv hb2 ?_)<;>assumption))
   ((first
    |(go_at_call 139;refine (CW.out _ ?_).mono ?_;(exact bel1.drew);rintro e w2 ⟨v',rfl,hs2,hb2⟩)
    |(go_at_call 104;refine (CY.out _ _ v' ?_ hs2).mono ?_;(exact bel1.drew.trans (hb2.mono bel1.size));rintro e w3 ⟨rfl,hb3⟩)))
  all_goals go_wp2
  all_goals go_ret
  all_goals exact⟨rfl,(bel1.drew.trans (hb2.mono bel1.size)).trans (hb3.mono (Nat.le_trans bel1.size hb2.size))⟩
end Go.Proofs.YtifhgjpglicjbaaGreatDoor
namespace Go.Proofs.YtifhgjpglicjbaaGreatDoor
open Go.Proofs.Tryz
open Go.RowKit
theorem rep_one {w:World}{D:Nat→Prop}{ks:List Ex}{v:Value}(h:RepEs w D ks [v]):∃x,ks=[x]∧RepE w D x v:=by
 cases ks with
 | nil=>rw[RepEs] at h;cases h
 | cons x l =>
  rw[RepEs] at h
  obtain⟨v',r,h1,h2,h3⟩:=h
  cases h1
  cases l with
  | nil=>exact⟨x,rfl,h2⟩
  | cons y l=>rw[RepEs] at h3;obtain⟨_,_,h,_⟩:=h3;cases h
theorem rep_two {w:World}{D:Nat→Prop}{ks:List Ex}{v u:Value}(h:RepEs w D ks [v,u]):∃x y,ks=[x,y]∧RepE w D x v∧RepE w D y u:=by
 cases ks with
 | nil=>rw[RepEs] at h;cases h
 | cons x l =>
  rw[RepEs] at h
  obtain⟨v',r,h1,h2,h3⟩:=h
  cases h1
  obtain⟨y,rfl,h4⟩:=rep_one h3
  exact⟨x,y,rfl,h2,h4⟩
theorem exprDo_zero:ExprDo 0:=by
 intro e v sv bs B fs w D D2 aN aA aW h
 cases e<;>simp[szE] at h
theorem exprDo_succ {k:Nat}(IH:ExprDo k):ExprDo (k+1):=by
 intro e v sv bs B fs w D D2 aN aA aW hsz hb hR hS hA hN
 cases e with
 | num b =>
  rw[RepE] at hR
  obtain⟨sp,rfl⟩:=hR
  rw[nmE]
  refine (ce_num sp _ sv B w).mono ?_
  rintro r w' ⟨rfl,rfl⟩
  exact⟨rfl,Below.refl _ _⟩
 | txt b =>
  rw[RepE] at hR
  obtain⟨sp,bb,_,rfl⟩:=hR
  rw[nmE]
  refine (ce_txt sp _ sv B w).mono ?_
  rintro r w' ⟨rfl,rfl⟩
  exact⟨rfl,Below.refl _ _⟩
 | var n a =>
  rw[RepE] at hR
  obtain⟨nb,rfl,rfl⟩:=hR
  have hz:1≤szE (.var nb.data.toList a):=by rw[szE];omega
  refine (ce_var nb a sv bs B w D2 aN aA aW hS (by omega) hN).mono ?_
  rintro r w' ⟨rfl,hb'⟩
  refine⟨?_,hb'⟩
  rw[nmE,contains_names]
  cases (namesOf bs).contains nb.data.toList<;>rfl
 | form wd n a ks =>
  rw[RepE] at hR
  obtain⟨sp,vs,hE,hF⟩:=hR
  rw[szE] at hsz hb
  rcases hF with ⟨rfl,sl,rfl,hrow⟩ | ⟨rfl,nb,sl,rfl,hz,rfl,hrow⟩ | ⟨rfl,nb,v0,rfl,hz,rfl,rfl⟩ | ⟨rfl,nb,v0,v1,rfl,hz,rfl,rfl⟩ | ⟨rfl,v0,v1,v2,rfl,rfl⟩ | ⟨rfl,v0,v1,v2,rfl,rfl⟩ | ⟨rfl,v0,rfl,rfl⟩ | ⟨hs,ob,v0,v1,rfl,rfl,rfl⟩
  ·obtain⟨ad,len,cap,rfl⟩:=row_slice hrow
   rw[nm_other (by decide) (by decide) (by decide)]
   exact ce_list IH sp ks ad len cap vs D B fs sv bs w D D2 aN aA aW hS hA hN (by omega) (by omega) hrow hE
  ·obtain⟨ad,cap,rfl⟩:∃ad cap,sl=.slice ad vs.length cap:=by
    rcases hrow.2 with ⟨h,h0⟩ | ⟨g,c,_,h,_⟩
    ·exact⟨none,0,by rw[h,h0]⟩
    ·exact⟨_,_,h⟩
   have e:nmE fs (namesOf bs) (.form [99,97,108,108] nb.data.toList a ks)=orE (callErr fs nb.data.toList a vs.length) (nmEs fs (namesOf bs) ks):=by
    rw[nmE,hE.length]
    rfl
   rw[e]
   exact ce_call IH sp ks nb a ad cap vs D B fs sv bs w D D2 aN aA aW hS hA hN hz (by omega) (by omega) hrow hE
  ·obtain⟨x,rfl,hx⟩:=rep_one hE
   obtain⟨t0,x0,rfl⟩:=hx.iface
   have e:nmE fs (namesOf bs) (.form [109,97,112] nb.data.toList a [x])=orE (callErr fs nb.data.toList a 1) (nmE fs (namesOf bs) x):=by
    rw[nmE,nmEs_one]
    rfl
   rw[e]
   have h1:szEs [x]=szE x+1:=by rw[szEs,szEs]
   exact ce_map IH sp x nb a t0 x0 B fs sv bs w D D2 aN aA aW hS hA hN hz (by omega) (by omega) hx
  ·obtain⟨x,y,rfl,hx,hy⟩:=rep_two hE
   obtain⟨t0,x0,rfl⟩:=hx.iface
   obtain⟨t1,x1,rfl⟩:=hy.iface
   have e:nmE fs (namesOf bs) (.form [108,101,116] nb.data.toList a [x,y])=orE (nmE fs (namesOf bs) x) (nmE fs (namesOf bs++[nb.data.toList]) y):=by
    rw[nmE]
    have:nmLet fs (namesOf bs) nb.data.toList [x,y]=orE (nmE fs (namesOf bs) x) (nmE fs (namesOf bs++[nb.data.toList]) y):=by rw[nmLet,nmEs_one]
    rw[this]
    rfl
   rw[e]
   have h1:szEs [x,y]=szE x+(szE y+1)+1:=by rw[szEs,szEs,szEs]
   exact ce_let IH sp x y nb a t0 t1 x0 x1 B fs sv bs w D D2 aN aA aW hS hA hN (by omega) (by omega) (by omega) (by omega) hx hy
  ·obtain⟨t0,x0,rfl⟩:=hE.ifs v0 (by simp)
   obtain⟨t1,x1,rfl⟩:=hE.ifs v1 (by simp)
   obtain⟨t2,x2,rfl⟩:=hE.ifs v2 (by simp)
   rw[nm_other (by decide) (by decide) (by decide)]
   exact ce_if IH sp ks t0 t1 t2 x0 x1 x2 B fs sv bs w D D2 aN aA aW hS hA hN (by omega) (by omega) hE
  ·obtain⟨t0,x0,rfl⟩:=hE.ifs v0 (by simp)
   obtain⟨t1,x1,rfl⟩:=hE.ifs v1 (by simp)
   obtain⟨t2,x2,rfl⟩:=hE.ifs v2 (by simp)
   rw[nm_other (by decide) (by decide) (by decide)]
   exact ce_set IH sp ks t0 t1 t2 x0 x1 x2 B fs sv bs w D D2 aN aA aW hS hA hN (by omega) (by omega) hE
  ·obtain⟨x,rfl,hx⟩:=rep_one hE
   obtain⟨t0,x0,rfl⟩:=hx.iface
   rw[nm_other (by decide) (by decide) (by decide),nmEs_one]
   have h1:szEs [x]=szE x+1:=by rw[szEs,szEs]
   exact ce_len IH sp x t0 x0 B fs sv bs w D D2 aN aA aW hS hA hN (by omega) (by omega) hx
  ·obtain⟨t0,x0,rfl⟩:=hE.ifs v0 (by simp)
   obtain⟨t1,x1,rfl⟩:=hE.ifs v1 (by simp)
   rw[nm_other (by rintro h;rw[h] at hs;revert hs;decide) (by rintro h;rw[h] at hs;revert hs;decide) (by rintro h;rw[h] at hs;revert hs;decide)]
   exact ce_binary IH sp ks ob t0 t1 x0 x1 B fs sv bs w D D2 aN aA aW hS hA hN (by omega) (by omega) hE
theorem exprDo_all:∀k,ExprDo k
 | 0=>exprDo_zero
 | k+1=>exprDo_succ (exprDo_all k)
end Go.Proofs.YtifhgjpglicjbaaGreatDoor
