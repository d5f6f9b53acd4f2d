import Derived.Test.YtdlibbiaaejpmaaGreatTO14
import Derived.Test.YtdlibbiaaejpmaaGreatTO04
import Derived.Test.YtdlibbiaaejpmaaGreatTO20
import Derived.Test.YtdlibbiaaejpmaaGreatTO15
namespace Go.Proofs.YtdlibbiaaejpmaaGreat
set_option maxRecDepth 100000
set_option linter.unusedVariables false
open Go.RowKit
attribute [local go_sem ↓] Go.wp_at_zero Go.wp_at_succ
set_option maxHeartbeats 2000000 in
theorem indexf_var {w:World} {so:Option Addr} {sc:Nat} {t:List Int} (ht:IntsAt w so t) (hm:t.length≤maxLen) :
  Calls Tryz.prog 111 #[.slice so t.length sc,.func (.func 71) #[] #[]] w fun e w' => ∃ z:Int,e=.returned (.int .i64 z)∧FoundAt z (t.any (fun x=>decide (x<0)))∧w' = w:=by
 have CV:=tvar_any
 unfold maxLen at hm
 go_enter Tryz.func111,Tryz.ntmps111
 go_wp2
 go_loop [8] (fun i=>∃ k:Nat,k≤t.length∧i=.int .i64 (k:Int)∧Hid ((t.take k).any (fun x=>decide (x<0))=false)) (fun i=>t.length-(intOf i).toNat)
 case atStart=>exact ⟨0,Nat.zero_le _,rfl,by show _=_;simp⟩
 case round=>
  obtain ⟨k,hk,rfl,ha⟩:=hrel
  by_cases hlt:k<t.length
  ·obtain ⟨tb,off,rfl,_,hc⟩:=ht.get hlt
   have i1:(0:Int)≤(k:Int):=by omega
   have i2:(k:Int)<(t.length:Int):=by omega
   have C:=CV t[k] w
   cases hq:decide (t[k]<0) with
   | true=>
    have H:Hid (FoundAt (k:Int) (t.any (fun x=>decide (x<0)))):=by
     have e1:t.any (fun x=>decide (x<0))=true:=List.any_eq_true.2 ⟨t[k],List.getElem_mem hlt,hq⟩
     show decide _=_
     rw [e1];simp
    rw [hq] at C
    clear hq ha CV
    go_wp2_with (first | (go_at_call 71;refine C.mono ?_;rintro e w2 ⟨rfl,rfl⟩))
    go_ret
    exact ⟨_,rfl,H.out,rfl⟩
   | false=>
    have H:Hid ((t.take (k+1)).any (fun x=>decide (x<0))=false):=by
     have e1:=ha.out
     show _=_
     rw [List.take_add_one,List.getElem?_eq_getElem hlt,List.any_append,e1]
     simpa using hq
    rw [hq] at C
    clear hq ha CV
    go_wp2_with (first | (go_at_call 71;refine C.mono ?_;rintro e w2 ⟨rfl,rfl⟩))
    exact ⟨⟨k+1,by omega,by go_num,H⟩,by simp [intOf];omega⟩
  ·have H:Hid (FoundAt (-1) (t.any (fun x=>decide (x<0)))):=by
    have:=ha.out
    rw [List.take_of_length_le (by omega)] at this
    show decide _=_
    rw [this];rfl
   go_wp2
   go_ret
   exact ⟨_,rfl,H.out,rfl⟩
set_option maxHeartbeats 1000000 in
theorem containsf_var {w:World} {so:Option Addr} {sc:Nat} {t:List Int} (ht:IntsAt w so t) (hm:t.length≤maxLen) :
  Calls Tryz.prog 70 #[.slice so t.length sc,.func (.func 71) #[] #[]] w fun e w' => e=.returned (.bool (t.any (fun x=>decide (x<0))))∧w' = w:=by
 have C:=indexf_var (sc:=sc) ht hm
 clear ht
 generalize t.any (fun x=>decide (x<0))=z at *
 go_enter Tryz.func70,Tryz.ntmps70
 go_wp2_with (first | (go_at_call 111;refine C.mono ?_;rintro e w2 ⟨z', rfl,hz,rfl⟩))
 go_ret
 exact ⟨ret_bool (FoundAt.eq hz),rfl⟩
set_option maxHeartbeats 8000000 in
theorem walk_demand {w:World} {bs:Nat} {L:List Sym} (hs:Sg w.heap.size w bs L) {n:Nat} {B:Nat→Prop} {v:Value} {r:Int} {p:List Int} {l:List (Int × Tr n)} (h:CsB B w (n+1) v (2,r,p,l)) {tto:Option Addr} {tc:Nat} {T:List Int} (ht:Arg w tto T tc) (hc:checkE L T=0) (hv:T.any (fun x=>decide (x<0))=false) {a:Nat} (ha:a<T.length) {q:Nat} (hq:leads L (subN L T a) 0 p=some q) (hql:q<(subN L T a).length) (hd:defB L (subN L T a)[q]=true) :
  Calls Tryz.prog 31 #[.pointer (some ⟨bs,0,none⟩),v,.slice tto T.length tc,.int .i64 (a:Int)] w fun e w' => ∃ po pc,e=.returned (.tuple #[.agg #[.int .i64 3,.int .i64 0,.slice po p.length pc,.int .i64 ((a+q:Nat):Int)],.int .i64 0])∧IntsAt w' po p∧Same0 w w' := by
 obtain ⟨po,pc,ko,kc,rfl,h2,h3,h4,h5,h6⟩:=h
 have hT:=checkE_zero.1 hc
 have hpz:placeE L T (a:Int)=0:=by unfold placeE;rw [if_neg (by simp [hc]),if_neg (by omega)]
 have hsub:checkE L (subN L T a)=0:=by
  refine checkE_zero.2 ⟨?_,?_,sub_need hT.2.2 ha⟩
  ·rw [sub_length hT.2.2 ha];have:=(endN_le hT.2.2 ha).2;omega
  ·refine badE_zero.2 (fun x hx=>badE_zero.1 hT.2.1 x ?_)
   unfold subN at hx
   exact List.mem_of_mem_take (List.mem_of_mem_drop hx)
 obtain ⟨W1,hW1⟩:∃ W1,W1=(w.alloc (.cells #[.int .i64 2,.int .i64 r,.slice po p.length pc,.slice ko l.length kc] 35)).alloc (.cells #[.int .i64 0,.int .i64 0,.slice none 0 0,.int .i64 0] 85):=⟨_,rfl⟩
 have KW:Same0 w W1:=by rw [hW1];exact ((Kept.refl _ w).alloc _).alloc _
 have ez:w.heap.size+1<W1.heap.size:=by rw [hW1];simp
 have BX:Hid (∀ ww,Same0 W1 ww→ww.cell? ⟨w.heap.size,0,none⟩=some (.int .i64 2)∧ww.cell? ⟨w.heap.size,2,none⟩=some (.slice po p.length pc)):=fun ww hk=>by
  have h1:=hk.at0 (show W1.heap[w.heap.size]? = _ by rw [hW1];exact heap_alloc2_old _ _ _)
  exact ⟨cellAt h1 0,cellAt h1 2⟩
 have RS:Hid (∀ ww,Same0 W1 ww→ww.heap[w.heap.size+1]? = some (.cells #[.int .i64 0,.int .i64 0,.slice none 0 0,.int .i64 0] 85 (0,0))):=fun ww hk=>hk.at0 (by rw [hW1];exact heap_al_al _ _ _)
 have RC:Hid (∀ ww,Same0 W1 ww→(ww.cell? ⟨w.heap.size+1,0,none⟩=some (.int .i64 0)∧ww.cell? ⟨w.heap.size+1,1,none⟩=some (.int .i64 0)∧ww.cell? ⟨w.heap.size+1,2,none⟩=some (.slice none 0 0)∧ww.cell? ⟨w.heap.size+1,3,none⟩=some (.int .i64 0))∧ww.frozen? ⟨w.heap.size+1,0,none⟩=false∧ww.frozen? ⟨w.heap.size+1,1,none⟩=false∧ww.frozen? ⟨w.heap.size+1,2,none⟩=false∧ww.frozen? ⟨w.heap.size+1,3,none⟩=false):=fun ww hk=>by
  have rs:=RS.out ww hk
  exact ⟨⟨cellAt rs 0,cellAt rs 1,cellAt rs 2,cellAt rs 3⟩,frozenAt rs 0,frozenAt rs 1,frozenAt rs 2,frozenAt rs 3⟩
 have PUT:Hid (∀ ww x0 x1 x2 x3,Same0 W1 ww→(((((ww.setCell ⟨w.heap.size+1,0,none⟩ x0).setCell ⟨w.heap.size+1,1,none⟩ x1).setCell ⟨w.heap.size+1,2,none⟩ x2).setCell ⟨w.heap.size+1,3,none⟩ x3)).cell? ⟨w.heap.size+1,0,none⟩=some x0∧(((((ww.setCell ⟨w.heap.size+1,0,none⟩ x0).setCell ⟨w.heap.size+1,1,none⟩ x1).setCell ⟨w.heap.size+1,2,none⟩ x2).setCell ⟨w.heap.size+1,3,none⟩ x3)).cell? ⟨w.heap.size+1,1,none⟩=some x1∧(((((ww.setCell ⟨w.heap.size+1,0,none⟩ x0).setCell ⟨w.heap.size+1,1,none⟩ x1).setCell ⟨w.heap.size+1,2,none⟩ x2).setCell ⟨w.heap.size+1,3,none⟩ x3)).cell? ⟨w.heap.size+1,2,none⟩=some x2∧(((((ww.setCell ⟨w.heap.size+1,0,none⟩ x0).setCell ⟨w.heap.size+1,1,none⟩ x1).setCell ⟨w.heap.size+1,2,none⟩ x2).setCell ⟨w.heap.size+1,3,none⟩ x3)).cell? ⟨w.heap.size+1,3,none⟩=some x3∧Kept (fun i=>i=w.heap.size+1) ww (((((ww.setCell ⟨w.heap.size+1,0,none⟩ x0).setCell ⟨w.heap.size+1,1,none⟩ x1).setCell ⟨w.heap.size+1,2,none⟩ x2).setCell ⟨w.heap.size+1,3,none⟩ x3))∧Same0 w (((((ww.setCell ⟨w.heap.size+1,0,none⟩ x0).setCell ⟨w.heap.size+1,1,none⟩ x1).setCell ⟨w.heap.size+1,2,none⟩ x2).setCell ⟨w.heap.size+1,3,none⟩ x3))):=by
  intro ww x0 x1 x2 x3 hk
  have rs:=RS.out ww hk
  have s3:=setAt (setAt (setAt (setAt rs 0 x0) 1 x1) 2 x2) 3 x3
  have k1:=Kept.setCell (p:=⟨w.heap.size+1,0,none⟩) (Kept.refl (fun q=>q=w.heap.size+1) ww) (fun _=>rfl) x0
  have k2:=Kept.setCell (p:=⟨w.heap.size+1,1,none⟩) k1 (fun _=>rfl) x1
  have k3:=Kept.setCell (p:=⟨w.heap.size+1,2,none⟩) k2 (fun _=>rfl) x2
  have k4:=Kept.setCell (p:=⟨w.heap.size+1,3,none⟩) k3 (fun _=>rfl) x3
  exact ⟨cellAt s3 0,cellAt s3 1,cellAt s3 2,cellAt s3 3,k4,Kept.trans (KW.trans' hk) k4 (fun i hi e=>by omega)⟩
 have C1:=check_any (cap:=tc) (sg_up (hs.same KW) KW.size) (ht.same KW).at' (by unfold maxLen;omega)
 rw [hc] at C1
 have C2:Hid (∀ ww,Same0 W1 ww→Calls Tryz.prog 70 #[.slice tto T.length tc,.func (.func 71) #[] #[]] ww fun e w' => e=.returned (.bool false)∧w' = ww):=fun ww hk=>by
  have:=containsf_var (sc:=tc) ((ht.same KW).same hk).at' (by unfold maxLen;omega)
  rw [hv] at this
  exact this
 have C3:Hid (∀ ww,Same0 W1 ww→Calls Tryz.prog 62 #[.pointer (some ⟨bs,0,none⟩),.slice tto T.length tc,.int .i64 (a:Int)] ww fun e w' => ∃ uo uc,e=.returned (.tuple #[.slice uo (subN L T a).length uc,.int .i64 0])∧Hid (IntsAt w' uo (subN L T a))∧Same0 ww w'):=fun ww hk=>by
  refine (sub_any (cap:=tc) (sg_up ((hs.same KW).same hk) (KW.trans' hk).size) ((ht.same KW).same hk).at' (by unfold maxLen;omega) ht.cap' (a:Int)).mono ?_
  rintro e w' ⟨v,rfl,hr,k⟩
  rw [subA,if_pos hpz] at hr
  simp only [Int.toNat_natCast] at hr
  obtain ⟨uo,uc,rfl,h1,_⟩:=hr.ints
  exact ⟨uo,uc,by rw [hpz],h1,k⟩
 have C4:Hid (∀ ww uo uc,Same0 W1 ww→IntsAt ww uo (subN L T a)→Calls Tryz.prog 72 #[.pointer (some ⟨bs,0,none⟩),.slice uo (subN L T a).length uc,.slice po p.length pc] ww fun e w' => e=.returned (.tuple #[.int .i64 (q:Int),.int .i64 0])∧Same0 ww w'):=fun ww uo uc hk hu=>by
  have:=place_any (cap:=uc) (pcap:=pc) (sg_up ((hs.same KW).same hk) (KW.trans' hk).size) hu (by have:=checkE_zero.1 hsub;unfold maxLen;omega) ((h2.same KW).same hk).at' (by have:=h2.size;unfold maxLen;omega)
  unfold leadA leadE at this
  rw [if_neg (by simp [hsub]),if_neg (by simp [hsub]),hq] at this
  exact this
 have C5:Hid (∀ ww,Same0 W1 ww→Calls Tryz.prog 38 #[.pointer (some ⟨bs,0,none⟩),.int .i64 (subN L T a)[q]] ww fun e w' => e=.returned (.bool true)∧Same0 ww w'):=fun ww hk=>by rw [← hd];exact tdef_any (sg_up ((hs.same KW).same hk) (KW.trans' hk).size) _
 have C6:Hid (∀ ww,Same0 W1 ww→Calls Tryz.prog 73 #[.slice po p.length pc] ww fun e w' => ∃ co cc,e=.returned (.slice co p.length cc)∧Hid (IntsAt w' co p∧∀ a,co=some a→ww.heap.size≤a.block)∧Same0 ww w'):=fun ww hk=>by
  refine (cloneI_any ((h2.same KW).same hk)).mono ?_
  rintro e w' ⟨v,rfl,hr,k⟩
  obtain ⟨co,cc,rfl,h1,_,hb⟩:=hr.ints
  exact ⟨co,cc,rfl,⟨h1,fun a e=>(hb a e).1⟩,k⟩
 have ew:IntKind.i64.wrap ((a:Int)+(q:Int))=(a:Int)+(q:Int):=iwrap (by omega) (by have:=checkE_zero.1 hsub;omega)
 have i1:(0:Int)≤(q:Int):=by omega
 have i2:(q:Int)<((subN L T a).length:Int):=by omega
 generalize hU:subN L T a=U at *
 clear hU h6 h2 h3 hsub hT hc hv hpz hq hd ht hs
 obtain ⟨b0,b2⟩:=BX.out W1 (Kept.refl _ _)
 go_enter Tryz.func31,Tryz.ntmps31
 go_upto_region 1 with fail
 rw [← hW1]
 clear hW1
 go_upto_region 4 with (first | (go_at_call 61;refine C1.mono ?_;rintro e w2 ⟨rfl,k2⟩))
 have D2:=C2.out w2 k2
 go_upto_region 6 with (first | (go_at_call 70;refine D2.mono ?_;rintro e w3 ⟨rfl,rfl⟩))
 have D3:=C3.out w3 k2
 go_wp2_with (first | (go_at_call 62;refine D3.mono ?_;rintro e w4 ⟨uo,uc,rfl,hu,k4⟩))
 have k14:=k2.trans' k4
 obtain ⟨c0,c2⟩:=BX.out w4 k14
 have D4:=C4.out w4 uo uc k14 hu.out
 refine wp_loop_rounds 1 ?_
 rw [rounds_succ]
 go_upto_region 13 with (first | (go_at_call 72;refine D4.mono ?_;rintro e w5 ⟨rfl,k5⟩))
 obtain ⟨ub,uoff,rfl,hub,hcell⟩:=(hu.out.same k5).get hql
 have D5:=C5.out w5 (k14.trans' k5)
 go_upto_region 14 with (first | (go_at_call 38;refine D5.mono ?_;rintro e w6 ⟨rfl,k6⟩))
 have k16:=(k14.trans' k5).trans' k6
 obtain ⟨d0,d2⟩:=BX.out w6 k16
 have D6:=C6.out w6 k16
 go_wp2_with (first | (go_at_call 73;refine D6.mono ?_;rintro e w7 ⟨co,cc,rfl,hcl,k7⟩;obtain ⟨⟨r0,r1,r2,r3⟩,f0,f1,f2,f3⟩:=RC.out w7 (k16.trans' k7)))
 obtain ⟨g0,g1,g2,g3,kk,ks⟩:=PUT.out w7 (.int .i64 3) (.int .i64 0) (.slice co p.length cc) (.int .i64 ((a:Int)+(q:Int))) (k16.trans' k7)
 obtain ⟨hc1,hc2⟩:=hcl.out
 have z6:=k16.size
 exact bodyPost_ret (v:=.tuple #[.agg #[.int .i64 3,.int .i64 0,.slice co p.length cc,.int .i64 ((a:Int)+(q:Int))],.int .i64 0]) (by simp [results,Tryz.results31,go_sem,g0,g1,g2,g3]) rfl ⟨co,cc,by simp,hc1.kept kk (fun a e f=>by have:=hc2 a e;omega),ks⟩
abbrev L6:List Sym:=[⟨⟨#[122]⟩,0,false⟩,⟨⟨#[115]⟩,1,false⟩,⟨⟨#[97]⟩,0,false⟩,⟨⟨#[97,100,100]⟩,2,true⟩,⟨⟨#[102]⟩,3,true⟩,⟨⟨#[104]⟩,0,true⟩]
theorem nm8_z:nameB ⟨#[122]⟩=true:=by decide +kernel
theorem nm8_s:nameB ⟨#[115]⟩=true:=by decide +kernel
theorem nm8_a:nameB ⟨#[97]⟩=true:=by decide +kernel
theorem nm8_add:nameB ⟨#[97,100,100]⟩=true:=by decide +kernel
theorem nm8_f:nameB ⟨#[102]⟩=true:=by decide +kernel
theorem nm8_h:nameB ⟨#[104]⟩=true:=by decide +kernel
theorem madeL_aw8:madeL L6=L6:=by
 simp [madeL,addL,addErr,nm8_z,nm8_s,nm8_a,nm8_add,nm8_f,nm8_h,findI]
abbrev ru8a:Ru:=([3,0, -1],[-1])
abbrev ru8b:Ru:=([3,1, -1, -2],[1,3, -1, -2])
theorem aw8_a:Ans L6 [] [ru8a] []:=Ans.of_all (by decide +kernel)
theorem aw8_b:Ans L6 [ru8a] [ru8b] []:=Ans.of_all (by decide +kernel)
theorem aw8_R {R:List Ru} (h:StoredR L6 [ru8a,ru8b] [] R):R=[ru8a,ru8b]:=by
 rcases h with ⟨_,h⟩ | ⟨h,_⟩
 ·rcases h with ⟨_,h⟩ | ⟨h,_⟩
  ·exact h
  ·exact absurd aw8_b h
 ·exact absurd aw8_a h
def tree8 (n:Nat):Tr (n+1+1):=(2,0,[0],[(0,((1,0,[],[]):Int × Int × List Int × List (Int × Tr n))),(1,((1,1,[],[]):Int × Int × List Int × List (Int × Tr n)))])
theorem aw8_grow (n:Nat):growF L6 (n+1+1) (rootP L6 3) (rootR L6 [ru8a,ru8b] 3)=.ok (tree8 n):=by rfl
theorem aw8_tree:treeF L6 [ru8a,ru8b] 3=.ok (tree8 1999):=aw8_grow 1999
theorem aw8_small (n:Nat):SmT (n+1+1) (tree8 n):=by
 refine ⟨by simp,fun i hi=>?_⟩
 have hi' : i<2:=hi
 match i,hi' with
 | 0,_=>exact ⟨by simp,fun i hi=>absurd hi (by simp)⟩
 | 1,_=>exact ⟨by simp,fun i hi=>absurd hi (by simp)⟩
theorem aw8_lit (w:World) (n:Nat):CsB (fun _=>True) ((w.alloc (.cells #[.int .i64 0] 3)).alloc (.cells #[.int .i64 0,.int .i64 1,.int .i64 0,.slice none 0 0,.slice none 0 0,.int .i64 1,.int .i64 1,.int .i64 1,.slice none 0 0,.slice none 0 0] 89)) (n+1+1) (.agg #[.int .i64 2,.int .i64 0,.slice (some ⟨w.heap.size,0,none⟩) 1 1,.slice (some ⟨w.heap.size+1,0,none⟩) 2 2]) (tree8 n):=by
 have ka:Same0 (w.alloc (.cells #[.int .i64 0] 3)) ((w.alloc (.cells #[.int .i64 0] 3)).alloc (.cells #[.int .i64 0,.int .i64 1,.int .i64 0,.slice none 0 0,.slice none 0 0,.int .i64 1,.int .i64 1,.int .i64 1,.slice none 0 0,.slice none 0 0] 89)):=(Kept.refl _ _).alloc _
 have hb:=heap_al_al w (.cells #[.int .i64 0] 3) (.cells #[.int .i64 0,.int .i64 1,.int .i64 0,.slice none 0 0,.slice none 0 0,.int .i64 1,.int .i64 1,.int .i64 1,.slice none 0 0,.slice none 0 0] 89)
 refine ⟨_,1,_,2,rfl,(ints_arg w [0] 3 (by simp) rfl).same ka,.inr (fun _ _=>trivial),(fun e=>by cases e),Nat.le_refl _,.inr ⟨_,0,rfl,trivial,lt_of_at hb,fun i hi=>?_⟩⟩
 have hi' : i<2:=hi
 match i,hi' with
 | 0,_=>exact ⟨_,_,_,_,cellAt hb 0,cellAt hb 1,cellAt hb 2,cellAt hb 3,cellAt hb 4,leaf_cs _ _ _ _ _⟩
 | 1,_=>exact ⟨_,_,_,_,cellAt hb 5,cellAt hb 6,cellAt hb 7,cellAt hb 8,cellAt hb 9,leaf_cs _ _ _ _ _⟩
theorem syms_aw8 (w:World) (T:TypeId):SymsAt (w.alloc (.cells #[.string ⟨#[122]⟩,.int .i64 0,.bool false,.string ⟨#[115]⟩,.int .i64 1,.bool false,.string ⟨#[97]⟩,.int .i64 0,.bool false,.string ⟨#[97,100,100]⟩,.int .i64 2,.bool true,.string ⟨#[102]⟩,.int .i64 3,.bool true,.string ⟨#[104]⟩,.int .i64 0,.bool true] T)) (some ⟨w.heap.size,0,none⟩) 6 L6:=by
 refine ⟨rfl,.inr ⟨_,_,rfl,by simp,fun i hi=>?_⟩,?_⟩
 ·have hi' : i<6:=by simpa using hi
  rw [cellAt (heap_alloc_new w _),cellAt (heap_alloc_new w _),cellAt (heap_alloc_new w _)]
  match i,hi' with
  | 0,_=>exact ⟨rfl,rfl,rfl⟩
  | 1,_=>exact ⟨rfl,rfl,rfl⟩
  | 2,_=>exact ⟨rfl,rfl,rfl⟩
  | 3,_=>exact ⟨rfl,rfl,rfl⟩
  | 4,_=>exact ⟨rfl,rfl,rfl⟩
  | 5,_=>exact ⟨rfl,rfl,rfl⟩
 ·intro x hx
  simp at hx
  rcases hx with rfl | rfl | rfl | rfl | rfl | rfl <;> exact ⟨by decide +kernel,by decide +kernel⟩
theorem SymsAt.same8 {w w' : World} {ao:Option Addr} {len:Nat} {xs:List Sym} (h:SymsAt w ao len xs) (hk:Same0 w w'):SymsAt w' ao len xs:=by
 obtain ⟨h1,h2,h3⟩:=h
 refine ⟨h1,h2.imp id ?_,h3⟩
 rintro ⟨b,off,e,hb,hc⟩
 refine ⟨b,off,e,Nat.lt_of_lt_of_le hb hk.size,fun i hi=>?_⟩
 obtain ⟨c1,c2,c3⟩:=hc i hi
 exact ⟨(hk.cell (p:=⟨b,_,none⟩) hb (fun f=>f)).trans c1,(hk.cell (p:=⟨b,_,none⟩) hb (fun f=>f)).trans c2,(hk.cell (p:=⟨b,_,none⟩) hb (fun f=>f)).trans c3⟩
set_option maxHeartbeats 1000000 in
theorem plain8_any (w:World):Calls Tryz.prog 30 #[] w fun e w' => ∃ g g', e=.returned (.tuple #[.slice (some ⟨g,0,none⟩) 6 6,.slice (some ⟨g', 0,none⟩) 2 2])∧SymsAt w' (some ⟨g,0,none⟩) 6 L6∧RsAt w' (some ⟨g', 0,none⟩) [ru8a,ru8b]∧Same0 w w' := by
 have S:=syms_aw8 w 134
 have K:Same0 w (w.alloc (.cells #[.string ⟨#[122]⟩,.int .i64 0,.bool false,.string ⟨#[115]⟩,.int .i64 1,.bool false,.string ⟨#[97]⟩,.int .i64 0,.bool false,.string ⟨#[97,100,100]⟩,.int .i64 2,.bool true,.string ⟨#[102]⟩,.int .i64 3,.bool true,.string ⟨#[104]⟩,.int .i64 0,.bool true] 134)):=(Kept.refl _ w).alloc _
 have RR:=rs_two (w.alloc (.cells #[.string ⟨#[122]⟩,.int .i64 0,.bool false,.string ⟨#[115]⟩,.int .i64 1,.bool false,.string ⟨#[97]⟩,.int .i64 0,.bool false,.string ⟨#[97,100,100]⟩,.int .i64 2,.bool true,.string ⟨#[102]⟩,.int .i64 3,.bool true,.string ⟨#[104]⟩,.int .i64 0,.bool true] 134)) [3,0, -1] [-1] [3,1, -1, -2] [1,3, -1, -2] 3 3 3 3 49 (by decide) (by decide) (by decide) (by decide) rfl rfl rfl rfl rfl
 have HH:Hid _:=RR
 have HS:Hid _:=S
 clear RR S
 go_enter Tryz.func30,Tryz.ntmps30
 go_wp2
 go_ret2
 obtain ⟨r1,r2⟩:=HH.out
 simp only [World.size_alloc] at r1 r2
 exact ⟨_,_,rfl,SymsAt.same8 HS.out r2,r1,K.trans' r2⟩
theorem aw8_err (w:World):(binOp .eql 37 .nilIface .nilIface).run Tryz.prog w=.ok (.bool true) w:=by kernel_rfl
set_option maxHeartbeats 16000000 in
theorem awake8_any (w:World):Calls Tryz.prog 7 #[] w fun e w' => e=.returned (.bool true)∧Same0 w w' := by
 have hnn:=aw8_err
 have hpn:=ptr_nil
 have CP:=plain8_any w
 go_enter Tryz.func7,Tryz.ntmps7
 go_upto_region 2 with (first | (go_at_call 30;refine CP.mono ?_;rintro e w0 ⟨g,g', rfl,hsy,hru,K0⟩))
 have CS:=stored_any (cap:=6) (lc:=2) hsy (by decide) hru (by decide) (by decide)
 rw [madeL_aw8] at CS
 clear CP hsy hru
 go_upto_region 3 with (first | (go_at_call 8;refine CS.mono ?_;rintro e w1 ⟨bs,b,m,ro,rc,lv,vs,mv,ms,R,rfl,hT,hR⟩))
 obtain rfl:=aw8_R hR
 have K1:Same0 w w1:=K0.trans' hT.same
 have hst:=hT.st
 clear CS hR K0 hT
 have HST:Hid (∀ ww,Same0 w1 ww→StAt ww b bs L6 [ru8a,ru8b] lv vs):=fun ww hk=>hst.same hk
 have B1:Calls Tryz.prog 9 #[.pointer (some ⟨b,0,none⟩),.int .i64 3] w1 fun e w' => ∃ tk tr tpo tpl tpc tko tkl tkc,e=.returned (.tuple #[.agg #[.int .i64 tk,.int .i64 tr,.slice tpo tpl tpc,.slice tko tkl tkc],.nilIface])∧Hid (CsB (fun b=>w1.heap.size≤b) w' 2001 (.agg #[.int .i64 tk,.int .i64 tr,.slice tpo tpl tpc,.slice tko tkl tkc]) (tree8 1999))∧Same0 w1 w' := by
  refine (build_any hst 3).mono ?_
  rintro e w' ⟨hk,h⟩
  rw [if_pos (show defB L6 3=true by decide)] at h
  have e3:(3:Int).toNat=3:=rfl
  rw [e3,aw8_tree] at h
  obtain ⟨v,rfl,hc⟩:=h
  obtain ⟨tk,tr,tpo,tpl,tpc,tko,tkl,tkc,rfl⟩:=hc.shape
  exact ⟨tk,tr,tpo,tpl,tpc,tko,tkl,tkc,rfl,hc,hk⟩
 clear hst
 go_upto_region 6 with (first | (go_at_call 9;refine B1.mono ?_;rintro e w2 ⟨tk,tr,tpo,tpl,tpc,tko,tkl,tkc,rfl,hcs,k2⟩))
 obtain ⟨w3,hw3⟩:∃ w3,w3=w2.alloc (.cells #[.int .i64 tk,.int .i64 tr,.slice tpo tpl tpc,.slice tko tkl tkc] 35):=⟨_,rfl⟩
 have k3:Same0 w2 w3:=by rw [hw3];exact (Kept.refl _ _).alloc _
 have HC:Hid (∀ ww,Same0 w3 ww→ww.cell? ⟨w2.heap.size,0,none⟩=some (.int .i64 tk)∧ww.cell? ⟨w2.heap.size,1,none⟩=some (.int .i64 tr)∧ww.cell? ⟨w2.heap.size,2,none⟩=some (.slice tpo tpl tpc)∧ww.cell? ⟨w2.heap.size,3,none⟩=some (.slice tko tkl tkc)):=fun ww hk=>by
  have h0:w3.heap[w2.heap.size]? = some (.cells #[.int .i64 tk,.int .i64 tr,.slice tpo tpl tpc,.slice tko tkl tkc] 35 (0,0)):=by rw [hw3];exact heap_alloc_new w2 _
  have h1:=hk.at0 h0
  exact ⟨cellAt h1 0,cellAt h1 1,cellAt h1 2,cellAt h1 3⟩
 have HCS:Hid (∀ ww,Same0 w3 ww→CsB (fun b=>w1.heap.size≤b) ww 2001 (.agg #[.int .i64 tk,.int .i64 tr,.slice tpo tpl tpc,.slice tko tkl tkc]) (tree8 1999)):=fun ww hk=>(hcs.out.same k3).same hk
 have K3:Same0 w1 w3:=k2.trans' k3
 rw [← hw3]
 clear hw3 hcs B1 k2 k3
 have B2:Calls Tryz.prog 9 #[.pointer (some ⟨b,0,none⟩),.int .i64 0] w3 fun e w' => ∃ k,e=.returned (.tuple #[zeroC,.iface 98 (.pointer (some ⟨k,0,none⟩))])∧Hid (FltAt w' [(80,0)] (.iface 98 (.pointer (some ⟨k,0,none⟩))))∧Same0 w3 w' := by
  refine (build_any (HST.out w3 K3) 0).mono ?_
  rintro e w' ⟨hk,h⟩
  rw [if_neg (show ¬ defB L6 0=true by decide)] at h
  obtain ⟨v,rfl,hf⟩:=h
  obtain ⟨k,rfl⟩:∃ k,v=.iface 98 (.pointer (some ⟨k,0,none⟩)):=by
   rcases hf with ⟨q,_⟩ | ⟨_,k,u,e1,_⟩
   ·omega
   ·exact ⟨k,e1⟩
  exact ⟨k,rfl,hf,hk⟩
 go_upto_region 7 with (first | (go_at_call 9;refine B2.mono ?_;rintro e w4 ⟨kf,rfl,hf,k4⟩))
 obtain ⟨w5,hw5⟩:∃ w5,w5=w4.alloc zeroCs:=⟨_,rfl⟩
 have k5:Same0 w4 w5:=by rw [hw5];exact (Kept.refl _ _).alloc _
 have K5:Same0 w3 w5:=k4.trans' k5
 have HF:Hid (∀ ww,Same0 w5 ww→FltAt ww [(80,0)] (.iface 98 (.pointer (some ⟨kf,0,none⟩)))):=fun ww hk=>FltAt.same hk (FltAt.same k5 hf.out)
 rw [← hw5]
 clear hw5 hf B2 k4 k5
 obtain ⟨c0,c1,c2,c3⟩:=HC.out w5 K5
 obtain ⟨w6,hw6⟩:∃ w6,w6=w5.alloc (.cells #[.int .i64 3,.int .i64 3,.int .i64 0,.int .i64 0,.int .i64 2] 3):=⟨_,rfl⟩
 have k6:Same0 w5 w6:=by rw [hw6];exact (Kept.refl _ _).alloc _
 have B3:Calls Tryz.prog 31 #[.pointer (some ⟨bs,0,none⟩),.agg #[.int .i64 tk,.int .i64 tr,.slice tpo tpl tpc,.slice tko tkl tkc],.slice (some ⟨w5.heap.size,0,none⟩) 5 5,.int .i64 0] w6 fun e w' => ∃ po pc,e=.returned (.tuple #[.agg #[.int .i64 3,.int .i64 0,.slice po 1 pc,.int .i64 1],.int .i64 0])∧Hid (IntsAt w' po [0])∧Same0 w6 w' :=
  walk_demand (T:=[3,3,0,0,2]) (tc:=5) (a:=0) (q:=1) (HST.out w6 (K3.trans' (K5.trans' k6))).sig (HCS.out w6 (K5.trans' k6)) (by rw [hw6];exact ints_arg w5 [3,3,0,0,2] 3 (by decide) rfl) (by decide +kernel) (by decide) (by decide) (by decide +kernel) (by decide +kernel) (by decide +kernel)
 have K6:Same0 w3 w6:=K5.trans' k6
 have K56:Hid (Same0 w5 w6):=k6
 have HW6:Hid (w5.alloc (.cells #[.int .i64 3,.int .i64 3,.int .i64 0,.int .i64 0,.int .i64 2] 3)=w6):=hw6.symm
 have B3' : Calls Tryz.prog 31 #[.pointer (some ⟨bs,0,none⟩),.agg #[.int .i64 tk,.int .i64 tr,.slice tpo tpl tpc,.slice tko tkl tkc],.slice (some ⟨w5.heap.size,0,none⟩) 5 5,.int .i64 0] (w5.alloc (.cells #[.int .i64 3,.int .i64 3,.int .i64 0,.int .i64 0,.int .i64 2] 3)) fun e w' => ∃ po pc,e=.returned (.tuple #[.agg #[.int .i64 3,.int .i64 0,.slice po 1 pc,.int .i64 1],.int .i64 0])∧Hid (IntsAt w' po [0])∧Same0 w6 w' := by rw [HW6.out];exact B3
 clear hw6 k6 B3
 go_upto_region 8 with (first | (go_at_call 31;refine B3'.mono ?_;rintro e w7 ⟨po,pc,rfl,hpo,k7⟩))
 clear c0 c1 c2 c3 B3' HW6
 obtain ⟨w8,hw8⟩:∃ w8,w8=w7.alloc (.cells #[.int .i64 3,.int .i64 0,.slice po 1 pc,.int .i64 1] 85):=⟨_,rfl⟩
 have k8:Same0 w7 w8:=by rw [hw8];exact (Kept.refl _ _).alloc _
 have HFN:Hid (∀ ww,Same0 w8 ww→(ww.cell? ⟨w7.heap.size,0,none⟩=some (.int .i64 3)∧ww.cell? ⟨w7.heap.size,1,none⟩=some (.int .i64 0)∧ww.cell? ⟨w7.heap.size,2,none⟩=some (.slice po 1 pc)∧ww.cell? ⟨w7.heap.size,3,none⟩=some (.int .i64 1))∧IntsAt ww po [0]):=fun ww hk=>by
  have h0:w8.heap[w7.heap.size]? = some (.cells #[.int .i64 3,.int .i64 0,.slice po 1 pc,.int .i64 1] 85 (0,0)):=by rw [hw8];exact heap_alloc_new w7 _
  have h1:=hk.at0 h0
  exact ⟨⟨cellAt h1 0,cellAt h1 1,cellAt h1 2,cellAt h1 3⟩,(hpo.out.same k8).same hk⟩
 have K8:Same0 w3 w8:=(K6.trans' k7).trans' k8
 have K58:Same0 w5 w8:=by
  have:Same0 w5 w6:=K56.out
  exact (this.trans' k7).trans' k8
 rw [← hw8]
 clear hw8 hpo k7 k8 K6
 obtain ⟨c0,c1,c2,c3⟩:=HC.out w8 K8
 have ka:Same0 w8 ((w8.alloc (.cells #[.int .i64 0] 3)).alloc (.cells #[.int .i64 0,.int .i64 1,.int .i64 0,.slice none 0 0,.slice none 0 0,.int .i64 1,.int .i64 1,.int .i64 1,.slice none 0 0,.slice none 0 0] 89)):=((Kept.refl _ _).alloc _).alloc _
 have B4:=csame_any 2001 _ _ _ (tree8 1999) _ _ (HCS.out _ (K8.trans' ka)) (aw8_lit w8 1999) (aw8_small 1999)
 go_upto_region 9 with (first | (go_at_call 11;refine B4.mono ?_;rintro e w11 ⟨rfl,k11⟩))
 have K11:Same0 w8 w11:=ka.trans' k11
 clear c0 c1 c2 c3 B4 ka k11
 obtain ⟨⟨d0,d1,d2,d3⟩,_⟩:=HFN.out w11 K11
 have kb:Same0 w11 (w11.alloc (.cells #[.int .i64 0] 3)):=(Kept.refl _ _).alloc _
 have B5:=fsame_any (k:=3) (r:=0) (nd:=1) (p:=[0]) (pc:=pc) (pc' := 1) (HFN.out _ (K11.trans' kb)).2 (ints_new w11 [0] 3 rfl) (by decide)
 go_upto_region 10 with (first | (go_at_call 32;refine B5.mono ?_;rintro e w13 ⟨rfl,k13⟩))
 have K13:Same0 w8 w13:=K11.trans' (kb.trans' k13)
 clear d0 d1 d2 d3 B5 kb k13
 have kx:Same0 w13 (w13.alloc (.cells #[.int .i64 80,.int .i64 0] 92)):=(Kept.refl _ _).alloc _
 have B6:=same_flt (HF.out _ ((K58.trans' K13).trans' kx)) (wrs_new w13 [(80,0)] _ 92 rfl (fun i hi=>by have hi' : i<1:=hi;match i,hi' with | 0,_=>exact ⟨rfl,rfl⟩) 1 rfl) (by decide)
 have KF:Hid (∀ ww,Same0 (w13.alloc (.cells #[.int .i64 80,.int .i64 0] 92)) ww→Same0 w ww):=fun ww hk=>((((K1.trans' K3).trans' K8).trans' K13).trans' kx).trans' hk
 clear K1 K3 K8 K13 K58 K5
 go_wp2_with (first | (go_at_call 13;refine B6.mono ?_;rintro e w14 ⟨rfl,k14⟩))
 go_ret
 exact ⟨rfl,KF.out _ k14⟩
theorem err_ne0 (w:World):(binOp .neq 37 .nilIface .nilIface).run Tryz.prog w=.ok (.bool false) w:=by kernel_rfl
theorem err_ne1 (v:Value) (w:World):(binOp .neq 37 (.iface 98 v) .nilIface).run Tryz.prog w=.ok (.bool true) w:=by kernel_rfl
theorem wrap64_small {z:Int} (h1 : -9223372036854775808≤z) (h2:z<9223372036854775808):IntKind.i64.wrap z=z:=by
 simp [IntKind.wrap,IntKind.bits,IntKind.signed];omega
theorem err_eq0 (w:World):(binOp .eql 37 .nilIface .nilIface).run Tryz.prog w=.ok (.bool true) w:=by kernel_rfl
theorem err_eq1 (v:Value) (w:World):(binOp .eql 37 (.iface 98 v) .nilIface).run Tryz.prog w=.ok (.bool false) w:=by kernel_rfl
theorem build_ok9 {w:World} {b bs:Nat} {L:List Sym} {R:List Ru} {lv:Value} {vs:List Value} (h:StAt w b bs L R lv vs) {f:Nat} (hd:defB L (f:Int)=true) (ht:∃ t,treeF L R f=.ok t) :
  Calls Tryz.prog 9 #[.pointer (some ⟨b,0,none⟩),.int .i64 (f:Int)] w fun e w' => ∃ tk tr tpo tpl tpc tko tkl tkc,e=.returned (.tuple #[.agg #[.int .i64 tk,.int .i64 tr,.slice tpo tpl tpc,.slice tko tkl tkc],.nilIface])∧Same0 w w' := by
 obtain ⟨t,ht⟩:=ht
 refine (build_any h (f:Int)).mono ?_
 rintro e w' ⟨hk,h⟩
 rw [if_pos hd] at h
 simp only [Int.toNat_natCast] at h
 rw [ht] at h
 obtain ⟨v,rfl,hc⟩:=h
 obtain ⟨tk,tr,tpo,tpl,tpc,tko,tkl,tkc,rfl⟩:=hc.shape
 exact ⟨tk,tr,tpo,tpl,tpc,tko,tkl,tkc,rfl,hk⟩
theorem build_no9 {w:World} {b bs:Nat} {L:List Sym} {R:List Ru} {lv:Value} {vs:List Value} (h:StAt w b bs L R lv vs) {f:Nat} (hn:¬ (defB L (f:Int)=true∧∃ t,treeF L R f=.ok t)) :
  Calls Tryz.prog 9 #[.pointer (some ⟨b,0,none⟩),.int .i64 (f:Int)] w fun e w' => ∃ k,e=.returned (.tuple #[zeroC,.iface 98 (.pointer (some ⟨k,0,none⟩))])∧Same0 w w' := by
 refine (build_any h (f:Int)).mono ?_
 rintro e w' ⟨hk,h⟩
 by_cases hd:defB L (f:Int)=true
 ·rw [if_pos hd] at h
  simp only [Int.toNat_natCast] at h
  cases ht:treeF L R f with
  | ok t=>exact absurd ⟨hd,t,ht⟩ hn
  | error z=>
   rw [ht] at h
   obtain ⟨v,rfl,hf⟩:=h
   rcases hf with ⟨q,_⟩ | ⟨_,k,u,e1,_⟩
   ·omega
   ·subst e1;exact ⟨k,rfl,hk⟩
 ·rw [if_neg hd] at h
  obtain ⟨v,rfl,hf⟩:=h
  rcases hf with ⟨q,_⟩ | ⟨_,k,u,e1,_⟩
  ·omega
  ·subst e1;exact ⟨k,rfl,hk⟩
def LessAt (w:World) (L:List Sym) (R:List Ru) (v:Value):Prop:=
 (R.length=0∧v=.pointer none)∨∃ b bs lv vs,v=.pointer (some ⟨b,0,none⟩)∧StAt w b bs L (R.take (R.length-1)) lv vs∧GoodR L (R.take (R.length-1))
set_option maxHeartbeats 16000000 in
theorem order_walk {w:World} {ao:Option Addr} {len cap:Nat} {xs:List Sym} (hx:SymsAt w ao len xs) (hm:len≤maxLen) {po:Option Addr} {pc:Nat} {l:List Ru} (hp:ArgR w po l pc) :
  Calls Tryz.prog 4 #[.slice ao len cap,.slice po l.length pc] w fun e w' => e=.returned (.bool true)∧Below w.heap.size w w' := by
 have hn0:=err_ne0
 have hn1:=err_ne1
 have hpn:=ptr_nil
 have hls:l.length≤140737488355328:=by have:=hp.size;omega
 have CA:=awake8_any w
 have CS:Hid (∀ ww,Same0 w ww→Calls Tryz.prog 8 #[.slice ao len cap,.slice po l.length pc] ww (StoPost (madeL xs) l ww)):=fun ww hk=>stored_any (SymsAt.same8 hx hk) hm (hp.at'.same hk) hls hp.cap'
 have CT:Hid (∀ ww,Same0 w ww→∀ lo lc (l:List Ru),RsAt ww lo l→l.length≤100→l.length≤lc→Calls Tryz.prog 8 #[.slice ao len cap,.slice lo l.length lc] ww (StoPost (madeL xs) l ww)):=fun ww hk lo lc l hr h1 h2=>stored_any (SymsAt.same8 hx hk) hm hr (by omega) h2
 generalize madeL xs=L at *
 clear hx hp hm hls
 go_enter Tryz.func4,Tryz.ntmps4
 go_upto_region 2 with (first | (go_at_call 7;refine CA.mono ?_;rintro e w1 ⟨rfl,k1⟩))
 have C1:=CS.out w1 k1
 go_upto_region 3 with (first | (go_at_call 8;refine C1.mono ?_;rintro e w2 ⟨bs,b,m,ro,rc,lv,vs,mv,ms,R,rfl,hT,hR⟩))
 have K2:Same0 w w2:=k1.trans' hT.same
 have hst:=hT.st
 have hL64:L.length≤64:=by obtain ⟨⟨sv,mr,hs,_⟩,_⟩:=hst.sig;exact hs.len
 have hArs:=hst.sig.2
 have hle:=hst.le
 have hG:=hT.good
 have hmr:=hT.mo.row
 obtain ⟨mo,mc,rfl,hM⟩:=hT.mo.read
 have HMC:Hid (R.length≠0→R.length≤mc):=fun h0=>by
  rcases hmr.2 with ⟨q,h1⟩ | ⟨g,cap,cur,q,_,_,hc,_⟩
  ·omega
  ·cases q;exact hc
 clear hmr
 have HST:Hid (∀ ww,Same0 w2 ww→StAt ww b bs L R lv vs):=fun ww hk=>hst.same hk
 have HM:Hid (∀ ww,Same0 w2 ww→MR ww m ro rc mo mc L R):=fun ww hk=>hM.same hk
 obtain ⟨m0,m1⟩:=hM.cells
 clear hR C1 CS CA hst k1 hT hM
 go_wp2_with fail
 have hz2:Hid (∀ ww,Same0 w2 ww→w2.heap.size≤ww.heap.size):=fun ww hk=>hk.size
 go_loopw [9,10] (fun v i wr=>∃ (k:Nat) (us:List Value),k≤R.length∧i=.int .i64 ((R.length:Int)-1-(k:Int))∧Hid (wr.ownsRow w2.heap.size 49 2 v k us)∧Hid (RCells w2 us (R.reverse.take k))∧Same0 w2 wr) (fun _ i _=>(intOf i+1).toNat)
 case atStart=>exact ⟨0,[],Nat.zero_le _,by simp,World.ownsRow_nil _ _ _ _,RCells.nil _,Kept.refl _ _⟩
 case round=>
  obtain ⟨k,us,hk,rfl,hr,hus,hw⟩:=hrel
  obtain ⟨vo,vc,rfl⟩:=row_shape hr.out
  by_cases hlt:k<R.length
  ·obtain ⟨j,hj⟩:∃ j:Nat,j+k+1=R.length:=⟨R.length-1-k,by omega⟩
   have ei:(R.length:Int)-1-(k:Int)=(j:Int):=by omega
   have hjl:j<R.length:=by omega
   obtain ⟨xb,xo,hmo,hxb,x1o,x1c,x2o,x2c,p0,p1,A1,A2⟩:=(HM.out w2 (Kept.refl _ _)).rs.get hjl
   have et:R.reverse.take (k+1)=R.reverse.take k ++ [R[j]]:=by
    rw [List.take_add_one,List.getElem?_reverse (by omega),List.getElem?_eq_getElem (by omega)]
    simp only [Option.toList_some]
    congr 2
    congr 1
    omega
   have HX:Hid (RCells w2 (us ++ [.slice x1o R[j].1.length x1c,.slice x2o R[j].2.length x2c]) (R.reverse.take (k+1))):=by
    show RCells _ _ _
    rw [et]
    exact hus.out.append ⟨rfl,fun i hi=>by
     obtain rfl:i=0:=by simp at hi;omega
     exact ⟨x1o,x1c,x2o,x2c,rfl,rfl,A1,A2⟩⟩
   have H1:Hid (RCells w2 [.slice x1o R[j].1.length x1c,.slice x2o R[j].2.length x2c] [R[j]]):=⟨rfl,fun i hi=>by
     obtain rfl:i=0:=by simp at hi;omega
     exact ⟨x1o,x1c,x2o,x2c,rfl,rfl,A1,A2⟩⟩
   obtain ⟨m0', m1'⟩:=(HM.out wr hw).cells
   have c0:wr.cell? ⟨xb,xo+j * 2,none⟩=some (.slice x1o R[j].1.length x1c):=(hw.cell (p:=⟨xb,xo+j * 2,none⟩) hxb (fun f=>f)).trans p0
   have c1:wr.cell? ⟨xb,xo+j * 2+1,none⟩=some (.slice x2o R[j].2.length x2c):=(hw.cell (p:=⟨xb,xo+j * 2+1,none⟩) hxb (fun f=>f)).trans p1
   subst hmo
   have i1:(0:Int)≤(j:Int):=by omega
   have i2:(j:Int)<(R.length:Int):=by omega
   have z1:=hw.size
   rw [ei]
   clear p0 p1 A1 A2 et hus m0 m1
   generalize R[j]=x at *
   obtain ⟨A,hA⟩:∃ A,A=Value.slice x1o x.1.length x1c:=⟨_,rfl⟩
   obtain ⟨B,hB⟩:∃ B,B=Value.slice x2o x.2.length x2c:=⟨_,rfl⟩
   have ka:Same0 wr (wr.alloc (.cells #[.slice x1o x.1.length x1c,.slice x2o x.2.length x2c] 49)):=(Kept.refl _ _).alloc _
   have hr9:Hid ((wr.alloc (.cells #[.slice x1o x.1.length x1c,.slice x2o x.2.length x2c] 49)).ownsRow w2.heap.size 49 2 (.slice vo k vc) k us):=ka.row hr.out (fun _ _ f=>f)
   have hu9:Hid (∀ ad,some (⟨wr.heap.size,0,none⟩:Addr)=some ad→∀ j u,[Value.slice x1o x.1.length x1c,.slice x2o x.2.length x2c][j]? = some u→(wr.alloc (.cells #[.slice x1o x.1.length x1c,.slice x2o x.2.length x2c] 49)).cell? (ad.add j)=some u):=by
    intro ad e j u hj
    cases e
    have h1:=heap_alloc_new wr (.cells #[.slice x1o x.1.length x1c,.slice x2o x.2.length x2c] 49)
    rw [addr_add]
    match j,hj with
    | 0,hj=>simp at hj;subst hj;exact cellAt h1 0
    | 1,hj=>simp at hj;subst hj;exact cellAt h1 1
    | j+2,hj=>simp at hj
   have zb:w2.heap.size≤(wr.alloc (.cells #[.slice x1o x.1.length x1c,.slice x2o x.2.length x2c] 49)).heap.size:=Nat.le_trans z1 ka.size
   have FIN:Hid (∀ v' w9,w9.ownsRow w2.heap.size 49 2 v' (k+1) (us ++ [.slice x1o x.1.length x1c,.slice x2o x.2.length x2c])→Kept (fun q=>(Value.slice vo k vc).ownBlock=some q) (wr.alloc (.cells #[.slice x1o x.1.length x1c,.slice x2o x.2.length x2c] 49)) w9→Same0 w2 w9):=fun v' w9 _ k9=>own_kept (hw.trans' ka) hr9.out (Nat.le_refl _) k9
   have hk9:k+1≤1000:=by omega
   clear hA hB
   go_wp2_with (first | (at_builtin;refine wpList_rules (W:=w2) rfl _ _ rfl w2.heap.size k us _ rfl hr9.out _ _ [x] [.slice x1o x.1.length x1c,.slice x2o x.2.length x2c] rfl H1.out hu9.out (fun e=>by cases e) zb hk9 ?_;intro v' w9 r9 k9))
   exact ⟨⟨k+1,_,by omega,by go_num,r9,HX,FIN.out _ _ r9 k9⟩,by simp [intOf]⟩
  ·obtain rfl:k=R.length:=by omega
   have ei:(R.length:Int)-1-(R.length:Int) = -1:=by omega
   rw [ei]
   have hus' : Hid (RCells wr us R.reverse):=by
    have:=hus.out.same hw
    rw [List.take_of_length_le (by simp)] at this
    exact this
   obtain ⟨to', tc,e1,hRs,hn,hNl⟩:=row_rules hr.out hus'.out
   have hl:R.reverse.length=R.length:=List.length_reverse
   rw [hl] at e1
   cases e1
   have htc:R.reverse.length≤vc:=by
    rw [hl]
    rcases hr.out.2 with ⟨q,h0⟩ | ⟨g,cap,cur,q,_,_,hc,_⟩
    ·omega
    ·cases q;exact hc
   have CB:=CT.out wr (K2.trans' hw) vo vc R.reverse hRs (by rw [hl];exact hle) htc
   rw [hl] at CB
   clear hus hus' hr hRs htc m0 m1 hn hlt hk hNl ei
   go_upto_region 11 with (first | (go_at_call 8;refine CB.mono ?_;rintro e w3 ⟨bs3,b3,m3,ro3,rc3,lv3,vs3,mv3,ms3,R3,rfl,hT3,hR3⟩))
   have hR3' : R3=R.reverse:=by simpa using hR3.all (turned_ans hG)
   subst hR3'
   have hG3:Hid (GoodR L R.reverse):=hT3.good
   have K3:Same0 w2 w3:=hw.trans' hT3.same
   have HST3:Hid (∀ ww,Same0 w3 ww→StAt ww b3 bs3 L R.reverse lv3 vs3):=fun ww hk=>hT3.st.same hk
   have CL3:=slen_any (HST3.out w3 (Kept.refl _ _))
   have CL2:=slen_any (HST.out w3 K3)
   rw [hl] at CL3
   clear hT3 hR3 CB hw
   have eN:((R.length:Int) == (R.length:Int))=true:=by simp
   obtain ⟨m0,m1⟩:=(HM.out w3 K3).cells
   have HALL:Hid (Same0 w w2∧Ars L∧GoodR L R∧GoodR L R.reverse∧Same0 w2 w3):=⟨K2,hArs,hG,hG3.out,K3⟩
   have HSG:Hid (∀ ww,Same0 w2 ww→Sg ww.heap.size ww bs L):=fun ww hk=>(HST.out ww hk).sig
   go_upto_if 77 with (first
    | (go_at_call 14;first | (refine CL3.mono ?_;rintro e w4 ⟨rfl,h4⟩;replace h4:=h4.symm;subst h4) | (refine CL2.mono ?_;rintro e w4 ⟨rfl,h4⟩;replace h4:=h4.symm;subst h4)))
   go_cut [9,14] from 36 to 133 (fun s9 s14 wc=>Hid (Same0 w3 wc∧LessAt wc L R s14))
   case first=>
    by_cases h0:R.length=0
    ·have b0:¬ (0:Int)<(R.length:Int):=by omega
     have HF:Hid (Same0 w3 w3∧LessAt w3 L R (.pointer none)):=⟨Kept.refl _ _,.inl ⟨h0,rfl⟩⟩
     clear h0
     go_wp2
     go_meet
     case rel=>exact HF
    ·have b0:(0:Int)<(R.length:Int):=by omega
     have hrs4:RsAt w3 mo (R.take (R.length-1)):=by
      rcases (HM.out w3 K3).rs with q | ⟨b,off,e,hb,hc⟩
      ·rw [q] at h0;simp at h0
      ·exact .inr ⟨b,off,e,hb,fun i hi=>by
        have hi' : i<R.length:=by simp at hi;omega
        rw [List.getElem_take];exact hc i hi'⟩
     have hl4:(R.take (R.length-1)).length=R.length-1:=by simp
     have hmc:R.length≤mc:=HMC.out h0
     obtain ⟨mb,moff,rfl⟩:∃ mb moff,mo=some ⟨mb,moff,none⟩:=by
      rcases (HM.out w3 K3).rs with q | ⟨b,off,e,_,_⟩
      ·rw [q] at h0;simp at h0
      ·exact ⟨b,off,e⟩
     have KD:Same0 w3 w3.drew:=Kept.drew (Kept.refl _ _)
     have CD:=CT.out w3.drew (K2.trans' (K3.trans' KD)) (some ⟨mb,moff,none⟩) mc (R.take (R.length-1)) (hrs4.same KD) (by rw [hl4];omega) (by rw [hl4];omega)
     rw [hl4] at CD
     have HSL:Hid (StoPost L (R.take (R.length-1))=StoPost L (R.take (R.length-1))):=rfl
     have HCM:Hid (∀ ww,Same0 w3 ww→ww.cell? ⟨m,1,none⟩=some (.slice (some ⟨mb,moff,none⟩) R.length mc)):=fun ww hk=>((HM.out ww (K3.trans' hk)).cells).2
     clear hrs4 hl4 hl
     go_upto_region 15 with fail
     obtain ⟨N,hN⟩:∃ N,R.length=N+1:=⟨R.length-1,by omega⟩
     have i1:(0:Int)≤(N:Int):=by omega
     have i2:(N:Int)≤(mc:Int):=by omega
     have i4:(N:Int)+1≤100:=by omega
     have i5:¬ mc=0:=by omega
     have i6:N≤mc:=by omega
     have i7:IntKind.i64.wrap ((N:Int)+1-1)=(N:Int):=by rw [show (N:Int)+1-1=(N:Int) by omega];exact wrap64_small (by omega) (by omega)
     have i8:IntKind.i64.wrap (N:Int)=(N:Int):=wrap64_small (by omega) (by omega)
     have i9:((N:Int)).toNat=N:=by omega
     have i10:(N:Int)+1-1=(N:Int):=by omega
     have i3:R.length-1=N:=by omega
     rw [hN] at m1
     rw [i3] at CD
     have HNH:Hid (R.length=N+1):=hN
     have HCM2:Hid (∀ ww,Same0 w3 ww→ww.cell? ⟨m,1,none⟩=some (.slice (some ⟨mb,moff,none⟩) (N+1) mc)):=fun ww hk=>by rw [← HNH.out];exact HCM.out ww hk
     rw [hN]
     clear CL3 CL2 eN hN i3 HCM h0 b0 hmc
     go_region_held3 (fun w' => w'.cell? ⟨m,1,none⟩=some (.slice (some ⟨mb,moff,none⟩) (N+1) mc)) (first | exact cc1 | exact m1) (first
      | (go_at_call 8;refine CD.mono ?_;rintro e w5 ⟨bs5,b5,m5,ro5,rc5,lv5,vs5,mv5,ms5,R5,rfl,hT5,hR5⟩;have cc1:=HCM2.out w5 (KD.trans' hT5.same)))
     all_goals
      have e5:R5=R.take N:=by simpa using hR5.all (less_ans hG N)
      subst e5
      have HF:Hid (Same0 w3 w5∧LessAt w5 L R (.pointer (some ⟨b5,0,none⟩))):=⟨KD.trans' hT5.same,.inr ⟨b5,bs5,lv5,vs5,rfl,by rw [HNH.out];exact hT5.st,by rw [HNH.out];exact hT5.good⟩⟩
      clear hT5 hR5 cc1 m1 CD HCM2
      go_wp2
      go_meet
      case rel=>exact HF
   case rest=>
   obtain ⟨W,hW⟩:∃ W,W=wc:=⟨_,rfl⟩
   rw [← hW] at hcut ⊢
   have HC:=hcut
   have KW3:Hid (Same0 w3 W):=hcut.out.1
   have KW2:Hid (Same0 w2 W):=K3.trans' hcut.out.1
   have he0:=err_eq0
   have he1:=err_eq1
   clear hW hcut m0 m1 eN CL3 CL2 K3 K2 hArs hG hG3 hle
   rcases HC.out.2 with ⟨h0,e⟩ | ⟨b5,bs5,lv5,vs5,e,q5,g5⟩
   ·subst e
    clear h0
    go_upto_region 19 with fail
    go_loopw [15] (fun i wr=>∃ f:Nat,f≤L.length∧i=.int .i64 (f:Int)∧Hid (Same0 W wr)) (fun i _=>L.length-(intOf i).toNat)
    case atStart=>exact ⟨0,Nat.zero_le _,rfl,Kept.refl _ _⟩
    case round=>
     obtain ⟨f,hf,rfl,hw⟩:=hrel
     have kk:Same0 w2 wr:=KW2.out.trans' hw.out
     have k3r:Same0 w3 wr:=KW3.out.trans' hw.out
     have CL:=sg_len (HSG.out wr kk)
     by_cases hlt:f<L.length
     ·have i2:(f:Int)<(L.length:Int):=by omega
      by_cases hok:defB L (f:Int)=true∧∃ t,treeF L R f=.ok t
      ·have C1:=build_ok9 (HST.out wr kk) hok.1 hok.2
       have C2:Hid (∀ ww,Same0 wr ww→Calls Tryz.prog 9 #[.pointer (some ⟨b3,0,none⟩),.int .i64 (f:Int)] ww fun e w' => ∃ tk tr tpo tpl tpc tko tkl tkc,e=.returned (.tuple #[.agg #[.int .i64 tk,.int .i64 tr,.slice tpo tpl tpc,.slice tko tkl tkc],.nilIface])∧Same0 ww w'):=fun ww hk=>build_ok9 (HST3.out ww (k3r.trans' hk)) hok.1 ((tree_turned HALL.out.2.1 HALL.out.2.2.1 HALL.out.2.2.2.1 hlt).2 hok.2)
       clear hok kk k3r
       go_upto_region 22 with (first
        | (go_at_call 15;refine CL.mono ?_;rintro e w4 ⟨rfl,h4⟩;have h4:=h4.symm;subst h4)
        | (go_at_call 9;refine C1.mono ?_;rintro e w4 ⟨tk,tr,tpo,tpl,tpc,tko,tkl,tkc,rfl,k4⟩))
       obtain ⟨W5,hW5⟩:∃ W5,W5=w4.alloc (.cells #[.int .i64 tk,.int .i64 tr,.slice tpo tpl tpc,.slice tko tkl tkc] 35):=⟨_,rfl⟩
       have K5:Same0 wr W5:=by rw [hW5];exact Kept.alloc k4 _
       rw [← hW5]
       have C2' := C2.out W5 K5
       have HK5:Hid (Same0 wr W5):=K5
       clear hW5 C1 C2 CL k4 K5
       go_upto_region 23 with (first | (go_at_call 9;refine C2'.mono ?_;rintro e w6 ⟨tk2,tr2,tpo2,tpl2,tpc2,tko2,tkl2,tkc2,rfl,k6⟩))
       obtain ⟨W6,hW6⟩:∃ W6,W6=w6.alloc (.cells #[.int .i64 tk2,.int .i64 tr2,.slice tpo2 tpl2 tpc2,.slice tko2 tkl2 tkc2] 35):=⟨_,rfl⟩
       have HN7:Hid (∀ m,Same0 W (W6.drewN m)):=fun m=>(hw.out.trans' (HK5.out.trans' (show Same0 W5 W6 by rw [hW6];exact Kept.alloc k6 _))).trans' ((Kept.refl _ _).drewN m)
       rw [← hW6]
       clear hW6 C2' k6 HK5
       go_quiet (fail)
       go_wp2
       exact ⟨⟨f+1,by omega,by go_num,HN7.out _⟩,by simp [intOf];omega⟩
      ·have C1:=build_no9 (HST.out wr kk) hok
       have C2:Hid (∀ ww,Same0 wr ww→Calls Tryz.prog 9 #[.pointer (some ⟨b3,0,none⟩),.int .i64 (f:Int)] ww fun e w' => ∃ k,e=.returned (.tuple #[zeroC,.iface 98 (.pointer (some ⟨k,0,none⟩))])∧Same0 ww w'):=fun ww hk=>build_no9 (HST3.out ww (k3r.trans' hk)) (fun q=>hok ⟨q.1,(tree_turned HALL.out.2.1 HALL.out.2.2.1 HALL.out.2.2.2.1 hlt).1 q.2⟩)
       clear hok kk k3r
       go_upto_region 22 with (first
        | (go_at_call 15;refine CL.mono ?_;rintro e w4 ⟨rfl,h4⟩;have h4:=h4.symm;subst h4)
        | (go_at_call 9;refine C1.mono ?_;rintro e w4 ⟨kf,rfl,k4⟩))
       obtain ⟨W5,hW5⟩:∃ W5,W5=w4.alloc (.cells #[.int .i64 0,.int .i64 0,.slice none 0 0,.slice none 0 0] 35):=⟨_,rfl⟩
       have K5:Same0 wr W5:=by rw [hW5];exact Kept.alloc k4 _
       rw [← hW5]
       have C2' := C2.out W5 K5
       have HK5:Hid (Same0 wr W5):=K5
       clear hW5 C1 C2 CL k4 K5
       go_upto_region 23 with (first | (go_at_call 9;refine C2'.mono ?_;rintro e w6 ⟨kg,rfl,k6⟩))
       obtain ⟨W6,hW6⟩:∃ W6,W6=w6.alloc (.cells #[.int .i64 0,.int .i64 0,.slice none 0 0,.slice none 0 0] 35):=⟨_,rfl⟩
       have HN7:Hid (∀ m,Same0 W (W6.drewN m)):=fun m=>(hw.out.trans' (HK5.out.trans' (show Same0 W5 W6 by rw [hW6];exact Kept.alloc k6 _))).trans' ((Kept.refl _ _).drewN m)
       rw [← hW6]
       clear hW6 C2' k6 HK5
       go_quiet (fail)
       go_wp2
       exact ⟨⟨f+1,by omega,by go_num,HN7.out _⟩,by simp [intOf];omega⟩
     ·obtain rfl:f=L.length:=by omega
      have FF:Hid (Below w.heap.size w wr):=(HALL.out.1.trans' kk).below
      clear hlt kk k3r
      go_wp2_with (first | (go_at_call 15;refine CL.mono ?_;rintro e w4 ⟨rfl,h4⟩;have h4:=h4.symm;subst h4))
      go_ret
      exact ⟨rfl,FF.out⟩
   ·subst e
    have HQ5:Hid ((∀ ww,Same0 W ww→StAt ww b5 bs5 L (R.take (R.length-1)) lv5 vs5)∧GoodR L (R.take (R.length-1))):=⟨fun ww hk=>q5.same hk,g5⟩
    clear q5 g5
    go_upto_region 19 with fail
    go_loopw [15] (fun i wr=>∃ f:Nat,f≤L.length∧i=.int .i64 (f:Int)∧Hid (Same0 W wr)) (fun i _=>L.length-(intOf i).toNat)
    case atStart=>exact ⟨0,Nat.zero_le _,rfl,Kept.refl _ _⟩
    case round=>
     obtain ⟨f,hf,rfl,hw⟩:=hrel
     have kk:Same0 w2 wr:=KW2.out.trans' hw.out
     have k3r:Same0 w3 wr:=KW3.out.trans' hw.out
     have CL:=sg_len (HSG.out wr kk)
     by_cases hlt:f<L.length
     ·have i2:(f:Int)<(L.length:Int):=by omega
      by_cases hok:defB L (f:Int)=true∧∃ t,treeF L R f=.ok t
      ·have C1:=build_ok9 (HST.out wr kk) hok.1 hok.2
       have C2:Hid (∀ ww,Same0 wr ww→Calls Tryz.prog 9 #[.pointer (some ⟨b3,0,none⟩),.int .i64 (f:Int)] ww fun e w' => ∃ tk tr tpo tpl tpc tko tkl tkc,e=.returned (.tuple #[.agg #[.int .i64 tk,.int .i64 tr,.slice tpo tpl tpc,.slice tko tkl tkc],.nilIface])∧Same0 ww w'):=fun ww hk=>build_ok9 (HST3.out ww (k3r.trans' hk)) hok.1 ((tree_turned HALL.out.2.1 HALL.out.2.2.1 HALL.out.2.2.2.1 hlt).2 hok.2)
       have C3:Hid (∀ ww,Same0 W ww→Calls Tryz.prog 9 #[.pointer (some ⟨b5,0,none⟩),.int .i64 (f:Int)] ww fun e w' => ∃ tk tr tpo tpl tpc tko tkl tkc,e=.returned (.tuple #[.agg #[.int .i64 tk,.int .i64 tr,.slice tpo tpl tpc,.slice tko tkl tkc],.nilIface])∧Same0 ww w'):=fun ww hk=>build_ok9 (HQ5.out.1 ww hk) hok.1 (tree_less HALL.out.2.1 HALL.out.2.2.1 HQ5.out.2 hlt hok.2)
       clear hok kk k3r
       go_upto_region 22 with (first
        | (go_at_call 15;refine CL.mono ?_;rintro e w4 ⟨rfl,h4⟩;have h4:=h4.symm;subst h4)
        | (go_at_call 9;refine C1.mono ?_;rintro e w4 ⟨tk,tr,tpo,tpl,tpc,tko,tkl,tkc,rfl,k4⟩))
       obtain ⟨W5,hW5⟩:∃ W5,W5=w4.alloc (.cells #[.int .i64 tk,.int .i64 tr,.slice tpo tpl tpc,.slice tko tkl tkc] 35):=⟨_,rfl⟩
       have K5:Same0 wr W5:=by rw [hW5];exact Kept.alloc k4 _
       rw [← hW5]
       have C2' := C2.out W5 K5
       have HK5:Hid (Same0 wr W5):=K5
       clear hW5 C1 C2 CL k4 K5
       go_upto_region 23 with (first | (go_at_call 9;refine C2'.mono ?_;rintro e w6 ⟨tk2,tr2,tpo2,tpl2,tpc2,tko2,tkl2,tkc2,rfl,k6⟩))
       obtain ⟨W6,hW6⟩:∃ W6,W6=w6.alloc (.cells #[.int .i64 tk2,.int .i64 tr2,.slice tpo2 tpl2 tpc2,.slice tko2 tkl2 tkc2] 35):=⟨_,rfl⟩
       have HN7:Hid (∀ m,Same0 W (W6.drewN m)):=fun m=>(hw.out.trans' (HK5.out.trans' (show Same0 W5 W6 by rw [hW6];exact Kept.alloc k6 _))).trans' ((Kept.refl _ _).drewN m)
       rw [← hW6]
       clear hW6 C2' k6 HK5
       go_quiet (fail)
       go_wp2_with (first | (go_at_call 9;refine (C3.out _ (HN7.out _)).mono ?_;rintro e w8 ⟨tk3,tr3,tpo3,tpl3,tpc3,tko3,tkl3,tkc3,rfl,k8⟩;have HK8:Hid (Same0 W (w8.alloc (.cells #[.int .i64 tk3,.int .i64 tr3,.slice tpo3 tpl3 tpc3,.slice tko3 tkl3 tkc3] 35))):=Kept.alloc ((HN7.out _).trans' k8) _;have HK9:Hid (Same0 W w8):=(HN7.out _).trans' k8;clear k8))
       exact ⟨⟨f+1,by omega,by go_num,by first | exact HK8 | exact HK9⟩,by simp [intOf];omega⟩
      ·have C1:=build_no9 (HST.out wr kk) hok
       have C2:Hid (∀ ww,Same0 wr ww→Calls Tryz.prog 9 #[.pointer (some ⟨b3,0,none⟩),.int .i64 (f:Int)] ww fun e w' => ∃ k,e=.returned (.tuple #[zeroC,.iface 98 (.pointer (some ⟨k,0,none⟩))])∧Same0 ww w'):=fun ww hk=>build_no9 (HST3.out ww (k3r.trans' hk)) (fun q=>hok ⟨q.1,(tree_turned HALL.out.2.1 HALL.out.2.2.1 HALL.out.2.2.2.1 hlt).1 q.2⟩)
       clear hok kk k3r
       go_upto_region 22 with (first
        | (go_at_call 15;refine CL.mono ?_;rintro e w4 ⟨rfl,h4⟩;have h4:=h4.symm;subst h4)
        | (go_at_call 9;refine C1.mono ?_;rintro e w4 ⟨kf,rfl,k4⟩))
       obtain ⟨W5,hW5⟩:∃ W5,W5=w4.alloc (.cells #[.int .i64 0,.int .i64 0,.slice none 0 0,.slice none 0 0] 35):=⟨_,rfl⟩
       have K5:Same0 wr W5:=by rw [hW5];exact Kept.alloc k4 _
       rw [← hW5]
       have C2' := C2.out W5 K5
       have HK5:Hid (Same0 wr W5):=K5
       clear hW5 C1 C2 CL k4 K5
       go_upto_region 23 with (first | (go_at_call 9;refine C2'.mono ?_;rintro e w6 ⟨kg,rfl,k6⟩))
       obtain ⟨W6,hW6⟩:∃ W6,W6=w6.alloc (.cells #[.int .i64 0,.int .i64 0,.slice none 0 0,.slice none 0 0] 35):=⟨_,rfl⟩
       have HN7:Hid (∀ m,Same0 W (W6.drewN m)):=fun m=>(hw.out.trans' (HK5.out.trans' (show Same0 W5 W6 by rw [hW6];exact Kept.alloc k6 _))).trans' ((Kept.refl _ _).drewN m)
       rw [← hW6]
       clear hW6 C2' k6 HK5
       go_quiet (fail)
       go_wp2
       exact ⟨⟨f+1,by omega,by go_num,HN7.out _⟩,by simp [intOf];omega⟩
     ·obtain rfl:f=L.length:=by omega
      have FF:Hid (Below w.heap.size w wr):=(HALL.out.1.trans' kk).below
      clear hlt kk k3r
      go_wp2_with (first | (go_at_call 15;refine CL.mono ?_;rintro e w4 ⟨rfl,h4⟩;have h4:=h4.symm;subst h4))
      go_ret
      exact ⟨rfl,FF.out⟩
end Go.Proofs.YtdlibbiaaejpmaaGreat
