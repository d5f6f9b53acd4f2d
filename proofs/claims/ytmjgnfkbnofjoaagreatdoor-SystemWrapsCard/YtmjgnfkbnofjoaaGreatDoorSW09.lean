import Derived.Test.YtmjgnfkbnofjoaaGreatDoorSW08
import Derived.Test.YtmjgnfkbnofjoaaGreatDoorSW04
import Derived.Test.YtmjgnfkbnofjoaaGreatDoorSW05
namespace Go.Proofs.YtmjgnfkbnofjoaaGreatDoor
set_option maxRecDepth 100000
set_option linter.unusedVariables false
open Go.RowKit
attribute [local go_sem ↓] Go.wp_at_zero Go.wp_at_succ
theorem tvar_any (x:Int) (w:World):Calls Tryz.prog 185 #[.int .i64 x] w fun e w' => e=.returned (.bool (decide (x<0)))∧w' = w:=by
 go_enter Tryz.func185,Tryz.ntmps185
 go_wp2
 go_ret
 exact ⟨rfl,rfl⟩
set_option maxHeartbeats 2000000 in
theorem number_any {w:World} {x:Rw} {ao bo:Option Addr} {ac bc:Nat} (h1:IntsAt w ao x.2.1) (h2:IntsAt w bo (ofN x.2.2)) {c:Nat} (hc:c<x.2.2.length) (hp:x.2.2[c]<x.2.1.length) :
  Calls Tryz.prog 186 #[.agg #[.int .i64 x.1,.slice ao x.2.1.length ac,.slice bo x.2.2.length bc],.int .i64 (c:Int)] w fun e w' => e=.returned (.int .i64 (numR x c))∧Same0 w w' := by
 obtain ⟨lb,loff,rfl,_,hl⟩:=h1.get hp
 obtain ⟨pb,poff,rfl,_,hl2⟩:=h2.get (i:=c) (by rw [ofN_len];exact hc)
 have e2:(ofN x.2.2)[c]'(by rw [ofN_len];exact hc)=((x.2.2[c]:Nat):Int):=by simp [ofN]
 rw [e2] at hl2
 clear e2 h1 h2
 rw [numR_eq hc hp]
 have K:Hid (∀ o,Same0 w (w.alloc o)):=fun o=>(Kept.refl _ w).alloc o
 generalize x.2.1[x.2.2[c]]=y at *
 generalize x.2.2[c]=q at *
 generalize x.2.1.length=n1 at *
 generalize x.2.2.length=n2 at *
 generalize x.1=r at *
 have D1:∀ o,(w.alloc o).cell? ⟨lb,loff+q,none⟩=some (.int .i64 y):=fun o=>cell_al hl o
 have D2:∀ o,(w.alloc o).cell? ⟨pb,poff+c,none⟩=some (.int .i64 (q:Int)):=fun o=>cell_al hl2 o
 have E1:∀ o,(w.alloc o).drew.cell? ⟨lb,loff+q,none⟩=some (.int .i64 y):=fun o=>cell_al hl o
 have E2:∀ o,(w.alloc o).drew.cell? ⟨pb,poff+c,none⟩=some (.int .i64 (q:Int)):=fun o=>cell_al hl2 o
 have i1:(0:Int)≤(c:Int):=by omega
 have i2:(c:Int)<(n2:Int):=by omega
 have i3:(0:Int)≤(q:Int):=by omega
 have i4:(q:Int)<(n1:Int):=by omega
 clear hl hl2
 go_enter Tryz.func186,Tryz.ntmps186
 go_wp2
 go_quiet (fail)
 go_wp2
 go_ret
 exact ⟨rfl,(K.out _).drewN _⟩
set_option maxHeartbeats 2000000 in
theorem opens_any {w:World} {x:Rw} {ao bo:Option Addr} {ac bc:Nat} (h1:IntsAt w ao x.2.1) (h2:IntsAt w bo (ofN x.2.2)) {c:Nat} (hc:c<x.2.2.length) (hp:x.2.2[c]<x.2.1.length) {cb:Nat} (hcb:w.cell? ⟨cb,0,none⟩=some (.int .i64 (c:Int))) :
  Calls Tryz.prog 184 #[.agg #[.int .i64 x.1,.slice ao x.2.1.length ac,.slice bo x.2.2.length bc],.pointer (some ⟨cb,0,none⟩)] w fun e w' => e=.returned (.bool (decide (numR x c<0)))∧Same0 w w' := by
 have K:∀ o,Same0 w (w.alloc o):=fun o=>(Kept.refl _ w).alloc o
 have C:∀ o,Calls Tryz.prog 186 #[.agg #[.int .i64 x.1,.slice ao x.2.1.length ac,.slice bo x.2.2.length bc],.int .i64 (c:Int)] (w.alloc o) fun e w' => e=.returned (.int .i64 (numR x c))∧Same0 w w' := fun o=>(number_any (h1.same (K o)) (h2.same (K o)) hc hp).mono (fun e w' h=>⟨h.1,(K o).trans' h.2⟩)
 have D1:∀ o,(w.alloc o).cell? ⟨cb,0,none⟩=some (.int .i64 (c:Int)):=fun o=>cell_al hcb o
 have C2:=tvar_any
 generalize numR x c=z at *
 clear h1 h2 hcb K
 go_enter Tryz.func184,Tryz.ntmps184
 go_wp2_with (first
  | (go_at_call 186;refine (C _).mono ?_;rintro e w1 ⟨rfl,hk⟩)
  | (go_at_call 185;refine (C2 _ _).mono ?_;rintro e w2 ⟨rfl,rfl⟩))
 go_ret
 exact ⟨rfl,hk⟩
def RowsOk (n:Nat) (R:List Rw):Prop:=∀ x∈R,x.2.2.length=n∧∀ p∈x.2.2,p<x.2.1.length
set_option maxHeartbeats 4000000 in
theorem indexf_row {w0:World} {c cb n:Nat} {ro:Option Addr} {rc:Nat} {R:List Rw} (hR:RwAt w0 ro R) (hok:RowsOk n R) (hc:c<n) (hcb:w0.cell? ⟨cb,0,none⟩=some (.int .i64 (c:Int))) (hm:R.length≤100) :
  Calls Tryz.prog 221 #[.slice ro R.length rc,.func (.func 184) #[] #[.pointer (some ⟨cb,0,none⟩)]] w0 fun e w' => ∃ z:Int,e=.returned (.int .i64 z)∧FoundAt z (R.any (fun x=>decide (numR x c<0)))∧Same0 w0 w' := by
 have HB:=World.block_lt_of_cell? w0 _ hcb
 go_enter Tryz.func221,Tryz.ntmps221
 go_wp2
 go_loopw [8] (fun i wr=>∃ k:Nat,k≤R.length∧i=.int .i64 (k:Int)∧Hid ((R.take k).any (fun x=>decide (numR x c<0))=false)∧Same0 w0 wr) (fun i _=>R.length-(intOf i).toNat)
 case atStart=>exact ⟨0,Nat.zero_le _,rfl,by show _=_;simp,Kept.refl _ _⟩
 case round=>
  obtain ⟨k,hk,rfl,ha,hw⟩:=hrel
  by_cases hlt:k<R.length
  ·obtain ⟨b,off,rfl,_,ao,ac,bo,bc,r0,r1,r2,A1,A2⟩:=(hR.same hw).get hlt
   obtain ⟨o1,o2⟩:=hok _ (List.getElem_mem hlt)
   have hc' : c<R[k].2.2.length:=by omega
   have C:=opens_any (ac:=ac) (bc:=bc) A1.1.at' A2.1.at' hc' (o2 _ (List.getElem_mem hc')) ((hw.cell (p:=⟨cb,0,none⟩) HB (fun f=>f)).trans hcb)
   have i1:(0:Int)≤(k:Int):=by omega
   have i2:(k:Int)<(R.length:Int):=by omega
   have hz:∀ q:Bool,decide (numR R[k] c<0)=q→Hid (decide (numR R[k] c<0)=q):=fun q h=>h
   cases hq:decide (numR R[k] c<0) with
   | true=>
    have H:Hid (FoundAt (k:Int) (R.any (fun x=>decide (numR x c<0)))):=by
     have e1:R.any (fun x=>decide (numR x c<0))=true:=List.any_eq_true.2 ⟨R[k],List.getElem_mem hlt,hq⟩
     show decide _=_
     rw [e1];simp
    rw [hq] at C
    clear hz hq ha hcb hok hR A1 A2 o2 o1
    go_wp2_with (first | (go_at_call 184;refine C.mono ?_;rintro e w2 ⟨rfl,hw2⟩))
    go_ret
    exact ⟨_,rfl,H.out,hw.trans' hw2⟩
   | false=>
    have H:Hid ((R.take (k+1)).any (fun x=>decide (numR x c<0))=false):=by
     have e1:=ha.out
     show _=_
     rw [List.take_add_one,List.getElem?_eq_getElem hlt,List.any_append,e1]
     simpa using hq
    rw [hq] at C
    clear hz hq ha hcb A1 A2 o2 o1
    go_wp2_with (first | (go_at_call 184;refine C.mono ?_;rintro e w2 ⟨rfl,hw2⟩))
    exact ⟨⟨k+1,by omega,by go_num,H,hw.trans' hw2⟩,by simp [intOf];omega⟩
  ·have H:Hid (FoundAt (-1) (R.any (fun x=>decide (numR x c<0)))):=by
    have:=ha.out
    rw [List.take_of_length_le (by omega)] at this
    show decide _=_
    rw [this];rfl
   go_wp2
   go_ret
   exact ⟨_,rfl,H.out,hw⟩
set_option maxHeartbeats 1000000 in
theorem containsf_row {w0:World} {c cb n:Nat} {ro:Option Addr} {rc:Nat} {R:List Rw} (hR:RwAt w0 ro R) (hok:RowsOk n R) (hc:c<n) (hcb:w0.cell? ⟨cb,0,none⟩=some (.int .i64 (c:Int))) (hm:R.length≤100) :
  Calls Tryz.prog 187 #[.slice ro R.length rc,.func (.func 184) #[] #[.pointer (some ⟨cb,0,none⟩)]] w0 fun e w' => e=.returned (.bool (R.any (fun x=>decide (numR x c<0))))∧Same0 w0 w' := by
 have C:=indexf_row (rc:=rc) hR hok hc hcb hm
 clear hR hok hcb
 generalize R.any (fun x=>decide (numR x c<0))=z at *
 go_enter Tryz.func187,Tryz.ntmps187
 go_wp2_with (first | (go_at_call 221;refine C.mono ?_;rintro e w2 ⟨z', rfl,hz,hw2⟩))
 go_ret
 exact ⟨ret_bool (FoundAt.eq hz),hw2⟩
theorem any_con (R:List Rw) (c:Nat):R.any (fun x=>decide (numR x c<0)) = !conB R c:=by
 unfold conB
 induction R with
 | nil=>rfl
 | cons x r ih=>
  simp only [List.any_cons,List.all_cons,ih,Bool.not_and]
  congr 1
  by_cases h:numR x c<0
  ·simp [h]
  ·simp [h];omega
def partI (R:List Rw) (n:Nat):Int:=match partN R n with | some c=>(c:Int) | none=>-1
theorem partN_stays {R : List Rw} {k c : Nat} (h : partN R k = some c) : ∀ m, k ≤ m → partN R m = some c
  | 0, hm => by obtain rfl : k = 0 := by omega
                exact h
  | m + 1, hm => by
    by_cases e : k = m + 1
    · subst e; exact h
    · unfold partN
      rw [partN_stays h m (by omega)]
set_option maxHeartbeats 4000000 in
theorem parting_any {w:World} {bs:Nat} {po ro:Option Addr} {pl pc rc:Nat} {R:List Rw} (hR:RwAt w ro R) (hok:RowsOk pl R) (hm:R.length≤100) (hpl:pl≤4000) :
  Calls Tryz.prog 132 #[.agg #[.pointer (some ⟨bs,0,none⟩),.slice po pl pc,.slice ro R.length rc]] w fun e w' => e=.returned (.int .i64 (partI R pl))∧Same0 w w' := by
 have CC:Hid (∀ ww c,c<pl→Same0 w ww→Calls Tryz.prog 187 #[.slice ro R.length rc,.func (.func 184) #[] #[.pointer (some ⟨ww.heap.size,0,none⟩)]] (ww.alloc (.cells #[.int .i64 (c:Int)] 3)) fun e w' => e=.returned (.bool (R.any (fun x=>decide (numR x c<0))))∧Same0 (ww.alloc (.cells #[.int .i64 (c:Int)] 3)) w'):=fun ww c hc hk=>by
  have ka:Same0 ww (ww.alloc (.cells #[.int .i64 (c:Int)] 3)):=(Kept.refl _ _).alloc _
  exact (containsf_row ((hR.same hk).same ka) hok hc (cellAt (heap_alloc_new ww _) 0) hm)
 have K:Same0 w (w.alloc (.cells #[.pointer (some ⟨bs,0,none⟩),.slice po pl pc,.slice ro R.length rc] 181)):=(Kept.refl _ w).alloc _
 have BX:Hid (∀ ww,Same0 (w.alloc (.cells #[.pointer (some ⟨bs,0,none⟩),.slice po pl pc,.slice ro R.length rc] 181)) ww→ww.cell? ⟨w.heap.size,1,none⟩=some (.slice po pl pc)∧ww.cell? ⟨w.heap.size,2,none⟩=some (.slice ro R.length rc)):=fun ww hk=>⟨cellAt (hk.at0 (heap_alloc_new w _)) 1,cellAt (hk.at0 (heap_alloc_new w _)) 2⟩
 clear hR hok
 go_enter Tryz.func132,Tryz.ntmps132
 go_wp2
 go_loopw [8] (fun i wr=>∃ k:Nat,k≤pl∧i=.int .i64 (k:Int)∧Hid (partN R k=none)∧Same0 (w.alloc (.cells #[.pointer (some ⟨bs,0,none⟩),.slice po pl pc,.slice ro R.length rc] 181)) wr) (fun i _=>pl-(intOf i).toNat)
 case atStart=>exact ⟨0,Nat.zero_le _,rfl,rfl,Kept.refl _ _⟩
 case round=>
  obtain ⟨k,hk,rfl,ha,hw⟩:=hrel
  by_cases hlt:k<pl
  ·have C:=CC.out wr k hlt (K.trans' hw)
   have ka:Same0 wr (wr.alloc (.cells #[.int .i64 (k:Int)] 3)):=(Kept.refl _ _).alloc _
   obtain ⟨b1,b2⟩:=BX.out _ (hw.trans' ka)
   have i2:(k:Int)<(pl:Int):=by omega
   rw [any_con] at C
   cases hq:conB R k with
   | true=>
    have H:Hid (partI R pl=(k:Int)):=by
     have:partN R (k+1)=some k:=by unfold partN;rw [ha.out];simp [hq]
     show _=_
     unfold partI
     rw [partN_stays this pl (by omega)]
    rw [hq] at C
    have HC:Hid (∀ w2,Same0 (wr.alloc (.cells #[.int .i64 (k:Int)] 3)) w2→w2.cell? ⟨wr.heap.size,0,none⟩=some (.int .i64 (k:Int))):=fun w2 h2=>cellAt (h2.at0 (heap_alloc_new wr _)) 0
    clear hq ha CC
    go_wp2_with (first | (go_at_call 187;refine C.mono ?_;rintro e w2 ⟨rfl,hw2⟩;have c2:=HC.out _ hw2))
    go_ret
    exact ⟨ret_int H.out.symm,(K.trans' hw).trans' (ka.trans' hw2)⟩
   | false=>
    have H:Hid (partN R (k+1)=none):=by
     show _=_
     unfold partN;rw [ha.out];simp [hq]
    rw [hq] at C
    clear hq ha
    go_wp2_with (first | (go_at_call 187;refine C.mono ?_;rintro e w2 ⟨rfl,hw2⟩))
    exact ⟨⟨k+1,by omega,by go_num,H,hw.trans' (ka.trans' hw2)⟩,by simp [intOf];omega⟩
  ·have H:Hid (partI R pl = -1):=by
    obtain rfl:k=pl:=by omega
    show _=_
    unfold partI
    rw [ha.out]
   clear ha
   go_wp2
   go_ret
   exact ⟨ret_int H.out.symm,K.trans' hw⟩
theorem field_left (a d:Option Addr) (b c e f:Nat) (w:World):(Instr.field 90 (.agg #[.slice a b c,.slice d e f]) 0).run Tryz.prog w=.ok (.slice a b c) w:=by kernel_rfl
theorem field_right (a d:Option Addr) (b c e f:Nat) (w:World):(Instr.field 90 (.agg #[.slice a b c,.slice d e f]) 1).run Tryz.prog w=.ok (.slice d e f) w:=by kernel_rfl
def askW (L:List Sym) (R l:List Ru) (j n:Nat):List (Int × Int):=if ckB L R l j n=true then [(0, -1)] else wrongL L R l j n
structure Cnd (w:World) (b bs:Nat) (ro:Option Addr) (rc:Nat) (L:List Sym) (R:List Ru) (lo:Option Addr) (l:List Ru) (n:Nat):Prop where
 st:StR w b bs ro rc L R
 ls:RsAt w lo l
 ll:l.length≤140737488355328
 hn:n<l.length
def BoxAt (w:World) (k b:Nat) (lo:Option Addr) (ll lc n:Nat):Prop:=w.cell? ⟨k,0,none⟩=some (.pointer (some ⟨b,0,none⟩))∧w.cell? ⟨k,1,none⟩=some (.slice lo ll lc)∧w.cell? ⟨k,2,none⟩=some (.int .i64 (n:Int))
theorem box_new (w:World) (b:Nat) (lo:Option Addr) (ll lc n:Nat) (t:TypeId):BoxAt (w.alloc (.cells #[.pointer (some ⟨b,0,none⟩),.slice lo ll lc,.int .i64 (n:Int)] t)) w.heap.size b lo ll lc n:=by
 have h:=heap_alloc_new w (.cells #[.pointer (some ⟨b,0,none⟩),.slice lo ll lc,.int .i64 (n:Int)] t)
 exact ⟨cellAt h 0,cellAt h 1,cellAt h 2⟩
theorem BoxAt.same {w w' : World} {k b:Nat} {lo:Option Addr} {ll lc n:Nat} (h:BoxAt w k b lo ll lc n) (hb:k<w.heap.size) (hk:Same0 w w'):BoxAt w' k b lo ll lc n:=
 ⟨(hk.cell (p:=⟨k,0,none⟩) hb (fun f=>f)).trans h.1,(hk.cell (p:=⟨k,1,none⟩) hb (fun f=>f)).trans h.2.1,(hk.cell (p:=⟨k,2,none⟩) hb (fun f=>f)).trans h.2.2⟩
theorem iwrap {z:Int} (h1 : -9223372036854775808≤z) (h2:z<9223372036854775808):IntKind.i64.wrap z=z:=by
 simp [IntKind.wrap,IntKind.bits,IntKind.signed];omega
set_option maxHeartbeats 2000000 in
theorem many_any {w:World} {b bs:Nat} {ro:Option Addr} {rc:Nat} {L:List Sym} {R:List Ru} {lo:Option Addr} {l:List Ru} {n lc:Nat} (h:Cnd w b bs ro rc L R lo l n) :
  Calls Tryz.prog 169 #[.agg #[.pointer (some ⟨b,0,none⟩),.slice lo l.length lc,.int .i64 (n:Int)]] w fun e w' => ∃ v,e=.returned v∧FltAt w' (askW L R l 0 n) v∧Same0 w w' := by
 have W1:Same0 w (w.alloc (.cells #[.pointer (some ⟨b,0,none⟩),.slice lo l.length lc,.int .i64 (n:Int)] 236)):=(Kept.refl _ w).alloc _
 have B1:=box_new w b lo l.length lc n 236
 have C1:=(h.st.same W1).cells
 have hz:w.heap.size<(w.alloc (.cells #[.pointer (some ⟨b,0,none⟩),.slice lo l.length lc,.int .i64 (n:Int)] 236)).heap.size:=by simp
 have HS:Hid (∀ ww,Same0 (w.alloc (.cells #[.pointer (some ⟨b,0,none⟩),.slice lo l.length lc,.int .i64 (n:Int)] 236)) ww→(ww.cell? ⟨b,0,none⟩=some (.pointer (some ⟨bs,0,none⟩))∧ww.cell? ⟨b,1,none⟩=some (.slice ro R.length rc))∧ww.cell? ⟨w.heap.size,0,none⟩=some (.pointer (some ⟨b,0,none⟩))∧ww.cell? ⟨w.heap.size,1,none⟩=some (.slice lo l.length lc)∧ww.cell? ⟨w.heap.size,2,none⟩=some (.int .i64 (n:Int))):=fun ww hk=>⟨((h.st.same W1).same hk).cells,B1.same hz hk⟩
 have hR:=h.st.le
 have hl:=h.ll
 have CC0:=HS.out _ (Kept.refl _ _)
 have E:Hid (∀ q:Bool,q=decide (R.length+l.length≤100)→(if q=true then [(0, -1)] else [(70,(n:Int))])=askW L R l 0 n):=by
  intro q hq
  subst hq
  simp only [askW,ckB,askB,wrongL]
  split <;> simp_all
 have Q:Hid (decide (IntKind.i64.wrap ((R.length:Int)+(l.length:Int))≤100)=decide (R.length+l.length≤100)):=by
  show _=_
  rw [iwrap (by omega) (by omega)]
  congr 1
  exact propext ⟨fun h=>by omega,fun h=>by omega⟩
 clear B1 C1 hz
 go_enter Tryz.func169,Tryz.ntmps169
 go_wp2
 go_region_held3 (fun w' => (w'.cell? ⟨b,0,none⟩=some (.pointer (some ⟨bs,0,none⟩))∧w'.cell? ⟨b,1,none⟩=some (.slice ro R.length rc))∧w'.cell? ⟨w.heap.size,0,none⟩=some (.pointer (some ⟨b,0,none⟩))∧w'.cell? ⟨w.heap.size,1,none⟩=some (.slice lo l.length lc)∧w'.cell? ⟨w.heap.size,2,none⟩=some (.int .i64 (n:Int))) (first | exact cc1 | exact CC0) (first | (go_at_call 208;refine (unless_any _ _ _ _ _ _ _ _).mono ?_;rintro e w2 ⟨v,rfl,hv,hk2⟩;have cc1:=HS.out _ (Same0.trans' (Kept.drew (Kept.refl _ _)) hk2)))
 go_wp2
 go_ret
 exact ⟨_,rfl,by rw [← E.out _ Q.out];exact hv,Same0.trans' (Kept.drew W1) hk2⟩
theorem Cnd.opened {w:World} {b bs:Nat} {ro:Option Addr} {rc:Nat} {L:List Sym} {R:List Ru} {lo:Option Addr} {l:List Ru} {n:Nat} (h:Cnd w b bs ro rc L R lo l n) (lc:Nat) :
  ∃ lb off ao ac bo bc x,lo=some ⟨lb,off,none⟩∧x=l.getD n ([],[])∧Same0 w (w.alloc (.cells #[.pointer (some ⟨b,0,none⟩),.slice (some ⟨lb,off,none⟩) l.length lc,.int .i64 (n:Int)] 236))∧(((w.alloc (.cells #[.pointer (some ⟨b,0,none⟩),.slice (some ⟨lb,off,none⟩) l.length lc,.int .i64 (n:Int)] 236)).cell? ⟨b,0,none⟩=some (.pointer (some ⟨bs,0,none⟩))∧(w.alloc (.cells #[.pointer (some ⟨b,0,none⟩),.slice (some ⟨lb,off,none⟩) l.length lc,.int .i64 (n:Int)] 236)).cell? ⟨b,1,none⟩=some (.slice ro R.length rc))∧((w.alloc (.cells #[.pointer (some ⟨b,0,none⟩),.slice (some ⟨lb,off,none⟩) l.length lc,.int .i64 (n:Int)] 236)).cell? ⟨w.heap.size,0,none⟩=some (.pointer (some ⟨b,0,none⟩))∧(w.alloc (.cells #[.pointer (some ⟨b,0,none⟩),.slice (some ⟨lb,off,none⟩) l.length lc,.int .i64 (n:Int)] 236)).cell? ⟨w.heap.size,1,none⟩=some (.slice (some ⟨lb,off,none⟩) l.length lc)∧(w.alloc (.cells #[.pointer (some ⟨b,0,none⟩),.slice (some ⟨lb,off,none⟩) l.length lc,.int .i64 (n:Int)] 236)).cell? ⟨w.heap.size,2,none⟩=some (.int .i64 (n:Int)))∧(w.alloc (.cells #[.pointer (some ⟨b,0,none⟩),.slice (some ⟨lb,off,none⟩) l.length lc,.int .i64 (n:Int)] 236)).cell? ⟨lb,off+n * 2,none⟩=some (.slice ao x.1.length ac)∧(w.alloc (.cells #[.pointer (some ⟨b,0,none⟩),.slice (some ⟨lb,off,none⟩) l.length lc,.int .i64 (n:Int)] 236)).cell? ⟨lb,off+n * 2+1,none⟩=some (.slice bo x.2.length bc)) ∧
   Hid (∀ ww,Same0 (w.alloc (.cells #[.pointer (some ⟨b,0,none⟩),.slice (some ⟨lb,off,none⟩) l.length lc,.int .i64 (n:Int)] 236)) ww→(ww.cell? ⟨b,0,none⟩=some (.pointer (some ⟨bs,0,none⟩))∧ww.cell? ⟨b,1,none⟩=some (.slice ro R.length rc))∧(ww.cell? ⟨w.heap.size,0,none⟩=some (.pointer (some ⟨b,0,none⟩))∧ww.cell? ⟨w.heap.size,1,none⟩=some (.slice (some ⟨lb,off,none⟩) l.length lc)∧ww.cell? ⟨w.heap.size,2,none⟩=some (.int .i64 (n:Int)))∧ww.cell? ⟨lb,off+n * 2,none⟩=some (.slice ao x.1.length ac)∧ww.cell? ⟨lb,off+n * 2+1,none⟩=some (.slice bo x.2.length bc)) ∧
   Hid (∀ ww,Same0 (w.alloc (.cells #[.pointer (some ⟨b,0,none⟩),.slice (some ⟨lb,off,none⟩) l.length lc,.int .i64 (n:Int)] 236)) ww→Arg ww ao x.1 ac∧Arg ww bo x.2 bc∧StR ww b bs ro rc L R) ∧
   Hid (∀ ww,Same0 (w.alloc (.cells #[.pointer (some ⟨b,0,none⟩),.slice (some ⟨lb,off,none⟩) l.length lc,.int .i64 (n:Int)] 236)) ww→Calls Tryz.prog 209 #[.agg #[.pointer (some ⟨b,0,none⟩),.slice (some ⟨lb,off,none⟩) l.length lc,.int .i64 (n:Int)]] ww fun e w' => e=.returned (.agg #[.slice ao x.1.length ac,.slice bo x.2.length bc])∧Same0 (w.alloc (.cells #[.pointer (some ⟨b,0,none⟩),.slice (some ⟨lb,off,none⟩) l.length lc,.int .i64 (n:Int)] 236)) w') ∧
   Hid (∀ ww q c,Same0 (w.alloc (.cells #[.pointer (some ⟨b,0,none⟩),.slice (some ⟨lb,off,none⟩) l.length lc,.int .i64 (n:Int)] 236)) ww→Calls Tryz.prog 208 #[.agg #[.pointer (some ⟨b,0,none⟩),.slice (some ⟨lb,off,none⟩) l.length lc,.int .i64 (n:Int)],.bool q,.int .i64 c] ww fun e w' => ∃ v,e=.returned v∧FltAt w' (if q=true then [(0, -1)] else [(c,(n:Int))]) v∧Same0 (w.alloc (.cells #[.pointer (some ⟨b,0,none⟩),.slice (some ⟨lb,off,none⟩) l.length lc,.int .i64 (n:Int)] 236)) w'):=by
 obtain ⟨lb,off,rfl,hlb,hr⟩:=h.ls.get h.hn
 obtain ⟨x,hx⟩:∃ x,x=l[n]'h.hn:=⟨_,rfl⟩
 rw [← hx] at hr
 obtain ⟨ao,ac,bo,bc,r0,r1,A1,A2⟩:=hr
 have e:x=l.getD n ([],[]):=by rw [hx];simp [List.getD,h.hn]
 have hn:=h.hn
 obtain ⟨wb,hwb⟩:∃ wb,wb=w.alloc (.cells #[.pointer (some ⟨b,0,none⟩),.slice (some ⟨lb,off,none⟩) l.length lc,.int .i64 (n:Int)] 236):=⟨_,rfl⟩
 have W0:Same0 w wb:=hwb ▸ (Kept.refl _ w).alloc _
 have B1:BoxAt wb w.heap.size b (some ⟨lb,off,none⟩) l.length lc n:=hwb ▸ box_new w b _ l.length lc n _
 have hz:w.heap.size<wb.heap.size:=by rw [hwb];simp
 have HS:∀ ww,Same0 wb ww→(ww.cell? ⟨b,0,none⟩=some (.pointer (some ⟨bs,0,none⟩))∧ww.cell? ⟨b,1,none⟩=some (.slice ro R.length rc))∧(ww.cell? ⟨w.heap.size,0,none⟩=some (.pointer (some ⟨b,0,none⟩))∧ww.cell? ⟨w.heap.size,1,none⟩=some (.slice (some ⟨lb,off,none⟩) l.length lc)∧ww.cell? ⟨w.heap.size,2,none⟩=some (.int .i64 (n:Int)))∧ww.cell? ⟨lb,off+n * 2,none⟩=some (.slice ao x.1.length ac)∧ww.cell? ⟨lb,off+n * 2+1,none⟩=some (.slice bo x.2.length bc):=fun ww hk=>⟨((h.st.same W0).same hk).cells,B1.same hz hk,((W0.trans' hk).cell (p:=⟨lb,off+n * 2,none⟩) hlb (fun f=>f)).trans r0,((W0.trans' hk).cell (p:=⟨lb,off+n * 2+1,none⟩) hlb (fun f=>f)).trans r1⟩
 refine ⟨lb,off,ao,ac,bo,bc,x,rfl,e,?_⟩
 rw [← hwb]
 refine ⟨W0,HS wb (Kept.refl _ _),HS,fun ww hk=>⟨(A1.same W0).same hk,(A2.same W0).same hk,(h.st.same W0).same hk⟩,fun ww hk=>?_,fun ww q c hk=>?_⟩
 ·obtain ⟨_,_,g0,g1⟩:=HS ww hk
  exact (rule_any g0 g1 hn).mono (fun e w' ⟨q1,q2⟩=>⟨q1,hk.trans' q2⟩)
 ·exact (unless_any ww b _ _ _ n c q).mono (fun e w' ⟨v,q1,q2,q3⟩=>⟨v,q1,q2,hk.trans' q3⟩)
set_option maxHeartbeats 4000000 in
theorem side_any {w:World} {b bs:Nat} {ro:Option Addr} {rc:Nat} {L:List Sym} {R:List Ru} {lo:Option Addr} {l:List Ru} {n lc:Nat} (h:Cnd w b bs ro rc L R lo l n) (hu:Upto L R l 2 n) :
  Calls Tryz.prog 171 #[.agg #[.pointer (some ⟨b,0,none⟩),.slice lo l.length lc,.int .i64 (n:Int)]] w fun e w' => ∃ v,e=.returned v∧FltAt w' (askW L R l 2 n) v∧Same0 w w' := by
 obtain ⟨lb,off,ao,ac,bo,bc,x,rfl,hx,W0,CC0,HS,HA,CR,CU⟩:=h.opened lc
 have W1:Same0 (w.alloc (.cells #[.pointer (some ⟨b,0,none⟩),.slice (some ⟨lb,off,none⟩) l.length lc,.int .i64 (n:Int)] 236)) (w.alloc (.cells #[.pointer (some ⟨b,0,none⟩),.slice (some ⟨lb,off,none⟩) l.length lc,.int .i64 (n:Int)] 236)).drew:=Kept.drew (Kept.refl _ _)
 have f0:=field_left
 have f1:=field_right
 have E:Hid (∀ q:Bool,(q=true ↔ x.1.length≤200∧x.2.length≤200)→(if q=true then [(0, -1)] else [(72,(n:Int))])=askW L R l 2 n):=by
  intro q hq
  have e1:q=(decide (x.1.length≤200) && decide (x.2.length≤200)):=by
   rw [← Bool.decide_and]
   cases q <;> simp_all
  subst e1
  simp only [askW,ckB,askB,wrongL,← hx]
  rfl
 have s1:=((HA.out _ (Kept.refl _ _)).1).size
 have s2:=((HA.out _ (Kept.refl _ _)).2.1).size
 clear h hu hx
 go_enter Tryz.func171,Tryz.ntmps171
 go_wp2
 go_region_held3 (fun w' => (w'.cell? ⟨b,0,none⟩=some (.pointer (some ⟨bs,0,none⟩))∧w'.cell? ⟨b,1,none⟩=some (.slice ro R.length rc))∧(w'.cell? ⟨w.heap.size,0,none⟩=some (.pointer (some ⟨b,0,none⟩))∧w'.cell? ⟨w.heap.size,1,none⟩=some (.slice (some ⟨lb,off,none⟩) l.length lc)∧w'.cell? ⟨w.heap.size,2,none⟩=some (.int .i64 (n:Int)))∧w'.cell? ⟨lb,off+n * 2,none⟩=some (.slice ao x.1.length ac)∧w'.cell? ⟨lb,off+n * 2+1,none⟩=some (.slice bo x.2.length bc)) (first | exact cc1 | exact CC0) (first | (go_at_call 209;refine (CR.out _ (by first | exact hw1 | exact W1)).mono ?_;rintro e w1 ⟨rfl,hw1⟩;have cc1:=HS.out _ hw1))
 all_goals
  go_wp2_with (first | (go_at_call 208;refine (CU.out _ _ _ (by first | exact hw1 | exact W1)).mono ?_;rintro e w2 ⟨v,rfl,hv,hw2⟩;have cc1:=HS.out _ hw2))
 all_goals
  go_ret
  exact ⟨_,rfl,by rw [← E.out _ ?_];exact hv;simp;first | omega | (split <;> omega),W0.trans' hw2⟩
set_option maxHeartbeats 4000000 in
theorem root_any {w:World} {b bs:Nat} {ro:Option Addr} {rc:Nat} {L:List Sym} {R:List Ru} {lo:Option Addr} {l:List Ru} {n lc:Nat} (h:Cnd w b bs ro rc L R lo l n) (hu:Upto L R l 3 n) :
  Calls Tryz.prog 172 #[.agg #[.pointer (some ⟨b,0,none⟩),.slice lo l.length lc,.int .i64 (n:Int)]] w fun e w' => ∃ v,e=.returned v∧FltAt w' (askW L R l 3 n) v∧Same0 w w' := by
 obtain ⟨lb,off,ao,ac,bo,bc,x,rfl,hx,W0,CC0,HS,HA,CR,CU⟩:=h.opened lc
 have W1:Same0 (w.alloc (.cells #[.pointer (some ⟨b,0,none⟩),.slice (some ⟨lb,off,none⟩) l.length lc,.int .i64 (n:Int)] 236)) (w.alloc (.cells #[.pointer (some ⟨b,0,none⟩),.slice (some ⟨lb,off,none⟩) l.length lc,.int .i64 (n:Int)] 236)).drew:=Kept.drew (Kept.refl _ _)
 have f0:=field_left
 have f1:=field_right
 have hc:checkE L x.1=0:=by
  have:=hu.1 1 (by omega) n h.hn
  simp only [ckB,askB,← hx,Bool.and_eq_true,decide_eq_true_eq] at this
  exact this.1
 have hp:0<x.1.length:=isT_pos (checkE_zero.1 hc).2.2
 have E:Hid (∀ q:Bool,q=defB L x.1[0]→(if q=true then [(0, -1)] else [(73,(n:Int))])=askW L R l 3 n):=by
  intro q hq
  have e1:x.1.headD (-1)=x.1[0]:=by
   clear CC0 HS HA CR CU W0 W1 hc hx h hu
   obtain ⟨x1,x2⟩:=x
   cases x1 with
   | nil=>simp at hp
   | cons y r=>simp
  subst hq
  simp only [askW,ckB,askB,wrongL,← hx,e1]
  rfl
 obtain ⟨ab,ao', rfl,hab⟩:∃ ab ao', ao=some ⟨ab,ao', none⟩∧Hid (∀ ww,Same0 (w.alloc (.cells #[.pointer (some ⟨b,0,none⟩),.slice (some ⟨lb,off,none⟩) l.length lc,.int .i64 (n:Int)] 236)) ww→ww.cell? ⟨ab,ao', none⟩=some (.int .i64 x.1[0])):=by
  obtain ⟨ab,ao', e,hlt,hc⟩:=((HA.out _ (Kept.refl _ _)).1).at'.get hp
  exact ⟨ab,ao', e,fun ww hk=>(hk.cell (p:=⟨ab,ao', none⟩) hlt (fun f=>f)).trans hc⟩
 have CD:Hid (∀ ww z,Same0 (w.alloc (.cells #[.pointer (some ⟨b,0,none⟩),.slice (some ⟨lb,off,none⟩) l.length lc,.int .i64 (n:Int)] 236)) ww→Calls Tryz.prog 211 #[.agg #[.pointer (some ⟨b,0,none⟩),.slice (some ⟨lb,off,none⟩) l.length lc,.int .i64 (n:Int)],.int .i64 z] ww fun e w' => e=.returned (.bool (defB L z))∧Same0 (w.alloc (.cells #[.pointer (some ⟨b,0,none⟩),.slice (some ⟨lb,off,none⟩) l.length lc,.int .i64 (n:Int)] 236)) w'):=fun ww z hk=>(isDefined_any (HA.out ww hk).2.2 _ _ _ _ _).mono (fun e w' ⟨q1,q2⟩=>⟨q1,hk.trans' q2⟩)
 have i1:(0:Int)<(x.1.length:Int):=by omega
 have CC0:=And.intro (hab.out _ (Kept.refl _ _)) CC0
 have HS' : Hid (∀ ww,Same0 (w.alloc (.cells #[.pointer (some ⟨b,0,none⟩),.slice (some ⟨lb,off,none⟩) l.length lc,.int .i64 (n:Int)] 236)) ww→ww.cell? ⟨ab,ao', none⟩=some (.int .i64 x.1[0])∧(ww.cell? ⟨b,0,none⟩=some (.pointer (some ⟨bs,0,none⟩))∧ww.cell? ⟨b,1,none⟩=some (.slice ro R.length rc))∧(ww.cell? ⟨w.heap.size,0,none⟩=some (.pointer (some ⟨b,0,none⟩))∧ww.cell? ⟨w.heap.size,1,none⟩=some (.slice (some ⟨lb,off,none⟩) l.length lc)∧ww.cell? ⟨w.heap.size,2,none⟩=some (.int .i64 (n:Int)))∧ww.cell? ⟨lb,off+n * 2,none⟩=some (.slice (some ⟨ab,ao', none⟩) x.1.length ac)∧ww.cell? ⟨lb,off+n * 2+1,none⟩=some (.slice bo x.2.length bc)):=fun ww hk=>⟨hab.out ww hk,HS.out ww hk⟩
 clear h hu hx hab HS hc
 go_enter Tryz.func172,Tryz.ntmps172
 go_wp2
 go_region_held3 (fun w' => w'.cell? ⟨ab,ao', none⟩=some (.int .i64 x.1[0])∧(w'.cell? ⟨b,0,none⟩=some (.pointer (some ⟨bs,0,none⟩))∧w'.cell? ⟨b,1,none⟩=some (.slice ro R.length rc))∧(w'.cell? ⟨w.heap.size,0,none⟩=some (.pointer (some ⟨b,0,none⟩))∧w'.cell? ⟨w.heap.size,1,none⟩=some (.slice (some ⟨lb,off,none⟩) l.length lc)∧w'.cell? ⟨w.heap.size,2,none⟩=some (.int .i64 (n:Int)))∧w'.cell? ⟨lb,off+n * 2,none⟩=some (.slice (some ⟨ab,ao', none⟩) x.1.length ac)∧w'.cell? ⟨lb,off+n * 2+1,none⟩=some (.slice bo x.2.length bc)) (first | exact cc1 | exact CC0) (first | (go_at_call 209;refine (CR.out _ (by first | exact hw1 | exact W1)).mono ?_;rintro e w1 ⟨rfl,hw1⟩;have cc1:=HS'.out _ hw1) | (go_at_call 211;refine (CD.out _ _ (by first | exact hw1 | exact W1)).mono ?_;rintro e w1 ⟨rfl,hw1⟩;have cc1:=HS'.out _ hw1) | (go_at_call 208;refine (CU.out _ _ _ (by first | exact hw1 | exact W1)).mono ?_;rintro e w2 ⟨v,rfl,hv,hw2⟩;have cc1:=HS'.out _ hw2))
 all_goals
  go_wp2
  go_ret
  exact ⟨_,rfl,by rw [← E.out _ rfl];exact hv,W0.trans' hw2⟩
set_option maxHeartbeats 4000000 in
theorem term_any {w:World} {b bs:Nat} {ro:Option Addr} {rc:Nat} {L:List Sym} {R:List Ru} {lo:Option Addr} {l:List Ru} {n lc:Nat} (h:Cnd w b bs ro rc L R lo l n) (hu:Upto L R l 1 n) :
  Calls Tryz.prog 170 #[.agg #[.pointer (some ⟨b,0,none⟩),.slice lo l.length lc,.int .i64 (n:Int)]] w fun e w' => ∃ v,e=.returned v∧FltAt w' (askW L R l 1 n) v∧Same0 w w' := by
 obtain ⟨lb,off,ao,ac,bo,bc,x,rfl,hx,W0,CC0,HS,HA,CR,CU⟩:=h.opened lc
 have W1:Same0 (w.alloc (.cells #[.pointer (some ⟨b,0,none⟩),.slice (some ⟨lb,off,none⟩) l.length lc,.int .i64 (n:Int)] 236)) (w.alloc (.cells #[.pointer (some ⟨b,0,none⟩),.slice (some ⟨lb,off,none⟩) l.length lc,.int .i64 (n:Int)] 236)).drew:=Kept.drew (Kept.refl _ _)
 have f0:=field_left
 have f1:=field_right
 have CF:Hid (∀ ww why c,(why=.nilIface∨∃ t v,why=.iface t v)→Same0 (w.alloc (.cells #[.pointer (some ⟨b,0,none⟩),.slice (some ⟨lb,off,none⟩) l.length lc,.int .i64 (n:Int)] 236)) ww→Calls Tryz.prog 210 #[.agg #[.pointer (some ⟨b,0,none⟩),.slice (some ⟨lb,off,none⟩) l.length lc,.int .i64 (n:Int)],.int .i64 c,why] ww fun e w' => ∃ k,e=.returned (.iface 114 (.pointer (some ⟨k,0,none⟩)))∧w'.heap[k]? = some (.cells #[.int .i64 c,.int .i64 (n:Int),why] 116 (0,0))∧Same0 (w.alloc (.cells #[.pointer (some ⟨b,0,none⟩),.slice (some ⟨lb,off,none⟩) l.length lc,.int .i64 (n:Int)] 236)) w'):=fun ww why c hw hk=>(fault_any ww b _ _ _ why hw n c).mono (fun e w' ⟨k,q1,q2,q3⟩=>⟨k,q1,q2,hk.trans' q3⟩)
 have CK:Hid (∀ ww so sc (t:List Int),Same0 (w.alloc (.cells #[.pointer (some ⟨b,0,none⟩),.slice (some ⟨lb,off,none⟩) l.length lc,.int .i64 (n:Int)] 236)) ww→Arg ww so t sc→Calls Tryz.prog 104 #[.pointer (some ⟨bs,0,none⟩),.slice so t.length sc] ww fun e w' => e=.returned (.int .i64 (checkE L t))∧Same0 ww w' ∧ Same0 (w.alloc (.cells #[.pointer (some ⟨b,0,none⟩),.slice (some ⟨lb,off,none⟩) l.length lc,.int .i64 (n:Int)] 236)) w'):=fun ww so sc t hk ha=>(check_any (HA.out ww hk).2.2.sig ha.at' (by have:=ha.size;unfold maxLen;omega)).mono (fun e w' ⟨q1,q2⟩=>⟨q1,q2,hk.trans' q2⟩)
 have E0:Hid (checkE L x.1=0→checkE L x.2=0→askW L R l 1 n=[(0, -1)]):=fun h1 h2=>by simp only [askW,ckB,askB,← hx];simp [h1,h2]
 have E1:Hid (¬ checkE L x.1=0→askW L R l 1 n=[(71,(n:Int)),(checkE L x.1, -1)]):=fun h1=>by simp only [askW,ckB,askB,wrongL,← hx];simp [h1]
 have E2:Hid (checkE L x.1=0→¬ checkE L x.2=0→askW L R l 1 n=[(71,(n:Int)),(checkE L x.2, -1)]):=fun h1 h2=>by simp only [askW,ckB,askB,wrongL,← hx];simp [h1,h2]
 clear h hu hx
 go_enter Tryz.func170,Tryz.ntmps170
 go_wp2
 go_region_held3 (fun w' => (w'.cell? ⟨b,0,none⟩=some (.pointer (some ⟨bs,0,none⟩))∧w'.cell? ⟨b,1,none⟩=some (.slice ro R.length rc))∧(w'.cell? ⟨w.heap.size,0,none⟩=some (.pointer (some ⟨b,0,none⟩))∧w'.cell? ⟨w.heap.size,1,none⟩=some (.slice (some ⟨lb,off,none⟩) l.length lc)∧w'.cell? ⟨w.heap.size,2,none⟩=some (.int .i64 (n:Int)))∧w'.cell? ⟨lb,off+n * 2,none⟩=some (.slice ao x.1.length ac)∧w'.cell? ⟨lb,off+n * 2+1,none⟩=some (.slice bo x.2.length bc)) (first | exact cc1 | exact CC0 | exact HS.out _ (Kept.alloc hw1 _)) (first | (go_at_call 209;refine (CR.out _ (by first | exact hw1 | exact W1)).mono ?_;rintro e w1 ⟨rfl,hw1⟩;have cc1:=HS.out _ hw1))
 have wg:=heap_alloc_new w1 (.cells #[.slice ao x.1.length ac,.slice bo x.2.length bc] 74)
 have hg:Hid (∀ ww,Same0 (w1.alloc (.cells #[.slice ao x.1.length ac,.slice bo x.2.length bc] 74)) ww→(ww.cell? ⟨w1.heap.size,0,none⟩=some (.slice ao x.1.length ac)∧ww.cell? ⟨w1.heap.size,1,none⟩=some (.slice bo x.2.length bc))∧Same0 (w.alloc (.cells #[.pointer (some ⟨b,0,none⟩),.slice (some ⟨lb,off,none⟩) l.length lc,.int .i64 (n:Int)] 236)) ww):=fun ww hk=>⟨⟨cellAt (hk.at0 wg) 0,cellAt (hk.at0 wg) 1⟩,Same0.trans' (Kept.alloc hw1 _) hk⟩
 have K0:Same0 (w1.alloc (.cells #[.slice ao x.1.length ac,.slice bo x.2.length bc] 74)) (w1.alloc (.cells #[.slice ao x.1.length ac,.slice bo x.2.length bc] 74)):=Kept.refl _ _
 go_wp2
 go_loopw [14] (fun i wr=>(i=.int .i64 0∨(i=.int .i64 1∧Hid (checkE L x.1=0))∨(i=.int .i64 2∧Hid (checkE L x.1=0)∧Hid (checkE L x.2=0)))∧Same0 (w1.alloc (.cells #[.slice ao x.1.length ac,.slice bo x.2.length bc] 74)) wr) (fun i _=>2-(intOf i).toNat)
 case atStart=>exact ⟨.inl rfl,K0⟩
 case round=>
  clear wg K0 CC0 W1
  obtain ⟨hi,hk⟩:=hrel
  obtain ⟨⟨g0,g1⟩,kw⟩:=hg.out _ hk
  obtain ⟨c1,c2,c3⟩:=HS.out _ kw
  obtain ⟨a1,a2,a3⟩:=HA.out _ kw
  rcases hi with rfl | ⟨rfl,z1⟩ | ⟨rfl,z1,z2⟩
  ·by_cases hz:checkE L x.1=0
   ·have Z:Hid (checkE L x.1=0):=hz
    have zz:(checkE L x.1 == 0)=true:=by simpa using hz
    go_wp2_with (first | (go_at_call 104;refine (CK.out _ _ _ _ kw a1).mono ?_;rintro e w2 ⟨rfl,ks2,kw2⟩;obtain ⟨d1,d2,d3⟩:=HS.out _ kw2) | (go_at_call 210;refine (CF.out _ _ _ (.inr ⟨_,_,rfl⟩) kw2).mono ?_;rintro e w3 ⟨k,rfl,hk3,kw3⟩))
    exact ⟨⟨.inr (.inl ⟨rfl,Z⟩),hk.trans' ks2⟩,by simp [intOf]⟩
   ·have zz:(checkE L x.1 == 0)=false:=by simpa using hz
    have Z:=E1.out hz
    clear E0 E1 E2
    go_wp2_with (first | (go_at_call 104;refine (CK.out _ _ _ _ kw a1).mono ?_;rintro e w2 ⟨rfl,ks2,kw2⟩;obtain ⟨d1,d2,d3⟩:=HS.out _ kw2) | (go_at_call 210;refine (CF.out _ _ _ (.inr ⟨_,_,rfl⟩) kw2).mono ?_;rintro e w3 ⟨k,rfl,hk3,kw3⟩))
    go_ret
    exact ⟨_,rfl,by rw [Z];exact .inr ⟨by omega,k,_,rfl,hk3,.inl ⟨rfl,rfl,rfl⟩⟩,W0.trans' kw3⟩
  ·by_cases hz:checkE L x.2=0
   ·have Z:Hid (checkE L x.2=0):=hz
    have zz:(checkE L x.2 == 0)=true:=by simpa using hz
    go_wp2_with (first | (go_at_call 104;refine (CK.out _ _ _ _ kw a2).mono ?_;rintro e w2 ⟨rfl,ks2,kw2⟩;obtain ⟨d1,d2,d3⟩:=HS.out _ kw2) | (go_at_call 210;refine (CF.out _ _ _ (.inr ⟨_,_,rfl⟩) kw2).mono ?_;rintro e w3 ⟨k,rfl,hk3,kw3⟩))
    exact ⟨⟨.inr (.inr ⟨rfl,z1,Z⟩),hk.trans' ks2⟩,by simp [intOf]⟩
   ·have zz:(checkE L x.2 == 0)=false:=by simpa using hz
    have Z:=E2.out z1.out hz
    clear E0 E1 E2
    go_wp2_with (first | (go_at_call 104;refine (CK.out _ _ _ _ kw a2).mono ?_;rintro e w2 ⟨rfl,ks2,kw2⟩;obtain ⟨d1,d2,d3⟩:=HS.out _ kw2) | (go_at_call 210;refine (CF.out _ _ _ (.inr ⟨_,_,rfl⟩) kw2).mono ?_;rintro e w3 ⟨k,rfl,hk3,kw3⟩))
    go_ret
    exact ⟨_,rfl,by rw [Z];exact .inr ⟨by omega,k,_,rfl,hk3,.inl ⟨rfl,rfl,rfl⟩⟩,W0.trans' kw3⟩
  ·go_wp2
   go_ret
   exact ⟨_,rfl,by rw [E0.out z1.out z2.out];exact .inl ⟨rfl,rfl,rfl⟩,W0.trans' kw⟩
set_option maxHeartbeats 4000000 in
theorem linear_any {w:World} {b bs:Nat} {ro:Option Addr} {rc:Nat} {L:List Sym} {R:List Ru} {lo:Option Addr} {l:List Ru} {n lc:Nat} (h:Cnd w b bs ro rc L R lo l n) (hu:Upto L R l 4 n) :
  Calls Tryz.prog 173 #[.agg #[.pointer (some ⟨b,0,none⟩),.slice lo l.length lc,.int .i64 (n:Int)]] w fun e w' => ∃ v,e=.returned v∧FltAt w' (askW L R l 4 n) v∧Same0 w w' := by
 obtain ⟨lb,off,ao,ac,bo,bc,x,rfl,hx,W0,CC0,HS,HA,CR,CU⟩:=h.opened lc
 have W1:Same0 (w.alloc (.cells #[.pointer (some ⟨b,0,none⟩),.slice (some ⟨lb,off,none⟩) l.length lc,.int .i64 (n:Int)] 236)) (w.alloc (.cells #[.pointer (some ⟨b,0,none⟩),.slice (some ⟨lb,off,none⟩) l.length lc,.int .i64 (n:Int)] 236)).drew:=Kept.drew (Kept.refl _ _)
 have f0:=field_left
 have f1:=field_right
 have hc:checkE L x.1=0:=by
  have:=hu.1 1 (by omega) n h.hn
  simp only [ckB,askB,← hx,Bool.and_eq_true,decide_eq_true_eq] at this
  exact this.1
 have hm:x.1.length≤2000:=(checkE_zero.1 hc).1
 have E:Hid (∀ q:Bool,(q=true ↔ negN x.1=(varsL x.1).length)→(if q=true then [(0, -1)] else [(74,(n:Int))])=askW L R l 4 n):=by
  intro q hq
  have e1:q=decide (negN x.1=(varsL x.1).length):=by cases q <;> simp_all
  subst e1
  simp only [askW,ckB,askB,wrongL,← hx]
  rfl
 have hvl:(varsL x.1).length≤x.1.length:=by have:=vs_len [] x.1;simpa [varsL] using this
 have hnl:=negN_le x.1
 have CV:Hid (∀ ww,Same0 (w.alloc (.cells #[.pointer (some ⟨b,0,none⟩),.slice (some ⟨lb,off,none⟩) l.length lc,.int .i64 (n:Int)] 236)) ww→Calls Tryz.prog 105 #[.slice ao x.1.length ac] ww fun e w' => ∃ vo vc,e=.returned (.slice vo (varsL x.1).length vc)∧Same0 (w.alloc (.cells #[.pointer (some ⟨b,0,none⟩),.slice (some ⟨lb,off,none⟩) l.length lc,.int .i64 (n:Int)] 236)) w'):=fun ww hk=>(tvars_any (HA.out ww hk).1.at' (by omega)).mono (fun e w' ⟨v,q1,q2,q3⟩=>by
  obtain ⟨vo,vc,rfl⟩:=row_shape q2
  exact ⟨vo,vc,q1,hk.trans' q3⟩)
 clear h hu hx hc W1
 have W1:Same0 (w.alloc (.cells #[.pointer (some ⟨b,0,none⟩),.slice (some ⟨lb,off,none⟩) l.length lc,.int .i64 (n:Int)] 236)) (w.alloc (.cells #[.pointer (some ⟨b,0,none⟩),.slice (some ⟨lb,off,none⟩) l.length lc,.int .i64 (n:Int)] 236)):=Kept.refl _ _
 go_enter Tryz.func173,Tryz.ntmps173
 go_wp2_with (first | (go_at_call 209;refine (CR.out _ (by first | exact hw1 | exact W1)).mono ?_;rintro e w1 ⟨rfl,hw1⟩;have cc1:=HS.out _ hw1))
 obtain ⟨a1,a2,a3⟩:=HA.out _ hw1
 have HI:Hid (∀ k (hk:k<x.1.length),∃ tb off', ao=some ⟨tb,off', none⟩∧w1.cell? ⟨tb,off' + k,none⟩=some (.int .i64 x.1[k])):=fun k hk=>by
  obtain ⟨tb,off', e,_,hc⟩:=a1.at'.get hk
  exact ⟨tb,off', e,hc⟩
 go_loop [3,11] (fun s i=>∃ k:Nat,k≤x.1.length∧i=.int .i64 (k:Int)∧s=.int .i64 ((negN (x.1.take k):Nat):Int)) (fun _ i=>x.1.length-(intOf i).toNat)
 case atStart=>exact ⟨0,Nat.zero_le _,rfl,rfl⟩
 case round=>
  obtain ⟨k,hk,rfl,rfl⟩:=hrel
  have b0:=negN_le (x.1.take k)
  have b1:negN (x.1.take k)≤2000:=by rw [List.length_take] at b0;omega
  clear b0
  by_cases hlt:k<x.1.length
  ·obtain ⟨tb,off', rfl,hcell⟩:=HI.out k hlt
   have i1:(0:Int)≤(k:Int):=by omega
   have i2:(k:Int)<(x.1.length:Int):=by omega
   have N:Hid (negN (x.1.take (k+1))=negN (x.1.take k)+if x.1[k]<0 then 1 else 0):=negN_take hlt
   generalize negN (x.1.take k)=m at *
   by_cases hneg:x.1[k]<0
   ·go_wp2
    exact ⟨⟨k+1,by omega,by go_num,by rw [N.out,if_pos hneg];go_num⟩,by simp [intOf];omega⟩
   ·go_wp2
    exact ⟨⟨k+1,by omega,by go_num,by rw [N.out,if_neg hneg];rfl⟩,by simp [intOf];omega⟩
  ·obtain rfl:k=x.1.length:=by omega
   rw [List.take_length]
   clear b1
   have cc1:=HS.out _ hw1
   go_wp2_with (first | (go_at_call 209;refine (CR.out _ (by first | exact hw1 | exact W1)).mono ?_;rintro e w1 ⟨rfl,hw1⟩;have cc1:=HS.out _ hw1) | (go_at_call 105;refine (CV.out _ hw1).mono ?_;rintro e w1 ⟨vo,vc,rfl,hw1⟩;have cc1:=HS.out _ hw1) | (go_at_call 208;refine (CU.out _ _ _ (by first | exact hw1 | exact W1)).mono ?_;rintro e w2 ⟨v,rfl,hv,hw2⟩;have cc1:=HS.out _ hw2))
   go_ret
   exact ⟨_,rfl,by rw [← E.out _ ?_];exact hv;simp;try omega,W0.trans' hw2⟩
set_option maxHeartbeats 4000000 in
theorem below_any {w:World} {b bs:Nat} {ro:Option Addr} {rc:Nat} {L:List Sym} {R:List Ru} {lo:Option Addr} {l:List Ru} {n lc:Nat} (h:Cnd w b bs ro rc L R lo l n) (hu:Upto L R l 5 n) :
  Calls Tryz.prog 174 #[.agg #[.pointer (some ⟨b,0,none⟩),.slice lo l.length lc,.int .i64 (n:Int)]] w fun e w' => ∃ v,e=.returned v∧FltAt w' (askW L R l 5 n) v∧Same0 w w' := by
 obtain ⟨lb,off,ao,ac,bo,bc,x,rfl,hx,W0,CC0,HS,HA,CR,CU⟩:=h.opened lc
 have W1:Same0 (w.alloc (.cells #[.pointer (some ⟨b,0,none⟩),.slice (some ⟨lb,off,none⟩) l.length lc,.int .i64 (n:Int)] 236)) (w.alloc (.cells #[.pointer (some ⟨b,0,none⟩),.slice (some ⟨lb,off,none⟩) l.length lc,.int .i64 (n:Int)] 236)).drew:=Kept.drew (Kept.refl _ _)
 have f0:=field_left
 have f1:=field_right
 have hc:checkE L x.1=0∧checkE L x.2=0:=by
  have:=hu.1 1 (by omega) n h.hn
  simp only [ckB,askB,← hx,Bool.and_eq_true,decide_eq_true_eq] at this
  exact this
 have hm:x.1.length≤2000:=(checkE_zero.1 hc.1).1
 have hm2:x.2.length≤2000:=(checkE_zero.1 hc.2).1
 have hp:0<x.1.length:=isT_pos (checkE_zero.1 hc.1).2.2
 have E:Hid (∀ q:Bool,q=(!x.1.tail.any (defB L))→(if q=true then [(0, -1)] else [(75,(n:Int))])=askW L R l 5 n):=by
  intro q hq
  have e1:x.1.tail.all (fun n=>!defB L n) = !x.1.tail.any (defB L):=by simp [List.all_eq_not_any_not]
  subst hq
  simp only [askW,ckB,askB,wrongL,← hx,e1]
  rfl
 obtain ⟨ab,ao', rfl,hab⟩:∃ ab ao', ao=some ⟨ab,ao', none⟩∧IntsAt (w.alloc (.cells #[.pointer (some ⟨b,0,none⟩),.slice (some ⟨lb,off,none⟩) l.length lc,.int .i64 (n:Int)] 236)) (if ac=1 then some ⟨ab,ao', none⟩ else some ⟨ab,ao' + 1,none⟩) x.1.tail:=by
  have hA:=((HA.out _ (Kept.refl _ _)).1).at'
  obtain ⟨ab,ao', e,hlt,hc⟩:=hA.get hp
  refine ⟨ab,ao', e,?_⟩
  have hcap:=((HA.out _ (Kept.refl _ _)).1).cap'
  by_cases hac:ac=1
  ·left
   exact List.eq_nil_of_length_eq_zero (by simp;omega)
  rw [if_neg hac]
  refine .inr ⟨ab,ao' + 1,rfl,hlt,fun i hi=>?_⟩
  have hi' : i+1<x.1.length:=by simp at hi;omega
  obtain ⟨ab2,ao2,e2,_,hc2⟩:=hA.get hi'
  rw [e] at e2
  simp only [Option.some.injEq,Addr.mk.injEq] at e2
  obtain ⟨rfl,rfl,_⟩:=e2
  rw [show ao' + 1+i=ao' + (i+1) by omega,hc2]
  simp
 have hac:=((HA.out _ (Kept.refl _ _)).1).cap'
 have i1:(1:Int)≤(x.1.length:Int):=by omega
 have i2:(x.1.length:Int)≤(ac:Int):=by omega
 have CD:∀ ww z,Same0 (w.alloc (.cells #[.pointer (some ⟨b,0,none⟩),.slice (some ⟨lb,off,none⟩) l.length lc,.int .i64 (n:Int)] 236)) ww→Calls Tryz.prog 211 #[.agg #[.pointer (some ⟨b,0,none⟩),.slice (some ⟨lb,off,none⟩) l.length lc,.int .i64 (n:Int)],.int .i64 z] ww fun e w' => e=.returned (.bool (defB L z))∧Same0 (w.alloc (.cells #[.pointer (some ⟨b,0,none⟩),.slice (some ⟨lb,off,none⟩) l.length lc,.int .i64 (n:Int)] 236)) w' := fun ww z hk=>(isDefined_any (HA.out ww hk).2.2 _ _ _ _ _).mono (fun e w' ⟨q1,q2⟩=>⟨q1,hk.trans' q2⟩)
 have CB:Hid (∀ ww so sl sc,so=(if ac=1 then some ⟨ab,ao', none⟩ else some ⟨ab,ao' + 1,none⟩)→sl=x.1.tail.length→Same0 (w.alloc (.cells #[.pointer (some ⟨b,0,none⟩),.slice (some ⟨lb,off,none⟩) l.length lc,.int .i64 (n:Int)] 236)) ww→Calls Tryz.prog 212 #[.slice so sl sc,.func (.func 211) #[.agg #[.pointer (some ⟨b,0,none⟩),.slice (some ⟨lb,off,none⟩) l.length lc,.int .i64 (n:Int)]] #[]] ww fun e w' => e=.returned (.bool (x.1.tail.any (defB L)))∧Same0 (w.alloc (.cells #[.pointer (some ⟨b,0,none⟩),.slice (some ⟨lb,off,none⟩) l.length lc,.int .i64 (n:Int)] 236)) w'):=fun ww so sl sc e' e hk=>by
  subst e e'
  exact containsf_def CD hab (by simp;omega) hk
 have tl:x.1.tail.length=x.1.length-1:=by simp
 have TL:Hid (x.1.tail.length=x.1.length-1):=tl
 clear h hu hx hab hc CD tl
 by_cases hac1:ac=1
 ·subst hac1
  have CB1:Hid (∀ ww sc,Same0 (w.alloc (.cells #[.pointer (some ⟨b,0,none⟩),.slice (some ⟨lb,off,none⟩) l.length lc,.int .i64 (n:Int)] 236)) ww→Calls Tryz.prog 212 #[.slice (some ⟨ab,ao', none⟩) 0 sc,.func (.func 211) #[.agg #[.pointer (some ⟨b,0,none⟩),.slice (some ⟨lb,off,none⟩) l.length lc,.int .i64 (n:Int)]] #[]] ww fun e w' => e=.returned (.bool (x.1.tail.any (defB L)))∧Same0 (w.alloc (.cells #[.pointer (some ⟨b,0,none⟩),.slice (some ⟨lb,off,none⟩) l.length lc,.int .i64 (n:Int)] 236)) w'):=fun ww sc hk=>CB.out ww _ 0 sc (by simp) (by rw [TL.out];omega) hk
  clear CB TL
  go_enter Tryz.func174,Tryz.ntmps174
  go_wp2
  go_region_held3 (fun w' => (w'.cell? ⟨b,0,none⟩=some (.pointer (some ⟨bs,0,none⟩))∧w'.cell? ⟨b,1,none⟩=some (.slice ro R.length rc))∧(w'.cell? ⟨w.heap.size,0,none⟩=some (.pointer (some ⟨b,0,none⟩))∧w'.cell? ⟨w.heap.size,1,none⟩=some (.slice (some ⟨lb,off,none⟩) l.length lc)∧w'.cell? ⟨w.heap.size,2,none⟩=some (.int .i64 (n:Int)))∧w'.cell? ⟨lb,off+n * 2,none⟩=some (.slice (some ⟨ab,ao', none⟩) x.1.length 1)∧w'.cell? ⟨lb,off+n * 2+1,none⟩=some (.slice bo x.2.length bc)) (first | exact cc1 | exact CC0) (first | (go_at_call 209;refine (CR.out _ (by first | exact hw1 | exact W1)).mono ?_;rintro e w1 ⟨rfl,hw1⟩;have cc1:=HS.out _ hw1) | (go_at_call 212;refine (CB1.out _ _ (by first | exact hw1 | exact W1)).mono ?_;rintro e w1 ⟨rfl,hw1⟩;have cc1:=HS.out _ hw1) | (go_at_call 208;refine (CU.out _ _ _ (by first | exact hw1 | exact W1)).mono ?_;rintro e w2 ⟨v,rfl,hv,hw2⟩;have cc1:=HS.out _ hw2))
  all_goals
   go_wp2
   go_ret
   exact ⟨_,rfl,by rw [← E.out _ rfl];exact hv,W0.trans' hw2⟩
 ·have CB1:Hid (∀ ww sc,Same0 (w.alloc (.cells #[.pointer (some ⟨b,0,none⟩),.slice (some ⟨lb,off,none⟩) l.length lc,.int .i64 (n:Int)] 236)) ww→Calls Tryz.prog 212 #[.slice (some ⟨ab,ao' + 1,none⟩) (x.1.length-1) sc,.func (.func 211) #[.agg #[.pointer (some ⟨b,0,none⟩),.slice (some ⟨lb,off,none⟩) l.length lc,.int .i64 (n:Int)]] #[]] ww fun e w' => e=.returned (.bool (x.1.tail.any (defB L)))∧Same0 (w.alloc (.cells #[.pointer (some ⟨b,0,none⟩),.slice (some ⟨lb,off,none⟩) l.length lc,.int .i64 (n:Int)] 236)) w'):=fun ww sc hk=>CB.out ww _ _ sc (by simp [hac1]) TL.out.symm hk
  clear CB TL
  go_enter Tryz.func174,Tryz.ntmps174
  go_wp2
  go_region_held3 (fun w' => (w'.cell? ⟨b,0,none⟩=some (.pointer (some ⟨bs,0,none⟩))∧w'.cell? ⟨b,1,none⟩=some (.slice ro R.length rc))∧(w'.cell? ⟨w.heap.size,0,none⟩=some (.pointer (some ⟨b,0,none⟩))∧w'.cell? ⟨w.heap.size,1,none⟩=some (.slice (some ⟨lb,off,none⟩) l.length lc)∧w'.cell? ⟨w.heap.size,2,none⟩=some (.int .i64 (n:Int)))∧w'.cell? ⟨lb,off+n * 2,none⟩=some (.slice (some ⟨ab,ao', none⟩) x.1.length ac)∧w'.cell? ⟨lb,off+n * 2+1,none⟩=some (.slice bo x.2.length bc)) (first | exact cc1 | exact CC0) (first | (go_at_call 209;refine (CR.out _ (by first | exact hw1 | exact W1)).mono ?_;rintro e w1 ⟨rfl,hw1⟩;have cc1:=HS.out _ hw1) | (go_at_call 212;refine (CB1.out _ _ (by first | exact hw1 | exact W1)).mono ?_;rintro e w1 ⟨rfl,hw1⟩;have cc1:=HS.out _ hw1) | (go_at_call 208;refine (CU.out _ _ _ (by first | exact hw1 | exact W1)).mono ?_;rintro e w2 ⟨v,rfl,hv,hw2⟩;have cc1:=HS.out _ hw2))
  all_goals
   go_wp2
   go_ret
   exact ⟨_,rfl,by rw [← E.out _ rfl];exact hv,W0.trans' hw2⟩
set_option maxHeartbeats 4000000 in
theorem free_any {w:World} {b bs:Nat} {ro:Option Addr} {rc:Nat} {L:List Sym} {R:List Ru} {lo:Option Addr} {l:List Ru} {n lc:Nat} (h:Cnd w b bs ro rc L R lo l n) (hu:Upto L R l 6 n) :
  Calls Tryz.prog 175 #[.agg #[.pointer (some ⟨b,0,none⟩),.slice lo l.length lc,.int .i64 (n:Int)]] w fun e w' => ∃ v,e=.returned v∧FltAt w' (askW L R l 6 n) v∧Same0 w w' := by
 obtain ⟨lb,off,ao,ac,bo,bc,x,rfl,hx,W0,CC0,HS,HA,CR,CU⟩:=h.opened lc
 have W1:Same0 (w.alloc (.cells #[.pointer (some ⟨b,0,none⟩),.slice (some ⟨lb,off,none⟩) l.length lc,.int .i64 (n:Int)] 236)) (w.alloc (.cells #[.pointer (some ⟨b,0,none⟩),.slice (some ⟨lb,off,none⟩) l.length lc,.int .i64 (n:Int)] 236)).drew:=Kept.drew (Kept.refl _ _)
 have f0:=field_left
 have f1:=field_right
 have hc:checkE L x.1=0∧checkE L x.2=0:=by
  have:=hu.1 1 (by omega) n h.hn
  simp only [ckB,askB,← hx,Bool.and_eq_true,decide_eq_true_eq] at this
  exact this
 have hm:x.1.length≤2000:=(checkE_zero.1 hc.1).1
 have hm2:x.2.length≤2000:=(checkE_zero.1 hc.2).1
 have hp:0<x.1.length:=isT_pos (checkE_zero.1 hc.1).2.2
 have CL:Hid (∀ ww z,Same0 (w.alloc (.cells #[.pointer (some ⟨b,0,none⟩),.slice (some ⟨lb,off,none⟩) l.length lc,.int .i64 (n:Int)] 236)) ww→Calls Tryz.prog 214 #[.slice ao x.1.length ac,.int .i64 z] ww fun e w' => e=.returned (.bool (decide (z∈x.1)))∧Same0 (w.alloc (.cells #[.pointer (some ⟨b,0,none⟩),.slice (some ⟨lb,off,none⟩) l.length lc,.int .i64 (n:Int)] 236)) w'):=fun ww z hk=>(contains_term (HA.out ww hk).1.at' hm z).mono (fun e w' ⟨q1,q2⟩=>⟨q1,by rw [q2];exact hk⟩)
 have CP:∀ ww z,Same0 (w.alloc (.cells #[.pointer (some ⟨b,0,none⟩),.slice (some ⟨lb,off,none⟩) l.length lc,.int .i64 (n:Int)] 236)) ww→Calls Tryz.prog 213 #[.int .i64 z,.pointer (some ⟨w.heap.size,0,none⟩)] ww fun e w' => e=.returned (.bool (freeB x.1 z))∧Same0 (w.alloc (.cells #[.pointer (some ⟨b,0,none⟩),.slice (some ⟨lb,off,none⟩) l.length lc,.int .i64 (n:Int)] 236)) w' := by
  intro ww z hw1
  clear W1 CC0 hx h hu hc
  obtain ⟨c1,c2,c3⟩:=HS.out _ hw1
  by_cases hz:z<0
  ·have F:Hid (freeB x.1 z = !decide (z∈x.1)):=by show _=_;simp [freeB,hz]
   generalize freeB x.1 z=q at *
   have CL' := fun ww=>CL.out ww z
   generalize decide (z∈x.1)=q2 at *
   go_enter Tryz.func213,Tryz.ntmps213
   go_wp2_with (first | (go_at_call 209;refine (CR.out _ (by exact hw1)).mono ?_;rintro e w1 ⟨rfl,hw1⟩;have cc1:=HS.out _ hw1) | (go_at_call 214;refine (CL' _ hw1).mono ?_;rintro e w1 ⟨rfl,hw1⟩))
   go_ret
   exact ⟨by rw [F.out];rfl,hw1⟩
  ·have F:Hid (freeB x.1 z=false):=by show _=_;simp [freeB,hz]
   go_enter Tryz.func213,Tryz.ntmps213
   go_wp2
   go_ret
   exact ⟨by rw [F.out];rfl,hw1⟩
 have CB:Hid (∀ ww,Same0 (w.alloc (.cells #[.pointer (some ⟨b,0,none⟩),.slice (some ⟨lb,off,none⟩) l.length lc,.int .i64 (n:Int)] 236)) ww→Calls Tryz.prog 212 #[.slice bo x.2.length bc,.func (.func 213) #[] #[.pointer (some ⟨w.heap.size,0,none⟩)]] ww fun e w' => e=.returned (.bool (x.2.any (freeB x.1)))∧Same0 (w.alloc (.cells #[.pointer (some ⟨b,0,none⟩),.slice (some ⟨lb,off,none⟩) l.length lc,.int .i64 (n:Int)] 236)) w'):=fun ww hk=>containsf_free CP (HA.out _ (Kept.refl _ _)).2.1.at' hm2 hk
 have E:Hid (∀ q:Bool,q=(!x.2.any (freeB x.1))→(if q=true then [(0, -1)] else [(76,(n:Int))])=askW L R l 6 n):=by
  intro q hq
  have e1:x.2.all (fun n=>!freeB x.1 n) = !x.2.any (freeB x.1):=by simp [List.all_eq_not_any_not]
  subst hq
  simp only [askW,ckB,askB,wrongL,← hx,e1]
  rfl
 clear h hu hx hc CP CL
 go_enter Tryz.func175,Tryz.ntmps175
 go_wp2
 go_region_held3 (fun w' => (w'.cell? ⟨b,0,none⟩=some (.pointer (some ⟨bs,0,none⟩))∧w'.cell? ⟨b,1,none⟩=some (.slice ro R.length rc))∧(w'.cell? ⟨w.heap.size,0,none⟩=some (.pointer (some ⟨b,0,none⟩))∧w'.cell? ⟨w.heap.size,1,none⟩=some (.slice (some ⟨lb,off,none⟩) l.length lc)∧w'.cell? ⟨w.heap.size,2,none⟩=some (.int .i64 (n:Int)))∧w'.cell? ⟨lb,off+n * 2,none⟩=some (.slice ao x.1.length ac)∧w'.cell? ⟨lb,off+n * 2+1,none⟩=some (.slice bo x.2.length bc)) (first | exact cc1 | exact CC0) (first | (go_at_call 209;refine (CR.out _ (by first | exact hw1 | exact W1)).mono ?_;rintro e w1 ⟨rfl,hw1⟩;have cc1:=HS.out _ hw1) | (go_at_call 212;refine (CB.out _ (by first | exact hw1 | exact W1)).mono ?_;rintro e w1 ⟨rfl,hw1⟩;have cc1:=HS.out _ hw1) | (go_at_call 208;refine (CU.out _ _ _ (by first | exact hw1 | exact W1)).mono ?_;rintro e w2 ⟨v,rfl,hv,hw2⟩;have cc1:=HS.out _ hw2))
 all_goals
  go_wp2
  go_ret
  exact ⟨_,rfl,by rw [← E.out _ rfl];exact hv,W0.trans' hw2⟩
set_option maxHeartbeats 1000000 in
theorem grow_any (w:World) (N:Nat) (hN:N≤1000) :
  Calls Tryz.prog 229 #[.slice none 0 0,.int .i64 (N:Int)] w fun e w' => ∃ v,e=.returned v∧w'.ownsRow w.heap.size 90 2 v 0 []∧Same0 w w' := by
 have i0:¬ (N:Int)<0:=by omega
 by_cases h0:N=0
 ·subst h0
  go_enter Tryz.func229,Tryz.ntmps229
  go_wp2
  go_ret
  exact ⟨_,rfl,World.ownsRow_nil _ _ _ _,Kept.refl _ _⟩
 ·obtain ⟨i,hi,hz0,hz1,hz2⟩:=info_parts info_rule
  have i1:(0:Int)<(N:Int):=by omega
  have hrun:=fun ty=>Lib.run_append_nil_zeros (P:=Tryz.prog) w 29 3 ty 90 i _ .i64 .i64 Tryz.underlying29 Tryz.underlying3 hi hz0 N (by omega) (by omega) (by omega) (by rw [hz2];omega)
  have hge:=grownCap_ge w N 0 90
  have hle:=grownCap_le_maxLen w N 0 90 (by unfold maxLen;omega)
  generalize grownCap w N 0 90=cap at *
  obtain ⟨Z,hZ⟩:∃ Z,Z=Builtin.zeroCells (Value.agg #[.slice none 0 0,.slice none 0 0]).cells N++Builtin.zeroCells (Value.agg #[.slice none 0 0,.slice none 0 0]).cells (cap-N):=⟨_,rfl⟩
  rw [← hZ] at hrun
  have hzs:Z.size=cap * 2:=by
   rw [hZ,Array.size_append,size_zeroCells,size_zeroCells]
   have:(Value.agg #[.slice none 0 0,.slice none 0 0]).cells.size=2:=rfl
   rw [this];omega
  have HR:Hid ((w.drew.alloc (.cells Z 90)).ownsRow w.heap.size 90 2 (.slice (some ⟨w.heap.size,0,none⟩) 0 cap) 0 []):=⟨rfl,.inr ⟨w.heap.size,cap,Z,rfl,Nat.le_refl _,heap_alloc_new w.drew _,Nat.zero_le _,hle,hzs,by simp⟩⟩
  have HK:Hid (Same0 w (w.drew.alloc (.cells Z 90))):=((Kept.refl _ w).drew).alloc _
  clear hZ hzs hi hz0 hz1 hz2 hge hle
  have j1:(0:Int)≤(cap:Int):=by omega
  go_enter Tryz.func229,Tryz.ntmps229
  go_wp2_with (first | (at_builtin;refine Lib.wpList_append_run _ rfl _ _ 29 3 rfl _ _ rfl rfl _ _ (hrun _) ?_))
  go_ret
  exact ⟨_,rfl,HR.out,HK.out⟩
theorem own_kept {w w1 w2:World} {base N:Nat} {v:Value} {vs:List Value} (hk:Same0 w w1) (hr:w1.ownsRow base 90 2 v N vs) (hb:w.heap.size≤base) (k2:Kept (fun k=>v.ownBlock=some k) w1 w2):Same0 w w2:=
 Kept.trans hk k2 (fun i hi e=>by have:=(hr.lt i e).1;omega)
set_option maxHeartbeats 4000000 in
theorem concat_any {w:World} {g:Nat} {ro:Option Addr} {rc:Nat} {R:List Ru} {lo:Option Addr} {lc:Nat} {M:List Ru} (hg:w.heap[g]? = some (.cells #[.slice ro R.length rc,.slice lo M.length lc] 29 (0,0))) (hR:RsAt w ro R) (hM:RsAt w lo M) (n1:ro=none→rc=0) (n2:lo=none→lc=0) (l1:R.length≤100) (l2:M.length≤100) :
  Calls Tryz.prog 215 #[.slice (some ⟨g,0,none⟩) 2 2] w fun e w' => ∃ vo vc,e=.returned (.slice vo (R++M).length vc)∧RsAt w' vo (R++M)∧Same0 w w' := by
 have C0:Hid (∀ ww,Same0 w ww→ww.cell? ⟨g,0,none⟩=some (.slice ro R.length rc)∧ww.cell? ⟨g,1,none⟩=some (.slice lo M.length lc)):=fun ww hk=>⟨cellAt (hk.at0 hg) 0,cellAt (hk.at0 hg) 1⟩
 obtain ⟨c0,c1⟩:=C0.out w (Kept.refl _ _)
 have G:=fun ww=>grow_any ww (R.length+M.length) (by omega)
 have e1:((R.length+M.length:Nat):Int)=(R.length:Int)+(M.length:Int):=by omega
 rw [e1] at G
 have N1:Hid (ro=none→rc=0∧R=[]):=hR.none n1
 have N2:Hid (lo=none→lc=0∧M=[]):=hM.none n2
 obtain ⟨us,hu,US⟩:=hR.src
 obtain ⟨ms,hm,MS⟩:=hM.src
 clear e1 hg n1 n2 hR hM
 go_enter Tryz.func215,Tryz.ntmps215
 go_wp2
 refine wp_loop_rounds 3 ?_
 rw [rounds_succ]
 go_wp2
 rw [rounds_succ]
 go_wp2
 rw [rounds_succ]
 go_wp2_with (first | (go_at_call 229;refine (G _).mono ?_;rintro e w1 ⟨v,rfl,hr,hk⟩))
 obtain ⟨vo,vc,rfl⟩:=row_shape hr
 obtain ⟨d0,d1⟩:=C0.out _ hk
 have z1:=hk.size
 clear c0 c1 G
 refine wp_loop_rounds 3 ?_
 rw [rounds_succ]
 go_wp2_with (first | (at_builtin;refine wpList_rules rfl _ _ rfl w.heap.size 0 [] _ rfl hr ro rc R us rfl hu (US.out _ hk) N1.out z1 (by omega) ?_;intro v2 w2 hr2 k2))
 have s2:=own_kept hk hr (Nat.le_refl _) k2
 obtain ⟨vo2,vc2,rfl⟩:=row_shape hr2
 obtain ⟨f0,f1⟩:=C0.out _ s2
 have z2:=s2.size
 clear d0 d1 z1 hr k2 hk
 rw [rounds_succ]
 go_wp2_with (first | (at_builtin;refine wpList_rules rfl _ _ rfl w.heap.size _ _ _ rfl hr2 lo lc M ms rfl hm (MS.out _ s2) N2.out z2 (by omega) ?_;intro v3 w3 hr3 k3))
 have s3:=own_kept s2 hr2 (Nat.le_refl _) k3
 obtain ⟨vo3,vc3,rfl⟩:=row_shape hr3
 obtain ⟨o3,c3,e3,r3,_,_⟩:=row_rules hr3 (by simpa using (hu.append hm).same s3)
 have E3:Hid (∃ vo vc,Value.slice vo3 (0+R.length+M.length) vc3=.slice vo (R++M).length vc∧RsAt w3 vo (R++M)∧Same0 w w3):=⟨o3,c3,e3,r3,s3⟩
 clear hr2 hr3 k3 e3 r3 s2
 rw [rounds_succ]
 go_wp2
 go_ret
 obtain ⟨vo,vc,q1,q2,q3⟩:=E3.out
 exact ⟨vo,vc,by rw [← q1];rfl,q2,q3⟩
end Go.Proofs.YtmjgnfkbnofjoaaGreatDoor
