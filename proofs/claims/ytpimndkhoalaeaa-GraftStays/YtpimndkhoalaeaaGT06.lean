import Derived.Test.YtpimndkhoalaeaaGT01
import Derived.Test.YtpimndkhoalaeaaGT02
import Derived.Test.YtpimndkhoalaeaaGT04
import Derived.Test.YtpimndkhoalaeaaGT05
namespace Go.Proofs.Ytpimndkhoalaeaa
set_option linter.unusedVariables false
def vstep (o:List Int) (x:Int):List Int:=if isV x=true∧¬ (-x)∈o then o ++ [-x] else o
def vs (o:List Int) (t:List Int):List Int:=t.foldl vstep o
def varsL (t:List Int):List Int:=vs [] t
theorem vs_snoc (o a:List Int) (x:Int):vs o (a ++ [x])=vstep (vs o a) x:=by simp [vs]
theorem vs_take {o t:List Int} {k:Nat} (h:k<t.length):vs o (t.take (k+1))=vstep (vs o (t.take k)) t[k]:=by
 rw [List.take_add_one,List.getElem?_eq_getElem h];exact vs_snoc _ _ _
theorem isV_iff {x:Int}:isV x=true ↔ -99≤x∧x ≤ -1:=by simp [isV]
theorem vs_len (o t:List Int):(vs o t).length≤o.length+t.length:=by
 induction t generalizing o with
 | nil=>simp [vs]
 | cons x r ih=>
  have:=ih (vstep o x)
  have h2:(vstep o x).length≤o.length+1:=by unfold vstep;split <;> simp
  simp only [vs,List.foldl_cons,List.length_cons] at *
  omega
def pl (o:List Int) (x:Int):Int:=if isV x=true then -((o.idxOf (-x):Int)+1) else x
end Go.Proofs.Ytpimndkhoalaeaa
namespace Go.Proofs.Ytpimndkhoalaeaa
set_option linter.unusedVariables false
open Go.RowKit
attribute [local go_sem ↓] Go.wp_at_zero Go.wp_at_succ
def inB (l:List Int) (n:Int):Bool:=decide (n∈l)
theorem vstep_yes {o:List Int} {x:Int} (h1:isV x=true) (h2:inB o (-x)=false):vstep o x=o ++ [-x]:=by
 rw [vstep,if_pos ⟨h1,by simpa [inB] using h2⟩]
theorem vstep_in {o:List Int} {x:Int} (h2:inB o (-x)=true):vstep o x=o:=by
 rw [vstep,if_neg (by simp [inB] at h2;simp [h2])]
theorem vstep_no {o:List Int} {x:Int} (h1:isV x=false):vstep o x=o:=by
 rw [vstep,if_neg (by simp [h1])]
theorem zeros_bool:Try.zeroCells167=Array.replicate 100 (.bool false):=by kernel_rfl
def MetAt (w:World) (A:Nat) (o:List Int):Prop:=∃ cs,w.heap[A]? = some (.cells cs 167 (0,0))∧cs.size=100∧∀ v:Nat,1≤v→v≤99→cs[v]? = some (.bool (inB o (v:Int)))
theorem met_new (w:World):MetAt (w.alloc (.cells Try.zeroCells167 167)) w.heap.size []:=by
 refine ⟨_,heap_alloc_new w _,by rw [zeros_bool];simp,fun v h1 h2=>?_⟩
 rw [zeros_bool,Array.getElem?_replicate,if_pos (by omega)]
 simp [inB]
theorem MetAt.kept {w w' : World} {A:Nat} {o:List Int} {S:Nat→Prop} (h:MetAt w A o) (hk:Kept S w w') (hn:¬ S A):MetAt w' A o:=by
 obtain ⟨cs,h1,h2⟩:=h
 exact ⟨cs,hk.at h1 hn,h2⟩
theorem MetAt.cell {w:World} {A:Nat} {o:List Int} (h:MetAt w A o) {v:Nat} (h1:1≤v) (h2:v≤99):w.cell? ⟨A,v,none⟩=some (.bool (inB o (v:Int)))∧w.frozen? ⟨A,v,none⟩=false:=by
 obtain ⟨cs,q1,q2,q3⟩:=h
 exact ⟨(cellAt q1 v).trans (q3 v h1 h2),frozenAt q1 v⟩
theorem MetAt.set {w:World} {A:Nat} {o:List Int} (h:MetAt w A o) {v:Nat} (h1:1≤v) (h2:v≤99):MetAt (w.setCell ⟨A,v,none⟩ (.bool true)) A (o ++ [(v:Int)]):=by
 obtain ⟨cs,q1,q2,q3⟩:=h
 refine ⟨_,setAt q1 v _,by simpa using q2,fun u g1 g2=>?_⟩
 rw [Array.getElem?_setIfInBounds]
 by_cases e:v=u
 ·subst e;rw [if_pos rfl,if_pos (by omega)];simp [inB]
 ·rw [if_neg e,q3 u g1 g2]
  congr 2
  simp [inB];omega
set_option maxHeartbeats 4000000 in
theorem tvars_any {w:World} {ao:Option Addr} {cap:Nat} {t:List Int} (ht:IntsAt w ao t) (hm:t.length * 8≤140737488351232) :
  Calls Try.prog 52 #[.slice ao t.length cap] w fun e w' => ∃ v,e=.returned v∧Row w.heap.size w' v (varsL t)∧Same0 w w' := by
 have M0:=met_new w
 have K0:Same0 w (w.alloc (.cells Try.zeroCells167 167)):=(Kept.refl _ w).alloc _
 go_enter Try.func52,Try.ntmps52
 go_wp2
 go_loopw [4,9] (fun ov i wr=>∃ k:Nat,k≤t.length∧i=.int .i64 (k:Int)∧Row w.heap.size wr ov (varsL (t.take k))∧MetAt wr w.heap.size (varsL (t.take k))∧ov.ownBlock≠some w.heap.size∧Same0 w wr) (fun _ i _=>t.length-(intOf i).toNat)
 case atStart=>exact ⟨0,Nat.zero_le _,rfl,World.ownsRow_nil _ _ _ _,M0,by simp [Value.ownBlock],K0⟩
 case round=>
  clear M0 K0
  obtain ⟨k,hk,rfl,hr,hM,hne,hs⟩:=hrel
  obtain ⟨oo,ocap,rfl⟩:=row_shape hr
  by_cases hlt:k<t.length
  ·obtain ⟨b,off,rfl,_,hc⟩:=(ht.same hs).get hlt
   have i1:(0:Int)≤(k:Int):=by omega
   have i2:(k:Int)<(t.length:Int):=by omega
   have E:Hid (varsL (t.take (k+1))=vstep (varsL (t.take k)) t[k]):=vs_take hlt
   have hl:=vs_len [] (t.take k)
   have hl2:(varsL (t.take k)).length≤t.length:=by simp at hl;unfold varsL;omega
   have cV:=fun w' => isVariable_any t[k] w'
   clear hl
   generalize hO:varsL (t.take k)=O at *
   generalize hX:t[k]=x at *
   cases hv:isV x with
   | false=>
    have E1:Hid (varsL (t.take (k+1))=O):=by rw [E.out];exact vstep_no hv
    simp only [hv] at cV
    go_wp2_with (first | (go_at_call 96;refine (cV _).mono ?_;rintro e wr ⟨rfl,rfl⟩))
    have hrE:Row w.heap.size wr (.slice oo O.length ocap) (varsL (t.take (k+1))):=by rw [E1.out];exact hr
    have hME:MetAt wr w.heap.size (varsL (t.take (k+1))):=by rw [E1.out];exact hM
    exact ⟨⟨k+1,by omega,by go_num,hrE,hME,hne,hs⟩,by simp [intOf];omega⟩
   | true=>
    simp only [hv] at cV
    have hx:=isV_iff.1 hv
    obtain ⟨v,rfl⟩:∃ v:Nat,x = -(v:Int):=⟨(-x).toNat,by omega⟩
    have hv1:1≤v:=by omega
    have hv2:v≤99:=by omega
    obtain ⟨q1,q2⟩:=hM.cell hv1 hv2
    have j1:(0:Int)≤(v:Int):=by omega
    have j2:(v:Int)<100:=by omega
    cases hin:inB O (v:Int) with
    | true=>
     have E1:Hid (varsL (t.take (k+1))=O):=by rw [E.out];exact vstep_in (by simpa using hin)
     rw [hin] at q1
     go_wp2_with (first | (go_at_call 96;refine (cV _).mono ?_;rintro e wr ⟨rfl,rfl⟩))
     have hrE:Row w.heap.size wr (.slice oo O.length ocap) (varsL (t.take (k+1))):=by rw [E1.out];exact hr
     have hME:MetAt wr w.heap.size (varsL (t.take (k+1))):=by rw [E1.out];exact hM
     exact ⟨⟨k+1,by omega,by go_num,hrE,hME,hne,hs⟩,by simp [intOf];omega⟩
    | false=>
     have E1:Hid (varsL (t.take (k+1))=O ++ [(v:Int)]):=by show _=_;rw [E.out,vstep_yes hv (by simpa using hin)];simp
     rw [hin] at q1
     have hb8:(O.length+1) * 8≤140737488355328:=by omega
     have hMs:=hM.set hv1 hv2
     have ks:Kept (fun k=>k=w.heap.size) wr (wr.setCell ⟨w.heap.size,v,none⟩ (.bool true)):=Kept.setCell (S:=fun k=>k=w.heap.size) (p:=⟨w.heap.size,v,none⟩) (Kept.refl _ _) (fun _=>rfl) _
     have hrs:Row w.heap.size (wr.setCell ⟨w.heap.size,v,none⟩ (.bool true)) (.slice oo O.length ocap) O:=ks.row hr (fun k e e' => hne (by rw [e,e']))
     have hss:Same0 w (wr.setCell ⟨w.heap.size,v,none⟩ (.bool true)):=hs.own (Nat.le_refl _) _
     have hsz:=hss.size
     have hAl:w.heap.size<wr.heap.size:=by obtain ⟨cs,q,_⟩:=hM;exact lt_of_at q
     have E3:Hid ((wr.setCell ⟨w.heap.size,v,none⟩ (.bool true)).heap.size=wr.heap.size):=by show _=_;simp [World.setCell]
     clear hM hr
     go_wp2_with (first | (go_at_call 96;refine (cV _).mono ?_;rintro e wr ⟨rfl,rfl⟩) | (at_builtin;refine wpList_push rfl _ _ 23 rfl Try.underlying23 w.heap.size O (.slice oo O.length ocap) rfl hrs (v:Int) (by rw [E3.out];rfl) hsz hb8 ?_;intro g gcap w4 hr4 hk4 hat4;have hs4:=hss.onto hrs hk4))
     have hM4:MetAt w4 w.heap.size (O ++ [(v:Int)]):=hMs.kept hk4 hne
     have hne4:Value.ownBlock (.slice (some ⟨g,0,none⟩) (O.length+1) gcap)≠some w.heap.size:=by
      simp only [Value.ownBlock,ne_eq,Option.some.injEq]
      rcases hat4 with e | e
      ·intro e'; exact hne (by rw [e,e'])
      ·have e3:=E3.out
       omega
     rw [← E1.out] at hr4 hM4
     go_roundw
     case rel=>first | exact ⟨k+1,by omega,by go_num,hr4,hM4,hne4,hs4⟩ | ((repeat apply Exists.intro);exact ⟨⟨k+1,by omega,by go_num,hr4,hM4,hne4,hs4⟩,rfl⟩)
     case measure=>simp [intOf];omega
  ·obtain rfl:k=t.length:=by omega
   rw [List.take_length] at hr
   go_wp2
   go_ret
   refine ⟨_,rfl,?_,hs⟩
   simpa using hr
end Go.Proofs.Ytpimndkhoalaeaa
namespace Go.Proofs.Ytpimndkhoalaeaa
set_option maxRecDepth 100000
set_option linter.unusedVariables false
open Go.RowKit
attribute [local go_sem ↓] Go.wp_at_zero Go.wp_at_succ
set_option maxHeartbeats 2000000 in
theorem isOne_any {w:World} {b:Nat} {l:List Tg} (p:TgB w b l) (cap:Nat) (ho:∀ x∈l,0≤x.2.2.1∧x.2.2.1≤6) (hl:l.length≤10000000000000) :
  Calls Try.prog 63 #[.slice (some ⟨b,0,none⟩) l.length cap] w fun e w' => e=.returned (.bool (oneT 1 l))∧Same0 w w' := by
 have HP:Hid (∀ wr,Same0 w wr→TgB wr b l):=fun wr hk=>p.same hk
 have HO:Hid (∀ x∈l,0≤x.2.2.1∧x.2.2.1≤6):=ho
 clear p ho
 go_enter Try.func63,Try.ntmps63
 go_wp2
 go_loopw [3,8] (fun s3 s8 wr=>∃ k m:Nat,k≤l.length∧s3=.int .i64 (m:Int)∧s8=.int .i64 (k:Int)∧m≤6 * k+1∧Hid (oneT 1 l=oneT m (l.drop k))∧Same0 w wr) (fun _ s8 _=>l.length-(intOf s8).toNat)
 case atStart=>exact ⟨0,1,Nat.zero_le _,rfl,rfl,by omega,by simp [Hid],Kept.refl _ _⟩
 case round=>
  obtain ⟨k,m,hk,rfl,rfl,hm,hd,hs⟩:=hrel
  by_cases hlt:k<l.length
  ·obtain ⟨c0,c1,c2,c3⟩:=(HP.out wr hs).get hlt
   have hx:=HO.out _ (List.getElem_mem hlt)
   have hdr:l.drop k=l[k] :: l.drop (k+1):=List.drop_eq_getElem_cons hlt
   have i1:(0:Int)≤(k:Int):=by omega
   have i2:(k:Int)<(l.length:Int):=by omega
   have hd' : Hid (m=0→oneT 1 l=false):=fun e=>by have:=hd.out;rw [hdr,e] at this;rw [this];rfl
   have hd2:Hid (∀ q,m=q+1→oneT 1 l=oneT (q+arT l[k]) (l.drop (k+1))):=fun q e=>by have:=hd.out;rw [hdr,e] at this;rw [this];rfl
   clear hdr hd
   obtain ⟨a,ha⟩:∃ a,arT l[k]=a:=⟨_,rfl⟩
   have ea:l[k].2.2.1=(a:Int):=by unfold arT at ha;omega
   have ha6:a≤6:=by omega
   have HA:Hid (arT l[k]=a):=ha
   rw [ea] at c2
   clear ea ha hx
   generalize l[k].1=y0 at c0
   generalize l[k].2.1=y1 at c1
   generalize l[k].2.2.2=y3 at c3
   cases m with
   | zero=>
    have H:Hid (oneT 1 l=false):=hd'.out rfl
    go_wp2
    go_ret
    exact ⟨by rw [H.out];rfl,hs.trans' ((Kept.refl _ wr).alloc _)⟩
   | succ q=>
    have i3:¬ ((q:Int)+1=0):=by omega
    have H:Hid (oneT 1 l=oneT (q+a) (l.drop (k+1))):=by have:=hd2.out q rfl;rw [HA.out] at this;exact this
    go_wp2
    refine ⟨⟨k+1,q+a,by omega,by go_num,by go_num,by omega,H,hs.trans' ((Kept.refl _ wr).alloc _)⟩,by simp [intOf];omega⟩
  ·obtain rfl:k=l.length:=by omega
   have hd' := hd.out
   rw [List.drop_length] at hd'
   cases m with
   | zero=>
    have H:Hid (oneT 1 l=true):=by show _=_;rw [hd'];rfl
    clear hd' hd
    go_wp2
    go_ret
    exact ⟨by rw [H.out];rfl,hs⟩
   | succ q=>
    have H:Hid (oneT 1 l=false):=by show _=_;rw [hd'];rfl
    have i3:¬ ((q:Int)+1=0):=by omega
    clear hd' hd
    go_wp2
    go_ret
    exact ⟨by rw [H.out];rfl,hs⟩
set_option maxHeartbeats 2000000 in
theorem thingsT_any {n b:Nat} {w:World} {L:List Sym} (h:Sg n w b L) {ao:Option Addr} {cap:Nat} {t:List Int} (ht:IntsAt w ao t) (hm:t.length≤2000) (ho:∀ x∈t,0≤x∧x<(L.length:Int)) :
  Calls Try.prog 56 #[.pointer (some ⟨b,0,none⟩),.slice ao t.length cap] w fun e w' => ∃ tb,e=.returned (.slice (some ⟨tb,0,none⟩) t.length t.length)∧w.heap.size≤tb∧TgB w' tb (t.map (tgT L))∧Same0 w w' := by
 obtain ⟨i0,hi0,hz0,hz1,hz2⟩:=info_parts info_thing
 have HS:Hid (∀ wr,Same0 w wr→Sg n wr b L):=fun wr hk=>h.same hk
 have HT:Hid (∀ wr,Same0 w wr→IntsAt wr ao t):=fun wr hk=>ht.same hk
 have HO:Hid (∀ x∈t,0≤x∧x<(L.length:Int)):=ho
 clear h ht ho
 go_enter Try.func56,Try.ntmps56
 go_wp2_with (first | (at_make;refine wpList_make_full _ rfl _ _ 127 rfl w.heap.size 172 i0 _ 4 Try.underlying127 hi0 hz0 hz1 _ _ _ _ t.length rfl rfl rfl rfl (by rw [hz2];omega) (by unfold maxLen;omega) (Nat.le_refl _) ?_;intro w1 hown hgrow))
 have K1:Same0 w w1:=Same0.grown (Kept.refl _ w) hgrow
 have HQ:Hid (TgQ w1 w.heap.size t.length []):=TgQ.start hown
 clear hown hgrow
 go_loopw [13] (fun s13 wr=>∃ k:Nat,k≤t.length∧s13=.int .i64 (k:Int)∧Hid (TgQ wr w.heap.size t.length ((t.take k).map (tgT L)))∧Same0 w wr) (fun s13 _=>t.length-(intOf s13).toNat)
 case atStart=>exact ⟨0,Nat.zero_le _,rfl,by simpa using HQ,K1⟩
 case round=>
  clear HQ K1
  obtain ⟨k,hk,rfl,hq,hs⟩:=hrel
  by_cases hlt:k<t.length
  ·obtain ⟨xb,off,rfl,hxb,hxc⟩:=(HT.out wr hs).get hlt
   have i1:(0:Int)≤(k:Int):=by omega
   have i2:(k:Int)<(t.length:Int):=by omega
   have hx:=HO.out _ (List.getElem_mem hlt)
   obtain ⟨s,es⟩:∃ s:Nat,t[k]=(s:Int):=⟨t[k].toNat,by omega⟩
   have C:=newT_yes (HS.out wr hs) s (by omega)
   rw [es] at hxc
   have hlen:((t.take k).map (tgT L)).length=k:=by simp;omega
   have NX:Hid (∀ w2,Same0 wr w2→(∃ u0 u1 u2 u3,w2.cell? ⟨w.heap.size,k * 4,none⟩=some u0∧w2.cell? ⟨w.heap.size,k * 4+1,none⟩=some u1∧w2.cell? ⟨w.heap.size,k * 4+2,none⟩=some u2∧w2.cell? ⟨w.heap.size,k * 4+3,none⟩=some u3∧∀ o,w2.frozen? ⟨w.heap.size,o,none⟩=false)∧TgQ (put4 w2 w.heap.size (k * 4) (.bool true) (.int .i64 (s:Int)) (.int .i64 (arN L (s:Int):Int)) (.int .i64 0)) w.heap.size t.length ((t.take (k+1)).map (tgT L))∧Same0 w (put4 w2 w.heap.size (k * 4) (.bool true) (.int .i64 (s:Int)) (.int .i64 (arN L (s:Int):Int)) (.int .i64 0))):=fun w2 k2=>by
    have q2:=hq.out.same k2
    have th:=q2.there (by omega)
    have sn:=q2.snoc (by omega) (tgT L (s:Int))
    rw [hlen] at th sn
    refine ⟨th,?_,(hs.trans' k2).trans (put4_kept _ _ _ _ _ _ _) (fun i hi e=>by omega)⟩
    rw [List.take_succ_eq_append_getElem hlt,List.map_append,es]
    exact sn
   clear hx es hlen hq
   go_wp2_with (first | (go_at_call 99;refine C.mono ?_;rintro e w2 ⟨rfl,k2⟩;obtain ⟨⟨u0,u1,u2,u3,d0,d1,d2,d3,fz⟩,n1,n2⟩:=NX.out w2 k2;have f0:=fz (k * 4);have f1:=fz (k * 4+1);have f2:=fz (k * 4+2);have f3:=fz (k * 4+3);simp only [tgV,tgT]))
   refine ⟨⟨k+1,by omega,by go_num,n1,n2⟩,by simp [intOf];omega⟩
  ·obtain rfl:k=t.length:=by omega
   have hq' : TgB wr w.heap.size (t.map (tgT L)):=by
    have:=hq.out
    rw [List.take_length] at this
    exact TgQ.all (by simpa using this)
   clear hq
   go_wp2
   go_ret
   exact ⟨w.heap.size,rfl,Nat.le_refl _,hq', hs⟩
theorem vs_keeps:∀ (t o:List Int),o≠[]→vs o t≠[]
 | [],o,h=>h
 | x :: r,o,h=>by
  show vs (vstep o x) r≠[]
  refine vs_keeps r _ ?_
  unfold vstep
  split
  ·simp
  ·exact h
theorem vars_none:∀ {t o:List Int},(∀ x∈t,0≤x)→vs o t=o
 | [],o,_=>rfl
 | x :: r,o,h=>by
  show vs (vstep o x) r=o
  have hx:=h x (List.mem_cons_self ..)
  have e:vstep o x=o:=by
   unfold vstep
   rw [if_neg]
   intro q
   have:=q.1
   simp [isV] at this
   omega
  rw [e]
  exact vars_none (fun y hy=>h y (List.mem_cons_of_mem _ hy))
theorem vars_some:∀ {t:List Int},(∀ x∈t, -99≤x)→¬ (∀ x∈t,0≤x)→vs [] t≠[]
 | [],_,h=>absurd (by simp) h
 | x :: r,h1,h2=>by
  show vs (vstep [] x) r≠[]
  by_cases hx:0≤x
  ·have e:vstep [] x=[]:=by
    unfold vstep
    rw [if_neg]
    intro q
    have:=q.1
    simp [isV] at this
    omega
   rw [e]
   refine vars_some (fun y hy=>h1 y (List.mem_cons_of_mem _ hy)) (fun q=>h2 (fun y hy=>?_))
   rcases List.mem_cons.1 hy with rfl | hy
   ·exact hx
   ·exact q y hy
  ·refine vs_keeps r _ ?_
   have:=h1 x (List.mem_cons_self ..)
   unfold vstep
   rw [if_pos]
   ·simp
   ·refine ⟨?_,by simp⟩
    simp [isV];omega
theorem one_term (L:List Sym):∀ (t:List Int) (k:Nat),need L k t=some 0→oneT k (t.map (tgT L))=true
 | [],0,_=>rfl
 | [],k+1,h=>by simp [need] at h
 | x :: r,0,h=>by simp [need] at h
 | x :: r,k+1,h=>by
  have e:arT (tgT L x)=arN L x:=by simp [arT,tgT]
  show oneT (k+arT (tgT L x)) (r.map (tgT L))=true
  rw [e]
  exact one_term L r _ (by simpa [need] using h)
theorem new_term (L:List Sym) (t:List Int):newN (t.map (tgT L))=t.length:=by
 unfold newN
 rw [List.countP_eq_length.2 (fun x hx=>by obtain ⟨y,_,rfl⟩:=List.mem_map.1 hx;rfl)]
 simp
theorem check_zero {L:List Sym} {t:List Int} (h:checkE L t=0):t.length≤2000∧(∀ x∈t,x<(L.length:Int) ∧ -99≤x)∧need L 1 t=some 0:=by
 unfold checkE at h
 split at h
 ·cases h
 ·split at h
  ·rename_i q1 q2;exact absurd h q2
  ·rename_i q1 q2
   split at h
   ·rename_i q3
    exact ⟨by omega,badE_zero.1 (by simpa using q2),q3⟩
   ·cases h
theorem ok_term {L:List Sym} (ha:Ars L) {t:List Int} (h:∀ x∈t,0≤x) (m:Nat):∀ x∈t.map (tgT L),TgOk m x:=fun x hx=>by
 obtain ⟨y,hy,rfl⟩:=List.mem_map.1 hx
 have h1:=arN_le ha y
 exact ⟨by simp [tgT],by simp [tgT];omega,fun _=>h y hy,fun q=>by cases q⟩
set_option maxHeartbeats 2000000 in
theorem load_bad {n b:Nat} {w:World} {L:List Sym} (hs:Sg n w b L) (ha:Addr) {ao:Option Addr} {cap:Nat} {t:List Int} (ht:IntsAt w ao t) (hm:t.length * 8≤140737488351232) (hc:checkE L t≠0) :
  Calls Try.prog 16 #[.pointer (some ⟨b,0,none⟩),.pointer (some ha),.slice ao t.length cap] w fun e w' => ∃ v,e=.returned (.tuple #[.int .i64 0,v])∧FtAt w.heap.size w' v 130 0 (checkE L t)∧Same0 w w' := by
 have C:=check_any (cap:=cap) hs ht (by unfold maxLen;omega)
 have HW:Hid (whyV (checkE L t)=.iface 30 (.int .i64 (checkE L t))):=by show _=_;unfold whyV;rw [if_neg hc]
 generalize checkE L t=ce at *
 clear hs ht
 go_enter Try.func16,Try.ntmps16
 go_wp2_with (first | (go_at_call 51;refine C.mono ?_;rintro e w1 ⟨rfl,k1⟩))
 go_ret2
 exact ⟨_,rfl,⟨w1.heap.size,rfl,k1.size,by rw [HW.out];exact heap_alloc_new w1 _⟩,k1.trans' ((Kept.refl _ w1).alloc _)⟩
set_option maxHeartbeats 2000000 in
theorem load_var {n b:Nat} {w:World} {L:List Sym} (hs:Sg n w b L) (ha:Addr) {ao:Option Addr} {cap:Nat} {t:List Int} (ht:IntsAt w ao t) (hm:t.length * 8≤140737488351232) (hc:checkE L t=0) (hv:¬ (∀ x∈t,0≤x)) :
  Calls Try.prog 16 #[.pointer (some ⟨b,0,none⟩),.pointer (some ha),.slice ao t.length cap] w fun e w' => ∃ v,e=.returned (.tuple #[.int .i64 0,v])∧FtAt w.heap.size w' v 130 0 0∧Same0 w w' := by
 have C:=check_any (cap:=cap) hs ht (by unfold maxLen;omega)
 rw [hc] at C
 obtain ⟨_,h2,_⟩:=check_zero hc
 have HN:Hid (varsL t≠[]):=vars_some (fun x hx=>(h2 x hx).2) hv
 have HV:Hid (∀ w1,Same0 w w1→Calls Try.prog 52 #[.slice ao t.length cap] w1 fun e w' => ∃ v,e=.returned v∧Row w1.heap.size w' v (varsL t)∧Same0 w1 w'):=fun w1 k1=>tvars_any (ht.same k1) hm
 clear hs ht hc h2 hv
 go_enter Try.func16,Try.ntmps16
 go_wp2_with (first
  | (go_at_call 51;refine C.mono ?_;rintro e w1 ⟨rfl,k1⟩)
  | (go_at_call 52;refine (HV.out w1 k1).mono ?_;rintro e w2 ⟨v,rfl,hr,k2⟩;obtain ⟨vo,vc,rfl⟩:=row_shape hr;have i1:(0:Int)<((varsL t).length:Int):=(by have:=List.length_pos_iff.2 HN.out;omega)))
 go_ret2
 exact ⟨_,rfl,⟨w2.heap.size,rfl,Nat.le_trans k1.size k2.size,heap_alloc_new w2 _⟩,(k1.trans' k2).trans' ((Kept.refl _ w2).alloc _)⟩
set_option maxHeartbeats 2000000 in
theorem load_full {B:Nat→Prop} {n b h g room:Nat} {w:World} {L:List Sym} {N:List Nd} (hs:Sg n w b L) (p:HpB B w h g room N) {ao:Option Addr} {cap:Nat} {t:List Int} (ht:IntsAt w ao t) (hm:t.length * 8≤140737488351232) (hc:checkE L t=0) (hv:∀ x∈t,0≤x) (hf:¬ N.length+t.length≤room) :
  Calls Try.prog 16 #[.pointer (some ⟨b,0,none⟩),.pointer (some ⟨h,0,none⟩),.slice ao t.length cap] w fun e w' => ∃ v,e=.returned (.tuple #[.int .i64 0,v])∧FtAt w.heap.size w' v 131 0 111∧Same0 w w' := by
 have C:=check_any (cap:=cap) hs ht (by unfold maxLen;omega)
 rw [hc] at C
 have hvr:varsL t=[]:=vars_none hv
 have HV:Hid (∀ w1,Same0 w w1→Calls Try.prog 52 #[.slice ao t.length cap] w1 fun e w' => ∃ v,e=.returned v∧Row w1.heap.size w' v []∧Same0 w1 w'):=fun w1 k1=>by have:=tvars_any (cap:=cap) (ht.same k1) hm;rw [hvr] at this;exact this
 have HR:Hid (∀ w1,Same0 w w1→Calls Try.prog 53 #[.pointer (some ⟨h,0,none⟩),.int .i64 (t.length:Int)] w1 fun e w' => e=.returned (.bool false)∧Same0 w1 w'):=fun w1 k1=>by have:=hasRoom_any (p.same k1) t.length;rw [show decide (N.length+t.length≤room)=false by simpa using hf] at this;exact this
 clear hs ht hc hvr hv p hf
 go_enter Try.func16,Try.ntmps16
 go_wp2_with (first
  | (go_at_call 51;refine C.mono ?_;rintro e w1 ⟨rfl,k1⟩)
  | (go_at_call 52;refine (HV.out w1 k1).mono ?_;rintro e w2 ⟨v,rfl,hr,k2⟩;obtain ⟨vo,vc,rfl⟩:=row_shape hr;simp only [List.length_nil])
  | (go_at_call 53;refine (HR.out w2 (k1.trans' k2)).mono ?_;rintro e w3 ⟨rfl,k3⟩)
  | (go_at_call 54;refine (full_any w3).mono ?_;rintro e w4 ⟨v4,rfl,hf4,k4⟩))
 go_ret2
 obtain ⟨b4,e4,l4,q4⟩:=hf4
 exact ⟨_,rfl,⟨b4,e4,Nat.le_trans ((k1.trans' k2).trans' k3).size l4,q4⟩,((k1.trans' k2).trans' k3).trans' k4⟩
set_option maxHeartbeats 2000000 in
theorem load_yes {B:Nat→Prop} {n b h g room:Nat} {w:World} {L:List Sym} {N:List Nd} (hs:Sg n w b L) (p:HpB B w h g room N) {ao:Option Addr} {cap:Nat} {t:List Int} (ht:IntsAt w ao t) (hc:checkE L t=0) (hv:∀ x∈t,0≤x) (hf:N.length+t.length≤room) :
  Calls Try.prog 16 #[.pointer (some ⟨b,0,none⟩),.pointer (some ⟨h,0,none⟩),.slice ao t.length cap] w fun e w' => ∃ a:Nat,e=.returned (.tuple #[.int .i64 (a:Int),.nilIface])∧(layF N (t.map (tgT L))).2=[(a:Int)]∧HpB (fun b=>B b∨w.heap.size≤b) w' h g room (layF N (t.map (tgT L))).1∧Kept (fun k=>k=h∨k=g) w w' := by
 obtain ⟨h1,h2,h3⟩:=check_zero hc
 have C:=check_any (cap:=cap) hs ht (by unfold maxLen;omega)
 rw [hc] at C
 have hvr:varsL t=[]:=vars_none hv
 have HV:Hid (∀ w1,Same0 w w1→Calls Try.prog 52 #[.slice ao t.length cap] w1 fun e w' => ∃ v,e=.returned v∧Row w1.heap.size w' v []∧Same0 w1 w'):=fun w1 k1=>by have:=tvars_any (cap:=cap) (ht.same k1) (by omega);rw [hvr] at this;exact this
 have HR:Hid (∀ w1,Same0 w w1→Calls Try.prog 53 #[.pointer (some ⟨h,0,none⟩),.int .i64 (t.length:Int)] w1 fun e w' => e=.returned (.bool true)∧Same0 w1 w'):=fun w1 k1=>by have:=hasRoom_any (p.same k1) t.length;rw [show decide (N.length+t.length≤room)=true by simpa using hf] at this;exact this
 have HT:Hid (∀ w1,Same0 w w1→Calls Try.prog 56 #[.pointer (some ⟨b,0,none⟩),.slice ao t.length cap] w1 fun e w' => ∃ tb,e=.returned (.slice (some ⟨tb,0,none⟩) t.length t.length)∧w1.heap.size≤tb∧TgB w' tb (t.map (tgT L))∧Same0 w1 w'):=fun w1 k1=>thingsT_any (hs.same k1) (ht.same k1) h1 (fun x hx=>⟨hv x hx,(h2 x hx).1⟩)
 have HL:Hid (∀ w1 tb,Same0 w w1→TgB w1 tb (t.map (tgT L))→Calls Try.prog 55 #[.pointer (some ⟨h,0,none⟩),.slice (some ⟨tb,0,none⟩) t.length t.length] w1 fun e w' => ∃ a:Nat,e=.returned (.int .i64 (a:Int))∧(layF N (t.map (tgT L))).2=[(a:Int)]∧HpB (fun b=>B b∨w1.heap.size≤b) w' h g room (layF N (t.map (tgT L))).1∧Kept (fun k=>k=h∨k=g) w1 w'):=fun w1 tb k1 pt=>by
  have:=lay_any (p.same k1) t.length pt (one_term L t 1 h3) (ok_term hs.2 hv N.length) (by rw [new_term];exact hf) (by simp;omega)
  rw [List.length_map] at this
  exact this
 clear hs ht hc hvr hv p hf h2 h3
 go_enter Try.func16,Try.ntmps16
 go_wp2_with (first
  | (go_at_call 51;refine C.mono ?_;rintro e w1 ⟨rfl,k1⟩)
  | (go_at_call 52;refine (HV.out w1 k1).mono ?_;rintro e w2 ⟨v,rfl,hr,k2⟩;obtain ⟨vo,vc,rfl⟩:=row_shape hr;simp only [List.length_nil])
  | (go_at_call 53;refine (HR.out w2 (k1.trans' k2)).mono ?_;rintro e w3 ⟨rfl,k3⟩)
  | (go_at_call 56;refine (HT.out w3 ((k1.trans' k2).trans' k3)).mono ?_;rintro e w4 ⟨tb,rfl, -,pt,k4⟩)
  | (go_at_call 55;refine (HL.out w4 tb (((k1.trans' k2).trans' k3).trans' k4) pt).mono ?_;rintro e w5 ⟨a,rfl,ea,hp,k5⟩))
 go_ret2
 have kk:=((k1.trans' k2).trans' k3).trans' k4
 exact ⟨a,rfl,ea,hp.mono (fun q _ _ e=>e.imp id (fun e=>Nat.le_trans kk.size e)),(kk.mono (S' := fun k=>k=h∨k=g) (fun _ _ f=>f.elim)).trans k5 (fun _ _ e=>e)⟩
def BdY (L:List Sym) (N:List Nd) (room:Nat) (R:List (List (Int × List Int))) (rule node:Int) (l:List Tg):Prop:=
 ∃ (i j top:Nat) (hi:i<R.length),rule=(i:Int)∧node=(j:Int)∧Res N j top∧AllP L N (top:Int) R[i] l∧oneT 1 l=true∧N.length+newN l≤room
def BdE (L : List Sym) (N : List Nd) (room : Nat) (R : List (List (Int × List Int))) (rule node : Int) (c a y : Int) : Prop :=
  (¬ (0 ≤ rule ∧ rule < (R.length : Int)) ∧ c = 132 ∧ a = 0 ∧ y = 91) ∨
  ((0 ≤ rule ∧ rule < (R.length : Int)) ∧ ¬ (0 ≤ node ∧ node < (N.length : Int)) ∧ c = 132 ∧ a = 0 ∧ y = 112) ∨
  ∃ (i j top : Nat) (hi : i < R.length), rule = (i : Int) ∧ node = (j : Int) ∧ Res N j top ∧
    ((∃ k cc, BadP L N (top : Int) R[i] k cc ∧ c = 132 ∧ a = (k : Int) ∧ y = if cc = 14 then 14 else 0) ∨
     (∃ l, AllP L N (top : Int) R[i] l ∧ ((oneT 1 l = false ∧ c = 130 ∧ a = 0 ∧ y = 0) ∨ (oneT 1 l = true ∧ ¬ N.length + newN l ≤ room ∧ c = 131 ∧ a = 0 ∧ y = 111))))
def BldOut (B:Nat→Prop) (L:List Sym) (N:List Nd) (room h g:Nat) (R:List (List (Int × List Int))) (rule node:Int) (w:World) (e:Ending) (w' : World):Prop:=
 (∃ v c a y,e=.returned (.tuple #[.int .i64 0,v])∧FtAt w.heap.size w' v c a y∧BdE L N room R rule node c a y∧Same0 w w') ∨
 (∃ (l:List Tg) (a:Nat),e=.returned (.tuple #[.int .i64 (a:Int),.nilIface])∧BdY L N room R rule node l∧(layF N l).2=[(a:Int)]∧HpB (fun b=>B b∨w.heap.size≤b) w' h g room (layF N l).1∧Kept (fun k=>k=h∨k=g) w w')
theorem PtR.ok {L:List Sym} (ha:Ars L) {N:List Nd} {z:Int} (hz:0≤z∧z<(N.length:Int)) {p:Int × List Int} {x:Tg} (h:PtR L N z p x 0):TgOk N.length x∧(x.1=decide (0≤p.1)):=by
 rcases h with ⟨h1,h2,rfl,_⟩ | ⟨_,_,e⟩ | ⟨_,_,e⟩ | ⟨_,_,_,e⟩ | ⟨h1,y,h2,h3,rfl,_⟩
 ·have:=arN_le ha p.1
  exact ⟨⟨by simp [tgT],by simp [tgT];omega,fun _=>h1,fun q=>by cases q⟩,by simp [tgT,h1]⟩
 ·cases e
 ·cases e
 ·cases e
 ·have:=LdR.range (.inr hz) h2
  exact ⟨⟨by simp,by simp,fun q=>(by cases q),fun _=>⟨rfl,by simp only;omega,by simp only;omega⟩⟩,by rw [h1];simp⟩
theorem AllP.ok {L:List Sym} (ha:Ars L) {N:List Nd} {z:Int} (hz:0≤z∧z<(N.length:Int)) {Q:List (Int × List Int)} {l:List Tg} (h:AllP L N z Q l):∀ x∈l,TgOk N.length x:=fun x hx=>by
 obtain ⟨i,hi,rfl⟩:=List.mem_iff_getElem.1 hx
 exact (PtR.ok ha hz (h.2 i (by have:=h.1;omega) hi)).1
theorem AllP.count {L:List Sym} (ha:Ars L) {N:List Nd} {z:Int} (hz:0≤z∧z<(N.length:Int)):∀ {Q:List (Int × List Int)} {l:List Tg},AllP L N z Q l→newN l=wtG Q
 | [],[],_=>rfl
 | [],x :: l,h=>by have:=h.1;simp at this
 | p :: Q,[],h=>by have:=h.1;simp at this
 | p :: Q,x :: l,h=>by
  have ih:=AllP.count ha hz (Q:=Q) (l:=l) ⟨by have:=h.1;simpa using this,fun i h1 h2=>h.2 (i+1) (by simp;omega) (by simp;omega)⟩
  have h0:=(PtR.ok ha hz (h.2 0 (by simp) (by simp))).2
  simp only [List.getElem_cons_zero] at h0
  unfold newN wtG at *
  rw [List.countP_cons,List.countP_cons,ih,h0]
set_option maxHeartbeats 4000000 in
theorem build_any {B:Nat→Prop} {n sb:Nat} {L:List Sym} {w:World} {h g room:Nat} {N:List Nd} (hs:Sg n w sb L) (p:HpB B w h g room N) {ro:Option Addr} {rc:Nat} {R:List (List (Int × List Int))} (hR:RtAt w ro R) (io po eo:Option Addr) (il ic pl pc el ec:Nat) (rule node:Int) :
  Calls Try.prog 22 #[.pointer (some ⟨sb,0,none⟩),.agg #[.slice io il ic,.slice po pl pc,.slice eo el ec,.slice ro R.length rc],.pointer (some ⟨h,0,none⟩),.int .i64 rule,.int .i64 node] w fun e w' => BldOut B L N room h g R rule node w e w' := by
 obtain ⟨W0,hW0⟩:∃ W0,W0=w.alloc (.cells #[.slice io il ic,.slice po pl pc,.slice eo el ec,.slice ro R.length rc] 58):=⟨_,rfl⟩
 have k0:Same0 w W0:=by rw [hW0];exact (Kept.refl _ w).alloc _
 have h0:W0.heap[w.heap.size]? = some (.cells #[.slice io il ic,.slice po pl pc,.slice eo el ec,.slice ro R.length rc] 58 (0,0)):=by rw [hW0];exact heap_alloc_new w _
 obtain ⟨c0,c1,c2,c3⟩:=boxT4 h0
 by_cases hru:0≤rule∧rule<(R.length:Int)
 ·obtain ⟨i,rfl⟩:∃ i:Nat,rule=(i:Int):=⟨rule.toNat,by omega⟩
  have hi:i<R.length:=by omega
  have C1:=weightG_yes (rc:=rc) (hR.same k0) i hi io po eo il ic pl pc el ec
  by_cases hno:0≤node∧node<(N.length:Int)
  ·obtain ⟨j,rfl⟩:∃ j:Nat,node=(j:Int):=⟨node.toNat,by omega⟩
   have hj:j<N.length:=by omega
   have C2:Hid (∀ ww,Same0 W0 ww→Calls Try.prog 61 #[.pointer (some ⟨h,0,none⟩),.int .i64 (j:Int)] ww fun e w' => ∃ (c:Nat) (s:Int) (bo:Option Addr) (ln bc:Nat) (mk:Int) (pt:Bool) (tt:Int),e=.returned (.tuple #[.int .i64 (c:Int),.agg #[.int .i64 s,.slice bo ln bc,.int .i64 mk,.bool pt,.int .i64 tt],.int .i64 0])∧Res N j c∧Same0 ww w'):=fun ww hk=>(appl_yes (p.same (k0.trans' hk)) j hj).mono (fun e w' ⟨c,hc,bo,bc,e1,e2,_,_,e5⟩=>⟨c,_,bo,_,bc,_,_,_,e1,e2,e5⟩)
   obtain ⟨b,off,rfl,hb,hc⟩:=hR.resolve_left (fun e=>by rw [e] at hi;simp at hi)
   obtain ⟨go,gc,r0,r1,rl⟩:=hc i hi
   have C3:Hid (∀ ww (top:Nat),Same0 w ww→Calls Try.prog 62 #[.pointer (some ⟨sb,0,none⟩),.slice go R[i].length gc,.iface 79 (.agg #[.pointer (some ⟨h,0,none⟩)]),.int .i64 (top:Int)] ww fun e w' => PtsOut L N (top:Int) R[i] ww e w'):=fun ww top hk=>parts_any (hs.same hk) (p.same hk) _ (r1.same hk) rl
   have FC:Hid (∀ ww,Same0 W0 ww→ww.cell? ⟨w.heap.size,3,none⟩=some (.slice (some ⟨b,off,none⟩) R.length rc)∧ww.cell? ⟨b,off+i,none⟩=some (.slice go R[i].length gc)):=fun ww hk=>⟨cellAt (hk.at0 h0) 3,((k0.trans' hk).cell (p:=⟨b,off+i,none⟩) hb (fun f=>f)).trans r0⟩
   have C4:Hid (∀ ww tb l,Same0 w ww→TgB ww tb l→(∀ x∈l,TgOk N.length x)→l.length=R[i].length→Calls Try.prog 63 #[.slice (some ⟨tb,0,none⟩) R[i].length R[i].length] ww fun e w' => e=.returned (.bool (oneT 1 l))∧Same0 ww w'):=fun ww tb l hk pt hok hl=>by
    have:=isOne_any pt R[i].length (fun x hx=>⟨(hok x hx).1,(hok x hx).2.1⟩) (by omega)
    rw [hl] at this
    exact this
   have C5:Hid (∀ ww,Same0 w ww→Calls Try.prog 53 #[.pointer (some ⟨h,0,none⟩),.int .i64 (wtG R[i]:Int)] ww fun e w' => e=.returned (.bool (decide (N.length+wtG R[i]≤room)))∧Same0 ww w'):=fun ww hk=>hasRoom_any (p.same hk) _
   have C6:Hid (∀ ww tb l,Same0 w ww→TgB ww tb l→oneT 1 l=true→(∀ x∈l,TgOk N.length x)→N.length+newN l≤room→l.length=R[i].length→Calls Try.prog 55 #[.pointer (some ⟨h,0,none⟩),.slice (some ⟨tb,0,none⟩) R[i].length R[i].length] ww fun e w' => ∃ a:Nat,e=.returned (.int .i64 (a:Int))∧(layF N l).2=[(a:Int)]∧HpB (fun b=>B b∨ww.heap.size≤b) w' h g room (layF N l).1∧Kept (fun k=>k=h∨k=g) ww w'):=fun ww tb l hk pt h1 hok hr hl=>by
    have:=lay_any (p.same hk) R[i].length pt h1 hok hr (by omega)
    rw [hl] at this
    exact this
   have HA:Hid (Ars L):=hs.2
   have i1:(0:Int)≤(i:Int):=by omega
   have i2:(i:Int)<(R.length:Int):=by omega
   have EE:Hid (∀ top v c a y w', Res N j top→((∃ k cc,BadP L N (top:Int) R[i] k cc∧c=132∧a=(k:Int)∧y=if cc=14 then 14 else 0)∨(∃ l,AllP L N (top:Int) R[i] l∧((oneT 1 l=false∧c=130∧a=0∧y=0)∨(oneT 1 l=true∧¬ N.length+newN l≤room∧c=131∧a=0∧y=111))))→FtAt w.heap.size w' v c a y→Same0 w w' → BldOut B L N room h g R (i:Int) (j:Int) w (.returned (.tuple #[.int .i64 0,v])) w'):=fun top v c a y w' hr hh hf hk=>.inl ⟨v,c,a,y,rfl,hf,.inr (.inr ⟨i,j,top,hi,rfl,rfl,hr,hh⟩),hk⟩
   have YY:Hid (∀ (top:Nat) (l:List Tg) (a:Nat) (ww w' : World),Res N j top→AllP L N (top:Int) R[i] l→oneT 1 l=true→N.length+newN l≤room→(layF N l).2=[(a:Int)]→Same0 w ww→HpB (fun b=>B b∨ww.heap.size≤b) w' h g room (layF N l).1→Kept (fun k=>k=h∨k=g) ww w' → BldOut B L N room h g R (i:Int) (j:Int) w (.returned (.tuple #[.int .i64 (a:Int),.nilIface])) w'):=fun top l a ww w' hr ha h1 hro e1 hk hp hk2=>.inr ⟨l,a,rfl,⟨i,j,top,hi,rfl,rfl,hr,ha,h1,hro⟩,e1,hp.mono (fun q _ _ e=>e.imp id (fun e=>Nat.le_trans hk.size e)),(hk.mono (S' := fun k=>k=h∨k=g) (fun _ _ f=>f.elim)).trans hk2 (fun _ _ e=>e)⟩
   have K0:Hid (Same0 w W0):=k0
   clear hs p hR hc r0 r1 h0 hru hno k0 hb
   go_enter Try.func22,Try.ntmps22
   go_upto_region 1 with fail
   rw [← hW0]
   clear hW0
   go_upto_region 9 with (first
    | (go_at_call 60;refine C1.mono ?_;rintro e w1 ⟨rfl,k1⟩)
    | (go_at_call 61;refine (C2.out w1 k1).mono ?_;rintro e w2 ⟨top,s,bo,ln,bc,mk,pt,tt,rfl,hr,k2⟩))
   obtain ⟨X1,hX1⟩:∃ X1,X1=w2.alloc (.cells #[.int .i64 s,.slice bo ln bc,.int .i64 mk,.bool pt,.int .i64 tt] 71):=⟨_,rfl⟩
   have kx:Same0 W0 X1:=by rw [hX1];exact (k1.trans' k2).trans' ((Kept.refl _ _).alloc _)
   rw [← hX1]
   clear hX1 C1 C2 c0 c1 c2 c3
   have hrt:=hr.lt.2
   have KX:Hid (Same0 W0 X1.drew):=kx.trans' ((Kept.refl _ _).drew)
   obtain ⟨s0a,s0b⟩:=FC.out X1.drew KX.out
   have CO:=of_any (some ⟨h,0,none⟩) X1.drew
   have CP:Hid (∀ ww,Same0 X1.drew ww→Calls Try.prog 62 #[.pointer (some ⟨sb,0,none⟩),.slice go R[i].length gc,.iface 79 (.agg #[.pointer (some ⟨h,0,none⟩)]),.int .i64 (top:Int)] ww fun e w' => ∃ v1 v2,e=.returned (.tuple #[v1,v2])∧PtsOut L N (top:Int) R[i] ww (.returned (.tuple #[v1,v2])) w' ∧ Same0 ww w'):=fun ww hk=>(C3.out ww top ((K0.out.trans' KX.out).trans' hk)).mono (fun e w' hp=>by
    rcases hp with ⟨l,tb,rfl,q1,q2,q3,q4⟩ | ⟨k,c,v,rfl,q1,q2,q3⟩
    ·exact ⟨_,_,rfl,.inl ⟨l,tb,rfl,q1,q2,q3,q4⟩,q4⟩
    ·exact ⟨_,_,rfl,.inr ⟨k,c,v,rfl,q1,q2,q3⟩,q3⟩)
   have KD:Hid (∀ ww,Same0 X1.drew ww→Same0 w ww):=fun ww hk=>(K0.out.trans' KX.out).trans' hk
   have FD:Hid (∀ ww,Same0 X1.drew ww→ww.cell? ⟨w.heap.size,3,none⟩=some (.slice (some ⟨b,off,none⟩) R.length rc)∧ww.cell? ⟨b,off+i,none⟩=some (.slice go R[i].length gc)):=fun ww hk=>FC.out ww (KX.out.trans' hk)
   have HLT:Hid (0≤(top:Int)∧(top:Int)<(N.length:Int)):=by show _∧_;omega
   clear C3 FC KX kx k1 k2 hrt
   go_region_held3 (fun ww=>ww.cell? ⟨w.heap.size,3,none⟩=some (.slice (some ⟨b,off,none⟩) R.length rc)∧ww.cell? ⟨b,off+i,none⟩=some (.slice go R[i].length gc)) (with_reducible first | exact ⟨s0a,s0b⟩ | exact cc1 | exact cc2) (first
    | (go_at_call 28;refine CO.mono ?_;rintro e w4 ⟨rfl,k4⟩;have cc1:=FD.out w4 k4)
    | (go_at_call 62;refine (CP.out w4 k4).mono ?_;rintro e w5 ⟨v1,v2,rfl,hpo,k5⟩;have cc2:=FD.out w5 (Same0.trans' k4 k5)))
   have K5:Hid (Same0 w w5):=KD.out w5 (Same0.trans' k4 k5)
   have hz4:w.heap.size≤w4.heap.size:=(KD.out w4 k4).size
   clear CO CP KD FD cc1 cc2 s0a s0b k4 k5
   rcases hpo with ⟨l,tb,e,q1,q2,q3,q4⟩ | ⟨k,c,v,e,q1,q2,q3⟩
   ·simp only [Ending.returned.injEq,Value.tuple.injEq,Array.mk.injEq,List.cons.injEq,and_true] at e
    obtain ⟨rfl,rfl⟩:=e
    have hok:=AllP.ok HA.out HLT.out q1
    have hct:=AllP.count HA.out HLT.out q1
    have CI:=C4.out w5 tb l K5.out q3 hok q1.1
    cases h1:oneT 1 l with
    | false=>
     rw [h1] at CI
     have F1:Hid (∀ w6 w', Same0 w5 w6→w' = w6.alloc (.cells #[.int .i64 130,.int .i64 0,.nilIface] 121)→BldOut B L N room h g R (i:Int) (j:Int) w (.returned (.tuple #[.int .i64 0,.iface 119 (.pointer (some ⟨w6.heap.size,0,none⟩))])) w'):=fun w6 w' k6 hw=>EE.out top _ 130 0 0 w' hr (.inr ⟨l,q1,.inl ⟨h1,rfl,rfl,rfl⟩⟩) ⟨w6.heap.size,rfl,(K5.out.trans' k6).size,by rw [hw];exact heap_alloc_new w6 _⟩ (by rw [hw];exact (K5.out.trans' k6).trans' ((Kept.refl _ _).alloc _))
     clear EE YY C4 C5 C6 hok hct q1 q2 q3 q4 h1 hr
     go_wp2_with (first | (go_at_call 63;refine CI.mono ?_;rintro e w6 ⟨rfl,k6⟩))
     go_ret2
     exact F1.out w6 _ k6 rfl
    | true=>
     rw [h1] at CI
     by_cases hro:N.length+wtG R[i]≤room
     ·have C5' : Hid (∀ ww,Same0 w ww→Calls Try.prog 53 #[.pointer (some ⟨h,0,none⟩),.int .i64 (wtG R[i]:Int)] ww fun e w' => e=.returned (.bool true)∧Same0 ww w'):=fun ww hk=>by have:=C5.out ww hk;rw [show decide (N.length+wtG R[i]≤room)=true by simpa using hro] at this;exact this
      have C6' : Hid (∀ ww,Same0 w5 ww→Calls Try.prog 55 #[.pointer (some ⟨h,0,none⟩),.slice (some ⟨tb,0,none⟩) R[i].length R[i].length] ww fun e w' => ∃ a:Nat,e=.returned (.int .i64 (a:Int))∧BldOut B L N room h g R (i:Int) (j:Int) w (.returned (.tuple #[.int .i64 (a:Int),.nilIface])) w'):=fun ww hk=>(C6.out ww tb l (K5.out.trans' hk) (q3.same hk) h1 hok (by rw [hct];exact hro) q1.1).mono (fun e w' ⟨a,e1,e2,e3,e4⟩=>⟨a,e1,YY.out top l a ww w' hr q1 h1 (by rw [hct];exact hro) e2 (K5.out.trans' hk) e3 e4⟩)
      clear EE YY C4 C5 C6 hok hct q1 q2 q3 q4 h1 hr hro
      go_wp2_with (first
       | (go_at_call 63;refine CI.mono ?_;rintro e w6 ⟨rfl,k6⟩)
       | (go_at_call 53;refine (C5'.out w6 (K5.out.trans' k6)).mono ?_;rintro e w7 ⟨rfl,k7⟩)
       | (go_at_call 55;refine (C6'.out w7 (Same0.trans' k6 k7)).mono ?_;rintro e w8 ⟨a,rfl,hB⟩))
      go_ret2
      exact hB
     ·have C5' : Hid (∀ ww,Same0 w ww→Calls Try.prog 53 #[.pointer (some ⟨h,0,none⟩),.int .i64 (wtG R[i]:Int)] ww fun e w' => e=.returned (.bool false)∧Same0 ww w'):=fun ww hk=>by have:=C5.out ww hk;rw [show decide (N.length+wtG R[i]≤room)=false by simpa using hro] at this;exact this
      have F1:Hid (∀ w7 w' v,Same0 w w7→FtAt w7.heap.size w' v 131 0 111→Same0 w7 w' → BldOut B L N room h g R (i:Int) (j:Int) w (.returned (.tuple #[.int .i64 0,v])) w'):=fun w7 w' v k7 hf k8=>EE.out top v 131 0 111 w' hr (.inr ⟨l,q1,.inr ⟨h1,by rw [hct];exact hro,rfl,rfl,rfl⟩⟩) (hf.from k7.size) (k7.trans' k8)
      clear EE YY C4 C5 C6 hok hct q1 q2 q3 q4 h1 hr hro
      go_wp2_with (first
       | (go_at_call 63;refine CI.mono ?_;rintro e w6 ⟨rfl,k6⟩)
       | (go_at_call 53;refine (C5'.out w6 (K5.out.trans' k6)).mono ?_;rintro e w7 ⟨rfl,k7⟩)
       | (go_at_call 54;refine (full_any w7).mono ?_;rintro e w8 ⟨v,rfl,hf,k8⟩))
      go_ret2
      exact F1.out w7 w8 v ((K5.out.trans' k6).trans' k7) hf k8
   ·simp only [Ending.returned.injEq,Value.tuple.injEq,Array.mk.injEq,List.cons.injEq,and_true] at e
    obtain ⟨rfl,rfl⟩:=e
    have F1:Hid (BldOut B L N room h g R (i:Int) (j:Int) w (.returned (.tuple #[.int .i64 0,v2])) w5):=EE.out top v2 132 k _ w5 hr (.inl ⟨k,c,q1,rfl,rfl,rfl⟩) (q2.from hz4) K5.out
    obtain ⟨fb,rfl, -, -⟩:=q2
    clear EE YY C4 C5 C6 q1 q3 hr
    go_wp2
    go_ret2
    exact F1.out
  ·have C2:Hid (∀ ww,Same0 W0 ww→Calls Try.prog 61 #[.pointer (some ⟨h,0,none⟩),.int .i64 node] ww fun e w' => e=.returned (.tuple #[.int .i64 0,nodeV (0,[],0,false,0) none 0,.int .i64 112])∧Same0 ww w'):=fun ww hk=>appl_no (p.same (k0.trans' hk)) node hno
   have EE:Hid (∀ v w', FtAt w.heap.size w' v 132 0 112→Same0 w w' → BldOut B L N room h g R (i:Int) node w (.returned (.tuple #[.int .i64 0,v])) w'):=fun v w' hf hk=>.inl ⟨v,132,0,112,rfl,hf,.inr (.inl ⟨hru,hno,rfl,rfl,rfl⟩),hk⟩
   have K0:Hid (Same0 w W0):=k0
   clear hs p hR h0 hru hno k0
   go_enter Try.func22,Try.ntmps22
   go_upto_region 1 with fail
   rw [← hW0]
   clear hW0
   go_wp2_with (first
    | (go_at_call 60;refine C1.mono ?_;rintro e w1 ⟨rfl,k1⟩)
    | (go_at_call 61;refine (C2.out w1 k1).mono ?_;rintro e w2 ⟨rfl,k2⟩))
   go_ret2
   have kk:=(K0.out.trans' k1).trans' k2
   refine EE.out _ _ ⟨w2.heap.size+1,rfl,by have:=kk.size;omega,?_⟩ (kk.trans' (((Kept.refl _ _).alloc _).alloc _))
   have:=heap_alloc_new (w2.alloc (.cells #[.int .i64 0,.slice none 0 0,.int .i64 0,.bool false,.int .i64 0] 71)) (.cells #[.int .i64 132,.int .i64 0,.iface 30 (.int .i64 112)] 121)
   simpa [whyV] using this
 ·have C1:=weightG_no (w:=W0) (ro:=ro) (rc:=rc) rule hru io po eo il ic pl pc el ec
  have EE:Hid (∀ v w', FtAt w.heap.size w' v 132 0 91→Same0 w w' → BldOut B L N room h g R rule node w (.returned (.tuple #[.int .i64 0,v])) w'):=fun v w' hf hk=>.inl ⟨v,132,0,91,rfl,hf,.inl ⟨hru,rfl,rfl,rfl⟩,hk⟩
  have K0:Hid (Same0 w W0):=k0
  clear hs p hR h0 hru k0
  go_enter Try.func22,Try.ntmps22
  go_upto_region 1 with fail
  rw [← hW0]
  clear hW0
  go_wp2_with (first | (go_at_call 60;refine C1.mono ?_;rintro e w1 ⟨rfl,k1⟩))
  go_ret2
  have kk:=K0.out.trans' k1
  exact EE.out _ _ ⟨w1.heap.size,rfl,kk.size,heap_alloc_new w1 _⟩ (kk.trans' ((Kept.refl _ _).alloc _))
end Go.Proofs.Ytpimndkhoalaeaa
namespace Go.Proofs.Ytpimndkhoalaeaa
set_option linter.unusedVariables false
theorem ArR.uniq {N:List Nd} {z n u u' : Int} (h:ArR N z n u) (h' : ArR N z n u'):u=u' := by
 rcases h with ⟨i,b,c,hb,hn,e1,e2,e3,e4,rfl⟩ | ⟨rfl,hno⟩
 ·rcases h' with ⟨i', b', c', hb', hn', f1,f2,f3,f4,rfl⟩ | ⟨rfl,hno'⟩
  ·obtain rfl:i=i' := by omega
   obtain rfl:=e2.uniq f2
   obtain rfl:=e4.uniq f4
   rfl
  ·exact absurd ⟨i,b,hb,e1,e2,e3,by omega⟩ hno'
 ·rcases h' with ⟨i', b', c', hb', hn', f1,f2,f3,f4,rfl⟩ | ⟨rfl,hno'⟩
  ·exact absurd ⟨i', b', hb', f1,f2,f3,by omega⟩ hno
  ·rfl
theorem LdR.uniq {N:List Nd}:∀ {p:List Int} {z y y' : Int},LdR N z p y→LdR N z p y' → y=y'
 | [],z,y,y', h,h' => by rw [show y=z from h,show y' = z from h']
 | n :: p,z,y,y', ⟨u,h1,h2⟩,⟨u', h1', h2'⟩=>by
  obtain rfl:=h1.uniq h1'
  exact h2.uniq h2'
theorem PtR.uniq {L:List Sym} {N:List Nd} {z:Int} {p:Int × List Int} {x x' : Tg} {e e' : Int} (h:PtR L N z p x e) (h' : PtR L N z p x' e'):x=x' ∧ e=e' := by
 rcases h with ⟨h1,h2,rfl,rfl⟩ | ⟨h1,rfl,rfl⟩ | ⟨h1,rfl,rfl⟩ | ⟨h1,h2,rfl,rfl⟩ | ⟨h1,y,h2,h3,rfl,rfl⟩ <;>
 rcases h' with ⟨g1,g2,rfl,rfl⟩ | ⟨g1,rfl,rfl⟩ | ⟨g1,rfl,rfl⟩ | ⟨g1,g2,rfl,rfl⟩ | ⟨g1,y', g2,g3,rfl,rfl⟩ <;> first
  | exact ⟨rfl,rfl⟩
  | (exfalso;omega)
  | (exfalso;exact g3 (g2.uniq h2))
  | (exfalso;exact h3 (h2.uniq g2))
  | (obtain rfl:=h2.uniq g2;exact ⟨rfl,rfl⟩)
theorem AllP.uniq {L:List Sym} {N:List Nd} {z:Int} {Q:List (Int × List Int)} {l l' : List Tg} (h:AllP L N z Q l) (h' : AllP L N z Q l'):l=l' := by
 have e1:=h.1
 have e2:=h'.1
 refine List.ext_getElem (by omega) (fun i h1 h2=>((h.2 i (by omega) h1).uniq (h'.2 i (by omega) h2)).1)
theorem AllP.notBad {L:List Sym} {N:List Nd} {z:Int} {Q:List (Int × List Int)} {l:List Tg} {k:Nat} {c:Int} (h:AllP L N z Q l) (h' : BadP L N z Q k c):False:=by
 obtain ⟨hc,l', hk,x,e1,e2,e3⟩:=h'
 exact hc (((h.2 k hk (by have:=h.1;omega)).uniq e3).2).symm
theorem BadP.uniq {L:List Sym} {N:List Nd} {z:Int} {Q:List (Int × List Int)} {k k' : Nat} {c c' : Int} (h:BadP L N z Q k c) (h' : BadP L N z Q k' c'):k=k' ∧ c=c' := by
 obtain ⟨hc,l,hk,x,e1,e2,e3⟩:=h
 obtain ⟨hc', l', hk', x', f1,f2,f3⟩:=h'
 have hkk:k=k' := by
  rcases Nat.lt_trichotomy k k' with q | q | q
  ·exact absurd ((f2 k hk (by omega)).uniq e3).2.symm hc
  ·exact q
  ·exact absurd ((e2 k' hk' (by omega)).uniq f3).2.symm hc'
 subst hkk
 exact ⟨rfl,(e3.uniq f3).2⟩
theorem BdY.uniq {L:List Sym} {N:List Nd} {room:Nat} {R:List (List (Int × List Int))} {rule node:Int} {l l' : List Tg} (h:BdY L N room R rule node l) (h' : BdY L N room R rule node l'):l=l' := by
 obtain ⟨i,j,top,hi,e1,e2,e3,e4,_⟩:=h
 obtain ⟨i', j', top', hi', f1,f2,f3,f4,_⟩:=h'
 obtain rfl:i=i' := by omega
 obtain rfl:j=j' := by omega
 obtain rfl:=e3.uniq f3
 exact e4.uniq f4
theorem BdY.notE {L:List Sym} {N:List Nd} {room:Nat} {R:List (List (Int × List Int))} {rule node:Int} {l:List Tg} {c a y:Int} (h:BdY L N room R rule node l) (h' : BdE L N room R rule node c a y):False:=by
 obtain ⟨i,j,top,hi,e1,e2,e3,e4,e5,e6⟩:=h
 rcases h' with ⟨q,_⟩ | ⟨_,q,_⟩ | ⟨i', j', top', hi', f1,f2,f3,f4⟩
 ·exact q (by omega)
 ·have:=e3.lt.1;exact q (by omega)
 ·obtain rfl:i=i' := by omega
  obtain rfl:j=j' := by omega
  obtain rfl:=e3.uniq f3
  rcases f4 with ⟨k,cc,g1,_⟩ | ⟨l', g1,⟨g2,_⟩ | ⟨_,g2,_⟩⟩
  ·exact e4.notBad g1
  ·obtain rfl:=e4.uniq g1;rw [e5] at g2;cases g2
  ·obtain rfl:=e4.uniq g1;exact g2 e6
theorem BdE.uniq {L:List Sym} {N:List Nd} {room:Nat} {R:List (List (Int × List Int))} {rule node:Int} {c a y c' a' y' : Int} (h:BdE L N room R rule node c a y) (h' : BdE L N room R rule node c' a' y'):c=c' ∧ a=a' ∧ y=y' := by
 rcases h with ⟨q,rfl,rfl,rfl⟩ | ⟨q0,q,rfl,rfl,rfl⟩ | ⟨i,j,top,hi,e1,e2,e3,e4⟩
 ·rcases h' with ⟨p,rfl,rfl,rfl⟩ | ⟨p0,p,_⟩ | ⟨i', j', top', hi', f1,f2,f3,f4⟩
  ·exact ⟨rfl,rfl,rfl⟩
  ·exact absurd p0 q
  ·exact absurd (by omega) q
 ·rcases h' with ⟨p,_⟩ | ⟨p0,p,rfl,rfl,rfl⟩ | ⟨i', j', top', hi', f1,f2,f3,f4⟩
  ·exact absurd q0 p
  ·exact ⟨rfl,rfl,rfl⟩
  ·have:=f3.lt.1;exact absurd (by omega) q
 ·rcases h' with ⟨p,_⟩ | ⟨p0,p,_⟩ | ⟨i', j', top', hi', f1,f2,f3,f4⟩
  ·exact absurd (by omega) p
  ·have:=e3.lt.1;exact absurd (by omega) p
  ·obtain rfl:i=i' := by omega
   obtain rfl:j=j' := by omega
   obtain rfl:=e3.uniq f3
   rcases e4 with ⟨k,cc,g1,rfl,rfl,rfl⟩ | ⟨l,g1,g2⟩
   ·rcases f4 with ⟨k', cc', d1,rfl,rfl,rfl⟩ | ⟨l', d1,_⟩
    ·obtain ⟨rfl,rfl⟩:=g1.uniq d1;exact ⟨rfl,rfl,rfl⟩
    ·exact (d1.notBad g1).elim
   ·rcases f4 with ⟨k', cc', d1,_⟩ | ⟨l', d1,d2⟩
    ·exact (g1.notBad d1).elim
    ·obtain rfl:=g1.uniq d1
     rcases g2 with ⟨g2,rfl,rfl,rfl⟩ | ⟨g2,_,rfl,rfl,rfl⟩ <;> rcases d2 with ⟨d2,rfl,rfl,rfl⟩ | ⟨d2,_,rfl,rfl,rfl⟩
     ·exact ⟨rfl,rfl,rfl⟩
     ·rw [g2] at d2;cases d2
     ·rw [g2] at d2;cases d2
     ·exact ⟨rfl,rfl,rfl⟩
theorem BldOut.yes {B:Nat→Prop} {L:List Sym} {N:List Nd} {room h g:Nat} {R:List (List (Int × List Int))} {rule node:Int} {w w' : World} {e:Ending} {l:List Tg} (hb:BldOut B L N room h g R rule node w e w') (hy:BdY L N room R rule node l) :
  ∃ a:Nat,e=.returned (.tuple #[.int .i64 (a:Int),.nilIface])∧(layF N l).2=[(a:Int)]∧HpB (fun b=>B b∨w.heap.size≤b) w' h g room (layF N l).1∧Kept (fun k=>k=h∨k=g) w w' := by
 rcases hb with ⟨v,c,a,y,_,_,he,_⟩ | ⟨l', a,e1,e2,e3,e4,e5⟩
 ·exact (hy.notE he).elim
 ·obtain rfl:=hy.uniq e2
  exact ⟨a,e1,e3,e4,e5⟩
theorem BldOut.err {B:Nat→Prop} {L:List Sym} {N:List Nd} {room h g:Nat} {R:List (List (Int × List Int))} {rule node:Int} {w w' : World} {e:Ending} {c a y:Int} (hb:BldOut B L N room h g R rule node w e w') (hy:BdE L N room R rule node c a y) :
  ∃ v,e=.returned (.tuple #[.int .i64 0,v])∧FtAt w.heap.size w' v c a y∧Same0 w w' := by
 rcases hb with ⟨v,c', a', y', e1,e2,he,e3⟩ | ⟨l', a', e1,e2,e3,e4,e5⟩
 ·obtain ⟨rfl,rfl,rfl⟩:=hy.uniq he
  exact ⟨v,e1,e2,e3⟩
 ·exact (e2.notE hy).elim
end Go.Proofs.Ytpimndkhoalaeaa
namespace Go.Proofs.Ytpimndkhoalaeaa
set_option maxRecDepth 100000
set_option linter.unusedVariables false
open Go.RowKit
attribute [local go_sem ↓] Go.wp_at_zero Go.wp_at_succ
set_option maxHeartbeats 2000000 in
theorem sign_any (ao:Option Addr) (len cap:Nat) (xs:List Sym) (w:World) (hx:SymsAt w ao len xs) (hm:len≤maxLen) :
  Calls Try.prog 13 #[.slice ao len cap] w fun e w' => ∃ b rv,e=.returned (.tuple #[.pointer (some ⟨b,0,none⟩),rv])∧Sg w'.heap.size w' b (madeL xs)∧Rl w'.heap.size w' rv (madeL xs)∧Same0 w w' := by
 unfold maxLen at hm
 go_enter Try.func13,Try.ntmps13
 go_wp2_with (first | (go_at_call 47;refine (new_any _).mono ?_;rintro e w' ⟨rfl,rfl⟩))
 go_loopw [6] (fun i wr=>∃ (k:Nat) (sv:Value) (mr:Option Nat) (rv:Value),k≤len∧i=.int .i64 (k:Int)∧Both w.heap.size w wr w.heap.size (w.heap.size+1) (madeL (xs.take k)) sv mr rv) (fun i _=>len-(intOf i).toNat)
 case atStart=>exact ⟨0,_,_,_,Nat.zero_le _,rfl,Both.start w⟩
 case round=>
  obtain ⟨k,sv,mr,rv,hk,rfl,hb⟩:=hrel
  have hlen:=hb.sg.len
  by_cases hlt:k<len
  ·obtain ⟨xl,xc,xw⟩:=hx.kept (from_below hb.k).below
   obtain ⟨xb,off,rfl,hxb,hxc⟩:=xc.resolve_left (by omega)
   have hkx:k<xs.length:=by omega
   obtain ⟨x0,x1,x2⟩:=hxc k hkx
   have xsz:=(xw xs[k] (List.getElem_mem hkx)).1
   have i1:(0:Int)≤(k:Int):=by omega
   have i2:(k:Int)<(len:Int):=by omega
   have E1:Hid (madeL (xs.take (k+1))=addL (madeL (xs.take k)) xs[k]):=madeL_snoc hkx
   have hn0:=hb.k.size
   have hxs:=hx
   clear hxc xw xc xl
   generalize madeL (xs.take k)=L at *
   go_wp2_with fail
   refine (add_any hb.sg xs[k] xsz).mono ?_
   rintro e w1 ⟨rfl,sv1,mr1,h1,h2,h3⟩
   have hr1:RefAt w1 (w.heap.size+1) L rv:=hb.rf.kept h2 (fun k hk' e=>hb.d k e hk')
   have k1:Kept (From w.heap.size) w w1:=hb.k.trans h2 (fun i _ e=>hb.f i e)
   obtain ⟨y0,y1,y2⟩:w1.cell? ⟨xb,off+k * 3,none⟩=some (.string xs[k].name)∧w1.cell? ⟨xb,off+k * 3+1,none⟩=some (.int .i64 xs[k].ar)∧w1.cell? ⟨xb,off+k * 3+2,none⟩=some (.bool xs[k].df):=by
    obtain ⟨_,yc,_⟩:=hxs.kept (from_below k1).below
    obtain ⟨_,_,e,_,hyc⟩:=yc.resolve_left (by omega)
    simp only [Option.some.injEq,Addr.mk.injEq,and_true] at e
    rw [e.1,e.2]
    exact hyc k hkx
   clear x0 x1 x2
   go_wp2_with fail
   refine (radd_any hr1 hlen xs[k] xsz).mono ?_
   rintro e w2 ⟨rfl,hr⟩
   obtain ⟨rv2,hb2⟩:=hb.next xs[k] hn0 h1 h2 h3 hr
   go_wp2
   refine ⟨⟨k+1,sv1,mr1,rv2,by omega,by go_num,?_⟩,by simp [intOf];omega⟩
   rw [E1.out];exact hb2
  ·have hxl:=hx.1
   have E1:xs.take k=xs:=List.take_of_length_le (by omega)
   rw [E1] at hb hlen
   have r0:=hb.rf.c0
   clear E1
   go_wp2
   go_quiet (fail)
   go_wp2
   go_ret2
   have kd:Same0 wr (wr.drewN nq):=(Kept.refl _ _).drewN nq
   have fin:Sg wr.heap.size wr w.heap.size (madeL xs)∧Rl wr.heap.size wr rv (madeL xs)∧Same0 w wr:=⟨⟨⟨sv,mr,hb.sg,sig_foot_lt hb.sg⟩,hb.a⟩,⟨hb.rf.row,fun k e=>hb.rf.lt k (.inr e),hb.a,hlen⟩,from_below hb.k⟩
   exact ⟨w.heap.size,rv,rfl,fin.1.same kd,fin.2.1.same kd,fin.2.2.trans' kd⟩
theorem neq_efault (v:Value) (w:World):(binOp .neq 35 (.iface 119 v) .nilIface).run Try.prog w=.ok (.bool true) w:=by kernel_rfl
theorem neq_enil (w:World):(binOp .neq 35 .nilIface .nilIface).run Try.prog w=.ok (.bool false) w:=by kernel_rfl
end Go.Proofs.Ytpimndkhoalaeaa
