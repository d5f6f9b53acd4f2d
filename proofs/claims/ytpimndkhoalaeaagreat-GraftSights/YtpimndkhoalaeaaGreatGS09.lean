import Derived.Test.YtpimndkhoalaeaaGreatGS07
import Derived.Test.YtpimndkhoalaeaaGreatGS08
import Derived.Test.YtpimndkhoalaeaaGreatGS06
namespace Go.Proofs.YtpimndkhoalaeaaGreat
set_option maxRecDepth 100000
set_option linter.unusedVariables false
open Go.RowKit
attribute [local go_sem ↓] Go.wp_at_zero Go.wp_at_succ
set_option maxHeartbeats 2000000 in
theorem isOne_any {w:World} {b:Nat} {l:List Tg} (p:TgB w b l) (cap:Nat) (ho:∀ x∈l,0≤x.2.2.1∧x.2.2.1≤6) (hl:l.length≤10000000000000) :
  Calls Tryz.prog 51 #[.slice (some ⟨b,0,none⟩) l.length cap] w fun e w' => e=.returned (.bool (oneT 1 l))∧Same0 w w' := by
 have HP:Hid (∀ wr,Same0 w wr→TgB wr b l):=fun wr hk=>p.same hk
 have HO:Hid (∀ x∈l,0≤x.2.2.1∧x.2.2.1≤6):=ho
 clear p ho
 go_enter Tryz.func51,Tryz.ntmps51
 go_wp2
 go_loopw [3,8] (fun s3 s8 wr=>∃ k m:Nat,k≤l.length∧s3=.int .i64 (m:Int)∧s8=.int .i64 (k:Int)∧m≤6 * k+1∧Hid (oneT 1 l=oneT m (l.drop k))∧Same0 w wr) (fun _ s8 _=>l.length-(intOf s8).toNat)
 case atStart=>exact ⟨0,1,Nat.zero_le _,rfl,rfl,by omega,by simp [Hid],Kept.refl _ _⟩
 case round=>
  obtain ⟨k,m,hk,rfl,rfl,hm,hd,hs⟩:=hrel
  by_cases hlt:k<l.length
  ·obtain ⟨c0,c1,c2,c3⟩:=(HP.out wr hs).get hlt
   have hx:=HO.out _ (List.getElem_mem hlt)
   have hdr:l.drop k=l[k] :: l.drop (k+1):=List.drop_eq_getElem_cons hlt
   have i1:(0:Int)≤(k:Int):=by omega
   have i2:(k:Int)<(l.length:Int):=by omega
   have hd' : Hid (m=0→oneT 1 l=false):=fun e=>by have:=hd.out;rw [hdr,e] at this;rw [this];rfl
   have hd2:Hid (∀ q,m=q+1→oneT 1 l=oneT (q+arT l[k]) (l.drop (k+1))):=fun q e=>by have:=hd.out;rw [hdr,e] at this;rw [this];rfl
   clear hdr hd
   obtain ⟨a,ha⟩:∃ a,arT l[k]=a:=⟨_,rfl⟩
   have ea:l[k].2.2.1=(a:Int):=by unfold arT at ha;omega
   have ha6:a≤6:=by omega
   have HA:Hid (arT l[k]=a):=ha
   rw [ea] at c2
   clear ea ha hx
   generalize l[k].1=y0 at c0
   generalize l[k].2.1=y1 at c1
   generalize l[k].2.2.2=y3 at c3
   cases m with
   | zero=>
    have H:Hid (oneT 1 l=false):=hd'.out rfl
    go_wp2
    go_ret
    exact ⟨by rw [H.out];rfl,hs.trans' ((Kept.refl _ wr).alloc _)⟩
   | succ q=>
    have i3:¬ ((q:Int)+1=0):=by omega
    have H:Hid (oneT 1 l=oneT (q+a) (l.drop (k+1))):=by have:=hd2.out q rfl;rw [HA.out] at this;exact this
    go_wp2
    refine ⟨⟨k+1,q+a,by omega,by go_num,by go_num,by omega,H,hs.trans' ((Kept.refl _ wr).alloc _)⟩,by simp [intOf];omega⟩
  ·obtain rfl:k=l.length:=by omega
   have hd' := hd.out
   rw [List.drop_length] at hd'
   cases m with
   | zero=>
    have H:Hid (oneT 1 l=true):=by show _=_;rw [hd'];rfl
    clear hd' hd
    go_wp2
    go_ret
    exact ⟨by rw [H.out];rfl,hs⟩
   | succ q=>
    have H:Hid (oneT 1 l=false):=by show _=_;rw [hd'];rfl
    have i3:¬ ((q:Int)+1=0):=by omega
    clear hd' hd
    go_wp2
    go_ret
    exact ⟨by rw [H.out];rfl,hs⟩
set_option maxHeartbeats 2000000 in
theorem thingsT_any {n b:Nat} {w:World} {L:List Sym} (h:Sg n w b L) {ao:Option Addr} {cap:Nat} {t:List Int} (ht:IntsAt w ao t) (hm:t.length≤2000) (ho:∀ x∈t,0≤x∧x<(L.length:Int)) :
  Calls Tryz.prog 43 #[.pointer (some ⟨b,0,none⟩),.slice ao t.length cap] w fun e w' => ∃ tb,e=.returned (.slice (some ⟨tb,0,none⟩) t.length t.length)∧w.heap.size≤tb∧TgB w' tb (t.map (tgT L))∧Same0 w w' := by
 obtain ⟨i0,hi0,hz0,hz1,hz2⟩:=info_parts info_thing
 have HS:Hid (∀ wr,Same0 w wr→Sg n wr b L):=fun wr hk=>h.same hk
 have HT:Hid (∀ wr,Same0 w wr→IntsAt wr ao t):=fun wr hk=>ht.same hk
 have HO:Hid (∀ x∈t,0≤x∧x<(L.length:Int)):=ho
 clear h ht ho
 go_enter Tryz.func43,Tryz.ntmps43
 go_wp2_with (first | (at_make;refine wpList_make_full _ rfl _ _ 105 rfl w.heap.size 148 i0 _ 4 Tryz.underlying105 hi0 hz0 hz1 _ _ _ _ t.length rfl rfl rfl rfl (by rw [hz2];omega) (by unfold maxLen;omega) (Nat.le_refl _) ?_;intro w1 hown hgrow))
 have K1:Same0 w w1:=Same0.grown (Kept.refl _ w) hgrow
 have HQ:Hid (TgQ w1 w.heap.size t.length []):=TgQ.start hown
 clear hown hgrow
 go_loopw [13] (fun s13 wr=>∃ k:Nat,k≤t.length∧s13=.int .i64 (k:Int)∧Hid (TgQ wr w.heap.size t.length ((t.take k).map (tgT L)))∧Same0 w wr) (fun s13 _=>t.length-(intOf s13).toNat)
 case atStart=>exact ⟨0,Nat.zero_le _,rfl,by simpa using HQ,K1⟩
 case round=>
  clear HQ K1
  obtain ⟨k,hk,rfl,hq,hs⟩:=hrel
  by_cases hlt:k<t.length
  ·obtain ⟨xb,off,rfl,hxb,hxc⟩:=(HT.out wr hs).get hlt
   have i1:(0:Int)≤(k:Int):=by omega
   have i2:(k:Int)<(t.length:Int):=by omega
   have hx:=HO.out _ (List.getElem_mem hlt)
   obtain ⟨s,es⟩:∃ s:Nat,t[k]=(s:Int):=⟨t[k].toNat,by omega⟩
   have C:=newT_yes (HS.out wr hs) s (by omega)
   rw [es] at hxc
   have hlen:((t.take k).map (tgT L)).length=k:=by simp;omega
   have NX:Hid (∀ w2,Same0 wr w2→(∃ u0 u1 u2 u3,w2.cell? ⟨w.heap.size,k * 4,none⟩=some u0∧w2.cell? ⟨w.heap.size,k * 4+1,none⟩=some u1∧w2.cell? ⟨w.heap.size,k * 4+2,none⟩=some u2∧w2.cell? ⟨w.heap.size,k * 4+3,none⟩=some u3∧∀ o,w2.frozen? ⟨w.heap.size,o,none⟩=false)∧TgQ (put4 w2 w.heap.size (k * 4) (.bool true) (.int .i64 (s:Int)) (.int .i64 (arN L (s:Int):Int)) (.int .i64 0)) w.heap.size t.length ((t.take (k+1)).map (tgT L))∧Same0 w (put4 w2 w.heap.size (k * 4) (.bool true) (.int .i64 (s:Int)) (.int .i64 (arN L (s:Int):Int)) (.int .i64 0))):=fun w2 k2=>by
    have q2:=hq.out.same k2
    have th:=q2.there (by omega)
    have sn:=q2.snoc (by omega) (tgT L (s:Int))
    rw [hlen] at th sn
    refine ⟨th,?_,(hs.trans' k2).trans (put4_kept _ _ _ _ _ _ _) (fun i hi e=>by omega)⟩
    rw [List.take_succ_eq_append_getElem hlt,List.map_append,es]
    exact sn
   clear hx es hlen hq
   go_wp2_with (first | (go_at_call 77;refine C.mono ?_;rintro e w2 ⟨rfl,k2⟩;obtain ⟨⟨u0,u1,u2,u3,d0,d1,d2,d3,fz⟩,n1,n2⟩:=NX.out w2 k2;have f0:=fz (k * 4);have f1:=fz (k * 4+1);have f2:=fz (k * 4+2);have f3:=fz (k * 4+3);simp only [tgV,tgT]))
   refine ⟨⟨k+1,by omega,by go_num,n1,n2⟩,by simp [intOf];omega⟩
  ·obtain rfl:k=t.length:=by omega
   have hq' : TgB wr w.heap.size (t.map (tgT L)):=by
    have:=hq.out
    rw [List.take_length] at this
    exact TgQ.all (by simpa using this)
   clear hq
   go_wp2
   go_ret
   exact ⟨w.heap.size,rfl,Nat.le_refl _,hq', hs⟩
theorem vars_none:∀ {t o:List Int},(∀ x∈t,0≤x)→vs o t=o
 | [],o,_=>rfl
 | x :: r,o,h=>by
  show vs (vstep o x) r=o
  have hx:=h x (List.mem_cons_self ..)
  have e:vstep o x=o:=by
   unfold vstep
   rw [if_neg]
   intro q
   have:=q.1
   simp [isV] at this
   omega
  rw [e]
  exact vars_none (fun y hy=>h y (List.mem_cons_of_mem _ hy))
theorem one_term (L:List Sym):∀ (t:List Int) (k:Nat),need L k t=some 0→oneT k (t.map (tgT L))=true
 | [],0,_=>rfl
 | [],k+1,h=>by simp [need] at h
 | x :: r,0,h=>by simp [need] at h
 | x :: r,k+1,h=>by
  have e:arT (tgT L x)=arN L x:=by simp [arT,tgT]
  show oneT (k+arT (tgT L x)) (r.map (tgT L))=true
  rw [e]
  exact one_term L r _ (by simpa [need] using h)
theorem new_term (L:List Sym) (t:List Int):newN (t.map (tgT L))=t.length:=by
 unfold newN
 rw [List.countP_eq_length.2 (fun x hx=>by obtain ⟨y,_,rfl⟩:=List.mem_map.1 hx;rfl)]
 simp
theorem check_zero {L:List Sym} {t:List Int} (h:checkE L t=0):t.length≤2000∧(∀ x∈t,x<(L.length:Int) ∧ -99≤x)∧need L 1 t=some 0:=by
 unfold checkE at h
 split at h
 ·cases h
 ·split at h
  ·rename_i q1 q2;exact absurd h q2
  ·rename_i q1 q2
   split at h
   ·rename_i q3
    exact ⟨by omega,badE_zero.1 (by simpa using q2),q3⟩
   ·cases h
theorem ok_term {L:List Sym} (ha:Ars L) {t:List Int} (h:∀ x∈t,0≤x) (m:Nat):∀ x∈t.map (tgT L),TgOk m x:=fun x hx=>by
 obtain ⟨y,hy,rfl⟩:=List.mem_map.1 hx
 have h1:=arN_le ha y
 exact ⟨by simp [tgT],by simp [tgT];omega,fun _=>h y hy,fun q=>by cases q⟩
set_option maxHeartbeats 2000000 in
theorem load_bad {n b:Nat} {w:World} {L:List Sym} (hs:Sg n w b L) (ha:Addr) {ao:Option Addr} {cap:Nat} {t:List Int} (ht:IntsAt w ao t) (hm:t.length * 8≤140737488351232) (hc:checkE L t≠0) :
  Calls Tryz.prog 10 #[.pointer (some ⟨b,0,none⟩),.pointer (some ha),.slice ao t.length cap] w fun e w' => ∃ v,e=.returned (.tuple #[.int .i64 0,v])∧FtAt w.heap.size w' v 130 0 (checkE L t)∧Same0 w w' := by
 have C:=check_any (cap:=cap) hs ht (by unfold maxLen;omega)
 have HW:Hid (whyV (checkE L t)=.iface 40 (.int .i64 (checkE L t))):=by show _=_;unfold whyV;rw [if_neg hc]
 generalize checkE L t=ce at *
 clear hs ht
 go_enter Tryz.func10,Tryz.ntmps10
 go_wp2_with (first | (go_at_call 38;refine C.mono ?_;rintro e w1 ⟨rfl,k1⟩))
 go_ret2
 exact ⟨_,rfl,⟨w1.heap.size,rfl,k1.size,by rw [HW.out];exact heap_alloc_new w1 _⟩,k1.trans' ((Kept.refl _ w1).alloc _)⟩
set_option maxHeartbeats 2000000 in
theorem load_yes {B:Nat→Prop} {n b h g room:Nat} {w:World} {L:List Sym} {N:List Nd} (hs:Sg n w b L) (p:HpB B w h g room N) {ao:Option Addr} {cap:Nat} {t:List Int} (ht:IntsAt w ao t) (hc:checkE L t=0) (hv:∀ x∈t,0≤x) (hf:N.length+t.length≤room) :
  Calls Tryz.prog 10 #[.pointer (some ⟨b,0,none⟩),.pointer (some ⟨h,0,none⟩),.slice ao t.length cap] w fun e w' => ∃ a:Nat,e=.returned (.tuple #[.int .i64 (a:Int),.nilIface])∧(layF N (t.map (tgT L))).2=[(a:Int)]∧HpB (fun b=>B b∨w.heap.size≤b) w' h g room (layF N (t.map (tgT L))).1∧Kept (fun k=>k=h∨k=g) w w' := by
 obtain ⟨h1,h2,h3⟩:=check_zero hc
 have C:=check_any (cap:=cap) hs ht (by unfold maxLen;omega)
 rw [hc] at C
 have hvr:varsL t=[]:=vars_none hv
 have HV:Hid (∀ w1,Same0 w w1→Calls Tryz.prog 39 #[.slice ao t.length cap] w1 fun e w' => ∃ v,e=.returned v∧Row w1.heap.size w' v []∧Same0 w1 w'):=fun w1 k1=>by have:=tvars_any (cap:=cap) (ht.same k1) (by omega);rw [hvr] at this;exact this
 have HR:Hid (∀ w1,Same0 w w1→Calls Tryz.prog 40 #[.pointer (some ⟨h,0,none⟩),.int .i64 (t.length:Int)] w1 fun e w' => e=.returned (.bool true)∧Same0 w1 w'):=fun w1 k1=>by have:=hasRoom_any (p.same k1) t.length;rw [show decide (N.length+t.length≤room)=true by simpa using hf] at this;exact this
 have HT:Hid (∀ w1,Same0 w w1→Calls Tryz.prog 43 #[.pointer (some ⟨b,0,none⟩),.slice ao t.length cap] w1 fun e w' => ∃ tb,e=.returned (.slice (some ⟨tb,0,none⟩) t.length t.length)∧w1.heap.size≤tb∧TgB w' tb (t.map (tgT L))∧Same0 w1 w'):=fun w1 k1=>thingsT_any (hs.same k1) (ht.same k1) h1 (fun x hx=>⟨hv x hx,(h2 x hx).1⟩)
 have HL:Hid (∀ w1 tb,Same0 w w1→TgB w1 tb (t.map (tgT L))→Calls Tryz.prog 42 #[.pointer (some ⟨h,0,none⟩),.slice (some ⟨tb,0,none⟩) t.length t.length] w1 fun e w' => ∃ a:Nat,e=.returned (.int .i64 (a:Int))∧(layF N (t.map (tgT L))).2=[(a:Int)]∧HpB (fun b=>B b∨w1.heap.size≤b) w' h g room (layF N (t.map (tgT L))).1∧Kept (fun k=>k=h∨k=g) w1 w'):=fun w1 tb k1 pt=>by
  have:=lay_any (p.same k1) t.length pt (one_term L t 1 h3) (ok_term hs.2 hv N.length) (by rw [new_term];exact hf) (by simp;omega)
  rw [List.length_map] at this
  exact this
 clear hs ht hc hvr hv p hf h2 h3
 go_enter Tryz.func10,Tryz.ntmps10
 go_wp2_with (first
  | (go_at_call 38;refine C.mono ?_;rintro e w1 ⟨rfl,k1⟩)
  | (go_at_call 39;refine (HV.out w1 k1).mono ?_;rintro e w2 ⟨v,rfl,hr,k2⟩;obtain ⟨vo,vc,rfl⟩:=row_shape hr;simp only [List.length_nil])
  | (go_at_call 40;refine (HR.out w2 (k1.trans' k2)).mono ?_;rintro e w3 ⟨rfl,k3⟩)
  | (go_at_call 43;refine (HT.out w3 ((k1.trans' k2).trans' k3)).mono ?_;rintro e w4 ⟨tb,rfl, -,pt,k4⟩)
  | (go_at_call 42;refine (HL.out w4 tb (((k1.trans' k2).trans' k3).trans' k4) pt).mono ?_;rintro e w5 ⟨a,rfl,ea,hp,k5⟩))
 go_ret2
 have kk:=((k1.trans' k2).trans' k3).trans' k4
 exact ⟨a,rfl,ea,hp.mono (fun q _ _ e=>e.imp id (fun e=>Nat.le_trans kk.size e)),(kk.mono (S' := fun k=>k=h∨k=g) (fun _ _ f=>f.elim)).trans k5 (fun _ _ e=>e)⟩
def BdY (L:List Sym) (N:List Nd) (room:Nat) (R:List (List (Int × List Int))) (rule node:Int) (l:List Tg):Prop:=
 ∃ (i j top:Nat) (hi:i<R.length),rule=(i:Int)∧node=(j:Int)∧Res N j top∧AllP L N (top:Int) R[i] l∧oneT 1 l=true∧N.length+newN l≤room
def BdE (L : List Sym) (N : List Nd) (room : Nat) (R : List (List (Int × List Int))) (rule node : Int) (c a y : Int) : Prop :=
  (¬ (0 ≤ rule ∧ rule < (R.length : Int)) ∧ c = 132 ∧ a = 0 ∧ y = 91) ∨
  ((0 ≤ rule ∧ rule < (R.length : Int)) ∧ ¬ (0 ≤ node ∧ node < (N.length : Int)) ∧ c = 132 ∧ a = 0 ∧ y = 112) ∨
  ∃ (i j top : Nat) (hi : i < R.length), rule = (i : Int) ∧ node = (j : Int) ∧ Res N j top ∧
    ((∃ k cc, BadP L N (top : Int) R[i] k cc ∧ c = 132 ∧ a = (k : Int) ∧ y = if cc = 14 then 14 else 0) ∨
     (∃ l, AllP L N (top : Int) R[i] l ∧ ((oneT 1 l = false ∧ c = 130 ∧ a = 0 ∧ y = 0) ∨ (oneT 1 l = true ∧ ¬ N.length + newN l ≤ room ∧ c = 131 ∧ a = 0 ∧ y = 111))))
def BldOut (B:Nat→Prop) (L:List Sym) (N:List Nd) (room h g:Nat) (R:List (List (Int × List Int))) (rule node:Int) (w:World) (e:Ending) (w' : World):Prop:=
 (∃ v c a y,e=.returned (.tuple #[.int .i64 0,v])∧FtAt w.heap.size w' v c a y∧BdE L N room R rule node c a y∧Same0 w w') ∨
 (∃ (l:List Tg) (a:Nat),e=.returned (.tuple #[.int .i64 (a:Int),.nilIface])∧BdY L N room R rule node l∧(layF N l).2=[(a:Int)]∧HpB (fun b=>B b∨w.heap.size≤b) w' h g room (layF N l).1∧Kept (fun k=>k=h∨k=g) w w')
theorem PtR.ok {L:List Sym} (ha:Ars L) {N:List Nd} {z:Int} (hz:0≤z∧z<(N.length:Int)) {p:Int × List Int} {x:Tg} (h:PtR L N z p x 0):TgOk N.length x∧(x.1=decide (0≤p.1)):=by
 rcases h with ⟨h1,h2,rfl,_⟩ | ⟨_,_,e⟩ | ⟨_,_,e⟩ | ⟨_,_,_,e⟩ | ⟨h1,y,h2,h3,rfl,_⟩
 ·have:=arN_le ha p.1
  exact ⟨⟨by simp [tgT],by simp [tgT];omega,fun _=>h1,fun q=>by cases q⟩,by simp [tgT,h1]⟩
 ·cases e
 ·cases e
 ·cases e
 ·have:=LdR.range (.inr hz) h2
  exact ⟨⟨by simp,by simp,fun q=>(by cases q),fun _=>⟨rfl,by simp only;omega,by simp only;omega⟩⟩,by rw [h1];simp⟩
theorem AllP.ok {L:List Sym} (ha:Ars L) {N:List Nd} {z:Int} (hz:0≤z∧z<(N.length:Int)) {Q:List (Int × List Int)} {l:List Tg} (h:AllP L N z Q l):∀ x∈l,TgOk N.length x:=fun x hx=>by
 obtain ⟨i,hi,rfl⟩:=List.mem_iff_getElem.1 hx
 exact (PtR.ok ha hz (h.2 i (by have:=h.1;omega) hi)).1
theorem AllP.count {L:List Sym} (ha:Ars L) {N:List Nd} {z:Int} (hz:0≤z∧z<(N.length:Int)):∀ {Q:List (Int × List Int)} {l:List Tg},AllP L N z Q l→newN l=wtG Q
 | [],[],_=>rfl
 | [],x :: l,h=>by have:=h.1;simp at this
 | p :: Q,[],h=>by have:=h.1;simp at this
 | p :: Q,x :: l,h=>by
  have ih:=AllP.count ha hz (Q:=Q) (l:=l) ⟨by have:=h.1;simpa using this,fun i h1 h2=>h.2 (i+1) (by simp;omega) (by simp;omega)⟩
  have h0:=(PtR.ok ha hz (h.2 0 (by simp) (by simp))).2
  simp only [List.getElem_cons_zero] at h0
  unfold newN wtG at *
  rw [List.countP_cons,List.countP_cons,ih,h0]
set_option maxHeartbeats 4000000 in
theorem build_any {B:Nat→Prop} {n sb:Nat} {L:List Sym} {w:World} {h g room:Nat} {N:List Nd} (hs:Sg n w sb L) (p:HpB B w h g room N) {ro:Option Addr} {rc:Nat} {R:List (List (Int × List Int))} (hR:RtAt w ro R) (io po eo:Option Addr) (il ic pl pc el ec:Nat) (rule node:Int) :
  Calls Tryz.prog 17 #[.pointer (some ⟨sb,0,none⟩),.agg #[.slice io il ic,.slice po pl pc,.slice eo el ec,.slice ro R.length rc],.pointer (some ⟨h,0,none⟩),.int .i64 rule,.int .i64 node] w fun e w' => BldOut B L N room h g R rule node w e w' := by
 obtain ⟨W0,hW0⟩:∃ W0,W0=w.alloc (.cells #[.slice io il ic,.slice po pl pc,.slice eo el ec,.slice ro R.length rc] 58):=⟨_,rfl⟩
 have k0:Same0 w W0:=by rw [hW0];exact (Kept.refl _ w).alloc _
 have h0:W0.heap[w.heap.size]? = some (.cells #[.slice io il ic,.slice po pl pc,.slice eo el ec,.slice ro R.length rc] 58 (0,0)):=by rw [hW0];exact heap_alloc_new w _
 obtain ⟨c0,c1,c2,c3⟩:=boxT4 h0
 by_cases hru:0≤rule∧rule<(R.length:Int)
 ·obtain ⟨i,rfl⟩:∃ i:Nat,rule=(i:Int):=⟨rule.toNat,by omega⟩
  have hi:i<R.length:=by omega
  have C1:=weightG_yes (rc:=rc) (hR.same k0) i hi io po eo il ic pl pc el ec
  by_cases hno:0≤node∧node<(N.length:Int)
  ·obtain ⟨j,rfl⟩:∃ j:Nat,node=(j:Int):=⟨node.toNat,by omega⟩
   have hj:j<N.length:=by omega
   have C2:Hid (∀ ww,Same0 W0 ww→Calls Tryz.prog 49 #[.pointer (some ⟨h,0,none⟩),.int .i64 (j:Int)] ww fun e w' => ∃ (c:Nat) (s:Int) (bo:Option Addr) (ln bc:Nat) (mk:Int) (pt:Bool) (tt:Int),e=.returned (.tuple #[.int .i64 (c:Int),.agg #[.int .i64 s,.slice bo ln bc,.int .i64 mk,.bool pt,.int .i64 tt],.int .i64 0])∧Res N j c∧Same0 ww w'):=fun ww hk=>(appl_yes (p.same (k0.trans' hk)) j hj).mono (fun e w' ⟨c,hc,bo,bc,e1,e2,_,_,e5⟩=>⟨c,_,bo,_,bc,_,_,_,e1,e2,e5⟩)
   obtain ⟨b,off,rfl,hb,hc⟩:=hR.resolve_left (fun e=>by rw [e] at hi;simp at hi)
   obtain ⟨go,gc,r0,r1,rl⟩:=hc i hi
   have C3:Hid (∀ ww (top:Nat),Same0 w ww→Calls Tryz.prog 50 #[.pointer (some ⟨sb,0,none⟩),.slice go R[i].length gc,.iface 67 (.agg #[.pointer (some ⟨h,0,none⟩)]),.int .i64 (top:Int)] ww fun e w' => PtsOut L N (top:Int) R[i] ww e w'):=fun ww top hk=>parts_any (hs.same hk) (p.same hk) _ (r1.same hk) rl
   have FC:Hid (∀ ww,Same0 W0 ww→ww.cell? ⟨w.heap.size,3,none⟩=some (.slice (some ⟨b,off,none⟩) R.length rc)∧ww.cell? ⟨b,off+i,none⟩=some (.slice go R[i].length gc)):=fun ww hk=>⟨cellAt (hk.at0 h0) 3,((k0.trans' hk).cell (p:=⟨b,off+i,none⟩) hb (fun f=>f)).trans r0⟩
   have C4:Hid (∀ ww tb l,Same0 w ww→TgB ww tb l→(∀ x∈l,TgOk N.length x)→l.length=R[i].length→Calls Tryz.prog 51 #[.slice (some ⟨tb,0,none⟩) R[i].length R[i].length] ww fun e w' => e=.returned (.bool (oneT 1 l))∧Same0 ww w'):=fun ww tb l hk pt hok hl=>by
    have:=isOne_any pt R[i].length (fun x hx=>⟨(hok x hx).1,(hok x hx).2.1⟩) (by omega)
    rw [hl] at this
    exact this
   have C5:Hid (∀ ww,Same0 w ww→Calls Tryz.prog 40 #[.pointer (some ⟨h,0,none⟩),.int .i64 (wtG R[i]:Int)] ww fun e w' => e=.returned (.bool (decide (N.length+wtG R[i]≤room)))∧Same0 ww w'):=fun ww hk=>hasRoom_any (p.same hk) _
   have C6:Hid (∀ ww tb l,Same0 w ww→TgB ww tb l→oneT 1 l=true→(∀ x∈l,TgOk N.length x)→N.length+newN l≤room→l.length=R[i].length→Calls Tryz.prog 42 #[.pointer (some ⟨h,0,none⟩),.slice (some ⟨tb,0,none⟩) R[i].length R[i].length] ww fun e w' => ∃ a:Nat,e=.returned (.int .i64 (a:Int))∧(layF N l).2=[(a:Int)]∧HpB (fun b=>B b∨ww.heap.size≤b) w' h g room (layF N l).1∧Kept (fun k=>k=h∨k=g) ww w'):=fun ww tb l hk pt h1 hok hr hl=>by
    have:=lay_any (p.same hk) R[i].length pt h1 hok hr (by omega)
    rw [hl] at this
    exact this
   have HA:Hid (Ars L):=hs.2
   have i1:(0:Int)≤(i:Int):=by omega
   have i2:(i:Int)<(R.length:Int):=by omega
   have EE:Hid (∀ top v c a y w', Res N j top→((∃ k cc,BadP L N (top:Int) R[i] k cc∧c=132∧a=(k:Int)∧y=if cc=14 then 14 else 0)∨(∃ l,AllP L N (top:Int) R[i] l∧((oneT 1 l=false∧c=130∧a=0∧y=0)∨(oneT 1 l=true∧¬ N.length+newN l≤room∧c=131∧a=0∧y=111))))→FtAt w.heap.size w' v c a y→Same0 w w' → BldOut B L N room h g R (i:Int) (j:Int) w (.returned (.tuple #[.int .i64 0,v])) w'):=fun top v c a y w' hr hh hf hk=>.inl ⟨v,c,a,y,rfl,hf,.inr (.inr ⟨i,j,top,hi,rfl,rfl,hr,hh⟩),hk⟩
   have YY:Hid (∀ (top:Nat) (l:List Tg) (a:Nat) (ww w' : World),Res N j top→AllP L N (top:Int) R[i] l→oneT 1 l=true→N.length+newN l≤room→(layF N l).2=[(a:Int)]→Same0 w ww→HpB (fun b=>B b∨ww.heap.size≤b) w' h g room (layF N l).1→Kept (fun k=>k=h∨k=g) ww w' → BldOut B L N room h g R (i:Int) (j:Int) w (.returned (.tuple #[.int .i64 (a:Int),.nilIface])) w'):=fun top l a ww w' hr ha h1 hro e1 hk hp hk2=>.inr ⟨l,a,rfl,⟨i,j,top,hi,rfl,rfl,hr,ha,h1,hro⟩,e1,hp.mono (fun q _ _ e=>e.imp id (fun e=>Nat.le_trans hk.size e)),(hk.mono (S' := fun k=>k=h∨k=g) (fun _ _ f=>f.elim)).trans hk2 (fun _ _ e=>e)⟩
   have K0:Hid (Same0 w W0):=k0
   clear hs p hR hc r0 r1 h0 hru hno k0 hb
   go_enter Tryz.func17,Tryz.ntmps17
   go_upto_region 1 with fail
   rw [← hW0]
   clear hW0
   go_upto_region 9 with (first
    | (go_at_call 48;refine C1.mono ?_;rintro e w1 ⟨rfl,k1⟩)
    | (go_at_call 49;refine (C2.out w1 k1).mono ?_;rintro e w2 ⟨top,s,bo,ln,bc,mk,pt,tt,rfl,hr,k2⟩))
   obtain ⟨X1,hX1⟩:∃ X1,X1=w2.alloc (.cells #[.int .i64 s,.slice bo ln bc,.int .i64 mk,.bool pt,.int .i64 tt] 86):=⟨_,rfl⟩
   have kx:Same0 W0 X1:=by rw [hX1];exact (k1.trans' k2).trans' ((Kept.refl _ _).alloc _)
   rw [← hX1]
   clear hX1 C1 C2 c0 c1 c2 c3
   have hrt:=hr.lt.2
   have KX:Hid (Same0 W0 X1.drew):=kx.trans' ((Kept.refl _ _).drew)
   obtain ⟨s0a,s0b⟩:=FC.out X1.drew KX.out
   have CO:=of_any (some ⟨h,0,none⟩) X1.drew
   have CP:Hid (∀ ww,Same0 X1.drew ww→Calls Tryz.prog 50 #[.pointer (some ⟨sb,0,none⟩),.slice go R[i].length gc,.iface 67 (.agg #[.pointer (some ⟨h,0,none⟩)]),.int .i64 (top:Int)] ww fun e w' => ∃ v1 v2,e=.returned (.tuple #[v1,v2])∧PtsOut L N (top:Int) R[i] ww (.returned (.tuple #[v1,v2])) w' ∧ Same0 ww w'):=fun ww hk=>(C3.out ww top ((K0.out.trans' KX.out).trans' hk)).mono (fun e w' hp=>by
    rcases hp with ⟨l,tb,rfl,q1,q2,q3,q4⟩ | ⟨k,c,v,rfl,q1,q2,q3⟩
    ·exact ⟨_,_,rfl,.inl ⟨l,tb,rfl,q1,q2,q3,q4⟩,q4⟩
    ·exact ⟨_,_,rfl,.inr ⟨k,c,v,rfl,q1,q2,q3⟩,q3⟩)
   have KD:Hid (∀ ww,Same0 X1.drew ww→Same0 w ww):=fun ww hk=>(K0.out.trans' KX.out).trans' hk
   have FD:Hid (∀ ww,Same0 X1.drew ww→ww.cell? ⟨w.heap.size,3,none⟩=some (.slice (some ⟨b,off,none⟩) R.length rc)∧ww.cell? ⟨b,off+i,none⟩=some (.slice go R[i].length gc)):=fun ww hk=>FC.out ww (KX.out.trans' hk)
   have HLT:Hid (0≤(top:Int)∧(top:Int)<(N.length:Int)):=by show _∧_;omega
   clear C3 FC KX kx k1 k2 hrt
   go_region_held3 (fun ww=>ww.cell? ⟨w.heap.size,3,none⟩=some (.slice (some ⟨b,off,none⟩) R.length rc)∧ww.cell? ⟨b,off+i,none⟩=some (.slice go R[i].length gc)) (with_reducible first | exact ⟨s0a,s0b⟩ | exact cc1 | exact cc2) (first
    | (go_at_call 20;refine CO.mono ?_;rintro e w4 ⟨rfl,k4⟩;have cc1:=FD.out w4 k4)
    | (go_at_call 50;refine (CP.out w4 k4).mono ?_;rintro e w5 ⟨v1,v2,rfl,hpo,k5⟩;have cc2:=FD.out w5 (Same0.trans' k4 k5)))
   have K5:Hid (Same0 w w5):=KD.out w5 (Same0.trans' k4 k5)
   have hz4:w.heap.size≤w4.heap.size:=(KD.out w4 k4).size
   clear CO CP KD FD cc1 cc2 s0a s0b k4 k5
   rcases hpo with ⟨l,tb,e,q1,q2,q3,q4⟩ | ⟨k,c,v,e,q1,q2,q3⟩
   ·simp only [Ending.returned.injEq,Value.tuple.injEq,Array.mk.injEq,List.cons.injEq,and_true] at e
    obtain ⟨rfl,rfl⟩:=e
    have hok:=AllP.ok HA.out HLT.out q1
    have hct:=AllP.count HA.out HLT.out q1
    have CI:=C4.out w5 tb l K5.out q3 hok q1.1
    cases h1:oneT 1 l with
    | false=>
     rw [h1] at CI
     have F1:Hid (∀ w6 w', Same0 w5 w6→w' = w6.alloc (.cells #[.int .i64 130,.int .i64 0,.nilIface] 99)→BldOut B L N room h g R (i:Int) (j:Int) w (.returned (.tuple #[.int .i64 0,.iface 97 (.pointer (some ⟨w6.heap.size,0,none⟩))])) w'):=fun w6 w' k6 hw=>EE.out top _ 130 0 0 w' hr (.inr ⟨l,q1,.inl ⟨h1,rfl,rfl,rfl⟩⟩) ⟨w6.heap.size,rfl,(K5.out.trans' k6).size,by rw [hw];exact heap_alloc_new w6 _⟩ (by rw [hw];exact (K5.out.trans' k6).trans' ((Kept.refl _ _).alloc _))
     clear EE YY C4 C5 C6 hok hct q1 q2 q3 q4 h1 hr
     go_wp2_with (first | (go_at_call 51;refine CI.mono ?_;rintro e w6 ⟨rfl,k6⟩))
     go_ret2
     exact F1.out w6 _ k6 rfl
    | true=>
     rw [h1] at CI
     by_cases hro:N.length+wtG R[i]≤room
     ·have C5' : Hid (∀ ww,Same0 w ww→Calls Tryz.prog 40 #[.pointer (some ⟨h,0,none⟩),.int .i64 (wtG R[i]:Int)] ww fun e w' => e=.returned (.bool true)∧Same0 ww w'):=fun ww hk=>by have:=C5.out ww hk;rw [show decide (N.length+wtG R[i]≤room)=true by simpa using hro] at this;exact this
      have C6' : Hid (∀ ww,Same0 w5 ww→Calls Tryz.prog 42 #[.pointer (some ⟨h,0,none⟩),.slice (some ⟨tb,0,none⟩) R[i].length R[i].length] ww fun e w' => ∃ a:Nat,e=.returned (.int .i64 (a:Int))∧BldOut B L N room h g R (i:Int) (j:Int) w (.returned (.tuple #[.int .i64 (a:Int),.nilIface])) w'):=fun ww hk=>(C6.out ww tb l (K5.out.trans' hk) (q3.same hk) h1 hok (by rw [hct];exact hro) q1.1).mono (fun e w' ⟨a,e1,e2,e3,e4⟩=>⟨a,e1,YY.out top l a ww w' hr q1 h1 (by rw [hct];exact hro) e2 (K5.out.trans' hk) e3 e4⟩)
      clear EE YY C4 C5 C6 hok hct q1 q2 q3 q4 h1 hr hro
      go_wp2_with (first
       | (go_at_call 51;refine CI.mono ?_;rintro e w6 ⟨rfl,k6⟩)
       | (go_at_call 40;refine (C5'.out w6 (K5.out.trans' k6)).mono ?_;rintro e w7 ⟨rfl,k7⟩)
       | (go_at_call 42;refine (C6'.out w7 (Same0.trans' k6 k7)).mono ?_;rintro e w8 ⟨a,rfl,hB⟩))
      go_ret2
      exact hB
     ·have C5' : Hid (∀ ww,Same0 w ww→Calls Tryz.prog 40 #[.pointer (some ⟨h,0,none⟩),.int .i64 (wtG R[i]:Int)] ww fun e w' => e=.returned (.bool false)∧Same0 ww w'):=fun ww hk=>by have:=C5.out ww hk;rw [show decide (N.length+wtG R[i]≤room)=false by simpa using hro] at this;exact this
      have F1:Hid (∀ w7 w' v,Same0 w w7→FtAt w7.heap.size w' v 131 0 111→Same0 w7 w' → BldOut B L N room h g R (i:Int) (j:Int) w (.returned (.tuple #[.int .i64 0,v])) w'):=fun w7 w' v k7 hf k8=>EE.out top v 131 0 111 w' hr (.inr ⟨l,q1,.inr ⟨h1,by rw [hct];exact hro,rfl,rfl,rfl⟩⟩) (hf.from k7.size) (k7.trans' k8)
      clear EE YY C4 C5 C6 hok hct q1 q2 q3 q4 h1 hr hro
      go_wp2_with (first
       | (go_at_call 51;refine CI.mono ?_;rintro e w6 ⟨rfl,k6⟩)
       | (go_at_call 40;refine (C5'.out w6 (K5.out.trans' k6)).mono ?_;rintro e w7 ⟨rfl,k7⟩)
       | (go_at_call 41;refine (full_any w7).mono ?_;rintro e w8 ⟨v,rfl,hf,k8⟩))
      go_ret2
      exact F1.out w7 w8 v ((K5.out.trans' k6).trans' k7) hf k8
   ·simp only [Ending.returned.injEq,Value.tuple.injEq,Array.mk.injEq,List.cons.injEq,and_true] at e
    obtain ⟨rfl,rfl⟩:=e
    have F1:Hid (BldOut B L N room h g R (i:Int) (j:Int) w (.returned (.tuple #[.int .i64 0,v2])) w5):=EE.out top v2 132 k _ w5 hr (.inl ⟨k,c,q1,rfl,rfl,rfl⟩) (q2.from hz4) K5.out
    obtain ⟨fb,rfl, -, -⟩:=q2
    clear EE YY C4 C5 C6 q1 q3 hr
    go_wp2
    go_ret2
    exact F1.out
  ·have C2:Hid (∀ ww,Same0 W0 ww→Calls Tryz.prog 49 #[.pointer (some ⟨h,0,none⟩),.int .i64 node] ww fun e w' => e=.returned (.tuple #[.int .i64 0,nodeV (0,[],0,false,0) none 0,.int .i64 112])∧Same0 ww w'):=fun ww hk=>appl_no (p.same (k0.trans' hk)) node hno
   have EE:Hid (∀ v w', FtAt w.heap.size w' v 132 0 112→Same0 w w' → BldOut B L N room h g R (i:Int) node w (.returned (.tuple #[.int .i64 0,v])) w'):=fun v w' hf hk=>.inl ⟨v,132,0,112,rfl,hf,.inr (.inl ⟨hru,hno,rfl,rfl,rfl⟩),hk⟩
   have K0:Hid (Same0 w W0):=k0
   clear hs p hR h0 hru hno k0
   go_enter Tryz.func17,Tryz.ntmps17
   go_upto_region 1 with fail
   rw [← hW0]
   clear hW0
   go_wp2_with (first
    | (go_at_call 48;refine C1.mono ?_;rintro e w1 ⟨rfl,k1⟩)
    | (go_at_call 49;refine (C2.out w1 k1).mono ?_;rintro e w2 ⟨rfl,k2⟩))
   go_ret2
   have kk:=(K0.out.trans' k1).trans' k2
   refine EE.out _ _ ⟨w2.heap.size+1,rfl,by have:=kk.size;omega,?_⟩ (kk.trans' (((Kept.refl _ _).alloc _).alloc _))
   have:=heap_alloc_new (w2.alloc (.cells #[.int .i64 0,.slice none 0 0,.int .i64 0,.bool false,.int .i64 0] 86)) (.cells #[.int .i64 132,.int .i64 0,.iface 40 (.int .i64 112)] 99)
   simpa [whyV] using this
 ·have C1:=weightG_no (w:=W0) (ro:=ro) (rc:=rc) rule hru io po eo il ic pl pc el ec
  have EE:Hid (∀ v w', FtAt w.heap.size w' v 132 0 91→Same0 w w' → BldOut B L N room h g R rule node w (.returned (.tuple #[.int .i64 0,v])) w'):=fun v w' hf hk=>.inl ⟨v,132,0,91,rfl,hf,.inl ⟨hru,rfl,rfl,rfl⟩,hk⟩
  have K0:Hid (Same0 w W0):=k0
  clear hs p hR h0 hru k0
  go_enter Tryz.func17,Tryz.ntmps17
  go_upto_region 1 with fail
  rw [← hW0]
  clear hW0
  go_wp2_with (first | (go_at_call 48;refine C1.mono ?_;rintro e w1 ⟨rfl,k1⟩))
  go_ret2
  have kk:=K0.out.trans' k1
  exact EE.out _ _ ⟨w1.heap.size,rfl,kk.size,heap_alloc_new w1 _⟩ (kk.trans' ((Kept.refl _ _).alloc _))
end Go.Proofs.YtpimndkhoalaeaaGreat
namespace Go.Proofs.YtpimndkhoalaeaaGreat
set_option linter.unusedVariables false
theorem ArR.uniq {N:List Nd} {z n u u' : Int} (h:ArR N z n u) (h' : ArR N z n u'):u=u' := by
 rcases h with ⟨i,b,c,hb,hn,e1,e2,e3,e4,rfl⟩ | ⟨rfl,hno⟩
 ·rcases h' with ⟨i', b', c', hb', hn', f1,f2,f3,f4,rfl⟩ | ⟨rfl,hno'⟩
  ·obtain rfl:i=i' := by omega
   obtain rfl:=e2.uniq f2
   obtain rfl:=e4.uniq f4
   rfl
  ·exact absurd ⟨i,b,hb,e1,e2,e3,by omega⟩ hno'
 ·rcases h' with ⟨i', b', c', hb', hn', f1,f2,f3,f4,rfl⟩ | ⟨rfl,hno'⟩
  ·exact absurd ⟨i', b', hb', f1,f2,f3,by omega⟩ hno
  ·rfl
theorem LdR.uniq {N:List Nd}:∀ {p:List Int} {z y y' : Int},LdR N z p y→LdR N z p y' → y=y'
 | [],z,y,y', h,h' => by rw [show y=z from h,show y' = z from h']
 | n :: p,z,y,y', ⟨u,h1,h2⟩,⟨u', h1', h2'⟩=>by
  obtain rfl:=h1.uniq h1'
  exact h2.uniq h2'
theorem PtR.uniq {L:List Sym} {N:List Nd} {z:Int} {p:Int × List Int} {x x' : Tg} {e e' : Int} (h:PtR L N z p x e) (h' : PtR L N z p x' e'):x=x' ∧ e=e' := by
 rcases h with ⟨h1,h2,rfl,rfl⟩ | ⟨h1,rfl,rfl⟩ | ⟨h1,rfl,rfl⟩ | ⟨h1,h2,rfl,rfl⟩ | ⟨h1,y,h2,h3,rfl,rfl⟩ <;>
 rcases h' with ⟨g1,g2,rfl,rfl⟩ | ⟨g1,rfl,rfl⟩ | ⟨g1,rfl,rfl⟩ | ⟨g1,g2,rfl,rfl⟩ | ⟨g1,y', g2,g3,rfl,rfl⟩ <;> first
  | exact ⟨rfl,rfl⟩
  | (exfalso;omega)
  | (exfalso;exact g3 (g2.uniq h2))
  | (exfalso;exact h3 (h2.uniq g2))
  | (obtain rfl:=h2.uniq g2;exact ⟨rfl,rfl⟩)
theorem AllP.uniq {L:List Sym} {N:List Nd} {z:Int} {Q:List (Int × List Int)} {l l' : List Tg} (h:AllP L N z Q l) (h' : AllP L N z Q l'):l=l' := by
 have e1:=h.1
 have e2:=h'.1
 refine List.ext_getElem (by omega) (fun i h1 h2=>((h.2 i (by omega) h1).uniq (h'.2 i (by omega) h2)).1)
theorem AllP.notBad {L:List Sym} {N:List Nd} {z:Int} {Q:List (Int × List Int)} {l:List Tg} {k:Nat} {c:Int} (h:AllP L N z Q l) (h' : BadP L N z Q k c):False:=by
 obtain ⟨hc,l', hk,x,e1,e2,e3⟩:=h'
 exact hc (((h.2 k hk (by have:=h.1;omega)).uniq e3).2).symm
theorem BadP.uniq {L:List Sym} {N:List Nd} {z:Int} {Q:List (Int × List Int)} {k k' : Nat} {c c' : Int} (h:BadP L N z Q k c) (h' : BadP L N z Q k' c'):k=k' ∧ c=c' := by
 obtain ⟨hc,l,hk,x,e1,e2,e3⟩:=h
 obtain ⟨hc', l', hk', x', f1,f2,f3⟩:=h'
 have hkk:k=k' := by
  rcases Nat.lt_trichotomy k k' with q | q | q
  ·exact absurd ((f2 k hk (by omega)).uniq e3).2.symm hc
  ·exact q
  ·exact absurd ((e2 k' hk' (by omega)).uniq f3).2.symm hc'
 subst hkk
 exact ⟨rfl,(e3.uniq f3).2⟩
theorem BdY.uniq {L:List Sym} {N:List Nd} {room:Nat} {R:List (List (Int × List Int))} {rule node:Int} {l l' : List Tg} (h:BdY L N room R rule node l) (h' : BdY L N room R rule node l'):l=l' := by
 obtain ⟨i,j,top,hi,e1,e2,e3,e4,_⟩:=h
 obtain ⟨i', j', top', hi', f1,f2,f3,f4,_⟩:=h'
 obtain rfl:i=i' := by omega
 obtain rfl:j=j' := by omega
 obtain rfl:=e3.uniq f3
 exact e4.uniq f4
theorem BdY.notE {L:List Sym} {N:List Nd} {room:Nat} {R:List (List (Int × List Int))} {rule node:Int} {l:List Tg} {c a y:Int} (h:BdY L N room R rule node l) (h' : BdE L N room R rule node c a y):False:=by
 obtain ⟨i,j,top,hi,e1,e2,e3,e4,e5,e6⟩:=h
 rcases h' with ⟨q,_⟩ | ⟨_,q,_⟩ | ⟨i', j', top', hi', f1,f2,f3,f4⟩
 ·exact q (by omega)
 ·have:=e3.lt.1;exact q (by omega)
 ·obtain rfl:i=i' := by omega
  obtain rfl:j=j' := by omega
  obtain rfl:=e3.uniq f3
  rcases f4 with ⟨k,cc,g1,_⟩ | ⟨l', g1,⟨g2,_⟩ | ⟨_,g2,_⟩⟩
  ·exact e4.notBad g1
  ·obtain rfl:=e4.uniq g1;rw [e5] at g2;cases g2
  ·obtain rfl:=e4.uniq g1;exact g2 e6
theorem BdE.uniq {L:List Sym} {N:List Nd} {room:Nat} {R:List (List (Int × List Int))} {rule node:Int} {c a y c' a' y' : Int} (h:BdE L N room R rule node c a y) (h' : BdE L N room R rule node c' a' y'):c=c' ∧ a=a' ∧ y=y' := by
 rcases h with ⟨q,rfl,rfl,rfl⟩ | ⟨q0,q,rfl,rfl,rfl⟩ | ⟨i,j,top,hi,e1,e2,e3,e4⟩
 ·rcases h' with ⟨p,rfl,rfl,rfl⟩ | ⟨p0,p,_⟩ | ⟨i', j', top', hi', f1,f2,f3,f4⟩
  ·exact ⟨rfl,rfl,rfl⟩
  ·exact absurd p0 q
  ·exact absurd (by omega) q
 ·rcases h' with ⟨p,_⟩ | ⟨p0,p,rfl,rfl,rfl⟩ | ⟨i', j', top', hi', f1,f2,f3,f4⟩
  ·exact absurd q0 p
  ·exact ⟨rfl,rfl,rfl⟩
  ·have:=f3.lt.1;exact absurd (by omega) q
 ·rcases h' with ⟨p,_⟩ | ⟨p0,p,_⟩ | ⟨i', j', top', hi', f1,f2,f3,f4⟩
  ·exact absurd (by omega) p
  ·have:=e3.lt.1;exact absurd (by omega) p
  ·obtain rfl:i=i' := by omega
   obtain rfl:j=j' := by omega
   obtain rfl:=e3.uniq f3
   rcases e4 with ⟨k,cc,g1,rfl,rfl,rfl⟩ | ⟨l,g1,g2⟩
   ·rcases f4 with ⟨k', cc', d1,rfl,rfl,rfl⟩ | ⟨l', d1,_⟩
    ·obtain ⟨rfl,rfl⟩:=g1.uniq d1;exact ⟨rfl,rfl,rfl⟩
    ·exact (d1.notBad g1).elim
   ·rcases f4 with ⟨k', cc', d1,_⟩ | ⟨l', d1,d2⟩
    ·exact (g1.notBad d1).elim
    ·obtain rfl:=g1.uniq d1
     rcases g2 with ⟨g2,rfl,rfl,rfl⟩ | ⟨g2,_,rfl,rfl,rfl⟩ <;> rcases d2 with ⟨d2,rfl,rfl,rfl⟩ | ⟨d2,_,rfl,rfl,rfl⟩
     ·exact ⟨rfl,rfl,rfl⟩
     ·rw [g2] at d2;cases d2
     ·rw [g2] at d2;cases d2
     ·exact ⟨rfl,rfl,rfl⟩
theorem BldOut.yes {B:Nat→Prop} {L:List Sym} {N:List Nd} {room h g:Nat} {R:List (List (Int × List Int))} {rule node:Int} {w w' : World} {e:Ending} {l:List Tg} (hb:BldOut B L N room h g R rule node w e w') (hy:BdY L N room R rule node l) :
  ∃ a:Nat,e=.returned (.tuple #[.int .i64 (a:Int),.nilIface])∧(layF N l).2=[(a:Int)]∧HpB (fun b=>B b∨w.heap.size≤b) w' h g room (layF N l).1∧Kept (fun k=>k=h∨k=g) w w' := by
 rcases hb with ⟨v,c,a,y,_,_,he,_⟩ | ⟨l', a,e1,e2,e3,e4,e5⟩
 ·exact (hy.notE he).elim
 ·obtain rfl:=hy.uniq e2
  exact ⟨a,e1,e3,e4,e5⟩
theorem BldOut.err {B:Nat→Prop} {L:List Sym} {N:List Nd} {room h g:Nat} {R:List (List (Int × List Int))} {rule node:Int} {w w' : World} {e:Ending} {c a y:Int} (hb:BldOut B L N room h g R rule node w e w') (hy:BdE L N room R rule node c a y) :
  ∃ v,e=.returned (.tuple #[.int .i64 0,v])∧FtAt w.heap.size w' v c a y∧Same0 w w' := by
 rcases hb with ⟨v,c', a', y', e1,e2,he,e3⟩ | ⟨l', a', e1,e2,e3,e4,e5⟩
 ·obtain ⟨rfl,rfl,rfl⟩:=hy.uniq he
  exact ⟨v,e1,e2,e3⟩
 ·exact (e2.notE hy).elim
end Go.Proofs.YtpimndkhoalaeaaGreat
namespace Go.Proofs.YtpimndkhoalaeaaGreat
set_option maxRecDepth 100000
set_option linter.unusedVariables false
open Go.RowKit
attribute [local go_sem ↓] Go.wp_at_zero Go.wp_at_succ
structure RfI (w wr:World) (h g room:Nat) (v:Value) (l:List Nd) (k:Nat):Prop where
 box:wr.heap[h]? = some (.cells #[.slice (some ⟨g,0,none⟩) room room,v] 127 (0,0))
 blk:∃ cs,wr.heap[g]? = some (.cells cs 86 (0,0))∧cs.size=room * 5
 each:∀ i (hi:i<l.length),i<k→NdC (fun b=>w.heap.size≤b) wr g (i * 5) l[i]
 kp:Kept (fun b=>b=g) w wr
theorem RfI.cells {w wr:World} {h g room k:Nat} {v:Value} {l:List Nd} (p:RfI w wr h g room v l k):wr.cell? ⟨h,0,none⟩=some (.slice (some ⟨g,0,none⟩) room room):=cellAt p.box 0
theorem RfI.same {w wr w' : World} {h g room k:Nat} {v:Value} {l:List Nd} (p:RfI w wr h g room v l k) (hk:Same0 wr w'):RfI w w' h g room v l k:=by
 obtain ⟨cs,h1,h2⟩:=p.blk
 exact ⟨hk.at0 p.box,⟨cs,hk.at0 h1,h2⟩,fun i hi hik=>(p.each i hi hik).kept (lt_of_at h1) hk (fun f=>f) (fun _ _ f=>f.elim),p.kp.trans hk (fun _ _ f=>f.elim)⟩
theorem RfI.there {w wr:World} {h g room k:Nat} {v:Value} {l:List Nd} (p:RfI w wr h g room v l k) {i:Nat} (hi:i<room):(∃ u0 u1 u2 u3 u4,wr.cell? ⟨g,i * 5,none⟩=some u0∧wr.cell? ⟨g,i * 5+1,none⟩=some u1∧wr.cell? ⟨g,i * 5+2,none⟩=some u2∧wr.cell? ⟨g,i * 5+3,none⟩=some u3∧wr.cell? ⟨g,i * 5+4,none⟩=some u4)∧∀ o,wr.frozen? ⟨g,o,none⟩=false:=by
 obtain ⟨cs,h1,h2⟩:=p.blk
 have t:∀ o,o<cs.size→wr.cell? ⟨g,o,none⟩=some cs[o]! := fun o ho=>by rw [cellAt h1];simp [ho]
 exact ⟨⟨_,_,_,_,_,t _ (by omega),t _ (by omega),t _ (by omega),t _ (by omega),t _ (by omega)⟩,fun o=>frozenAt h1 o⟩
theorem RfI.put {w wr w3:World} {h g room k:Nat} {v:Value} {l:List Nd} (p:RfI w wr h g room v l k) (hne:h≠g) (hk:Same0 wr w3) (hl:k<l.length) (hr:k<room) {bo:Option Addr} {bc:Nat} (ha:ArgT w3 bo l[k].2.1 bc) (hb:∀ a,bo=some a→w.heap.size≤a.block) :
  RfI w (put5 w3 g (k * 5) (.int .i64 l[k].1) (.slice bo l[k].2.1.length bc) (.int .i64 l[k].2.2.1) (.bool l[k].2.2.2.1) (.int .i64 l[k].2.2.2.2)) h g room v l (k+1):=by
 have p3:=p.same hk
 have hkl:(l.take k).length=k:=by simp;omega
 obtain ⟨q1,q2,q3⟩:=put5_nodes (B:=fun b=>w.heap.size≤b) (B' := fun b=>w.heap.size≤b) (l:=l.take k) (i:=k) (x:=l[k]) (ao:=bo) (ac:=bc) p3.blk (fun i hi=>by
  have hi' : i<k:=by omega
  have:=p3.each i (by omega) hi'
  simpa using this) hr ha hb (fun _ e=>e)
 have K:=put5_kept w3 g (k * 5) (.int .i64 l[k].1) (.slice bo l[k].2.1.length bc) (.int .i64 l[k].2.2.1) (.bool l[k].2.2.2.1) (.int .i64 l[k].2.2.2.2)
 refine ⟨K.at p3.box hne,q2,fun i hi hik=>?_,p3.kp.trans K (fun _ _ e=>e)⟩
 by_cases e:i=k
 ·subst e;exact q1
 ·have:=q3 i (by omega) e
  simpa using this
theorem setCells_kept (g:Nat):∀ (vs:List Value) (o:Nat) (w:World),Kept (fun k=>k=g) w (w.setCells g o vs)∧∀ cs t fr,w.heap[g]? = some (.cells cs t fr)→∃ cs', (w.setCells g o vs).heap[g]? = some (.cells cs' t fr)∧cs'.size=cs.size
 | [],o,w=>⟨Kept.refl _ _,fun cs t fr h=>⟨cs,h,rfl⟩⟩
 | v :: r,o,w=>by
  obtain ⟨h1,h2⟩:=setCells_kept g r (o+1) (w.setCell ⟨g,o,none⟩ v)
  have k:Kept (fun k=>k=g) w (w.setCell ⟨g,o,none⟩ v):=Kept.setCell (S:=fun k=>k=g) (Kept.refl _ _) (p:=⟨g,o,none⟩) (fun _=>rfl) v
  refine ⟨k.trans h1 (fun _ _ e=>e),fun cs t fr h=>?_⟩
  obtain ⟨cs', q1,q2⟩:=h2 _ t fr (setAt h o v)
  exact ⟨cs', q1,by rw [q2];simp⟩
theorem RfI.cleared {w wr:World} {h g room:Nat} {v:Value} {l:List Nd} (p:RfI w wr h g room v l l.length) (hne:h≠g) (vs:List Value):RfI w (wr.setCells g (l.length * 5) vs) h g room v l l.length:=by
 obtain ⟨cs,h1,h2⟩:=p.blk
 obtain ⟨k,q⟩:=setCells_kept g vs (l.length * 5) wr
 obtain ⟨cs', q1,q2⟩:=q cs _ _ h1
 have gi:∀ j,j=g→NotI wr j:=fun j e cur hc=>by rw [e,h1] at hc;cases hc
 refine ⟨k.at p.box hne,⟨cs', q1,by rw [q2,h2]⟩,fun i hi hik=>?_,p.kp.trans k (fun _ _ e=>e)⟩
 obtain ⟨ao,ac,n0,n1,n2,n3,n4,n5,n6⟩:=p.each i hi hik
 have t:∀ o,o<l.length * 5→(wr.setCells g (l.length * 5) vs).cell? ⟨g,o,none⟩=wr.cell? ⟨g,o,none⟩:=fun o ho=>World.cell?_setCells_out g vs _ _ _ (fun _ _=>.inl ho)
 exact ⟨ao,ac,(t _ (by omega)).trans n0,(t _ (by omega)).trans n1,(t _ (by omega)).trans n2,(t _ (by omega)).trans n3,(t _ (by omega)).trans n4,n5.kept k gi,n6⟩
theorem RfI.done {w wr:World} {h g room:Nat} {v:Value} {l:List Nd} (p:RfI w wr h g room v l l.length) (hne:h≠g) (h1:1≤room) (h2:room≤4000) (hl:l.length≤room) (hm:∀ x∈l,mayB l.length x=true) (ha:Ac l) :
  HpB (fun b=>w.heap.size≤b) (wr.setCell ⟨h,1,none⟩ (.int .i64 (l.length:Int))) h g room l∧Kept (fun k=>k=h∨k=g) w (wr.setCell ⟨h,1,none⟩ (.int .i64 (l.length:Int))):=by
 obtain ⟨cs,q1,q2⟩:=p.blk
 have k:Kept (fun k=>k=h) wr (wr.setCell ⟨h,1,none⟩ (.int .i64 (l.length:Int))):=Kept.setCell (S:=fun k=>k=h) (Kept.refl _ _) (p:=⟨h,1,none⟩) (fun _=>rfl) _
 have hi:∀ j,j=h→NotI wr j:=fun j e cur hc=>by rw [e,p.box] at hc;cases hc
 refine ⟨⟨?_,⟨cs,k.at q1 (fun e=>hne e.symm),q2⟩,h1,h2,hl,fun i hi' => (p.each i hi' hi').kept (lt_of_at q1) k (fun e=>hne e.symm) (fun j _ e=>hi j e),hm,ha⟩,?_⟩
 ·have:=setAt p.box 1 (.int .i64 (l.length:Int))
  simpa using this
 ·exact (p.kp.mono (fun _ _ e=>.inr e)).trans k (fun _ _ e=>.inl e)
theorem zero_one (n:Nat):∀ v∈(Builtin.zeroCells #[Value.int .i64 0,.slice none 0 0,.int .i64 0,.bool false,.int .i64 0] n).toList,v.oneCell' = true:=by
 intro v hv
 unfold Builtin.zeroCells at hv
 simp at hv
 obtain ⟨i,hi,rfl⟩:=hv
 have:i % 5<5:=Nat.mod_lt _ (by decide)
 match q:i % 5,this with
 | 0,_=>rfl
 | 1,_=>rfl
 | 2,_=>rfl
 | 3,_=>rfl
 | 4,_=>rfl
theorem run_clear_nodes (w:World) (ty:TypeId) (g o m c:Nat) (hm:0<m) (hc:∀ j,j<m * 5→(w.cell? ⟨g,o+j,none⟩).isSome=true) (hf:∀ j,j<m * 5→w.frozen? ⟨g,o+j,none⟩=false) :
  (Builtin.clear_ #[23] ty #[.slice (some ⟨g,o,none⟩) m c]).run Tryz.prog w=.ok (.tuple #[]) (w.setCells g o (Builtin.zeroCells #[Value.int .i64 0,.slice none 0 0,.int .i64 0,.bool false,.int .i64 0] m).toList):=by
 have hlen:(Builtin.zeroCells #[Value.int .i64 0,.slice none 0 0,.int .i64 0,.bool false,.int .i64 0] m).toList.length=m * 5:=by simp [Builtin.zeroCells]
 have hst:=run_storeCells_cells (P:=Tryz.prog) g o (Builtin.zeroCells #[Value.int .i64 0,.slice none 0 0,.int .i64 0,.bool false,.int .i64 0] m).toList 0 w (by rw [hlen];simpa using hc) (by rw [hlen];simpa using hf) (zero_one m)
 simp only [Nat.add_zero] at hst
 obtain ⟨k,rfl⟩:∃ k,m=k+1:=⟨m-1,by omega⟩
 have hcl:(Value.agg #[.int .i64 0,.slice none 0 0,.int .i64 0,.bool false,.int .i64 0]).cells = #[Value.int .i64 0,.slice none 0 0,.int .i64 0,.bool false,.int .i64 0]:=rfl
 simp [Builtin.clear_,run_underlying Tryz.underlying23,hcl,hst]
set_option maxHeartbeats 1000000 in
theorem refill_yes {B:Nat→Prop} {w:World} {h g room:Nat} {l:List Nd} (p:HpB B w h g room l) {ao:Option Addr} {ac:Nat} {l' : List Nd} (hs:NsV (fun b=>b≠g) w ao l') (hE:RfE room l' 0) :
  Calls Tryz.prog 36 #[.pointer (some ⟨h,0,none⟩),.slice ao l'.length ac] w fun e w' => e=.returned (.int .i64 0)∧HpB (fun b=>w.heap.size≤b) w' h g room l' ∧ Kept (fun k=>k=h∨k=g) w w' := by
 obtain ⟨a,b,c⟩:l'.length≤room∧l'.all (mayB l'.length)=true∧Ac l' := by
  rcases hE with ⟨_,e⟩ | ⟨_,_,e⟩ | ⟨_,_,_,e⟩ | ⟨a,b,c,_⟩
  ·cases e
  ·cases e
  ·cases e
  ·exact ⟨a,b,c⟩
 obtain ⟨c0,c1⟩:=p.cells
 have hr1:=p.rm1
 have hr2:=p.rm2
 have hne:=p.ne
 have j1:¬ (room:Int)<(l'.length:Int):=by omega
 have CS:=shaped_any (ac:=ac) hs.weak (by omega)
 obtain ⟨f1,f2,f3⟩:=few_of_may b
 have CR:Hid (∀ ww,Same0 w ww→Calls Tryz.prog 67 #[.slice ao l'.length ac] ww fun e w' => RingQ l' ww e w'):=fun ww hk=>ringed_any (hs.same hk).weak f2 f3 (by omega)
 have HAC:Hid (Ac l'):=c
 have HF1:Hid (∀ x∈l', mayB l'.length x=true):=f1
 have HF3:Hid (∀ x∈l', x.2.1.length≤6):=f3
 have HI0:Hid (∀ ww,Same0 w ww→RfI w ww h g room (.int .i64 (l.length:Int)) l' 0):=fun ww hk=>by
  obtain ⟨cs,h1,h2⟩:=p.blk
  exact ⟨hk.at0 p.box,⟨cs,hk.at0 h1,h2⟩,fun i _ hi=>absurd hi (Nat.not_lt_zero _),hk.mono (fun _ _ f=>f.elim)⟩
 have HGI:Hid (∀ k,k=g→NotI w k):=fun k e cur hc=>by
  obtain ⟨cs,h1,h2⟩:=p.blk
  rw [e,h1] at hc;cases hc
 have HNS:Hid (∀ ww,Kept (fun k=>k=g) w ww→∀ j (hj:j<l'.length),∃ nb noff xo xc,ao=some ⟨nb,noff,none⟩∧ww.cell? ⟨nb,noff+j * 5,none⟩=some (.int .i64 l'[j].1)∧ww.cell? ⟨nb,noff+j * 5+1,none⟩=some (.slice xo l'[j].2.1.length xc)∧ww.cell? ⟨nb,noff+j * 5+2,none⟩=some (.int .i64 l'[j].2.2.1)∧ww.cell? ⟨nb,noff+j * 5+3,none⟩=some (.bool l'[j].2.2.2.1)∧ww.cell? ⟨nb,noff+j * 5+4,none⟩=some (.int .i64 l'[j].2.2.2.2)∧Arg ww xo l'[j].2.1 xc):=fun ww hk j hj=>by
  rcases hs.kept hk (fun _ q t=>q t) with e | ⟨nb,noff,e, -, -,hn⟩
  ·rw [e] at hj;simp at hj
  ·obtain ⟨xo,xc,n0,n1,n2,n3,n4,n5, -⟩:=hn j hj
   exact ⟨nb,noff,xo,xc,e,n0,n1,n2,n3,n4,n5⟩
 rw [b] at CS
 have l0:(0:Int)≤(l'.length:Int):=by omega
 have l1:(l'.length:Int)≤(room:Int):=by omega
 clear hs b f1 f2 f3 c hE
 go_enter Tryz.func36,Tryz.ntmps36
 go_upto_region 7 with (first | (go_at_call 66;refine CS.mono ?_;rintro e w1 ⟨rfl,k1⟩))
 have CR1:=CR.out w1 k1
 clear CR CS
 go_upto_region 10 with (first | (go_at_call 67;refine CR1.mono ?_;rintro e w2 ⟨b,rfl,hb,k2⟩;obtain rfl:b=false:=(by cases b;rfl;exact absurd HAC.out (hb.1 rfl))))
 have HI2:Hid (RfI w w2 h g room (.int .i64 (l.length:Int)) l' 0):=HI0.out w2 (k1.trans' k2)
 have hw2:=(k1.trans' k2).size
 clear CR1 hb k1 k2 c0 c1 HI0
 go_loopw [28] (fun i wr=>∃ k:Nat,i=.int .i64 (k:Int)∧k≤l'.length∧Hid (RfI w wr h g room (.int .i64 (l.length:Int)) l' k)) (fun i _=>l'.length-(intOf i).toNat)
 case atStart=>exact ⟨0,rfl,Nat.zero_le _,HI2⟩
 case round=>
  clear HI2
  obtain ⟨k,rfl,hk,HI⟩:=hrel
  by_cases hlt:k<l'.length
  ·have j2:(k:Int)<(l'.length:Int):=by omega
   have j3:(0:Int)≤(k:Int):=by omega
   have j4:(k:Int)<(room:Int):=by omega
   have hkr:k<room:=by omega
   obtain ⟨nb,noff,xo,xc,rfl,n0,n1,n2,n3,n4,n5⟩:=HNS.out wr HI.out.kp k hlt
   obtain ⟨W3,hW3⟩:∃ W3,W3=wr.alloc (.cells #[.int .i64 l'[k].1,.slice xo l'[k].2.1.length xc,.int .i64 l'[k].2.2.1,.bool l'[k].2.2.2.1,.int .i64 l'[k].2.2.2.2] 86):=⟨_,rfl⟩
   have kb:Same0 wr W3:=by rw [hW3];exact (Kept.refl _ _).alloc _
   have kd:Same0 wr W3.drew:=kb.drew
   obtain ⟨x0,x1,x2,x3,x4⟩:=box_node' wr l'[k] xo xc (show Same0 _ W3.drew by rw [hW3];exact (Kept.refl _ _).drew)
   have c0:=(HI.out.same kd).cells
   have h6:=HF3.out _ (List.getElem_mem hlt)
   have CC:=copied_any (x:=l'[k]) (ac:=xc) (n5.onto kd) (by omega)
   have HP:Hid (∀ w3 bo bc,Same0 wr w3→ArgT w3 bo l'[k].2.1 bc→(∀ a,bo=some a→w.heap.size≤a.block)→RfI w (put5 w3 g (k * 5) (.int .i64 l'[k].1) (.slice bo l'[k].2.1.length bc) (.int .i64 l'[k].2.2.1) (.bool l'[k].2.2.2.1) (.int .i64 l'[k].2.2.2.2)) h g room (.int .i64 (l.length:Int)) l' (k+1)):=fun w3 bo bc hk3 ha hb=>HI.out.put hne hk3 hlt hkr ha hb
   have HSZ:Hid (w.heap.size≤W3.drew.heap.size):=Nat.le_trans HI.out.kp.size kd.size
   have HT:Hid (∀ w3,Same0 wr w3→(∃ u0 u1 u2 u3 u4,w3.cell? ⟨g,k * 5,none⟩=some u0∧w3.cell? ⟨g,k * 5+1,none⟩=some u1∧w3.cell? ⟨g,k * 5+2,none⟩=some u2∧w3.cell? ⟨g,k * 5+3,none⟩=some u3∧w3.cell? ⟨g,k * 5+4,none⟩=some u4)∧(∀ o,w3.frozen? ⟨g,o,none⟩=false)∧w3.cell? ⟨h,0,none⟩=some (.slice (some ⟨g,0,none⟩) room room)):=fun w3 hk3=>⟨((HI.out.same hk3).there hkr).1,((HI.out.same hk3).there hkr).2,(HI.out.same hk3).cells⟩
   clear n5 kb
   go_upto_region 12 with fail
   rw [← hW3]
   clear hW3 n0 n1 n2 n3 n4
   go_region_with (first | (go_at_call 62;refine CC.mono ?_;rintro e w5 ⟨bo,bc,rfl,ha,hbb,hk5⟩;have K5:=kd.trans' hk5;obtain ⟨⟨u0,u1,u2,u3,u4,t0,t1,t2,t3,t4⟩,ff,cc1⟩:=HT.out w5 K5;have f0:=ff (k * 5);have f1:=ff (k * 5+1);have f2:=ff (k * 5+2);have f3:=ff (k * 5+3);have f4:=ff (k * 5+4);clear ff))
   all_goals
    have HN:Hid (RfI w (put5 w5 g (k * 5) (.int .i64 l'[k].1) (.slice bo l'[k].2.1.length bc) (.int .i64 l'[k].2.2.1) (.bool l'[k].2.2.2.1) (.int .i64 l'[k].2.2.2.2)) h g room (.int .i64 (l.length:Int)) l' (k+1)):=HP.out w5 bo bc K5 ha (fun a e=>Nat.le_trans HSZ.out (hbb a e))
    clear t0 t1 t2 t3 t4 f0 f1 f2 f3 f4 cc1 x0 x1 x2 x3 x4 c0 CC ha hbb
    go_wp2
    go_roundw
    case rel=>first | exact ⟨k+1,by go_num,by omega,HN⟩ | ((repeat apply Exists.intro);exact ⟨⟨k+1,by go_num,by omega,HN⟩,rfl⟩)
    case measure=>simp [intOf];omega
  ·have hkl:k=l'.length:=by omega
   subst hkl
   have c0:=HI.out.cells
   go_upto_region 14 with fail
   by_cases hfull:l'.length<room
   ·have l2:(l'.length:Int)<(room:Int):=by omega
    obtain ⟨Wz,hWz⟩:∃ Wz,Wz=wr.setCells g (l'.length * 5) (Builtin.zeroCells #[Value.int .i64 0,.slice none 0 0,.int .i64 0,.bool false,.int .i64 0] (room-l'.length)).toList:=⟨_,rfl⟩
    have HCL:∀ ty,(Builtin.clear_ #[23] ty #[.slice (some ⟨g,l'.length * 5,none⟩) (room-l'.length) (room-l'.length)]).run Tryz.prog wr=.ok (.tuple #[]) Wz:=by
     intro ty
     obtain ⟨cs,q1,q2⟩:=HI.out.blk
     rw [hWz]
     refine run_clear_nodes wr ty g _ _ _ (by omega) (fun j hj=>?_) (fun j _=>frozenAt q1 _)
     rw [cellAt q1]
     simp
     omega
    have HIZ:Hid (RfI w Wz h g room (.int .i64 (l.length:Int)) l' l'.length):=by rw [hWz];exact HI.out.cleared hne _
    have z1:Wz.cell? ⟨h,1,none⟩=some (.int .i64 (l.length:Int)):=cellAt HIZ.out.box 1
    have z2:Wz.frozen? ⟨h,1,none⟩=false:=frozenAt HIZ.out.box 1
    have FF:Hid (HpB (fun b=>w.heap.size≤b) (Wz.setCell ⟨h,1,none⟩ (.int .i64 (l'.length:Int))) h g room l' ∧ Kept (fun k=>k=h∨k=g) w (Wz.setCell ⟨h,1,none⟩ (.int .i64 (l'.length:Int)))):=HIZ.out.done hne hr1 hr2 a HF1.out HAC.out
    clear hWz HIZ HI HNS p
    go_wp2
    go_ret
    exact ⟨rfl,FF.out.1,FF.out.2⟩
   ·have hfl:l'.length=room:=by omega
    have z1:wr.cell? ⟨h,1,none⟩=some (.int .i64 (l.length:Int)):=cellAt HI.out.box 1
    have z2:wr.frozen? ⟨h,1,none⟩=false:=frozenAt HI.out.box 1
    have FF:Hid (HpB (fun b=>w.heap.size≤b) (wr.setCell ⟨h,1,none⟩ (.int .i64 (l'.length:Int))) h g room l' ∧ Kept (fun k=>k=h∨k=g) w (wr.setCell ⟨h,1,none⟩ (.int .i64 (l'.length:Int)))):=HI.out.done hne hr1 hr2 a HF1.out HAC.out
    rw [hfl] at FF ⊢
    have HCL:∀ ty,(Builtin.clear_ #[23] ty #[.slice (some ⟨g,0,none⟩) 0 0]).run Tryz.prog wr=.ok (.tuple #[]) wr:=fun ty=>by simp [Builtin.clear_,run_underlying Tryz.underlying23]
    clear HI HNS p hfl hfull hlt
    go_wp2
    go_ret
    exact ⟨rfl,FF.out.1,FF.out.2⟩
theorem grfe_ex (room:Nat) (l:List Nd):∃ E,RfE room l E:=by
 by_cases h1:room<l.length
 ·exact ⟨_,.inl ⟨h1,rfl⟩⟩
 ·by_cases h2:l.all (mayB l.length)=true
  ·by_cases h3:Ac l
   ·exact ⟨_,.inr (.inr (.inr ⟨by omega,h2,h3,rfl⟩))⟩
   ·exact ⟨_,.inr (.inr (.inl ⟨by omega,h2,h3,rfl⟩))⟩
  ·exact ⟨_,.inr (.inl ⟨by omega,by rw [Bool.not_eq_true] at h2;exact h2,rfl⟩)⟩
theorem grfe_range {room:Nat} {l:List Nd} {E:Int} (h:RfE room l E):0≤E∧E≤120:=by
 rcases h with ⟨_,rfl⟩ | ⟨_,_,rfl⟩ | ⟨_,_,_,rfl⟩ | ⟨_,_,_,rfl⟩ <;> omega
theorem RhB.monoG {B B' : Nat→Prop} {w:World} {r room:Nat} {v:Value} {l:List Nd} (p:RhB B w r room v l) (hB:∀ k,k<w.heap.size→B k→B' k):RhB B' w r room v l:=⟨p.box,p.row.mono hB,p.rm1,p.rm2,p.le,p.may,p.ac⟩
structure MgAt (w w' : World) (h g r:Nat) (v:Value) (l:List Nd):Prop where
 hp:HpB (fun b=>w.heap.size≤b) w' h g 4000 l
 rh:RhB (fun b=>w.heap.size≤b) w' r 4000 v l
 same:Same0 w w'
 lh:w.heap.size≤h
 lg:w.heap.size≤g
 lr:w.heap.size≤r
 lv:∀ k,v.ownBlock=some k→w.heap.size≤k∧k≠g∧k≠h∧k≠r
 nr:r≠h∧r≠g
def MgQ (l:List Nd) (w:World) (e:Ending) (w' : World):Prop:=
 (e=.returned (.tuple #[.pointer none,.pointer none])∧Same0 w w')∨∃ h g r v,e=.returned (.tuple #[.pointer (some ⟨h,0,none⟩),.pointer (some ⟨r,0,none⟩)])∧MgAt w w' h g r v l
set_option maxHeartbeats 2000000 in
theorem made13_any {w:World} {ao:Option Addr} {ac:Nat} {l:List Nd} (hs:NsW w ao l) (hsz:l.length≤maxLen) :
  Calls Tryz.prog 8 #[.int .i64 4000,.slice ao l.length ac] w fun e w' => MgQ l w e w' := by
 obtain ⟨E,hE⟩:=grfe_ex 4000 l
 have C1:=hnew_yes 4000 w (by omega) (by omega)
 have HS:Hid (∀ ww,Same0 w ww→NsW ww ao l):=fun ww hk=>hs.same hk
 have HV:Hid (NsV (fun b=>b<w.heap.size) w ao l):=hs.below
 have HZ:Hid (l.length≤maxLen):=hsz
 have HE:Hid (RfE 4000 l E):=hE
 obtain ⟨e1,e2⟩:=grfe_range hE
 clear hs hsz hE
 by_cases h0:E=0
 ·subst h0
  go_enter Tryz.func8,Tryz.ntmps8
  go_upto_region 5 with (first | (go_at_call 29;refine C1.mono ?_;rintro e w1 ⟨h,g,rfl,p1,k1,lh,lg⟩;have C2:=rnew_yes 4000 w1 (by omega) (by omega)) | (go_at_call 35;refine C2.mono ?_;rintro e w2 ⟨r,rfl,q2,k2,lr⟩))
  have p2:=p1.same k2
  have K2:=k1.trans' k2
  have hhl:=p1.ltH
  have hgl:=p1.ltG
  have C3:=refill_yes (ac:=ac) p2 ((HV.out.same K2).mono (fun b hb=>show b≠g by omega)) HE.out
  clear p1 C1
  go_upto_region 7 with (first | (go_at_call 36;refine C3.mono ?_;rintro e w3 ⟨rfl,p3,k3⟩;have K3:Same0 w w3:=K2.trans k3 (fun i hi e=>by omega);have C4:=rrefill_any (ac:=ac) (q2.kept k3 (fun e=>by omega) (fun k e=>by cases e) (fun k f=>f.elim)) (HS.out w3 K3) HZ.out HE.out) | (go_at_call 37;refine C4.mono ?_;rintro e w4 ⟨rfl,q4⟩))
  have FIN:MgQ l w (.returned (.tuple #[.pointer (some ⟨h,0,none⟩),.pointer (some ⟨r,0,none⟩)])) w4:=by
   rcases q4 with ⟨e,_⟩ | ⟨_,v,r4,k4,lv⟩
   ·exact absurd rfl e
   ·have hr2:=q2.lt
    have s2:=K2.size
    have s3:=k3.size
    refine .inr ⟨h,g,r,v,rfl,(p3.kept k4 (by omega) (by omega) (fun k _ e cur hc=>?_)).mono (fun k _ _ hk=>by omega),RhB.monoG r4 (fun k _ hk=>by omega),K3.trans k4 (fun i hi e=>by have:=k1.size;omega),lh,lg,by have:=k1.size;omega,fun k e=>?_,by omega,by omega⟩
    ·subst e
     have:=k3.at q2.box (by omega)
     rw [this] at hc
     cases hc
    ·have:=lv k e
     have:=k1.size
     omega
  clear q4 C3 C4 HE HV HS q2 p2 p3
  go_wp2
  go_ret2
  exact FIN
 ·have HN:Hid (E≠0):=h0
  have b1:(E != 0)=true:=by simpa using h0
  have b2:(E == 0)=false:=by simpa using h0
  have b3:(E != E)=false:=by simp
  go_enter Tryz.func8,Tryz.ntmps8
  go_upto_region 5 with (first | (go_at_call 29;refine C1.mono ?_;rintro e w1 ⟨h,g,rfl,p1,k1,lh,lg⟩;have C2:=rnew_yes 4000 w1 (by omega) (by omega)) | (go_at_call 35;refine C2.mono ?_;rintro e w2 ⟨r,rfl,q2,k2,lr⟩))
  have K2:=k1.trans' k2
  have C3:=refill_no (ac:=ac) (p1.same k2) (HS.out w2 K2) HZ.out HE.out HN.out
  clear p1 C1
  go_upto_region 7 with (first | (go_at_call 36;refine C3.mono ?_;rintro e w3 ⟨rfl,k3⟩;have K3:=K2.trans' k3;have C4:=rrefill_any (ac:=ac) (q2.same k3) (HS.out w3 K3) HZ.out HE.out) | (go_at_call 37;refine C4.mono ?_;rintro e w4 ⟨rfl,q4⟩))
  have FIN:MgQ l w (.returned (.tuple #[.pointer none,.pointer none])) w4:=by
   rcases q4 with ⟨_,e⟩ | ⟨e,_⟩
   ·exact .inl ⟨rfl,K3.trans' e⟩
   ·exact absurd e HN.out
  clear q4 C3 C4 HE HV HS q2
  go_wp2
  go_ret2
  exact FIN
structure Un (l:List Nd) (fr:List Int) (s:List Bool) (T:List Int):Prop where
 len:s.length=l.length
 rng:∀ z∈T,0≤z∧z<(l.length:Int)
 snd:∀ x,Mk s x→∃ f∈fr,Rc l f.toNat x
 sndT:∀ z∈T,∃ f∈fr,Rc l f.toNat z.toNat
 cmp:∀ f∈fr,Mk s f.toNat∨f∈T
 cl:∀ x,Mk s x→∀ j,Ed l x j→Mk s j∨(j:Int)∈T
 cnt:T.length+6 * s.count false≤fr.length+6 * l.length
theorem mk_none (n x:Nat):¬ Mk (List.replicate n false) x:=by
 unfold Mk
 rw [List.getElem?_replicate]
 split <;> simp
theorem Un.start {l:List Nd} {fr:List Int} (h:∀ z∈fr,0≤z∧z<(l.length:Int)):Un l fr (List.replicate l.length false) fr:=
 ⟨by simp,h,fun x hx=>absurd hx (mk_none _ _),fun z hz=>⟨z,hz,Rc.refl _ _⟩,fun f hf=>.inr hf,fun x hx=>absurd hx (mk_none _ _),by simp⟩
theorem Un.skip {l:List Nd} {fr:List Int} {s:List Bool} {T:List Int} {x:Nat} (h:Un l fr s (T ++ [(x:Int)])) (hx:Mk s x):Un l fr s T:=by
 refine ⟨h.len,fun z hz=>h.rng z (by simp [hz]),h.snd,fun z hz=>h.sndT z (by simp [hz]),fun f hf=>?_,fun y hy j e=>?_,?_⟩
 ·rcases h.cmp f hf with q | q
  ·exact .inl q
  ·rcases List.mem_append.1 q with q | q
   ·exact .inr q
   ·simp at q;subst q;exact .inl (by simpa using hx)
 ·rcases h.cl y hy j e with q | q
  ·exact .inl q
  ·rcases List.mem_append.1 q with q | q
   ·exact .inr q
   ·have:j=x:=by simp at q;omega
    subst this;exact .inl hx
 ·have:=h.cnt;simp at this;omega
theorem Un.take {l:List Nd} {fr:List Int} {s:List Bool} {T:List Int} {x:Nat} (h:Un l fr s (T ++ [(x:Int)])) (hx:s[x]? = some false) (hl:x<l.length) (hd:(downL l[x]).length≤6) (hin:InL l):Un l fr (s.set x true) (T++downL l[x]):=by
 have hxs:x<s.length:=(List.getElem?_eq_some_iff.1 hx).1
 obtain ⟨f0,hf0,hr0⟩:=h.sndT (x:Int) (by simp)
 rw [Int.toNat_natCast] at hr0
 have hc:=count_set hx
 refine ⟨by simp [h.len],fun z hz=>?_,fun y hy=>?_,fun z hz=>?_,fun f hf=>?_,fun y hy j e=>?_,?_⟩
 ·rcases List.mem_append.1 hz with q | q
  ·exact h.rng z (by simp [q])
  ·exact hin x hl z q
 ·rcases (Mk.set hxs y).1 hy with q | q
  ·exact h.snd y q
  ·subst q;exact ⟨f0,hf0,hr0⟩
 ·rcases List.mem_append.1 hz with q | q
  ·exact h.sndT z (by simp [q])
  ·have:=hin x hl z q
   exact ⟨f0,hf0,hr0.snoc ⟨hl,by rw [Int.toNat_of_nonneg this.1];exact q⟩⟩
 ·rcases h.cmp f hf with q | q
  ·exact .inl ((Mk.set hxs _).2 (.inl q))
  ·rcases List.mem_append.1 q with q | q
   ·exact .inr (by simp [q])
   ·simp at q;subst q;exact .inl ((Mk.set hxs _).2 (.inr (by simp)))
 ·by_cases ey:y=x
  ·subst ey
   exact .inr (List.mem_append.2 (.inr e.2))
  ·rcases (Mk.set hxs y).1 hy with q | q
   ·rcases h.cl y q j e with t | t
    ·exact .inl ((Mk.set hxs _).2 (.inl t))
    ·rcases List.mem_append.1 t with t | t
     ·exact .inr (by simp [t])
     ·have:j=x:=by simp at t;omega
      exact .inl ((Mk.set hxs _).2 (.inr this))
   ·exact absurd q ey
 ·have:=h.cnt
  simp at this ⊢
  omega
theorem Un.done {l:List Nd} {fr:List Int} {s:List Bool} (h:Un l fr s []) (x:Nat):Mk s x ↔ ∃ f∈fr,Rc l f.toNat x:=by
 refine ⟨h.snd x,?_⟩
 rintro ⟨f,hf,hr⟩
 refine Rc.in (S:=fun j=>Mk s j) (fun i j hi e=>?_) ?_ hr
 ·rcases h.cl i hi j e with q | q
  ·exact q
  ·simp at q
 ·rcases h.cmp f hf with q | q
  ·exact q
  ·simp at q
theorem Row.last {base:Nat} {w:World} {vo:Option Addr} {vc:Nat} {T:List Int} {z:Int} (h:Row base w (.slice vo (T.length+1) vc) (T ++ [z])) :
  ∃ g,vo=some ⟨g,0,none⟩∧base≤g∧w.cell? ⟨g,T.length,none⟩=some (.int .i64 z)∧Row base w (.slice (some ⟨g,0,none⟩) T.length vc) T∧T.length+1≤vc:=by
 have hi:=h.ints
 obtain ⟨ao,ac,e,h1,h2,h3⟩:=hi
 simp only [Value.slice.injEq] at e
 obtain ⟨rfl,_,rfl⟩:=e
 obtain ⟨b,off,e1,hlt,hc⟩:=h1.get (i:=T.length) (by simp)
 subst e1
 unfold Row at h
 rcases h.2 with ⟨e2,h0⟩ | ⟨g,cap,cur,e2,hb,hg,hle,hm,hsz,ht⟩
 ·cases e2
 ·simp only [Value.slice.injEq,Option.some.injEq,Addr.mk.injEq,and_true] at e2
  obtain ⟨⟨rfl,rfl⟩,e3,rfl⟩:=e2
  refine ⟨b,rfl,hb,by simpa using hc,?_,by simpa using hle⟩
  unfold Row
  refine ⟨by simp [iv_length],.inr ⟨b,vc,cur,rfl,hb,hg,by simp at hle;omega,hm,hsz,?_⟩⟩
  have:=congrArg (List.take T.length) ht
  rw [List.take_take] at this
  simp [iv] at this
  simpa [iv,Nat.min_eq_left (Nat.le_succ _)] using this
set_option maxHeartbeats 1000000 in
theorem rcopied_row {w:World} {ao:Option Addr} {cap:Nat} {xs:List Int} (hx:Arg w ao xs cap) :
  Calls Tryz.prog 86 #[.slice ao xs.length cap] w fun e w' => ∃ v,e=.returned v∧Row w.heap.size w' v xs∧Same0 w w' := by
 have k0:Same0 w (w.alloc (.cells #[] 3)):=(Kept.refl _ w).alloc _
 have r0:Row w.heap.size (w.alloc (.cells #[] 3)) (.slice (some ⟨w.heap.size,0,none⟩) 0 0) []:=row_empty w _ (Nat.le_refl _) rfl
 have cI:=hx.at'.same k0
 have hn:=hx.nil
 have hs:Hid (xs.length * 8≤140737488351232):=hx.size
 have z0:=k0.size
 clear hx
 go_enter Tryz.func86,Tryz.ntmps86
 go_wp2_with (first | (at_builtin;refine wpList_more9 rfl _ _ 33 rfl Tryz.underlying33 w.heap.size [] _ rfl r0 xs _ _ _ rfl rfl cI hn z0 (by have:=hs.out;simp;omega) ?_;intro v' w4 hr4 hk4))
 go_ret
 exact ⟨_,rfl,by simpa using hr4,k0.onto r0 hk4⟩
set_option maxHeartbeats 1000000 in
theorem down_arg {w:World} {x:Nd} {ao:Option Addr} {ac:Nat} (hx:Arg w ao x.2.1 ac) :
  Calls Tryz.prog 87 #[nodeV x ao ac] w fun e w' => ∃ bo bc,e=.returned (.slice bo (downL x).length bc)∧IntsAt w' bo (downL x)∧(bo=none→(downL x).length=0∧bc=0)∧Same0 w w' := by
 obtain ⟨W0,hW0⟩:∃ W0,W0=w.alloc (.cells #[.int .i64 x.1,.slice ao x.2.1.length ac,.int .i64 x.2.2.1,.bool x.2.2.2.1,.int .i64 x.2.2.2.2] 86):=⟨_,rfl⟩
 have k0:Same0 w W0:=by rw [hW0];exact (Kept.refl _ w).alloc _
 have hb:W0.heap[w.heap.size]? = some (.cells #[.int .i64 x.1,.slice ao x.2.1.length ac,.int .i64 x.2.2.1,.bool x.2.2.2.1,.int .i64 x.2.2.2.2] 86 (0,0)):=by rw [hW0];exact heap_alloc_new w _
 obtain ⟨b0,b1,b2,b3,b4⟩:=box5 hb
 obtain ⟨pb,hp⟩:∃ pb,x.2.2.2.1=pb:=⟨_,rfl⟩
 cases pb
 ·have hd:downL x=x.2.1:=by unfold downL;rw [hp];rfl
  have H:Hid (IntsAt W0 ao x.2.1∧(ao=none→x.2.1.length=0∧ac=0)∧Same0 w W0):=⟨hx.at'.same k0,hx.nil,k0⟩
  rw [hd]
  rw [hp] at b3
  clear hd hx k0 hb hp
  go_enter Tryz.func87,Tryz.ntmps87
  go_upto_region 1 with fail
  rw [← hW0]
  clear hW0
  go_wp2
  go_ret
  exact ⟨ao,ac,rfl,H.out.1,H.out.2.1,H.out.2.2⟩
 ·have hd:downL x=[x.2.2.2.2]:=by unfold downL;rw [hp];rfl
  have H:Hid (IntsAt (W0.alloc (.cells #[.int .i64 x.2.2.2.2] 3)) (some ⟨W0.heap.size,0,none⟩) [x.2.2.2.2]∧Same0 w (W0.alloc (.cells #[.int .i64 x.2.2.2.2] 3))):=⟨ints_one _ _,k0.alloc _⟩
  rw [hd]
  rw [hp] at b3
  clear hd hx k0 hb hp
  go_enter Tryz.func87,Tryz.ntmps87
  go_upto_region 1 with fail
  rw [← hW0]
  clear hW0
  go_wp2
  go_ret
  exact ⟨_,1,rfl,H.out.1,(fun e=>by cases e),H.out.2⟩
end Go.Proofs.YtpimndkhoalaeaaGreat
