import Derived.Test.YtmjgnfkbnofjoaaGreatDoorSW09
import Derived.Test.YtmjgnfkbnofjoaaGreatDoorSW07
import Derived.Test.YtmjgnfkbnofjoaaGreatDoorSW05
import Derived.Deep.RegionWith
namespace Go.Proofs.YtmjgnfkbnofjoaaGreatDoor
set_option maxRecDepth 100000
set_option linter.unusedVariables false
open Go.RowKit
attribute [local go_sem ↓] Go.wp_at_zero Go.wp_at_succ
set_option maxHeartbeats 4000000 in
theorem overlap_any {w:World} {b bs:Nat} {ro:Option Addr} {rc:Nat} {L:List Sym} {R:List Ru} {lo:Option Addr} {l:List Ru} {n lc:Nat} (h:Cnd w b bs ro rc L R lo l n) (hlc:l.length≤lc) (hu:Upto L R l 7 n) :
  Calls Tryz.prog 176 #[.agg #[.pointer (some ⟨b,0,none⟩),.slice lo l.length lc,.int .i64 (n:Int)]] w fun e w' => ∃ v,e=.returned v∧FltAt w' (askW L R l 7 n) v∧Same0 w w' := by
 obtain ⟨lb,off,ao,ac,bo,bc,x,rfl,hx,W0,CC0,HS,HA,CR,CU⟩:=h.opened lc
 have W1:Same0 (w.alloc (.cells #[.pointer (some ⟨b,0,none⟩),.slice (some ⟨lb,off,none⟩) l.length lc,.int .i64 (n:Int)] 236)) (w.alloc (.cells #[.pointer (some ⟨b,0,none⟩),.slice (some ⟨lb,off,none⟩) l.length lc,.int .i64 (n:Int)] 236)).drew:=Kept.drew (Kept.refl _ _)
 have f0:=field_left
 have f1:=field_right
 have CF:Hid (∀ ww why c,(why=.nilIface∨∃ t v,why=.iface t v)→Same0 (w.alloc (.cells #[.pointer (some ⟨b,0,none⟩),.slice (some ⟨lb,off,none⟩) l.length lc,.int .i64 (n:Int)] 236)) ww→Calls Tryz.prog 210 #[.agg #[.pointer (some ⟨b,0,none⟩),.slice (some ⟨lb,off,none⟩) l.length lc,.int .i64 (n:Int)],.int .i64 c,why] ww fun e w' => ∃ k,e=.returned (.iface 114 (.pointer (some ⟨k,0,none⟩)))∧w'.heap[k]? = some (.cells #[.int .i64 c,.int .i64 (n:Int),why] 116 (0,0))∧Same0 ww w' ∧ Same0 (w.alloc (.cells #[.pointer (some ⟨b,0,none⟩),.slice (some ⟨lb,off,none⟩) l.length lc,.int .i64 (n:Int)] 236)) w'):=fun ww why c hw hk=>(fault_any ww b _ _ _ why hw n c).mono (fun e w' ⟨k,q1,q2,q3⟩=>⟨k,q1,q2,q3,hk.trans' q3⟩)
 have hxc:checkE L x.1=0:=by
  have:=hu.1 1 (by omega) n h.hn
  simp only [ckB,askB,← hx,Bool.and_eq_true,decide_eq_true_eq] at this
  exact this.1
 have hnn:=h.hn
 have hN:R.length+l.length≤100:=by
  have:=hu.1 0 (by omega) n h.hn
  simpa [ckB,askB] using this
 obtain ⟨A,hA⟩:∃ A,A=R++l.take n:=⟨_,rfl⟩
 have hAl:A.length=R.length+n:=by rw [hA];simp;omega
 have hAc:∀ a∈A,checkE L a.1=0:=fun a ha=>by
  rw [hA] at ha
  rcases List.mem_append.1 ha with q | q
  ·exact h.st.ok a q
  ·obtain ⟨i,hi,rfl⟩:=List.mem_iff_getElem.1 q
   have hi' : i<l.length:=by simp at hi;omega
   have:=hu.1 1 (by omega) i hi'
   simp only [ckB,askB,Bool.and_eq_true,decide_eq_true_eq] at this
   simpa [List.getD,hi'] using this.1
 have E0:Hid (A.all (fun a=>!meetB L a.1 x.1)=true→askW L R l 7 n=[(0, -1)]):=fun q=>by simp only [askW,ckB,askB,← hx,← hA,q];rfl
 have E1:Hid (∀ k (hk:k<A.length),(A.take k).all (fun a=>!meetB L a.1 x.1)=true→meetB L A[k].1 x.1=true→askW L R l 7 n=[(77,(n:Int)),(78,(k:Int))]):=fun k hk q1 q2=>by
  have e1:A.all (fun a=>!meetB L a.1 x.1)=false:=by
   cases h:A.all (fun a=>!meetB L a.1 x.1) with
   | false=>rfl
   | true=>have:=List.all_eq_true.1 h _ (List.getElem_mem hk);rw [q2] at this;cases this
  have e2:A.findIdx (fun a=>meetB L a.1 x.1)=k:=(List.findIdx_eq hk).2 ⟨q2,fun j hj=>by
   have:=List.all_eq_true.1 q1 (A[j]'(by omega)) (by
    refine List.mem_iff_getElem.2 ⟨j,by simp;omega,by simp⟩)
   simpa using this⟩
  simp only [askW,ckB,askB,wrongL,← hx,← hA,e1,e2]
  rfl
 have hRl:=h.st.le
 have HM:Hid (RsAt (w.alloc (.cells #[.pointer (some ⟨b,0,none⟩),.slice (some ⟨lb,off,none⟩) l.length lc,.int .i64 (n:Int)] 236)) (some ⟨lb,off,none⟩) (l.take n)):=by
  rcases h.ls.same W0 with e | ⟨b', off', e,hb', hc'⟩
  ·rw [e] at hnn;simp at hnn
  ·refine .inr ⟨b', off', e,hb', fun i hi=>?_⟩
   have hi' : i<l.length:=by simp at hi;omega
   have:=hc' i hi'
   simpa using this
 have hst:=h.st.same W0
 have htl:(l.take n).length=n:=by simp;omega
 have CCat:Hid (∀ ww g sl,sl=n→Same0 (w.alloc (.cells #[.pointer (some ⟨b,0,none⟩),.slice (some ⟨lb,off,none⟩) l.length lc,.int .i64 (n:Int)] 236)) ww→ww.heap[g]? = some (.cells #[.slice ro R.length rc,.slice (some ⟨lb,off,none⟩) sl lc] 29 (0,0))→Calls Tryz.prog 215 #[.slice (some ⟨g,0,none⟩) 2 2] ww fun e w' => ∃ vo vc,e=.returned (.slice vo A.length vc)∧RsAt w' vo A∧Same0 (w.alloc (.cells #[.pointer (some ⟨b,0,none⟩),.slice (some ⟨lb,off,none⟩) l.length lc,.int .i64 (n:Int)] 236)) w'):=fun ww g sl e hk hg=>by
  subst e
  have:=concat_any (M:=l.take sl) (lc:=lc) (by rw [htl];exact hg) (hst.rs.same hk) (HM.out.same hk) hst.nil (fun e=>by cases e) hRl (by rw [htl];omega)
  rw [← hA] at this
  exact this.mono (fun e w' ⟨vo,vc,q1,q2,q3⟩=>⟨vo,vc,q1,q2,hk.trans' q3⟩)
 have j1:(0:Int)≤(n:Int):=by omega
 have j2:(n:Int)≤(lc:Int):=by omega
 have hAm:A.length≤200:=by omega
 have HL:Hid (A.length=R.length+n):=hAl
 clear h hu hx hst htl HM hA hAl
 go_enter Tryz.func176,Tryz.ntmps176
 go_wp2
 go_region_held3 (fun w' => (w'.cell? ⟨b,0,none⟩=some (.pointer (some ⟨bs,0,none⟩))∧w'.cell? ⟨b,1,none⟩=some (.slice ro R.length rc))∧(w'.cell? ⟨w.heap.size,0,none⟩=some (.pointer (some ⟨b,0,none⟩))∧w'.cell? ⟨w.heap.size,1,none⟩=some (.slice (some ⟨lb,off,none⟩) l.length lc)∧w'.cell? ⟨w.heap.size,2,none⟩=some (.int .i64 (n:Int)))∧w'.cell? ⟨lb,off+n * 2,none⟩=some (.slice ao x.1.length ac)∧w'.cell? ⟨lb,off+n * 2+1,none⟩=some (.slice bo x.2.length bc)) (first | exact cc1 | exact CC0 | exact HS.out _ (Kept.alloc (Kept.refl _ _) _) | exact HS.out _ (Kept.drew (Kept.alloc (Kept.refl _ _) _))) (first | (go_at_call 215;refine (CCat.out _ _ _ rfl (Kept.drew (Kept.alloc (Kept.refl _ _) _)) (heap_al_al _ _ _)).mono ?_;rintro e w1 ⟨vo,vc,rfl,hro,hw1⟩;have cc1:=HS.out _ hw1))
 go_wp2
 clear W1 CC0 CR CU cc1 CCat
 have M0:Same0 w1 w1:=Kept.refl _ _
 go_loopw [20] (fun i wr=>∃ k:Nat,k≤A.length∧i=.int .i64 (k:Int)∧Hid ((A.take k).all (fun a=>!meetB L a.1 x.1)=true)∧Same0 w1 wr) (fun i _=>A.length-(intOf i).toNat)
 case atStart=>exact ⟨0,Nat.zero_le _,rfl,rfl,M0⟩
 case round=>
  clear M0
  obtain ⟨k,hk,rfl,hall,hs⟩:=hrel
  obtain ⟨wo,hwo⟩:∃ wo,wo=wr:=⟨_,rfl⟩
  by_cases hlt:k<A.length
  ·obtain ⟨gb,goff,rfl,hgb,go1,gc1,go2,gc2,r0,r1,A1,A2⟩:=(hro.same hs).get hlt
   have i1:(0:Int)≤(k:Int):=by omega
   have i2:(k:Int)<(A.length:Int):=by omega
   have hck:=hAc _ (List.getElem_mem hlt)
   have KA:Same0 wr (wr.alloc (.cells #[.slice go1 A[k].1.length gc1,.slice go2 A[k].2.length gc2] 90)):=(Kept.refl _ _).alloc _
   have KB:Same0 (w.alloc (.cells #[.pointer (some ⟨b,0,none⟩),.slice (some ⟨lb,off,none⟩) l.length lc,.int .i64 (n:Int)] 236)) (wr.alloc (.cells #[.slice go1 A[k].1.length gc1,.slice go2 A[k].2.length gc2] 90)):=(hw1.trans' hs).trans' KA
   have hnew:=heap_alloc_new wr (.cells #[.slice go1 A[k].1.length gc1,.slice go2 A[k].2.length gc2] 90)
   have HS2:Hid (∀ ww,Same0 (wr.alloc (.cells #[.slice go1 A[k].1.length gc1,.slice go2 A[k].2.length gc2] 90)) ww→ww.cell? ⟨wr.heap.size,0,none⟩=some (.slice go1 A[k].1.length gc1)∧(ww.cell? ⟨b,0,none⟩=some (.pointer (some ⟨bs,0,none⟩))∧ww.cell? ⟨b,1,none⟩=some (.slice ro R.length rc))∧(ww.cell? ⟨w.heap.size,0,none⟩=some (.pointer (some ⟨b,0,none⟩))∧ww.cell? ⟨w.heap.size,1,none⟩=some (.slice (some ⟨lb,off,none⟩) l.length lc)∧ww.cell? ⟨w.heap.size,2,none⟩=some (.int .i64 (n:Int)))∧ww.cell? ⟨lb,off+n * 2,none⟩=some (.slice ao x.1.length ac)∧ww.cell? ⟨lb,off+n * 2+1,none⟩=some (.slice bo x.2.length bc)):=fun ww hk=>⟨cellAt (hk.at0 hnew) 0,HS.out ww (KB.trans' hk)⟩
   have CR2:Hid (∀ ww,Same0 (wr.alloc (.cells #[.slice go1 A[k].1.length gc1,.slice go2 A[k].2.length gc2] 90)) ww→Calls Tryz.prog 209 #[.agg #[.pointer (some ⟨b,0,none⟩),.slice (some ⟨lb,off,none⟩) l.length lc,.int .i64 (n:Int)]] ww fun e w' => e=.returned (.agg #[.slice ao x.1.length ac,.slice bo x.2.length bc])∧Same0 (wr.alloc (.cells #[.slice go1 A[k].1.length gc1,.slice go2 A[k].2.length gc2] 90)) w'):=fun ww hk=>by
    obtain ⟨_,_,_,g0,g1⟩:=HS2.out ww hk
    exact (rule_any g0 g1 hnn).mono (fun e w' ⟨q1,q2⟩=>⟨q1,hk.trans' q2⟩)
   have CL2:Hid (∀ ww,Same0 (wr.alloc (.cells #[.slice go1 A[k].1.length gc1,.slice go2 A[k].2.length gc2] 90)) ww→Calls Tryz.prog 216 #[.pointer (some ⟨bs,0,none⟩),.slice go1 A[k].1.length gc1,.slice ao x.1.length ac] ww fun e w' => e=.returned (.tuple #[.bool (claB L A[k].1 x.1),.int .i64 0])∧Same0 (wr.alloc (.cells #[.slice go1 A[k].1.length gc1,.slice go2 A[k].2.length gc2] 90)) w'):=fun ww hk=>by
    have hz:claE L A[k].1 x.1=0:=by simp [claE,hck,hxc]
    have hA' := HA.out ww (KB.trans' hk)
    have s1:=A1.size
    have s2:=hA'.1.size
    have:=clash_any (xc:=gc1) (yc:=ac) hA'.2.2.sig ((A1.same KA).same hk).at' hA'.1.at' (by unfold maxLen;omega) (by unfold maxLen;omega)
    rw [hz] at this
    exact this.mono (fun e w' ⟨q1,q2⟩=>⟨q1,hk.trans' q2⟩)
   have hm:meetB L A[k].1 x.1 = !claB L A[k].1 x.1:=by simp [meetB,claE,hck,hxc]
   have CC2:=HS2.out _ (Kept.refl _ _)
   have W2:Same0 (wr.alloc (.cells #[.slice go1 A[k].1.length gc1,.slice go2 A[k].2.length gc2] 90)) (wr.alloc (.cells #[.slice go1 A[k].1.length gc1,.slice go2 A[k].2.length gc2] 90)).drew:=Kept.drew (Kept.refl _ _)
   have KE:Hid (∀ ww,Same0 (wr.alloc (.cells #[.slice go1 A[k].1.length gc1,.slice go2 A[k].2.length gc2] 90)) ww→Same0 w1 ww∧Same0 (w.alloc (.cells #[.pointer (some ⟨b,0,none⟩),.slice (some ⟨lb,off,none⟩) l.length lc,.int .i64 (n:Int)] 236)) ww):=fun ww hk=>⟨(hs.trans' KA).trans' hk,KB.trans' hk⟩
   cases hq:claB L A[k].1 x.1 with
   | false=>
    have Z:=E1.out k hlt hall.out (by rw [hm,hq];rfl)
    rw [hq] at CL2
    clear hm hq E0 E1 hall hck hxc HA hnew KA KB A1 A2 hro hgb hAc
    go_wp2
    go_region_held3 (fun w' => w'.cell? ⟨wr.heap.size,0,none⟩=some (.slice go1 A[k].1.length gc1)∧(w'.cell? ⟨b,0,none⟩=some (.pointer (some ⟨bs,0,none⟩))∧w'.cell? ⟨b,1,none⟩=some (.slice ro R.length rc))∧(w'.cell? ⟨w.heap.size,0,none⟩=some (.pointer (some ⟨b,0,none⟩))∧w'.cell? ⟨w.heap.size,1,none⟩=some (.slice (some ⟨lb,off,none⟩) l.length lc)∧w'.cell? ⟨w.heap.size,2,none⟩=some (.int .i64 (n:Int)))∧w'.cell? ⟨lb,off+n * 2,none⟩=some (.slice ao x.1.length ac)∧w'.cell? ⟨lb,off+n * 2+1,none⟩=some (.slice bo x.2.length bc)) (first | exact cc1 | exact CC2) (first | (go_at_call 209;refine (CR2.out _ (by first | exact hv1 | exact W2)).mono ?_;rintro e v1 ⟨rfl,hv1⟩;have cc1:=HS2.out _ hv1) | (go_at_call 216;refine (CL2.out _ (by first | exact hv1 | exact W2)).mono ?_;rintro e v1 ⟨rfl,hv1⟩;have cc1:=HS2.out _ hv1))
    all_goals
     obtain ⟨_,kb⟩:=KE.out _ hv1
     have KB:=Kept.alloc kb (.cells #[.int .i64 78,.int .i64 (k:Int),.nilIface] 116)
     have hin:=heap_alloc_new v1 (.cells #[.int .i64 78,.int .i64 (k:Int),.nilIface] 116)
     go_wp2_with (first | (go_at_call 210;refine (CF.out _ _ _ (.inr ⟨_,_,rfl⟩) KB).mono ?_;rintro e w3 ⟨k3,rfl,hk3,ks3,kw3⟩;have hin3:=ks3.at0 hin))
     go_ret
     exact ⟨_,rfl,by rw [Z];exact .inr ⟨by omega,k3,_,rfl,hk3,.inr ⟨by omega,_,_,rfl,hin3,rfl⟩⟩,W0.trans' kw3⟩
   | true=>
    have Z:Hid ((A.take (k+1)).all (fun a=>!meetB L a.1 x.1)=true):=by
     have:=hall.out
     show _=_
     rw [List.take_add_one,List.getElem?_eq_getElem hlt,List.all_append,this]
     simp [hm,hq]
    rw [hq] at CL2
    clear hm hq E0 E1 hall hck hxc HA hnew KA KB A1 A2 hro hgb hAc
    go_wp2
    go_region_held3 (fun w' => w'.cell? ⟨wr.heap.size,0,none⟩=some (.slice go1 A[k].1.length gc1)∧(w'.cell? ⟨b,0,none⟩=some (.pointer (some ⟨bs,0,none⟩))∧w'.cell? ⟨b,1,none⟩=some (.slice ro R.length rc))∧(w'.cell? ⟨w.heap.size,0,none⟩=some (.pointer (some ⟨b,0,none⟩))∧w'.cell? ⟨w.heap.size,1,none⟩=some (.slice (some ⟨lb,off,none⟩) l.length lc)∧w'.cell? ⟨w.heap.size,2,none⟩=some (.int .i64 (n:Int)))∧w'.cell? ⟨lb,off+n * 2,none⟩=some (.slice ao x.1.length ac)∧w'.cell? ⟨lb,off+n * 2+1,none⟩=some (.slice bo x.2.length bc)) (first | exact cc1 | exact CC2) (first | (go_at_call 209;refine (CR2.out _ (by first | exact hv1 | exact W2)).mono ?_;rintro e v1 ⟨rfl,hv1⟩;have cc1:=HS2.out _ hv1) | (go_at_call 216;refine (CL2.out _ (by first | exact hv1 | exact W2)).mono ?_;rintro e v1 ⟨rfl,hv1⟩;have cc1:=HS2.out _ hv1))
    all_goals
     go_wp2
     exact ⟨⟨k+1,by omega,by go_num,Z,(KE.out _ hv1).1⟩,by simp [intOf];omega⟩
  ·have Z:=E0.out (by have:=hall.out;rwa [List.take_of_length_le (by omega)] at this)
   have kw:=hw1.trans' hs
   go_wp2
   go_ret
   exact ⟨_,rfl,by rw [Z];exact .inl ⟨rfl,rfl,rfl⟩,W0.trans' kw⟩
theorem checks_any (w:World):Calls Tryz.prog 124 #[] w fun e w' => ∃ g,e=.returned (.slice (some ⟨g,0,none⟩) 8 8)∧w'.heap[g]? = some (.cells #[.func (.func 169) #[] #[],.func (.func 170) #[] #[],.func (.func 171) #[] #[],.func (.func 172) #[] #[],.func (.func 173) #[] #[],.func (.func 174) #[] #[],.func (.func 175) #[] #[],.func (.func 176) #[] #[]] 234 (0,0))∧Same0 w w' := by
 go_enter Tryz.func124,Tryz.ntmps124
 go_wp2
 go_ret
 exact ⟨_,rfl,heap_alloc_new _ _,(Kept.refl _ w).alloc _⟩
theorem askW_len (L:List Sym) (R l:List Ru) (j n:Nat):(askW L R l j n).length≤2:=by
 unfold askW wrongL
 repeat' split
 all_goals simp
theorem askW_yes {L:List Sym} {R l:List Ru} {j n:Nat} (h:ckB L R l j n=true):bears (askW L R l j n) 0=true:=by
 simp [askW,h,bears]
theorem askW_no {L:List Sym} {R l:List Ru} {j n:Nat} (h:ckB L R l j n=false):bears (askW L R l j n) 0=false:=by
 unfold askW
 rw [h]
 simp only [Bool.false_eq_true,if_false]
 unfold wrongL
 split
 ·rename_i e
  subst e
  simp only [ckB,askB] at h
  generalize l.getD n ([],[])=x at *
  by_cases h1:checkE L x.1=0
  ·have h2:¬ checkE L x.2=0:=by intro e;simp [h1,e] at h
   simp [bears,h1];omega
  ·simp [bears,h1];omega
 ·split
  ·simp [bears]
  ·simp [bears];omega
def ChkPost (L:List Sym) (R l:List Ru) (w:World) (e:Ending) (w' : World):Prop:=∃ ws v,e=.returned v∧Ans L R l ws∧FltAt w' ws v∧ws.length≤2∧Same0 w w'
theorem Ans.no {L:List Sym} {R l:List Ru} {j n:Nat} (hj:j<8) (hn:n<l.length) (hu:Upto L R l j n) (hc:ckB L R l j n=false):Ans L R l (askW L R l j n):=
 .inr ⟨j,n,hj,hn,hu,hc,by simp [askW,hc]⟩
set_option maxHeartbeats 20000000 in
theorem checkR_any {w:World} {b bs:Nat} {ro:Option Addr} {rc:Nat} {L:List Sym} {R:List Ru} {lo:Option Addr} {l:List Ru} {lc:Nat} (h:StR w b bs ro rc L R) (hl:RsAt w lo l) (hll:l.length≤140737488355328) (hlc:l.length≤lc) :
  Calls Tryz.prog 82 #[.pointer (some ⟨b,0,none⟩),.slice lo l.length lc] w (ChkPost L R l w):=by
 go_enter Tryz.func82,Tryz.ntmps82
 go_wp2_with (first | (go_at_call 124;refine (checks_any _).mono ?_;rintro e w1 ⟨g,rfl,hg,hk1⟩))
 have HG:Hid (∀ ww,Same0 w1 ww→ww.heap[g]? = some (.cells #[.func (.func 169) #[] #[],.func (.func 170) #[] #[],.func (.func 171) #[] #[],.func (.func 172) #[] #[],.func (.func 173) #[] #[],.func (.func 174) #[] #[],.func (.func 175) #[] #[],.func (.func 176) #[] #[]] 234 (0,0))):=fun ww hk=>hk.at0 hg
 have HC:Hid (∀ n,n<l.length→∀ ww,Same0 w1 ww→Cnd ww b bs ro rc L R lo l n):=fun n hn ww hk=>⟨(h.same hk1).same hk,(hl.same hk1).same hk,hll,hn⟩
 have HK:Hid (Same0 w w1):=hk1
 have M0:Same0 w1 w1:=Kept.refl _ _
 clear hg h hl hk1
 go_loopw [16] (fun i wr=>∃ j:Nat,j≤8∧i=.int .i64 (j:Int)∧Hid (Upto L R l j 0)∧Same0 w1 wr) (fun i _=>8-(intOf i).toNat)
 case atStart=>exact ⟨0,by omega,rfl,Upto.nil L R l,M0⟩
 case round=>
  clear M0
  obtain ⟨j,hj,rfl,hu0,hs⟩:=hrel
  match j,hj with
  | 0,_=>
   have f0:=cellAt (HG.out _ hs) 0
   simp only [List.getElem?_toArray,List.getElem?_cons_zero] at f0
   go_wp2
   go_loopw [22] (fun i wr=>∃ n:Nat,n≤l.length∧i=.int .i64 (n:Int)∧Hid (Upto L R l 0 n)∧Same0 w1 wr) (fun i _=>l.length-(intOf i).toNat)
   case atStart=>exact ⟨0,Nat.zero_le _,rfl,hu0,hs⟩
   case round=>
    clear f0 hs hu0
    obtain ⟨n,hn,rfl,hu,hs⟩:=hrel
    by_cases hlt:n<l.length
    ·have HQ:=HC.out n hlt _ hs
     have C:Calls Tryz.prog 169 #[.agg #[.pointer (some ⟨b,0,none⟩),.slice lo l.length lc,.int .i64 (n:Int)]] _ fun e w' => ∃ v,e=.returned v∧FltAt w' (askW L R l 0 n) v∧Same0 _ w' := many_any (lc:=lc) HQ
     clear HQ
     cases hc:ckB L R l 0 n with
     | true=>
      have b1:=askW_yes hc
      have hu1:Hid (Upto L R l 0 (n+1)):=hu.out.step hc
      clear hc hu
      go_wp2_with (first | (go_at_call 169;refine C.mono ?_;rintro e w2 ⟨v,rfl,hv,hk2⟩;have CI:=is_any hv (askW_len _ _ _ _ _) 0;rw [b1] at CI) | (go_at_call 27;refine CI.mono ?_;rintro e w3 ⟨rfl,rfl⟩))
      go_roundw
      case rel=>first | exact ⟨n+1,by omega,by go_num,hu1,hs.trans' hk2⟩ | ((repeat apply Exists.intro);exact ⟨⟨n+1,by omega,by go_num,hu1,hs.trans' hk2⟩,rfl⟩)
      case measure=>simp [intOf];omega
     | false=>
      have b1:=askW_no hc
      have A:Hid (Ans L R l (askW L R l 0 n)):=Ans.no (by omega) hlt hu.out hc
      clear hc hu
      go_wp2_with (first | (go_at_call 169;refine C.mono ?_;rintro e w2 ⟨v,rfl,hv,hk2⟩;have CI:=is_any hv (askW_len _ _ _ _ _) 0;rw [b1] at CI) | (go_at_call 27;refine CI.mono ?_;rintro e w3 ⟨rfl,rfl⟩))
      go_ret
      exact ⟨_,_,rfl,A.out,hv,askW_len _ _ _ _ _,HK.out.trans' (hs.trans' hk2)⟩
    ·have hu1:Hid (Upto L R l (0+1) 0):=hu.out.next (by omega)
     go_wp2
     exact ⟨⟨0+1,by omega,by go_num,hu1,hs⟩,by simp [intOf]⟩
  | 1,_=>
   have f0:=cellAt (HG.out _ hs) 1
   simp only [List.getElem?_toArray,List.getElem?_cons_zero,List.getElem?_cons_succ] at f0
   go_wp2
   go_loopw [22] (fun i wr=>∃ n:Nat,n≤l.length∧i=.int .i64 (n:Int)∧Hid (Upto L R l 1 n)∧Same0 w1 wr) (fun i _=>l.length-(intOf i).toNat)
   case atStart=>exact ⟨0,Nat.zero_le _,rfl,hu0,hs⟩
   case round=>
    clear f0 hs hu0
    obtain ⟨n,hn,rfl,hu,hs⟩:=hrel
    by_cases hlt:n<l.length
    ·have HQ:=HC.out n hlt _ hs
     have C:Calls Tryz.prog 170 #[.agg #[.pointer (some ⟨b,0,none⟩),.slice lo l.length lc,.int .i64 (n:Int)]] _ fun e w' => ∃ v,e=.returned v∧FltAt w' (askW L R l 1 n) v∧Same0 _ w' := term_any (lc:=lc) HQ hu.out
     clear HQ
     cases hc:ckB L R l 1 n with
     | true=>
      have b1:=askW_yes hc
      have hu1:Hid (Upto L R l 1 (n+1)):=hu.out.step hc
      clear hc hu
      go_wp2_with (first | (go_at_call 170;refine C.mono ?_;rintro e w2 ⟨v,rfl,hv,hk2⟩;have CI:=is_any hv (askW_len _ _ _ _ _) 0;rw [b1] at CI) | (go_at_call 27;refine CI.mono ?_;rintro e w3 ⟨rfl,rfl⟩))
      go_roundw
      case rel=>first | exact ⟨n+1,by omega,by go_num,hu1,hs.trans' hk2⟩ | ((repeat apply Exists.intro);exact ⟨⟨n+1,by omega,by go_num,hu1,hs.trans' hk2⟩,rfl⟩)
      case measure=>simp [intOf];omega
     | false=>
      have b1:=askW_no hc
      have A:Hid (Ans L R l (askW L R l 1 n)):=Ans.no (by omega) hlt hu.out hc
      clear hc hu
      go_wp2_with (first | (go_at_call 170;refine C.mono ?_;rintro e w2 ⟨v,rfl,hv,hk2⟩;have CI:=is_any hv (askW_len _ _ _ _ _) 0;rw [b1] at CI) | (go_at_call 27;refine CI.mono ?_;rintro e w3 ⟨rfl,rfl⟩))
      go_ret
      exact ⟨_,_,rfl,A.out,hv,askW_len _ _ _ _ _,HK.out.trans' (hs.trans' hk2)⟩
    ·have hu1:Hid (Upto L R l (1+1) 0):=hu.out.next (by omega)
     go_wp2
     exact ⟨⟨1+1,by omega,by go_num,hu1,hs⟩,by simp [intOf]⟩
  | 2,_=>
   have f0:=cellAt (HG.out _ hs) 2
   simp only [List.getElem?_toArray,List.getElem?_cons_zero,List.getElem?_cons_succ] at f0
   go_wp2
   go_loopw [22] (fun i wr=>∃ n:Nat,n≤l.length∧i=.int .i64 (n:Int)∧Hid (Upto L R l 2 n)∧Same0 w1 wr) (fun i _=>l.length-(intOf i).toNat)
   case atStart=>exact ⟨0,Nat.zero_le _,rfl,hu0,hs⟩
   case round=>
    clear f0 hs hu0
    obtain ⟨n,hn,rfl,hu,hs⟩:=hrel
    by_cases hlt:n<l.length
    ·have HQ:=HC.out n hlt _ hs
     have C:Calls Tryz.prog 171 #[.agg #[.pointer (some ⟨b,0,none⟩),.slice lo l.length lc,.int .i64 (n:Int)]] _ fun e w' => ∃ v,e=.returned v∧FltAt w' (askW L R l 2 n) v∧Same0 _ w' := side_any (lc:=lc) HQ hu.out
     clear HQ
     cases hc:ckB L R l 2 n with
     | true=>
      have b1:=askW_yes hc
      have hu1:Hid (Upto L R l 2 (n+1)):=hu.out.step hc
      clear hc hu
      go_wp2_with (first | (go_at_call 171;refine C.mono ?_;rintro e w2 ⟨v,rfl,hv,hk2⟩;have CI:=is_any hv (askW_len _ _ _ _ _) 0;rw [b1] at CI) | (go_at_call 27;refine CI.mono ?_;rintro e w3 ⟨rfl,rfl⟩))
      go_roundw
      case rel=>first | exact ⟨n+1,by omega,by go_num,hu1,hs.trans' hk2⟩ | ((repeat apply Exists.intro);exact ⟨⟨n+1,by omega,by go_num,hu1,hs.trans' hk2⟩,rfl⟩)
      case measure=>simp [intOf];omega
     | false=>
      have b1:=askW_no hc
      have A:Hid (Ans L R l (askW L R l 2 n)):=Ans.no (by omega) hlt hu.out hc
      clear hc hu
      go_wp2_with (first | (go_at_call 171;refine C.mono ?_;rintro e w2 ⟨v,rfl,hv,hk2⟩;have CI:=is_any hv (askW_len _ _ _ _ _) 0;rw [b1] at CI) | (go_at_call 27;refine CI.mono ?_;rintro e w3 ⟨rfl,rfl⟩))
      go_ret
      exact ⟨_,_,rfl,A.out,hv,askW_len _ _ _ _ _,HK.out.trans' (hs.trans' hk2)⟩
    ·have hu1:Hid (Upto L R l (2+1) 0):=hu.out.next (by omega)
     go_wp2
     exact ⟨⟨2+1,by omega,by go_num,hu1,hs⟩,by simp [intOf]⟩
  | 3,_=>
   have f0:=cellAt (HG.out _ hs) 3
   simp only [List.getElem?_toArray,List.getElem?_cons_zero,List.getElem?_cons_succ] at f0
   go_wp2
   go_loopw [22] (fun i wr=>∃ n:Nat,n≤l.length∧i=.int .i64 (n:Int)∧Hid (Upto L R l 3 n)∧Same0 w1 wr) (fun i _=>l.length-(intOf i).toNat)
   case atStart=>exact ⟨0,Nat.zero_le _,rfl,hu0,hs⟩
   case round=>
    clear f0 hs hu0
    obtain ⟨n,hn,rfl,hu,hs⟩:=hrel
    by_cases hlt:n<l.length
    ·have HQ:=HC.out n hlt _ hs
     have C:Calls Tryz.prog 172 #[.agg #[.pointer (some ⟨b,0,none⟩),.slice lo l.length lc,.int .i64 (n:Int)]] _ fun e w' => ∃ v,e=.returned v∧FltAt w' (askW L R l 3 n) v∧Same0 _ w' := root_any (lc:=lc) HQ hu.out
     clear HQ
     cases hc:ckB L R l 3 n with
     | true=>
      have b1:=askW_yes hc
      have hu1:Hid (Upto L R l 3 (n+1)):=hu.out.step hc
      clear hc hu
      go_wp2_with (first | (go_at_call 172;refine C.mono ?_;rintro e w2 ⟨v,rfl,hv,hk2⟩;have CI:=is_any hv (askW_len _ _ _ _ _) 0;rw [b1] at CI) | (go_at_call 27;refine CI.mono ?_;rintro e w3 ⟨rfl,rfl⟩))
      go_roundw
      case rel=>first | exact ⟨n+1,by omega,by go_num,hu1,hs.trans' hk2⟩ | ((repeat apply Exists.intro);exact ⟨⟨n+1,by omega,by go_num,hu1,hs.trans' hk2⟩,rfl⟩)
      case measure=>simp [intOf];omega
     | false=>
      have b1:=askW_no hc
      have A:Hid (Ans L R l (askW L R l 3 n)):=Ans.no (by omega) hlt hu.out hc
      clear hc hu
      go_wp2_with (first | (go_at_call 172;refine C.mono ?_;rintro e w2 ⟨v,rfl,hv,hk2⟩;have CI:=is_any hv (askW_len _ _ _ _ _) 0;rw [b1] at CI) | (go_at_call 27;refine CI.mono ?_;rintro e w3 ⟨rfl,rfl⟩))
      go_ret
      exact ⟨_,_,rfl,A.out,hv,askW_len _ _ _ _ _,HK.out.trans' (hs.trans' hk2)⟩
    ·have hu1:Hid (Upto L R l (3+1) 0):=hu.out.next (by omega)
     go_wp2
     exact ⟨⟨3+1,by omega,by go_num,hu1,hs⟩,by simp [intOf]⟩
  | 4,_=>
   have f0:=cellAt (HG.out _ hs) 4
   simp only [List.getElem?_toArray,List.getElem?_cons_zero,List.getElem?_cons_succ] at f0
   go_wp2
   go_loopw [22] (fun i wr=>∃ n:Nat,n≤l.length∧i=.int .i64 (n:Int)∧Hid (Upto L R l 4 n)∧Same0 w1 wr) (fun i _=>l.length-(intOf i).toNat)
   case atStart=>exact ⟨0,Nat.zero_le _,rfl,hu0,hs⟩
   case round=>
    clear f0 hs hu0
    obtain ⟨n,hn,rfl,hu,hs⟩:=hrel
    by_cases hlt:n<l.length
    ·have HQ:=HC.out n hlt _ hs
     have C:Calls Tryz.prog 173 #[.agg #[.pointer (some ⟨b,0,none⟩),.slice lo l.length lc,.int .i64 (n:Int)]] _ fun e w' => ∃ v,e=.returned v∧FltAt w' (askW L R l 4 n) v∧Same0 _ w' := linear_any (lc:=lc) HQ hu.out
     clear HQ
     cases hc:ckB L R l 4 n with
     | true=>
      have b1:=askW_yes hc
      have hu1:Hid (Upto L R l 4 (n+1)):=hu.out.step hc
      clear hc hu
      go_wp2_with (first | (go_at_call 173;refine C.mono ?_;rintro e w2 ⟨v,rfl,hv,hk2⟩;have CI:=is_any hv (askW_len _ _ _ _ _) 0;rw [b1] at CI) | (go_at_call 27;refine CI.mono ?_;rintro e w3 ⟨rfl,rfl⟩))
      go_roundw
      case rel=>first | exact ⟨n+1,by omega,by go_num,hu1,hs.trans' hk2⟩ | ((repeat apply Exists.intro);exact ⟨⟨n+1,by omega,by go_num,hu1,hs.trans' hk2⟩,rfl⟩)
      case measure=>simp [intOf];omega
     | false=>
      have b1:=askW_no hc
      have A:Hid (Ans L R l (askW L R l 4 n)):=Ans.no (by omega) hlt hu.out hc
      clear hc hu
      go_wp2_with (first | (go_at_call 173;refine C.mono ?_;rintro e w2 ⟨v,rfl,hv,hk2⟩;have CI:=is_any hv (askW_len _ _ _ _ _) 0;rw [b1] at CI) | (go_at_call 27;refine CI.mono ?_;rintro e w3 ⟨rfl,rfl⟩))
      go_ret
      exact ⟨_,_,rfl,A.out,hv,askW_len _ _ _ _ _,HK.out.trans' (hs.trans' hk2)⟩
    ·have hu1:Hid (Upto L R l (4+1) 0):=hu.out.next (by omega)
     go_wp2
     exact ⟨⟨4+1,by omega,by go_num,hu1,hs⟩,by simp [intOf]⟩
  | 5,_=>
   have f0:=cellAt (HG.out _ hs) 5
   simp only [List.getElem?_toArray,List.getElem?_cons_zero,List.getElem?_cons_succ] at f0
   go_wp2
   go_loopw [22] (fun i wr=>∃ n:Nat,n≤l.length∧i=.int .i64 (n:Int)∧Hid (Upto L R l 5 n)∧Same0 w1 wr) (fun i _=>l.length-(intOf i).toNat)
   case atStart=>exact ⟨0,Nat.zero_le _,rfl,hu0,hs⟩
   case round=>
    clear f0 hs hu0
    obtain ⟨n,hn,rfl,hu,hs⟩:=hrel
    by_cases hlt:n<l.length
    ·have HQ:=HC.out n hlt _ hs
     have C:Calls Tryz.prog 174 #[.agg #[.pointer (some ⟨b,0,none⟩),.slice lo l.length lc,.int .i64 (n:Int)]] _ fun e w' => ∃ v,e=.returned v∧FltAt w' (askW L R l 5 n) v∧Same0 _ w' := below_any (lc:=lc) HQ hu.out
     clear HQ
     cases hc:ckB L R l 5 n with
     | true=>
      have b1:=askW_yes hc
      have hu1:Hid (Upto L R l 5 (n+1)):=hu.out.step hc
      clear hc hu
      go_wp2_with (first | (go_at_call 174;refine C.mono ?_;rintro e w2 ⟨v,rfl,hv,hk2⟩;have CI:=is_any hv (askW_len _ _ _ _ _) 0;rw [b1] at CI) | (go_at_call 27;refine CI.mono ?_;rintro e w3 ⟨rfl,rfl⟩))
      go_roundw
      case rel=>first | exact ⟨n+1,by omega,by go_num,hu1,hs.trans' hk2⟩ | ((repeat apply Exists.intro);exact ⟨⟨n+1,by omega,by go_num,hu1,hs.trans' hk2⟩,rfl⟩)
      case measure=>simp [intOf];omega
     | false=>
      have b1:=askW_no hc
      have A:Hid (Ans L R l (askW L R l 5 n)):=Ans.no (by omega) hlt hu.out hc
      clear hc hu
      go_wp2_with (first | (go_at_call 174;refine C.mono ?_;rintro e w2 ⟨v,rfl,hv,hk2⟩;have CI:=is_any hv (askW_len _ _ _ _ _) 0;rw [b1] at CI) | (go_at_call 27;refine CI.mono ?_;rintro e w3 ⟨rfl,rfl⟩))
      go_ret
      exact ⟨_,_,rfl,A.out,hv,askW_len _ _ _ _ _,HK.out.trans' (hs.trans' hk2)⟩
    ·have hu1:Hid (Upto L R l (5+1) 0):=hu.out.next (by omega)
     go_wp2
     exact ⟨⟨5+1,by omega,by go_num,hu1,hs⟩,by simp [intOf]⟩
  | 6,_=>
   have f0:=cellAt (HG.out _ hs) 6
   simp only [List.getElem?_toArray,List.getElem?_cons_zero,List.getElem?_cons_succ] at f0
   go_wp2
   go_loopw [22] (fun i wr=>∃ n:Nat,n≤l.length∧i=.int .i64 (n:Int)∧Hid (Upto L R l 6 n)∧Same0 w1 wr) (fun i _=>l.length-(intOf i).toNat)
   case atStart=>exact ⟨0,Nat.zero_le _,rfl,hu0,hs⟩
   case round=>
    clear f0 hs hu0
    obtain ⟨n,hn,rfl,hu,hs⟩:=hrel
    by_cases hlt:n<l.length
    ·have HQ:=HC.out n hlt _ hs
     have C:Calls Tryz.prog 175 #[.agg #[.pointer (some ⟨b,0,none⟩),.slice lo l.length lc,.int .i64 (n:Int)]] _ fun e w' => ∃ v,e=.returned v∧FltAt w' (askW L R l 6 n) v∧Same0 _ w' := free_any (lc:=lc) HQ hu.out
     clear HQ
     cases hc:ckB L R l 6 n with
     | true=>
      have b1:=askW_yes hc
      have hu1:Hid (Upto L R l 6 (n+1)):=hu.out.step hc
      clear hc hu
      go_wp2_with (first | (go_at_call 175;refine C.mono ?_;rintro e w2 ⟨v,rfl,hv,hk2⟩;have CI:=is_any hv (askW_len _ _ _ _ _) 0;rw [b1] at CI) | (go_at_call 27;refine CI.mono ?_;rintro e w3 ⟨rfl,rfl⟩))
      go_roundw
      case rel=>first | exact ⟨n+1,by omega,by go_num,hu1,hs.trans' hk2⟩ | ((repeat apply Exists.intro);exact ⟨⟨n+1,by omega,by go_num,hu1,hs.trans' hk2⟩,rfl⟩)
      case measure=>simp [intOf];omega
     | false=>
      have b1:=askW_no hc
      have A:Hid (Ans L R l (askW L R l 6 n)):=Ans.no (by omega) hlt hu.out hc
      clear hc hu
      go_wp2_with (first | (go_at_call 175;refine C.mono ?_;rintro e w2 ⟨v,rfl,hv,hk2⟩;have CI:=is_any hv (askW_len _ _ _ _ _) 0;rw [b1] at CI) | (go_at_call 27;refine CI.mono ?_;rintro e w3 ⟨rfl,rfl⟩))
      go_ret
      exact ⟨_,_,rfl,A.out,hv,askW_len _ _ _ _ _,HK.out.trans' (hs.trans' hk2)⟩
    ·have hu1:Hid (Upto L R l (6+1) 0):=hu.out.next (by omega)
     go_wp2
     exact ⟨⟨6+1,by omega,by go_num,hu1,hs⟩,by simp [intOf]⟩
  | 7,_=>
   have f0:=cellAt (HG.out _ hs) 7
   simp only [List.getElem?_toArray,List.getElem?_cons_zero,List.getElem?_cons_succ] at f0
   go_wp2
   go_loopw [22] (fun i wr=>∃ n:Nat,n≤l.length∧i=.int .i64 (n:Int)∧Hid (Upto L R l 7 n)∧Same0 w1 wr) (fun i _=>l.length-(intOf i).toNat)
   case atStart=>exact ⟨0,Nat.zero_le _,rfl,hu0,hs⟩
   case round=>
    clear f0 hs hu0
    obtain ⟨n,hn,rfl,hu,hs⟩:=hrel
    by_cases hlt:n<l.length
    ·have HQ:=HC.out n hlt _ hs
     have C:Calls Tryz.prog 176 #[.agg #[.pointer (some ⟨b,0,none⟩),.slice lo l.length lc,.int .i64 (n:Int)]] _ fun e w' => ∃ v,e=.returned v∧FltAt w' (askW L R l 7 n) v∧Same0 _ w' := overlap_any (lc:=lc) HQ hlc hu.out
     clear HQ
     cases hc:ckB L R l 7 n with
     | true=>
      have b1:=askW_yes hc
      have hu1:Hid (Upto L R l 7 (n+1)):=hu.out.step hc
      clear hc hu
      go_wp2_with (first | (go_at_call 176;refine C.mono ?_;rintro e w2 ⟨v,rfl,hv,hk2⟩;have CI:=is_any hv (askW_len _ _ _ _ _) 0;rw [b1] at CI) | (go_at_call 27;refine CI.mono ?_;rintro e w3 ⟨rfl,rfl⟩))
      go_roundw
      case rel=>first | exact ⟨n+1,by omega,by go_num,hu1,hs.trans' hk2⟩ | ((repeat apply Exists.intro);exact ⟨⟨n+1,by omega,by go_num,hu1,hs.trans' hk2⟩,rfl⟩)
      case measure=>simp [intOf];omega
     | false=>
      have b1:=askW_no hc
      have A:Hid (Ans L R l (askW L R l 7 n)):=Ans.no (by omega) hlt hu.out hc
      clear hc hu
      go_wp2_with (first | (go_at_call 176;refine C.mono ?_;rintro e w2 ⟨v,rfl,hv,hk2⟩;have CI:=is_any hv (askW_len _ _ _ _ _) 0;rw [b1] at CI) | (go_at_call 27;refine CI.mono ?_;rintro e w3 ⟨rfl,rfl⟩))
      go_ret
      exact ⟨_,_,rfl,A.out,hv,askW_len _ _ _ _ _,HK.out.trans' (hs.trans' hk2)⟩
    ·have hu1:Hid (Upto L R l (7+1) 0):=hu.out.next (by omega)
     go_wp2
     exact ⟨⟨7+1,by omega,by go_num,hu1,hs⟩,by simp [intOf]⟩
  | 8,_=>
   have A:Hid (Ans L R l []):=.inl ⟨rfl,hu0.out⟩
   go_wp2
   go_ret
   exact ⟨[],_,rfl,A.out,rfl,by simp,HK.out.trans' hs⟩
  | j+9,hj=>exact absurd hj (by omega)
def TmAt (w:World) (g c:Nat) (xs:List Int):Prop:=Row g w (.slice (some ⟨g,0,none⟩) xs.length c) xs
theorem TmAt.same {w w' : World} {g c:Nat} {xs:List Int} (h:TmAt w g c xs) (hk:Same0 w w'):TmAt w' g c xs:=hk.row h (fun _ _ f=>f)
theorem clone_at {w:World} {ao:Option Addr} {cap:Nat} {xs:List Int} (hx:IntsAt w ao xs) (hn:0<xs.length) (hsz:xs.length≤2000) :
  Calls Tryz.prog 123 #[.slice ao xs.length cap] w fun e w' => ∃ g c,e=.returned (.slice (some ⟨g,0,none⟩) xs.length c)∧TmAt w' g c xs∧w.heap.size≤g∧g<w'.heap.size∧Same0 w w' := by
 refine (clone_term hx hn hsz).mono ?_
 rintro e w' ⟨v,rfl,hr,hk⟩
 rcases hr.2 with ⟨rfl,h0⟩ | ⟨g,c,cur,rfl,hb,hg,r⟩
 ·omega
 ·exact ⟨g,c,rfl,⟨hr.1,.inr ⟨g,c,cur,rfl,Nat.le_refl _,hg,r⟩⟩,hb,lt_of_at hg,hk⟩
set_option maxHeartbeats 8000000 in
theorem copied_any {w:World} {ao bo:Option Addr} {ac bc:Nat} {x:Ru} (h1:IntsAt w ao x.1) (h2:IntsAt w bo x.2) (p1:0<x.1.length) (p2:0<x.2.length) (m1:x.1.length≤2000) (m2:x.2.length≤2000) :
  Calls Tryz.prog 81 #[.agg #[.slice ao x.1.length ac,.slice bo x.2.length bc]] w fun e w' => ∃ g c g' c', e=.returned (.agg #[.slice (some ⟨g,0,none⟩) x.1.length c,.slice (some ⟨g', 0,none⟩) x.2.length c'])∧TmAt w' g c x.1∧TmAt w' g' c' x.2∧w.heap.size≤g∧w.heap.size≤g' ∧ g≠g' ∧ Same0 w w' := by
 obtain ⟨wb,hwb⟩:∃ wb,wb=(w.alloc (.cells #[.slice ao x.1.length ac,.slice bo x.2.length bc] 90)).alloc (.cells #[.slice none 0 0,.slice none 0 0] 90):=⟨_,rfl⟩
 have K0:Same0 w wb:=by rw [hwb];exact ((Kept.refl _ w).alloc _).alloc _
 have z0:wb.heap.size=w.heap.size+2:=by rw [hwb];simp
 have B0:wb.heap[w.heap.size]? = some (.cells #[.slice ao x.1.length ac,.slice bo x.2.length bc] 90 (0,0)):=by rw [hwb];exact heap_alloc2_old _ _ _
 have B1:wb.heap[w.heap.size+1]? = some (.cells #[.slice none 0 0,.slice none 0 0] 90 (0,0)):=by rw [hwb];exact heap_al_al _ _ _
 have HS:Hid (∀ ww,Same0 wb ww→(ww.cell? ⟨w.heap.size,0,none⟩=some (.slice ao x.1.length ac)∧ww.cell? ⟨w.heap.size,1,none⟩=some (.slice bo x.2.length bc))∧(ww.cell? ⟨w.heap.size+1,0,none⟩=some (.slice none 0 0)∧ww.cell? ⟨w.heap.size+1,1,none⟩=some (.slice none 0 0))∧ww.frozen? ⟨w.heap.size+1,0,none⟩=false∧ww.frozen? ⟨w.heap.size+1,1,none⟩=false):=fun ww hk=>⟨⟨cellAt (hk.at0 B0) 0,cellAt (hk.at0 B0) 1⟩,⟨cellAt (hk.at0 B1) 0,cellAt (hk.at0 B1) 1⟩,frozenAt (hk.at0 B1) 0,frozenAt (hk.at0 B1) 1⟩
 have C1:Hid (∀ ww,Same0 wb ww→Calls Tryz.prog 123 #[.slice ao x.1.length ac] ww fun e w' => ∃ g c,e=.returned (.slice (some ⟨g,0,none⟩) x.1.length c)∧TmAt w' g c x.1∧ww.heap.size≤g∧g<w'.heap.size∧Same0 ww w'):=fun ww hk=>clone_at ((h1.same K0).same hk) p1 m1
 have C2:Hid (∀ ww,Same0 wb ww→Calls Tryz.prog 123 #[.slice bo x.2.length bc] ww fun e w' => ∃ g c,e=.returned (.slice (some ⟨g,0,none⟩) x.2.length c)∧TmAt w' g c x.2∧ww.heap.size≤g∧g<w'.heap.size∧Same0 ww w'):=fun ww hk=>clone_at ((h2.same K0).same hk) p2 m2
 have HE:Hid (∀ ww (A B:Value),Same0 wb ww→Same0 w ((ww.setCell ⟨w.heap.size+1,0,none⟩ A).setCell ⟨w.heap.size+1,1,none⟩ B)):=fun ww A B hk=>((K0.trans' hk).setCell (fun h=>absurd h (by simp)) _).setCell (fun h=>absurd h (by simp)) _
 have HT:Hid (∀ ww g c xs (A B:Value),TmAt ww g c xs→wb.heap.size≤g→TmAt ((ww.setCell ⟨w.heap.size+1,0,none⟩ A).setCell ⟨w.heap.size+1,1,none⟩ B) g c xs):=fun ww g c xs A B ht hg=>by
  have k:Kept (fun k=>k=w.heap.size+1) ww ((ww.setCell ⟨w.heap.size+1,0,none⟩ A).setCell ⟨w.heap.size+1,1,none⟩ B):=Kept.setCell (p:=⟨w.heap.size+1,1,none⟩) (Kept.setCell (p:=⟨w.heap.size+1,0,none⟩) (Kept.refl (fun k=>k=w.heap.size+1) ww) (fun _=>rfl) A) (fun _=>rfl) B
  exact k.row ht (fun i e=>by simp [Value.ownBlock] at e;omega)
 have HR:Hid (∀ ww (A B:Value),Same0 wb ww→((ww.setCell ⟨w.heap.size+1,0,none⟩ A).setCell ⟨w.heap.size+1,1,none⟩ B).cell? ⟨w.heap.size+1,0,none⟩=some A∧((ww.setCell ⟨w.heap.size+1,0,none⟩ A).setCell ⟨w.heap.size+1,1,none⟩ B).cell? ⟨w.heap.size+1,1,none⟩=some B):=fun ww A B hk=>by
  have b:=setAt (setAt (hk.at0 B1) 0 A) 1 B
  exact ⟨cellAt b 0,cellAt b 1⟩
 have HSE:Hid (∀ ww (A B:Value),Same0 wb ww→((ww.setCell ⟨w.heap.size+1,0,none⟩ A).setCell ⟨w.heap.size+1,1,none⟩ B).cell? ⟨w.heap.size,0,none⟩=some (.slice ao x.1.length ac)∧((ww.setCell ⟨w.heap.size+1,0,none⟩ A).setCell ⟨w.heap.size+1,1,none⟩ B).cell? ⟨w.heap.size,1,none⟩=some (.slice bo x.2.length bc)):=fun ww A B hk=>by
  have k:Kept (fun k=>k=w.heap.size+1) ww ((ww.setCell ⟨w.heap.size+1,0,none⟩ A).setCell ⟨w.heap.size+1,1,none⟩ B):=Kept.setCell (p:=⟨w.heap.size+1,1,none⟩) (Kept.setCell (p:=⟨w.heap.size+1,0,none⟩) (Kept.refl (fun k=>k=w.heap.size+1) ww) (fun _=>rfl) A) (fun _=>rfl) B
  have b:=k.at (hk.at0 B0) (by omega)
  exact ⟨cellAt b 0,cellAt b 1⟩
 have CX:Hid (∀ ww so sc (xs:List Int),((so=ao∧xs=x.1∧sc=ac)∨(so=bo∧xs=x.2∧sc=bc))→Same0 wb ww→Calls Tryz.prog 123 #[.slice so xs.length sc] ww fun e w' => ∃ g c,e=.returned (.slice (some ⟨g,0,none⟩) xs.length c)∧TmAt w' g c xs∧ww.heap.size≤g∧g<w'.heap.size∧Same0 ww w' ∧ Same0 wb w'):=fun ww so sc xs h hk=>by
  rcases h with ⟨rfl,rfl,rfl⟩ | ⟨rfl,rfl,rfl⟩
  ·exact (C1.out ww hk).mono (fun e w' ⟨g,c,q1,q2,q3,q4,q5⟩=>⟨g,c,q1,q2,q3,q4,q5,hk.trans' q5⟩)
  ·exact (C2.out ww hk).mono (fun e w' ⟨g,c,q1,q2,q3,q4,q5⟩=>⟨g,c,q1,q2,q3,q4,q5,hk.trans' q5⟩)
 obtain ⟨CC0,_,_,_⟩:=HS.out wb (Kept.refl _ _)
 have W1:Same0 wb wb.drew:=Kept.drew (Kept.refl _ _)
 have HW:Hid (wb=(w.alloc (.cells #[.slice ao x.1.length ac,.slice bo x.2.length bc] 90)).alloc (.cells #[.slice none 0 0,.slice none 0 0] 90)):=hwb
 clear B0 B1 h1 h2 K0 C1 C2 hwb
 go_enter Tryz.func81,Tryz.ntmps81
 go_wp2
 rw [← HW.out]
 go_region_held3 (fun w' => w'.cell? ⟨w.heap.size,0,none⟩=some (.slice ao x.1.length ac)∧w'.cell? ⟨w.heap.size,1,none⟩=some (.slice bo x.2.length bc)) (first | exact HSE.out _ _ _ hw2 | exact cc2 | exact cc1 | exact CC0) (first
  | (go_at_call 123;have hold:=ht;refine (CX.out _ _ _ _ (by first | exact .inl ⟨rfl,rfl,rfl⟩ | exact .inr ⟨rfl,rfl,rfl⟩) hw1).mono ?_;rintro e w2 ⟨g2,c2,rfl,ht2,hg3,hg4,hk2,hw2⟩;have ht1:=hold.same hk2;obtain ⟨cc2,⟨rr1,rr2⟩,ff1,ff2⟩:=HS.out _ hw2)
  | (go_at_call 123;refine (CX.out _ _ _ _ (by first | exact .inl ⟨rfl,rfl,rfl⟩ | exact .inr ⟨rfl,rfl,rfl⟩) W1).mono ?_;rintro e w1 ⟨g,c,rfl,ht,hg1,hg2,hk,hw1⟩;obtain ⟨cc1,_⟩:=HS.out _ hw1))
 all_goals
  have y0:wb.drew.heap.size=wb.heap.size:=rfl
  have y1:=hk2.size
  have y2:=hw1.size
  go_wp2
  first
   | exact bodyPost_ret (v:=.agg #[.slice (some ⟨g,0,none⟩) x.1.length c,.slice (some ⟨g2,0,none⟩) x.2.length c2]) (by obtain ⟨r0,r1⟩:=HR.out w2 (.slice (some ⟨g,0,none⟩) x.1.length c) (.slice (some ⟨g2,0,none⟩) x.2.length c2) hw2;simp [results,Tryz.results81,go_sem,r0,r1]) rfl ⟨g,c,g2,c2,rfl,HT.out _ _ _ _ _ _ ht1 (by omega),HT.out _ _ _ _ _ _ ht2 (by omega),by omega,by omega,by omega,HE.out _ _ _ hw2⟩
   | exact bodyPost_ret (v:=.agg #[.slice (some ⟨g2,0,none⟩) x.1.length c2,.slice (some ⟨g,0,none⟩) x.2.length c]) (by obtain ⟨r0,r1⟩:=HR.out w2 (.slice (some ⟨g2,0,none⟩) x.1.length c2) (.slice (some ⟨g,0,none⟩) x.2.length c) hw2;simp [results,Tryz.results81,go_sem,r0,r1]) rfl ⟨g2,c2,g,c,rfl,HT.out _ _ _ _ _ _ ht2 (by omega),HT.out _ _ _ _ _ _ ht1 (by omega),by omega,by omega,by omega,HE.out _ _ _ hw2⟩
def OCells (w:World) (vs:List Value) (l:List Ru):Prop:=
 vs.length=l.length * 2∧∀ i (h:i<l.length),∃ g c g' c', vs[i * 2]? = some (.slice (some ⟨g,0,none⟩) l[i].1.length c)∧vs[i * 2+1]? = some (.slice (some ⟨g', 0,none⟩) l[i].2.length c')∧TmAt w g c l[i].1∧TmAt w g' c' l[i].2
theorem TmAt.kept {w w' : World} {g c:Nat} {xs:List Int} {S:Nat→Prop} (h:TmAt w g c xs) (hk:Kept S w w') (hS:∀ k,S k→∀ cur,w.heap[k]? ≠ some (.cells cur 3 (0,0))):TmAt w' g c xs:=by
 refine hk.row h (fun k e hs=>?_)
 rcases h.2 with ⟨h0,_⟩ | ⟨g', c', cur,h1,_,hg,_⟩
 ·cases h0
 ·cases h1
  simp [Value.ownBlock] at e
  subst e
  exact hS _ hs _ hg
theorem TmAt.arg {w:World} {g c:Nat} {xs:List Int} (h:TmAt w g c xs) (hx:xs.length≤2000):Arg w (some ⟨g,0,none⟩) xs c:=by
 obtain ⟨ao,cap,e,h1,h2,_⟩:=Row.ints h
 simp only [Value.slice.injEq] at e
 obtain ⟨rfl,_,rfl⟩:=e
 exact ⟨h1,h2,(fun e=>by cases e),by omega⟩
theorem OCells.kept {w w' : World} {vs:List Value} {l:List Ru} {S:Nat→Prop} (h:OCells w vs l) (hk:Kept S w w') (hS:∀ k,S k→∀ cur,w.heap[k]? ≠ some (.cells cur 3 (0,0))):OCells w' vs l:=
 ⟨h.1,fun i hi=>by
  obtain ⟨g,c,g', c', h1,h2,h3,h4⟩:=h.2 i hi
  exact ⟨g,c,g', c', h1,h2,h3.kept hk hS,h4.kept hk hS⟩⟩
theorem OCells.same {w w' : World} {vs:List Value} {l:List Ru} (h:OCells w vs l) (hk:Same0 w w'):OCells w' vs l:=h.kept hk (fun _ f=>f.elim)
theorem OCells.rcells {w:World} {vs:List Value} {l:List Ru} (h:OCells w vs l) (hl:∀ x∈l,x.1.length≤2000∧x.2.length≤2000):RCells w vs l:=
 ⟨h.1,fun i hi=>by
  obtain ⟨g,c,g', c', h1,h2,h3,h4⟩:=h.2 i hi
  have:=hl _ (List.getElem_mem hi)
  exact ⟨_,_,_,_,h1,h2,h3.arg this.1,h4.arg this.2⟩⟩
theorem OCells.append {w:World} {vs us:List Value} {l m:List Ru} (h:OCells w vs l) (k:OCells w us m):OCells w (vs++us) (l++m):=by
 refine ⟨by simp [h.1,k.1];omega,fun i hi=>?_⟩
 by_cases hl:i<l.length
 ·rw [List.getElem_append_left hl,List.getElem?_append_left (by rw [h.1];omega),List.getElem?_append_left (by rw [h.1];omega)]
  exact h.2 i hl
 ·have hm:i-l.length<m.length:=by simp at hi;omega
  rw [List.getElem_append_right (by omega),List.getElem?_append_right (by rw [h.1];omega),List.getElem?_append_right (by rw [h.1];omega)]
  have e1:i * 2-vs.length=(i-l.length) * 2:=by rw [h.1];omega
  have e2:i * 2+1-vs.length=(i-l.length) * 2+1:=by rw [h.1];omega
  rw [e1,e2]
  exact k.2 _ hm
theorem take_set2 (cs:Array Value) (k:Nat) (A B:Value) (h:k * 2+1<cs.size):((cs.setIfInBounds (k * 2) A).setIfInBounds (k * 2+1) B).toList.take ((k+1) * 2)=cs.toList.take (k * 2) ++ [A,B]:=by
 obtain ⟨l⟩:=cs
 simp only [List.size_toArray] at h
 simp only [List.setIfInBounds_toArray]
 have e1:l.set (k * 2) A=l.take (k * 2)++A :: l.drop (k * 2+1):=by rw [List.set_eq_take_append_cons_drop,if_pos (by omega)]
 have e2:(l.take (k * 2)).length=k * 2:=by simp;omega
 have e3:l.drop (k * 2+1)=l[k * 2+1] :: l.drop (k * 2+2):=List.drop_eq_getElem_cons h
 have e4:((l.take (k * 2)++A :: l.drop (k * 2+1)).set (k * 2+1) B)=l.take (k * 2)++A :: B :: l.drop (k * 2+2):=by
  rw [e3,List.set_append_right _ _ (by omega),e2]
  have:k * 2+1-k * 2=1:=by omega
  rw [this];rfl
 have e5:(k+1) * 2=(l.take (k * 2)).length+2:=by omega
 rw [e1,e4,e5,List.take_length_add_append]
 rfl
theorem OCells.one {w:World} {g c g' c' : Nat} {x:Ru} (h1:TmAt w g c x.1) (h2:TmAt w g' c' x.2):OCells w [.slice (some ⟨g,0,none⟩) x.1.length c,.slice (some ⟨g', 0,none⟩) x.2.length c'] [x]:=
 ⟨rfl,fun i hi=>by
  obtain rfl:i=0:=by simp at hi;omega
  exact ⟨g,c,g', c', rfl,rfl,h1,h2⟩⟩
set_option maxHeartbeats 4000000 in
theorem copies_any {w:World} {lo:Option Addr} {lc:Nat} {l:List Ru} (hl:RsAt w lo l) (hn:l.length≤100) (hx:∀ x∈l,(0<x.1.length∧x.1.length≤2000)∧0<x.2.length∧x.2.length≤2000) :
  Calls Tryz.prog 75 #[.slice lo l.length lc] w fun e w' => ∃ vs,e=.returned (.slice (some ⟨w.heap.size,0,none⟩) l.length l.length)∧w'.ownsRow w.heap.size 90 2 (.slice (some ⟨w.heap.size,0,none⟩) l.length l.length) l.length vs∧OCells w' vs l∧Same0 w w' := by
 have i0:(0:Int)≤(l.length:Int):=by omega
 obtain ⟨Z,hZs,hmk⟩:∃ Z:Array Value,Z.size=l.length * 2∧∀ w:World,(Instr.makeSlice 29 (.int .i64 (l.length:Int)) (.int .i64 (l.length:Int))).run Tryz.prog w=.ok (.slice (some ⟨w.heap.size,0,none⟩) l.length l.length) (w.alloc (.cells Z 90)):=by
  obtain ⟨i,hi,hz0,hz1,hz2⟩:=info_parts info_rule
  refine ⟨madeCells (Value.agg #[.slice none 0 0,.slice none 0 0]).cells (l.length * 2),size_madeCells _ _,fun w=>?_⟩
  have:=run_make w 29 90 i _ Tryz.underlying29 hi hz0 .i64 .i64 (l.length:Int) (l.length:Int) (by omega) (by omega) (by rw [hz2];omega) (by omega)
  simpa [hz1] using this
 have K0:Same0 w (w.alloc (.cells Z 90)):=(Kept.refl _ w).alloc _
 have G0:=heap_alloc_new w (.cells Z 90)
 go_enter Tryz.func75,Tryz.ntmps75
 go_wp2
 go_loopw [11] (fun i wr=>∃ (k:Nat) (cs:Array Value),k≤l.length∧i=.int .i64 (k:Int)∧wr.heap[w.heap.size]? = some (.cells cs 90 (0,0))∧Hid (cs.size=l.length * 2∧OCells wr (cs.toList.take (k * 2)) (l.take k))∧Same0 w wr) (fun i _=>l.length-(intOf i).toNat)
 case atStart=>exact ⟨0,Z,Nat.zero_le _,rfl,G0,⟨hZs,by simp,fun i hi=>absurd hi (by simp)⟩,K0⟩
 case round=>
  clear G0 K0 hZs hmk
  obtain ⟨k,cs,hk,rfl,hg,hO,hs⟩:=hrel
  by_cases hlt:k<l.length
  ·obtain ⟨gb,goff,rfl,hgb,go1,gc1,go2,gc2,r0,r1,A1,A2⟩:=(hl.same hs).get hlt
   have i1:(0:Int)≤(k:Int):=by omega
   have i2:(k:Int)<(l.length:Int):=by omega
   have hxk:=hx _ (List.getElem_mem hlt)
   have KA:Same0 wr (wr.alloc (.cells #[.slice go1 l[k].1.length gc1,.slice go2 l[k].2.length gc2] 90)):=(Kept.refl _ _).alloc _
   have CC:Calls Tryz.prog 81 #[.agg #[.slice go1 l[k].1.length gc1,.slice go2 l[k].2.length gc2]] (wr.alloc (.cells #[.slice go1 l[k].1.length gc1,.slice go2 l[k].2.length gc2] 90)) _:=copied_any (ac:=gc1) (bc:=gc2) (x:=l[k]) (A1.same KA).at' (A2.same KA).at' hxk.1.1 hxk.2.1 hxk.1.2 hxk.2.2
   obtain ⟨hcs,hO1⟩:=hO.out
   have hb1:k * 2<cs.size:=by omega
   have hb2:k * 2+1<cs.size:=by omega
   have HF:Hid (∀ ww,Same0 wr ww→ww.heap[w.heap.size]? = some (.cells cs 90 (0,0))):=fun ww hk=>hk.at0 hg
   obtain ⟨o0,e0⟩:∃ o0,cs[k * 2]? = some o0:=⟨_,Array.getElem?_eq_getElem hb1⟩
   obtain ⟨o1,e1⟩:∃ o1,cs[k * 2+1]? = some o1:=⟨_,Array.getElem?_eq_getElem hb2⟩
   have HI:Hid (∀ ww,Same0 wr ww→ww.cell? ⟨w.heap.size,k * 2,none⟩=some o0∧ww.cell? ⟨w.heap.size,k * 2+1,none⟩=some o1∧ww.frozen? ⟨w.heap.size,k * 2,none⟩=false∧ww.frozen? ⟨w.heap.size,k * 2+1,none⟩=false):=fun ww hk=>⟨(cellAt (HF.out ww hk) _).trans e0,(cellAt (HF.out ww hk) _).trans e1,frozenAt (HF.out ww hk) _,frozenAt (HF.out ww hk) _⟩
   have FIN:Hid (∀ w2 g c g' c', Same0 wr w2→TmAt w2 g c l[k].1→TmAt w2 g' c' l[k].2→∃ (k' : Nat) (cs:Array Value),k' ≤ l.length∧Value.int .i64 ((k:Int)+1)=.int .i64 (k' : Int)∧((w2.setCell ⟨w.heap.size,k * 2,none⟩ (.slice (some ⟨g,0,none⟩) l[k].1.length c)).setCell ⟨w.heap.size,k * 2+1,none⟩ (.slice (some ⟨g', 0,none⟩) l[k].2.length c')).heap[w.heap.size]? = some (.cells cs 90 (0,0))∧Hid (cs.size=l.length * 2∧OCells ((w2.setCell ⟨w.heap.size,k * 2,none⟩ (.slice (some ⟨g,0,none⟩) l[k].1.length c)).setCell ⟨w.heap.size,k * 2+1,none⟩ (.slice (some ⟨g', 0,none⟩) l[k].2.length c')) (cs.toList.take (k' * 2)) (l.take k'))∧Same0 w ((w2.setCell ⟨w.heap.size,k * 2,none⟩ (.slice (some ⟨g,0,none⟩) l[k].1.length c)).setCell ⟨w.heap.size,k * 2+1,none⟩ (.slice (some ⟨g', 0,none⟩) l[k].2.length c'))):=by
    intro w2 g c g' c' h2 t1 t2
    have hg2:=HF.out w2 h2
    have ks:Kept (fun k=>k=w.heap.size) w2 ((w2.setCell ⟨w.heap.size,k * 2,none⟩ (.slice (some ⟨g,0,none⟩) l[k].1.length c)).setCell ⟨w.heap.size,k * 2+1,none⟩ (.slice (some ⟨g', 0,none⟩) l[k].2.length c')):=Kept.setCell (p:=⟨w.heap.size,k * 2+1,none⟩) (Kept.setCell (p:=⟨w.heap.size,k * 2,none⟩) (Kept.refl (fun k=>k=w.heap.size) w2) (fun _=>rfl) _) (fun _=>rfl) _
    have ty:∀ q,q=w.heap.size→∀ cur,w2.heap[q]? ≠ some (.cells cur 3 (0,0)):=fun q e cur h=>by subst e;rw [hg2] at h;cases h
    have hO2:=((hO1.same h2).kept ks ty).append (OCells.one (t1.kept ks ty) (t2.kept ks ty))
    refine ⟨k+1,_,by omega,by congr 1,setAt (setAt hg2 _ _) _ _,⟨by simp [hcs],?_⟩,?_⟩
    ·rw [take_set2 _ _ _ _ hb2,List.take_add_one,List.getElem?_eq_getElem hlt]
     exact hO2
    ·exact Kept.trans (hs.trans' h2) ks (fun i hi e=>by omega)
   clear hO hO1 hcs hb1 hb2 e0 e1 hg hxk A1 A2 hx hl
   go_wp2_with (first | (go_at_call 81;refine CC.mono ?_;rintro e w2 ⟨g,c,g', c', rfl,t1,t2,_,_,_,hk2⟩;obtain ⟨q1,q2,q3,q4⟩:=HI.out _ (KA.trans' hk2)))
   exact ⟨FIN.out w2 g c g' c' (KA.trans' hk2) t1 t2,by simp [intOf];omega⟩
  ·obtain rfl:k=l.length:=by omega
   obtain ⟨hcs,hO1⟩:=hO.out
   rw [List.take_length] at hO1
   have RW:Hid (wr.ownsRow w.heap.size 90 2 (.slice (some ⟨w.heap.size,0,none⟩) l.length l.length) l.length (cs.toList.take (l.length * 2))):=⟨by simp [hcs],.inr ⟨w.heap.size,l.length,cs,rfl,Nat.le_refl _,hg,Nat.le_refl _,by unfold maxLen;omega,hcs,rfl⟩⟩
   have OC:Hid (OCells wr (cs.toList.take (l.length * 2)) l):=hO1
   clear hO hO1 hcs hg
   go_wp2
   go_ret
   exact ⟨_,rfl,RW.out,OC.out,hs⟩
end Go.Proofs.YtmjgnfkbnofjoaaGreatDoor
