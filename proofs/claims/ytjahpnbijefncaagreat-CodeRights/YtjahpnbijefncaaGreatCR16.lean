import Derived.Test.YtjahpnbijefncaaGreatCR15
import Derived.Test.YtjahpnbijefncaaGreatCR04
import Derived.Test.YtjahpnbijefncaaGreatCR05
import Derived.Test.YtjahpnbijefncaaGreatCR02
import Derived.Laws.Externs
import Derived.MapKept
import Derived.Deep.RegionWith
import Derived.Deep.DrawnRows
namespace Go.Proofs.YtjahpnbijefncaaGreat
set_option maxRecDepth 100000
set_option linter.unusedVariables false
open Go.RowKit
attribute [local go_sem ↓] Go.wp_at_zero Go.wp_at_succ
theorem vs_from7 {t:List Int}:∀ {o:List Int} {v:Int},v∈vs o t→v∈o∨∃ n∈t,isV n=true∧v = -n:=by
 induction t with
 | nil=>intro o v h;exact .inl h
 | cons x r ih=>
  intro o v h
  rcases ih (o:=vstep o x) h with q | ⟨n,h1,h2,h3⟩
  ·unfold vstep at q
   split at q
   ·rename_i hx
    rcases List.mem_append.1 q with q | q
    ·exact .inl q
    ·simp at q;exact .inr ⟨x,by simp,hx.1,q⟩
   ·exact .inl q
  ·exact .inr ⟨n,by simp [h1],h2,h3⟩
theorem vars_iff {t:List Int} (ht:∀ n∈t, -99≤n) {v:Int}:v∈varsL t ↔ -v∈t∧0<v:=by
 constructor
 ·intro h
  rcases vs_from7 h with q | ⟨n,h1,h2,h3⟩
  ·simp at q
  ·have:=isV_iff.1 h2
   subst h3
   exact ⟨by simpa using h1,by omega⟩
 ·rintro ⟨h1,h2⟩
  have h3:=ht _ h1
  have:=vs_mem (o:=[]) h1 (isV_iff.2 ⟨h3,by omega⟩)
  simpa [varsL] using this
theorem free_eq {a b:List Int} (ha:∀ n∈a, -99≤n) (hb:∀ n∈b, -99≤n):(varsL b).all (fun v=>inB (varsL a) v)=b.all (fun n=>!freeB a n):=by
 rw [Bool.eq_iff_iff,List.all_eq_true,List.all_eq_true]
 constructor
 ·intro h n hn
  by_cases h0:n<0
  ·have:=h (-n) ((vars_iff hb).2 ⟨by simpa using hn,by omega⟩)
   simp only [inB,decide_eq_true_eq] at this
   have:=(vars_iff ha).1 this
   simp [freeB]
   exact .inr (by simpa using this.1)
  ·simp [freeB];exact .inl (by omega)
 ·intro h v hv
  obtain ⟨h1,h2⟩:=(vars_iff hb).1 hv
  have:=h _ h1
  simp [freeB] at this
  simp only [inB,decide_eq_true_eq]
  refine (vars_iff ha).2 ⟨?_,h2⟩
  rcases this with q | q
  ·omega
  ·exact q
set_option maxHeartbeats 1000000 in
theorem rdef_any {n:Nat} {w:World} {rv:Value} {L:List Sym} (h:Rl n w rv L) (x:Int):Calls Tryz.prog 41 #[rv,.int .i64 x] w fun e w' => e=.returned (.bool (defB L x))∧w' = w:=by
 have hlen:=h.2.2.2
 by_cases hx:x<0∨(L.length:Int)≤x
 ·have H:Hid (defB L x=false):=defB_no hx
  obtain ⟨ro,rc,rfl⟩:=row_shape h.1
  rcases hx with hx | hx
  ·have hx' : ¬ (0:Int)≤x:=by omega
   go_enter Tryz.func41,Tryz.ntmps41
   go_wp2
   go_ret
   exact ⟨by rw [H.out];rfl,rfl⟩
  ·have hx' : (0:Int)≤x:=by omega
   have hx'' : ¬ x<(L.length:Int):=by omega
   go_enter Tryz.func41,Tryz.ntmps41
   go_wp2
   go_ret
   exact ⟨by rw [H.out];rfl,rfl⟩
 ·obtain ⟨i,rfl⟩:∃ i:Nat,x=(i:Int):=⟨x.toNat,by omega⟩
  have hi:i<L.length:=by omega
  have H:Hid (defB L (i:Int)=L[i].df):=defB_at hi
  rcases h.1.2 with ⟨_,h0⟩ | ⟨g,cap,cur,rfl,_,hg,_⟩
  ·omega
  ·have hc:=h.1.cells (g:=g) rfl _ _ (symCells_at hi).2.2
   rw [addr_add,Nat.zero_add] at hc
   have i1:(0:Int)≤(i:Int):=by omega
   have i2:(i:Int)<(L.length:Int):=by omega
   clear h hg
   go_enter Tryz.func41,Tryz.ntmps41
   go_wp2
   go_ret
   exact ⟨by rw [H.out];rfl,rfl⟩
set_option maxHeartbeats 2000000 in
theorem rlinear_any {w:World} {ao:Option Addr} {ac:Nat} {t:List Int} (ht:IntsAt w ao t) (hm:t.length≤2000) :
  Calls Tryz.prog 150 #[.slice ao t.length ac] w fun e w' => e=.returned (.bool (decide (negN t=(varsL t).length)))∧Same0 w w' := by
 have CV:=rvars_any (cap:=ac) ht (by omega)
 have hvl:(varsL t).length≤t.length:=by have:=vs_len [] t;simpa [varsL] using this
 have E:Hid (∀ q:Bool,(q=true ↔ negN t=(varsL t).length)→q=decide (negN t=(varsL t).length)):=fun q h=>by cases q <;> simp_all
 go_enter Tryz.func150,Tryz.ntmps150
 go_wp2
 go_loop [3,4] (fun s i=>∃ k:Nat,k≤t.length∧i=.int .i64 (k:Int)∧s=.int .i64 ((negN (t.take k):Nat):Int)) (fun _ i=>t.length-(intOf i).toNat)
 case atStart=>exact ⟨0,Nat.zero_le _,rfl,rfl⟩
 case round=>
  obtain ⟨k,hk,rfl,rfl⟩:=hrel
  have b0:=negN_le (t.take k)
  have b1:negN (t.take k)≤2000:=by rw [List.length_take] at b0;omega
  clear b0
  by_cases hlt:k<t.length
  ·obtain ⟨tb,off', rfl,_,hcell⟩:=ht.get hlt
   have i1:(0:Int)≤(k:Int):=by omega
   have i2:(k:Int)<(t.length:Int):=by omega
   have N:Hid (negN (t.take (k+1))=negN (t.take k)+if t[k]<0 then 1 else 0):=negN_take hlt
   generalize negN (t.take k)=m at *
   by_cases hneg:t[k]<0
   ·go_wp2
    exact ⟨⟨k+1,by omega,by go_num,by rw [N.out,if_pos hneg];go_num⟩,by simp [intOf];omega⟩
   ·go_wp2
    exact ⟨⟨k+1,by omega,by go_num,by rw [N.out,if_neg hneg];rfl⟩,by simp [intOf];omega⟩
  ·obtain rfl:k=t.length:=by omega
   rw [List.take_length] at b1 ⊢
   go_wp2_with (first | (go_at_call 174;refine CV.mono ?_;rintro e w2 ⟨v,rfl,hr,hk2⟩;obtain ⟨vo,vc,rfl⟩:=row_shape hr))
   go_ret
   exact ⟨ret_bool (E.out _ (by simp;try omega)),hk2⟩
set_option maxHeartbeats 2000000 in
theorem rbelow_any {n:Nat} {w:World} {rv:Value} {L:List Sym} (h:Rl n w rv L) {ao:Option Addr} {ac:Nat} {t:List Int} (ht:IntsAt w ao t) (hm:t.length≤2000) :
  Calls Tryz.prog 151 #[rv,.slice ao t.length ac] w fun e w' => e=.returned (.bool (t.tail.all (fun n=>!defB L n)))∧w' = w:=by
 have CD:=fun x=>rdef_any h x
 obtain ⟨ro,rc,rfl⟩:=row_shape h.1
 go_enter Tryz.func151,Tryz.ntmps151
 go_wp2
 go_loop [5] (fun i=>∃ k:Nat,1≤k∧i=.int .i64 (k:Int)∧(k≤t.length∨k=1)∧Hid ((t.tail.take (k-1)).all (fun n=>!defB L n)=true)) (fun i=>t.length+1-(intOf i).toNat)
 case atStart=>exact ⟨1,by omega,rfl,.inr rfl,by show _=_;simp⟩
 case round=>
  obtain ⟨k,hk1,rfl,hk2,ha⟩:=hrel
  by_cases hlt:k<t.length
  ·obtain ⟨tb,off', rfl,_,hcell⟩:=ht.get hlt
   have i1:(0:Int)≤(k:Int):=by omega
   have i2:(k:Int)<(t.length:Int):=by omega
   have C:=CD t[k]
   have e0:t.tail[k-1]? = some t[k]:=by
    rw [List.getElem?_tail]
    have:k-1+1=k:=by omega
    rw [this,List.getElem?_eq_getElem hlt]
   cases hq:defB L t[k] with
   | true=>
    have H:Hid (t.tail.all (fun n=>!defB L n)=false):=by
     show _=_
     rw [List.all_eq_false]
     exact ⟨t[k],List.mem_of_getElem? e0,by simp [hq]⟩
    rw [hq] at C
    clear hq ha e0
    go_wp2_with (first | (go_at_call 41;refine C.mono ?_;rintro e w2 ⟨rfl,rfl⟩))
    go_ret
    exact ⟨by rw [H.out];rfl,rfl⟩
   | false=>
    have H:Hid ((t.tail.take (k+1-1)).all (fun n=>!defB L n)=true):=by
     have:=ha.out
     have e1:k+1-1=(k-1)+1:=by omega
     show _=_
     rw [e1,List.take_add_one,e0,List.all_append,this]
     simp [hq]
    rw [hq] at C
    clear hq ha e0
    go_wp2_with (first | (go_at_call 41;refine C.mono ?_;rintro e w2 ⟨rfl,rfl⟩))
    exact ⟨⟨k+1,by omega,by go_num,.inl (by omega),H⟩,by simp [intOf];omega⟩
  ·have H:Hid (t.tail.all (fun n=>!defB L n)=true):=by
    have:=ha.out
    rw [List.take_of_length_le (by simp;omega)] at this
    exact this
   have hlt' : ¬ (k:Int)<(t.length:Int):=by omega
   go_wp2
   go_ret
   exact ⟨by rw [H.out];rfl,rfl⟩
theorem rone_any (w:World) (c p:Int):Calls Tryz.prog 116 #[.int .i64 c,.int .i64 p] w fun e w' => ∃ v,e=.returned v∧WrsAt w' v [(c,p)]∧Same0 w w' := by
 go_enter Tryz.func116,Tryz.ntmps116
 go_wp2
 go_ret
 exact ⟨_,rfl,wrs_new w [(c,p)] _ 92 rfl (fun i hi=>by have hi' : i<1:=hi;match i,hi' with | 0,_=>exact ⟨rfl,rfl⟩) 1 rfl,(Kept.refl _ w).alloc _⟩
structure MR (w:World) (m:Nat) (ro:Option Addr) (rc:Nat) (mo:Option Addr) (mc:Nat) (L:List Sym) (R:List Ru):Prop where
 blk:w.heap[m]? = some (.cells #[.slice ro L.length rc,.slice mo R.length mc] 31 (0,0))
 rl:Rl w.heap.size w (.slice ro L.length rc) L
 rs:RsAt w mo R
 nil:mo=none→mc=0
 le:R.length≤100
 ok:∀ x∈R,checkE L x.1=0
theorem rl_up {n m:Nat} {w:World} {rv:Value} {L:List Sym} (h:Rl n w rv L) (hn:n≤m):Rl m w rv L:=⟨h.1,fun k e=>Nat.lt_of_lt_of_le (h.2.1 k e) hn,h.2.2⟩
theorem MR.same {w w' : World} {m:Nat} {ro:Option Addr} {rc:Nat} {mo:Option Addr} {mc:Nat} {L:List Sym} {R:List Ru} (h:MR w m ro rc mo mc L R) (hk:Same0 w w'):MR w' m ro rc mo mc L R:=
 ⟨hk.at0 h.blk,rl_up (h.rl.same hk) hk.size,h.rs.same hk,h.nil,h.le,h.ok⟩
def PartA (L:List Sym) (R l:List Ru) (j0 j1:Nat) (ws:List (Int × Int)):Prop:=
 (ws=[]∧Upto L R l j1 0)∨∃ j n,j0≤j∧j<j1∧n<l.length∧Upto L R l j n∧ckB L R l j n=false∧ws=wrongL L R l j n
theorem ck1_eq {L:List Sym} {R l:List Ru} {n:Nat} {x:Ru} (hx:x=l.getD n ([],[])):ckB L R l 1 n=(decide (checkE L x.1=0) && decide (checkE L x.2=0)):=by subst hx;rfl
theorem ck2_eq {L:List Sym} {R l:List Ru} {n:Nat} {x:Ru} (hx:x=l.getD n ([],[])):ckB L R l 2 n=(decide (x.1.length≤200) && decide (x.2.length≤200)):=by subst hx;rfl
theorem wr1_eq {L:List Sym} {R l:List Ru} {n:Nat} {x:Ru} (hx:x=l.getD n ([],[])):wrongL L R l 1 n=[(71,(n:Int)),(if checkE L x.1=0 then checkE L x.2 else checkE L x.1, -1)]:=by subst hx;rfl
theorem wrs_two (w:World) (a b c d:Int) {o:Obj} (ho:o=.cells #[.int .i64 a,.int .i64 b,.int .i64 c,.int .i64 d] 92 (0,0)):WrsAt (w.alloc o) (.slice (some ⟨w.heap.size,0,none⟩) 2 2) [(a,b),(c,d)]:=
 wrs_new w [(a,b),(c,d)] _ 92 ho (fun i hi=>by have hi' : i<2:=hi;match i,hi' with | 0,_=>exact ⟨rfl,rfl⟩ | 1,_=>exact ⟨rfl,rfl⟩) 2 rfl
theorem wrs_nil (w:World):WrsAt w (.slice none 0 0) []:=⟨none,0,rfl,.inl rfl⟩
set_option maxHeartbeats 8000000 in
theorem rterms_any {w:World} {m:Nat} {ro:Option Addr} {rc:Nat} {mo:Option Addr} {mc:Nat} {L:List Sym} {R:List Ru} (h:MR w m ro rc mo mc L R) {lo:Option Addr} {lc:Nat} {l:List Ru} (hl:RsAt w lo l) (hn:l.length≤100) (hu:Upto L R l 1 0) :
  Calls Tryz.prog 117 #[.pointer (some ⟨m,0,none⟩),.slice lo l.length lc] w fun e w' => ∃ ws v,e=.returned v∧PartA L R l 1 3 ws∧WrsAt w' v ws∧Same0 w w' := by
 have M0:Same0 w w:=Kept.refl _ _
 go_enter Tryz.func117,Tryz.ntmps117
 go_wp2
 go_loopw [5] (fun i wr=>∃ n:Nat,n≤l.length∧i=.int .i64 (n:Int)∧Hid (Upto L R l 1 n)∧Same0 w wr) (fun i _=>l.length-(intOf i).toNat)
 case atStart=>exact ⟨0,Nat.zero_le _,rfl,hu,M0⟩
 case round=>
  clear M0 hu
  obtain ⟨n,hnl,rfl,hu,hs⟩:=hrel
  by_cases hlt:n<l.length
  ·obtain ⟨lb,off,rfl,hlb,hru⟩:=(hl.same hs).get hlt
   obtain ⟨x,hx0⟩:∃ x,x=l[n]:=⟨_,rfl⟩
   rw [← hx0] at hru
   have hx:x=l.getD n ([],[]):=by rw [hx0];simp [List.getD,hlt]
   obtain ⟨ao,ac,bo,bc,r0,r1,A1,A2⟩:=hru
   have i1:(0:Int)≤(n:Int):=by omega
   have i2:(n:Int)<(l.length:Int):=by omega
   have hm1:=h.same hs
   have HS:Hid (∀ ww,Same0 wr ww→ww.cell? ⟨m,0,none⟩=some (.slice ro L.length rc)∧ww.cell? ⟨lb,off+n * 2,none⟩=some (.slice ao x.1.length ac)∧ww.cell? ⟨lb,off+n * 2+1,none⟩=some (.slice bo x.2.length bc)):=fun ww hk=>⟨cellAt (hm1.same hk).blk 0,(hk.cell (p:=⟨lb,off+n * 2,none⟩) hlb (fun f=>f)).trans r0,(hk.cell (p:=⟨lb,off+n * 2+1,none⟩) hlb (fun f=>f)).trans r1⟩
   have s1:=A1.size
   have s2:=A2.size
   have C1:Hid (∀ ww,Same0 wr ww→Calls Tryz.prog 57 #[.slice ro L.length rc,.slice ao x.1.length ac] ww fun e w' => e=.returned (.int .i64 (checkE L x.1))∧Same0 wr w'):=fun ww hk=>(rcheck_any (hm1.same hk).rl (A1.same hk).at' (by unfold maxLen;omega)).mono (fun e w' ⟨q1,q2⟩=>⟨q1,by rw [q2];exact hk⟩)
   have C2:Hid (∀ ww,Same0 wr ww→Calls Tryz.prog 57 #[.slice ro L.length rc,.slice bo x.2.length bc] ww fun e w' => e=.returned (.int .i64 (checkE L x.2))∧Same0 wr w'):=fun ww hk=>(rcheck_any (hm1.same hk).rl (A2.same hk).at' (by unfold maxLen;omega)).mono (fun e w' ⟨q1,q2⟩=>⟨q1,by rw [q2];exact hk⟩)
   have CC0:=HS.out wr (Kept.refl _ _)
   have W1:Same0 wr wr.drew:=Kept.drew (Kept.refl _ _)
   have P0:Hid (checkE L x.1=0→checkE L x.2=0→Upto L R l 1 (n+1)):=fun q1 q2=>hu.out.step (by rw [ck1_eq hx];simp [q1,q2])
   have P1:Hid (¬ (checkE L x.1=0∧checkE L x.2=0)→PartA L R l 1 3 [(71,(n:Int)),(if checkE L x.1=0 then checkE L x.2 else checkE L x.1, -1)]):=fun q=>.inr ⟨1,n,by omega,by omega,hlt,hu.out,by rw [ck1_eq hx];simpa using q,(wr1_eq hx).symm⟩
   clear r0 r1 A1 A2 hm1 hx hx0 hu h hl
   by_cases hz:checkE L x.1=0
   ·have zz:(checkE L x.1 == 0)=true:=by simpa using hz
    go_wp2
    go_region_held3 (fun w' => w'.cell? ⟨m,0,none⟩=some (.slice ro L.length rc)∧w'.cell? ⟨lb,off+n * 2,none⟩=some (.slice ao x.1.length ac)∧w'.cell? ⟨lb,off+n * 2+1,none⟩=some (.slice bo x.2.length bc)) (first | exact cc1 | exact CC0) (first | (go_at_call 57;refine (C1.out _ W1).mono ?_;rintro e w2 ⟨rfl,hw2⟩;have cc1:=HS.out _ hw2))
    all_goals
     have W2:Same0 wr w2.drew:=Kept.drew hw2
     by_cases hq:checkE L x.2=0
     ·have zq:(checkE L x.2 == 0)=true:=by simpa using hq
      go_wp2
      go_region_held3 (fun w' => w'.cell? ⟨m,0,none⟩=some (.slice ro L.length rc)∧w'.cell? ⟨lb,off+n * 2,none⟩=some (.slice ao x.1.length ac)∧w'.cell? ⟨lb,off+n * 2+1,none⟩=some (.slice bo x.2.length bc)) (first | exact cc2 | exact cc1) (first | (go_at_call 57;refine (C2.out _ W2).mono ?_;rintro e w3 ⟨rfl,hw3⟩;have cc2:=HS.out _ hw3))
      all_goals
       have P:=P0.out hz hq
       clear P0 P1
       go_wp2
       exact ⟨⟨n+1,by omega,by go_num,P,hs.trans' hw3⟩,by simp [intOf];omega⟩
     ·have zq:(checkE L x.2 == 0)=false:=by simpa using hq
      go_wp2
      go_region_held3 (fun w' => w'.cell? ⟨m,0,none⟩=some (.slice ro L.length rc)∧w'.cell? ⟨lb,off+n * 2,none⟩=some (.slice ao x.1.length ac)∧w'.cell? ⟨lb,off+n * 2+1,none⟩=some (.slice bo x.2.length bc)) (first | exact cc2 | exact cc1) (first | (go_at_call 57;refine (C2.out _ W2).mono ?_;rintro e w3 ⟨rfl,hw3⟩;have cc2:=HS.out _ hw3))
      all_goals
       have P:Hid (PartA L R l 1 3 [(71,(n:Int)),(checkE L x.2, -1)]):=by
        have:=P1.out (fun q=>hq q.2)
        rwa [if_pos hz] at this
       clear P0 P1
       go_wp2
       go_ret
       exact ⟨_,_,rfl,P.out,wrs_two w3 _ _ _ _ rfl,hs.trans' (Kept.alloc hw3 _)⟩
   ·have zz:(checkE L x.1 == 0)=false:=by simpa using hz
    have P:Hid (PartA L R l 1 3 [(71,(n:Int)),(checkE L x.1, -1)]):=by
     have:=P1.out (fun q=>hz q.1)
     rwa [if_neg hz] at this
    clear P0 P1
    go_wp2
    go_region_held3 (fun w' => w'.cell? ⟨m,0,none⟩=some (.slice ro L.length rc)∧w'.cell? ⟨lb,off+n * 2,none⟩=some (.slice ao x.1.length ac)∧w'.cell? ⟨lb,off+n * 2+1,none⟩=some (.slice bo x.2.length bc)) (first | exact cc1 | exact CC0) (first | (go_at_call 57;refine (C1.out _ W1).mono ?_;rintro e w2 ⟨rfl,hw2⟩;have cc1:=HS.out _ hw2))
    all_goals
     go_wp2
     go_ret
     exact ⟨_,_,rfl,P.out,wrs_two w2 _ _ _ _ rfl,hs.trans' (Kept.alloc hw2 _)⟩
  ·have hu2:Hid (Upto L R l 2 0):=hu.out.next (by omega)
   have hlt' : ¬ (n:Int)<(l.length:Int):=by omega
   clear hu hlt
   go_wp2
   go_loopw [7] (fun i wr=>∃ n:Nat,n≤l.length∧i=.int .i64 (n:Int)∧Hid (Upto L R l 2 n)∧Same0 w wr) (fun i _=>l.length-(intOf i).toNat)
   case atStart=>exact ⟨0,Nat.zero_le _,rfl,hu2,hs⟩
   case round=>
    clear hs hu2 hlt' hnl
    obtain ⟨n,hnl,rfl,hu,hs⟩:=hrel
    by_cases hlt:n<l.length
    ·obtain ⟨lb,off,rfl,hlb,hru⟩:=(hl.same hs).get hlt
     obtain ⟨x,hx0⟩:∃ x,x=l[n]:=⟨_,rfl⟩
     rw [← hx0] at hru
     have hx:x=l.getD n ([],[]):=by rw [hx0];simp [List.getD,hlt]
     obtain ⟨ao,ac,bo,bc,r0,r1,A1,A2⟩:=hru
     have i1:(0:Int)≤(n:Int):=by omega
     have i2:(n:Int)<(l.length:Int):=by omega
     have P0:Hid (x.1.length≤200→x.2.length≤200→Upto L R l 2 (n+1)):=fun q1 q2=>hu.out.step (by rw [ck2_eq hx];simp [q1,q2])
     have P1:Hid (¬ (x.1.length≤200∧x.2.length≤200)→PartA L R l 1 3 [(72,(n:Int))]):=fun q=>.inr ⟨2,n,by omega,by omega,hlt,hu.out,by rw [ck2_eq hx];simpa using q,rfl⟩
     clear A1 A2 hx hx0 hu h hl
     by_cases h1:x.1.length≤200
     ·have g1:¬ (200:Int)<(x.1.length:Int):=by omega
      by_cases h2:x.2.length≤200
      ·have g2:¬ (200:Int)<(x.2.length:Int):=by omega
       have P:=P0.out h1 h2
       clear P0 P1
       go_wp2
       exact ⟨⟨n+1,by omega,by go_num,P,hs⟩,by simp [intOf];omega⟩
      ·have g2:(200:Int)<(x.2.length:Int):=by omega
       have P:=P1.out (fun q=>h2 q.2)
       clear P0 P1
       go_wp2_with (first | (go_at_call 116;refine (rone_any _ _ _).mono ?_;rintro e w2 ⟨v,rfl,hv,hk2⟩))
       go_ret
       exact ⟨_,_,rfl,P,hv,hs.trans' hk2⟩
     ·have g1:(200:Int)<(x.1.length:Int):=by omega
      have P:=P1.out (fun q=>h1 q.1)
      clear P0 P1
      go_wp2_with (first | (go_at_call 116;refine (rone_any _ _ _).mono ?_;rintro e w2 ⟨v,rfl,hv,hk2⟩))
      go_ret
      exact ⟨_,_,rfl,P,hv,hs.trans' hk2⟩
    ·have P:Hid (PartA L R l 1 3 []):=.inl ⟨rfl,hu.out.next (by omega)⟩
     have hlt' : ¬ (n:Int)<(l.length:Int):=by omega
     clear hu hlt
     go_wp2
     go_ret
     exact ⟨_,_,rfl,P.out,wrs_nil _,hs⟩
def ofF (s:Int):Nat→List Ru→List Int
 | _,[]=>[]
 | k,x :: r=>(if x.1.head? = some s then [(k:Int)] else [])++ofF s (k+1) r
theorem ofF_snoc (s:Int) (x:Ru):∀ (l:List Ru) (k:Nat),ofF s k (l ++ [x])=ofF s k l++(if x.1.head? = some s then [((k+l.length:Nat):Int)] else [])
 | [],k=>by simp [ofF]
 | y :: r,k=>by
  simp only [List.cons_append,ofF,ofF_snoc s x r (k+1),List.append_assoc]
  congr 3
  simp;omega
theorem ofF_take {s:Int} {R:List Ru} {k:Nat} (h:k<R.length):ofF s 0 (R.take (k+1))=ofF s 0 (R.take k)++(if R[k].1.head? = some s then [(k:Int)] else []):=by
 rw [List.take_add_one,List.getElem?_eq_getElem h]
 show ofF s 0 (R.take k ++ [R[k]])=_
 rw [ofF_snoc]
 have:(R.take k).length=k:=by simp;omega
 rw [this,Nat.zero_add]
theorem ofF_len (s:Int):∀ (l:List Ru) (k:Nat),(ofF s k l).length≤l.length
 | [],_=>by simp [ofF]
 | x :: r,k=>by
  have:=ofF_len s r (k+1)
  simp only [ofF,List.length_append,List.length_cons]
  split <;> simp <;> omega
theorem head_at {xs:List Int} (h:0<xs.length) (s:Int):(xs.head? = some s) ↔ xs[0]=s:=by
 cases xs with
 | nil=>simp at h
 | cons x r=>simp
set_option maxHeartbeats 4000000 in
theorem sof_any {w:World} {b bs:Nat} {L:List Sym} {R:List Ru} {lv:Value} {vs:List Value} (h:StAt w b bs L R lv vs) (s:Int) :
  Calls Tryz.prog 82 #[.pointer (some ⟨b,0,none⟩),.int .i64 s] w fun e w' => ∃ v,e=.returned v∧Row w.heap.size w' v (ofF s 0 R)∧Same0 w w' := by
 have hok:=h.ok
 have hle:=h.le
 obtain ⟨ro,rc,rfl,hR⟩:=h.read
 obtain ⟨c0,c1⟩:=hR.cells
 have M0:Same0 w w:=Kept.refl _ _
 clear h
 go_enter Tryz.func82,Tryz.ntmps82
 go_wp2
 go_loopw [5,15] (fun v i wr=>∃ k:Nat,k≤R.length∧i=.int .i64 (k:Int)∧Row w.heap.size wr v (ofF s 0 (R.take k))∧Same0 w wr) (fun _ i _=>R.length-(intOf i).toNat)
 case atStart=>exact ⟨0,Nat.zero_le _,rfl,World.ownsRow_nil _ _ _ _,M0⟩
 case round=>
  clear M0 c0 c1
  obtain ⟨k,hk,rfl,hr,hs⟩:=hrel
  obtain ⟨vo,vc,rfl⟩:=row_shape hr
  by_cases hlt:k<R.length
  ·obtain ⟨gb,goff,rfl,hgb,ao,ac,bo,bc,r0,r1,A1,A2⟩:=(hR.rs.same hs).get hlt
   have hp:=(ok_len (hok _ (List.getElem_mem hlt))).1.1
   obtain ⟨ab,ao', rfl,hab,hcell⟩:=A1.at'.get hp
   have KA:Same0 wr (wr.alloc (.cells #[.slice (some ⟨ab,ao', none⟩) R[k].1.length ac,.slice bo R[k].2.length bc] 68)):=(Kept.refl _ _).alloc _
   have hcell' : (wr.alloc (.cells #[.slice (some ⟨ab,ao', none⟩) R[k].1.length ac,.slice bo R[k].2.length bc] 68)).cell? ⟨ab,ao', none⟩=some (.int .i64 R[k].1[0]):=(KA.cell (p:=⟨ab,ao' + 0,none⟩) hab (fun f=>f)).trans hcell
   have i1:(0:Int)≤(k:Int):=by omega
   have i2:(k:Int)<(R.length:Int):=by omega
   have i3:(0:Int)<(R[k].1.length:Int):=by omega
   have hol:=ofF_len s (R.take k) 0
   have hol2:(ofF s 0 (R.take k)).length≤100:=by rw [List.length_take] at hol;omega
   have E:Hid (ofF s 0 (R.take (k+1))=ofF s 0 (R.take k)++(if R[k].1[0]=s then [(k:Int)] else [])):=by
    show _=_
    rw [ofF_take hlt]
    simp only [head_at hp]
   have hrA:Row w.heap.size (wr.alloc (.cells #[.slice (some ⟨ab,ao', none⟩) R[k].1.length ac,.slice bo R[k].2.length bc] 68)) (.slice vo (ofF s 0 (R.take k)).length vc) (ofF s 0 (R.take k)):=KA.row hr (fun _ _ f=>f)
   have zA:=(hs.trans' KA).size
   clear hcell A1 A2 hol
   by_cases he:R[k].1[0]=s
   ·have he' : (R[k].1[0] == s)=true:=by simpa using he
    have E2:=E.out
    rw [if_pos he] at E2
    have E3:Hid (ofF s 0 (R.take (k+1))=ofF s 0 (R.take k) ++ [(k:Int)]):=E2
    clear E E2 he
    go_upto_region 8 with fail
    obtain ⟨wa,hwa⟩:∃ wa,wa=wr.alloc (.cells #[.slice (some ⟨ab,ao', none⟩) R[k].1.length ac,.slice bo R[k].2.length bc] 68):=⟨_,rfl⟩
    rw [← hwa] at hrA zA KA hcell' ⊢
    clear hwa
    go_wp2_with (first | (at_builtin;refine wpList_push rfl _ _ 32 rfl Tryz.underlying32 w.heap.size (ofF s 0 (R.take k)) _ rfl hrA (k:Int) rfl zA (by omega) ?_;intro g cap w4 hr4 hk4 hat4))
    refine ⟨⟨k+1,by omega,by go_num,?_,Kept.trans (hs.trans' KA) hk4 (fun i hi e=>by have:=(hr.lt i e).1;omega)⟩,by simp [intOf];omega⟩
    rw [E3.out]
    exact hr4
   ·have he' : (R[k].1[0] == s)=false:=by simpa using he
    have E2:=E.out
    rw [if_neg he,List.append_nil] at E2
    have E3:Hid (ofF s 0 (R.take (k+1))=ofF s 0 (R.take k)):=E2
    clear E E2 he
    go_wp2
    refine ⟨⟨k+1,by omega,by go_num,?_,hs.trans' KA⟩,by simp [intOf];omega⟩
    rw [E3.out]
    exact hrA
  ·obtain rfl:k=R.length:=by omega
   rw [List.take_length] at hr
   rw [List.take_length]
   go_wp2
   go_ret
   exact ⟨_,rfl,hr,hs⟩
end Go.Proofs.YtjahpnbijefncaaGreat
namespace Go.Proofs.YtjahpnbijefncaaGreat
set_option linter.unusedVariables false
set_option maxRecDepth 100000
open Go.RowKit
attribute [local go_sem ↓] Go.wp_at_zero Go.wp_at_succ
end Go.Proofs.YtjahpnbijefncaaGreat
namespace Go.Proofs.YtjahpnbijefncaaGreat
set_option maxRecDepth 100000
set_option linter.unusedVariables false
open Go.RowKit
attribute [local go_sem ↓] Go.wp_at_zero Go.wp_at_succ
theorem MR.cells {w:World} {m:Nat} {ro:Option Addr} {rc:Nat} {mo:Option Addr} {mc:Nat} {L:List Sym} {R:List Ru} (h:MR w m ro rc mo mc L R):w.cell? ⟨m,0,none⟩=some (.slice ro L.length rc)∧w.cell? ⟨m,1,none⟩=some (.slice mo R.length mc):=⟨cellAt h.blk 0,cellAt h.blk 1⟩
end Go.Proofs.YtjahpnbijefncaaGreat
namespace Go.Proofs.YtjahpnbijefncaaGreat
set_option maxRecDepth 100000
open Go.RowKit
attribute [local go_sem ↓] Go.wp_at_zero Go.wp_at_succ
theorem eql_slice (ao:Option Addr) (n c:Nat) (w:World):(binOp .eql 22 (.slice ao n c) (.slice none 0 0)).run Tryz.prog w=.ok (.bool ao.isNone) w:=by
 cases ao <;> kernel_rfl
set_option maxHeartbeats 1000000 in
theorem clone_nil (n c:Nat) (w:World):Calls Tryz.prog 120 #[.slice none n c] w fun e w' => e=.returned (.slice none 0 0)∧w' = w:=by
 have he:=eql_slice
 go_enter Tryz.func120,Tryz.ntmps120
 go_wp2
 go_ret
 exact ⟨rfl,rfl⟩
set_option maxHeartbeats 1000000 in
theorem clone_some (a:Addr) (n c:Nat) (xs:List Value) (w:World) (hl:xs.length=n * 3) (hc:∀ j u,xs[j]? = some u→w.cell? (a.add j)=some u) (h1:∀ u∈xs,u.oneCell' = true) (hn:n≤64) :
  Calls Tryz.prog 120 #[.slice (some a) n c] w fun e w' => ∃ v,e=.returned v∧w'.ownsRow w.heap.size 129 3 v n xs∧Kept (fun _=>False) w w' := by
 have he:=eql_slice
 obtain ⟨i0,hi0,hz0,hz1,hz2⟩:=info_parts info_Symbol
 go_enter Tryz.func120,Tryz.ntmps120
 have hown:(w.alloc (.cells #[] 129)).ownsRow w.heap.size 129 3 (.slice (some ⟨w.heap.size,0,none⟩) 0 0) 0 []:=World.ownsRow_made w #[] 0 (Nat.le_refl _) (by simp) (by simp)
 have hnews:∀ j u,xs[j]? = some u→(w.alloc (.cells #[] 129)).cell? (a.add j)=some u:=fun j u hu=>by
  have h:=hc j u hu
  rw [Kept.cell ((Kept.refl (fun _=>False) w).alloc _) (World.block_lt_of_cell? w _ h) (fun f=>f)]
  exact h
 have b1:0+n≤maxLen:=by unfold maxLen;omega
 have b2:(0+n) * 32≤140737488355328:=by omega
 have b3:w.heap.size≤(w.alloc (.cells #[] 129)).heap.size:=by simp
 go_wp2_with (first | (at_builtin;refine wpList_append_own _ rfl _ _ 22 rfl w.heap.size 129 i0 _ 3 32 Tryz.underlying22 hi0 hz0 hz1 hz2 rfl (by omega) (.slice (some ⟨w.heap.size,0,none⟩) 0 0) 0 [] rfl hown a n c xs rfl hl hnews h1 b1 b2 b3 ?_;intro v' w1 hown1 hgrow _))
 go_ret
 refine ⟨v', rfl,by simpa using hown1,?_⟩
 exact Kept.grown (Kept.alloc (Kept.refl _ w) _) hgrow (fun k e hk=>by simp only [Value.ownBlock,Option.some.injEq] at e;omega)
theorem clone_any {w:World} {v:Value} {L:List Sym} {base:Nat} (hr:w.ownsRow base 129 3 v L.length (symCells L)) (hn:L.length≤64) :
  Calls Tryz.prog 120 #[v] w fun e w' => ∃ v', e=.returned v' ∧ w'.ownsRow w.heap.size 129 3 v' L.length (symCells L)∧Kept (fun _=>False) w w' := by
 rcases hr.2 with ⟨rfl,h0⟩ | ⟨g,cap,cur,rfl,_⟩
 ·refine (clone_nil 0 0 w).mono ?_
  rintro e w' ⟨rfl,rfl⟩
  obtain rfl:L=[]:=List.eq_nil_of_length_eq_zero h0
  exact ⟨_,rfl,World.ownsRow_nil _ _ _ _,Kept.refl _ _⟩
 ·exact clone_some _ _ _ _ w (symCells_length L) (hr.cells rfl) (by
   intro u hu
   simp only [symCells,List.mem_flatMap] at hu
   obtain ⟨x,_,hx⟩:=hu
   simp at hx
   rcases hx with rfl | rfl | rfl <;> rfl) hn
theorem run_typeAssert_map (t xT k e:TypeId) (v:Value) (w:World) (h:Tryz.prog.underlying t=some (.map k e)):(Instr.typeAssert (.iface t v) xT t false).run Tryz.prog w=.ok v w:=by
 simp [Instr.typeAssert,run_underlying h,go_sem,Result.andThen]
theorem run_mclone {r:Nat} {es:Array MapEntry} {clock:Nat} (t:TypeId) (w:World) (hb:w.heap[r]? = some (.map es clock)) :
  (Extern.MapsClone.clone #[.iface t (.map (some r))]).run Tryz.prog w=.ok (.iface t (.map (some w.heap.size))) (w.alloc (.map es clock)):=by
 refine (Sem.run_bind _ _ _ _).trans ?_
 simp [MapKept.run_getObj_map hb,Result.andThen,go_sem]
set_option maxHeartbeats 2000000 in
theorem mclone_some (b:Nat) (es:Array MapEntry) (clock:Nat) (w:World) (hb:w.heap[b]? = some (.map es clock)) :
  Calls Tryz.prog 121 #[.map (some b)] w fun e w' => e=.returned (.map (some w.heap.size))∧w' = w.alloc (.map es clock):=by
 have hq:=fun w=>eql_map (some b) w
 go_enter Tryz.func121,Tryz.ntmps121
 go_wp2
 rw [run_callFunc_extern Tryz.func154 (by kernel_rfl) (by kernel_rfl) (by kernel_rfl) (e:=Extern.MapsClone.clone) (by kernel_rfl),run_mclone 185 w hb]
 simp only [Result.andThen]
 rw [Oper.upon_value]
 go_wp2
 rw [run_typeAssert_map 185 _ _ _ _ _ Tryz.underlying185]
 simp only [Result.andThen]
 rw [Oper.upon_value]
 go_wp2
 go_ret
 exact ⟨rfl,rfl⟩
set_option maxHeartbeats 2000000 in
theorem mclone_nil (w:World):Calls Tryz.prog 121 #[.map none] w fun e w' => e=.returned (.map none)∧w' = w:=by
 have hq:=fun w=>eql_map none w
 go_enter Tryz.func121,Tryz.ntmps121
 go_wp2
 go_ret
 exact ⟨rfl,rfl⟩
theorem mclone_any {w:World} {mr:Option Nat} {L:List Sym} (h:MapIs w mr L) :
  Calls Tryz.prog 121 #[.map mr] w fun e w' => ∃ mr', e=.returned (.map mr')∧MapIs w' mr' L∧(∀ k,mr' = some k→k=w.heap.size∧w.heap.size<w'.heap.size)∧Kept (fun _=>False) w w' := by
 cases mr with
 | none=>
  refine (mclone_nil w).mono ?_
  rintro e w' ⟨rfl,rfl⟩
  exact ⟨none,rfl,h,by simp,Kept.refl _ _⟩
 | some bm=>
  obtain ⟨n,D,⟨es,clock,hb,hF⟩,hn,hall⟩:=h
  refine (mclone_some bm es clock w hb).mono ?_
  rintro e w' ⟨rfl,rfl⟩
  exact ⟨some w.heap.size,rfl,⟨n,D,⟨es,clock,heap_alloc_new w _,hF⟩,hn,hall⟩,fun k e=>⟨by simpa using e.symm,by simp⟩,Kept.alloc (Kept.refl _ w) _⟩
theorem SigAt.c0 {w:World} {b:Nat} {L:List Sym} {sv:Value} {mr:Option Nat} (h:SigAt w b L sv mr):w.cell? ⟨b,0,none⟩=some sv:=cellAt h.blk 0
theorem SigAt.c1 {w:World} {b:Nat} {L:List Sym} {sv:Value} {mr:Option Nat} (h:SigAt w b L sv mr):w.cell? ⟨b,1,none⟩=some (.map mr):=cellAt h.blk 1
def Copied (w:World) (L:List Sym) (b' : Nat) (w' : World):Prop:=∃ sv mr,SigAt w' b' L sv mr∧(∀ k,Foot b' sv mr k→w.heap.size≤k)∧Kept (fun _=>False) w w'
theorem copied_of {w w1 w2:World} {L:List Sym} {v' : Value} {mr' : Option Nat} (hn:L.length≤64) (hnm:∀ x∈L,nameB x.name=true) (hr:w2.ownsRow w.heap.size 129 3 v' L.length (symCells L)) (hm:MapIs w2 mr' L) (hmk:∀ k,mr' = some k→w.heap.size≤k∧k<w2.heap.size) (hk:Kept (fun _=>False) w w2) (_e:w1=w2) :
  Copied w L w2.heap.size (w2.alloc (.cells #[v', .map mr'] 187)):=by
 have ha:Kept (fun _=>False) w2 (w2.alloc (.cells #[v', .map mr'] 187)):=Kept.alloc (Kept.refl _ _) _
 have hr' := ha.row hr (fun _ _ f=>f)
 refine ⟨v', mr', ⟨heap_alloc_new w2 _,row_mono hr' (Nat.zero_le _),hm.kept ha (fun _ _ f=>f),fun e=>?_,hn,hnm⟩,fun k hk' => ?_,hk.trans ha (fun _ _ f=>f)⟩
 ·have:=(hr.lt _ e).2;omega
 ·rcases hk' with e | e | e
  ·have:=hk.size;omega
  ·exact (hr.lt k e).1
  ·exact (hmk k e).1
set_option maxHeartbeats 2000000 in
theorem copy_any {w:World} {b:Nat} {L:List Sym} {sv:Value} {mr:Option Nat} (hs:SigAt w b L sv mr) :
  Calls Tryz.prog 80 #[.pointer (some ⟨b,0,none⟩)] w fun e w' => ∃ b', e=.returned (.pointer (some ⟨b', 0,none⟩))∧b' < w'.heap.size∧Copied w L b' w' := by
 have hsD:SigAt w.drew b L sv mr:=hs.kept (Kept.drew (Kept.refl (fun _=>False) w)) (fun _ _ f=>f)
 have q0:=hs.c0
 have q1:=hs.c1
 have hlen:=hs.len
 go_enter Tryz.func80,Tryz.ntmps80
 go_wp2_with fail
 go_region_with (first
  | (go_at_call 120;refine (clone_any (L:=L) (base:=0) (by first | exact hsD.row | exact hsB.row) hlen).mono ?_;rintro e w1 ⟨v', rfl,hv', hkv⟩;obtain ⟨ao,cp,rfl⟩:=row_shape hv'; have hsA:SigAt w1 b L sv mr:=(by first | exact hsB.kept hkv (fun _ _ f=>f) | exact hsD.kept hkv (fun _ _ f=>f));have qa:=hsA.c1)
  | (go_at_call 121;refine (mclone_any (L:=L) (by first | exact hsD.map | exact hsA.map)).mono ?_;rintro e w2 ⟨mr', rfl,hm', hmk,hkm⟩;have hsB:SigAt w2 b L sv mr:=(by first | exact hsA.kept hkm (fun _ _ f=>f) | exact hsD.kept hkm (fun _ _ f=>f));have qb:=hsB.c0))
 all_goals
  go_wp2
  go_ret
  exact ⟨_,rfl,by simp,copied_of hlen hs.names (hkm.row hv' (fun _ _ f=>f)) hm' (fun k e=>⟨by have h1:=(hmk k e).1;have h2:=hkv.size;simp at h2;omega,by have h1:=hmk k e;omega⟩) ((Kept.drew (Kept.refl _ w)).trans (hkv.trans hkm (fun _ _ f=>f)) (fun _ _ f=>f)) rfl⟩
end Go.Proofs.YtjahpnbijefncaaGreat
namespace Go.Proofs.YtjahpnbijefncaaGreat
set_option maxRecDepth 100000
set_option linter.unusedVariables false
open Go.RowKit
attribute [local go_sem ↓] Go.wp_at_zero Go.wp_at_succ
set_option maxHeartbeats 2000000 in
theorem ssig_any {w:World} {b bs:Nat} {L:List Sym} {R:List Ru} {lv:Value} {vs:List Value} (h:StAt w b bs L R lv vs) :
  Calls Tryz.prog 35 #[.pointer (some ⟨b,0,none⟩)] w fun e w' => ∃ b', e=.returned (.pointer (some ⟨b', 0,none⟩))∧b' < w'.heap.size∧Copied w L b' w' := by
 have c0:=cellAt h.blk 0
 obtain ⟨⟨sv,mr,hsg,_⟩,_⟩:=h.sig
 have C:=copy_any hsg
 simp only [List.getElem?_toArray,List.getElem?_cons_zero] at c0
 clear h hsg
 go_enter Tryz.func35,Tryz.ntmps35
 go_wp2_with (first | (go_at_call 80;refine C.mono ?_;rintro e w1 ⟨b', rfl,hb,hc⟩))
 go_ret
 exact ⟨b', rfl,hb,hc⟩
def rowsOf (R:List Ru) (l:List Int):List Rw:=l.map (fun i=>(i,(R.getD i.toNat ([],[])).1,[0]))
theorem ofF_mem {s:Int} {i:Int}:∀ {R:List Ru} {k:Nat},i∈ofF s k R→∃ j,∃ h:j<R.length,i=((k+j:Nat):Int)∧R[j].1.head? = some s
 | [],k,h=>by simp [ofF] at h
 | x :: r,k,h=>by
  rw [ofF] at h
  rcases List.mem_append.1 h with q | q
  ·split at q
   ·simp at q
    exact ⟨0,by simp,by simpa using q,by assumption⟩
   ·simp at q
  ·obtain ⟨j,hj,e1,e2⟩:=ofF_mem q
   exact ⟨j+1,by simp;omega,by rw [e1];congr 1;omega,by simpa using e2⟩
def rootP (L:List Sym) (s:Nat):List (List Int):=kidP L [[]] 0 s
def rootR (L:List Sym) (R:List Ru) (s:Nat):List Rw:=(rowsOf R (ofF (s:Int) 0 R)).map (kidX L 0)
theorem rows_fact {L:List Sym} {R:List Ru} (hok:∀ x∈R,checkE L x.1=0∧checkE L x.2=0) {s:Nat} {x:Rw} (hx:x∈rowsOf R (ofF (s:Int) 0 R)):∃ j,∃ h:j<R.length,x=((j:Int),R[j].1,[0])∧checkE L R[j].1=0∧0<R[j].1.length∧numR x 0=(s:Int):=by
 obtain ⟨i,hi,rfl⟩:=List.mem_map.1 hx
 obtain ⟨j,hj,e1,e2⟩:=ofF_mem hi
 have hz:=hok _ (List.getElem_mem hj)
 have hp:=(ok_len hz).1.1
 have e3:R.getD i.toNat ([],[])=R[j]:=by rw [e1];simp [List.getD,hj]
 refine ⟨j,hj,by rw [e3,e1];simp,hz.1,hp,?_⟩
 rw [e3]
 unfold numR
 show R[j].1.getD 0 (-1)=_
 rw [getD_lt hp]
 exact (head_at hp _).1 e2
theorem root_ok {L:List Sym} (ha:Ars L) {R:List Ru} (hle:R.length≤100) (hok:∀ x∈R,checkE L x.1=0∧checkE L x.2=0) {s:Nat} (hs:s<L.length):NdOk L 2001 (rootP L s) (rootR L R s):=by
 have hP:(rootP L s).length=arN L (s:Int):=by simp [rootP,kidP,repl]
 have h6:=arN_le ha (s:Int)
 refine ⟨by omega,?_,by omega,?_,?_⟩
 ·simp only [rootR,rowsOf,List.length_map]
  exact Nat.le_trans (ofF_len _ _ _) hle
 ·intro p hp
  simp only [rootP,kidP,repl,List.take_zero,List.nil_append,List.drop_succ_cons,List.drop_nil,List.append_nil] at hp
  obtain ⟨i,_,rfl⟩:=List.mem_map.1 hp
  simp
 ·intro y hy
  obtain ⟨x,hx,rfl⟩:=List.mem_map.1 hy
  obtain ⟨j,hj,rfl,h0,hp,hn⟩:=rows_fact hok hx
  have hT:=checkE_zero.1 h0
  obtain ⟨a1,a2⟩:=args_wt hT.2.2 hp
  have e1:(kidX L 0 ((j:Int),R[j].1,[0])).2.2=argsN L R[j].1 0:=by simp [kidX,repl]
  have e2:numR ((j:Int),R[j].1,[0]) 0=R[j].1[0]:=numR_eq (x:=((j:Int),R[j].1,[0])) (c:=0) (by simp) hp
  rw [e2] at hn
  refine ⟨h0,?_,?_,?_⟩
  ·rw [e1,argsN_eq hp,starts_length,hn,hP]
  ·rw [e1];exact a2
  ·rw [e1]
   have:=endN_zero hT.2.2
   show wtL L R[j].1 (argsN L R[j].1 0)<2001
   omega
set_option maxHeartbeats 16000000 in
theorem rootOf_any {w:World} {b bs bt:Nat} {L:List Sym} {R:List Ru} {lv:Value} {vs:List Value} (hg:Sg w.heap.size w bt L) (h:StAt w b bs L R lv vs) {s:Nat} (hs:s<L.length) :
  Calls Tryz.prog 39 #[.pointer (some ⟨bt,0,none⟩),.pointer (some ⟨b,0,none⟩),.int .i64 (s:Int)] w fun e w' => ∃ po pc ro rc,e=.returned (.agg #[.pointer (some ⟨bt,0,none⟩),.slice po (rootP L s).length pc,.slice ro (rootR L R s).length rc])∧NdIn w' L 2001 bt po pc (rootP L s) ro (rootR L R s)∧Same0 w w' := by
 have hle:=h.le
 have hok:=h.ok
 have hol:=ofF_len (s:Int) R 0
 obtain ⟨W3,hW3⟩:∃ W3,W3=((w.alloc zeroNd).alloc (.cells #[] 3)).alloc (.cells #[.slice (some ⟨w.heap.size+1,0,none⟩) 0 0] 32):=⟨_,rfl⟩
 have KW:Same0 w W3:=by rw [hW3];exact (((Kept.refl _ w).alloc _).alloc _).alloc _
 have ez:W3.heap.size=w.heap.size+1+1+1:=by rw [hW3];simp
 have RS:Hid (∀ ww,Same0 W3 ww→ww.heap[w.heap.size]? = some (.cells #[.pointer none,.slice none 0 0,.slice none 0 0] 106 (0,0))):=fun ww hk=>hk.at0 (by
  have k2:Same0 (w.alloc zeroNd) W3:=by rw [hW3];exact ((Kept.refl _ _).alloc _).alloc _
  exact k2.at0 (heap_alloc_new w _))
 have PS:Hid (∀ ww,Same0 W3 ww→PsAt ww (some ⟨w.heap.size+1+1,0,none⟩) [[]]):=fun ww hk=>PsAt.same (by
  have h1:W3.heap[w.heap.size+1+1]? = some (.cells #[.slice (some ⟨w.heap.size+1,0,none⟩) 0 0] 32 (0,0)):=by
   have:=heap_al_al (w.alloc zeroNd) (.cells #[] 3) (.cells #[.slice (some ⟨w.heap.size+1,0,none⟩) 0 0] 32)
   rw [World.size_alloc] at this
   rw [hW3];exact this
  have h2:W3.heap[w.heap.size+1]? = some (.cells #[] 3 (0,0)):=by
   have k2:Same0 ((w.alloc zeroNd).alloc (.cells #[] 3)) W3:=by rw [hW3];exact (Kept.refl _ _).alloc _
   exact k2.at0 (heap_al_al _ _ _)
  refine .inr ⟨_,0,rfl,⟨_,h1⟩,fun i hi=>?_⟩
  obtain rfl:i=0:=by simp at hi;omega
  exact ⟨some ⟨w.heap.size+1,0,none⟩,0,cellAt h1 0,⟨.inl rfl,Nat.le_refl _,(fun e=>by cases e),by simp⟩,fun a e=>(by cases e;exact ⟨_,h2⟩),fun a e=>(by cases e;exact ⟨_,_,rfl,h2,rfl,by unfold maxLen;omega⟩)⟩) hk
 have HST:Hid (∀ ww,Same0 w ww→StAt ww b bs L R lv vs):=fun ww hk=>h.same hk
 have HSG:Hid (∀ ww,Same0 w ww→Sg ww.heap.size ww bt L):=fun ww hk=>sg_up (hg.same hk) hk.size
 have NB:Hid (NdOk L 2001 (rootP L s) (rootR L R s)):=root_ok hg.2 hle hok hs
 have HOF:Hid (∀ ww,Same0 W3 ww→Calls Tryz.prog 82 #[.pointer (some ⟨b,0,none⟩),.int .i64 (s:Int)] ww fun e w' => ∃ oo oc,e=.returned (.slice oo (ofF (s:Int) 0 R).length oc)∧Hid (ArgT w' oo (ofF (s:Int) 0 R) oc)∧Same0 ww w'):=fun ww hk=>(sof_any (HST.out ww (KW.trans' hk)) (s:Int)).mono (fun e w' ⟨v,e1,e2,e3⟩=>by
  obtain ⟨oo,oc,rfl,i1,_⟩:=e2.arg (by omega)
  exact ⟨oo,oc,e1,i1,e3⟩)
 have HFA:Hid (∀ x∈rowsOf R (ofF (s:Int) 0 R),∃ j,∃ h:j<R.length,x=((j:Int),R[j].1,[0])∧checkE L R[j].1=0∧0<R[j].1.length∧numR x 0=(s:Int)):=fun x hx=>rows_fact hok hx
 clear h hg
 have K4:Same0 W3 (W3.alloc (.cells #[.pointer (some ⟨bt,0,none⟩),.slice (some ⟨w.heap.size+1+1,0,none⟩) 1 1,.slice none 0 0] 106)):=(Kept.refl _ _).alloc _
 have C1:=HOF.out _ K4
 generalize hof:ofF (s:Int) 0 R=O at *
 go_enter Tryz.func39,Tryz.ntmps39
 go_upto_region 2 with fail
 rw [← hW3]
 have N0:Hid ((W3.alloc (.cells #[.pointer (some ⟨bt,0,none⟩),.slice (some ⟨w.heap.size+1+1,0,none⟩) 1 1,.slice none 0 0] 106)).heap[W3.heap.size]? = some (.cells #[.pointer (some ⟨bt,0,none⟩),.slice (some ⟨w.heap.size+1+1,0,none⟩) 1 1,.slice none 0 0] 106 (0,0))):=heap_alloc_new W3 _
 obtain ⟨kb,hkb⟩:∃ kb,kb=W3.heap.size:=⟨_,rfl⟩
 have HKB:Hid (kb=W3.heap.size):=hkb
 have ez3:w.heap.size+1+1+1=kb:=by rw [hkb,ez]
 rw [ez3]
 rw [← hkb] at N0
 have hzk:(W3.alloc (.cells #[.pointer (some ⟨bt,0,none⟩),.slice (some ⟨w.heap.size+1+1,0,none⟩) 1 1,.slice none 0 0] 106)).heap.size=kb+1:=by rw [hkb];simp
 have HZK:Hid (kb+1=(W3.alloc (.cells #[.pointer (some ⟨bt,0,none⟩),.slice (some ⟨w.heap.size+1+1,0,none⟩) 1 1,.slice none 0 0] 106)).heap.size):=hzk.symm
 clear hW3 hkb ez hzk
 go_upto_region 3 with (first | (go_at_call 82;refine C1.mono ?_;rintro e w5 ⟨oo,oc,rfl,hoi,k5⟩))
 have HOE:Hid (ofF (s:Int) 0 R=O):=hof
 have K5:Same0 W3 w5:=K4.trans' k5
 have N5:Hid (w5.heap[kb]? = some (.cells #[.pointer (some ⟨bt,0,none⟩),.slice (some ⟨w.heap.size+1+1,0,none⟩) 1 1,.slice none 0 0] 106 (0,0))):=k5.at0 N0.out
 have hkb5:kb+1≤w5.heap.size:=by rw [HZK.out];exact k5.size
 have HOI:Hid (∀ ww,Same0 w5 ww→ArgT ww oo O oc):=fun ww hk=>hoi.out.same hk
 clear hof N0 C1 HOF hoi K4 k5 hok
 go_loopw [20] (fun i wr=>∃ (j:Nat) (lv:Value) (us:List Value),j≤O.length∧i=.int .i64 (j:Int)∧Hid (wr.heap[kb]? = some (.cells #[.pointer (some ⟨bt,0,none⟩),.slice (some ⟨w.heap.size+1+1,0,none⟩) 1 1,lv] 106 (0,0)))∧Hid (wr.ownsRow (kb+1) 168 3 lv j us)∧Hid (WCells wr us (rowsOf R (O.take j)))∧Same0 W3 wr∧Hid (ArgT wr oo O oc)) (fun i _=>O.length-(intOf i).toNat)
 case atStart=>exact ⟨0,.slice none 0 0,[],Nat.zero_le _,rfl,N5,World.ownsRow_nil _ _ _ _,by simpa [Hid,rowsOf] using WCells.nil _,K5,HOI.out _ (Kept.refl _ _)⟩
 case round=>
  clear K5 N5 hkb5 HOI
  obtain ⟨j,lv,us,hj,rfl,hN,hr,hus,hw,hoi⟩:=hrel
  obtain ⟨lo,lc,rfl⟩:=row_shape hr.out
  by_cases hlt:j<O.length
  ·obtain ⟨ob,ooff,rfl,hob,hoc⟩:=hoi.out.1.at'.get hlt
   have hmem:(O[j],(R.getD O[j].toNat ([],[])).1,[0])∈rowsOf R O:=List.mem_map.2 ⟨O[j],List.getElem_mem hlt,rfl⟩
   obtain ⟨q,hq,hqe,hq0,hqp,hqn⟩:=HFA.out _ hmem
   have hOq:O[j]=(q:Int):=congrArg Prod.fst hqe
   have hkr:kb<wr.heap.size:=lt_of_at hN.out
   have hT:=checkE_zero.1 hq0
   have CA:=sat_yes (HST.out wr (KW.trans' hw)) q hq
   have CK:Hid (∀ ww g c', Same0 wr ww→TmAt ww g c' R[q].1→Calls Tryz.prog 59 #[.pointer (some ⟨bt,0,none⟩),.slice (some ⟨g,0,none⟩) R[q].1.length c'] ww fun e w' => e=.returned (.int .i64 0)∧Same0 ww w'):=fun ww g c' hk ht=>by
    have:=check_any (cap:=c') (HSG.out ww ((KW.trans' hw).trans' hk)) (TmAt.arg ht hT.1).at' (by unfold maxLen;omega)
    rw [hq0] at this
    exact this
   have i1:(0:Int)≤(j:Int):=by omega
   have i2:(j:Int)<(O.length:Int):=by omega
   rw [hOq] at hoc
   have CAH:Hid (Calls Tryz.prog 22 #[.pointer (some ⟨b,0,none⟩),.int .i64 (q:Int)] wr fun e w' => ∃ g c g' c', e=.returned (.tuple #[.agg #[.slice (some ⟨g,0,none⟩) R[q].1.length c,.slice (some ⟨g', 0,none⟩) R[q].2.length c'],.int .i64 0])∧Hid (TmAt w' g c R[q].1)∧Same0 wr w'):=CA.mono (fun e w' ⟨v,e1,⟨g,c,g', c', e2,t1,t2,_⟩,k⟩=>⟨g,c,g', c', by rw [e1,e2],t1,k⟩)
   have CA2:=CAH.out
   have hBX:Hid (∀ ww,Same0 wr ww→ww.cell? ⟨kb,2,none⟩=some (.slice lo j lc)):=fun ww hk=>cellAt (hk.at0 hN.out) 2
   have HRW:Hid (∀ ww,Same0 wr ww→ww.ownsRow (kb+1) 168 3 (.slice lo j lc) j us):=fun ww hk=>hk.row hr.out (fun _ _ f=>f)
   have hzz:Hid (∀ ww,Same0 wr ww→kb+1≤ww.heap.size):=fun ww hk=>by have:=hk.size;omega
   have hj1000:j≤1000:=by omega
   have FIN:Hid (∀ w7 g c q0 gg cap w11,Same0 wr w7→TmAt w7 g c R[q].1→ArgT w7 (some ⟨q0,0,none⟩) (ofN [0]) 1→w11.ownsRow (kb+1) 168 3 (.slice (some ⟨gg,0,none⟩) (j+1) cap) (j+1) (us ++ [.int .i64 (q:Int),.slice (some ⟨g,0,none⟩) R[q].1.length c,.slice (some ⟨q0,0,none⟩) 1 1])→Kept (fun k=>(Value.slice lo j lc).ownBlock=some k) w7 w11→(w11.cell? ⟨kb,2,none⟩=some (.slice lo j lc)∧w11.frozen? ⟨kb,2,none⟩=false)∧Hid (∃ us', Hid ((w11.setCell ⟨kb,2,none⟩ (.slice (some ⟨gg,0,none⟩) (j+1) cap)).heap[kb]? = some (.cells #[.pointer (some ⟨bt,0,none⟩),.slice (some ⟨w.heap.size+1+1,0,none⟩) 1 1,.slice (some ⟨gg,0,none⟩) (j+1) cap] 106 (0,0)))∧Hid ((w11.setCell ⟨kb,2,none⟩ (.slice (some ⟨gg,0,none⟩) (j+1) cap)).ownsRow (kb+1) 168 3 (.slice (some ⟨gg,0,none⟩) (j+1) cap) (j+1) us')∧Hid (WCells (w11.setCell ⟨kb,2,none⟩ (.slice (some ⟨gg,0,none⟩) (j+1) cap)) us' (rowsOf R (O.take (j+1))))∧Same0 W3 (w11.setCell ⟨kb,2,none⟩ (.slice (some ⟨gg,0,none⟩) (j+1) cap))∧Hid (ArgT (w11.setCell ⟨kb,2,none⟩ (.slice (some ⟨gg,0,none⟩) (j+1) cap)) (some ⟨ob,ooff,none⟩) O oc))):=by
    intro w7 g c q0 gg cap w11 k7 t7 a0 r11 k11
    have hr7:=k7.row hr.out (fun _ _ f=>f)
    have n7:=k7.at0 hN.out
    have nk:¬ (Value.slice lo j lc).ownBlock=some kb:=fun e=>by
     obtain ⟨cu,h5⟩:=own_blk hr7 e
     rw [n7] at h5;cases h5
    have n11:=k11.at n7 nk
    have ks:Kept (fun k=>k=kb) w11 (w11.setCell ⟨kb,2,none⟩ (.slice (some ⟨gg,0,none⟩) (j+1) cap)):=Kept.setCell (p:=⟨kb,2,none⟩) (Kept.refl (fun k=>k=kb) w11) (fun _=>rfl) _
    obtain ⟨xo,xc,e1,a1,_⟩:=Row.arg t7 (by omega)
    simp only [Value.slice.injEq] at e1
    obtain ⟨rfl,_,rfl⟩:=e1
    refine ⟨⟨cellAt n11 2,frozenAt n11 2⟩,us ++ [.int .i64 (q:Int),.slice (some ⟨g,0,none⟩) R[q].1.length c,.slice (some ⟨q0,0,none⟩) 1 1],setAt n11 2 _,?_,?_,?_,?_⟩
    ·exact ks.row r11 (fun k e f=>by
      obtain ⟨cu,h5⟩:=own_blk r11 e
      subst f
      rw [n11] at h5;cases h5)
    ·show WCells _ _ _
     have e5:rowsOf R (O.take (j+1))=rowsOf R (O.take j) ++ [((q:Int),R[q].1,[0])]:=by
      rw [List.take_add_one,List.getElem?_eq_getElem hlt]
      unfold rowsOf
      rw [List.map_append]
      congr 1
      rw [← hqe];rfl
     rw [e5]
     have:=(hus.out.same k7).snoc (x:=((q:Int),R[q].1,[0])) a1 a0
     exact (this.kept k11 (row_ty hr7)).kept ks (fun k e cur h5=>by subst e;rw [n11] at h5;cases h5)
    ·refine Kept.trans (Kept.trans (hw.trans' k7) k11 (fun i hi e=>?_)) ks (fun i hi e=>by have:=HKB.out;omega)
     have:=(hr7.lt i e).1
     have:=HKB.out
     omega
    ·exact (((hoi.out.same k7).kept k11 (row_ty hr7)).kept ks (fun k e cur h5=>by subst e;rw [n11] at h5;cases h5))
   have TA:Hid (∀ w8:World,ArgT (w8.alloc (.cells #[.int .i64 0] 3)) (some ⟨w8.heap.size,0,none⟩) (ofN [0]) 1):=fun w8=>⟨ints_arg w8 [0] 3 (by simp) rfl,fun a e=>(by cases e;exact ⟨_,heap_alloc_new w8 _⟩),fun a e=>(by cases e;exact ⟨_,_,rfl,heap_alloc_new w8 _,rfl,by unfold maxLen;omega⟩)⟩
   have XB:Hid (∀ w6 w8:World,∀ x y:Value,Same0 (w6.alloc (.cells #[x,y] 68)) w8→w8.cell? ⟨w6.heap.size,0,none⟩=some x):=fun w6 w8 x y hk=>cellAt (hk.at0 (heap_alloc_new w6 _)) 0
   clear CA CAH hN hr hus hoi hmem HFA hqe hq0 hqp hqn hOq hT hkr hw NB HOE PS RS HSG HST
   go_wp2_with (first
    | (go_at_call 22;refine CA2.mono ?_;rintro e w6 ⟨g,c', g', c'', rfl,ht,k6⟩;have ka:Same0 wr (w6.alloc (.cells #[.slice (some ⟨g,0,none⟩) R[q].1.length c', .slice (some ⟨g', 0,none⟩) R[q].2.length c''] 68)):=Kept.alloc k6 _;have kx:Same0 w6 (w6.alloc (.cells #[.slice (some ⟨g,0,none⟩) R[q].1.length c', .slice (some ⟨g', 0,none⟩) R[q].2.length c''] 68)):=(Kept.refl _ _).alloc _;have CK2:=CK.out _ g c' ka (ht.out.same kx))
    | (go_at_call 59;refine CK2.mono ?_;rintro e w8 ⟨rfl,k8⟩;have k18:=ka.trans' k8;have x0:=XB.out _ _ _ _ k8;have y0:=hBX.out _ k18;have t8:=(ht.out.same kx).same k8;have k7:Same0 wr (w8.alloc (.cells #[.int .i64 0] 3)):=Kept.alloc k18 _;have hz7:=hzz.out _ k7)
    | (at_builtin;refine wpList_rw (w0:=w8.alloc (.cells #[.int .i64 0] 3)) rfl _ _ rfl (kb+1) j us (.slice lo j lc) rfl ((Kept.refl _ _).alloc _) (HRW.out _ k7) (.int .i64 (q:Int)) (.slice (some ⟨g,0,none⟩) R[q].1.length c') (.slice (some ⟨w8.heap.size,0,none⟩) 1 1) (w8.heap.size+1) rfl (heap_al_al _ _ _) rfl rfl rfl hz7 hj1000 ?_;intro gg cap w11 r11 k11;obtain ⟨⟨y1,y2⟩,FF⟩:=FIN.out _ g c' w8.heap.size gg cap w11 k7 (t8.same ((Kept.refl _ _).alloc _)) (TA.out w8) r11 k11))
   obtain ⟨us', z1,z2,z3,z4,z5⟩:=FF.out
   exact ⟨⟨j+1,_,us', by omega,by go_num,z1,z2,z3,z4,z5⟩,by simp [intOf];omega⟩
  ·obtain rfl:j=O.length:=by omega
   have hN' := hN.out
   have rs:=RS.out wr hw
   have n0:=cellAt hN' 0
   have n1:=cellAt hN' 1
   have n2:=cellAt hN' 2
   simp only [List.getElem?_toArray,List.getElem?_cons_zero,List.getElem?_cons_succ] at n0 n1 n2
   have hus' := hus.out
   rw [List.take_length] at hus'
   obtain ⟨ro,rc,e1,r1,r2, -⟩:=row_rows hr.out hus'
   have hol2:(rowsOf R O).length=O.length:=by simp [rowsOf]
   rw [hol2] at e1
   have KI:KidIn wr L bt (some ⟨w.heap.size+1+1,0,none⟩) 1 [[]] 0 s ro (rowsOf R O):=⟨HSG.out wr (KW.trans' hw),PS.out wr hw,(fun e=>by cases e),Nat.le_refl _,by simp,hs,r1,by omega,by simp,by simp,fun x hx=>by
    obtain ⟨q,hq,rfl,h0,hp,hn⟩:=HFA.out x hx
    exact ⟨h0,rfl,fun p hp' => by simp at hp'; subst hp'; exact hp,hn⟩⟩
   have CKD:=kid_any KI (no:=ro) (nl:=O.length) (nc:=rc) (hcap:=rc)
   simp only [Value.slice.injEq] at e1
   obtain ⟨rfl, -,rfl⟩:=e1
   rw [hol2] at CKD
   have RC:Hid (∀ ww,Same0 W3 ww→(ww.cell? ⟨w.heap.size,0,none⟩=some (.pointer none)∧ww.cell? ⟨w.heap.size,1,none⟩=some (.slice none 0 0)∧ww.cell? ⟨w.heap.size,2,none⟩=some (.slice none 0 0))∧ww.frozen? ⟨w.heap.size,0,none⟩=false∧ww.frozen? ⟨w.heap.size,1,none⟩=false∧ww.frozen? ⟨w.heap.size,2,none⟩=false):=fun ww hk=>by
    have rs:=RS.out ww hk
    exact ⟨⟨cellAt rs 0,cellAt rs 1,cellAt rs 2⟩,frozenAt rs 0,frozenAt rs 1,frozenAt rs 2⟩
   have FIN:Hid (∀ w9 po pc xo xc,Same0 wr w9→PsAt w9 po (kidP L [[]] 0 s)→(po=none→pc=0)→(kidP L [[]] 0 s).length≤pc→RwAt w9 xo ((rowsOf R O).map (kidX L 0))→((((w9.setCell ⟨w.heap.size,0,none⟩ (.pointer (some ⟨bt,0,none⟩))).setCell ⟨w.heap.size,1,none⟩ (.slice po (kidP L [[]] 0 s).length pc)).setCell ⟨w.heap.size,2,none⟩ (.slice xo O.length xc)).cell? ⟨w.heap.size,0,none⟩=some (.pointer (some ⟨bt,0,none⟩))∧(((w9.setCell ⟨w.heap.size,0,none⟩ (.pointer (some ⟨bt,0,none⟩))).setCell ⟨w.heap.size,1,none⟩ (.slice po (kidP L [[]] 0 s).length pc)).setCell ⟨w.heap.size,2,none⟩ (.slice xo O.length xc)).cell? ⟨w.heap.size,1,none⟩=some (.slice po (kidP L [[]] 0 s).length pc)∧(((w9.setCell ⟨w.heap.size,0,none⟩ (.pointer (some ⟨bt,0,none⟩))).setCell ⟨w.heap.size,1,none⟩ (.slice po (kidP L [[]] 0 s).length pc)).setCell ⟨w.heap.size,2,none⟩ (.slice xo O.length xc)).cell? ⟨w.heap.size,2,none⟩=some (.slice xo O.length xc))∧∃ po' pc' ro' rc', Ending.returned (Value.agg #[.pointer (some ⟨bt,0,none⟩),.slice po (kidP L [[]] 0 s).length pc,.slice xo O.length xc])=.returned (.agg #[.pointer (some ⟨bt,0,none⟩),.slice po' (rootP L s).length pc', .slice ro' (rootR L R s).length rc'])∧NdIn (((w9.setCell ⟨w.heap.size,0,none⟩ (.pointer (some ⟨bt,0,none⟩))).setCell ⟨w.heap.size,1,none⟩ (.slice po (kidP L [[]] 0 s).length pc)).setCell ⟨w.heap.size,2,none⟩ (.slice xo O.length xc)) L 2001 bt po' pc' (rootP L s) ro' (rootR L R s)∧Same0 w (((w9.setCell ⟨w.heap.size,0,none⟩ (.pointer (some ⟨bt,0,none⟩))).setCell ⟨w.heap.size,1,none⟩ (.slice po (kidP L [[]] 0 s).length pc)).setCell ⟨w.heap.size,2,none⟩ (.slice xo O.length xc))):=by
    intro w9 po pc xo xc k9 p1 p2 p3 p4
    have rs9:=RS.out w9 (hw.trans' k9)
    have s3:=setAt (setAt (setAt rs9 0 (.pointer (some ⟨bt,0,none⟩))) 1 (.slice po (kidP L [[]] 0 s).length pc)) 2 (.slice xo O.length xc)
    have k1:=Kept.setCell (p:=⟨w.heap.size,0,none⟩) (Kept.refl (fun q=>q=w.heap.size) w9) (fun _=>rfl) (.pointer (some ⟨bt,0,none⟩))
    have k2:=Kept.setCell (p:=⟨w.heap.size,1,none⟩) k1 (fun _=>rfl) (.slice po (kidP L [[]] 0 s).length pc)
    have kk:=Kept.setCell (p:=⟨w.heap.size,2,none⟩) k2 (fun _=>rfl) (.slice xo O.length xc)
    have kS:=Kept.trans ((KW.trans' hw).trans' k9) kk (fun i hi e=>by omega)
    have nb:∀ q,q=w.heap.size→NdB w9 q:=fun q e=>by subst e;exact ⟨_,rs9⟩
    refine ⟨⟨cellAt s3 0,cellAt s3 1,cellAt s3 2⟩,po,pc,xo,xc,?_,⟨HSG.out _ kS,p1.keptN kk nb,p2,p3,?_,NB.out⟩,kS⟩
    ·have:(rootR L R s).length=O.length:=by unfold rootR;rw [HOE.out,List.length_map,hol2]
     rw [this];rfl
    ·have:rootR L R s=(rowsOf R O).map (kidX L 0):=by unfold rootR;rw [HOE.out]
     rw [this];exact p4.keptN kk nb
   have CKH:Hid (Calls Tryz.prog 83 #[.agg #[.pointer (some ⟨bt,0,none⟩),.slice (some ⟨w.heap.size+1+1,0,none⟩) 1 1,.slice lo O.length lc],.int .i64 0,.int .i64 (s:Int),.slice lo O.length lc] wr fun e w' => ∃ po pc xo xc,e=.returned (.agg #[.pointer (some ⟨bt,0,none⟩),.slice po (kidP L [[]] 0 s).length pc,.slice xo O.length xc])∧Hid (PsAt w' po (kidP L [[]] 0 s)∧(po=none→pc=0)∧(kidP L [[]] 0 s).length≤pc∧RwAt w' xo ((rowsOf R O).map (kidX L 0)))∧Same0 wr w'):=CKD.mono (fun e w' ⟨po,pc,xo,xc,q1,q2,q3,q4,q5,q6,q7⟩=>⟨po,pc,xo,xc,by rw [q1,hol2],⟨q2,q3,q4,q5⟩,q7⟩)
   have CK3:=CKH.out
   clear hN hr hus hN' rs hus' r1 r2 KI CKD CKH hol2 hoi HFA NB HOE PS RS HSG HST
   go_wp2_with (first | (go_at_call 83;refine CK3.mono ?_;rintro e w9 ⟨po,pc,xo,xc,rfl,hq,k9⟩;obtain ⟨⟨q0,q1,q2⟩,f0,f1,f2⟩:=RC.out w9 (hw.trans' k9)))
   obtain ⟨p1,p2,p3,p4⟩:=hq.out
   obtain ⟨⟨g0,g1,g2⟩,FF⟩:=FIN.out w9 po pc xo xc k9 p1 p2 p3 p4
   exact bodyPost_ret (v:=.agg #[.pointer (some ⟨bt,0,none⟩),.slice po (kidP L [[]] 0 s).length pc,.slice xo O.length xc]) (by simp [results,Tryz.results39,go_sem,g0,g1,g2]) rfl FF
set_option maxHeartbeats 1000000 in
theorem tdef_any {n b:Nat} {w:World} {L:List Sym} (h:Sg n w b L) (x:Int) :
  Calls Tryz.prog 36 #[.pointer (some ⟨b,0,none⟩),.int .i64 x] w fun e w' => e=.returned (.bool (defB L x))∧Same0 w w' := by
 by_cases hx:x<0∨(L.length:Int)≤x
 ·have H1:Hid (defB L x=false):=defB_no hx
  have c:=sg_at_no h hx
  clear h
  go_enter Tryz.func36,Tryz.ntmps36
  go_wp2_with (first | (go_at_call 81;refine c.mono ?_;rintro e w' ⟨rfl,hk⟩))
  go_ret
  exact ⟨by rw [H1.out];rfl,Kept.alloc hk _⟩
 ·obtain ⟨i,rfl⟩:∃ i:Nat,x=(i:Int):=⟨x.toNat,by omega⟩
  have hi:i<L.length:=by omega
  have H1:Hid (defB L (i:Int)=L[i].df):=defB_at hi
  have c:=sg_at_yes h hi
  clear h
  go_enter Tryz.func36,Tryz.ntmps36
  go_wp2_with (first | (go_at_call 81;refine c.mono ?_;rintro e w' ⟨rfl,hk⟩))
  go_ret
  exact ⟨by rw [H1.out];rfl,Kept.alloc hk _⟩
theorem assert_flt (v:Value) (w:World):(Instr.typeAssert (.iface 98 v) 20 98 true).run Tryz.prog w=.ok (.tuple #[v,.bool true]) w:=by kernel_rfl
set_option maxHeartbeats 1000000 in
theorem forkOf_any (k:Nat) (w:World):Calls Tryz.prog 38 #[.iface 98 (.pointer (some ⟨k,0,none⟩))] w fun e w' => e=.returned (.iface 98 (.pointer (some ⟨k,0,none⟩)))∧w' = w:=by
 have hta:=assert_flt (.pointer (some ⟨k,0,none⟩)) w
 go_enter Tryz.func38,Tryz.ntmps38
 go_wp2_with fail
 go_ret
 exact ⟨rfl,rfl⟩
theorem any_ne (v:Value) (w:World):(binOp .neq 20 (.iface 98 v) .nilIface).run Tryz.prog w=.ok (.bool true) w:=by kernel_rfl
theorem any_nil (w:World):(binOp .neq 20 .nilIface .nilIface).run Tryz.prog w=.ok (.bool false) w:=by kernel_rfl
set_option maxHeartbeats 2000000 in
theorem catch_fork {ps pe:Nat} {s:Int} (k:Nat) (w:World) (hs:w.cell? ⟨ps,0,none⟩=some (.int .i64 s)) {x:Value} (he:w.heap[pe]? = some (.cells #[x] 37 (0,0))) (hpe:¬ ps=pe) :
  CallsD Tryz.prog 37 #[.pointer (some ⟨ps,0,none⟩),.pointer (some ⟨pe,0,none⟩)] (.panicking [{ v:=.iface 98 (.pointer (some ⟨k,0,none⟩)),recovered:=false }]) w fun e u' w' =>
   e=.returned (.tuple #[])∧u' = .panicking [{ v:=.iface 98 (.pointer (some ⟨k,0,none⟩)),recovered:=true }]∧∃ q,w'.heap[q]? = some (.cells #[.int .i64 81,.int .i64 s,.iface 98 (.pointer (some ⟨k,0,none⟩))] 100 (0,0))∧w'.heap[pe]? = some (.cells #[.iface 98 (.pointer (some ⟨q,0,none⟩))] 37 (0,0))∧Kept (fun i=>i=pe) w w' := by
 have hne:=any_ne
 have hfk:=forkOf_any
 have c0:=cellAt he 0
 have f0:=frozenAt he 0
 simp only [List.getElem?_toArray,List.getElem?_cons_zero] at c0
 refine callsD_of_wpS Tryz.func37 rfl fun c₀ cs hu=>?_
 apply wpS_seq
 apply wpS_region
 simp [wpOpsS,go_sem,recoverD,hu,Tryz.ntmps37,Exit.thenS]
 apply wpS_of_wp
 have d0:w.drew.cell? ⟨ps,0,none⟩=some (.int .i64 s):=hs
 have fa:∀ o,(w.drew.alloc o).cell? ⟨pe,0,none⟩=some x:=fun o=>cell_al (w:=w.drew) c0 o
 have fz:∀ o,(w.drew.alloc o).frozen? ⟨pe,0,none⟩=false:=fun o=>frozenAt (Same0.at0 (Kept.alloc (Kept.drew (Kept.refl (fun _=>False) w)) o) he) 0
 have FIN:Hid (∃ q,((w.drew.alloc (.cells #[.int .i64 81,.int .i64 s,.iface 98 (.pointer (some ⟨k,0,none⟩))] 100)).setCell ⟨pe,0,none⟩ (.iface 98 (.pointer (some ⟨w.heap.size,0,none⟩)))).heap[q]? = some (.cells #[.int .i64 81,.int .i64 s,.iface 98 (.pointer (some ⟨k,0,none⟩))] 100 (0,0))∧((w.drew.alloc (.cells #[.int .i64 81,.int .i64 s,.iface 98 (.pointer (some ⟨k,0,none⟩))] 100)).setCell ⟨pe,0,none⟩ (.iface 98 (.pointer (some ⟨w.heap.size,0,none⟩)))).heap[pe]? = some (.cells #[.iface 98 (.pointer (some ⟨q,0,none⟩))] 37 (0,0))∧Kept (fun i=>i=pe) w ((w.drew.alloc (.cells #[.int .i64 81,.int .i64 s,.iface 98 (.pointer (some ⟨k,0,none⟩))] 100)).setCell ⟨pe,0,none⟩ (.iface 98 (.pointer (some ⟨w.heap.size,0,none⟩))))):=by
  have ka:Same0 w (w.drew.alloc (.cells #[.int .i64 81,.int .i64 s,.iface 98 (.pointer (some ⟨k,0,none⟩))] 100)):=Kept.alloc (Kept.drew (Kept.refl _ w)) _
  have ks:=Kept.setCell (p:=⟨pe,0,none⟩) (Kept.refl (fun i=>i=pe) (w.drew.alloc (.cells #[.int .i64 81,.int .i64 s,.iface 98 (.pointer (some ⟨k,0,none⟩))] 100))) (fun _=>rfl) (.iface 98 (.pointer (some ⟨w.heap.size,0,none⟩)))
  have hp:pe<w.heap.size:=lt_of_at he
  exact ⟨w.heap.size,ks.at (heap_alloc_new w.drew _) (fun e=>by omega),setAt (ka.at0 he) 0 _,Kept.trans ka.mono' ks (fun _ _ e=>e)⟩
 clear he
 go_wp2_with fail
 have fa1:=fa (.cells #[.int .i64 81,.int .i64 s,.iface 98 (.pointer (some ⟨k,0,none⟩))] 100)
 have fz1:=fz (.cells #[.int .i64 81,.int .i64 s,.iface 98 (.pointer (some ⟨k,0,none⟩))] 100)
 have fs1:(w.drew.alloc (.cells #[.int .i64 81,.int .i64 s,.iface 98 (.pointer (some ⟨k,0,none⟩))] 100)).cell? ⟨ps,0,none⟩=some (.int .i64 s):=cell_al (w:=w.drew) hs _
 have fs2:((w.drew.alloc (.cells #[.int .i64 81,.int .i64 s,.iface 98 (.pointer (some ⟨k,0,none⟩))] 100)).setCell ⟨pe,0,none⟩ (.iface 98 (.pointer (some ⟨w.heap.size,0,none⟩)))).cell? ⟨ps,0,none⟩=some (.int .i64 s):=by
  have ks:=Kept.setCell (p:=⟨pe,0,none⟩) (Kept.refl (fun i=>i=pe) (w.drew.alloc (.cells #[.int .i64 81,.int .i64 s,.iface 98 (.pointer (some ⟨k,0,none⟩))] 100))) (fun _=>rfl) (.iface 98 (.pointer (some ⟨w.heap.size,0,none⟩)))
  exact (ks.cell (p:=⟨ps,0,none⟩) (World.block_lt_of_cell? _ _ fs1) hpe).trans fs1
 have fa2:(w.alloc (.cells #[.int .i64 81,.int .i64 s,.iface 98 (.pointer (some ⟨k,0,none⟩))] 100)).cell? ⟨pe,0,none⟩=some x:=fa1
 have fz2:(w.alloc (.cells #[.int .i64 81,.int .i64 s,.iface 98 (.pointer (some ⟨k,0,none⟩))] 100)).frozen? ⟨pe,0,none⟩=false:=fz1
 clear fa fz
 refine wp_region_held_drew (S:=fun w' => w'.cell? ⟨ps,0,none⟩=some (.int .i64 s)) (by kernel_rfl) d0 (fun hHeld=>?_)
 refine wpAnyH_take (i:=0) (v:=.int .i64 s) rfl (by kernel_rfl) (by kernel_rfl) (by kernel_rfl) (fun _ _ _ h=>h) (.inl ⟨rfl,fun w' hS=>by simp [go_sem,hS]⟩) hHeld ?_
 refine wpAnyH_take (i:=1) (v:=.iface 98 (.pointer (some ⟨k,0,none⟩))) rfl (by kernel_rfl) (by kernel_rfl) (by kernel_rfl) (fun _ _ _ h=>h) (.inl ⟨rfl,fun w' hS=>by simp [go_sem]⟩) hHeld ?_
 refine wpAnyH_ready (rs:=[2]) (by kernel_rfl) (by simp) ?_
 refine AllReadyH.cons rfl (fun K hK=>?_) AllReadyH.nil
 refine step_callx rfl (hfk k w.drew) (by simp [go_sem]) ?_
 rintro e w2 ⟨rfl,rfl⟩
 refine ⟨_,rfl,?_⟩
 refine hK.out _ _ d0 (fun hHeld=>?_)
 clear hK K
 refine wpAnyH_take (i:=3) (v:=.agg #[.int .i64 81,.int .i64 s,.iface 98 (.pointer (some ⟨k,0,none⟩))]) rfl (by kernel_rfl) (by kernel_rfl) (by kernel_rfl) (fun _ _ _ h=>h) (.inl ⟨rfl,fun w' hS=>by simp [go_sem]⟩) hHeld ?_
 refine wpAnyH_ready (rs:=[4]) (by kernel_rfl) (by simp) ?_
 refine AllReadyH.cons rfl (fun K hK=>?_) AllReadyH.nil
 go_simp
 refine hK.out _ _ fs1 (fun hHeld=>?_)
 clear hK K
 refine wpAnyH_take (i:=5) (v:=.iface 98 (.pointer (some ⟨w.heap.size,0,none⟩))) rfl (by kernel_rfl) (by kernel_rfl) (by kernel_rfl) (fun _ _ _ h=>h) (.inl ⟨rfl,fun w' hS=>by simp [go_sem]⟩) hHeld ?_
 refine wpAnyH_ready (rs:=[6]) (by kernel_rfl) (by simp) ?_
 refine AllReadyH.cons rfl (fun K hK=>?_) AllReadyH.nil
 go_simp
 refine hK.out _ _ fs2 (fun hHeld=>?_)
 clear hK K
 refine wpAnyH_done (by kernel_rfl) ?_ _
 go_wp2_with fail
 simp [go_sem,bodyPostS,results,Tryz.results37]
 exact FIN.out
set_option maxHeartbeats 2000000 in
theorem catch_none {ps pe:Nat} (w:World) :
  CallsD Tryz.prog 37 #[.pointer (some ⟨ps,0,none⟩),.pointer (some ⟨pe,0,none⟩)] .returning w fun e u' w' => e=.returned (.tuple #[])∧u' = .returning∧w' = w:=by
 have hne:=any_nil
 refine callsD_of_wpS Tryz.func37 rfl fun c₀ cs hu=>?_
 apply wpS_seq
 apply wpS_region
 simp [wpOpsS,go_sem,recoverD,hu,Tryz.ntmps37,Exit.thenS]
 apply wpS_of_wp
 go_wp2_with fail
 simp [go_sem,bodyPostS,results,Tryz.results37]
 cases c₀
 simp only at hu
 subst hu
 rfl
end Go.Proofs.YtjahpnbijefncaaGreat
namespace Go.Proofs.YtjahpnbijefncaaGreat
set_option maxRecDepth 100000
set_option linter.unusedVariables false
open Go.RowKit
abbrev Fd:=Int × Int × List Int × Int × Int
section
variable {L : List Sym} {T : List Int} {a : Nat}
theorem sub_end (hT:IsT L T) (ha:a<T.length):a+(subN L T a).length=endN L T a∧endN L T a≤T.length:=by
 have h1:=endN_le hT ha
 rw [sub_length hT ha]
 omega
theorem drop_sub (hT:IsT L T) (ha:a<T.length) {p:Nat} (hp:p≤(subN L T a).length):T.drop (a+p)=(subN L T a).drop p++T.drop (endN L T a):=by
 obtain ⟨h1,h2⟩:=sub_end hT ha
 have e:T.drop (a+p)=(T.take (endN L T a)++T.drop (endN L T a)).drop (a+p):=by rw [List.take_append_drop]
 rw [e,List.drop_append_of_le_length (by rw [List.length_take];omega)]
 unfold subN
 rw [List.drop_drop]
theorem at_sub (hT:IsT L T) (ha:a<T.length) {p:Nat} (hp:p<(subN L T a).length) (hq:a+p<T.length):T[a+p]=(subN L T a)[p]:=by
 have e:=drop_sub hT ha (Nat.le_of_lt hp)
 rw [List.drop_eq_getElem_cons hq,List.drop_eq_getElem_cons hp] at e
 simpa using (List.cons.inj e).1
theorem end_sub (hT:IsT L T) (ha:a<T.length) {p:Nat} (hp:p<(subN L T a).length):endN L T (a+p)=a+endN L (subN L T a) p:=by
 obtain ⟨n,h1,h2,h3⟩:=isT_scan (sub_need hT ha) hp
 have h4:=scan_need h1
 have h5:=need_scan (b:=((subN L T a).drop p).drop n++T.drop (endN L T a)) h4.2
 have h6:scan L 1 (T.drop (a+p))=some n:=by
  rw [drop_sub hT ha (Nat.le_of_lt hp)]
  rw [← List.append_assoc,List.take_append_drop,List.length_take,Nat.min_eq_left h4.1] at h5
  exact h5
 rw [endN_of h1,endN_of h6]
 omega
theorem starts_sub (hT:IsT L T) (ha:a<T.length):∀ (k p q:Nat),Forest L (subN L T a) k p q→starts L T k (a+p)=(starts L (subN L T a) k p).map (fun x=>a+x)
 | 0,p,q,h=>rfl
 | k+1,p,q,h=>by
  obtain ⟨h1,h2,h3⟩:=h.succ
  have h4:=h1.le
  rw [starts,starts,List.map_cons,end_sub hT ha (by omega),starts_sub hT ha k _ q h3]
theorem leads_sub (hT:IsT L T) (ha:a<T.length):∀ (path:List Int) (p:Nat),p<(subN L T a).length→leads L T (a+p) path=(leads L (subN L T a) p path).map (fun x=>a+x)
 | [],p,hp=>by simp [leads]
 | n :: r,p,hp=>by
  have hU:=sub_need hT ha
  obtain ⟨h1,h2⟩:=sub_end hT ha
  have hq:a+p<T.length:=by omega
  have hf:=(Forest.one hU hp).kids.2
  rw [leads,leads]
  by_cases hn:n<0
  ·rw [if_pos hn,if_pos hn];rfl
  ·rw [if_neg hn,if_neg hn,argsN_eq hp,argsN_eq hq,at_sub hT ha hp hq,Nat.add_assoc,starts_sub hT ha _ _ _ hf,List.getElem?_map]
   cases hs:(starts L (subN L T a) (arN L (subN L T a)[p]) (p+1))[n.toNat]? with
   | none=>rfl
   | some q' =>
    have hlt:q' < (subN L T a).length:=by
     obtain ⟨g1,g2⟩:=List.getElem?_eq_some_iff.1 hs
     rw [starts_length] at g1
     rw [starts_at g1] at hs
     cases hs
     exact past_lt hU hp g1
    exact leads_sub hT ha r q' hlt
end
end Go.Proofs.YtjahpnbijefncaaGreat
