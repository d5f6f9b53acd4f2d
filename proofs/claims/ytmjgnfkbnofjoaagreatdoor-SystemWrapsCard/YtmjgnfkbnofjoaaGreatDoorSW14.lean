import Derived.Test.YtmjgnfkbnofjoaaGreatDoorSW13
import Derived.Test.YtmjgnfkbnofjoaaGreatDoorSW05
import Derived.Test.YtmjgnfkbnofjoaaGreatDoorSW03
import Derived.Laws.Externs
import Derived.MapKept
import Derived.Deep.RegionWith
import Derived.Deep.DrawnRows
namespace Go.Proofs.YtmjgnfkbnofjoaaGreatDoor
set_option maxRecDepth 100000
set_option linter.unusedVariables false
open Go.RowKit
attribute [local go_sem ↓] Go.wp_at_zero Go.wp_at_succ
theorem vs_from7 {t:List Int}:∀ {o:List Int} {v:Int},v∈vs o t→v∈o∨∃ n∈t,isV n=true∧v = -n:=by
 induction t with
 | nil=>intro o v h;exact .inl h
 | cons x r ih=>
  intro o v h
  rcases ih (o:=vstep o x) h with q | ⟨n,h1,h2,h3⟩
  ·unfold vstep at q
   split at q
   ·rename_i hx
    rcases List.mem_append.1 q with q | q
    ·exact .inl q
    ·simp at q;exact .inr ⟨x,by simp,hx.1,q⟩
   ·exact .inl q
  ·exact .inr ⟨n,by simp [h1],h2,h3⟩
theorem vars_iff {t:List Int} (ht:∀ n∈t, -99≤n) {v:Int}:v∈varsL t ↔ -v∈t∧0<v:=by
 constructor
 ·intro h
  rcases vs_from7 h with q | ⟨n,h1,h2,h3⟩
  ·simp at q
  ·have:=isV_iff.1 h2
   subst h3
   exact ⟨by simpa using h1,by omega⟩
 ·rintro ⟨h1,h2⟩
  have h3:=ht _ h1
  have:=vs_mem (o:=[]) h1 (isV_iff.2 ⟨h3,by omega⟩)
  simpa [varsL] using this
theorem free_eq {a b:List Int} (ha:∀ n∈a, -99≤n) (hb:∀ n∈b, -99≤n):(varsL b).all (fun v=>inB (varsL a) v)=b.all (fun n=>!freeB a n):=by
 rw [Bool.eq_iff_iff,List.all_eq_true,List.all_eq_true]
 constructor
 ·intro h n hn
  by_cases h0:n<0
  ·have:=h (-n) ((vars_iff hb).2 ⟨by simpa using hn,by omega⟩)
   simp only [inB,decide_eq_true_eq] at this
   have:=(vars_iff ha).1 this
   simp [freeB]
   exact .inr (by simpa using this.1)
  ·simp [freeB];exact .inl (by omega)
 ·intro h v hv
  obtain ⟨h1,h2⟩:=(vars_iff hb).1 hv
  have:=h _ h1
  simp [freeB] at this
  simp only [inB,decide_eq_true_eq]
  refine (vars_iff ha).2 ⟨?_,h2⟩
  rcases this with q | q
  ·omega
  ·exact q
set_option maxHeartbeats 1000000 in
theorem rdef_any {n:Nat} {w:World} {rv:Value} {L:List Sym} (h:Rl n w rv L) (x:Int):Calls Tryz.prog 97 #[rv,.int .i64 x] w fun e w' => e=.returned (.bool (defB L x))∧w' = w:=by
 have hlen:=h.2.2.2
 by_cases hx:x<0∨(L.length:Int)≤x
 ·have H:Hid (defB L x=false):=defB_no hx
  obtain ⟨ro,rc,rfl⟩:=row_shape h.1
  rcases hx with hx | hx
  ·have hx' : ¬ (0:Int)≤x:=by omega
   go_enter Tryz.func97,Tryz.ntmps97
   go_wp2
   go_ret
   exact ⟨by rw [H.out];rfl,rfl⟩
  ·have hx' : (0:Int)≤x:=by omega
   have hx'' : ¬ x<(L.length:Int):=by omega
   go_enter Tryz.func97,Tryz.ntmps97
   go_wp2
   go_ret
   exact ⟨by rw [H.out];rfl,rfl⟩
 ·obtain ⟨i,rfl⟩:∃ i:Nat,x=(i:Int):=⟨x.toNat,by omega⟩
  have hi:i<L.length:=by omega
  have H:Hid (defB L (i:Int)=L[i].df):=defB_at hi
  rcases h.1.2 with ⟨_,h0⟩ | ⟨g,cap,cur,rfl,_,hg,_⟩
  ·omega
  ·have hc:=h.1.cells (g:=g) rfl _ _ (symCells_at hi).2.2
   rw [addr_add,Nat.zero_add] at hc
   have i1:(0:Int)≤(i:Int):=by omega
   have i2:(i:Int)<(L.length:Int):=by omega
   clear h hg
   go_enter Tryz.func97,Tryz.ntmps97
   go_wp2
   go_ret
   exact ⟨by rw [H.out];rfl,rfl⟩
set_option maxHeartbeats 2000000 in
theorem rlinear_any {w:World} {ao:Option Addr} {ac:Nat} {t:List Int} (ht:IntsAt w ao t) (hm:t.length≤2000) :
  Calls Tryz.prog 190 #[.slice ao t.length ac] w fun e w' => e=.returned (.bool (decide (negN t=(varsL t).length)))∧Same0 w w' := by
 have CV:=rvars_any (cap:=ac) ht (by omega)
 have hvl:(varsL t).length≤t.length:=by have:=vs_len [] t;simpa [varsL] using this
 have E:Hid (∀ q:Bool,(q=true ↔ negN t=(varsL t).length)→q=decide (negN t=(varsL t).length)):=fun q h=>by cases q <;> simp_all
 go_enter Tryz.func190,Tryz.ntmps190
 go_wp2
 go_loop [3,4] (fun s i=>∃ k:Nat,k≤t.length∧i=.int .i64 (k:Int)∧s=.int .i64 ((negN (t.take k):Nat):Int)) (fun _ i=>t.length-(intOf i).toNat)
 case atStart=>exact ⟨0,Nat.zero_le _,rfl,rfl⟩
 case round=>
  obtain ⟨k,hk,rfl,rfl⟩:=hrel
  have b0:=negN_le (t.take k)
  have b1:negN (t.take k)≤2000:=by rw [List.length_take] at b0;omega
  clear b0
  by_cases hlt:k<t.length
  ·obtain ⟨tb,off', rfl,_,hcell⟩:=ht.get hlt
   have i1:(0:Int)≤(k:Int):=by omega
   have i2:(k:Int)<(t.length:Int):=by omega
   have N:Hid (negN (t.take (k+1))=negN (t.take k)+if t[k]<0 then 1 else 0):=negN_take hlt
   generalize negN (t.take k)=m at *
   by_cases hneg:t[k]<0
   ·go_wp2
    exact ⟨⟨k+1,by omega,by go_num,by rw [N.out,if_pos hneg];go_num⟩,by simp [intOf];omega⟩
   ·go_wp2
    exact ⟨⟨k+1,by omega,by go_num,by rw [N.out,if_neg hneg];rfl⟩,by simp [intOf];omega⟩
  ·obtain rfl:k=t.length:=by omega
   rw [List.take_length] at b1 ⊢
   go_wp2_with (first | (go_at_call 223;refine CV.mono ?_;rintro e w2 ⟨v,rfl,hr,hk2⟩;obtain ⟨vo,vc,rfl⟩:=row_shape hr))
   go_ret
   exact ⟨ret_bool (E.out _ (by simp;try omega)),hk2⟩
set_option maxHeartbeats 2000000 in
theorem rbelow_any {n:Nat} {w:World} {rv:Value} {L:List Sym} (h:Rl n w rv L) {ao:Option Addr} {ac:Nat} {t:List Int} (ht:IntsAt w ao t) (hm:t.length≤2000) :
  Calls Tryz.prog 191 #[rv,.slice ao t.length ac] w fun e w' => e=.returned (.bool (t.tail.all (fun n=>!defB L n)))∧w' = w:=by
 have CD:=fun x=>rdef_any h x
 obtain ⟨ro,rc,rfl⟩:=row_shape h.1
 go_enter Tryz.func191,Tryz.ntmps191
 go_wp2
 go_loop [5] (fun i=>∃ k:Nat,1≤k∧i=.int .i64 (k:Int)∧(k≤t.length∨k=1)∧Hid ((t.tail.take (k-1)).all (fun n=>!defB L n)=true)) (fun i=>t.length+1-(intOf i).toNat)
 case atStart=>exact ⟨1,by omega,rfl,.inr rfl,by show _=_;simp⟩
 case round=>
  obtain ⟨k,hk1,rfl,hk2,ha⟩:=hrel
  by_cases hlt:k<t.length
  ·obtain ⟨tb,off', rfl,_,hcell⟩:=ht.get hlt
   have i1:(0:Int)≤(k:Int):=by omega
   have i2:(k:Int)<(t.length:Int):=by omega
   have C:=CD t[k]
   have e0:t.tail[k-1]? = some t[k]:=by
    rw [List.getElem?_tail]
    have:k-1+1=k:=by omega
    rw [this,List.getElem?_eq_getElem hlt]
   cases hq:defB L t[k] with
   | true=>
    have H:Hid (t.tail.all (fun n=>!defB L n)=false):=by
     show _=_
     rw [List.all_eq_false]
     exact ⟨t[k],List.mem_of_getElem? e0,by simp [hq]⟩
    rw [hq] at C
    clear hq ha e0
    go_wp2_with (first | (go_at_call 97;refine C.mono ?_;rintro e w2 ⟨rfl,rfl⟩))
    go_ret
    exact ⟨by rw [H.out];rfl,rfl⟩
   | false=>
    have H:Hid ((t.tail.take (k+1-1)).all (fun n=>!defB L n)=true):=by
     have:=ha.out
     have e1:k+1-1=(k-1)+1:=by omega
     show _=_
     rw [e1,List.take_add_one,e0,List.all_append,this]
     simp [hq]
    rw [hq] at C
    clear hq ha e0
    go_wp2_with (first | (go_at_call 97;refine C.mono ?_;rintro e w2 ⟨rfl,rfl⟩))
    exact ⟨⟨k+1,by omega,by go_num,.inl (by omega),H⟩,by simp [intOf];omega⟩
  ·have H:Hid (t.tail.all (fun n=>!defB L n)=true):=by
    have:=ha.out
    rw [List.take_of_length_le (by simp;omega)] at this
    exact this
   have hlt' : ¬ (k:Int)<(t.length:Int):=by omega
   go_wp2
   go_ret
   exact ⟨by rw [H.out];rfl,rfl⟩
theorem rone_any (w:World) (c p:Int):Calls Tryz.prog 136 #[.int .i64 c,.int .i64 p] w fun e w' => ∃ v,e=.returned v∧WrsAt w' v [(c,p)]∧Same0 w w' := by
 go_enter Tryz.func136,Tryz.ntmps136
 go_wp2
 go_ret
 exact ⟨_,rfl,wrs_new w [(c,p)] _ 72 rfl (fun i hi=>by have hi' : i<1:=hi;match i,hi' with | 0,_=>exact ⟨rfl,rfl⟩) 1 rfl,(Kept.refl _ w).alloc _⟩
structure MR (w:World) (m:Nat) (ro:Option Addr) (rc:Nat) (mo:Option Addr) (mc:Nat) (L:List Sym) (R:List Ru):Prop where
 blk:w.heap[m]? = some (.cells #[.slice ro L.length rc,.slice mo R.length mc] 131 (0,0))
 rl:Rl w.heap.size w (.slice ro L.length rc) L
 rs:RsAt w mo R
 nil:mo=none→mc=0
 le:R.length≤100
 ok:∀ x∈R,checkE L x.1=0
theorem rl_up {n m:Nat} {w:World} {rv:Value} {L:List Sym} (h:Rl n w rv L) (hn:n≤m):Rl m w rv L:=⟨h.1,fun k e=>Nat.lt_of_lt_of_le (h.2.1 k e) hn,h.2.2⟩
theorem MR.same {w w' : World} {m:Nat} {ro:Option Addr} {rc:Nat} {mo:Option Addr} {mc:Nat} {L:List Sym} {R:List Ru} (h:MR w m ro rc mo mc L R) (hk:Same0 w w'):MR w' m ro rc mo mc L R:=
 ⟨hk.at0 h.blk,rl_up (h.rl.same hk) hk.size,h.rs.same hk,h.nil,h.le,h.ok⟩
def PartA (L:List Sym) (R l:List Ru) (j0 j1:Nat) (ws:List (Int × Int)):Prop:=
 (ws=[]∧Upto L R l j1 0)∨∃ j n,j0≤j∧j<j1∧n<l.length∧Upto L R l j n∧ckB L R l j n=false∧ws=wrongL L R l j n
theorem ck1_eq {L:List Sym} {R l:List Ru} {n:Nat} {x:Ru} (hx:x=l.getD n ([],[])):ckB L R l 1 n=(decide (checkE L x.1=0) && decide (checkE L x.2=0)):=by subst hx;rfl
theorem ck2_eq {L:List Sym} {R l:List Ru} {n:Nat} {x:Ru} (hx:x=l.getD n ([],[])):ckB L R l 2 n=(decide (x.1.length≤200) && decide (x.2.length≤200)):=by subst hx;rfl
theorem wr1_eq {L:List Sym} {R l:List Ru} {n:Nat} {x:Ru} (hx:x=l.getD n ([],[])):wrongL L R l 1 n=[(71,(n:Int)),(if checkE L x.1=0 then checkE L x.2 else checkE L x.1, -1)]:=by subst hx;rfl
theorem wrs_two (w:World) (a b c d:Int) {o:Obj} (ho:o=.cells #[.int .i64 a,.int .i64 b,.int .i64 c,.int .i64 d] 72 (0,0)):WrsAt (w.alloc o) (.slice (some ⟨w.heap.size,0,none⟩) 2 2) [(a,b),(c,d)]:=
 wrs_new w [(a,b),(c,d)] _ 72 ho (fun i hi=>by have hi' : i<2:=hi;match i,hi' with | 0,_=>exact ⟨rfl,rfl⟩ | 1,_=>exact ⟨rfl,rfl⟩) 2 rfl
theorem wrs_nil (w:World):WrsAt w (.slice none 0 0) []:=⟨none,0,rfl,.inl rfl⟩
set_option maxHeartbeats 8000000 in
theorem rterms_any {w:World} {m:Nat} {ro:Option Addr} {rc:Nat} {mo:Option Addr} {mc:Nat} {L:List Sym} {R:List Ru} (h:MR w m ro rc mo mc L R) {lo:Option Addr} {lc:Nat} {l:List Ru} (hl:RsAt w lo l) (hn:l.length≤100) (hu:Upto L R l 1 0) :
  Calls Tryz.prog 137 #[.pointer (some ⟨m,0,none⟩),.slice lo l.length lc] w fun e w' => ∃ ws v,e=.returned v∧PartA L R l 1 3 ws∧WrsAt w' v ws∧Same0 w w' := by
 have M0:Same0 w w:=Kept.refl _ _
 go_enter Tryz.func137,Tryz.ntmps137
 go_wp2
 go_loopw [5] (fun i wr=>∃ n:Nat,n≤l.length∧i=.int .i64 (n:Int)∧Hid (Upto L R l 1 n)∧Same0 w wr) (fun i _=>l.length-(intOf i).toNat)
 case atStart=>exact ⟨0,Nat.zero_le _,rfl,hu,M0⟩
 case round=>
  clear M0 hu
  obtain ⟨n,hnl,rfl,hu,hs⟩:=hrel
  by_cases hlt:n<l.length
  ·obtain ⟨lb,off,rfl,hlb,hru⟩:=(hl.same hs).get hlt
   obtain ⟨x,hx0⟩:∃ x,x=l[n]:=⟨_,rfl⟩
   rw [← hx0] at hru
   have hx:x=l.getD n ([],[]):=by rw [hx0];simp [List.getD,hlt]
   obtain ⟨ao,ac,bo,bc,r0,r1,A1,A2⟩:=hru
   have i1:(0:Int)≤(n:Int):=by omega
   have i2:(n:Int)<(l.length:Int):=by omega
   have hm1:=h.same hs
   have HS:Hid (∀ ww,Same0 wr ww→ww.cell? ⟨m,0,none⟩=some (.slice ro L.length rc)∧ww.cell? ⟨lb,off+n * 2,none⟩=some (.slice ao x.1.length ac)∧ww.cell? ⟨lb,off+n * 2+1,none⟩=some (.slice bo x.2.length bc)):=fun ww hk=>⟨cellAt (hm1.same hk).blk 0,(hk.cell (p:=⟨lb,off+n * 2,none⟩) hlb (fun f=>f)).trans r0,(hk.cell (p:=⟨lb,off+n * 2+1,none⟩) hlb (fun f=>f)).trans r1⟩
   have s1:=A1.size
   have s2:=A2.size
   have C1:Hid (∀ ww,Same0 wr ww→Calls Tryz.prog 189 #[.slice ro L.length rc,.slice ao x.1.length ac] ww fun e w' => e=.returned (.int .i64 (checkE L x.1))∧Same0 wr w'):=fun ww hk=>(rcheck_any (hm1.same hk).rl (A1.same hk).at' (by unfold maxLen;omega)).mono (fun e w' ⟨q1,q2⟩=>⟨q1,by rw [q2];exact hk⟩)
   have C2:Hid (∀ ww,Same0 wr ww→Calls Tryz.prog 189 #[.slice ro L.length rc,.slice bo x.2.length bc] ww fun e w' => e=.returned (.int .i64 (checkE L x.2))∧Same0 wr w'):=fun ww hk=>(rcheck_any (hm1.same hk).rl (A2.same hk).at' (by unfold maxLen;omega)).mono (fun e w' ⟨q1,q2⟩=>⟨q1,by rw [q2];exact hk⟩)
   have CC0:=HS.out wr (Kept.refl _ _)
   have W1:Same0 wr wr.drew:=Kept.drew (Kept.refl _ _)
   have P0:Hid (checkE L x.1=0→checkE L x.2=0→Upto L R l 1 (n+1)):=fun q1 q2=>hu.out.step (by rw [ck1_eq hx];simp [q1,q2])
   have P1:Hid (¬ (checkE L x.1=0∧checkE L x.2=0)→PartA L R l 1 3 [(71,(n:Int)),(if checkE L x.1=0 then checkE L x.2 else checkE L x.1, -1)]):=fun q=>.inr ⟨1,n,by omega,by omega,hlt,hu.out,by rw [ck1_eq hx];simpa using q,(wr1_eq hx).symm⟩
   clear r0 r1 A1 A2 hm1 hx hx0 hu h hl
   by_cases hz:checkE L x.1=0
   ·have zz:(checkE L x.1 == 0)=true:=by simpa using hz
    go_wp2
    go_region_held3 (fun w' => w'.cell? ⟨m,0,none⟩=some (.slice ro L.length rc)∧w'.cell? ⟨lb,off+n * 2,none⟩=some (.slice ao x.1.length ac)∧w'.cell? ⟨lb,off+n * 2+1,none⟩=some (.slice bo x.2.length bc)) (first | exact cc1 | exact CC0) (first | (go_at_call 189;refine (C1.out _ W1).mono ?_;rintro e w2 ⟨rfl,hw2⟩;have cc1:=HS.out _ hw2))
    all_goals
     have W2:Same0 wr w2.drew:=Kept.drew hw2
     by_cases hq:checkE L x.2=0
     ·have zq:(checkE L x.2 == 0)=true:=by simpa using hq
      go_wp2
      go_region_held3 (fun w' => w'.cell? ⟨m,0,none⟩=some (.slice ro L.length rc)∧w'.cell? ⟨lb,off+n * 2,none⟩=some (.slice ao x.1.length ac)∧w'.cell? ⟨lb,off+n * 2+1,none⟩=some (.slice bo x.2.length bc)) (first | exact cc2 | exact cc1) (first | (go_at_call 189;refine (C2.out _ W2).mono ?_;rintro e w3 ⟨rfl,hw3⟩;have cc2:=HS.out _ hw3))
      all_goals
       have P:=P0.out hz hq
       clear P0 P1
       go_wp2
       exact ⟨⟨n+1,by omega,by go_num,P,hs.trans' hw3⟩,by simp [intOf];omega⟩
     ·have zq:(checkE L x.2 == 0)=false:=by simpa using hq
      go_wp2
      go_region_held3 (fun w' => w'.cell? ⟨m,0,none⟩=some (.slice ro L.length rc)∧w'.cell? ⟨lb,off+n * 2,none⟩=some (.slice ao x.1.length ac)∧w'.cell? ⟨lb,off+n * 2+1,none⟩=some (.slice bo x.2.length bc)) (first | exact cc2 | exact cc1) (first | (go_at_call 189;refine (C2.out _ W2).mono ?_;rintro e w3 ⟨rfl,hw3⟩;have cc2:=HS.out _ hw3))
      all_goals
       have P:Hid (PartA L R l 1 3 [(71,(n:Int)),(checkE L x.2, -1)]):=by
        have:=P1.out (fun q=>hq q.2)
        rwa [if_pos hz] at this
       clear P0 P1
       go_wp2
       go_ret
       exact ⟨_,_,rfl,P.out,wrs_two w3 _ _ _ _ rfl,hs.trans' (Kept.alloc hw3 _)⟩
   ·have zz:(checkE L x.1 == 0)=false:=by simpa using hz
    have P:Hid (PartA L R l 1 3 [(71,(n:Int)),(checkE L x.1, -1)]):=by
     have:=P1.out (fun q=>hz q.1)
     rwa [if_neg hz] at this
    clear P0 P1
    go_wp2
    go_region_held3 (fun w' => w'.cell? ⟨m,0,none⟩=some (.slice ro L.length rc)∧w'.cell? ⟨lb,off+n * 2,none⟩=some (.slice ao x.1.length ac)∧w'.cell? ⟨lb,off+n * 2+1,none⟩=some (.slice bo x.2.length bc)) (first | exact cc1 | exact CC0) (first | (go_at_call 189;refine (C1.out _ W1).mono ?_;rintro e w2 ⟨rfl,hw2⟩;have cc1:=HS.out _ hw2))
    all_goals
     go_wp2
     go_ret
     exact ⟨_,_,rfl,P.out,wrs_two w2 _ _ _ _ rfl,hs.trans' (Kept.alloc hw2 _)⟩
  ·have hu2:Hid (Upto L R l 2 0):=hu.out.next (by omega)
   have hlt' : ¬ (n:Int)<(l.length:Int):=by omega
   clear hu hlt
   go_wp2
   go_loopw [7] (fun i wr=>∃ n:Nat,n≤l.length∧i=.int .i64 (n:Int)∧Hid (Upto L R l 2 n)∧Same0 w wr) (fun i _=>l.length-(intOf i).toNat)
   case atStart=>exact ⟨0,Nat.zero_le _,rfl,hu2,hs⟩
   case round=>
    clear hs hu2 hlt' hnl
    obtain ⟨n,hnl,rfl,hu,hs⟩:=hrel
    by_cases hlt:n<l.length
    ·obtain ⟨lb,off,rfl,hlb,hru⟩:=(hl.same hs).get hlt
     obtain ⟨x,hx0⟩:∃ x,x=l[n]:=⟨_,rfl⟩
     rw [← hx0] at hru
     have hx:x=l.getD n ([],[]):=by rw [hx0];simp [List.getD,hlt]
     obtain ⟨ao,ac,bo,bc,r0,r1,A1,A2⟩:=hru
     have i1:(0:Int)≤(n:Int):=by omega
     have i2:(n:Int)<(l.length:Int):=by omega
     have P0:Hid (x.1.length≤200→x.2.length≤200→Upto L R l 2 (n+1)):=fun q1 q2=>hu.out.step (by rw [ck2_eq hx];simp [q1,q2])
     have P1:Hid (¬ (x.1.length≤200∧x.2.length≤200)→PartA L R l 1 3 [(72,(n:Int))]):=fun q=>.inr ⟨2,n,by omega,by omega,hlt,hu.out,by rw [ck2_eq hx];simpa using q,rfl⟩
     clear A1 A2 hx hx0 hu h hl
     by_cases h1:x.1.length≤200
     ·have g1:¬ (200:Int)<(x.1.length:Int):=by omega
      by_cases h2:x.2.length≤200
      ·have g2:¬ (200:Int)<(x.2.length:Int):=by omega
       have P:=P0.out h1 h2
       clear P0 P1
       go_wp2
       exact ⟨⟨n+1,by omega,by go_num,P,hs⟩,by simp [intOf];omega⟩
      ·have g2:(200:Int)<(x.2.length:Int):=by omega
       have P:=P1.out (fun q=>h2 q.2)
       clear P0 P1
       go_wp2_with (first | (go_at_call 136;refine (rone_any _ _ _).mono ?_;rintro e w2 ⟨v,rfl,hv,hk2⟩))
       go_ret
       exact ⟨_,_,rfl,P,hv,hs.trans' hk2⟩
     ·have g1:(200:Int)<(x.1.length:Int):=by omega
      have P:=P1.out (fun q=>h1 q.1)
      clear P0 P1
      go_wp2_with (first | (go_at_call 136;refine (rone_any _ _ _).mono ?_;rintro e w2 ⟨v,rfl,hv,hk2⟩))
      go_ret
      exact ⟨_,_,rfl,P,hv,hs.trans' hk2⟩
    ·have P:Hid (PartA L R l 1 3 []):=.inl ⟨rfl,hu.out.next (by omega)⟩
     have hlt' : ¬ (n:Int)<(l.length:Int):=by omega
     clear hu hlt
     go_wp2
     go_ret
     exact ⟨_,_,rfl,P.out,wrs_nil _,hs⟩
def ofF (s:Int):Nat→List Ru→List Int
 | _,[]=>[]
 | k,x :: r=>(if x.1.head? = some s then [(k:Int)] else [])++ofF s (k+1) r
theorem ofF_snoc (s:Int) (x:Ru):∀ (l:List Ru) (k:Nat),ofF s k (l ++ [x])=ofF s k l++(if x.1.head? = some s then [((k+l.length:Nat):Int)] else [])
 | [],k=>by simp [ofF]
 | y :: r,k=>by
  simp only [List.cons_append,ofF,ofF_snoc s x r (k+1),List.append_assoc]
  congr 3
  simp;omega
theorem ofF_take {s:Int} {R:List Ru} {k:Nat} (h:k<R.length):ofF s 0 (R.take (k+1))=ofF s 0 (R.take k)++(if R[k].1.head? = some s then [(k:Int)] else []):=by
 rw [List.take_add_one,List.getElem?_eq_getElem h]
 show ofF s 0 (R.take k ++ [R[k]])=_
 rw [ofF_snoc]
 have:(R.take k).length=k:=by simp;omega
 rw [this,Nat.zero_add]
theorem ofF_len (s:Int):∀ (l:List Ru) (k:Nat),(ofF s k l).length≤l.length
 | [],_=>by simp [ofF]
 | x :: r,k=>by
  have:=ofF_len s r (k+1)
  simp only [ofF,List.length_append,List.length_cons]
  split <;> simp <;> omega
theorem head_at {xs:List Int} (h:0<xs.length) (s:Int):(xs.head? = some s) ↔ xs[0]=s:=by
 cases xs with
 | nil=>simp at h
 | cons x r=>simp
set_option maxHeartbeats 4000000 in
theorem sof_any {w:World} {b bs:Nat} {L:List Sym} {R:List Ru} {lv:Value} {vs:List Value} (h:StAt w b bs L R lv vs) (s:Int) :
  Calls Tryz.prog 129 #[.pointer (some ⟨b,0,none⟩),.int .i64 s] w fun e w' => ∃ v,e=.returned v∧Row w.heap.size w' v (ofF s 0 R)∧Same0 w w' := by
 have hok:=h.ok
 have hle:=h.le
 obtain ⟨ro,rc,rfl,hR⟩:=h.read
 obtain ⟨c0,c1⟩:=hR.cells
 have M0:Same0 w w:=Kept.refl _ _
 clear h
 go_enter Tryz.func129,Tryz.ntmps129
 go_wp2
 go_loopw [5,15] (fun v i wr=>∃ k:Nat,k≤R.length∧i=.int .i64 (k:Int)∧Row w.heap.size wr v (ofF s 0 (R.take k))∧Same0 w wr) (fun _ i _=>R.length-(intOf i).toNat)
 case atStart=>exact ⟨0,Nat.zero_le _,rfl,World.ownsRow_nil _ _ _ _,M0⟩
 case round=>
  clear M0 c0 c1
  obtain ⟨k,hk,rfl,hr,hs⟩:=hrel
  obtain ⟨vo,vc,rfl⟩:=row_shape hr
  by_cases hlt:k<R.length
  ·obtain ⟨gb,goff,rfl,hgb,ao,ac,bo,bc,r0,r1,A1,A2⟩:=(hR.rs.same hs).get hlt
   have hp:=(ok_len (hok _ (List.getElem_mem hlt))).1.1
   obtain ⟨ab,ao', rfl,hab,hcell⟩:=A1.at'.get hp
   have KA:Same0 wr (wr.alloc (.cells #[.slice (some ⟨ab,ao', none⟩) R[k].1.length ac,.slice bo R[k].2.length bc] 90)):=(Kept.refl _ _).alloc _
   have hcell' : (wr.alloc (.cells #[.slice (some ⟨ab,ao', none⟩) R[k].1.length ac,.slice bo R[k].2.length bc] 90)).cell? ⟨ab,ao', none⟩=some (.int .i64 R[k].1[0]):=(KA.cell (p:=⟨ab,ao' + 0,none⟩) hab (fun f=>f)).trans hcell
   have i1:(0:Int)≤(k:Int):=by omega
   have i2:(k:Int)<(R.length:Int):=by omega
   have i3:(0:Int)<(R[k].1.length:Int):=by omega
   have hol:=ofF_len s (R.take k) 0
   have hol2:(ofF s 0 (R.take k)).length≤100:=by rw [List.length_take] at hol;omega
   have E:Hid (ofF s 0 (R.take (k+1))=ofF s 0 (R.take k)++(if R[k].1[0]=s then [(k:Int)] else [])):=by
    show _=_
    rw [ofF_take hlt]
    simp only [head_at hp]
   have hrA:Row w.heap.size (wr.alloc (.cells #[.slice (some ⟨ab,ao', none⟩) R[k].1.length ac,.slice bo R[k].2.length bc] 90)) (.slice vo (ofF s 0 (R.take k)).length vc) (ofF s 0 (R.take k)):=KA.row hr (fun _ _ f=>f)
   have zA:=(hs.trans' KA).size
   clear hcell A1 A2 hol
   by_cases he:R[k].1[0]=s
   ·have he' : (R[k].1[0] == s)=true:=by simpa using he
    have E2:=E.out
    rw [if_pos he] at E2
    have E3:Hid (ofF s 0 (R.take (k+1))=ofF s 0 (R.take k) ++ [(k:Int)]):=E2
    clear E E2 he
    go_upto_region 8 with fail
    obtain ⟨wa,hwa⟩:∃ wa,wa=wr.alloc (.cells #[.slice (some ⟨ab,ao', none⟩) R[k].1.length ac,.slice bo R[k].2.length bc] 90):=⟨_,rfl⟩
    rw [← hwa] at hrA zA KA hcell' ⊢
    clear hwa
    go_wp2_with (first | (at_builtin;refine wpList_push rfl _ _ 51 rfl Tryz.underlying51 w.heap.size (ofF s 0 (R.take k)) _ rfl hrA (k:Int) rfl zA (by omega) ?_;intro g cap w4 hr4 hk4 hat4))
    refine ⟨⟨k+1,by omega,by go_num,?_,Kept.trans (hs.trans' KA) hk4 (fun i hi e=>by have:=(hr.lt i e).1;omega)⟩,by simp [intOf];omega⟩
    rw [E3.out]
    exact hr4
   ·have he' : (R[k].1[0] == s)=false:=by simpa using he
    have E2:=E.out
    rw [if_neg he,List.append_nil] at E2
    have E3:Hid (ofF s 0 (R.take (k+1))=ofF s 0 (R.take k)):=E2
    clear E E2 he
    go_wp2
    refine ⟨⟨k+1,by omega,by go_num,?_,hs.trans' KA⟩,by simp [intOf];omega⟩
    rw [E3.out]
    exact hrA
  ·obtain rfl:k=R.length:=by omega
   rw [List.take_length] at hr
   rw [List.take_length]
   go_wp2
   go_ret
   exact ⟨_,rfl,hr,hs⟩
set_option maxHeartbeats 4000000 in
theorem rof_any {w:World} {mo:Option Addr} {mc:Nat} {R:List Ru} (hR:RsAt w mo R) (hle:R.length≤100) (hpos:∀ x∈R,0<x.1.length) (s:Int) :
  Calls Tryz.prog 100 #[.slice mo R.length mc,.int .i64 s] w fun e w' => ∃ v,e=.returned v∧Row w.heap.size w' v (ofF s 0 R)∧Same0 w w' := by
 have M0:Same0 w w:=Kept.refl _ _
 go_enter Tryz.func100,Tryz.ntmps100
 go_wp2
 go_loopw [5,6] (fun v i wr=>∃ k:Nat,k≤R.length∧i=.int .i64 (k:Int)∧Row w.heap.size wr v (ofF s 0 (R.take k))∧Same0 w wr) (fun _ i _=>R.length-(intOf i).toNat)
 case atStart=>exact ⟨0,Nat.zero_le _,rfl,World.ownsRow_nil _ _ _ _,M0⟩
 case round=>
  clear M0
  obtain ⟨k,hk,rfl,hr,hs⟩:=hrel
  obtain ⟨vo,vc,rfl⟩:=row_shape hr
  by_cases hlt:k<R.length
  ·obtain ⟨gb,goff,rfl,hgb,ao,ac,bo,bc,r0,r1,A1,A2⟩:=(hR.same hs).get hlt
   have hp:=hpos _ (List.getElem_mem hlt)
   obtain ⟨ab,ao', rfl,hab,hcell⟩:=A1.at'.get hp
   have hcell' : wr.cell? ⟨ab,ao', none⟩=some (.int .i64 R[k].1[0]):=hcell
   have i1:(0:Int)≤(k:Int):=by omega
   have i2:(k:Int)<(R.length:Int):=by omega
   have i3:(0:Int)<(R[k].1.length:Int):=by omega
   have hol:=ofF_len s (R.take k) 0
   have hol2:(ofF s 0 (R.take k)).length≤100:=by rw [List.length_take] at hol;omega
   have E:Hid (ofF s 0 (R.take (k+1))=ofF s 0 (R.take k)++(if R[k].1[0]=s then [(k:Int)] else [])):=by
    show _=_
    rw [ofF_take hlt]
    simp only [head_at hp]
   have zA:=hs.size
   clear hcell A1 A2 hol
   by_cases he:R[k].1[0]=s
   ·have he' : (R[k].1[0] == s)=true:=by simpa using he
    have E2:=E.out
    rw [if_pos he] at E2
    have E3:Hid (ofF s 0 (R.take (k+1))=ofF s 0 (R.take k) ++ [(k:Int)]):=E2
    clear E E2 he
    go_wp2_with (first | (at_builtin;refine wpList_push rfl _ _ 51 rfl Tryz.underlying51 w.heap.size (ofF s 0 (R.take k)) _ rfl hr (k:Int) rfl zA (by omega) ?_;intro g cap w4 hr4 hk4 hat4))
    refine ⟨⟨k+1,by omega,by go_num,?_,Kept.trans hs hk4 (fun i hi e=>by have:=(hr.lt i e).1;omega)⟩,by simp [intOf];omega⟩
    rw [E3.out]
    exact hr4
   ·have he' : (R[k].1[0] == s)=false:=by simpa using he
    have E2:=E.out
    rw [if_neg he,List.append_nil] at E2
    have E3:Hid (ofF s 0 (R.take (k+1))=ofF s 0 (R.take k)):=E2
    clear E E2 he
    go_wp2
    refine ⟨⟨k+1,by omega,by go_num,?_,hs⟩,by simp [intOf];omega⟩
    rw [E3.out]
    exact hr
  ·obtain rfl:k=R.length:=by omega
   rw [List.take_length] at hr
   rw [List.take_length]
   go_wp2
   go_ret
   exact ⟨_,rfl,hr,hs⟩
end Go.Proofs.YtmjgnfkbnofjoaaGreatDoor
namespace Go.Proofs.YtmjgnfkbnofjoaaGreatDoor
set_option linter.unusedVariables false
set_option maxRecDepth 100000
open Go.RowKit
attribute [local go_sem ↓] Go.wp_at_zero Go.wp_at_succ
theorem err_bool {v:Value} (h:v=.nilIface∨∃ k,v=.iface 114 (.pointer (some ⟨k,0,none⟩))):∃ z:Bool,(∀ w:World,(binOp .eql 46 v .nilIface).run Tryz.prog w=.ok (.bool z) w)∧(∀ (k:Nat) (w:World),(eqGuard .eql 46 (.tmp k) (.const .nilIface) v .nilIface).run Tryz.prog w=.ok () w)∧(z=true ↔ v=.nilIface):=by
 rcases h with rfl | ⟨k,rfl⟩
 ·exact ⟨true,fun w=>by kernel_rfl,fun k w=>by kernel_rfl,by simp⟩
 ·exact ⟨false,fun w=>by kernel_rfl,fun k w=>by kernel_rfl,by simp⟩
end Go.Proofs.YtmjgnfkbnofjoaaGreatDoor
namespace Go.Proofs.YtmjgnfkbnofjoaaGreatDoor
set_option maxRecDepth 100000
set_option linter.unusedVariables false
open Go.RowKit
attribute [local go_sem ↓] Go.wp_at_zero Go.wp_at_succ
theorem MR.cells {w:World} {m:Nat} {ro:Option Addr} {rc:Nat} {mo:Option Addr} {mc:Nat} {L:List Sym} {R:List Ru} (h:MR w m ro rc mo mc L R):w.cell? ⟨m,0,none⟩=some (.slice ro L.length rc)∧w.cell? ⟨m,1,none⟩=some (.slice mo R.length mc):=⟨cellAt h.blk 0,cellAt h.blk 1⟩
end Go.Proofs.YtmjgnfkbnofjoaaGreatDoor
namespace Go.Proofs.YtmjgnfkbnofjoaaGreatDoor
set_option maxRecDepth 100000
open Go.RowKit
attribute [local go_sem ↓] Go.wp_at_zero Go.wp_at_succ
theorem eql_slice (ao:Option Addr) (n c:Nat) (w:World):(binOp .eql 28 (.slice ao n c) (.slice none 0 0)).run Tryz.prog w=.ok (.bool ao.isNone) w:=by
 cases ao <;> kernel_rfl
set_option maxHeartbeats 1000000 in
theorem clone_nil (n c:Nat) (w:World):Calls Tryz.prog 119 #[.slice none n c] w fun e w' => e=.returned (.slice none 0 0)∧w' = w:=by
 have he:=eql_slice
 go_enter Tryz.func119,Tryz.ntmps119
 go_wp2
 go_ret
 exact ⟨rfl,rfl⟩
set_option maxHeartbeats 1000000 in
theorem clone_some (a:Addr) (n c:Nat) (xs:List Value) (w:World) (hl:xs.length=n * 3) (hc:∀ j u,xs[j]? = some u→w.cell? (a.add j)=some u) (h1:∀ u∈xs,u.oneCell' = true) (hn:n≤64) :
  Calls Tryz.prog 119 #[.slice (some a) n c] w fun e w' => ∃ v,e=.returned v∧w'.ownsRow w.heap.size 60 3 v n xs∧Kept (fun _=>False) w w' := by
 have he:=eql_slice
 obtain ⟨i0,hi0,hz0,hz1,hz2⟩:=info_parts info_Symbol
 go_enter Tryz.func119,Tryz.ntmps119
 have hown:(w.alloc (.cells #[] 60)).ownsRow w.heap.size 60 3 (.slice (some ⟨w.heap.size,0,none⟩) 0 0) 0 []:=World.ownsRow_made w #[] 0 (Nat.le_refl _) (by simp) (by simp)
 have hnews:∀ j u,xs[j]? = some u→(w.alloc (.cells #[] 60)).cell? (a.add j)=some u:=fun j u hu=>by
  have h:=hc j u hu
  rw [Kept.cell ((Kept.refl (fun _=>False) w).alloc _) (World.block_lt_of_cell? w _ h) (fun f=>f)]
  exact h
 have b1:0+n≤maxLen:=by unfold maxLen;omega
 have b2:(0+n) * 32≤140737488355328:=by omega
 have b3:w.heap.size≤(w.alloc (.cells #[] 60)).heap.size:=by simp
 go_wp2_with (first | (at_builtin;refine wpList_append_own _ rfl _ _ 28 rfl w.heap.size 60 i0 _ 3 32 Tryz.underlying28 hi0 hz0 hz1 hz2 rfl (by omega) (.slice (some ⟨w.heap.size,0,none⟩) 0 0) 0 [] rfl hown a n c xs rfl hl hnews h1 b1 b2 b3 ?_;intro v' w1 hown1 hgrow _))
 go_ret
 refine ⟨v', rfl,by simpa using hown1,?_⟩
 exact Kept.grown (Kept.alloc (Kept.refl _ w) _) hgrow (fun k e hk=>by simp only [Value.ownBlock,Option.some.injEq] at e;omega)
theorem clone_any {w:World} {v:Value} {L:List Sym} {base:Nat} (hr:w.ownsRow base 60 3 v L.length (symCells L)) (hn:L.length≤64) :
  Calls Tryz.prog 119 #[v] w fun e w' => ∃ v', e=.returned v' ∧ w'.ownsRow w.heap.size 60 3 v' L.length (symCells L)∧Kept (fun _=>False) w w' := by
 rcases hr.2 with ⟨rfl,h0⟩ | ⟨g,cap,cur,rfl,_⟩
 ·refine (clone_nil 0 0 w).mono ?_
  rintro e w' ⟨rfl,rfl⟩
  obtain rfl:L=[]:=List.eq_nil_of_length_eq_zero h0
  exact ⟨_,rfl,World.ownsRow_nil _ _ _ _,Kept.refl _ _⟩
 ·exact clone_some _ _ _ _ w (symCells_length L) (hr.cells rfl) (by
   intro u hu
   simp only [symCells,List.mem_flatMap] at hu
   obtain ⟨x,_,hx⟩:=hu
   simp at hx
   rcases hx with rfl | rfl | rfl <;> rfl) hn
theorem run_typeAssert_map (t xT k e:TypeId) (v:Value) (w:World) (h:Tryz.prog.underlying t=some (.map k e)):(Instr.typeAssert (.iface t v) xT t false).run Tryz.prog w=.ok v w:=by
 simp [Instr.typeAssert,run_underlying h,go_sem,Result.andThen]
theorem run_mclone {r:Nat} {es:Array MapEntry} {clock:Nat} (t:TypeId) (w:World) (hb:w.heap[r]? = some (.map es clock)) :
  (Extern.MapsClone.clone #[.iface t (.map (some r))]).run Tryz.prog w=.ok (.iface t (.map (some w.heap.size))) (w.alloc (.map es clock)):=by
 refine (Sem.run_bind _ _ _ _).trans ?_
 simp [MapKept.run_getObj_map hb,Result.andThen,go_sem]
set_option maxHeartbeats 2000000 in
theorem mclone_some (b:Nat) (es:Array MapEntry) (clock:Nat) (w:World) (hb:w.heap[b]? = some (.map es clock)) :
  Calls Tryz.prog 120 #[.map (some b)] w fun e w' => e=.returned (.map (some w.heap.size))∧w' = w.alloc (.map es clock):=by
 have hq:=fun w=>eql_map (some b) w
 go_enter Tryz.func120,Tryz.ntmps120
 go_wp2
 rw [run_callFunc_extern Tryz.func168 (by kernel_rfl) (by kernel_rfl) (by kernel_rfl) (e:=Extern.MapsClone.clone) (by kernel_rfl),run_mclone 109 w hb]
 simp only [Result.andThen]
 rw [Oper.upon_value]
 go_wp2
 rw [run_typeAssert_map 109 _ _ _ _ _ Tryz.underlying109]
 simp only [Result.andThen]
 rw [Oper.upon_value]
 go_wp2
 go_ret
 exact ⟨rfl,rfl⟩
set_option maxHeartbeats 2000000 in
theorem mclone_nil (w:World):Calls Tryz.prog 120 #[.map none] w fun e w' => e=.returned (.map none)∧w' = w:=by
 have hq:=fun w=>eql_map none w
 go_enter Tryz.func120,Tryz.ntmps120
 go_wp2
 go_ret
 exact ⟨rfl,rfl⟩
theorem mclone_any {w:World} {mr:Option Nat} {L:List Sym} (h:MapIs w mr L) :
  Calls Tryz.prog 120 #[.map mr] w fun e w' => ∃ mr', e=.returned (.map mr')∧MapIs w' mr' L∧(∀ k,mr' = some k→k=w.heap.size∧w.heap.size<w'.heap.size)∧Kept (fun _=>False) w w' := by
 cases mr with
 | none=>
  refine (mclone_nil w).mono ?_
  rintro e w' ⟨rfl,rfl⟩
  exact ⟨none,rfl,h,by simp,Kept.refl _ _⟩
 | some bm=>
  obtain ⟨n,D,⟨es,clock,hb,hF⟩,hn,hall⟩:=h
  refine (mclone_some bm es clock w hb).mono ?_
  rintro e w' ⟨rfl,rfl⟩
  exact ⟨some w.heap.size,rfl,⟨n,D,⟨es,clock,heap_alloc_new w _,hF⟩,hn,hall⟩,fun k e=>⟨by simpa using e.symm,by simp⟩,Kept.alloc (Kept.refl _ w) _⟩
theorem SigAt.c0 {w:World} {b:Nat} {L:List Sym} {sv:Value} {mr:Option Nat} (h:SigAt w b L sv mr):w.cell? ⟨b,0,none⟩=some sv:=cellAt h.blk 0
theorem SigAt.c1 {w:World} {b:Nat} {L:List Sym} {sv:Value} {mr:Option Nat} (h:SigAt w b L sv mr):w.cell? ⟨b,1,none⟩=some (.map mr):=cellAt h.blk 1
def Copied (w:World) (L:List Sym) (b' : Nat) (w' : World):Prop:=∃ sv mr,SigAt w' b' L sv mr∧(∀ k,Foot b' sv mr k→w.heap.size≤k)∧Kept (fun _=>False) w w'
theorem copied_of {w w1 w2:World} {L:List Sym} {v' : Value} {mr' : Option Nat} (hn:L.length≤64) (hnm:∀ x∈L,nameB x.name=true) (hr:w2.ownsRow w.heap.size 60 3 v' L.length (symCells L)) (hm:MapIs w2 mr' L) (hmk:∀ k,mr' = some k→w.heap.size≤k∧k<w2.heap.size) (hk:Kept (fun _=>False) w w2) (_e:w1=w2) :
  Copied w L w2.heap.size (w2.alloc (.cells #[v', .map mr'] 111)):=by
 have ha:Kept (fun _=>False) w2 (w2.alloc (.cells #[v', .map mr'] 111)):=Kept.alloc (Kept.refl _ _) _
 have hr' := ha.row hr (fun _ _ f=>f)
 refine ⟨v', mr', ⟨heap_alloc_new w2 _,row_mono hr' (Nat.zero_le _),hm.kept ha (fun _ _ f=>f),fun e=>?_,hn,hnm⟩,fun k hk' => ?_,hk.trans ha (fun _ _ f=>f)⟩
 ·have:=(hr.lt _ e).2;omega
 ·rcases hk' with e | e | e
  ·have:=hk.size;omega
  ·exact (hr.lt k e).1
  ·exact (hmk k e).1
set_option maxHeartbeats 2000000 in
theorem copy_any {w:World} {b:Nat} {L:List Sym} {sv:Value} {mr:Option Nat} (hs:SigAt w b L sv mr) :
  Calls Tryz.prog 74 #[.pointer (some ⟨b,0,none⟩)] w fun e w' => ∃ b', e=.returned (.pointer (some ⟨b', 0,none⟩))∧b' < w'.heap.size∧Copied w L b' w' := by
 have hsD:SigAt w.drew b L sv mr:=hs.kept (Kept.drew (Kept.refl (fun _=>False) w)) (fun _ _ f=>f)
 have q0:=hs.c0
 have q1:=hs.c1
 have hlen:=hs.len
 go_enter Tryz.func74,Tryz.ntmps74
 go_wp2_with fail
 go_region_with (first
  | (go_at_call 119;refine (clone_any (L:=L) (base:=0) (by first | exact hsD.row | exact hsB.row) hlen).mono ?_;rintro e w1 ⟨v', rfl,hv', hkv⟩;obtain ⟨ao,cp,rfl⟩:=row_shape hv'; have hsA:SigAt w1 b L sv mr:=(by first | exact hsB.kept hkv (fun _ _ f=>f) | exact hsD.kept hkv (fun _ _ f=>f));have qa:=hsA.c1)
  | (go_at_call 120;refine (mclone_any (L:=L) (by first | exact hsD.map | exact hsA.map)).mono ?_;rintro e w2 ⟨mr', rfl,hm', hmk,hkm⟩;have hsB:SigAt w2 b L sv mr:=(by first | exact hsA.kept hkm (fun _ _ f=>f) | exact hsD.kept hkm (fun _ _ f=>f));have qb:=hsB.c0))
 all_goals
  go_wp2
  go_ret
  exact ⟨_,rfl,by simp,copied_of hlen hs.names (hkm.row hv' (fun _ _ f=>f)) hm' (fun k e=>⟨by have h1:=(hmk k e).1;have h2:=hkv.size;simp at h2;omega,by have h1:=hmk k e;omega⟩) ((Kept.drew (Kept.refl _ w)).trans (hkv.trans hkm (fun _ _ f=>f)) (fun _ _ f=>f)) rfl⟩
end Go.Proofs.YtmjgnfkbnofjoaaGreatDoor
namespace Go.Proofs.YtmjgnfkbnofjoaaGreatDoor
set_option maxRecDepth 100000
set_option linter.unusedVariables false
open Go.RowKit
attribute [local go_sem ↓] Go.wp_at_zero Go.wp_at_succ
set_option maxHeartbeats 2000000 in
theorem ssig_any {w:World} {b bs:Nat} {L:List Sym} {R:List Ru} {lv:Value} {vs:List Value} (h:StAt w b bs L R lv vs) :
  Calls Tryz.prog 47 #[.pointer (some ⟨b,0,none⟩)] w fun e w' => ∃ b', e=.returned (.pointer (some ⟨b', 0,none⟩))∧b' < w'.heap.size∧Copied w L b' w' := by
 have c0:=cellAt h.blk 0
 obtain ⟨⟨sv,mr,hsg,_⟩,_⟩:=h.sig
 have C:=copy_any hsg
 simp only [List.getElem?_toArray,List.getElem?_cons_zero] at c0
 clear h hsg
 go_enter Tryz.func47,Tryz.ntmps47
 go_wp2_with (first | (go_at_call 74;refine C.mono ?_;rintro e w1 ⟨b', rfl,hb,hc⟩))
 go_ret
 exact ⟨b', rfl,hb,hc⟩
set_option maxHeartbeats 8000000 in
theorem scopy_any {w:World} {b bs:Nat} {L:List Sym} {R:List Ru} {lv:Value} {vs:List Value} (h:StAt w b bs L R lv vs) :
  Calls Tryz.prog 42 #[.pointer (some ⟨b,0,none⟩)] w fun e w' => ∃ b' bs' lv' vs', e=.returned (.pointer (some ⟨b', 0,none⟩))∧StAt w' b' bs' L R lv' vs' ∧ w.heap.size≤b' ∧ w.heap.size≤bs' ∧ (∀ q,lv'.ownBlock=some q→w.heap.size≤q)∧Same0 w w' := by
 have HS:Hid (∀ ww,Same0 w ww→ww.cell? ⟨b,0,none⟩=some (.pointer (some ⟨bs,0,none⟩))∧ww.cell? ⟨b,1,none⟩=some lv):=fun ww hk=>⟨cellAt (hk.at0 h.blk) 0,cellAt (hk.at0 h.blk) 1⟩
 have CC0:=HS.out w (Kept.refl _ _)
 obtain ⟨ro,rc,rfl,hrd⟩:=h.read
 have CS:Hid (∀ ww,Same0 w ww→Calls Tryz.prog 74 #[.pointer (some ⟨bs,0,none⟩)] ww fun e w' => ∃ b', e=.returned (.pointer (some ⟨b', 0,none⟩))∧ww.heap.size≤b' ∧ Hid (Sg w'.heap.size w' b' L)∧Same0 w w'):=fun ww hk=>by
  obtain ⟨⟨sv,mr,hsg,_⟩,ha⟩:=(h.same hk).sig
  refine (copy_any hsg).mono ?_
  rintro e w' ⟨b', rfl,hb,sv', mr', h1,h2,h3⟩
  exact ⟨b', rfl,h2 b' (.inl rfl),⟨⟨sv', mr', h1,fun k hk=>sig_foot_lt h1 k hk⟩,ha⟩,hk.trans' h3⟩
 have CP:Hid (∀ ww,Same0 w ww→Calls Tryz.prog 75 #[.slice ro R.length rc] ww fun e w' => ∃ vs', e=.returned (.slice (some ⟨ww.heap.size,0,none⟩) R.length R.length)∧w'.ownsRow ww.heap.size 90 2 (.slice (some ⟨ww.heap.size,0,none⟩) R.length R.length) R.length vs' ∧ OCells w' vs' R∧Same0 ww w'):=fun ww hk=>copies_any (lc:=rc) (hrd.rs.same hk) h.le (fun x hx=>ok_len (h.ok x hx))
 have FIN:Hid (∀ w1 w2 b' vs', Same0 w w1→Same0 w1 w2→w.heap.size≤b' → Sg w1.heap.size w1 b' L→w2.ownsRow w1.heap.size 90 2 (.slice (some ⟨w1.heap.size,0,none⟩) R.length R.length) R.length vs' → OCells w2 vs' R→∃ b'' bs' lv' vs'', Ending.returned (Value.pointer (some ⟨w2.heap.size,0,none⟩))=.returned (.pointer (some ⟨b'', 0,none⟩))∧StAt (w2.alloc (.cells #[.pointer (some ⟨b', 0,none⟩),.slice (some ⟨w1.heap.size,0,none⟩) R.length R.length] 113)) b'' bs' L R lv' vs'' ∧ w.heap.size≤b'' ∧ w.heap.size≤bs' ∧ (∀ q,lv'.ownBlock=some q→w.heap.size≤q)∧Same0 w (w2.alloc (.cells #[.pointer (some ⟨b', 0,none⟩),.slice (some ⟨w1.heap.size,0,none⟩) R.length R.length] 113))):=by
  intro w1 w2 b' vs' s1 s2 hb hg hr ho
  have ka:Same0 w2 (w2.alloc (.cells #[.pointer (some ⟨b', 0,none⟩),.slice (some ⟨w1.heap.size,0,none⟩) R.length R.length] 113)):=(Kept.refl _ _).alloc _
  exact ⟨w2.heap.size,b', _,vs', rfl,⟨heap_alloc_new _ _,sg_up (hg.same (s2.trans' ka)) (s2.trans' ka).size,row_mono (ka.row hr (fun _ _ f=>f)) (Nat.zero_le _),ho.same ka,h.le,h.ok⟩,(s1.trans' s2).size,hb,fun q e=>by simp only [Value.ownBlock,Option.some.injEq] at e;have:=s1.size;omega,(s1.trans' s2).trans' ka⟩
 have W1:Same0 w w.drew:=Kept.drew (Kept.refl _ _)
 obtain ⟨y0,y1⟩:=CC0
 have CC0:=And.intro y0 y1
 clear h hrd
 go_enter Tryz.func42,Tryz.ntmps42
 go_wp2
 go_region_held3 (fun w' => w'.cell? ⟨b,0,none⟩=some (.pointer (some ⟨bs,0,none⟩))∧w'.cell? ⟨b,1,none⟩=some (.slice ro R.length rc)) (first | exact CC0 | exact cc2 | exact cc1 | exact HS.out _ (by first | assumption | exact Kept.alloc (by assumption) _)) (first
  | (go_at_call 75;refine (CP.out _ hk1).mono ?_;rintro e w2 ⟨vs', rfl,hr,ho,hk2⟩;have hk12:=hk1.trans' hk2;have cc2:=HS.out _ hk12)
  | (go_at_call 74;refine (CS.out _ W1).mono ?_;rintro e w1 ⟨b', rfl,hb,hg,hk1⟩;have cc1:=HS.out _ hk1))
 all_goals
  go_wp2_with fail
  go_ret
  exact FIN.out _ _ _ _ hk1 hk2 (by have:w.drew.heap.size=w.heap.size:=rfl;omega) hg.out hr ho
def rowsOf (R:List Ru) (l:List Int):List Rw:=l.map (fun i=>(i,(R.getD i.toNat ([],[])).1,[0]))
theorem ofF_mem {s:Int} {i:Int}:∀ {R:List Ru} {k:Nat},i∈ofF s k R→∃ j,∃ h:j<R.length,i=((k+j:Nat):Int)∧R[j].1.head? = some s
 | [],k,h=>by simp [ofF] at h
 | x :: r,k,h=>by
  rw [ofF] at h
  rcases List.mem_append.1 h with q | q
  ·split at q
   ·simp at q
    exact ⟨0,by simp,by simpa using q,by assumption⟩
   ·simp at q
  ·obtain ⟨j,hj,e1,e2⟩:=ofF_mem q
   exact ⟨j+1,by simp;omega,by rw [e1];congr 1;omega,by simpa using e2⟩
def rootP (L:List Sym) (s:Nat):List (List Int):=kidP L [[]] 0 s
def rootR (L:List Sym) (R:List Ru) (s:Nat):List Rw:=(rowsOf R (ofF (s:Int) 0 R)).map (kidX L 0)
theorem rows_fact {L:List Sym} {R:List Ru} (hok:∀ x∈R,checkE L x.1=0∧checkE L x.2=0) {s:Nat} {x:Rw} (hx:x∈rowsOf R (ofF (s:Int) 0 R)):∃ j,∃ h:j<R.length,x=((j:Int),R[j].1,[0])∧checkE L R[j].1=0∧0<R[j].1.length∧numR x 0=(s:Int):=by
 obtain ⟨i,hi,rfl⟩:=List.mem_map.1 hx
 obtain ⟨j,hj,e1,e2⟩:=ofF_mem hi
 have hz:=hok _ (List.getElem_mem hj)
 have hp:=(ok_len hz).1.1
 have e3:R.getD i.toNat ([],[])=R[j]:=by rw [e1];simp [List.getD,hj]
 refine ⟨j,hj,by rw [e3,e1];simp,hz.1,hp,?_⟩
 rw [e3]
 unfold numR
 show R[j].1.getD 0 (-1)=_
 rw [getD_lt hp]
 exact (head_at hp _).1 e2
theorem root_ok {L:List Sym} (ha:Ars L) {R:List Ru} (hle:R.length≤100) (hok:∀ x∈R,checkE L x.1=0∧checkE L x.2=0) {s:Nat} (hs:s<L.length):NdOk L 2001 (rootP L s) (rootR L R s):=by
 have hP:(rootP L s).length=arN L (s:Int):=by simp [rootP,kidP,repl]
 have h6:=arN_le ha (s:Int)
 refine ⟨by omega,?_,by omega,?_,?_⟩
 ·simp only [rootR,rowsOf,List.length_map]
  exact Nat.le_trans (ofF_len _ _ _) hle
 ·intro p hp
  simp only [rootP,kidP,repl,List.take_zero,List.nil_append,List.drop_succ_cons,List.drop_nil,List.append_nil] at hp
  obtain ⟨i,_,rfl⟩:=List.mem_map.1 hp
  simp
 ·intro y hy
  obtain ⟨x,hx,rfl⟩:=List.mem_map.1 hy
  obtain ⟨j,hj,rfl,h0,hp,hn⟩:=rows_fact hok hx
  have hT:=checkE_zero.1 h0
  obtain ⟨a1,a2⟩:=args_wt hT.2.2 hp
  have e1:(kidX L 0 ((j:Int),R[j].1,[0])).2.2=argsN L R[j].1 0:=by simp [kidX,repl]
  have e2:numR ((j:Int),R[j].1,[0]) 0=R[j].1[0]:=numR_eq (x:=((j:Int),R[j].1,[0])) (c:=0) (by simp) hp
  rw [e2] at hn
  refine ⟨h0,?_,?_,?_⟩
  ·rw [e1,argsN_eq hp,starts_length,hn,hP]
  ·rw [e1];exact a2
  ·rw [e1]
   have:=endN_zero hT.2.2
   show wtL L R[j].1 (argsN L R[j].1 0)<2001
   omega
set_option maxHeartbeats 16000000 in
theorem rootOf_any {w:World} {b bs bt:Nat} {L:List Sym} {R:List Ru} {lv:Value} {vs:List Value} (hg:Sg w.heap.size w bt L) (h:StAt w b bs L R lv vs) {s:Nat} (hs:s<L.length) :
  Calls Tryz.prog 91 #[.pointer (some ⟨bt,0,none⟩),.pointer (some ⟨b,0,none⟩),.int .i64 (s:Int)] w fun e w' => ∃ po pc ro rc,e=.returned (.agg #[.pointer (some ⟨bt,0,none⟩),.slice po (rootP L s).length pc,.slice ro (rootR L R s).length rc])∧NdIn w' L 2001 bt po pc (rootP L s) ro (rootR L R s)∧Same0 w w' := by
 have hle:=h.le
 have hok:=h.ok
 have hol:=ofF_len (s:Int) R 0
 obtain ⟨W3,hW3⟩:∃ W3,W3=((w.alloc zeroNd).alloc (.cells #[] 3)).alloc (.cells #[.slice (some ⟨w.heap.size+1,0,none⟩) 0 0] 51):=⟨_,rfl⟩
 have KW:Same0 w W3:=by rw [hW3];exact (((Kept.refl _ w).alloc _).alloc _).alloc _
 have ez:W3.heap.size=w.heap.size+1+1+1:=by rw [hW3];simp
 have RS:Hid (∀ ww,Same0 W3 ww→ww.heap[w.heap.size]? = some (.cells #[.pointer none,.slice none 0 0,.slice none 0 0] 181 (0,0))):=fun ww hk=>hk.at0 (by
  have k2:Same0 (w.alloc zeroNd) W3:=by rw [hW3];exact ((Kept.refl _ _).alloc _).alloc _
  exact k2.at0 (heap_alloc_new w _))
 have PS:Hid (∀ ww,Same0 W3 ww→PsAt ww (some ⟨w.heap.size+1+1,0,none⟩) [[]]):=fun ww hk=>PsAt.same (by
  have h1:W3.heap[w.heap.size+1+1]? = some (.cells #[.slice (some ⟨w.heap.size+1,0,none⟩) 0 0] 51 (0,0)):=by
   have:=heap_al_al (w.alloc zeroNd) (.cells #[] 3) (.cells #[.slice (some ⟨w.heap.size+1,0,none⟩) 0 0] 51)
   rw [World.size_alloc] at this
   rw [hW3];exact this
  have h2:W3.heap[w.heap.size+1]? = some (.cells #[] 3 (0,0)):=by
   have k2:Same0 ((w.alloc zeroNd).alloc (.cells #[] 3)) W3:=by rw [hW3];exact (Kept.refl _ _).alloc _
   exact k2.at0 (heap_al_al _ _ _)
  refine .inr ⟨_,0,rfl,⟨_,h1⟩,fun i hi=>?_⟩
  obtain rfl:i=0:=by simp at hi;omega
  exact ⟨some ⟨w.heap.size+1,0,none⟩,0,cellAt h1 0,⟨.inl rfl,Nat.le_refl _,(fun e=>by cases e),by simp⟩,fun a e=>(by cases e;exact ⟨_,h2⟩),fun a e=>(by cases e;exact ⟨_,_,rfl,h2,rfl,by unfold maxLen;omega⟩)⟩) hk
 have HST:Hid (∀ ww,Same0 w ww→StAt ww b bs L R lv vs):=fun ww hk=>h.same hk
 have HSG:Hid (∀ ww,Same0 w ww→Sg ww.heap.size ww bt L):=fun ww hk=>sg_up (hg.same hk) hk.size
 have NB:Hid (NdOk L 2001 (rootP L s) (rootR L R s)):=root_ok hg.2 hle hok hs
 have HOF:Hid (∀ ww,Same0 W3 ww→Calls Tryz.prog 129 #[.pointer (some ⟨b,0,none⟩),.int .i64 (s:Int)] ww fun e w' => ∃ oo oc,e=.returned (.slice oo (ofF (s:Int) 0 R).length oc)∧Hid (ArgT w' oo (ofF (s:Int) 0 R) oc)∧Same0 ww w'):=fun ww hk=>(sof_any (HST.out ww (KW.trans' hk)) (s:Int)).mono (fun e w' ⟨v,e1,e2,e3⟩=>by
  obtain ⟨oo,oc,rfl,i1,_⟩:=e2.arg (by omega)
  exact ⟨oo,oc,e1,i1,e3⟩)
 have HFA:Hid (∀ x∈rowsOf R (ofF (s:Int) 0 R),∃ j,∃ h:j<R.length,x=((j:Int),R[j].1,[0])∧checkE L R[j].1=0∧0<R[j].1.length∧numR x 0=(s:Int)):=fun x hx=>rows_fact hok hx
 clear h hg
 have K4:Same0 W3 (W3.alloc (.cells #[.pointer (some ⟨bt,0,none⟩),.slice (some ⟨w.heap.size+1+1,0,none⟩) 1 1,.slice none 0 0] 181)):=(Kept.refl _ _).alloc _
 have C1:=HOF.out _ K4
 generalize hof:ofF (s:Int) 0 R=O at *
 go_enter Tryz.func91,Tryz.ntmps91
 go_upto_region 2 with fail
 rw [← hW3]
 have N0:Hid ((W3.alloc (.cells #[.pointer (some ⟨bt,0,none⟩),.slice (some ⟨w.heap.size+1+1,0,none⟩) 1 1,.slice none 0 0] 181)).heap[W3.heap.size]? = some (.cells #[.pointer (some ⟨bt,0,none⟩),.slice (some ⟨w.heap.size+1+1,0,none⟩) 1 1,.slice none 0 0] 181 (0,0))):=heap_alloc_new W3 _
 obtain ⟨kb,hkb⟩:∃ kb,kb=W3.heap.size:=⟨_,rfl⟩
 have HKB:Hid (kb=W3.heap.size):=hkb
 have ez3:w.heap.size+1+1+1=kb:=by rw [hkb,ez]
 rw [ez3]
 rw [← hkb] at N0
 have hzk:(W3.alloc (.cells #[.pointer (some ⟨bt,0,none⟩),.slice (some ⟨w.heap.size+1+1,0,none⟩) 1 1,.slice none 0 0] 181)).heap.size=kb+1:=by rw [hkb];simp
 have HZK:Hid (kb+1=(W3.alloc (.cells #[.pointer (some ⟨bt,0,none⟩),.slice (some ⟨w.heap.size+1+1,0,none⟩) 1 1,.slice none 0 0] 181)).heap.size):=hzk.symm
 clear hW3 hkb ez hzk
 go_upto_region 3 with (first | (go_at_call 129;refine C1.mono ?_;rintro e w5 ⟨oo,oc,rfl,hoi,k5⟩))
 have HOE:Hid (ofF (s:Int) 0 R=O):=hof
 have K5:Same0 W3 w5:=K4.trans' k5
 have N5:Hid (w5.heap[kb]? = some (.cells #[.pointer (some ⟨bt,0,none⟩),.slice (some ⟨w.heap.size+1+1,0,none⟩) 1 1,.slice none 0 0] 181 (0,0))):=k5.at0 N0.out
 have hkb5:kb+1≤w5.heap.size:=by rw [HZK.out];exact k5.size
 have HOI:Hid (∀ ww,Same0 w5 ww→ArgT ww oo O oc):=fun ww hk=>hoi.out.same hk
 clear hof N0 C1 HOF hoi K4 k5 hok
 go_loopw [20] (fun i wr=>∃ (j:Nat) (lv:Value) (us:List Value),j≤O.length∧i=.int .i64 (j:Int)∧Hid (wr.heap[kb]? = some (.cells #[.pointer (some ⟨bt,0,none⟩),.slice (some ⟨w.heap.size+1+1,0,none⟩) 1 1,lv] 181 (0,0)))∧Hid (wr.ownsRow (kb+1) 246 3 lv j us)∧Hid (WCells wr us (rowsOf R (O.take j)))∧Same0 W3 wr∧Hid (ArgT wr oo O oc)) (fun i _=>O.length-(intOf i).toNat)
 case atStart=>exact ⟨0,.slice none 0 0,[],Nat.zero_le _,rfl,N5,World.ownsRow_nil _ _ _ _,by simpa [Hid,rowsOf] using WCells.nil _,K5,HOI.out _ (Kept.refl _ _)⟩
 case round=>
  clear K5 N5 hkb5 HOI
  obtain ⟨j,lv,us,hj,rfl,hN,hr,hus,hw,hoi⟩:=hrel
  obtain ⟨lo,lc,rfl⟩:=row_shape hr.out
  by_cases hlt:j<O.length
  ·obtain ⟨ob,ooff,rfl,hob,hoc⟩:=hoi.out.1.at'.get hlt
   have hmem:(O[j],(R.getD O[j].toNat ([],[])).1,[0])∈rowsOf R O:=List.mem_map.2 ⟨O[j],List.getElem_mem hlt,rfl⟩
   obtain ⟨q,hq,hqe,hq0,hqp,hqn⟩:=HFA.out _ hmem
   have hOq:O[j]=(q:Int):=congrArg Prod.fst hqe
   have hkr:kb<wr.heap.size:=lt_of_at hN.out
   have hT:=checkE_zero.1 hq0
   have CA:=sat_yes (HST.out wr (KW.trans' hw)) q hq
   have CK:Hid (∀ ww g c', Same0 wr ww→TmAt ww g c' R[q].1→Calls Tryz.prog 104 #[.pointer (some ⟨bt,0,none⟩),.slice (some ⟨g,0,none⟩) R[q].1.length c'] ww fun e w' => e=.returned (.int .i64 0)∧Same0 ww w'):=fun ww g c' hk ht=>by
    have:=check_any (cap:=c') (HSG.out ww ((KW.trans' hw).trans' hk)) (TmAt.arg ht hT.1).at' (by unfold maxLen;omega)
    rw [hq0] at this
    exact this
   have i1:(0:Int)≤(j:Int):=by omega
   have i2:(j:Int)<(O.length:Int):=by omega
   rw [hOq] at hoc
   have CAH:Hid (Calls Tryz.prog 130 #[.pointer (some ⟨b,0,none⟩),.int .i64 (q:Int)] wr fun e w' => ∃ g c g' c', e=.returned (.tuple #[.agg #[.slice (some ⟨g,0,none⟩) R[q].1.length c,.slice (some ⟨g', 0,none⟩) R[q].2.length c'],.int .i64 0])∧Hid (TmAt w' g c R[q].1)∧Same0 wr w'):=CA.mono (fun e w' ⟨v,e1,⟨g,c,g', c', e2,t1,t2,_⟩,k⟩=>⟨g,c,g', c', by rw [e1,e2],t1,k⟩)
   have CA2:=CAH.out
   have hBX:Hid (∀ ww,Same0 wr ww→ww.cell? ⟨kb,2,none⟩=some (.slice lo j lc)):=fun ww hk=>cellAt (hk.at0 hN.out) 2
   have HRW:Hid (∀ ww,Same0 wr ww→ww.ownsRow (kb+1) 246 3 (.slice lo j lc) j us):=fun ww hk=>hk.row hr.out (fun _ _ f=>f)
   have hzz:Hid (∀ ww,Same0 wr ww→kb+1≤ww.heap.size):=fun ww hk=>by have:=hk.size;omega
   have hj1000:j≤1000:=by omega
   have FIN:Hid (∀ w7 g c q0 gg cap w11,Same0 wr w7→TmAt w7 g c R[q].1→ArgT w7 (some ⟨q0,0,none⟩) (ofN [0]) 1→w11.ownsRow (kb+1) 246 3 (.slice (some ⟨gg,0,none⟩) (j+1) cap) (j+1) (us ++ [.int .i64 (q:Int),.slice (some ⟨g,0,none⟩) R[q].1.length c,.slice (some ⟨q0,0,none⟩) 1 1])→Kept (fun k=>(Value.slice lo j lc).ownBlock=some k) w7 w11→(w11.cell? ⟨kb,2,none⟩=some (.slice lo j lc)∧w11.frozen? ⟨kb,2,none⟩=false)∧Hid (∃ us', Hid ((w11.setCell ⟨kb,2,none⟩ (.slice (some ⟨gg,0,none⟩) (j+1) cap)).heap[kb]? = some (.cells #[.pointer (some ⟨bt,0,none⟩),.slice (some ⟨w.heap.size+1+1,0,none⟩) 1 1,.slice (some ⟨gg,0,none⟩) (j+1) cap] 181 (0,0)))∧Hid ((w11.setCell ⟨kb,2,none⟩ (.slice (some ⟨gg,0,none⟩) (j+1) cap)).ownsRow (kb+1) 246 3 (.slice (some ⟨gg,0,none⟩) (j+1) cap) (j+1) us')∧Hid (WCells (w11.setCell ⟨kb,2,none⟩ (.slice (some ⟨gg,0,none⟩) (j+1) cap)) us' (rowsOf R (O.take (j+1))))∧Same0 W3 (w11.setCell ⟨kb,2,none⟩ (.slice (some ⟨gg,0,none⟩) (j+1) cap))∧Hid (ArgT (w11.setCell ⟨kb,2,none⟩ (.slice (some ⟨gg,0,none⟩) (j+1) cap)) (some ⟨ob,ooff,none⟩) O oc))):=by
    intro w7 g c q0 gg cap w11 k7 t7 a0 r11 k11
    have hr7:=k7.row hr.out (fun _ _ f=>f)
    have n7:=k7.at0 hN.out
    have nk:¬ (Value.slice lo j lc).ownBlock=some kb:=fun e=>by
     obtain ⟨cu,h5⟩:=own_blk hr7 e
     rw [n7] at h5;cases h5
    have n11:=k11.at n7 nk
    have ks:Kept (fun k=>k=kb) w11 (w11.setCell ⟨kb,2,none⟩ (.slice (some ⟨gg,0,none⟩) (j+1) cap)):=Kept.setCell (p:=⟨kb,2,none⟩) (Kept.refl (fun k=>k=kb) w11) (fun _=>rfl) _
    obtain ⟨xo,xc,e1,a1,_⟩:=Row.arg t7 (by omega)
    simp only [Value.slice.injEq] at e1
    obtain ⟨rfl,_,rfl⟩:=e1
    refine ⟨⟨cellAt n11 2,frozenAt n11 2⟩,us ++ [.int .i64 (q:Int),.slice (some ⟨g,0,none⟩) R[q].1.length c,.slice (some ⟨q0,0,none⟩) 1 1],setAt n11 2 _,?_,?_,?_,?_⟩
    ·exact ks.row r11 (fun k e f=>by
      obtain ⟨cu,h5⟩:=own_blk r11 e
      subst f
      rw [n11] at h5;cases h5)
    ·show WCells _ _ _
     have e5:rowsOf R (O.take (j+1))=rowsOf R (O.take j) ++ [((q:Int),R[q].1,[0])]:=by
      rw [List.take_add_one,List.getElem?_eq_getElem hlt]
      unfold rowsOf
      rw [List.map_append]
      congr 1
      rw [← hqe];rfl
     rw [e5]
     have:=(hus.out.same k7).snoc (x:=((q:Int),R[q].1,[0])) a1 a0
     exact (this.kept k11 (row_ty hr7)).kept ks (fun k e cur h5=>by subst e;rw [n11] at h5;cases h5)
    ·refine Kept.trans (Kept.trans (hw.trans' k7) k11 (fun i hi e=>?_)) ks (fun i hi e=>by have:=HKB.out;omega)
     have:=(hr7.lt i e).1
     have:=HKB.out
     omega
    ·exact (((hoi.out.same k7).kept k11 (row_ty hr7)).kept ks (fun k e cur h5=>by subst e;rw [n11] at h5;cases h5))
   have TA:Hid (∀ w8:World,ArgT (w8.alloc (.cells #[.int .i64 0] 3)) (some ⟨w8.heap.size,0,none⟩) (ofN [0]) 1):=fun w8=>⟨ints_arg w8 [0] 3 (by simp) rfl,fun a e=>(by cases e;exact ⟨_,heap_alloc_new w8 _⟩),fun a e=>(by cases e;exact ⟨_,_,rfl,heap_alloc_new w8 _,rfl,by unfold maxLen;omega⟩)⟩
   have XB:Hid (∀ w6 w8:World,∀ x y:Value,Same0 (w6.alloc (.cells #[x,y] 90)) w8→w8.cell? ⟨w6.heap.size,0,none⟩=some x):=fun w6 w8 x y hk=>cellAt (hk.at0 (heap_alloc_new w6 _)) 0
   clear CA CAH hN hr hus hoi hmem HFA hqe hq0 hqp hqn hOq hT hkr hw NB HOE PS RS HSG HST
   go_wp2_with (first
    | (go_at_call 130;refine CA2.mono ?_;rintro e w6 ⟨g,c', g', c'', rfl,ht,k6⟩;have ka:Same0 wr (w6.alloc (.cells #[.slice (some ⟨g,0,none⟩) R[q].1.length c', .slice (some ⟨g', 0,none⟩) R[q].2.length c''] 90)):=Kept.alloc k6 _;have kx:Same0 w6 (w6.alloc (.cells #[.slice (some ⟨g,0,none⟩) R[q].1.length c', .slice (some ⟨g', 0,none⟩) R[q].2.length c''] 90)):=(Kept.refl _ _).alloc _;have CK2:=CK.out _ g c' ka (ht.out.same kx))
    | (go_at_call 104;refine CK2.mono ?_;rintro e w8 ⟨rfl,k8⟩;have k18:=ka.trans' k8;have x0:=XB.out _ _ _ _ k8;have y0:=hBX.out _ k18;have t8:=(ht.out.same kx).same k8;have k7:Same0 wr (w8.alloc (.cells #[.int .i64 0] 3)):=Kept.alloc k18 _;have hz7:=hzz.out _ k7)
    | (at_builtin;refine wpList_rw (w0:=w8.alloc (.cells #[.int .i64 0] 3)) rfl _ _ rfl (kb+1) j us (.slice lo j lc) rfl ((Kept.refl _ _).alloc _) (HRW.out _ k7) (.int .i64 (q:Int)) (.slice (some ⟨g,0,none⟩) R[q].1.length c') (.slice (some ⟨w8.heap.size,0,none⟩) 1 1) (w8.heap.size+1) rfl (heap_al_al _ _ _) rfl rfl rfl hz7 hj1000 ?_;intro gg cap w11 r11 k11;obtain ⟨⟨y1,y2⟩,FF⟩:=FIN.out _ g c' w8.heap.size gg cap w11 k7 (t8.same ((Kept.refl _ _).alloc _)) (TA.out w8) r11 k11))
   obtain ⟨us', z1,z2,z3,z4,z5⟩:=FF.out
   exact ⟨⟨j+1,_,us', by omega,by go_num,z1,z2,z3,z4,z5⟩,by simp [intOf];omega⟩
  ·obtain rfl:j=O.length:=by omega
   have hN' := hN.out
   have rs:=RS.out wr hw
   have n0:=cellAt hN' 0
   have n1:=cellAt hN' 1
   have n2:=cellAt hN' 2
   simp only [List.getElem?_toArray,List.getElem?_cons_zero,List.getElem?_cons_succ] at n0 n1 n2
   have hus' := hus.out
   rw [List.take_length] at hus'
   obtain ⟨ro,rc,e1,r1,r2, -⟩:=row_rows hr.out hus'
   have hol2:(rowsOf R O).length=O.length:=by simp [rowsOf]
   rw [hol2] at e1
   have KI:KidIn wr L bt (some ⟨w.heap.size+1+1,0,none⟩) 1 [[]] 0 s ro (rowsOf R O):=⟨HSG.out wr (KW.trans' hw),PS.out wr hw,(fun e=>by cases e),Nat.le_refl _,by simp,hs,r1,by omega,by simp,by simp,fun x hx=>by
    obtain ⟨q,hq,rfl,h0,hp,hn⟩:=HFA.out x hx
    exact ⟨h0,rfl,fun p hp' => by simp at hp'; subst hp'; exact hp,hn⟩⟩
   have CKD:=kid_any KI (no:=ro) (nl:=O.length) (nc:=rc) (hcap:=rc)
   simp only [Value.slice.injEq] at e1
   obtain ⟨rfl, -,rfl⟩:=e1
   rw [hol2] at CKD
   have RC:Hid (∀ ww,Same0 W3 ww→(ww.cell? ⟨w.heap.size,0,none⟩=some (.pointer none)∧ww.cell? ⟨w.heap.size,1,none⟩=some (.slice none 0 0)∧ww.cell? ⟨w.heap.size,2,none⟩=some (.slice none 0 0))∧ww.frozen? ⟨w.heap.size,0,none⟩=false∧ww.frozen? ⟨w.heap.size,1,none⟩=false∧ww.frozen? ⟨w.heap.size,2,none⟩=false):=fun ww hk=>by
    have rs:=RS.out ww hk
    exact ⟨⟨cellAt rs 0,cellAt rs 1,cellAt rs 2⟩,frozenAt rs 0,frozenAt rs 1,frozenAt rs 2⟩
   have FIN:Hid (∀ w9 po pc xo xc,Same0 wr w9→PsAt w9 po (kidP L [[]] 0 s)→(po=none→pc=0)→(kidP L [[]] 0 s).length≤pc→RwAt w9 xo ((rowsOf R O).map (kidX L 0))→((((w9.setCell ⟨w.heap.size,0,none⟩ (.pointer (some ⟨bt,0,none⟩))).setCell ⟨w.heap.size,1,none⟩ (.slice po (kidP L [[]] 0 s).length pc)).setCell ⟨w.heap.size,2,none⟩ (.slice xo O.length xc)).cell? ⟨w.heap.size,0,none⟩=some (.pointer (some ⟨bt,0,none⟩))∧(((w9.setCell ⟨w.heap.size,0,none⟩ (.pointer (some ⟨bt,0,none⟩))).setCell ⟨w.heap.size,1,none⟩ (.slice po (kidP L [[]] 0 s).length pc)).setCell ⟨w.heap.size,2,none⟩ (.slice xo O.length xc)).cell? ⟨w.heap.size,1,none⟩=some (.slice po (kidP L [[]] 0 s).length pc)∧(((w9.setCell ⟨w.heap.size,0,none⟩ (.pointer (some ⟨bt,0,none⟩))).setCell ⟨w.heap.size,1,none⟩ (.slice po (kidP L [[]] 0 s).length pc)).setCell ⟨w.heap.size,2,none⟩ (.slice xo O.length xc)).cell? ⟨w.heap.size,2,none⟩=some (.slice xo O.length xc))∧∃ po' pc' ro' rc', Ending.returned (Value.agg #[.pointer (some ⟨bt,0,none⟩),.slice po (kidP L [[]] 0 s).length pc,.slice xo O.length xc])=.returned (.agg #[.pointer (some ⟨bt,0,none⟩),.slice po' (rootP L s).length pc', .slice ro' (rootR L R s).length rc'])∧NdIn (((w9.setCell ⟨w.heap.size,0,none⟩ (.pointer (some ⟨bt,0,none⟩))).setCell ⟨w.heap.size,1,none⟩ (.slice po (kidP L [[]] 0 s).length pc)).setCell ⟨w.heap.size,2,none⟩ (.slice xo O.length xc)) L 2001 bt po' pc' (rootP L s) ro' (rootR L R s)∧Same0 w (((w9.setCell ⟨w.heap.size,0,none⟩ (.pointer (some ⟨bt,0,none⟩))).setCell ⟨w.heap.size,1,none⟩ (.slice po (kidP L [[]] 0 s).length pc)).setCell ⟨w.heap.size,2,none⟩ (.slice xo O.length xc))):=by
    intro w9 po pc xo xc k9 p1 p2 p3 p4
    have rs9:=RS.out w9 (hw.trans' k9)
    have s3:=setAt (setAt (setAt rs9 0 (.pointer (some ⟨bt,0,none⟩))) 1 (.slice po (kidP L [[]] 0 s).length pc)) 2 (.slice xo O.length xc)
    have k1:=Kept.setCell (p:=⟨w.heap.size,0,none⟩) (Kept.refl (fun q=>q=w.heap.size) w9) (fun _=>rfl) (.pointer (some ⟨bt,0,none⟩))
    have k2:=Kept.setCell (p:=⟨w.heap.size,1,none⟩) k1 (fun _=>rfl) (.slice po (kidP L [[]] 0 s).length pc)
    have kk:=Kept.setCell (p:=⟨w.heap.size,2,none⟩) k2 (fun _=>rfl) (.slice xo O.length xc)
    have kS:=Kept.trans ((KW.trans' hw).trans' k9) kk (fun i hi e=>by omega)
    have nb:∀ q,q=w.heap.size→NdB w9 q:=fun q e=>by subst e;exact ⟨_,rs9⟩
    refine ⟨⟨cellAt s3 0,cellAt s3 1,cellAt s3 2⟩,po,pc,xo,xc,?_,⟨HSG.out _ kS,p1.keptN kk nb,p2,p3,?_,NB.out⟩,kS⟩
    ·have:(rootR L R s).length=O.length:=by unfold rootR;rw [HOE.out,List.length_map,hol2]
     rw [this];rfl
    ·have:rootR L R s=(rowsOf R O).map (kidX L 0):=by unfold rootR;rw [HOE.out]
     rw [this];exact p4.keptN kk nb
   have CKH:Hid (Calls Tryz.prog 131 #[.agg #[.pointer (some ⟨bt,0,none⟩),.slice (some ⟨w.heap.size+1+1,0,none⟩) 1 1,.slice lo O.length lc],.int .i64 0,.int .i64 (s:Int),.slice lo O.length lc] wr fun e w' => ∃ po pc xo xc,e=.returned (.agg #[.pointer (some ⟨bt,0,none⟩),.slice po (kidP L [[]] 0 s).length pc,.slice xo O.length xc])∧Hid (PsAt w' po (kidP L [[]] 0 s)∧(po=none→pc=0)∧(kidP L [[]] 0 s).length≤pc∧RwAt w' xo ((rowsOf R O).map (kidX L 0)))∧Same0 wr w'):=CKD.mono (fun e w' ⟨po,pc,xo,xc,q1,q2,q3,q4,q5,q6,q7⟩=>⟨po,pc,xo,xc,by rw [q1,hol2],⟨q2,q3,q4,q5⟩,q7⟩)
   have CK3:=CKH.out
   clear hN hr hus hN' rs hus' r1 r2 KI CKD CKH hol2 hoi HFA NB HOE PS RS HSG HST
   go_wp2_with (first | (go_at_call 131;refine CK3.mono ?_;rintro e w9 ⟨po,pc,xo,xc,rfl,hq,k9⟩;obtain ⟨⟨q0,q1,q2⟩,f0,f1,f2⟩:=RC.out w9 (hw.trans' k9)))
   obtain ⟨p1,p2,p3,p4⟩:=hq.out
   obtain ⟨⟨g0,g1,g2⟩,FF⟩:=FIN.out w9 po pc xo xc k9 p1 p2 p3 p4
   exact bodyPost_ret (v:=.agg #[.pointer (some ⟨bt,0,none⟩),.slice po (kidP L [[]] 0 s).length pc,.slice xo O.length xc]) (by simp [results,Tryz.results91,go_sem,g0,g1,g2]) rfl FF
end Go.Proofs.YtmjgnfkbnofjoaaGreatDoor
