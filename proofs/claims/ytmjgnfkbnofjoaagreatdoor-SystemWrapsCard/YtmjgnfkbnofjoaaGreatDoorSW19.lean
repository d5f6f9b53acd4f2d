import Derived.Test.YtmjgnfkbnofjoaaGreatDoorSW18
namespace Go.Proofs.YtmjgnfkbnofjoaaGreatDoor
set_option maxRecDepth 100000
set_option linter.unusedVariables false
open Go.RowKit
attribute [local go_sem ↓] Go.wp_at_zero Go.wp_at_succ
def KA (L:List Sym) (J:List Int) (m:Nat):List (List Int):=(List.range m).map (fun p=>(kidsL L J p).map (fun k:Nat=>(k:Int)))
theorem KA_succ (L:List Sym) (J:List Int) (m:Nat):KA L J (m+1)=KA L J m ++ [(kidsL L J m).map (fun k:Nat=>(k:Int))]:=by
 unfold KA;rw [List.range_succ,List.map_append];rfl
theorem KA_len (L:List Sym) (J:List Int) (m:Nat):(KA L J m).length=m:=by simp [KA]
def upBy (far:Int) (k:Nat) (ys:List Int):List Int:=(ys.take k).map (fun x=>x+far)++ys.drop k
theorem upBy_len (far:Int) (k:Nat) (ys:List Int):(upBy far k ys).length=ys.length:=by simp [upBy];omega
theorem upBy_set {far:Int} {k:Nat} {ys:List Int} (hk:k<ys.length):(upBy far k ys).set k (ys[k]+far)=upBy far (k+1) ys:=by
 unfold upBy
 have l1:((ys.take k).map (fun x=>x+far)).length=k:=by simp;omega
 rw [List.set_append_right _ _ (by omega),l1,Nat.sub_self,List.drop_eq_getElem_cons hk,List.set_cons_zero,List.take_add_one,List.getElem?_eq_getElem hk,List.map_append]
 simp
theorem upBy_get {far:Int} {k:Nat} {ys:List Int} (hk:k<ys.length):(upBy far k ys)[k]? = some ys[k]:=by
 unfold upBy
 have l1:((ys.take k).map (fun x=>x+far)).length=k:=by simp;omega
 rw [List.getElem?_append_right (by omega),l1,Nat.sub_self,List.drop_eq_getElem_cons hk];rfl
def upsL (N k m la:Nat) (ap:Bool) (T:List Int):List Int:=(List.range m).map (fun i=>if i<k then (up0 ap N la T i:Int) else (i:Int))
def repL (N:Nat) (T:List Int) (m:Nat):List Int:=(List.range m).map (rep0 N T)
theorem upsL_len (N k m la:Nat) (ap:Bool) (T:List Int):(upsL N k m la ap T).length=m:=by simp [upsL]
theorem repL_len (N:Nat) (T:List Int) (m:Nat):(repL N T m).length=m:=by simp [repL]
theorem upsL_succ (N m la:Nat) (ap:Bool) (T:List Int):upsL N 0 (m+1) la ap T=upsL N 0 m la ap T ++ [(m:Int)]:=by
 unfold upsL;rw [List.range_succ,List.map_append];simp
theorem repL_succ (N:Nat) (T:List Int) (m:Nat):repL N T (m+1)=repL N T m ++ [rep0 N T m]:=by
 unfold repL;rw [List.range_succ,List.map_append];rfl
theorem repL_at (N:Nat) (T:List Int) (m i:Nat) (h:i<m):at' (repL N T m) i=rep0 N T i:=by
 rw [at'_nat _ _ (by rw [repL_len];exact h)];unfold repL;simp
theorem upsL_at (N k m la:Nat) (ap:Bool) (T:List Int) (i:Nat) (h:i<m):at' (upsL N k m la ap T) i=if i<k then (up0 ap N la T i:Int) else (i:Int):=by
 rw [at'_nat _ _ (by rw [upsL_len];exact h)];unfold upsL;simp
theorem upsL_set (N k m la:Nat) (ap:Bool) (T:List Int) (h:k<m):upsL N (k+1) m la ap T=(upsL N k m la ap T).set k (up0 ap N la T k:Int):=by
 apply List.ext_getElem?
 intro i
 unfold upsL
 by_cases e:k=i
 ·subst e
  rw [List.getElem?_set_self (by simpa using h),List.getElem?_map,List.getElem?_range h];simp
 ·rw [List.getElem?_set_ne e,List.getElem?_map,List.getElem?_map]
  by_cases hi:i<m
  ·rw [List.getElem?_range hi]
   simp only [Option.map_some,Option.some.injEq]
   by_cases f:i<k
   ·rw [if_pos f,if_pos (by omega)]
   ·rw [if_neg f,if_neg (by omega)]
  ·rw [List.getElem?_eq_none (by simp;omega)];rfl
theorem upsL_skip (N k m la:Nat) (ap:Bool) (T:List Int) (h:up0 ap N la T k=k):upsL N (k+1) m la ap T=upsL N k m la ap T:=by
 unfold upsL
 apply List.map_congr_left
 intro i _
 by_cases f:i<k
 ·rw [if_pos f,if_pos (by omega)]
 ·rw [if_neg f]
  by_cases e:i=k
  ·subst e;rw [if_pos (by omega),h]
  ·rw [if_neg (by omega)]
theorem wrap_back {n:Nat} (h:n≤98):IntKind.i64.wrap (IntKind.i64.wrap (-(-(n:Int)-1))-1)=(n:Int):=by
 have small:∀ x:Int,0≤x→x≤1000→IntKind.i64.wrap x=x:=by
  intro x h0 h1
  unfold IntKind.wrap
  simp [IntKind.signed,IntKind.bits]
  omega
 rw [small (-(-(n:Int)-1)) (by omega) (by omega),small _ (by omega) (by omega)]
 omega
theorem info_ints:(Tryz.prog.info? 51).map (fun i=>(i.zero,i.size,i.bytes))=some (some (.slice none 0 0),1,24):=by kernel_rfl
set_option maxHeartbeats 16000000 in
theorem laid_any {nn:Nat} {w:World} {rv:Value} {L:List Sym} (h:Rl nn w rv L) {ao bo:Option Addr} {ac bc:Nat} {a b:List Int} (ha:IntsAt w ao a) (hb:IntsAt w bo b) (hca:checkE L a=0) (hcb:checkE L b=0) (ap:Bool) :
  Calls Tryz.prog 225 #[rv,.slice ao a.length ac,.slice bo b.length bc,.bool ap] w (LMade w L ap a b):=by
 obtain ⟨i0,hi0,hz0,hz1,hz2⟩:=info_parts info_intN
 obtain ⟨j0,hj0,hy0,hy1,hy2⟩:=info_parts info_ints
 obtain ⟨a1,a2,a3⟩:=checkE_zero.1 hca
 obtain ⟨b1,b2,b3⟩:=checkE_zero.1 hcb
 obtain ⟨ro,rc,rfl⟩:=row_shape h.1
 obtain ⟨N,hN⟩:∃ N,a.length+b.length=N:=⟨_,rfl⟩
 obtain ⟨J,hJ⟩:∃ J,jl a b (apI ap)=J:=⟨_,rfl⟩
 obtain ⟨T,hT⟩:∃ T,a++b=T:=⟨_,rfl⟩
 have hap0:0≤apI ap:=by unfold apI;split <;> omega
 have hJl:J.length=N:=by rw [← hJ,← hN];simp [jl]
 have hTl:T.length=N:=by rw [← hT,← hN];simp
 have nN:(a.length:Int)+(b.length:Int)=(N:Int):=by omega
 have nA:(a.length:Int)≤2000:=by omega
 have nB:(b.length:Int)≤2000:=by omega
 have KAa:Hid (∀ i,i<a.length→kidsL L J i=argsN L a i):=fun i hi=>by rw [← hJ];exact kids_a hap0 a3 hi
 have KAb:Hid (∀ i,i<b.length→kidsL L J (a.length+i)=(argsN L b i).map (fun x=>a.length+x)):=fun i hi=>by rw [← hJ];exact kids_b hap0 b3 hi
 have L0:LS w ((w.alloc (.cells #[.slice ro L.length rc,.slice none 0 0,.slice none 0 0,.slice none 0 0,.slice none 0 0] 341)).alloc (.cells #[.slice ao a.length ac,.slice bo b.length bc] 74)) (.slice ro L.length rc) (.slice ao a.length ac) (.slice bo b.length bc) (fun _=>.slice none 0 0) (.slice none 0 0) (tri [] [] []) []:=by
  have k1:Same0 w (w.alloc (.cells #[.slice ro L.length rc,.slice none 0 0,.slice none 0 0,.slice none 0 0,.slice none 0 0] 341)):=(Kept.refl _ w).alloc _
  have k2:Same0 (w.alloc (.cells #[.slice ro L.length rc,.slice none 0 0,.slice none 0 0,.slice none 0 0,.slice none 0 0] 341)) ((w.alloc (.cells #[.slice ro L.length rc,.slice none 0 0,.slice none 0 0,.slice none 0 0,.slice none 0 0] 341)).alloc (.cells #[.slice ao a.length ac,.slice bo b.length bc] 74)):=(Kept.refl _ _).alloc _
  refine ⟨⟨fun i _=>?_,fun i j _ _ _ q e=>by simp [Value.ownBlock] at e,fun i _ q e=>by simp [Value.ownBlock] at e,[],World.ownsRow_nil _ _ _ _,fun j hj=>by simp at hj⟩,k2.at0 (heap_alloc_new _ _),?_,k1.trans' k2,by rw [World.size_alloc,World.size_alloc];omega⟩
  ·have:tri [] [] [] i=[]:=by unfold tri;split <;> (try split) <;> rfl
   rw [this];exact World.ownsRow_nil _ _ _ _
  ·have:=heap_alloc_new (w.alloc (.cells #[.slice ro L.length rc,.slice none 0 0,.slice none 0 0,.slice none 0 0,.slice none 0 0] 341)) (.cells #[.slice ao a.length ac,.slice bo b.length bc] 74)
   rwa [World.size_alloc] at this
 have hLM:LMade w L ap a b=fun e w' => ∃ B,e=.returned (.pointer (some ⟨B.nb,0,none⟩))∧NC L B w' T J (up0 ap N a.length T) (rep0 N T)∧B.top≤w'.heap.size∧Same0 w w' ∧ w.heap.size≤B.ub∧w.heap.size≤B.rb:=by
  unfold LMade;rw [hT,hJ,hN]
 have HLM:Hid (LMade w L ap a b=fun e w' => ∃ B,e=.returned (.pointer (some ⟨B.nb,0,none⟩))∧NC L B w' T J (up0 ap N a.length T) (rep0 N T)∧B.top≤w'.heap.size∧Same0 w w' ∧ w.heap.size≤B.ub∧w.heap.size≤B.rb):=hLM
 have HT:Hid (a++b=T∧a.length+b.length=N):=⟨hT,hN⟩
 have HLOW:Hid (∀ i:Nat,i<N → -99≤at' T i):=by
  intro i hi
  have ei:i<(a++b).length:=by simp;omega
  rw [← hT,at'_nat _ _ ei]
  rcases List.mem_append.1 (List.getElem_mem ei) with e | e
  ·exact ((badE_zero.1 a2) _ e).2
  ·exact ((badE_zero.1 b2) _ e).2
 have HPOS:Hid (0<N):=by
  have:0<a.length:=by
   cases a with
   | nil=>exact absurd a3 (by unfold IsT;intro f;cases f)
   | cons x r=>simp
  show 0<N
  omega
 clear hLM hJ hT hN hca hcb
 go_enter Tryz.func225,Tryz.ntmps225
 go_wp2_with fail
 obtain ⟨w1,hw1⟩:∃ w1,((w.alloc (.cells #[.slice ro L.length rc,.slice none 0 0,.slice none 0 0,.slice none 0 0,.slice none 0 0] 341)).alloc (.cells #[.slice ao a.length ac,.slice bo b.length bc] 74))=w1:=⟨_,rfl⟩
 rw [hw1] at L0 ⊢
 clear hw1
 go_loopw [12] (fun s12 wr=>∃ (wv:Nat) (vs:Nat→Value) (va:Value),s12=.int .i64 (wv:Int)∧wv≤2∧LS w wr (.slice ro L.length rc) (.slice ao a.length ac) (.slice bo b.length bc) vs va (tri (T.take (if wv=0 then 0 else if wv=1 then a.length else N)) [] []) (KA L J (if wv=0 then 0 else if wv=1 then a.length else N))) (fun s12 _=>2-(intOf s12).toNat)
 case atStart=>exact ⟨0,_,_,rfl,by omega,by simpa [KA] using L0⟩
 case round=>
  clear L0
  obtain ⟨wv,vs,va,rfl,hwv,hLS⟩:=hrel
  rcases (show wv=0∨wv=1∨wv=2 by omega) with rfl | rfl | rfl
  ·-- the term number 0
   have LSx:LS w wr (.slice ro L.length rc) (.slice ao a.length ac) (.slice bo b.length bc) vs va (tri (T.take 0) [] []) (KA L J 0):=hLS
   clear hLS
   go_wp2_with fail
   go_loopw [14] (fun s14 wr=>∃ (i:Nat) (vs:Nat→Value) (va:Value),s14=.int .i64 (i:Int)∧i≤a.length∧LS w wr (.slice ro L.length rc) (.slice ao a.length ac) (.slice bo b.length bc) vs va (tri (T.take (0+i)) [] []) (KA L J (0+i))) (fun s14 _=>a.length-(intOf s14).toNat)
   case atStart=>exact ⟨0,vs,va,rfl,Nat.zero_le _,LSx⟩
   case round=>
    clear LSx
    obtain ⟨i,vs,va,rfl,hi,hLS⟩:=hrel
    obtain ⟨c1,c2,c3,c4,c5,c6,c7⟩:=hLS.cells
    by_cases hlt:i<a.length
    ·obtain ⟨m,hm⟩:∃ m,0+i=m:=⟨_,rfl⟩
     rw [hm] at hLS
     have hmT:m<T.length:=by have:=HT.out.2;omega
     have hTm:T[m]=a[i]:=by
      have e:=HT.out.1
      subst hm
      simp only [← e]
      rw [List.getElem_append_left (by omega)];congr 1;omega
     have hXr:=ha.same hLS.kept
     have cA:=rargs_any (cap:=ac) (h.same hLS.kept) hXr a1 a3 i hlt
     obtain ⟨ys,hys⟩:∃ ys,ofN (argsN L a i)=ys:=⟨_,rfl⟩
     have hkid:(kidsL L J m).map (fun k:Nat=>(k:Int))=ys.map (fun x=>x+(0:Int)):=by
      rw [← hm,← hys]
      rw [Nat.zero_add,KAa.out i hlt];simp [ofN]
     have hyb:∀ y∈ys,0≤y∧y≤2000:=by
      intro y hy
      rw [← hys] at hy
      unfold ofN at hy
      obtain ⟨k,hk,rfl⟩:=List.mem_map.1 hy
      rw [argsN_eq hlt] at hk
      have:=starts_lt (Forest.one a3 hlt).kids.2 k hk
      omega
     rw [hys] at cA
     have z1:(0:Int)≤(i:Int):=by omega
     have z2:(i:Int)<(a.length:Int):=by omega
     have z3:(i:Int)≤2000:=by omega
     have z4:(0:Int)≤(a.length:Int):=by omega
     have HKID:Hid ((kidsL L J m).map (fun k:Nat=>(k:Int))=ys.map (fun x=>x+(0:Int))∧ofN (argsN L a i)=ys):=⟨hkid,hys⟩
     have HYB:Hid (∀ y∈ys,0≤y∧y≤2000):=hyb
     have HTM:Hid (T[m]=a[i]):=hTm
     clear hkid hys hyb hTm
     go_upto_region 12 with (first | (go_at_call 194;refine cA.mono ?_;rintro e w5 ⟨v5,rfl,hr5,hk5⟩))
     obtain ⟨go,gc,hv5⟩:=row_shape hr5
     subst hv5
     have hL5:=hLS.same hk5
     have hsz:=hk5.size
     obtain ⟨n,hn⟩:∃ n,ys.length=n:=⟨_,rfl⟩
     rw [hn] at hr5 ⊢
     clear cA
     obtain ⟨B5,hB5⟩:∃ B5,wr.heap.size=B5:=⟨_,rfl⟩
     have HV:Hid (w.heap.size+2≤B5∧∀ q,B5≤q→va.ownBlock≠some q∧∀ i,i<3→(vs i).ownBlock≠some q):=by
      refine ⟨by rw [← hB5];exact hLS.big,fun q hq=>⟨fun e=>?_,fun j hj e=>?_⟩⟩
      ·obtain ⟨cs,g1,_⟩:=hLS.fam.ar
       have:=(World.ownsRow.lt g1 q e).2;omega
      ·have:=(World.ownsRow.lt (hLS.fam.rows j hj) q e).2;omega
     rw [hB5] at hr5 hsz
     have HB5:Hid (wr.heap.size=B5):=hB5
     clear hB5
     go_wp2_with fail
     go_loopw [16] (fun s16 wx=>∃ k:Nat,s16=.int .i64 (k:Int)∧k≤n∧Row B5 wx (.slice go n gc) (upBy (0:Int) k ys)∧Same0 wr wx) (fun s16 _=>n-(intOf s16).toNat)
     case atStart=>exact ⟨0,rfl,Nat.zero_le _,by simpa [upBy] using hr5,hk5⟩
     case round=>
      clear hr5 hL5 hk5
      obtain ⟨k,rfl,hk,hr5,hk5⟩:=hrel
      by_cases hkn:k<n
      ·have hky:k<ys.length:=by omega
       obtain ⟨g5,cap5,hv5,hg1,hg2⟩:=World.ownsRow.form hr5 (by rw [upBy_len];omega)
       simp only [Value.slice.injEq] at hv5
       obtain ⟨rfl,_,rfl⟩:=hv5
       have hr5:wr.ownsRow B5 3 1 (.slice (some ⟨g5,0,none⟩) n gc) n (iv (upBy (0:Int) k ys)):=by
        have:=hr5
        unfold Row at this
        rw [upBy_len,hn] at this;exact this
       have hgc:=hr5.cellAt k (by omega)
       rw [show (iv (upBy (0:Int) k ys))[k]? = some (.int .i64 ys[k]) by unfold iv;rw [List.getElem?_map,upBy_get hky];rfl] at hgc
       have hgf:=hr5.frozenAt k
       obtain ⟨hy1', hy2'⟩:=HYB.out ys[k] (List.getElem_mem _)
       have hst:=(hr5.stored k (.int .i64 (ys[k]+(0:Int)))).1
       have hst2:Row B5 (wr.setCell ⟨g5,k,none⟩ (.int .i64 (ys[k]+(0:Int)))) (.slice (some ⟨g5,0,none⟩) n gc) (upBy (0:Int) (k+1) ys):=by
        have e1:(iv (upBy (0:Int) k ys)).set k (.int .i64 (ys[k]+(0:Int)))=iv (upBy (0:Int) (k+1) ys):=by
         unfold iv;rw [← List.map_set,upBy_set hky]
        rw [e1] at hst
        have e2:n=(upBy (0:Int) (k+1) ys).length:=by rw [upBy_len,hn]
        unfold Row
        rw [← e2]
        exact hst
       have hk6:Same0 _ (wr.setCell ⟨g5,k,none⟩ (.int .i64 (ys[k]+(0:Int)))):=Kept.setCell (p:=⟨g5,k,none⟩) hk5 (fun hq=>by have:=HB5.out;simp only at hq;omega) _
       obtain ⟨yk,hyk⟩:∃ yk,ys[k]=yk:=⟨_,rfl⟩
       rw [hyk] at hgc hy1' hy2' hst2 hk6
       have q1:(0:Int)≤(k:Int):=by omega
       have q2:(k:Int)<(n:Int):=by omega
       have q3:(k:Int)<4000:=by
        have:=HKID.out.2
        have h1:=starts_le (Forest.one a3 hlt).kids.2
        have h2:=(endN_le a3 hlt).2
        have h3:ys.length=arN L a[i]:=by rw [← this];unfold ofN;rw [List.length_map,argsN_eq hlt,starts_length]
        omega
       clear hst hyk hr5
       go_wp2_with fail
       go_roundw
       case rel=>exact ⟨k+1,by go_num,by omega,by first | exact hst2 | (rw [Int.add_zero] at hst2;exact hst2),by first | exact hk6 | (rw [Int.add_zero] at hk6;exact hk6)⟩
       case measure=>simp [intOf];omega
      ·have hke:k=n:=by omega
       have q2:¬ (k:Int)<(n:Int):=by omega
       have hr6:Row B5 wr (.slice go n gc) ((kidsL L J m).map (fun k:Nat=>(k:Int))):=by
        rw [HKID.out.1]
        have:upBy (0:Int) k ys=ys.map (fun x=>x+(0:Int)):=by
         unfold upBy;rw [hke,← hn,List.take_length,List.drop_length,List.append_nil]
        rw [← this];exact hr5
       have hL6:LS w wr (.slice ro L.length rc) (.slice ao a.length ac) (.slice bo b.length bc) vs va (tri (T.take m) [] []) (KA L J m):=hLS.same hk5
       obtain ⟨c1,c2,c3,c4,c5,c6,c7⟩:=hL6.cells
       obtain ⟨z,hz⟩:∃ z,T[m]=z:=⟨_,rfl⟩
       obtain ⟨to', tcap,hv0⟩:=row_shape (hL6.fam.rows 0 (by omega))
       have hl0:(tri (T.take m) [] [] 0).length=m:=by show (T.take m).length=m;rw [List.length_take];omega
       rw [hl0] at hv0
       have hrow0:wr.ownsRow (w.heap.size+2) 3 1 (vs 0) m (iv (T.take m)):=by
        have h0:wr.ownsRow (w.heap.size+2) 3 1 (vs 0) (tri (T.take m) [] [] 0).length (iv (T.take m)):=hL6.fam.rows 0 (by omega)
        rw [hl0] at h0;exact h0
       rw [hv0] at c1 hrow0
       have hn1:m+1≤maxLen:=by unfold maxLen;omega
       have hn2:(m+1) * 8≤140737488355328:=by omega
       have hb9:w.heap.size+2≤(wr.alloc (.cells #[.int .i64 z] 3)).drew.heap.size:=by
        show _≤(wr.alloc (.cells #[.int .i64 z] 3)).heap.size
        rw [World.size_alloc];have:=hL6.big;omega
       have PE:Hid (∀ gg cap' w9,w9.ownsRow (w.heap.size+2) 3 1 (.slice (some ⟨gg,0,none⟩) (m+1) cap') (m+1) (iv (T.take m) ++ [.int .i64 z])→(wr.alloc (.cells #[.int .i64 z] 3)).drew.grownBy w9 (Value.slice to' m tcap).ownBlock→((Value.slice to' m tcap).ownBlock=some gg∨gg=(wr.alloc (.cells #[.int .i64 z] 3)).drew.heap.size)→LS w (w9.setCell ⟨w.heap.size,1,none⟩ (.slice (some ⟨gg,0,none⟩) (m+1) cap')) (.slice ro L.length rc) (.slice ao a.length ac) (.slice bo b.length bc) (fun j=>if j=0 then .slice (some ⟨gg,0,none⟩) (m+1) cap' else vs j) va (tri (T.take (m+1)) [] []) (KA L J m)∧w9.cell? ⟨w.heap.size,1,none⟩=some (vs 0)∧w9.frozen? ⟨w.heap.size,1,none⟩=false∧Kept (fun q=>q=w.heap.size∨(vs 0).ownBlock=some q) wr (w9.setCell ⟨w.heap.size,1,none⟩ (.slice (some ⟨gg,0,none⟩) (m+1) cap'))∧∀ q,(Value.slice go n gc).ownBlock=some q→q≠gg):=by
        intro gg cap' w9 q1 q2 q3
        rw [← hv0] at q2 q3
        have kd:Same0 wr (wr.alloc (.cells #[.int .i64 z] 3)).drew:=Kept.drew (Kept.alloc (Kept.refl _ wr) _)
        obtain ⟨r1,r2,r3⟩:=hL6.push (i:=0) (s:=1) (by omega) rfl hl0 kd q1 q2 q3 kd.size (xs' := tri (T.take (m+1)) [] []) (by show T.take (m+1)=T.take m ++ [z];rw [List.take_add_one,List.getElem?_eq_getElem hmT,hz];rfl) (fun j _ e=>by unfold tri;rw [if_neg e,if_neg e])
        refine ⟨r1,r2,r3,?_,fun q e f=>?_⟩
        rotate_left
        ·subst f
         rcases q3 with g | g
         ·exact (HV.out.2 q (own_base hr6 e)).2 0 (by omega) g
         ·have h1:=(World.ownsRow.lt hr6 q e).2
          have h2:wr.heap.size+1=(wr.alloc (.cells #[.int .i64 z] 3)).drew.heap.size:=(World.size_alloc _ _).symm
          omega
        have kg:Kept (fun q=>q=w.heap.size∨(vs 0).ownBlock=some q) wr w9:=Kept.grown (Kept.mono kd (fun _ _ f=>f.elim)) q2 (fun q e _=>.inr e)
        exact Kept.setCell (p:=⟨w.heap.size,1,none⟩) kg (fun _=>.inl rfl) _
       have P7:Hid (∀ (gg cap' : Nat) (w8:World) (vs' : Nat→Value),LS w w8 (.slice ro L.length rc) (.slice ao a.length ac) (.slice bo b.length bc) vs' va (tri (T.take (m+1)) [] []) (KA L J m)→Row (w.heap.size+2) w8 (.slice go n gc) ((kidsL L J m).map (fun k:Nat=>(k:Int)))→(∀ q,(Value.slice go n gc).ownBlock=some q→va.ownBlock≠some q∧∀ i,i<3→(vs' i).ownBlock≠some q)→∃ cs vO vC,va=.slice vO m vC∧w8.ownsRow (w.heap.size+2) 51 1 (.slice vO m vC) m cs∧∀ (gg cap' : Nat) (w9:World),w9.ownsRow (w.heap.size+2) 51 1 (.slice (some ⟨gg,0,none⟩) (m+1) cap') (m+1) (cs ++ [.slice go n gc])→(w8.alloc (.cells #[.slice go n gc] 51)).grownBy w9 (Value.slice vO m vC).ownBlock→((Value.slice vO m vC).ownBlock=some gg∨gg=(w8.alloc (.cells #[.slice go n gc] 51)).heap.size)→LS w (w9.setCell ⟨w.heap.size,2,none⟩ (.slice (some ⟨gg,0,none⟩) (m+1) cap')) (.slice ro L.length rc) (.slice ao a.length ac) (.slice bo b.length bc) vs' (.slice (some ⟨gg,0,none⟩) (m+1) cap') (tri (T.take (m+1)) [] []) (KA L J (m+1))∧w9.cell? ⟨w.heap.size,2,none⟩=some va∧w9.frozen? ⟨w.heap.size,2,none⟩=false):=by
        intro _ _ w8 vs' h1 h2 h3
        obtain ⟨cs,hcs1,_⟩:=h1.fam.ar
        rw [KA_len] at hcs1
        obtain ⟨vO,vC,hva⟩:=row_shape hcs1
        refine ⟨cs,vO,vC,hva,hva ▸ hcs1,?_⟩
        intro gg cap' w9 q1 q2 q3
        rw [KA_succ]
        rw [← hva] at q2 q3
        have kd:Same0 w8 (w8.alloc (.cells #[.slice go n gc] 51)):=Kept.alloc (Kept.refl _ w8) _
        exact h1.more (KA_len _ _ _) h2 h3 hcs1 kd q1 q2 q3 kd.size
       have hrow8:Hid (∀ w8,Kept (fun q=>q=w.heap.size∨(vs 0).ownBlock=some q) wr w8→Row (w.heap.size+2) w8 (.slice go n gc) ((kidsL L J m).map (fun k:Nat=>(k:Int)))):=by
        intro w8 hk8
        refine (hk8.row (row_mono hr6 HV.out.1) (fun q e=>?_))
        have:=own_base hr6 e
        rintro (f | f)
        ·have:=HV.out.1;omega
        ·exact (HV.out.2 q this).2 0 (by omega) f
       have hX6:=ha.same hL6.kept
       obtain ⟨xb,xof,hxo,hx1,hx2⟩:=hX6.get hlt
       rw [← HTM.out,hz] at hx2
       rw [hxo] at c5
       have c1a:(wr.alloc (.cells #[.int .i64 z] 3)).drew.cell? ⟨w.heap.size,1,none⟩=some (.slice to' m tcap):=by
        have:=(hL6.same (Kept.drew (Kept.alloc (Kept.refl _ wr) (.cells #[.int .i64 z] 3)))).cells.1
        rw [this,hv0]
       have VA:Hid (∀ gg,(∀ q,(Value.slice go n gc).ownBlock=some q→q≠gg)→∀ (cap' q:Nat),(Value.slice go n gc).ownBlock=some q→va.ownBlock≠some q∧∀ i,i<3→((fun j=>if j=0 then Value.slice (some ⟨gg,0,none⟩) (m+1) cap' else vs j) i).ownBlock≠some q):=by
        intro gg hf cap' q e
        obtain ⟨x1,x2⟩:=HV.out.2 q (own_base hr6 e)
        refine ⟨x1,fun i hi=>?_⟩
        by_cases ei:i=0
        ·simp only [ei,if_true,Value.ownBlock]
         intro f
         simp only [Option.some.injEq] at f
         exact hf q e f.symm
        ·simp only [ei,if_false];exact x2 i hi
       clear hL6 hXr hX6 hLS hr5 hr6 hl0 hv0 hxo hke
       go_upto_region 16 with fail
       go_cut [] from 70 to 85 (fun wc=>∃ gg cap', LS w wc (.slice ro L.length rc) (.slice ao a.length ac) (.slice bo b.length bc) (fun j=>if j=0 then .slice (some ⟨gg,0,none⟩) (m+1) cap' else vs j) va (tri (T.take (m+1)) [] []) (KA L J m)∧Kept (fun q=>q=w.heap.size∨(vs 0).ownBlock=some q) wr wc∧∀ q,(Value.slice go n gc).ownBlock=some q→q≠gg)
       case first=>
        clear P7 VA hrow8
        go_region_law (refine step_append_lies _ (by rfl) _ _ 51 (by rfl) (w.heap.size+2) 3 i0 _ 1 8 Tryz.underlying51 hi0 hz0 hz1 hz2 rfl (by omega) (.slice to' m tcap) m (iv (T.take m)) (by rfl) ((hrow0.alloc _).drew) ⟨wr.heap.size,0,none⟩ 1 1 [.int .i64 z] (by rfl) (by rfl) (World.news_of_block (cs:=#[.int .i64 z]) (t:=3) (fr:=(0,0)) (heap_alloc_new wr _)) (by simp [Value.oneCell']) (by omega) hn1 hn2 hb9 _ rfl ?_;intro gg cap' w9 hown hgrow hat hlt9;obtain ⟨p1,p2,p3,p4,p5⟩:=PE.out gg cap' w9 hown hgrow hat)
        all_goals
         go_wp2_with fail
         go_meet
         exact ⟨gg,cap', p1,p4,p5⟩
       case rest=>
        obtain ⟨gg,cap', hL7,hK7,hf7⟩:=hcut
        obtain ⟨cs,vO,vC,hva,hrow8', P8⟩:=P7.out 0 0 wc _ hL7 (hrow8.out wc hK7) (VA.out gg hf7 cap')
        clear P7 VA hrow8 PE c1a hrow0 hb9 c1 c2 c3 c4 c5 c6 c7
        obtain ⟨c1,c2,c3,c4,c5,c6,c7⟩:=hL7.cells
        rw [hva] at c2
        have PE:Hid (∀ (gg cap' : Nat) (w9:World),w9.ownsRow (w.heap.size+2) 51 1 (.slice (some ⟨gg,0,none⟩) (m+1) cap') (m+1) (cs ++ [.slice go n gc])→(wc.alloc (.cells #[.slice go n gc] 51)).grownBy w9 (Value.slice vO m vC).ownBlock→((Value.slice vO m vC).ownBlock=some gg∨gg=(wc.alloc (.cells #[.slice go n gc] 51)).heap.size)→_):=P8
        have hb9:w.heap.size+2≤(wc.alloc (.cells #[.slice go n gc] 51)).heap.size:=by
         rw [World.size_alloc];have:=hL7.big;omega
        have hn3:(m+1) * 24≤140737488355328:=by omega
        clear P8 hL7 hK7 hva
        go_wp2_with (first | (at_builtin;refine wpList_append_lies _ rfl _ _ 50 rfl (w.heap.size+2) 51 j0 _ 1 24 Tryz.underlying50 hj0 hy0 hy1 hy2 rfl (by omega) (.slice vO m vC) m cs rfl (hrow8'.alloc _) ⟨wc.heap.size,0,none⟩ 1 1 [.slice go n gc] rfl rfl (World.news_of_block (cs:=#[.slice go n gc]) (t:=51) (fr:=(0,0)) (heap_alloc_new wc _)) (by simp [Value.oneCell']) (by omega) hn1 hn3 hb9 _ rfl ?_;intro gg' cap'' w9 hown hgrow hat hlt9;obtain ⟨p1,p2,p3⟩:=PE.out gg' cap'' w9 hown hgrow hat))
        go_roundw
        case rel=>
         refine ⟨i+1,by omega,by omega,(fun j=>if j=0 then .slice (some ⟨gg,0,none⟩) (m+1) cap' else vs j),.slice (some ⟨gg', 0,none⟩) (m+1) cap'', ?_⟩
         first | (rw [show 0+(i+1)=m+1 by omega];exact p1) | (rw [show i+1=m+1 by omega];exact p1)
        case measure=>simp [intOf];omega
    ·have hie:i=a.length:=by omega
     have q2:¬ (i:Int)<(a.length:Int):=by omega
     have hL8:LS w wr (.slice ro L.length rc) (.slice ao a.length ac) (.slice bo b.length bc) vs va (tri (T.take (if 0+1=0 then 0 else if 0+1=1 then a.length else N)) [] []) (KA L J (if 0+1=0 then 0 else if 0+1=1 then a.length else N)):=by
      have e1:(if 0+1=0 then 0 else if 0+1=1 then a.length else N)=0+i:=by have:=HT.out.2;simp;omega
      rw [e1];exact hLS
     clear hLS
     go_wp2_with fail
     go_roundw
     case rel=>first | exact ⟨0+1,vs,va,by go_num,by omega,hL8⟩ | exact ⟨0+1,by first | rfl | omega | simp,by omega,vs,va,hL8⟩
     case measure=>simp [intOf]
  ·-- the term number 1
   have LSx:LS w wr (.slice ro L.length rc) (.slice ao a.length ac) (.slice bo b.length bc) vs va (tri (T.take a.length) [] []) (KA L J a.length):=hLS
   clear hLS
   go_wp2_with fail
   go_loopw [14] (fun s14 wr=>∃ (i:Nat) (vs:Nat→Value) (va:Value),s14=.int .i64 (i:Int)∧i≤b.length∧LS w wr (.slice ro L.length rc) (.slice ao a.length ac) (.slice bo b.length bc) vs va (tri (T.take (a.length+i)) [] []) (KA L J (a.length+i))) (fun s14 _=>b.length-(intOf s14).toNat)
   case atStart=>exact ⟨0,vs,va,rfl,Nat.zero_le _,LSx⟩
   case round=>
    clear LSx
    obtain ⟨i,vs,va,rfl,hi,hLS⟩:=hrel
    obtain ⟨c1,c2,c3,c4,c5,c6,c7⟩:=hLS.cells
    by_cases hlt:i<b.length
    ·obtain ⟨m,hm⟩:∃ m,a.length+i=m:=⟨_,rfl⟩
     rw [hm] at hLS
     have hmT:m<T.length:=by have:=HT.out.2;omega
     have hTm:T[m]=b[i]:=by
      have e:=HT.out.1
      subst hm
      simp only [← e]
      rw [List.getElem_append_right (by omega)];congr 1;omega
     have hXr:=hb.same hLS.kept
     have cA:=rargs_any (cap:=bc) (h.same hLS.kept) hXr b1 b3 i hlt
     obtain ⟨ys,hys⟩:∃ ys,ofN (argsN L b i)=ys:=⟨_,rfl⟩
     have hkid:(kidsL L J m).map (fun k:Nat=>(k:Int))=ys.map (fun x=>x+(a.length:Int)):=by
      rw [← hm,← hys]
      rw [KAb.out i hlt];unfold ofN;rw [List.map_map,List.map_map];apply List.map_congr_left;intro k _;simp only [Function.comp_apply];omega
     have hyb:∀ y∈ys,0≤y∧y≤2000:=by
      intro y hy
      rw [← hys] at hy
      unfold ofN at hy
      obtain ⟨k,hk,rfl⟩:=List.mem_map.1 hy
      rw [argsN_eq hlt] at hk
      have:=starts_lt (Forest.one b3 hlt).kids.2 k hk
      omega
     rw [hys] at cA
     have z1:(0:Int)≤(i:Int):=by omega
     have z2:(i:Int)<(b.length:Int):=by omega
     have z3:(i:Int)≤2000:=by omega
     have z4:(0:Int)≤(a.length:Int):=by omega
     have HKID:Hid ((kidsL L J m).map (fun k:Nat=>(k:Int))=ys.map (fun x=>x+(a.length:Int))∧ofN (argsN L b i)=ys):=⟨hkid,hys⟩
     have HYB:Hid (∀ y∈ys,0≤y∧y≤2000):=hyb
     have HTM:Hid (T[m]=b[i]):=hTm
     clear hkid hys hyb hTm
     go_upto_region 12 with (first | (go_at_call 194;refine cA.mono ?_;rintro e w5 ⟨v5,rfl,hr5,hk5⟩))
     obtain ⟨go,gc,hv5⟩:=row_shape hr5
     subst hv5
     have hL5:=hLS.same hk5
     have hsz:=hk5.size
     obtain ⟨n,hn⟩:∃ n,ys.length=n:=⟨_,rfl⟩
     rw [hn] at hr5 ⊢
     clear cA
     obtain ⟨B5,hB5⟩:∃ B5,wr.heap.size=B5:=⟨_,rfl⟩
     have HV:Hid (w.heap.size+2≤B5∧∀ q,B5≤q→va.ownBlock≠some q∧∀ i,i<3→(vs i).ownBlock≠some q):=by
      refine ⟨by rw [← hB5];exact hLS.big,fun q hq=>⟨fun e=>?_,fun j hj e=>?_⟩⟩
      ·obtain ⟨cs,g1,_⟩:=hLS.fam.ar
       have:=(World.ownsRow.lt g1 q e).2;omega
      ·have:=(World.ownsRow.lt (hLS.fam.rows j hj) q e).2;omega
     rw [hB5] at hr5 hsz
     have HB5:Hid (wr.heap.size=B5):=hB5
     clear hB5
     go_wp2_with fail
     go_loopw [16] (fun s16 wx=>∃ k:Nat,s16=.int .i64 (k:Int)∧k≤n∧Row B5 wx (.slice go n gc) (upBy (a.length:Int) k ys)∧Same0 wr wx) (fun s16 _=>n-(intOf s16).toNat)
     case atStart=>exact ⟨0,rfl,Nat.zero_le _,by simpa [upBy] using hr5,hk5⟩
     case round=>
      clear hr5 hL5 hk5
      obtain ⟨k,rfl,hk,hr5,hk5⟩:=hrel
      by_cases hkn:k<n
      ·have hky:k<ys.length:=by omega
       obtain ⟨g5,cap5,hv5,hg1,hg2⟩:=World.ownsRow.form hr5 (by rw [upBy_len];omega)
       simp only [Value.slice.injEq] at hv5
       obtain ⟨rfl,_,rfl⟩:=hv5
       have hr5:wr.ownsRow B5 3 1 (.slice (some ⟨g5,0,none⟩) n gc) n (iv (upBy (a.length:Int) k ys)):=by
        have:=hr5
        unfold Row at this
        rw [upBy_len,hn] at this;exact this
       have hgc:=hr5.cellAt k (by omega)
       rw [show (iv (upBy (a.length:Int) k ys))[k]? = some (.int .i64 ys[k]) by unfold iv;rw [List.getElem?_map,upBy_get hky];rfl] at hgc
       have hgf:=hr5.frozenAt k
       obtain ⟨hy1', hy2'⟩:=HYB.out ys[k] (List.getElem_mem _)
       have hst:=(hr5.stored k (.int .i64 (ys[k]+(a.length:Int)))).1
       have hst2:Row B5 (wr.setCell ⟨g5,k,none⟩ (.int .i64 (ys[k]+(a.length:Int)))) (.slice (some ⟨g5,0,none⟩) n gc) (upBy (a.length:Int) (k+1) ys):=by
        have e1:(iv (upBy (a.length:Int) k ys)).set k (.int .i64 (ys[k]+(a.length:Int)))=iv (upBy (a.length:Int) (k+1) ys):=by
         unfold iv;rw [← List.map_set,upBy_set hky]
        rw [e1] at hst
        have e2:n=(upBy (a.length:Int) (k+1) ys).length:=by rw [upBy_len,hn]
        unfold Row
        rw [← e2]
        exact hst
       have hk6:Same0 _ (wr.setCell ⟨g5,k,none⟩ (.int .i64 (ys[k]+(a.length:Int)))):=Kept.setCell (p:=⟨g5,k,none⟩) hk5 (fun hq=>by have:=HB5.out;simp only at hq;omega) _
       obtain ⟨yk,hyk⟩:∃ yk,ys[k]=yk:=⟨_,rfl⟩
       rw [hyk] at hgc hy1' hy2' hst2 hk6
       have q1:(0:Int)≤(k:Int):=by omega
       have q2:(k:Int)<(n:Int):=by omega
       have q3:(k:Int)<4000:=by
        have:=HKID.out.2
        have h1:=starts_le (Forest.one b3 hlt).kids.2
        have h2:=(endN_le b3 hlt).2
        have h3:ys.length=arN L b[i]:=by rw [← this];unfold ofN;rw [List.length_map,argsN_eq hlt,starts_length]
        omega
       clear hst hyk hr5
       go_wp2_with fail
       go_roundw
       case rel=>exact ⟨k+1,by go_num,by omega,by first | exact hst2 | (rw [Int.add_zero] at hst2;exact hst2),by first | exact hk6 | (rw [Int.add_zero] at hk6;exact hk6)⟩
       case measure=>simp [intOf];omega
      ·have hke:k=n:=by omega
       have q2:¬ (k:Int)<(n:Int):=by omega
       have hr6:Row B5 wr (.slice go n gc) ((kidsL L J m).map (fun k:Nat=>(k:Int))):=by
        rw [HKID.out.1]
        have:upBy (a.length:Int) k ys=ys.map (fun x=>x+(a.length:Int)):=by
         unfold upBy;rw [hke,← hn,List.take_length,List.drop_length,List.append_nil]
        rw [← this];exact hr5
       have hL6:LS w wr (.slice ro L.length rc) (.slice ao a.length ac) (.slice bo b.length bc) vs va (tri (T.take m) [] []) (KA L J m):=hLS.same hk5
       obtain ⟨c1,c2,c3,c4,c5,c6,c7⟩:=hL6.cells
       obtain ⟨z,hz⟩:∃ z,T[m]=z:=⟨_,rfl⟩
       obtain ⟨to', tcap,hv0⟩:=row_shape (hL6.fam.rows 0 (by omega))
       have hl0:(tri (T.take m) [] [] 0).length=m:=by show (T.take m).length=m;rw [List.length_take];omega
       rw [hl0] at hv0
       have hrow0:wr.ownsRow (w.heap.size+2) 3 1 (vs 0) m (iv (T.take m)):=by
        have h0:wr.ownsRow (w.heap.size+2) 3 1 (vs 0) (tri (T.take m) [] [] 0).length (iv (T.take m)):=hL6.fam.rows 0 (by omega)
        rw [hl0] at h0;exact h0
       rw [hv0] at c1 hrow0
       have hn1:m+1≤maxLen:=by unfold maxLen;omega
       have hn2:(m+1) * 8≤140737488355328:=by omega
       have hb9:w.heap.size+2≤(wr.alloc (.cells #[.int .i64 z] 3)).drew.heap.size:=by
        show _≤(wr.alloc (.cells #[.int .i64 z] 3)).heap.size
        rw [World.size_alloc];have:=hL6.big;omega
       have PE:Hid (∀ gg cap' w9,w9.ownsRow (w.heap.size+2) 3 1 (.slice (some ⟨gg,0,none⟩) (m+1) cap') (m+1) (iv (T.take m) ++ [.int .i64 z])→(wr.alloc (.cells #[.int .i64 z] 3)).drew.grownBy w9 (Value.slice to' m tcap).ownBlock→((Value.slice to' m tcap).ownBlock=some gg∨gg=(wr.alloc (.cells #[.int .i64 z] 3)).drew.heap.size)→LS w (w9.setCell ⟨w.heap.size,1,none⟩ (.slice (some ⟨gg,0,none⟩) (m+1) cap')) (.slice ro L.length rc) (.slice ao a.length ac) (.slice bo b.length bc) (fun j=>if j=0 then .slice (some ⟨gg,0,none⟩) (m+1) cap' else vs j) va (tri (T.take (m+1)) [] []) (KA L J m)∧w9.cell? ⟨w.heap.size,1,none⟩=some (vs 0)∧w9.frozen? ⟨w.heap.size,1,none⟩=false∧Kept (fun q=>q=w.heap.size∨(vs 0).ownBlock=some q) wr (w9.setCell ⟨w.heap.size,1,none⟩ (.slice (some ⟨gg,0,none⟩) (m+1) cap'))∧∀ q,(Value.slice go n gc).ownBlock=some q→q≠gg):=by
        intro gg cap' w9 q1 q2 q3
        rw [← hv0] at q2 q3
        have kd:Same0 wr (wr.alloc (.cells #[.int .i64 z] 3)).drew:=Kept.drew (Kept.alloc (Kept.refl _ wr) _)
        obtain ⟨r1,r2,r3⟩:=hL6.push (i:=0) (s:=1) (by omega) rfl hl0 kd q1 q2 q3 kd.size (xs' := tri (T.take (m+1)) [] []) (by show T.take (m+1)=T.take m ++ [z];rw [List.take_add_one,List.getElem?_eq_getElem hmT,hz];rfl) (fun j _ e=>by unfold tri;rw [if_neg e,if_neg e])
        refine ⟨r1,r2,r3,?_,fun q e f=>?_⟩
        rotate_left
        ·subst f
         rcases q3 with g | g
         ·exact (HV.out.2 q (own_base hr6 e)).2 0 (by omega) g
         ·have h1:=(World.ownsRow.lt hr6 q e).2
          have h2:wr.heap.size+1=(wr.alloc (.cells #[.int .i64 z] 3)).drew.heap.size:=(World.size_alloc _ _).symm
          omega
        have kg:Kept (fun q=>q=w.heap.size∨(vs 0).ownBlock=some q) wr w9:=Kept.grown (Kept.mono kd (fun _ _ f=>f.elim)) q2 (fun q e _=>.inr e)
        exact Kept.setCell (p:=⟨w.heap.size,1,none⟩) kg (fun _=>.inl rfl) _
       have P7:Hid (∀ (gg cap' : Nat) (w8:World) (vs' : Nat→Value),LS w w8 (.slice ro L.length rc) (.slice ao a.length ac) (.slice bo b.length bc) vs' va (tri (T.take (m+1)) [] []) (KA L J m)→Row (w.heap.size+2) w8 (.slice go n gc) ((kidsL L J m).map (fun k:Nat=>(k:Int)))→(∀ q,(Value.slice go n gc).ownBlock=some q→va.ownBlock≠some q∧∀ i,i<3→(vs' i).ownBlock≠some q)→∃ cs vO vC,va=.slice vO m vC∧w8.ownsRow (w.heap.size+2) 51 1 (.slice vO m vC) m cs∧∀ (gg cap' : Nat) (w9:World),w9.ownsRow (w.heap.size+2) 51 1 (.slice (some ⟨gg,0,none⟩) (m+1) cap') (m+1) (cs ++ [.slice go n gc])→(w8.alloc (.cells #[.slice go n gc] 51)).grownBy w9 (Value.slice vO m vC).ownBlock→((Value.slice vO m vC).ownBlock=some gg∨gg=(w8.alloc (.cells #[.slice go n gc] 51)).heap.size)→LS w (w9.setCell ⟨w.heap.size,2,none⟩ (.slice (some ⟨gg,0,none⟩) (m+1) cap')) (.slice ro L.length rc) (.slice ao a.length ac) (.slice bo b.length bc) vs' (.slice (some ⟨gg,0,none⟩) (m+1) cap') (tri (T.take (m+1)) [] []) (KA L J (m+1))∧w9.cell? ⟨w.heap.size,2,none⟩=some va∧w9.frozen? ⟨w.heap.size,2,none⟩=false):=by
        intro _ _ w8 vs' h1 h2 h3
        obtain ⟨cs,hcs1,_⟩:=h1.fam.ar
        rw [KA_len] at hcs1
        obtain ⟨vO,vC,hva⟩:=row_shape hcs1
        refine ⟨cs,vO,vC,hva,hva ▸ hcs1,?_⟩
        intro gg cap' w9 q1 q2 q3
        rw [KA_succ]
        rw [← hva] at q2 q3
        have kd:Same0 w8 (w8.alloc (.cells #[.slice go n gc] 51)):=Kept.alloc (Kept.refl _ w8) _
        exact h1.more (KA_len _ _ _) h2 h3 hcs1 kd q1 q2 q3 kd.size
       have hrow8:Hid (∀ w8,Kept (fun q=>q=w.heap.size∨(vs 0).ownBlock=some q) wr w8→Row (w.heap.size+2) w8 (.slice go n gc) ((kidsL L J m).map (fun k:Nat=>(k:Int)))):=by
        intro w8 hk8
        refine (hk8.row (row_mono hr6 HV.out.1) (fun q e=>?_))
        have:=own_base hr6 e
        rintro (f | f)
        ·have:=HV.out.1;omega
        ·exact (HV.out.2 q this).2 0 (by omega) f
       have hX6:=hb.same hL6.kept
       obtain ⟨xb,xof,hxo,hx1,hx2⟩:=hX6.get hlt
       rw [← HTM.out,hz] at hx2
       rw [hxo] at c6
       have c1a:(wr.alloc (.cells #[.int .i64 z] 3)).drew.cell? ⟨w.heap.size,1,none⟩=some (.slice to' m tcap):=by
        have:=(hL6.same (Kept.drew (Kept.alloc (Kept.refl _ wr) (.cells #[.int .i64 z] 3)))).cells.1
        rw [this,hv0]
       have VA:Hid (∀ gg,(∀ q,(Value.slice go n gc).ownBlock=some q→q≠gg)→∀ (cap' q:Nat),(Value.slice go n gc).ownBlock=some q→va.ownBlock≠some q∧∀ i,i<3→((fun j=>if j=0 then Value.slice (some ⟨gg,0,none⟩) (m+1) cap' else vs j) i).ownBlock≠some q):=by
        intro gg hf cap' q e
        obtain ⟨x1,x2⟩:=HV.out.2 q (own_base hr6 e)
        refine ⟨x1,fun i hi=>?_⟩
        by_cases ei:i=0
        ·simp only [ei,if_true,Value.ownBlock]
         intro f
         simp only [Option.some.injEq] at f
         exact hf q e f.symm
        ·simp only [ei,if_false];exact x2 i hi
       clear hL6 hXr hX6 hLS hr5 hr6 hl0 hv0 hxo hke
       go_upto_region 16 with fail
       go_cut [] from 70 to 85 (fun wc=>∃ gg cap', LS w wc (.slice ro L.length rc) (.slice ao a.length ac) (.slice bo b.length bc) (fun j=>if j=0 then .slice (some ⟨gg,0,none⟩) (m+1) cap' else vs j) va (tri (T.take (m+1)) [] []) (KA L J m)∧Kept (fun q=>q=w.heap.size∨(vs 0).ownBlock=some q) wr wc∧∀ q,(Value.slice go n gc).ownBlock=some q→q≠gg)
       case first=>
        clear P7 VA hrow8
        go_region_law (refine step_append_lies _ (by rfl) _ _ 51 (by rfl) (w.heap.size+2) 3 i0 _ 1 8 Tryz.underlying51 hi0 hz0 hz1 hz2 rfl (by omega) (.slice to' m tcap) m (iv (T.take m)) (by rfl) ((hrow0.alloc _).drew) ⟨wr.heap.size,0,none⟩ 1 1 [.int .i64 z] (by rfl) (by rfl) (World.news_of_block (cs:=#[.int .i64 z]) (t:=3) (fr:=(0,0)) (heap_alloc_new wr _)) (by simp [Value.oneCell']) (by omega) hn1 hn2 hb9 _ rfl ?_;intro gg cap' w9 hown hgrow hat hlt9;obtain ⟨p1,p2,p3,p4,p5⟩:=PE.out gg cap' w9 hown hgrow hat)
        all_goals
         go_wp2_with fail
         go_meet
         exact ⟨gg,cap', p1,p4,p5⟩
       case rest=>
        obtain ⟨gg,cap', hL7,hK7,hf7⟩:=hcut
        obtain ⟨cs,vO,vC,hva,hrow8', P8⟩:=P7.out 0 0 wc _ hL7 (hrow8.out wc hK7) (VA.out gg hf7 cap')
        clear P7 VA hrow8 PE c1a hrow0 hb9 c1 c2 c3 c4 c5 c6 c7
        obtain ⟨c1,c2,c3,c4,c5,c6,c7⟩:=hL7.cells
        rw [hva] at c2
        have PE:Hid (∀ (gg cap' : Nat) (w9:World),w9.ownsRow (w.heap.size+2) 51 1 (.slice (some ⟨gg,0,none⟩) (m+1) cap') (m+1) (cs ++ [.slice go n gc])→(wc.alloc (.cells #[.slice go n gc] 51)).grownBy w9 (Value.slice vO m vC).ownBlock→((Value.slice vO m vC).ownBlock=some gg∨gg=(wc.alloc (.cells #[.slice go n gc] 51)).heap.size)→_):=P8
        have hb9:w.heap.size+2≤(wc.alloc (.cells #[.slice go n gc] 51)).heap.size:=by
         rw [World.size_alloc];have:=hL7.big;omega
        have hn3:(m+1) * 24≤140737488355328:=by omega
        clear P8 hL7 hK7 hva
        go_wp2_with (first | (at_builtin;refine wpList_append_lies _ rfl _ _ 50 rfl (w.heap.size+2) 51 j0 _ 1 24 Tryz.underlying50 hj0 hy0 hy1 hy2 rfl (by omega) (.slice vO m vC) m cs rfl (hrow8'.alloc _) ⟨wc.heap.size,0,none⟩ 1 1 [.slice go n gc] rfl rfl (World.news_of_block (cs:=#[.slice go n gc]) (t:=51) (fr:=(0,0)) (heap_alloc_new wc _)) (by simp [Value.oneCell']) (by omega) hn1 hn3 hb9 _ rfl ?_;intro gg' cap'' w9 hown hgrow hat hlt9;obtain ⟨p1,p2,p3⟩:=PE.out gg' cap'' w9 hown hgrow hat))
        go_roundw
        case rel=>
         refine ⟨i+1,by omega,by omega,(fun j=>if j=0 then .slice (some ⟨gg,0,none⟩) (m+1) cap' else vs j),.slice (some ⟨gg', 0,none⟩) (m+1) cap'', ?_⟩
         first | (rw [show a.length+(i+1)=m+1 by omega];exact p1) | (rw [show i+1=m+1 by omega];exact p1)
        case measure=>simp [intOf];omega
    ·have hie:i=b.length:=by omega
     have q2:¬ (i:Int)<(b.length:Int):=by omega
     have hL8:LS w wr (.slice ro L.length rc) (.slice ao a.length ac) (.slice bo b.length bc) vs va (tri (T.take (if 1+1=0 then 0 else if 1+1=1 then a.length else N)) [] []) (KA L J (if 1+1=0 then 0 else if 1+1=1 then a.length else N)):=by
      have e1:(if 1+1=0 then 0 else if 1+1=1 then a.length else N)=a.length+i:=by have:=HT.out.2;simp;omega
      rw [e1];exact hLS
     clear hLS
     go_wp2_with fail
     go_roundw
     case rel=>first | exact ⟨1+1,vs,va,by go_num,by omega,hL8⟩ | exact ⟨1+1,by first | rfl | omega | simp,by omega,vs,va,hL8⟩
     case measure=>simp [intOf]
  ·obtain ⟨c1,c2,c3,c4,c5,c6,c7⟩:=hLS.cells
   have hL9:LS w wr (.slice ro L.length rc) (.slice ao a.length ac) (.slice bo b.length bc) vs va (tri T [] []) (KA L J N):=by
    have e1:T.take N=T:=by rw [← hTl,List.take_length]
    have:=hLS
    simp only [show ¬ (2:Nat)=0 by omega,show ¬ (2:Nat)=1 by omega,if_false,e1] at this
    exact this
   clear hLS
   go_wp2_with fail
   go_loopw [17] (fun s17 wr=>∃ (i:Nat) (vs:Nat→Value),s17=.int .i64 (i:Int)∧i≤N+200∧LS w wr (.slice ro L.length rc) (.slice ao a.length ac) (.slice bo b.length bc) vs va (tri T (upsL N 0 i a.length ap T) (repL N T i)) (KA L J N)) (fun s17 _=>N+200-(intOf s17).toNat)
   case atStart=>exact ⟨0,vs,rfl,by omega,hL9⟩
   case round=>
    clear hL9 c1 c2 c3 c4 c5 c6 c7
    obtain ⟨i,vs,rfl,hi,hLS⟩:=hrel
    obtain ⟨c1,c2,c3,c4,c5,c6,c7⟩:=hLS.cells
    by_cases hlt:i<N+200
    ·have z2:(i:Int)<((N+200:Nat):Int):=by omega
     have z3:(i:Int)<(N:Int)+200:=by omega
     have z1:(0:Int)≤(i:Int):=by omega
     have hn1:i+1≤maxLen:=by unfold maxLen;omega
     have hn2:(i+1) * 8≤140737488355328:=by omega
     obtain ⟨uo,uc,hu,hrowU,hb9,PU⟩:=hLS.pe (i:=1) (s:=3) (by omega) rfl (l:=i) (z:=(i:Int)) (xs' := tri T (upsL N 0 (i+1) a.length ap T) (repL N T i)) (by show (upsL N 0 i a.length ap T).length=i;exact upsL_len _ _ _ _ _ _) (by show upsL N 0 (i+1) a.length ap T=upsL N 0 i a.length ap T ++ [(i:Int)];exact upsL_succ _ _ _ _ _) tri_one
     rw [hu] at c3
     go_upto_region 22 with (first | (at_builtin;refine wpList_append_lies _ rfl _ _ 51 rfl (w.heap.size+2) 3 i0 _ 1 8 Tryz.underlying51 hi0 hz0 hz1 hz2 rfl (by omega) (.slice uo i uc) i (iv (tri T (upsL N 0 i a.length ap T) (repL N T i) 1)) rfl (hrowU.alloc _) ⟨wr.heap.size,0,none⟩ 1 1 [.int .i64 (i:Int)] rfl rfl (World.news_of_block (cs:=#[.int .i64 (i:Int)]) (t:=3) (fr:=(0,0)) (heap_alloc_new wr _)) (by simp [Value.oneCell']) (by omega) hn1 hn2 hb9 _ rfl ?_;intro gg cap' w9 hown hgrow hat hlt9;obtain ⟨p1,p2,p3⟩:=PU.out gg cap' w9 hown hgrow hat))
     obtain ⟨w2,hw2⟩:∃ w2,w9.setCell ⟨w.heap.size,3,none⟩ (.slice (some ⟨gg,0,none⟩) (i+1) cap')=w2:=⟨_,rfl⟩
     rw [hw2] at p1 ⊢
     obtain ⟨vs2,hL2⟩:∃ vs2,LS w w2 (.slice ro L.length rc) (.slice ao a.length ac) (.slice bo b.length bc) vs2 va (tri T (upsL N 0 (i+1) a.length ap T) (repL N T i)) (KA L J N):=⟨_,p1⟩
     clear PU p1 p2 p3 hw2 hown hgrow hat hlt9 hu hrowU hb9 hLS c1 c2 c3 c4 c5 c6 c7
     obtain ⟨c1,c2,c3,c4,c5,c6,c7⟩:=hL2.cells
     by_cases hiN:i<N
     ·obtain ⟨tb,tc,ht1,ht2,ht3⟩:=hL2.fam.form (i:=0) (n:=N) (by omega) hTl (by omega)
      rw [ht1] at c1
      have tcl:w2.cell? ⟨tb,i,none⟩=some (.int .i64 (at' T (i:Nat))):=(ht2.cell hiN).1
      obtain ⟨x,hx⟩:∃ x,at' T (i:Nat)=x:=⟨_,rfl⟩
      rw [hx] at tcl
      have HX:Hid (at' T (i:Nat)=x):=hx
      clear hx ht2
      have y1:(i:Int)<(N:Int):=by omega
      by_cases hx0:0≤x
      ·have ip:¬ x<0:=by omega
       obtain ⟨to', tc', hr', hrowR,hb9', PR⟩:=hL2.pe (i:=2) (s:=4) (by omega) rfl (l:=i) (z:=(i:Int)) (xs' := tri T (upsL N 0 (i+1) a.length ap T) (repL N T (i+1))) (by show (repL N T i).length=i;exact repL_len _ _ _) (by show repL N T (i+1)=repL N T i ++ [(i:Int)];rw [repL_succ];congr 2;unfold rep0;rw [HX.out,if_pos ⟨hiN,hx0⟩]) tri_two
       rw [hr'] at c4
       
       clear hL2
       go_wp2_with (first | (at_builtin;refine wpList_append_lies _ rfl _ _ 51 rfl (w.heap.size+2) 3 i0 _ 1 8 Tryz.underlying51 hi0 hz0 hz1 hz2 rfl (by omega) (.slice to' i tc') i (iv (tri T (upsL N 0 (i+1) a.length ap T) (repL N T i) 2)) rfl (hrowR.alloc _) ⟨w2.heap.size,0,none⟩ 1 1 [.int .i64 ((i:Int))] rfl rfl (World.news_of_block (cs:=#[.int .i64 ((i:Int))]) (t:=3) (fr:=(0,0)) (heap_alloc_new w2 _)) (by simp [Value.oneCell']) (by omega) hn1 hn2 hb9' _ rfl ?_;intro gg' cap'' w9' hown' hgrow' hat' hlt9'; obtain ⟨p1', p2', p3'⟩:=PR.out gg' cap'' w9' hown' hgrow' hat'))
       go_roundw
       case rel=>first | exact ⟨i+1,by omega,by omega,_,p1'⟩ | exact ⟨i+1,_,by go_num,by omega,p1'⟩
       case measure=>simp [intOf];omega
      ·have ip:x<0:=by omega
       obtain ⟨to', tc', hr', hrowR,hb9', PR⟩:=hL2.pe (i:=2) (s:=4) (by omega) rfl (l:=i) (z:=-1) (xs' := tri T (upsL N 0 (i+1) a.length ap T) (repL N T (i+1))) (by show (repL N T i).length=i;exact repL_len _ _ _) (by show repL N T (i+1)=repL N T i ++ [-1];rw [repL_succ];congr 2;unfold rep0;rw [HX.out,if_neg (fun f=>hx0 f.2)]) tri_two
       rw [hr'] at c4
       
       clear hL2
       go_wp2_with (first | (at_builtin;refine wpList_append_lies _ rfl _ _ 51 rfl (w.heap.size+2) 3 i0 _ 1 8 Tryz.underlying51 hi0 hz0 hz1 hz2 rfl (by omega) (.slice to' i tc') i (iv (tri T (upsL N 0 (i+1) a.length ap T) (repL N T i) 2)) rfl (hrowR.alloc _) ⟨w2.heap.size,0,none⟩ 1 1 [.int .i64 (-1)] rfl rfl (World.news_of_block (cs:=#[.int .i64 (-1)]) (t:=3) (fr:=(0,0)) (heap_alloc_new w2 _)) (by simp [Value.oneCell']) (by omega) hn1 hn2 hb9' _ rfl ?_;intro gg' cap'' w9' hown' hgrow' hat' hlt9'; obtain ⟨p1', p2', p3'⟩:=PR.out gg' cap'' w9' hown' hgrow' hat'))
       go_roundw
       case rel=>first | exact ⟨i+1,by omega,by omega,_,p1'⟩ | exact ⟨i+1,_,by go_num,by omega,p1'⟩
       case measure=>simp [intOf];omega
     ·have y1:¬ (i:Int)<(N:Int):=by omega
      obtain ⟨to', tc', hr', hrowR,hb9', PR⟩:=hL2.pe (i:=2) (s:=4) (by omega) rfl (l:=i) (z:=-1) (xs' := tri T (upsL N 0 (i+1) a.length ap T) (repL N T (i+1))) (by show (repL N T i).length=i;exact repL_len _ _ _) (by show repL N T (i+1)=repL N T i ++ [-1];rw [repL_succ];congr 2;unfold rep0;rw [if_neg (fun f=>hiN f.1)]) tri_two
      rw [hr'] at c4
      
      clear hL2
      go_wp2_with (first | (at_builtin;refine wpList_append_lies _ rfl _ _ 51 rfl (w.heap.size+2) 3 i0 _ 1 8 Tryz.underlying51 hi0 hz0 hz1 hz2 rfl (by omega) (.slice to' i tc') i (iv (tri T (upsL N 0 (i+1) a.length ap T) (repL N T i) 2)) rfl (hrowR.alloc _) ⟨w2.heap.size,0,none⟩ 1 1 [.int .i64 (-1)] rfl rfl (World.news_of_block (cs:=#[.int .i64 (-1)]) (t:=3) (fr:=(0,0)) (heap_alloc_new w2 _)) (by simp [Value.oneCell']) (by omega) hn1 hn2 hb9' _ rfl ?_;intro gg' cap'' w9' hown' hgrow' hat' hlt9'; obtain ⟨p1', p2', p3'⟩:=PR.out gg' cap'' w9' hown' hgrow' hat'))
      go_roundw
      case rel=>first | exact ⟨i+1,by omega,by omega,_,p1'⟩ | exact ⟨i+1,_,by go_num,by omega,p1'⟩
      case measure=>simp [intOf];omega
    ·have hie:i=N+200:=by omega
     have z2:¬ (i:Int)<((N+200:Nat):Int):=by omega
     have z3:¬ (i:Int)<(N:Int)+200:=by omega
     have hL3:LS w wr (.slice ro L.length rc) (.slice ao a.length ac) (.slice bo b.length bc) vs va (tri T (upsL N 0 (N+200) a.length ap T) (repL N T (N+200))) (KA L J N):=by rw [← hie];exact hLS
     clear hLS hie hi
     go_wp2_with fail
     have hL4:LS w wr (.slice ro L.length rc) (.slice ao a.length ac) (.slice bo b.length bc) vs va (tri T (upsL N 0 (N+200) a.length ap T) (repL N T (N+200))) (KA L J N):=hL3
     go_loopw [18] (fun s18 wr=>∃ i:Nat,s18=.int .i64 (i:Int)∧i≤N∧LS w wr (.slice ro L.length rc) (.slice ao a.length ac) (.slice bo b.length bc) vs va (tri T (upsL N i (N+200) a.length ap T) (repL N T (N+200))) (KA L J N)) (fun s18 _=>N-(intOf s18).toNat)
     case atStart=>exact ⟨0,rfl,by omega,hL4⟩
     case round=>
      clear hL3 hL4 c1 c2 c3 c4 c5 c6 c7
      obtain ⟨i,rfl,hi,hLS⟩:=hrel
      obtain ⟨c1,c2,c3,c4,c5,c6,c7⟩:=hLS.cells
      by_cases hiN:i<N
      ·obtain ⟨tb,tc,ht1,ht2,ht3⟩:=hLS.fam.form (i:=0) (n:=N) (by omega) hTl (by omega)
       obtain ⟨ub,uc,hu1,hu2,hu3⟩:=hLS.fam.form (i:=1) (n:=N+200) (by omega) (by exact upsL_len _ _ _ _ _ _) (by omega)
       rw [ht1] at c1
       rw [hu1] at c3
       have tcl:wr.cell? ⟨tb,i,none⟩=some (.int .i64 (at' T (i:Nat))):=(ht2.cell hiN).1
       obtain ⟨ucl,ufr⟩:=hu2.cell (i:=i) (by omega)
       have hlo:=HLOW.out i hiN
       obtain ⟨x,hx⟩:∃ x,at' T (i:Nat)=x:=⟨_,rfl⟩
       rw [hx] at tcl hlo
       have HX:Hid (at' T (i:Nat)=x):=hx
       clear hx ht2 hu2
       have y1:(i:Int)<(N:Int):=by omega
       have z1:(0:Int)≤(i:Int):=by omega
       have z2:(i:Int)<((N+200:Nat):Int):=by omega
       have z3:(i:Int)<(N:Int)+200:=by omega
       by_cases hx0:x<0
       ·obtain ⟨n,hn⟩:∃ n:Nat,x = -(n:Int)-1:=⟨(-x-1).toNat,by omega⟩
        subst hn
        have hn98:n≤98:=by omega
        have hnI:(n:Int)≤98:=by omega
        by_cases hia:a.length≤i
        ·have y2:(a.length:Int)≤(i:Int):=by omega
         have hvn:up0 ap N a.length T i=varN ap N 1 (-(n:Int)-1):=by
          unfold up0;rw [HX.out,if_pos ⟨hiN,by omega⟩,if_pos hia]
         obtain ⟨V,hV⟩:∃ V,varN ap N 1 (-(n:Int)-1)=V:=⟨_,rfl⟩
         have cV:∀ y z:Int,y=1→z=(n:Int)→Calls Tryz.prog 233 #[.int .i64 (N:Int),.bool ap,.int .i64 y,.int .i64 z] wr.drew fun e w' => e=.returned (.int .i64 (V:Int))∧w' = wr.drew:=by
          intro y z ey ez
          subst ey
          subst ez
          have:=variable_any wr.drew N 1 ap n (by omega) (by omega) hn98
          rw [hV] at this;exact this
         have hL5:LS w (wr.drew.setCell ⟨ub,i,none⟩ (.int .i64 (V:Int))) (.slice ro L.length rc) (.slice ao a.length ac) (.slice bo b.length bc) vs va (tri T (upsL N (i+1) (N+200) a.length ap T) (repL N T (N+200))) (KA L J N):=by
          have hd:=hLS.same (Kept.drew (Kept.refl (fun _=>False) wr))
          refine hd.put (i:=1) (by omega) hu1 (by exact upsL_len _ _ _ _ _ _) ?_ tri_one
          show upsL N (i+1) (N+200) a.length ap T=(upsL N i (N+200) a.length ap T).set i (V:Int)
          rw [upsL_set _ _ _ _ _ _ (by omega),hvn,hV]
         clear hV hvn hLS
         go_upto_region 32 with fail
         go_region_with (go_at_call 233;refine (cV _ _ (by first | rfl | omega | simp) (wrap_back hn98)).mono ?_;rintro e w6 ⟨rfl,rfl⟩)
         all_goals
          go_wp2_with fail
          go_roundw
          case rel=>first | exact ⟨i+1,by omega,by omega,hL5⟩ | exact ⟨i+1,by go_num,by omega,hL5⟩
          case measure=>simp [intOf];omega
        ·have y2:¬ (a.length:Int)≤(i:Int):=by omega
         have hvn:up0 ap N a.length T i=varN ap N 0 (-(n:Int)-1):=by
          unfold up0;rw [HX.out,if_pos ⟨hiN,by omega⟩,if_neg hia]
         obtain ⟨V,hV⟩:∃ V,varN ap N 0 (-(n:Int)-1)=V:=⟨_,rfl⟩
         have cV:∀ y z:Int,y=0→z=(n:Int)→Calls Tryz.prog 233 #[.int .i64 (N:Int),.bool ap,.int .i64 y,.int .i64 z] wr.drew fun e w' => e=.returned (.int .i64 (V:Int))∧w' = wr.drew:=by
          intro y z ey ez
          subst ey
          subst ez
          have:=variable_any wr.drew N 0 ap n (by omega) (by omega) hn98
          rw [hV] at this;exact this
         have hL5:LS w (wr.drew.setCell ⟨ub,i,none⟩ (.int .i64 (V:Int))) (.slice ro L.length rc) (.slice ao a.length ac) (.slice bo b.length bc) vs va (tri T (upsL N (i+1) (N+200) a.length ap T) (repL N T (N+200))) (KA L J N):=by
          have hd:=hLS.same (Kept.drew (Kept.refl (fun _=>False) wr))
          refine hd.put (i:=1) (by omega) hu1 (by exact upsL_len _ _ _ _ _ _) ?_ tri_one
          show upsL N (i+1) (N+200) a.length ap T=(upsL N i (N+200) a.length ap T).set i (V:Int)
          rw [upsL_set _ _ _ _ _ _ (by omega),hvn,hV]
         clear hV hvn hLS
         go_upto_region 32 with fail
         go_region_with (go_at_call 233;refine (cV _ _ (by first | rfl | omega | simp) (wrap_back hn98)).mono ?_;rintro e w6 ⟨rfl,rfl⟩)
         all_goals
          go_wp2_with fail
          go_roundw
          case rel=>first | exact ⟨i+1,by omega,by omega,hL5⟩ | exact ⟨i+1,by go_num,by omega,hL5⟩
          case measure=>simp [intOf];omega
       ·have hL5:LS w wr (.slice ro L.length rc) (.slice ao a.length ac) (.slice bo b.length bc) vs va (tri T (upsL N (i+1) (N+200) a.length ap T) (repL N T (N+200))) (KA L J N):=by
         rw [upsL_skip _ _ _ _ _ _ (by unfold up0;rw [HX.out,if_neg (fun f=>hx0 f.2)])];exact hLS
        clear hLS
        by_cases hia:a.length≤i
        ·have y2:(a.length:Int)≤(i:Int):=by omega
         go_wp2_with fail
         go_roundw
         case rel=>first | exact ⟨i+1,by omega,by omega,hL5⟩ | exact ⟨i+1,by go_num,by omega,hL5⟩
         case measure=>simp [intOf];omega
        ·have y2:¬ (a.length:Int)≤(i:Int):=by omega
         go_wp2_with fail
         go_roundw
         case rel=>first | exact ⟨i+1,by omega,by omega,hL5⟩ | exact ⟨i+1,by go_num,by omega,hL5⟩
         case measure=>simp [intOf];omega
      ·have hie:i=N:=by omega
       have y1:¬ (i:Int)<(N:Int):=by omega
       have FIN:Hid (LMade w L ap a b (.returned (.pointer (some ⟨w.heap.size,0,none⟩))) wr):=by
        rw [HLM.out]
        obtain ⟨B,g1,g2,g3,g4,g5⟩:=hLS.net (up:=up0 ap N a.length T) (rep:=rep0 N T) hJl hTl HPOS.out (upsL_len _ _ _ _ _ _) (repL_len _ _ _) (fun k hk=>by
         rw [upsL_at _ _ _ _ _ _ _ hk,hie]
         by_cases f:k<N
         ·rw [if_pos f]
         ·rw [if_neg f];unfold up0;rw [if_neg (fun q=>f q.1)]) (fun k hk=>repL_at _ _ _ _ hk)
        exact ⟨B,by rw [g1],g2,g3,hLS.kept,g4,g5⟩
       clear hLS hie hi
       go_wp2_with fail
       go_returns
       exact FIN.out
end Go.Proofs.YtmjgnfkbnofjoaaGreatDoor
