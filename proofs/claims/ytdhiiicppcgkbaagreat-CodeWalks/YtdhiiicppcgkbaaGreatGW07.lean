import Derived.Test.YtdhiiicppcgkbaaGreatGW06
import Derived.Deep.LoopGhost
import Derived.Deep.CutRange
import Derived.BigRegion
import Derived.Test.YtdhiiicppcgkbaaGreatGW03
import Derived.Test.YtdhiiicppcgkbaaGreatGW01
import Derived.Deep.RegionHeld3
namespace Go.Proofs.YtdhiiicppcgkbaaGreat
set_option maxRecDepth 100000
set_option linter.unusedVariables false
open Go.RowKit
attribute [local go_sem ↓] Go.wp_at_zero Go.wp_at_succ
def JMade (w:World) (L:List Sym) (J:List Int) (e:Ending) (w' : World):Prop:=∃ B,e=.returned (.pointer (some ⟨B.jb,0,none⟩))∧JJ w B w' J J.length (fun x=>x) (fun i=>(endN L J i:Int)) (fun i=>ld0 J i)
theorem past_ge {L:List Sym} {t:List Int} {k p q i:Nat} (h:Forest L t k p q) (hi:i≤k):p≤past L t i p:=by
 cases i with
 | zero=>exact Nat.le_refl _
 | succ i=>
  have h1:=past_mono h (i:=0) (j:=i+1) (by omega) hi
  cases k with
  | zero=>omega
  | succ k=>
   have:=h.succ.2.1
   simp only [past] at h1
   exact Nat.le_trans (Nat.le_of_lt this) h1
set_option maxHeartbeats 8000000 in
theorem ujoin_any {b:Nat} {w:World} {L:List Sym} (h:Sg w.heap.size w b L) {xo yo:Option Addr} {xc yc:Nat} {x y:List Int} (hx:IntsAt w xo x) (hy:IntsAt w yo y) (tx:IsT L x) (ty:IsT L y) (hxl:x.length≤2000) (hyl:y.length≤2000) (hyv:∀ z∈y, -99≤z) {ap:Nat} (hap:ap≤99) :
  Calls Tryz.prog 193 #[.pointer (some ⟨b,0,none⟩),.slice xo x.length xc,.slice yo y.length yc,.int .i64 (ap:Int)] w (JMade w L (jl x y ap)):=by
 obtain ⟨i0,hi0,hz0,hz1,hz2⟩:=info_parts info_intS
 obtain ⟨n,hn⟩:∃ n,x.length+y.length=n:=⟨_,rfl⟩
 have hm0:∀ w:World,(Instr.makeSlice 64 (.int .i64 0) (.int .i64 (n:Int))).run Tryz.prog w=.ok (.slice (some ⟨w.heap.size,0,none⟩) 0 n) (w.alloc (.cells (madeCells #[.int .i64 0] n) 3)):=fun w=>by
  have:=run_make w 64 3 i0 _ Tryz.underlying64 hi0 hz0 .i64 .i64 0 (n:Int) (by omega) (by omega) (by rw [hz2];omega) (by omega)
  simpa [hz1,Value.cells] using this
 have hm1:∀ w:World,(Instr.makeSlice 22 (.int .i64 (n:Int)) (.int .i64 (n:Int))).run Tryz.prog w=.ok (.slice (some ⟨w.heap.size,0,none⟩) n n) (w.alloc (.cells (madeCells #[.int .i64 0] n) 3)):=fun w=>by
  have:=run_make w 22 3 i0 _ Tryz.underlying22 hi0 hz0 .i64 .i64 (n:Int) (n:Int) (by omega) (by omega) (by rw [hz2];omega) (by omega)
  simpa [hz1,Value.cells] using this
 have hn1:(x.length:Int)+(y.length:Int)=(n:Int):=by omega
 have hnM:n≤maxLen:=by unfold maxLen;omega
 have hxi:(x.length:Int)≤2000:=by omega
 have hyi:(y.length:Int)≤2000:=by omega
 have HX:Hid (x.length+y.length=n∧IsT L x∧IsT L y):=⟨hn,tx,ty⟩
 clear hn tx ty
 obtain ⟨Z,hz⟩:∃ Z,Tryz.zeroCells304=Z:=⟨_,rfl⟩
 have hZ:ZOk Z:=hz ▸ zok_joint
 have hzs:Z.size=203:=hZ.size
 have hzn:¬ Z = #[]:=fun e=>by rw [e] at hzs;simp at hzs
 go_enter Tryz.func193,Tryz.ntmps193
 go_upto_region 2 with fail
 go_cut [10] from 23 to 32 (fun s10 wc=>∃ B,s10=.pointer (some ⟨B.jb,0,none⟩)∧JJ w B wc [] n (fun _=>0) (fun _=>0) (fun _=>0))
 case first=>
  clear h hx hy hyv HX
  go_region
  all_goals
   go_wp2_with fail
   go_meet
   refine ⟨_,?_,jj_new hZ n w.heap.size _ _ _ _ rfl hnM (by omega) (by omega) (by omega) (by omega) (by omega) 1⟩
   rfl
 case rest=>
  obtain ⟨B,rfl,hJ⟩:=hcut
  clear hm0 hm1 hz hZ hzs hzn
  have hw:=hJ.row
  obtain ⟨c0, -, -, -,c4⟩:=hJ.head.cells
  rw [hJ.cap] at c0
  have f0:wc.frozen? ⟨B.jb,0,none⟩=false:=by obtain ⟨cs,g1, -⟩:=hJ.head;exact frozenAt g1 _
  obtain ⟨bx,ox,rfl, -⟩:=(hx.same hJ.kept).get (i:=0) (isT_pos HX.out.2.1)
  have hcx:Hid (∀ j u,(iv x)[j]? = some u→wc.cell? ((⟨bx,ox,none⟩:Addr).add j)=some u):=by
   intro j u hu
   have hj:j<x.length:=by
    have:=(List.getElem?_eq_some_iff.1 hu).1
    rwa [iv_length] at this
   obtain ⟨b', off', e1,_,e3⟩:=(hx.same hJ.kept).get (i:=j) hj
   simp only [Option.some.injEq,Addr.mk.injEq,and_true] at e1
   obtain ⟨rfl,rfl⟩:=e1
   rw [iv_get hj] at hu
   cases hu
   have hadd:(⟨bx,ox,none⟩:Addr).add j=⟨bx,ox+j,none⟩:=by unfold Addr.add;split <;> simp_all
   rw [hadd];exact e3
  have hJ1:Hid (∀ w1,w1.ownsRow w.heap.size 3 1 (.slice (some ⟨B.lb,0,none⟩) (0+x.length) n) (0+x.length) ([]++iv x)→wc.grownBy w1 (some B.lb)→JJ w B (w1.setCell ⟨B.jb,0,none⟩ (.slice (some ⟨B.lb,0,none⟩) x.length n)) x n (fun _=>0) (fun _=>0) (fun _=>0)∧w1.cell? ⟨B.jb,0,none⟩=some (.slice (some ⟨B.lb,0,none⟩) 0 n)∧w1.frozen? ⟨B.jb,0,none⟩=false):=by
   intro w1 h1 h2
   have kg:Kept (fun k=>k=B.lb) wc w1:=Kept.grown (Kept.refl _ wc) h2 (fun k e _=>by simpa using e.symm)
   have:=hJ.grow (ys:=x) kg (by simpa using h1)
   have hh:=hJ.head.kept kg hJ.ap.a1
   have h0:=hh.cells.1
   rw [hJ.cap] at h0
   refine ⟨by simpa using this,h0,?_⟩
   obtain ⟨cs,g1, -⟩:=hh;exact frozenAt g1 _
  have hfit:0+x.length≤n:=by have:=HX.out.1;omega
  clear hJ
  go_upto_region 4 with (first | (at_builtin;refine wpList_append_fits _ rfl _ _ 64 rfl w.heap.size 3 i0 1 Tryz.underlying64 hi0 hz1 B.lb 0 n [] rfl hw ⟨bx,ox,none⟩ x.length xc (iv x) rfl (by rw [iv_length];omega) hcx.out (fun u hu=>by simp [iv] at hu;obtain ⟨z,_,rfl⟩:=hu;rfl) hfit ?_;intro w1 hown hgrow;obtain ⟨hJ2,k0,k1⟩:=hJ1.out w1 hown hgrow))
  obtain ⟨w2,hw2⟩:∃ w2,w1.setCell ⟨B.jb,0,none⟩ (.slice (some ⟨B.lb,0,none⟩) x.length n)=w2:=⟨_,rfl⟩
  rw [hw2] at hJ2 ⊢
  clear hw2 hJ1 hcx hown hgrow k0 k1 c0 f0 c4 hw hfit hx
  go_wp2_with fail
  go_loopw [44] (fun s44 wr=>∃ k:Nat,s44=.int .i64 (k:Int)∧k≤y.length∧JJ w B wr (x++(y.take k).map (shF ap)) n (fun _=>0) (fun _=>0) (fun _=>0)) (fun s44 _=>y.length-(intOf s44).toNat)
  case atStart=>exact ⟨0,rfl,by omega,by simpa using hJ2⟩
  case round=>
   clear hJ2
   obtain ⟨k,rfl,hk,hJ2⟩:=hrel
   by_cases hkl:k<y.length
   ·obtain ⟨b', off', rfl,hb1,hb2⟩:=(hy.same hJ2.kept).get (i:=k) hkl
    have k1:(0:Int)≤(k:Int):=by omega
    have k2:(k:Int)<(y.length:Int):=by omega
    obtain ⟨z,hz⟩:∃ z,y[k]=z:=⟨_,rfl⟩
    have hzv : -99≤z:=by rw [← hz];exact hyv _ (List.getElem_mem _)
    rw [hz] at hb2
    have hapi:(ap:Int)≤99:=by omega
    have hap0:(0:Int)≤(ap:Int):=by omega
    have htk:(y.take (k+1)).map (shF ap)=(y.take k).map (shF ap) ++ [shF ap z]:=by
     rw [List.take_add_one,List.getElem?_eq_getElem hkl,hz];simp
    have hJ3:Hid (∀ w3,w3.ownsRow w.heap.size 3 1 (.slice (some ⟨B.lb,0,none⟩) ((x++(y.take k).map (shF ap)).length+1) n) ((x++(y.take k).map (shF ap)).length+1) (iv (x++(y.take k).map (shF ap)) ++ [.int .i64 (shF ap z)])→(wr.alloc (.cells #[.int .i64 (shF ap z)] 3)).grownBy w3 (some B.lb)→JJ w B (w3.setCell ⟨B.jb,0,none⟩ (.slice (some ⟨B.lb,0,none⟩) ((x++(y.take k).map (shF ap)).length+1) n)) (x++(y.take (k+1)).map (shF ap)) n (fun _=>0) (fun _=>0) (fun _=>0)∧w3.cell? ⟨B.jb,0,none⟩=some (.slice (some ⟨B.lb,0,none⟩) (x++(y.take k).map (shF ap)).length n)∧w3.frozen? ⟨B.jb,0,none⟩=false):=by
     intro w3 h1 h2
     have kg:Kept (fun k=>k=B.lb) wr w3:=Kept.grown (Kept.alloc (Kept.refl _ wr) _) h2 (fun k e _=>by simpa using e.symm)
     have hh:=hJ2.head.kept kg hJ2.ap.a1
     have h0:=hh.cells.1
     rw [hJ2.cap] at h0
     have e1:x++(y.take (k+1)).map (shF ap)=(x++(y.take k).map (shF ap)) ++ [shF ap z]:=by rw [htk,List.append_assoc]
     have e2:(x++(y.take (k+1)).map (shF ap)).length=(x++(y.take k).map (shF ap)).length+1:=by rw [e1,List.length_append];rfl
     have:=hJ2.grow (ys:=[shF ap z]) kg (by rw [← e1,e2,e1,iv_append];exact h1)
     rw [← e1,e2] at this
     refine ⟨this,h0,?_⟩
     obtain ⟨cs,g1, -⟩:=hh;exact frozenAt g1 _
    have hw:=hJ2.row
    obtain ⟨c0, -, -, -,c4⟩:=hJ2.head.cells
    rw [hJ2.cap] at c0
    have f0:wr.frozen? ⟨B.jb,0,none⟩=false:=by obtain ⟨cs,g1, -⟩:=hJ2.head;exact frozenAt g1 _
    obtain ⟨l,hl⟩:∃ l,(x++(y.take k).map (shF ap)).length=l:=⟨_,rfl⟩
    have hl2:l=x.length+k:=by rw [← hl];simp;omega
    have hfit:l+1≤n:=by have:=HX.out.1;omega
    have hli:(l:Int)<5000:=by omega
    rw [hl] at c0 hw hJ3
    clear hJ2 hz htk hyv hl hl2
    by_cases hzn:z<0
    ·have hs:shF ap z=z-(ap:Int):=by unfold shF;rw [if_pos hzn]
     rw [hs] at hJ3
     go_wp2_with (first | (at_builtin;refine wpList_append_fits _ rfl _ _ 64 rfl w.heap.size 3 i0 1 Tryz.underlying64 hi0 hz1 B.lb l n (iv (x++(y.take k).map (shF ap))) rfl (hw.alloc _) ⟨wr.heap.size,0,none⟩ 1 1 [.int .i64 (z-(ap:Int))] rfl rfl (World.news_of_block (cs:=#[.int .i64 (z-(ap:Int))]) (t:=3) (fr:=(0,0)) (heap_alloc_new wr _)) (by simp [Value.oneCell']) hfit ?_;intro w3 hown hgrow;obtain ⟨hJ4,q0,q1⟩:=hJ3.out w3 hown hgrow))
     go_roundw
     case rel=>exact ⟨k+1,by go_num,by omega,hJ4⟩
     case measure=>simp [intOf];omega
    ·have hs:shF ap z=z:=by unfold shF;rw [if_neg hzn]
     rw [hs] at hJ3
     go_wp2_with (first | (at_builtin;refine wpList_append_fits _ rfl _ _ 64 rfl w.heap.size 3 i0 1 Tryz.underlying64 hi0 hz1 B.lb l n (iv (x++(y.take k).map (shF ap))) rfl (hw.alloc _) ⟨wr.heap.size,0,none⟩ 1 1 [.int .i64 z] rfl rfl (World.news_of_block (cs:=#[.int .i64 z]) (t:=3) (fr:=(0,0)) (heap_alloc_new wr _)) (by simp [Value.oneCell']) hfit ?_;intro w3 hown hgrow;obtain ⟨hJ4,q0,q1⟩:=hJ3.out w3 hown hgrow))
     go_roundw
     case rel=>exact ⟨k+1,by go_num,by omega,hJ4⟩
     case measure=>simp [intOf];omega
   ·obtain rfl:k=y.length:=by omega
    have k2:¬ (y.length:Int)<(y.length:Int):=by omega
    rw [List.take_length] at hJ2
    clear hyv hkl
    go_wp2_with fail
    go_loopw [64] (fun s64 wr=>∃ k:Nat,s64=.int .i64 (k:Int)∧k≤199∧JJ w B wr (x++y.map (shF ap)) n (fun z=>if -(k:Int)<z then z else 0) (fun _=>0) (fun _=>0)) (fun s64 _=>199-(intOf s64).toNat)
    case atStart=>exact ⟨0,rfl,by omega,hJ2.congr (fun v h1 h2=>by rw [if_neg (by omega)]) (fun _ _=>rfl) (fun _ _=>rfl)⟩
    case round=>
     clear hJ2
     obtain ⟨k,rfl,hk,hJ2⟩:=hrel
     by_cases hkl:k<199
     ·have k1:(0:Int)≤(k:Int):=by omega
      have k2:(k:Int)<199:=by omega
      have hJ3:=hJ2.stand hkl (-(k:Int))
      have hJ4:JJ w B (wr.setCell ⟨B.jb,2+k,none⟩ (.int .i64 (-(k:Int)))) (x++y.map (shF ap)) n (fun z=>if -((k+1:Nat):Int)<z then z else 0) (fun _=>0) (fun _=>0):=by
       refine hJ3.congr (fun v h1 h2=>?_) (fun _ _=>rfl) (fun _ _=>rfl)
       by_cases e:v=k
       ·subst e;rw [if_pos rfl,if_pos (by omega)]
       ·rw [if_neg (by omega)]
        by_cases e2:v<k
        ·rw [if_pos (by omega),if_pos (by omega)]
        ·rw [if_neg (by omega),if_neg (by omega)]
      obtain ⟨q1,q2⟩:(∃ u,wr.cell? ⟨B.jb,2+k,none⟩=some u)∧wr.frozen? ⟨B.jb,2+k,none⟩=false:=by
       obtain ⟨cs,g1,g2, -⟩:=hJ2.head
       exact ⟨⟨cs[2+k]'(by omega),by rw [cellAt g1];exact Array.getElem?_eq_getElem _⟩,frozenAt g1 _⟩
      obtain ⟨u,q1⟩:=q1
      have c4:=hJ2.head.cells.2.2.2.2
      clear hJ2 hJ3
      go_wp2_with fail
      go_roundw
      case rel=>exact ⟨k+1,by go_num,by omega,hJ4⟩
      case measure=>simp [intOf];omega
     ·obtain rfl:k=199:=by omega
      clear hkl hk
      have hJ5:JJ w B wr (x++y.map (shF ap)) n (fun z=>z) (fun _=>0) (fun _=>0):=hJ2.congr (fun v h1 h2=>by rw [if_pos (by omega)]) (fun _ _=>rfl) (fun _ _=>rfl)
      clear hJ2
      obtain ⟨J,hJJ⟩:∃ J,jl x y ap=J:=⟨_,rfl⟩
      have hlen:J.length=n:=by rw [← hJJ];simp [jl];exact HX.out.1
      have hTr:Hid (Trs L J):=by rw [← hJJ];exact trs_jl (by omega) HX.out.2.1 HX.out.2.2
      have hJ6:JJ w B wr J n (fun z=>z) (fun _=>0) (fun _=>0):=by rw [← hJJ];exact hJ5
      have HJ:Hid (jl x y ap=J):=hJJ
      have hni:(n:Int)≤4000:=by omega
      clear hJ5 hJJ HX hy hn1
      go_wp2_with fail
      go_loopw [14] (fun s14 wr=>∃ m:Nat,s14=.int .i64 ((m:Int)-1)∧m≤n∧JJ w B wr J n (fun z=>z) (fun i=>if m≤i then (endN L J i:Int) else 0) (fun i=>if m≤i then ld0 J i else 0)) (fun s14 _=>(intOf s14+1).toNat)
      case atStart=>exact ⟨n,rfl,by omega,hJ6.congr (fun _ _ _=>rfl) (fun i hi=>by rw [if_neg (by omega)]) (fun i hi=>by rw [if_neg (by omega)])⟩
      case round=>
       clear hJ6
       obtain ⟨m,rfl,hm,hJ6⟩:=hrel
       cases m with
       | zero=>
        have fin:JMade w L (jl x y ap) (.returned (.pointer (some ⟨B.jb,0,none⟩))) wr:=by
         rw [HJ.out]
         refine ⟨B,rfl,?_⟩
         rw [hlen]
         exact hJ6.congr (fun _ _ _=>rfl) (fun i hi=>by rw [if_pos (by omega)]) (fun i hi=>by rw [if_pos (by omega)])
        clear hJ6
        go_wp2_with fail
        go_returns
        exact fin
       | succ t=>
        have htl:t<n:=by omega
        have htJ:t<J.length:=by omega
        obtain ⟨z,hz⟩:∃ z,J[t]=z:=⟨_,rfl⟩
        have ez:(((t+1:Nat):Int)-1)=(t:Int):=by omega
        rw [ez]
        have k1:(0:Int)≤(t:Int):=by omega
        have k2:(t:Int)<(n:Int):=by omega
        have k3:(t:Int)<4000:=by omega
        obtain ⟨c0,c1,c2,c3,c4⟩:=hJ6.head.cells
        rw [hJ6.cap] at c0
        obtain ⟨s0,s1⟩:=hJ6.same.cell htl
        have hJ7:=hJ6.setSame t (t:Int)
        clear hJ6 ez
        go_upto_region 20 with fail
        obtain ⟨w3,hw3⟩:∃ w3,wr.setCell ⟨B.sb,t,none⟩ (.int .i64 (t:Int))=w3:=⟨_,rfl⟩
        rw [hw3] at hJ7 ⊢
        clear hw3 c0 c1 c2 c3 c4 s0 s1
        obtain ⟨c0,c1,c2,c3,c4⟩:=hJ7.head.cells
        rw [hJ7.cap] at c0
        have dl:w3.cell? ⟨B.lb,t,none⟩=some (.int .i64 z):=by
         rw [hJ7.row.cellAt t (by rw [hlen];omega),iv_get (by omega),← hz]
        obtain ⟨s0,s1⟩:=hJ7.same.cell htl
        by_cases hzn:z<0
        ·have hJ8:=hJ7.setSame t z
         clear hJ7
         go_upto_region 23 with fail
         obtain ⟨w4,hw4⟩:∃ w4,w3.setCell ⟨B.sb,t,none⟩ (.int .i64 z)=w4:=⟨_,rfl⟩
         rw [hw4] at hJ8 ⊢
         have hJ7:JJ w B w4 J n (fun z=>z) (fun i=>if t+1≤i then (endN L J i:Int) else 0) (fun i=>if t≤i then ld0 J i else 0):=by
          refine hJ8.congr (fun _ _ _=>rfl) (fun _ _=>rfl) (fun i hi=>?_)
          by_cases e:i=t
          ·subst e
           rw [if_pos rfl,if_pos (Nat.le_refl _)]
           unfold ld0
           rw [at'_nat J i htJ,hz,if_pos ⟨by omega,hzn⟩]
          ·rw [if_neg e,if_neg e]
           by_cases e2:t+1≤i
           ·rw [if_pos e2,if_pos (by omega)]
           ·rw [if_neg e2,if_neg (by omega)]
         clear hJ8 hw4 c0 c1 c2 c3 c4 s0 s1 dl
         have ce0:=hJ7.head.cells
         obtain ⟨d0,d1,d2,d3,d4⟩:=ce0
         rw [hJ7.cap] at d0
         have dl:w4.cell? ⟨B.lb,t,none⟩=some (.int .i64 z):=by
          rw [hJ7.row.cellAt t (by rw [hlen];omega),iv_get (by omega),← hz]
         have cA:=at_ar (h.same hJ7.kept) z
         obtain ⟨A,hA⟩:∃ A,arN L z=A:=⟨_,rfl⟩
         rw [hA] at cA
         have hA6:A≤6:=by rw [← hA];exact arN_le h.2 z
         have HF:Hid (Forest L J A (t+1) (endN L J t)):=by
          have:=hTr.out.kids (show t<J.length by omega)
          rw [hz,hA] at this;exact this
         go_upto_region 24 with (first | (go_at_call 105;refine cA.mono ?_;rintro e w5 ⟨s,d,c,rfl,hk5⟩))
         have hJ8:=hJ7.same0 hk5
         have hx16:=heap_alloc_new w5 (.cells #[.string s,.int .i64 (A:Int),.bool d] 82)
         have hJ9:=hJ8.same0 ((Kept.refl _ w5).alloc (.cells #[.string s,.int .i64 (A:Int),.bool d] 82))
         obtain ⟨w6,hw6⟩:∃ w6,w5.alloc (.cells #[.string s,.int .i64 (A:Int),.bool d] 82)=w6:=⟨_,rfl⟩
         rw [hw6] at hJ9 hx16 ⊢
         have hbe:B.eb<w5.heap.size:=hJ8.ends.lt
         obtain ⟨xb,hxb⟩:∃ xb,w5.heap.size=xb:=⟨_,rfl⟩
         rw [hxb] at hx16 hbe ⊢
         clear hw6 hxb hJ8 hJ7 hk5 d0 d1 d2 d3 d4 dl
         obtain ⟨d0,d1,d2,d3,d4⟩:=hJ9.head.cells
         obtain ⟨s0,s1⟩:=hJ9.ends.cell htl
         have hJ10:=hJ9.setEnd t ((t:Int)+1)
         have hx17:(w6.setCell ⟨B.eb,t,none⟩ (.int .i64 ((t:Int)+1))).heap[xb]? = some (.cells #[.string s,.int .i64 (A:Int),.bool d] 82 (0,0)):=by
          rw [Below.heap_setCell _ _ _ _ (by simp only;omega)];exact hx16
         clear hJ9 hx16
         go_upto_region 25 with fail
         obtain ⟨w7,hw7⟩:∃ w7,w6.setCell ⟨B.eb,t,none⟩ (.int .i64 ((t:Int)+1))=w7:=⟨_,rfl⟩
         rw [hw7] at hJ10 hx17 ⊢
         have hx18:=cellAt hx17 1
         simp only [List.getElem?_toArray,List.getElem?_cons_succ,List.getElem?_cons_zero] at hx18
         clear hw7 d0 d1 d2 d3 d4 s0 s1 hx17
         have hAi:(A:Int)≤6:=by omega
         go_wp2_with fail
         go_loopw [126] (fun s126 wr=>∃ j:Nat,s126=.int .i64 (j:Int)∧j≤A∧JJ w B wr J n (fun z=>z) (fun i=>if i=t then (past L J j (t+1):Int) else if t+1≤i then (endN L J i:Int) else 0) (fun i=>if t≤i then ld0 J i else 0)) (fun s126 _=>A-(intOf s126).toNat)
         case atStart=>exact ⟨0,rfl,by omega,hJ10.congr (fun _ _ _=>rfl) (fun i hi=>by simp [past]) (fun _ _=>rfl)⟩
         case round=>
          clear hJ10
          obtain ⟨j,rfl,hj,hJ10⟩:=hrel
          by_cases hjA:j<A
          ·have j1:(0:Int)≤(j:Int):=by omega
           have j2:(j:Int)<(A:Int):=by omega
           obtain ⟨q,hq⟩:∃ q,past L J j (t+1)=q:=⟨_,rfl⟩
           have hq1:t+1≤q:=by rw [← hq];exact past_ge HF.out hj
           have hq2:q<n:=by
            have hd:=HF.out.drop hj
            obtain ⟨c,hc⟩:∃ c,A-j=c+1:=⟨A-j-1,by omega⟩
            rw [hc,hq] at hd
            have:=hd.pos;have:=hd.le;omega
           have hps:past L J (j+1) (t+1)=endN L J q:=by rw [past_succ,hq]
           have e1:=(hJ10.ends.cell htl)
           have e2:=(hJ10.ends.cell hq2).1
           rw [if_pos rfl,hq] at e1
           rw [if_neg (by omega),if_pos hq1] at e2
           obtain ⟨e1,e3⟩:=e1
           have hJ11:=hJ10.setEnd t (endN L J q:Int)
           have hJ12:JJ w B (wr.setCell ⟨B.eb,t,none⟩ (.int .i64 (endN L J q:Int))) J n (fun z=>z) (fun i=>if i=t then (past L J (j+1) (t+1):Int) else if t+1≤i then (endN L J i:Int) else 0) (fun i=>if t≤i then ld0 J i else 0):=by
            refine hJ11.congr (fun _ _ _=>rfl) (fun i hi=>?_) (fun _ _=>rfl)
            by_cases e:i=t
            ·subst e;rw [if_pos rfl,if_pos rfl,hps]
            ·rw [if_neg e,if_neg e,if_neg e]
           have hJ13:Hid (JJ w B (wr.setCell ⟨B.eb,t,none⟩ (.int .i64 (endN L J q:Int))).drew J n (fun z=>z) (fun i=>if i=t then (past L J (j+1) (t+1):Int) else if t+1≤i then (endN L J i:Int) else 0) (fun i=>if t≤i then ld0 J i else 0)):=hJ12.same0 ((Kept.refl _ _).drew)
           obtain ⟨d0,d1,d2,d3,d4⟩:=hJ10.head.cells
           have q1:(0:Int)≤(q:Int):=by omega
           have q2:(q:Int)<(n:Int):=by omega
           clear hJ10 hJ11 hJ12 hq hps
           go_upto_region 27 with fail
           go_region
           all_goals
            go_wp2_with fail
            go_roundw
            case rel=>exact ⟨j+1,by go_num,by omega,hJ13.out⟩
            case measure=>simp [intOf];omega
          ·obtain rfl:j=A:=by omega
           have hfin:JJ w B wr J n (fun z=>z) (fun i=>if t≤i then (endN L J i:Int) else 0) (fun i=>if t≤i then ld0 J i else 0):=by
            refine hJ10.congr (fun _ _ _=>rfl) (fun i hi=>?_) (fun _ _=>rfl)
            by_cases e:i=t
            ·subst e;rw [if_pos rfl,if_pos (Nat.le_refl _),HF.out.past]
            ·rw [if_neg e]
             by_cases e2:t+1≤i
             ·rw [if_pos e2,if_pos (by omega)]
             ·rw [if_neg e2,if_neg (by omega)]
           clear hJ10
           go_wp2_with fail
           go_roundw
           case rel=>exact ⟨t,by go_num,by omega,hfin⟩
           case measure=>simp [intOf]
        ·have hJ8:JJ w B w3 J n (fun z=>z) (fun i=>if t+1≤i then (endN L J i:Int) else 0) (fun i=>if t≤i then ld0 J i else 0):=by
          refine hJ7.congr (fun _ _ _=>rfl) (fun _ _=>rfl) (fun i hi=>?_)
          by_cases e:i=t
          ·subst e
           rw [if_pos rfl,if_pos (Nat.le_refl _)]
           unfold ld0
           rw [at'_nat J i htJ,hz,if_neg (by omega)]
          ·rw [if_neg e]
           by_cases e2:t+1≤i
           ·rw [if_pos e2,if_pos (by omega)]
           ·rw [if_neg e2,if_neg (by omega)]
         clear hJ7
         go_upto_region 23 with fail
         obtain ⟨w4,hw4⟩:∃ w4,w4=w3:=⟨_,rfl⟩
         have hJ7:=hJ8
         rw [← hw4] at hJ7 ⊢
         clear hJ8 c0 c1 c2 c3 c4 s0 s1 dl hw4
         have ce0:=hJ7.head.cells
         obtain ⟨d0,d1,d2,d3,d4⟩:=ce0
         rw [hJ7.cap] at d0
         have dl:w4.cell? ⟨B.lb,t,none⟩=some (.int .i64 z):=by
          rw [hJ7.row.cellAt t (by rw [hlen];omega),iv_get (by omega),← hz]
         have cA:=at_ar (h.same hJ7.kept) z
         obtain ⟨A,hA⟩:∃ A,arN L z=A:=⟨_,rfl⟩
         rw [hA] at cA
         have hA6:A≤6:=by rw [← hA];exact arN_le h.2 z
         have HF:Hid (Forest L J A (t+1) (endN L J t)):=by
          have:=hTr.out.kids (show t<J.length by omega)
          rw [hz,hA] at this;exact this
         go_upto_region 24 with (first | (go_at_call 105;refine cA.mono ?_;rintro e w5 ⟨s,d,c,rfl,hk5⟩))
         have hJ8:=hJ7.same0 hk5
         have hx16:=heap_alloc_new w5 (.cells #[.string s,.int .i64 (A:Int),.bool d] 82)
         have hJ9:=hJ8.same0 ((Kept.refl _ w5).alloc (.cells #[.string s,.int .i64 (A:Int),.bool d] 82))
         obtain ⟨w6,hw6⟩:∃ w6,w5.alloc (.cells #[.string s,.int .i64 (A:Int),.bool d] 82)=w6:=⟨_,rfl⟩
         rw [hw6] at hJ9 hx16 ⊢
         have hbe:B.eb<w5.heap.size:=hJ8.ends.lt
         obtain ⟨xb,hxb⟩:∃ xb,w5.heap.size=xb:=⟨_,rfl⟩
         rw [hxb] at hx16 hbe ⊢
         clear hw6 hxb hJ8 hJ7 hk5 d0 d1 d2 d3 d4 dl
         obtain ⟨d0,d1,d2,d3,d4⟩:=hJ9.head.cells
         obtain ⟨s0,s1⟩:=hJ9.ends.cell htl
         have hJ10:=hJ9.setEnd t ((t:Int)+1)
         have hx17:(w6.setCell ⟨B.eb,t,none⟩ (.int .i64 ((t:Int)+1))).heap[xb]? = some (.cells #[.string s,.int .i64 (A:Int),.bool d] 82 (0,0)):=by
          rw [Below.heap_setCell _ _ _ _ (by simp only;omega)];exact hx16
         clear hJ9 hx16
         go_upto_region 25 with fail
         obtain ⟨w7,hw7⟩:∃ w7,w6.setCell ⟨B.eb,t,none⟩ (.int .i64 ((t:Int)+1))=w7:=⟨_,rfl⟩
         rw [hw7] at hJ10 hx17 ⊢
         have hx18:=cellAt hx17 1
         simp only [List.getElem?_toArray,List.getElem?_cons_succ,List.getElem?_cons_zero] at hx18
         clear hw7 d0 d1 d2 d3 d4 s0 s1 hx17
         have hAi:(A:Int)≤6:=by omega
         go_wp2_with fail
         go_loopw [126] (fun s126 wr=>∃ j:Nat,s126=.int .i64 (j:Int)∧j≤A∧JJ w B wr J n (fun z=>z) (fun i=>if i=t then (past L J j (t+1):Int) else if t+1≤i then (endN L J i:Int) else 0) (fun i=>if t≤i then ld0 J i else 0)) (fun s126 _=>A-(intOf s126).toNat)
         case atStart=>exact ⟨0,rfl,by omega,hJ10.congr (fun _ _ _=>rfl) (fun i hi=>by simp [past]) (fun _ _=>rfl)⟩
         case round=>
          clear hJ10
          obtain ⟨j,rfl,hj,hJ10⟩:=hrel
          by_cases hjA:j<A
          ·have j1:(0:Int)≤(j:Int):=by omega
           have j2:(j:Int)<(A:Int):=by omega
           obtain ⟨q,hq⟩:∃ q,past L J j (t+1)=q:=⟨_,rfl⟩
           have hq1:t+1≤q:=by rw [← hq];exact past_ge HF.out hj
           have hq2:q<n:=by
            have hd:=HF.out.drop hj
            obtain ⟨c,hc⟩:∃ c,A-j=c+1:=⟨A-j-1,by omega⟩
            rw [hc,hq] at hd
            have:=hd.pos;have:=hd.le;omega
           have hps:past L J (j+1) (t+1)=endN L J q:=by rw [past_succ,hq]
           have e1:=(hJ10.ends.cell htl)
           have e2:=(hJ10.ends.cell hq2).1
           rw [if_pos rfl,hq] at e1
           rw [if_neg (by omega),if_pos hq1] at e2
           obtain ⟨e1,e3⟩:=e1
           have hJ11:=hJ10.setEnd t (endN L J q:Int)
           have hJ12:JJ w B (wr.setCell ⟨B.eb,t,none⟩ (.int .i64 (endN L J q:Int))) J n (fun z=>z) (fun i=>if i=t then (past L J (j+1) (t+1):Int) else if t+1≤i then (endN L J i:Int) else 0) (fun i=>if t≤i then ld0 J i else 0):=by
            refine hJ11.congr (fun _ _ _=>rfl) (fun i hi=>?_) (fun _ _=>rfl)
            by_cases e:i=t
            ·subst e;rw [if_pos rfl,if_pos rfl,hps]
            ·rw [if_neg e,if_neg e,if_neg e]
           have hJ13:Hid (JJ w B (wr.setCell ⟨B.eb,t,none⟩ (.int .i64 (endN L J q:Int))).drew J n (fun z=>z) (fun i=>if i=t then (past L J (j+1) (t+1):Int) else if t+1≤i then (endN L J i:Int) else 0) (fun i=>if t≤i then ld0 J i else 0)):=hJ12.same0 ((Kept.refl _ _).drew)
           obtain ⟨d0,d1,d2,d3,d4⟩:=hJ10.head.cells
           have q1:(0:Int)≤(q:Int):=by omega
           have q2:(q:Int)<(n:Int):=by omega
           clear hJ10 hJ11 hJ12 hq hps
           go_upto_region 27 with fail
           go_region
           all_goals
            go_wp2_with fail
            go_roundw
            case rel=>exact ⟨j+1,by go_num,by omega,hJ13.out⟩
            case measure=>simp [intOf];omega
          ·obtain rfl:j=A:=by omega
           have hfin:JJ w B wr J n (fun z=>z) (fun i=>if t≤i then (endN L J i:Int) else 0) (fun i=>if t≤i then ld0 J i else 0):=by
            refine hJ10.congr (fun _ _ _=>rfl) (fun i hi=>?_) (fun _ _=>rfl)
            by_cases e:i=t
            ·subst e;rw [if_pos rfl,if_pos (Nat.le_refl _),HF.out.past]
            ·rw [if_neg e]
             by_cases e2:t+1≤i
             ·rw [if_pos e2,if_pos (by omega)]
             ·rw [if_neg e2,if_neg (by omega)]
           clear hJ10
           go_wp2_with fail
           go_roundw
           case rel=>exact ⟨t,by go_num,by omega,hfin⟩
           case measure=>simp [intOf]
def JB.Way (B:JB) (k:Nat):Prop:=k=B.jb∨k=B.sb
theorem JB.way (B:JB) (x:Int):B.Way (nxB B x):=by
 unfold nxB;split
 ·exact .inl rfl
 ·exact .inr rfl
set_option maxHeartbeats 2000000 in
theorem leader_any {L:List Sym} {w:World} {B:JB} {J:List Int} {ld:Int→Int} {sz:Nat→Int} (h:JAt L B w J ld sz) {x:Int} (hx:UPart J x) :
  Calls Tryz.prog 196 #[.pointer (some ⟨B.jb,0,none⟩),.int .i64 x] w fun e w' => e=.returned (.int .i64 (ld x))∧JAt L B w' J ld sz∧Kept B.Way w w' := by
 obtain ⟨nx,ρ,hC,hL⟩:=h
 go_enter Tryz.func196,Tryz.ntmps196
 go_wp2_with fail
 go_loopw [1] (fun tp wr=>∃ y ny,tp=.int .i64 y∧UPart J y∧ld y=ld x∧JC L B wr J ny sz∧Led J ny ld ρ∧Kept B.Way w wr) (fun tp _=>ρ (intOf tp))
 case atStart=>exact ⟨x,nx,rfl,hx,rfl,hC,hL,Kept.refl _ _⟩
 case round=>
  obtain ⟨y,ny,rfl,hy,hyx,hC', hL', hK⟩:=hrel
  have c1:=unext_any hC' hy
  have py:=hL'.part y hy
  have c2:=unext_any hC' py
  obtain ⟨a1,a2⟩:=hC'.next hy
  obtain ⟨b1,b2⟩:=hC'.next py
  have hlt:=hy.1
  have hpt:=hC'.put hy (ny (ny y))
  by_cases hn:ny y=y
  ·have e1:ld x=y:=by rw [← hyx];exact (hL'.stop y hy).1 hn
   have fin:JAt L B wr J ld sz:=⟨ny,ρ,hC', hL'⟩
   rw [hn] at a1
   clear hC hL hC' hL' hpt c2 b1 b2
   go_wp2_with (go_at_call 197;refine c1.mono ?_;rintro e w' ⟨rfl,rfl⟩)
   go_returns
   exact ⟨by rw [e1];rfl,fin,hK⟩
  ·obtain ⟨hL2,hd⟩:=hL'.halve hy hn
   obtain ⟨hC2,hK2⟩:=hpt
   have hK3:Kept B.Way w (wr.setCell (nxA B y) (.int .i64 (ny (ny y)))):=hK.trans hK2 (fun i _ e=>by rw [e];exact B.way y)
   have pz:=hL'.part _ py
   have lz:ld (ny (ny y))=ld x:=by rw [hL'.lead _ py,hL'.lead _ hy,hyx]
   have n3:=hC2.next hy
   clear hC hL hC' hL'
   go_upto_region 4 with (go_at_call 197;refine c1.mono ?_;rintro e w' ⟨rfl,rfl⟩)
   go_wp2_with (go_at_call 197;refine c2.mono ?_;rintro e w' ⟨rfl,rfl⟩)
   go_roundw
   case rel=>exact ⟨_,_,rfl,pz,lz,hC2,hL2,hK3⟩
   case measure=>simpa [intOf] using hd
end Go.Proofs.YtdhiiicppcgkbaaGreat
namespace Go.Proofs.YtdhiiicppcgkbaaGreat
set_option maxRecDepth 100000
set_option linter.unusedVariables false
open Go.RowKit
def runCells (l:List (Nat × Nat × Nat)):List Value:=l.flatMap fun r=>[.int .i64 (r.1:Int),.int .i64 (r.2.1:Int),.int .i64 (r.2.2:Int)]
theorem runCells_length (l:List (Nat × Nat × Nat)):(runCells l).length=l.length * 3:=by
 induction l with
 | nil=>rfl
 | cons x r ih=>simp [runCells] at ih ⊢;omega
theorem runCells_append (a b:List (Nat × Nat × Nat)):runCells (a++b)=runCells a++runCells b:=by simp [runCells]
theorem runCells_top (x y o:Nat) (rs:List (Nat × Nat × Nat)):runCells ((x,y,o) :: rs).reverse=runCells rs.reverse ++ [.int .i64 (x:Int),.int .i64 (y:Int),.int .i64 (o:Int)]:=by
 rw [List.reverse_cons,runCells_append];simp [runCells]
theorem info_run:(Tryz.prog.info? 306).map (fun i=>(i.zero,i.size,i.bytes))=some (some (.agg #[.int .i64 0,.int .i64 0,.int .i64 0]),3,24):=by kernel_rfl
def RRow (base:Nat) (w:World) (v:Value) (rs:List (Nat × Nat × Nat)):Prop:=w.ownsRow base 306 3 v rs.length (runCells rs.reverse)
theorem RRow.top {base:Nat} {w:World} {v:Value} {x y o:Nat} {rs:List (Nat × Nat × Nat)} (h:RRow base w v ((x,y,o) :: rs)) :
  ∃ g cap,v=.slice (some ⟨g,0,none⟩) (rs.length+1) cap∧base≤g∧g<w.heap.size∧rs.length+1≤cap∧w.cell? ⟨g,rs.length * 3,none⟩=some (.int .i64 (x:Int))∧w.cell? ⟨g,rs.length * 3+1,none⟩=some (.int .i64 (y:Int))∧w.cell? ⟨g,rs.length * 3+2,none⟩=some (.int .i64 (o:Int))∧w.frozen? ⟨g,rs.length * 3,none⟩=false∧w.frozen? ⟨g,rs.length * 3+2,none⟩=false:=by
 obtain ⟨g,cap,hv,hb,hlt⟩:=World.ownsRow.form h (by simp)
 have hcap:rs.length+1≤cap:=by
  rcases h.2 with ⟨e,_⟩ | ⟨g', cap', cur,hv', _,_,hle,_⟩
  ·rw [hv] at e;cases e
  ·rw [hv] at hv'
   simp only [Value.slice.injEq] at hv'
   have:=hv'.2.2
   simp at hle;omega
 subst hv
 have h' : w.ownsRow base 306 3 (.slice (some ⟨g,0,none⟩) (rs.length+1) cap) (rs.length+1) (runCells rs.reverse ++ [.int .i64 (x:Int),.int .i64 (y:Int),.int .i64 (o:Int)]):=by rw [← runCells_top];exact h
 have hl:(runCells rs.reverse).length=rs.length * 3:=by rw [runCells_length,List.length_reverse]
 refine ⟨g,cap,rfl,hb,hlt,hcap,?_,?_,?_,h'.frozenAt _,h'.frozenAt _⟩
 ·rw [h'.cellAt _ (by omega),List.getElem?_append_right (by omega),hl];simp
 ·rw [h'.cellAt _ (by omega),List.getElem?_append_right (by omega),hl];simp
 ·rw [h'.cellAt _ (by omega),List.getElem?_append_right (by omega),hl];simp
theorem RRow.kept {base:Nat} {S:Nat→Prop} {w w' : World} {v:Value} {rs:List (Nat × Nat × Nat)} (h:RRow base w v rs) (hk:Kept S w w') (hs:∀ k,base≤k→¬ S k):RRow base w' v rs:=by
 refine hk.row h (fun k e=>hs k ?_)
 rcases h.2 with ⟨e', _⟩ | ⟨g,cap,cur,hv,hb,_⟩
 ·rw [e'] at e;simp [Value.ownBlock] at e
 ·rw [hv] at e;simp [Value.ownBlock] at e;omega
theorem RRow.on {base:Nat} {w:World} {g cap:Nat} {x y o:Nat} {rs:List (Nat × Nat × Nat)} (h:RRow base w (.slice (some ⟨g,0,none⟩) (rs.length+1) cap) ((x,y,o) :: rs)) (x' o' : Nat) :
  RRow base ((w.setCell ⟨g,rs.length * 3,none⟩ (.int .i64 (x' : Int))).setCell ⟨g,rs.length * 3+2,none⟩ (.int .i64 (o' : Int))) (.slice (some ⟨g,0,none⟩) (rs.length+1) cap) ((x', y,o') :: rs):=by
 have h' : w.ownsRow base 306 3 (.slice (some ⟨g,0,none⟩) (rs.length+1) cap) (rs.length+1) (runCells rs.reverse ++ [.int .i64 (x:Int),.int .i64 (y:Int),.int .i64 (o:Int)]):=by rw [← runCells_top];exact h
 have hl:(runCells rs.reverse).length=rs.length * 3:=by rw [runCells_length,List.length_reverse]
 have h1:=(h'.stored (rs.length * 3) (.int .i64 (x' : Int))).1
 have h2:=(h1.stored (rs.length * 3+2) (.int .i64 (o' : Int))).1
 have e:((runCells rs.reverse ++ [Value.int .i64 (x:Int),.int .i64 (y:Int),.int .i64 (o:Int)]).set (rs.length * 3) (.int .i64 (x' : Int))).set (rs.length * 3+2) (.int .i64 (o' : Int))=runCells rs.reverse ++ [.int .i64 (x' : Int),.int .i64 (y:Int),.int .i64 (o' : Int)]:=by
  rw [List.set_append_right _ _ (by omega),List.set_append_right _ _ (by omega),hl]
  simp [show rs.length * 3+2-rs.length * 3=2 by omega]
 rw [e] at h2
 unfold RRow
 rw [runCells_top];exact h2
theorem RRow.less {base:Nat} {w:World} {g cap:Nat} {x y o:Nat} {rs:List (Nat × Nat × Nat)} (h:RRow base w (.slice (some ⟨g,0,none⟩) (rs.length+1) cap) ((x,y,o) :: rs)):RRow base w (.slice (some ⟨g,0,none⟩) rs.length cap) rs:=by
 have hl:(runCells rs.reverse).length=rs.length * 3:=by rw [runCells_length,List.length_reverse]
 have h' : w.ownsRow base 306 3 (.slice (some ⟨g,0,none⟩) (rs.length+1) cap) (rs.length+1) (runCells rs.reverse ++ [.int .i64 (x:Int),.int .i64 (y:Int),.int .i64 (o:Int)]):=by rw [← runCells_top];exact h
 have hmn:rs.length * 3≤(rs.length+1) * 3:=by omega
 refine ⟨by rw [hl],?_⟩
 rcases h'.2 with ⟨e1,_⟩ | ⟨g', cap', cur,hv,hb,hg,h1,h2,h3,h4⟩
 ·cases e1
 ·simp only [Value.slice.injEq,Option.some.injEq,Addr.mk.injEq,and_true,true_and] at hv
  obtain ⟨rfl,rfl⟩:=hv
  refine .inr ⟨g,cap,cur,rfl,hb,hg,by omega,h2,h3,?_⟩
  have:=congrArg (List.take (rs.length * 3)) h4
  rw [List.take_take,Nat.min_eq_left hmn,List.take_left' hl] at this
  exact this
end Go.Proofs.YtdhiiicppcgkbaaGreat
namespace Go.Proofs.YtdhiiicppcgkbaaGreat
set_option maxRecDepth 100000
set_option linter.unusedVariables false
open Go.RowKit
attribute [local go_sem ↓] Go.wp_at_zero Go.wp_at_succ
theorem JB.way_foot {B:JB} {k:Nat} (h:B.Way k):B.Foot k:=by
 rcases h with e | e
 ·exact .inl e
 ·exact .inr (.inr (.inr (.inl e)))
structure URel (L:List Sym) (B:JB) (J:List Int) (sz:Nat→Int) (res:Option (Int→Int)) (w0:World) (k:Nat) (wr:World) (v:Value) (ld:Int→Int) (rs:List (Nat × Nat × Nat)):Prop where
 u:UOk L J res k ld rs
 j:JAt L B wr J ld sz
 row:RRow w0.heap.size wr v rs
 kept:Kept B.Way w0 wr
theorem URel.drewN {L:List Sym} {B:JB} {J:List Int} {sz:Nat→Int} {res:Option (Int→Int)} {w0:World} {k:Nat} {wr:World} {v:Value} {ld:Int→Int} {rs:List (Nat × Nat × Nat)} (h:URel L B J sz res w0 k wr v ld rs) (n:Nat):URel L B J sz res w0 k (wr.drewN n) v ld rs:=
 ⟨h.u,h.j.kept (S:=fun _=>False) ((Kept.refl _ _).drewN n) (fun _ _ f=>f),h.row.kept (S:=fun _=>False) ((Kept.refl _ _).drewN n) (fun _ _ f=>f),h.kept.drewN n⟩
def UEnd (L:List Sym) (B:JB) (J:List Int) (sz:Nat→Int) (res:Option (Int→Int)) (w:World) (e:Ending) (w' : World):Prop:=(∀ ld', res=some ld' → e=.returned (.bool true)∧JAt L B w' J ld' sz)∧(res=none→e=.returned (.bool false))∧Kept B.Way w w'
theorem run_new (w:World) (x y o:Nat):RRow w.heap.size (w.alloc (.cells #[.int .i64 (x:Int),.int .i64 (y:Int),.int .i64 (o:Int)] 306)) (.slice (some ⟨w.heap.size,0,none⟩) 1 1) [(x,y,o)]:=
 ⟨by simp [runCells],.inr ⟨w.heap.size,1,_,rfl,Nat.le_refl _,heap_alloc_new _ _,Nat.le_refl _,by decide,rfl,rfl⟩⟩
theorem JAt.join {L:List Sym} {w:World} {B:JB} {J:List Int} {ld:Int→Int} {sz:Nat→Int} (h:JAt L B w J ld sz) {p q:Int} (hp:UPart J p) (hq:UPart J q) (lp:ld p=p) (lq:ld q=q) (hpq:p≠q):JAt L B (w.setCell (nxA B p) (.int .i64 q)) J (un p q ld) sz∧Kept B.Way w (w.setCell (nxA B p) (.int .i64 q)):=by
 obtain ⟨nx,ρ,h1,h2⟩:=h
 obtain ⟨g1,g2⟩:=h1.put hp q
 exact ⟨⟨_,_,g1,h2.join hp hq lp lq hpq⟩,g2.mono (fun i _ e=>by rw [e];exact B.way p)⟩
theorem nxA_var (B:JB) {v:Nat} (hv:1≤v):nxA B (-(v:Int))=⟨B.jb,2+v,none⟩:=by unfold nxA;rw [if_pos (by omega)];congr 2;omega
theorem nxA_nat (B:JB) (v:Nat):nxA B (v:Int)=⟨B.sb,v,none⟩:=by unfold nxA;rw [if_neg (by omega)];congr 1
set_option maxHeartbeats 4000000 in
theorem unite_any {L:List Sym} {w:World} {B:JB} {J:List Int} {ld:Int→Int} {sz:Nat→Int} {res:Option (Int→Int)} (h:JAt L B w J ld sz) {a b n:Nat} (ha:a<J.length) (hb:b<J.length) (hJ:J.length≤4000) (hu:UOk L J res n ld [(a,endN L J a,b)]) :
  Calls Tryz.prog 194 #[.pointer (some ⟨B.jb,0,none⟩),.int .i64 (a:Int),.int .i64 (b:Int)] w (UEnd L B J sz res w):=by
 have hfoot:∀ k,B.Foot k→k<w.heap.size:=by
  obtain ⟨nx,ρ,hC,_⟩:=h
  exact fun k hk=>hC.lt hk
 have U0:URel L B J sz res w n (w.alloc (.cells #[.int .i64 (a:Int),.int .i64 (endN L J a:Int),.int .i64 (b:Int)] 306)) (.slice (some ⟨w.heap.size,0,none⟩) 1 1) ld [(a,endN L J a,b)]:=
  ⟨hu,h.kept (S:=fun _=>False) (Kept.alloc (Kept.refl _ w) _) (fun _ _ f=>f),run_new w a _ b,Kept.alloc (Kept.refl _ w) _⟩
 obtain ⟨nx,ρ,hC,_⟩:=h
 obtain ⟨c0,c1,c2,c3,c4⟩:=hC.head.cells
 have ce:=(hC.ends.cell ha).1
 clear hC
 have i1:(0:Int)≤(a:Int):=by omega
 have i2:(a:Int)<(J.length:Int):=by omega
 go_enter Tryz.func194,Tryz.ntmps194
 go_wp2_with fail
 go_step3
 go_wp2_with fail
 go_step3
 go_wp2_with fail
 clear c0 c1 c2 c3 c4 ce i1 i2 hu
 go_loopg [7] n (fun k s7 wr=>∃ ld rs,URel L B J sz res w k wr s7 ld rs)
 case atStart=>exact ⟨ld,_,U0⟩
 case round=>
  clear U0
  obtain ⟨ld,rs,hU⟩:=hrel
  cases rs with
  | nil=>
   obtain ⟨vo,vcap,rfl⟩:=row_shape hU.row
   have e1:=hU.u.nil
   have fin:UEnd L B J sz res w (.returned (.bool true)) wr:=⟨fun ld' e=>⟨rfl,by rw [e1] at e;cases e;exact hU.j⟩,fun e=>(by rw [e1] at e;cases e),hU.kept⟩
   clear hU e1
   go_wp2_with fail
   go_returns
   exact fin
  | cons r rs=>
   obtain ⟨x,y,o⟩:=r
   obtain ⟨g,cap,rfl,hg1,hg2,hcap, -⟩:=hU.row.top
   have hlen:rs.length≤4000:=by have:=hU.u.len;simp at this;omega
   have j1:(0:Int)≤(rs.length:Int):=by omega
   have j2:(rs.length:Int)<((rs.length+1:Nat):Int):=by omega
   go_wp2_with fail
   go_loopg [7] gk (fun k s7 wi=>∃ ld x o,s7=.slice (some ⟨g,0,none⟩) (rs.length+1) cap∧k≤gk∧URel L B J sz res w k wi s7 ld ((x,y,o) :: rs))
   case atStart=>exact ⟨ld,x,o,rfl,Nat.le_refl _,hU⟩
   case round=>
    clear hU
    obtain ⟨ld,x,o,rfl,hgk,hU⟩:=hrel
    obtain ⟨g', cap', hv, -,hg3, -,q0,q1,q2,q3,q4⟩:=hU.row.top
    simp only [Value.slice.injEq,Option.some.injEq,Addr.mk.injEq,and_true,true_and] at hv
    obtain ⟨rfl,rfl⟩:=hv
    by_cases hxy:x<y
    ·have hxi:(x:Int)<(y:Int):=by omega
     obtain ⟨t1,t2,t3,t4,hpx,hpo,hlx,hlo,hr⟩:=hU.u.top hxy
     go_wp2_with fail
     go_quiet (fail)
     have hV:=hU.drewN nq
     obtain ⟨wq,hwq⟩:∃ wq,wr.drewN nq=wq:=⟨_,rfl⟩
     rw [hwq] at hV ⊢
     clear hU hwq q0 q1 q2 q3 q4 hg3
     obtain ⟨g', cap', hv, -,hg3, -,q0,q1,q2,q3,q4⟩:=hV.row.top
     simp only [Value.slice.injEq,Option.some.injEq,Addr.mk.injEq,and_true,true_and] at hv
     obtain ⟨rfl,rfl⟩:=hv
     have hng:¬ B.Way g:=fun f=>by have:=hfoot g (JB.way_foot f);omega
     have CX:Hid (∀ ww z,UPart J z→JAt L B ww J ld sz∧Kept B.Way wq ww→Calls Tryz.prog 196 #[.pointer (some ⟨B.jb,0,none⟩),.int .i64 z] ww fun e w' => e=.returned (.int .i64 (ld z))∧JAt L B w' J ld sz∧Kept B.Way wq w'):=fun ww z hz hw=>(leader_any hw.1 hz).mono (fun e w' ⟨a1,a2,a3⟩=>⟨a1,a2,hw.2.trans a3 (fun _ _ f=>f)⟩)
     have px:UPart J (x:Int):=part_nat t1
     have po:UPart J (o:Int):=part_nat t2
     have CC:Hid (∀ ww,Kept B.Way wq ww→ww.cell? ⟨g,rs.length * 3,none⟩=some (.int .i64 (x:Int))∧ww.cell? ⟨g,rs.length * 3+2,none⟩=some (.int .i64 (o:Int))):=fun ww hk=>⟨(hk.cell (p:=⟨g,_,none⟩) hg3 hng).trans q0,(hk.cell (p:=⟨g,_,none⟩) hg3 hng).trans q2⟩
     have W1:JAt L B wq.drew J ld sz∧Kept B.Way wq wq.drew:=⟨hV.j.kept (S:=fun _=>False) ((Kept.refl _ _).drew) (fun _ _ f=>f),(Kept.refl _ _).drew⟩
     go_upto_region 5 with fail
     go_cut [9,10] from 30 to 138 (fun s9 s10 wc=>s9=.int .i64 (ld x)∧s10=.int .i64 (ld o)∧JAt L B wc J ld sz∧Kept B.Way wq wc)
     case first=>
      clear hV
      have CC0:=CC.out _ W1.2
      go_region_held3 (fun w' => w'.cell? ⟨g,rs.length * 3,none⟩=some (.int .i64 (x:Int))∧w'.cell? ⟨g,rs.length * 3+2,none⟩=some (.int .i64 (o:Int))) (first | exact CC0 | exact cc1) (first | (go_at_call 196;refine (CX.out _ _ (by first | exact px | exact po) (by first | exact hw1 | exact W1)).mono ?_;rintro e w1 ⟨rfl,hw1⟩;have cc1:=CC.out _ hw1.2))
      all_goals
       go_wp2_with fail
       go_meet
       exact ⟨rfl,rfl,hw1⟩
     case rest=>
      obtain ⟨rfl,rfl,hJ1,hK1⟩:=hcut
      clear CX CC W1 q0 q1 q2 q3 q4
      have hR1:=hV.row.kept hK1 (fun k hk f=>by have:=hfoot k (JB.way_foot f);omega)
      have hK2:Kept B.Way w wc:=hV.kept.trans hK1 (fun _ _ f=>f)
      obtain ⟨g', cap', hv, -,hg4, -,q0,q1,q2,q3,q4⟩:=hR1.top
      simp only [Value.slice.injEq,Option.some.injEq,Addr.mk.injEq,and_true,true_and] at hv
      obtain ⟨rfl,rfl⟩:=hv
      obtain ⟨k', hk', S1,S2,S3,S4,S5⟩:=hV.u.step hxy
      have hR2:=hR1.on (endN L J x) (endN L J o)
      have hK3:Kept (fun k=>k=g) wc ((wc.setCell ⟨g,rs.length * 3,none⟩ (.int .i64 (endN L J x:Int))).setCell ⟨g,rs.length * 3+2,none⟩ (.int .i64 (endN L J o:Int))):=(Kept.setCell (S:=fun k=>k=g) (p:=⟨g,rs.length * 3,none⟩) (Kept.refl _ _) (fun _=>rfl) _).setCell (p:=⟨g,rs.length * 3+2,none⟩) (fun _=>rfl) _
      have hJ2:=hJ1.kept hK3 (fun k hk e=>by have:=hfoot k hk;omega)
      have hK4:=hK2.trans hK3 (fun k hk e=>by omega)
      obtain ⟨nx,ρ,hC, -⟩:=hJ1
      obtain ⟨c0,c1,c2,c3,c4⟩:=hC.head.cells
      have ce1:=(hC.ends.cell t1).1
      have ce2:=(hC.ends.cell t2).1
      have i1:(0:Int)≤(x:Int):=by omega
      have i2:(x:Int)<(J.length:Int):=by omega
      have i3:(0:Int)≤(o:Int):=by omega
      have i4:(o:Int)<(J.length:Int):=by omega
      have HH:Hid (JAt L B ((wc.setCell ⟨g,rs.length * 3,none⟩ (.int .i64 (endN L J x:Int))).setCell ⟨g,rs.length * 3+2,none⟩ (.int .i64 (endN L J o:Int))) J ld sz∧RRow w.heap.size ((wc.setCell ⟨g,rs.length * 3,none⟩ (.int .i64 (endN L J x:Int))).setCell ⟨g,rs.length * 3+2,none⟩ (.int .i64 (endN L J o:Int))) (.slice (some ⟨g,0,none⟩) (rs.length+1) cap) ((endN L J x,y,endN L J o) :: rs)∧Kept B.Way w ((wc.setCell ⟨g,rs.length * 3,none⟩ (.int .i64 (endN L J x:Int))).setCell ⟨g,rs.length * 3+2,none⟩ (.int .i64 (endN L J o:Int)))):=⟨hJ2,hR2,hK4⟩
      clear hC hJ2 hR2 hK4 hK3 hV hR1 hK1 hK2
      go_upto_region 6 with fail
      go_cut [] from 30 to 138 (fun w8=>JAt L B w8 J ld sz∧RRow w.heap.size w8 (.slice (some ⟨g,0,none⟩) (rs.length+1) cap) ((endN L J x,y,endN L J o) :: rs)∧Kept B.Way w w8)
      case first=>
       clear S1 S2 S3 S4 S5
       go_region
       all_goals
        go_wp2_with fail
        go_meet
        obtain ⟨a1,a2,a3⟩:=HH.out
        exact ⟨a1.kept (S:=fun _=>False) ((Kept.refl _ _).drew) (fun _ _ f=>f),a2.kept (S:=fun _=>False) ((Kept.refl _ _).drew) (fun _ _ f=>f),a3.drew⟩
      case rest=>
       obtain ⟨hJ8,hR8,hK8⟩:=hcut
       clear HH c0 c1 c2 c3 c4 ce1 ce2 q0 q1 q2 q3 q4 hg4
       obtain ⟨p,hp⟩:∃ p,ld (x:Int)=p:=⟨_,rfl⟩
       obtain ⟨q,hq⟩:∃ q,ld (o:Int)=q:=⟨_,rfl⟩
       rw [hp,hq] at S1 S2 S3 S4 S5 ⊢
       rw [hp] at hpx hlx
       rw [hq] at hpo hlo
       clear hp hq
       by_cases h1:p=q
       ·have hN:=S1 h1
        clear S1 S2 S3 S4 S5
        go_wp2_with fail
        go_roundg k'
        case measure=>omega
        case rel=>exact ⟨ld,_,_,rfl,by omega,hN,hJ8,hR8,hK8⟩
       ·by_cases h2:p<0
        ·have hN:=S2 h1 h2
         obtain ⟨v,rfl⟩:∃ v:Nat,p = -(v:Int):=⟨(-p).toNat,by omega⟩
         obtain ⟨hJ9,hK9⟩:=hJ8.join hpx hpo hlx hlo h1
         rw [nxA_var B (by omega)] at hJ9 hK9
         have hR9:=hR8.kept hK9 (fun k hk f=>by have:=hfoot k (JB.way_foot f);omega)
         have hK10:=hK8.trans hK9 (fun _ _ f=>f)
         obtain ⟨nx,ρ,hC, -⟩:=hJ8
         have i5:(0:Int)≤(v:Int):=by omega
         have i6:(v:Int)<199:=by have:=hpx.1;omega
         obtain ⟨e1,e2⟩:=hC.head.var (v:=v) (by omega) (by omega)
         clear S1 S2 S3 S4 S5 hC hR8 hK8
         go_wp2_with fail
         go_roundg k'
         case measure=>omega
         case rel=>exact ⟨_,_,_,rfl,by omega,hN,hJ9,hR9,hK10⟩
        ·by_cases h3:q<0
         ·have hN:=S3 h1 h2 h3
          obtain ⟨v,rfl⟩:∃ v:Nat,q = -(v:Int):=⟨(-q).toNat,by omega⟩
          obtain ⟨hJ9,hK9⟩:=hJ8.join hpo hpx hlo hlx (fun e=>h1 e.symm)
          rw [nxA_var B (by omega)] at hJ9 hK9
          have hR9:=hR8.kept hK9 (fun k hk f=>by have:=hfoot k (JB.way_foot f);omega)
          have hK10:=hK8.trans hK9 (fun _ _ f=>f)
          obtain ⟨nx,ρ,hC, -⟩:=hJ8
          have i5:(0:Int)≤(v:Int):=by omega
          have i6:(v:Int)<199:=by have:=hpo.1;omega
          obtain ⟨e1,e2⟩:=hC.head.var (v:=v) (by omega) (by omega)
          clear S1 S2 S3 S4 S5 hC hR8 hK8
          go_wp2_with fail
          go_roundg k'
          case measure=>omega
          case rel=>exact ⟨_,_,_,rfl,by omega,hN,hJ9,hR9,hK10⟩
         ·obtain ⟨p,rfl⟩:∃ v:Nat,p=(v:Int):=⟨p.toNat,by omega⟩
          obtain ⟨q,rfl⟩:∃ v:Nat,q=(v:Int):=⟨q.toNat,by omega⟩
          have hpl:p<J.length:=by have:=hpx.2;omega
          have hql:q<J.length:=by have:=hpo.2;omega
          obtain ⟨hJ9,hK9⟩:=hJ8.join hpx hpo hlx hlo h1
          rw [nxA_nat B p] at hJ9 hK9
          obtain ⟨nx,ρ,hC, -⟩:=hJ8
          obtain ⟨c0,c1,c2,c3,c4⟩:=hC.head.cells
          have cp:=(hC.list.cell hpl).1
          have cq:=(hC.list.cell hql).1
          have cs:=hC.same.cell hpl
          have i5:(0:Int)≤(p:Int):=by omega
          have i6:(p:Int)<(J.length:Int):=by omega
          have i7:(0:Int)≤(q:Int):=by omega
          have i8:(q:Int)<(J.length:Int):=by omega
          obtain ⟨cs1,cs2⟩:=cs
          by_cases h4:at' J (p:Int)=at' J (q:Int)
          ·have hN:=S5 h1 h2 h3 h4
           have hR9:=hR8.kept hK9 (fun k hk f=>by have:=hfoot k (JB.way_foot f);omega)
           have hK10:=hK8.trans hK9 (fun _ _ f=>f)
           have h4' : (at' J (p:Int) == at' J (q:Int))=true:=by simpa using h4
           clear S1 S2 S3 S4 S5 hC hR8 hK8 hK9
           go_upto_region 14 with fail
           go_quiet (fail)
           have hX:Hid (JAt L B ((wc.drewN nq).setCell ⟨B.sb,p,none⟩ (.int .i64 (q:Int))) J (un (p:Int) (q:Int) ld) sz∧RRow w.heap.size ((wc.drewN nq).setCell ⟨B.sb,p,none⟩ (.int .i64 (q:Int))) (.slice (some ⟨g,0,none⟩) (rs.length+1) cap) ((endN L J x,y,endN L J o) :: rs)∧Kept B.Way w ((wc.drewN nq).setCell ⟨B.sb,p,none⟩ (.int .i64 (q:Int)))):=by
            have k0:Same0 (wc.setCell ⟨B.sb,p,none⟩ (.int .i64 (q:Int))) ((wc.drewN nq).setCell ⟨B.sb,p,none⟩ (.int .i64 (q:Int))):=(Kept.refl _ (wc.setCell ⟨B.sb,p,none⟩ (.int .i64 (q:Int)))).drewN nq
            exact ⟨hJ9.kept k0 (fun _ _ f=>f),hR9.kept k0 (fun _ _ f=>f),hK10.trans k0 (fun _ _ f=>f.elim)⟩
           clear hJ9 hR9 hK10
           go_upto_region 8 with fail
           obtain ⟨w9,hw9⟩:∃ w9,(wc.drewN nq).setCell ⟨B.sb,p,none⟩ (.int .i64 (q:Int))=w9:=⟨_,rfl⟩
           rw [hw9] at hX ⊢
           clear hw9 c0 c1 c2 c3 c4 cp cq cs1 cs2 h4 h4'
           obtain ⟨i0,hi0,hz0,hz1,hz2⟩:=info_parts info_run
           have PE:Hid (∀ gg cap' w10,w10.ownsRow w.heap.size 306 3 (.slice (some ⟨gg,0,none⟩) (rs.length+1+1) cap') (rs.length+1+1) (runCells ((endN L J x,y,endN L J o) :: rs).reverse ++ [.int .i64 ((p:Int)+1),.int .i64 (endN L J p:Int),.int .i64 ((q:Int)+1)])→(w9.alloc (.cells #[.int .i64 ((p:Int)+1),.int .i64 (endN L J p:Int),.int .i64 ((q:Int)+1)] 306)).grownBy w10 (some g)→URel L B J sz res w k' w10 (.slice (some ⟨gg,0,none⟩) (rs.length+1+1) cap') (un (p:Int) (q:Int) ld) ((p+1,endN L J p,q+1) :: (endN L J x,y,endN L J o) :: rs)):=by
            intro gg cap' w10 hown hgrow
            obtain ⟨a1,a2,a3⟩:=hX.out
            have kg:Kept (fun k=>k=g) w9 w10:=Kept.grown (Kept.alloc (Kept.refl _ w9) _) hgrow (fun k e _=>by simpa using e.symm)
            refine ⟨by simpa using hN,a1.kept kg (fun k hk e=>by have:=hfoot k hk;omega),?_,a3.trans kg (fun k hk e=>by omega)⟩
            unfold RRow
            rw [runCells_top]
            simpa using hown
           obtain ⟨a1,a2, -⟩:=hX.out
           have hrow:w9.ownsRow w.heap.size 306 3 (.slice (some ⟨g,0,none⟩) (rs.length+1) cap) (rs.length+1) (runCells ((endN L J x,y,endN L J o) :: rs).reverse):=a2
           obtain ⟨nx,ρ,hC, -⟩:=a1
           obtain ⟨c0,c1,c2,c3,c4⟩:=hC.head.cells
           have ce:=(hC.ends.cell hpl).1
           have hn1:rs.length+1+1≤maxLen:=by unfold maxLen;omega
           have hn2:(rs.length+1+1) * 24≤140737488355328:=by omega
           have hb9:w.heap.size≤(w9.alloc (.cells #[.int .i64 ((p:Int)+1),.int .i64 (endN L J p:Int),.int .i64 ((q:Int)+1)] 306)).heap.size:=by
            have:=a2.top
            obtain ⟨g', cap', hv,hb1,hlt1, -⟩:=this
            simp;omega
           have i9:(p:Int)<4000:=by omega
           have i10:(q:Int)<4000:=by omega
           clear hX hC a2
           go_wp2_with (first | (at_builtin;refine wpList_append_lies _ rfl _ _ 307 rfl w.heap.size 306 i0 _ 3 24 Tryz.underlying307 hi0 hz0 hz1 hz2 rfl (by omega) (.slice (some ⟨g,0,none⟩) (rs.length+1) cap) (rs.length+1) (runCells ((endN L J x,y,endN L J o) :: rs).reverse) rfl (hrow.alloc _) ⟨w9.heap.size,0,none⟩ 1 1 [.int .i64 ((p:Int)+1),.int .i64 (endN L J p:Int),.int .i64 ((q:Int)+1)] rfl rfl (World.news_of_block (cs:=#[.int .i64 ((p:Int)+1),.int .i64 (endN L J p:Int),.int .i64 ((q:Int)+1)]) (t:=306) (fr:=(0,0)) (heap_alloc_new w9 _)) (by simp [Value.oneCell']) (by omega) hn1 hn2 hb9 (w9.heap.size+1) (by simp) ?_;intro gg cap' w10 hown hgrow hat hlt;have hP:=PE.out gg cap' w10 hown hgrow))
           go_roundg k'
           case measure=>omega
           case rel=>exact ⟨_,_,hP⟩
          ·have hN:=S4 h1 h2 h3 h4
           have fin:Hid (∀ n,UEnd L B J sz res w (.returned (.bool false)) (wc.drewN n)):=fun n=>⟨fun ld' e=>(by rw [hN] at e;cases e),fun _=>rfl,hK8.drewN n⟩
           clear S1 S2 S3 S4 S5 hC hR8 hK8 hJ9 hK9 hN
           go_upto_region 14 with fail
           go_quiet (fail)
           go_wp2_with fail
           go_returns
           exact fin.out _
    ·have hxi:¬ (x:Int)<(y:Int):=by omega
     obtain ⟨k', hk', hU'⟩:=hU.u.pop hxy
     have hP:URel L B J sz res w k' wr (.slice (some ⟨g,0,none⟩) rs.length cap) ld rs:=⟨hU', hU.j,hU.row.less,hU.kept⟩
     have j3:(rs.length:Int)≤(cap:Int):=by omega
     have hP' : Hid (∀ n,URel L B J sz res w k' (wr.drewN n) (.slice (some ⟨g,0,none⟩) rs.length cap) ld rs):=fun n=>hP.drewN n
     clear hU hU' hP
     go_wp2_with fail
     go_quiet (fail)
     go_wp2_with fail
     go_roundg k'
     case measure=>omega
     case rel=>exact ⟨ld,rs,hP'.out _⟩
end Go.Proofs.YtdhiiicppcgkbaaGreat
