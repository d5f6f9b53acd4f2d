import Derived.Test.YtmloedlkoijfbaaHP09
import Derived.Deep.CutRange
namespace Go.Proofs.Ytmloedlkoijfbaa
set_option maxRecDepth 100000
set_option linter.unusedVariables false
open Go.RowKit
attribute [local go_sem ↓] Go.wp_at_zero Go.wp_at_succ
theorem OneH.start {w0 w1 w2 w3:World} {na:Bool} {n:Nat} {pa px:Value} (k1:Same0 w0 w1) (ha:NewP na n w1 w2 pa) (hx:NewR na n w2 w3 px):TwoH w0 w3 pa px (.pointer none) (.pointer none) na true:=
 ⟨_,fun _=>False,PrH.start k1 ha (Kept.refl _ _) hx (Kept.refl _ _),⟨fun k e=>e.elim,.inl ⟨rfl,rfl,rfl⟩⟩,fun k e f=>f,k1.trans' (ha.1.trans' hx.1)⟩
set_option maxHeartbeats 8000000 in
theorem hrefills_walk {w:World} (z1:Int) {ao:Option Addr} {os:List Op11} (h:OpsAt w ao os) (ac:Nat) (hl:os.length≤maxLen) (hb:∀ o∈os,o.Ok) {no:Option Addr} {ns:List Nd} (nc:Nat) (hN:NsW w no ns) (hN1:ns.length * 56≤140737488351232) :
  Calls Try.prog 4 #[.int .i64 z1,.slice ao os.length ac,.slice no ns.length nc] w fun e w' => e=.returned (.bool true)∧Below w.heap.size w w' := by
 unfold maxLen at hl
 have C0:=awake11_any w
 obtain ⟨na,n1,E1,PA,RA⟩:=new_two z1
 have HPA:Hid (∀ w,Calls Try.prog 8 #[.int .i64 z1] w fun e w' => ∃ pa,e=.returned (.tuple #[pa,.int .i64 E1])∧NewP na n1 w w' pa):=PA
 have HRA:Hid (∀ w,Calls Try.prog 9 #[.int .i64 z1] w fun e w' => ∃ pa,e=.returned (.tuple #[pa,.int .i64 E1])∧NewR na n1 w w' pa):=RA
 have HB:Hid (∀ ww,Same0 w ww→Below w.heap.size w ww):=fun ww hk=>Kept.below hk (Nat.le_refl _) (fun _ _ f=>f)
 have HO:Hid ((OpsAt w ao os∧∀ o∈os,o.Ok)∧NsW w no ns∧ns.length * 56≤140737488351232):=⟨⟨h,hb⟩,hN,hN1⟩
 have q1:(E1 != E1)=false:=by simp
 clear h hb PA RA hN hN1
 go_enter Try.func4,Try.ntmps4
 go_upto_region 2 with (first | (go_at_call 7;refine C0.mono ?_;rintro e w1 ⟨rfl,k1⟩))
 have C1:=HPA.out w1
 clear C0
 go_upto_region 3 with (first | (go_at_call 8;refine C1.mono ?_;rintro e w2 ⟨pa,rfl,p2⟩))
 have C2:=HRA.out w2
 clear C1
 go_upto_region 4 with (first | (go_at_call 9;refine C2.mono ?_;rintro e w3 ⟨px,rfl,p3⟩))
 have H5:Hid (TwoH w w3 pa px (.pointer none) (.pointer none) na true):=OneH.start k1 p2 p3
 clear C2 k1 p2 p3 HPA HRA
 have t1:=nil_heap H5.out
 have t2:=nil_ref H5.out
 cases na
 ·obtain ⟨h,g,r,v,room,l,ea,ex, -, -⟩:=H5.out.first rfl
  subst ea ex
  go_upto_region 9 with fail
  go_loopw [12] (fun i wr=>∃ k:Nat,i=.int .i64 (k:Int)∧k≤os.length∧Hid (TwoH w wr (.pointer (some ⟨h,0,none⟩)) (.pointer (some ⟨r,0,none⟩)) (.pointer none) (.pointer none) false true)) (fun i _=>os.length-(intOf i).toNat)
  case atStart=>exact ⟨0,rfl,Nat.zero_le _,H5⟩
  case round=>
   clear H5
   obtain ⟨k,rfl,hk,HT⟩:=hrel
   by_cases hlt:k<os.length
   ·have i0:(0:Int)≤(k:Int):=by omega
    have i1:(k:Int)<(os.length:Int):=by omega
    have i2:IntKind.i64.wrap ((k:Int)+1)=(k:Int)+1:=i64_keep2 (by omega) (by omega)
    obtain ⟨b,off,lo,lc,no', nc', e,c0,c1,c2,c3,c4,c5,a1,a2,a3⟩:=HO.out.1.1.get HT.out.sm hlt
    subst e
    have HZ:Hid (os[k].Ok):=HO.out.1.2 _ (List.getElem_mem hlt)
    generalize os[k]=z at *
    obtain ⟨h', g', r', v', room', l', ea,ex,hp,next⟩:=HT.out.first rfl
    have eh:h' = h:=by simpa using ea.symm
    have er:r' = r:=by simpa using ex.symm
    subst eh er
    have CD:=do11_any hp HT.out.sm z.kind z.n z.m HZ.out.n HZ.out.m z.two a1 (nc:=nc') a2 a3
    have HN:Hid (∀ w6,DoT w.heap.size wr h' g' r' v' room' w6→Hid (TwoH w w6 (.pointer (some ⟨h', 0,none⟩)) (.pointer (some ⟨r', 0,none⟩)) (.pointer none) (.pointer none) false true)):=fun w6 q6=>next w6 q6
    clear hp next a1 a2 a3 ea ex
    go_wp2_with (first | (go_at_call 10;refine CD.mono ?_;rintro e w6 ⟨rfl,q6⟩;have HF:=HN.out w6 q6;clear q6))
    go_roundw
    case rel=>first | exact ⟨k+1,by go_num,by omega,HF⟩ | ((repeat apply Exists.intro);exact ⟨⟨k+1,by go_num,by omega,HF⟩,rfl⟩)
    case measure=>simp [intOf];omega
   ·have hkl:k=os.length:=by omega
    subst hkl
    have HB1:Hid (∀ (K:Int) ww,TwoH w ww (.pointer (some ⟨h,0,none⟩)) (.pointer (some ⟨r,0,none⟩)) (.pointer none) (.pointer none) false true→Calls Try.prog 10 #[.pointer (some ⟨h,0,none⟩),.pointer (some ⟨r,0,none⟩),.agg #[.int .i64 K,.int .i64 0,.int .i64 0,.bool false,.slice none 0 0,.slice none 0 0]] ww fun e w' => e=.returned (.bool true)∧TwoH w w' (.pointer (some ⟨h,0,none⟩)) (.pointer (some ⟨r,0,none⟩)) (.pointer none) (.pointer none) false true):=fun K ww q=>do11_bare K q
    have CD:Calls Try.prog 10 #[.pointer (some ⟨h,0,none⟩),.pointer (some ⟨r,0,none⟩),.agg #[.int .i64 9,.int .i64 0,.int .i64 0,.bool false,.slice none 0 0,.slice no ns.length nc]] wr fun e w' => e=.returned (.bool true)∧TwoH w w' (.pointer (some ⟨h,0,none⟩)) (.pointer (some ⟨r,0,none⟩)) (.pointer none) (.pointer none) false true:=by
     obtain ⟨h', g', r', v', room', l', ea,ex,hp,next⟩:=HT.out.first rfl
     rw [ea,ex]
     exact (do11_any hp HT.out.sm 9 0 0 i64_zero i64_zero false (xs:=[]) (arg_nil w) (nc:=nc) HO.out.2.1 HO.out.2.2).mono (fun e w' ⟨h1,h2⟩=>⟨h1,by rw [← ea,← ex];exact next w' h2⟩)
    clear HO
    go_upto_region 15 with (first | (go_at_call 10;refine CD.mono ?_;rintro e w6 ⟨rfl,q6⟩))
    have CE:=HB1.out 7 _ q6
    clear CD
    go_upto_region 16 with (first | (go_at_call 10;refine CE.mono ?_;rintro e w7 ⟨rfl,q7⟩))
    have CF:=HB1.out 8 _ q7
    clear CE
    go_wp2_with (first | (go_at_call 10;refine CF.mono ?_;rintro e w8 ⟨rfl,q8⟩))
    go_ret
    exact ⟨by first | rfl | simp,HB.out _ q8.sm⟩
 ·obtain ⟨ea,ex⟩:=H5.out.none rfl
  subst ea ex
  go_wp2
  go_ret
  exact ⟨by first | rfl | simp,HB.out _ H5.out.sm⟩
end Go.Proofs.Ytmloedlkoijfbaa
