import Derived.Test.YtflcpepjmonlpaaGreatDoorSL07
import Derived.Test.YtflcpepjmonlpaaGreatDoorSL03
import Derived.Deep.RegionWith
import Derived.Deep.RegionLaw
import Derived.Test.YtflcpepjmonlpaaGreatDoorSL06
namespace Go.Proofs.YtflcpepjmonlpaaGreatDoor
set_option maxRecDepth 100000
set_option linter.unusedVariables false
open Go.RowKit
attribute [local go_sem ↓] Go.wp_at_zero Go.wp_at_succ
theorem checks_any (w:World):Calls Tryz.prog 176 #[] w fun e w' => ∃ g,e=.returned (.slice (some ⟨g,0,none⟩) 8 8)∧w'.heap[g]? = some (.cells #[.func (.func 222) #[] #[],.func (.func 223) #[] #[],.func (.func 224) #[] #[],.func (.func 225) #[] #[],.func (.func 226) #[] #[],.func (.func 227) #[] #[],.func (.func 228) #[] #[],.func (.func 229) #[] #[]] 299 (0,0))∧Same0 w w' := by
 go_enter Tryz.func176,Tryz.ntmps176
 go_wp2
 go_ret
 exact ⟨_,rfl,heap_alloc_new _ _,(Kept.refl _ w).alloc _⟩
theorem askW_len (L:List Sym) (R l:List Ru) (j n:Nat):(askW L R l j n).length≤2:=by
 unfold askW wrongL
 repeat' split
 all_goals simp
theorem askW_yes {L:List Sym} {R l:List Ru} {j n:Nat} (h:ckB L R l j n=true):bears (askW L R l j n) 0=true:=by
 simp [askW,h,bears]
theorem askW_no {L:List Sym} {R l:List Ru} {j n:Nat} (h:ckB L R l j n=false):bears (askW L R l j n) 0=false:=by
 unfold askW
 rw [h]
 simp only [Bool.false_eq_true,if_false]
 unfold wrongL
 split
 ·rename_i e
  subst e
  simp only [ckB,askB] at h
  generalize l.getD n ([],[])=x at *
  by_cases h1:checkE L x.1=0
  ·have h2:¬ checkE L x.2=0:=by intro e;simp [h1,e] at h
   simp [bears,h1];omega
  ·simp [bears,h1];omega
 ·split
  ·simp [bears]
  ·simp [bears];omega
def ChkPost (L:List Sym) (R l:List Ru) (w:World) (e:Ending) (w' : World):Prop:=∃ ws v,e=.returned v∧Ans L R l ws∧FltAt w' ws v∧ws.length≤2∧Same0 w w'
theorem Ans.no {L:List Sym} {R l:List Ru} {j n:Nat} (hj:j<8) (hn:n<l.length) (hu:Upto L R l j n) (hc:ckB L R l j n=false):Ans L R l (askW L R l j n):=
 .inr ⟨j,n,hj,hn,hu,hc,by simp [askW,hc]⟩
set_option maxHeartbeats 20000000 in
theorem checkR_any {w:World} {b bs:Nat} {ro:Option Addr} {rc:Nat} {L:List Sym} {R:List Ru} {lo:Option Addr} {l:List Ru} {lc:Nat} (h:StR w b bs ro rc L R) (hl:RsAt w lo l) (hll:l.length≤140737488355328) (hlc:l.length≤lc) :
  Calls Tryz.prog 124 #[.pointer (some ⟨b,0,none⟩),.slice lo l.length lc] w (ChkPost L R l w):=by
 go_enter Tryz.func124,Tryz.ntmps124
 go_wp2_with (first | (go_at_call 176;refine (checks_any _).mono ?_;rintro e w1 ⟨g,rfl,hg,hk1⟩))
 have HG:Hid (∀ ww,Same0 w1 ww→ww.heap[g]? = some (.cells #[.func (.func 222) #[] #[],.func (.func 223) #[] #[],.func (.func 224) #[] #[],.func (.func 225) #[] #[],.func (.func 226) #[] #[],.func (.func 227) #[] #[],.func (.func 228) #[] #[],.func (.func 229) #[] #[]] 299 (0,0))):=fun ww hk=>hk.at0 hg
 have HC:Hid (∀ n,n<l.length→∀ ww,Same0 w1 ww→Cnd ww b bs ro rc L R lo l n):=fun n hn ww hk=>⟨(h.same hk1).same hk,(hl.same hk1).same hk,hll,hn⟩
 have HK:Hid (Same0 w w1):=hk1
 have M0:Same0 w1 w1:=Kept.refl _ _
 clear hg h hl hk1
 go_loopw [16] (fun i wr=>∃ j:Nat,j≤8∧i=.int .i64 (j:Int)∧Hid (Upto L R l j 0)∧Same0 w1 wr) (fun i _=>8-(intOf i).toNat)
 case atStart=>exact ⟨0,by omega,rfl,Upto.nil L R l,M0⟩
 case round=>
  clear M0
  obtain ⟨j,hj,rfl,hu0,hs⟩:=hrel
  match j,hj with
  | 0,_=>
   have f0:=cellAt (HG.out _ hs) 0
   simp only [List.getElem?_toArray,List.getElem?_cons_zero] at f0
   go_wp2
   go_loopw [22] (fun i wr=>∃ n:Nat,n≤l.length∧i=.int .i64 (n:Int)∧Hid (Upto L R l 0 n)∧Same0 w1 wr) (fun i _=>l.length-(intOf i).toNat)
   case atStart=>exact ⟨0,Nat.zero_le _,rfl,hu0,hs⟩
   case round=>
    clear f0 hs hu0
    obtain ⟨n,hn,rfl,hu,hs⟩:=hrel
    by_cases hlt:n<l.length
    ·have HQ:=HC.out n hlt _ hs
     have C:Calls Tryz.prog 222 #[.agg #[.pointer (some ⟨b,0,none⟩),.slice lo l.length lc,.int .i64 (n:Int)]] _ fun e w' => ∃ v,e=.returned v∧FltAt w' (askW L R l 0 n) v∧Same0 _ w' := many_any (lc:=lc) HQ
     clear HQ
     cases hc:ckB L R l 0 n with
     | true=>
      have b1:=askW_yes hc
      have hu1:Hid (Upto L R l 0 (n+1)):=hu.out.step hc
      clear hc hu
      go_wp2_with (first | (go_at_call 222;refine C.mono ?_;rintro e w2 ⟨v,rfl,hv,hk2⟩;have CI:=is_any hv (askW_len _ _ _ _ _) 0;rw [b1] at CI) | (go_at_call 37;refine CI.mono ?_;rintro e w3 ⟨rfl,rfl⟩))
      go_roundw
      case rel=>first | exact ⟨n+1,by omega,by go_num,hu1,hs.trans' hk2⟩ | ((repeat apply Exists.intro);exact ⟨⟨n+1,by omega,by go_num,hu1,hs.trans' hk2⟩,rfl⟩)
      case measure=>simp [intOf];omega
     | false=>
      have b1:=askW_no hc
      have A:Hid (Ans L R l (askW L R l 0 n)):=Ans.no (by omega) hlt hu.out hc
      clear hc hu
      go_wp2_with (first | (go_at_call 222;refine C.mono ?_;rintro e w2 ⟨v,rfl,hv,hk2⟩;have CI:=is_any hv (askW_len _ _ _ _ _) 0;rw [b1] at CI) | (go_at_call 37;refine CI.mono ?_;rintro e w3 ⟨rfl,rfl⟩))
      go_ret
      exact ⟨_,_,rfl,A.out,hv,askW_len _ _ _ _ _,HK.out.trans' (hs.trans' hk2)⟩
    ·have hu1:Hid (Upto L R l (0+1) 0):=hu.out.next (by omega)
     go_wp2
     exact ⟨⟨0+1,by omega,by go_num,hu1,hs⟩,by simp [intOf]⟩
  | 1,_=>
   have f0:=cellAt (HG.out _ hs) 1
   simp only [List.getElem?_toArray,List.getElem?_cons_zero,List.getElem?_cons_succ] at f0
   go_wp2
   go_loopw [22] (fun i wr=>∃ n:Nat,n≤l.length∧i=.int .i64 (n:Int)∧Hid (Upto L R l 1 n)∧Same0 w1 wr) (fun i _=>l.length-(intOf i).toNat)
   case atStart=>exact ⟨0,Nat.zero_le _,rfl,hu0,hs⟩
   case round=>
    clear f0 hs hu0
    obtain ⟨n,hn,rfl,hu,hs⟩:=hrel
    by_cases hlt:n<l.length
    ·have HQ:=HC.out n hlt _ hs
     have C:Calls Tryz.prog 223 #[.agg #[.pointer (some ⟨b,0,none⟩),.slice lo l.length lc,.int .i64 (n:Int)]] _ fun e w' => ∃ v,e=.returned v∧FltAt w' (askW L R l 1 n) v∧Same0 _ w' := term_any (lc:=lc) HQ hu.out
     clear HQ
     cases hc:ckB L R l 1 n with
     | true=>
      have b1:=askW_yes hc
      have hu1:Hid (Upto L R l 1 (n+1)):=hu.out.step hc
      clear hc hu
      go_wp2_with (first | (go_at_call 223;refine C.mono ?_;rintro e w2 ⟨v,rfl,hv,hk2⟩;have CI:=is_any hv (askW_len _ _ _ _ _) 0;rw [b1] at CI) | (go_at_call 37;refine CI.mono ?_;rintro e w3 ⟨rfl,rfl⟩))
      go_roundw
      case rel=>first | exact ⟨n+1,by omega,by go_num,hu1,hs.trans' hk2⟩ | ((repeat apply Exists.intro);exact ⟨⟨n+1,by omega,by go_num,hu1,hs.trans' hk2⟩,rfl⟩)
      case measure=>simp [intOf];omega
     | false=>
      have b1:=askW_no hc
      have A:Hid (Ans L R l (askW L R l 1 n)):=Ans.no (by omega) hlt hu.out hc
      clear hc hu
      go_wp2_with (first | (go_at_call 223;refine C.mono ?_;rintro e w2 ⟨v,rfl,hv,hk2⟩;have CI:=is_any hv (askW_len _ _ _ _ _) 0;rw [b1] at CI) | (go_at_call 37;refine CI.mono ?_;rintro e w3 ⟨rfl,rfl⟩))
      go_ret
      exact ⟨_,_,rfl,A.out,hv,askW_len _ _ _ _ _,HK.out.trans' (hs.trans' hk2)⟩
    ·have hu1:Hid (Upto L R l (1+1) 0):=hu.out.next (by omega)
     go_wp2
     exact ⟨⟨1+1,by omega,by go_num,hu1,hs⟩,by simp [intOf]⟩
  | 2,_=>
   have f0:=cellAt (HG.out _ hs) 2
   simp only [List.getElem?_toArray,List.getElem?_cons_zero,List.getElem?_cons_succ] at f0
   go_wp2
   go_loopw [22] (fun i wr=>∃ n:Nat,n≤l.length∧i=.int .i64 (n:Int)∧Hid (Upto L R l 2 n)∧Same0 w1 wr) (fun i _=>l.length-(intOf i).toNat)
   case atStart=>exact ⟨0,Nat.zero_le _,rfl,hu0,hs⟩
   case round=>
    clear f0 hs hu0
    obtain ⟨n,hn,rfl,hu,hs⟩:=hrel
    by_cases hlt:n<l.length
    ·have HQ:=HC.out n hlt _ hs
     have C:Calls Tryz.prog 224 #[.agg #[.pointer (some ⟨b,0,none⟩),.slice lo l.length lc,.int .i64 (n:Int)]] _ fun e w' => ∃ v,e=.returned v∧FltAt w' (askW L R l 2 n) v∧Same0 _ w' := side_any (lc:=lc) HQ hu.out
     clear HQ
     cases hc:ckB L R l 2 n with
     | true=>
      have b1:=askW_yes hc
      have hu1:Hid (Upto L R l 2 (n+1)):=hu.out.step hc
      clear hc hu
      go_wp2_with (first | (go_at_call 224;refine C.mono ?_;rintro e w2 ⟨v,rfl,hv,hk2⟩;have CI:=is_any hv (askW_len _ _ _ _ _) 0;rw [b1] at CI) | (go_at_call 37;refine CI.mono ?_;rintro e w3 ⟨rfl,rfl⟩))
      go_roundw
      case rel=>first | exact ⟨n+1,by omega,by go_num,hu1,hs.trans' hk2⟩ | ((repeat apply Exists.intro);exact ⟨⟨n+1,by omega,by go_num,hu1,hs.trans' hk2⟩,rfl⟩)
      case measure=>simp [intOf];omega
     | false=>
      have b1:=askW_no hc
      have A:Hid (Ans L R l (askW L R l 2 n)):=Ans.no (by omega) hlt hu.out hc
      clear hc hu
      go_wp2_with (first | (go_at_call 224;refine C.mono ?_;rintro e w2 ⟨v,rfl,hv,hk2⟩;have CI:=is_any hv (askW_len _ _ _ _ _) 0;rw [b1] at CI) | (go_at_call 37;refine CI.mono ?_;rintro e w3 ⟨rfl,rfl⟩))
      go_ret
      exact ⟨_,_,rfl,A.out,hv,askW_len _ _ _ _ _,HK.out.trans' (hs.trans' hk2)⟩
    ·have hu1:Hid (Upto L R l (2+1) 0):=hu.out.next (by omega)
     go_wp2
     exact ⟨⟨2+1,by omega,by go_num,hu1,hs⟩,by simp [intOf]⟩
  | 3,_=>
   have f0:=cellAt (HG.out _ hs) 3
   simp only [List.getElem?_toArray,List.getElem?_cons_zero,List.getElem?_cons_succ] at f0
   go_wp2
   go_loopw [22] (fun i wr=>∃ n:Nat,n≤l.length∧i=.int .i64 (n:Int)∧Hid (Upto L R l 3 n)∧Same0 w1 wr) (fun i _=>l.length-(intOf i).toNat)
   case atStart=>exact ⟨0,Nat.zero_le _,rfl,hu0,hs⟩
   case round=>
    clear f0 hs hu0
    obtain ⟨n,hn,rfl,hu,hs⟩:=hrel
    by_cases hlt:n<l.length
    ·have HQ:=HC.out n hlt _ hs
     have C:Calls Tryz.prog 225 #[.agg #[.pointer (some ⟨b,0,none⟩),.slice lo l.length lc,.int .i64 (n:Int)]] _ fun e w' => ∃ v,e=.returned v∧FltAt w' (askW L R l 3 n) v∧Same0 _ w' := root_any (lc:=lc) HQ hu.out
     clear HQ
     cases hc:ckB L R l 3 n with
     | true=>
      have b1:=askW_yes hc
      have hu1:Hid (Upto L R l 3 (n+1)):=hu.out.step hc
      clear hc hu
      go_wp2_with (first | (go_at_call 225;refine C.mono ?_;rintro e w2 ⟨v,rfl,hv,hk2⟩;have CI:=is_any hv (askW_len _ _ _ _ _) 0;rw [b1] at CI) | (go_at_call 37;refine CI.mono ?_;rintro e w3 ⟨rfl,rfl⟩))
      go_roundw
      case rel=>first | exact ⟨n+1,by omega,by go_num,hu1,hs.trans' hk2⟩ | ((repeat apply Exists.intro);exact ⟨⟨n+1,by omega,by go_num,hu1,hs.trans' hk2⟩,rfl⟩)
      case measure=>simp [intOf];omega
     | false=>
      have b1:=askW_no hc
      have A:Hid (Ans L R l (askW L R l 3 n)):=Ans.no (by omega) hlt hu.out hc
      clear hc hu
      go_wp2_with (first | (go_at_call 225;refine C.mono ?_;rintro e w2 ⟨v,rfl,hv,hk2⟩;have CI:=is_any hv (askW_len _ _ _ _ _) 0;rw [b1] at CI) | (go_at_call 37;refine CI.mono ?_;rintro e w3 ⟨rfl,rfl⟩))
      go_ret
      exact ⟨_,_,rfl,A.out,hv,askW_len _ _ _ _ _,HK.out.trans' (hs.trans' hk2)⟩
    ·have hu1:Hid (Upto L R l (3+1) 0):=hu.out.next (by omega)
     go_wp2
     exact ⟨⟨3+1,by omega,by go_num,hu1,hs⟩,by simp [intOf]⟩
  | 4,_=>
   have f0:=cellAt (HG.out _ hs) 4
   simp only [List.getElem?_toArray,List.getElem?_cons_zero,List.getElem?_cons_succ] at f0
   go_wp2
   go_loopw [22] (fun i wr=>∃ n:Nat,n≤l.length∧i=.int .i64 (n:Int)∧Hid (Upto L R l 4 n)∧Same0 w1 wr) (fun i _=>l.length-(intOf i).toNat)
   case atStart=>exact ⟨0,Nat.zero_le _,rfl,hu0,hs⟩
   case round=>
    clear f0 hs hu0
    obtain ⟨n,hn,rfl,hu,hs⟩:=hrel
    by_cases hlt:n<l.length
    ·have HQ:=HC.out n hlt _ hs
     have C:Calls Tryz.prog 226 #[.agg #[.pointer (some ⟨b,0,none⟩),.slice lo l.length lc,.int .i64 (n:Int)]] _ fun e w' => ∃ v,e=.returned v∧FltAt w' (askW L R l 4 n) v∧Same0 _ w' := linear_any (lc:=lc) HQ hu.out
     clear HQ
     cases hc:ckB L R l 4 n with
     | true=>
      have b1:=askW_yes hc
      have hu1:Hid (Upto L R l 4 (n+1)):=hu.out.step hc
      clear hc hu
      go_wp2_with (first | (go_at_call 226;refine C.mono ?_;rintro e w2 ⟨v,rfl,hv,hk2⟩;have CI:=is_any hv (askW_len _ _ _ _ _) 0;rw [b1] at CI) | (go_at_call 37;refine CI.mono ?_;rintro e w3 ⟨rfl,rfl⟩))
      go_roundw
      case rel=>first | exact ⟨n+1,by omega,by go_num,hu1,hs.trans' hk2⟩ | ((repeat apply Exists.intro);exact ⟨⟨n+1,by omega,by go_num,hu1,hs.trans' hk2⟩,rfl⟩)
      case measure=>simp [intOf];omega
     | false=>
      have b1:=askW_no hc
      have A:Hid (Ans L R l (askW L R l 4 n)):=Ans.no (by omega) hlt hu.out hc
      clear hc hu
      go_wp2_with (first | (go_at_call 226;refine C.mono ?_;rintro e w2 ⟨v,rfl,hv,hk2⟩;have CI:=is_any hv (askW_len _ _ _ _ _) 0;rw [b1] at CI) | (go_at_call 37;refine CI.mono ?_;rintro e w3 ⟨rfl,rfl⟩))
      go_ret
      exact ⟨_,_,rfl,A.out,hv,askW_len _ _ _ _ _,HK.out.trans' (hs.trans' hk2)⟩
    ·have hu1:Hid (Upto L R l (4+1) 0):=hu.out.next (by omega)
     go_wp2
     exact ⟨⟨4+1,by omega,by go_num,hu1,hs⟩,by simp [intOf]⟩
  | 5,_=>
   have f0:=cellAt (HG.out _ hs) 5
   simp only [List.getElem?_toArray,List.getElem?_cons_zero,List.getElem?_cons_succ] at f0
   go_wp2
   go_loopw [22] (fun i wr=>∃ n:Nat,n≤l.length∧i=.int .i64 (n:Int)∧Hid (Upto L R l 5 n)∧Same0 w1 wr) (fun i _=>l.length-(intOf i).toNat)
   case atStart=>exact ⟨0,Nat.zero_le _,rfl,hu0,hs⟩
   case round=>
    clear f0 hs hu0
    obtain ⟨n,hn,rfl,hu,hs⟩:=hrel
    by_cases hlt:n<l.length
    ·have HQ:=HC.out n hlt _ hs
     have C:Calls Tryz.prog 227 #[.agg #[.pointer (some ⟨b,0,none⟩),.slice lo l.length lc,.int .i64 (n:Int)]] _ fun e w' => ∃ v,e=.returned v∧FltAt w' (askW L R l 5 n) v∧Same0 _ w' := below_any (lc:=lc) HQ hu.out
     clear HQ
     cases hc:ckB L R l 5 n with
     | true=>
      have b1:=askW_yes hc
      have hu1:Hid (Upto L R l 5 (n+1)):=hu.out.step hc
      clear hc hu
      go_wp2_with (first | (go_at_call 227;refine C.mono ?_;rintro e w2 ⟨v,rfl,hv,hk2⟩;have CI:=is_any hv (askW_len _ _ _ _ _) 0;rw [b1] at CI) | (go_at_call 37;refine CI.mono ?_;rintro e w3 ⟨rfl,rfl⟩))
      go_roundw
      case rel=>first | exact ⟨n+1,by omega,by go_num,hu1,hs.trans' hk2⟩ | ((repeat apply Exists.intro);exact ⟨⟨n+1,by omega,by go_num,hu1,hs.trans' hk2⟩,rfl⟩)
      case measure=>simp [intOf];omega
     | false=>
      have b1:=askW_no hc
      have A:Hid (Ans L R l (askW L R l 5 n)):=Ans.no (by omega) hlt hu.out hc
      clear hc hu
      go_wp2_with (first | (go_at_call 227;refine C.mono ?_;rintro e w2 ⟨v,rfl,hv,hk2⟩;have CI:=is_any hv (askW_len _ _ _ _ _) 0;rw [b1] at CI) | (go_at_call 37;refine CI.mono ?_;rintro e w3 ⟨rfl,rfl⟩))
      go_ret
      exact ⟨_,_,rfl,A.out,hv,askW_len _ _ _ _ _,HK.out.trans' (hs.trans' hk2)⟩
    ·have hu1:Hid (Upto L R l (5+1) 0):=hu.out.next (by omega)
     go_wp2
     exact ⟨⟨5+1,by omega,by go_num,hu1,hs⟩,by simp [intOf]⟩
  | 6,_=>
   have f0:=cellAt (HG.out _ hs) 6
   simp only [List.getElem?_toArray,List.getElem?_cons_zero,List.getElem?_cons_succ] at f0
   go_wp2
   go_loopw [22] (fun i wr=>∃ n:Nat,n≤l.length∧i=.int .i64 (n:Int)∧Hid (Upto L R l 6 n)∧Same0 w1 wr) (fun i _=>l.length-(intOf i).toNat)
   case atStart=>exact ⟨0,Nat.zero_le _,rfl,hu0,hs⟩
   case round=>
    clear f0 hs hu0
    obtain ⟨n,hn,rfl,hu,hs⟩:=hrel
    by_cases hlt:n<l.length
    ·have HQ:=HC.out n hlt _ hs
     have C:Calls Tryz.prog 228 #[.agg #[.pointer (some ⟨b,0,none⟩),.slice lo l.length lc,.int .i64 (n:Int)]] _ fun e w' => ∃ v,e=.returned v∧FltAt w' (askW L R l 6 n) v∧Same0 _ w' := free_any (lc:=lc) HQ hu.out
     clear HQ
     cases hc:ckB L R l 6 n with
     | true=>
      have b1:=askW_yes hc
      have hu1:Hid (Upto L R l 6 (n+1)):=hu.out.step hc
      clear hc hu
      go_wp2_with (first | (go_at_call 228;refine C.mono ?_;rintro e w2 ⟨v,rfl,hv,hk2⟩;have CI:=is_any hv (askW_len _ _ _ _ _) 0;rw [b1] at CI) | (go_at_call 37;refine CI.mono ?_;rintro e w3 ⟨rfl,rfl⟩))
      go_roundw
      case rel=>first | exact ⟨n+1,by omega,by go_num,hu1,hs.trans' hk2⟩ | ((repeat apply Exists.intro);exact ⟨⟨n+1,by omega,by go_num,hu1,hs.trans' hk2⟩,rfl⟩)
      case measure=>simp [intOf];omega
     | false=>
      have b1:=askW_no hc
      have A:Hid (Ans L R l (askW L R l 6 n)):=Ans.no (by omega) hlt hu.out hc
      clear hc hu
      go_wp2_with (first | (go_at_call 228;refine C.mono ?_;rintro e w2 ⟨v,rfl,hv,hk2⟩;have CI:=is_any hv (askW_len _ _ _ _ _) 0;rw [b1] at CI) | (go_at_call 37;refine CI.mono ?_;rintro e w3 ⟨rfl,rfl⟩))
      go_ret
      exact ⟨_,_,rfl,A.out,hv,askW_len _ _ _ _ _,HK.out.trans' (hs.trans' hk2)⟩
    ·have hu1:Hid (Upto L R l (6+1) 0):=hu.out.next (by omega)
     go_wp2
     exact ⟨⟨6+1,by omega,by go_num,hu1,hs⟩,by simp [intOf]⟩
  | 7,_=>
   have f0:=cellAt (HG.out _ hs) 7
   simp only [List.getElem?_toArray,List.getElem?_cons_zero,List.getElem?_cons_succ] at f0
   go_wp2
   go_loopw [22] (fun i wr=>∃ n:Nat,n≤l.length∧i=.int .i64 (n:Int)∧Hid (Upto L R l 7 n)∧Same0 w1 wr) (fun i _=>l.length-(intOf i).toNat)
   case atStart=>exact ⟨0,Nat.zero_le _,rfl,hu0,hs⟩
   case round=>
    clear f0 hs hu0
    obtain ⟨n,hn,rfl,hu,hs⟩:=hrel
    by_cases hlt:n<l.length
    ·have HQ:=HC.out n hlt _ hs
     have C:Calls Tryz.prog 229 #[.agg #[.pointer (some ⟨b,0,none⟩),.slice lo l.length lc,.int .i64 (n:Int)]] _ fun e w' => ∃ v,e=.returned v∧FltAt w' (askW L R l 7 n) v∧Same0 _ w' := overlap_any (lc:=lc) HQ hlc hu.out
     clear HQ
     cases hc:ckB L R l 7 n with
     | true=>
      have b1:=askW_yes hc
      have hu1:Hid (Upto L R l 7 (n+1)):=hu.out.step hc
      clear hc hu
      go_wp2_with (first | (go_at_call 229;refine C.mono ?_;rintro e w2 ⟨v,rfl,hv,hk2⟩;have CI:=is_any hv (askW_len _ _ _ _ _) 0;rw [b1] at CI) | (go_at_call 37;refine CI.mono ?_;rintro e w3 ⟨rfl,rfl⟩))
      go_roundw
      case rel=>first | exact ⟨n+1,by omega,by go_num,hu1,hs.trans' hk2⟩ | ((repeat apply Exists.intro);exact ⟨⟨n+1,by omega,by go_num,hu1,hs.trans' hk2⟩,rfl⟩)
      case measure=>simp [intOf];omega
     | false=>
      have b1:=askW_no hc
      have A:Hid (Ans L R l (askW L R l 7 n)):=Ans.no (by omega) hlt hu.out hc
      clear hc hu
      go_wp2_with (first | (go_at_call 229;refine C.mono ?_;rintro e w2 ⟨v,rfl,hv,hk2⟩;have CI:=is_any hv (askW_len _ _ _ _ _) 0;rw [b1] at CI) | (go_at_call 37;refine CI.mono ?_;rintro e w3 ⟨rfl,rfl⟩))
      go_ret
      exact ⟨_,_,rfl,A.out,hv,askW_len _ _ _ _ _,HK.out.trans' (hs.trans' hk2)⟩
    ·have hu1:Hid (Upto L R l (7+1) 0):=hu.out.next (by omega)
     go_wp2
     exact ⟨⟨7+1,by omega,by go_num,hu1,hs⟩,by simp [intOf]⟩
  | 8,_=>
   have A:Hid (Ans L R l []):=.inl ⟨rfl,hu0.out⟩
   go_wp2
   go_ret
   exact ⟨[],_,rfl,A.out,rfl,by simp,HK.out.trans' hs⟩
  | j+9,hj=>exact absurd hj (by omega)
def TmAt (w:World) (g c:Nat) (xs:List Int):Prop:=Row g w (.slice (some ⟨g,0,none⟩) xs.length c) xs
theorem TmAt.same {w w' : World} {g c:Nat} {xs:List Int} (h:TmAt w g c xs) (hk:Same0 w w'):TmAt w' g c xs:=hk.row h (fun _ _ f=>f)
theorem clone_at {w:World} {ao:Option Addr} {cap:Nat} {xs:List Int} (hx:IntsAt w ao xs) (hn:0<xs.length) (hsz:xs.length≤2000) :
  Calls Tryz.prog 104 #[.slice ao xs.length cap] w fun e w' => ∃ g c,e=.returned (.slice (some ⟨g,0,none⟩) xs.length c)∧TmAt w' g c xs∧w.heap.size≤g∧g<w'.heap.size∧Same0 w w' := by
 refine (clone_term hx hn hsz).mono ?_
 rintro e w' ⟨v,rfl,hr,hk⟩
 rcases hr.2 with ⟨rfl,h0⟩ | ⟨g,c,cur,rfl,hb,hg,r⟩
 ·omega
 ·exact ⟨g,c,rfl,⟨hr.1,.inr ⟨g,c,cur,rfl,Nat.le_refl _,hg,r⟩⟩,hb,lt_of_at hg,hk⟩
set_option maxHeartbeats 8000000 in
theorem copied_any {w:World} {ao bo:Option Addr} {ac bc:Nat} {x:Ru} (h1:IntsAt w ao x.1) (h2:IntsAt w bo x.2) (p1:0<x.1.length) (p2:0<x.2.length) (m1:x.1.length≤2000) (m2:x.2.length≤2000) :
  Calls Tryz.prog 107 #[.agg #[.slice ao x.1.length ac,.slice bo x.2.length bc]] w fun e w' => ∃ g c g' c', e=.returned (.agg #[.slice (some ⟨g,0,none⟩) x.1.length c,.slice (some ⟨g', 0,none⟩) x.2.length c'])∧TmAt w' g c x.1∧TmAt w' g' c' x.2∧w.heap.size≤g∧w.heap.size≤g' ∧ g≠g' ∧ Same0 w w' := by
 obtain ⟨wb,hwb⟩:∃ wb,wb=(w.alloc (.cells #[.slice ao x.1.length ac,.slice bo x.2.length bc] 102)).alloc (.cells #[.slice none 0 0,.slice none 0 0] 102):=⟨_,rfl⟩
 have K0:Same0 w wb:=by rw [hwb];exact ((Kept.refl _ w).alloc _).alloc _
 have z0:wb.heap.size=w.heap.size+2:=by rw [hwb];simp
 have B0:wb.heap[w.heap.size]? = some (.cells #[.slice ao x.1.length ac,.slice bo x.2.length bc] 102 (0,0)):=by rw [hwb];exact heap_alloc2_old _ _ _
 have B1:wb.heap[w.heap.size+1]? = some (.cells #[.slice none 0 0,.slice none 0 0] 102 (0,0)):=by rw [hwb];exact heap_al_al _ _ _
 have HS:Hid (∀ ww,Same0 wb ww→(ww.cell? ⟨w.heap.size,0,none⟩=some (.slice ao x.1.length ac)∧ww.cell? ⟨w.heap.size,1,none⟩=some (.slice bo x.2.length bc))∧(ww.cell? ⟨w.heap.size+1,0,none⟩=some (.slice none 0 0)∧ww.cell? ⟨w.heap.size+1,1,none⟩=some (.slice none 0 0))∧ww.frozen? ⟨w.heap.size+1,0,none⟩=false∧ww.frozen? ⟨w.heap.size+1,1,none⟩=false):=fun ww hk=>⟨⟨cellAt (hk.at0 B0) 0,cellAt (hk.at0 B0) 1⟩,⟨cellAt (hk.at0 B1) 0,cellAt (hk.at0 B1) 1⟩,frozenAt (hk.at0 B1) 0,frozenAt (hk.at0 B1) 1⟩
 have C1:Hid (∀ ww,Same0 wb ww→Calls Tryz.prog 104 #[.slice ao x.1.length ac] ww fun e w' => ∃ g c,e=.returned (.slice (some ⟨g,0,none⟩) x.1.length c)∧TmAt w' g c x.1∧ww.heap.size≤g∧g<w'.heap.size∧Same0 ww w'):=fun ww hk=>clone_at ((h1.same K0).same hk) p1 m1
 have C2:Hid (∀ ww,Same0 wb ww→Calls Tryz.prog 104 #[.slice bo x.2.length bc] ww fun e w' => ∃ g c,e=.returned (.slice (some ⟨g,0,none⟩) x.2.length c)∧TmAt w' g c x.2∧ww.heap.size≤g∧g<w'.heap.size∧Same0 ww w'):=fun ww hk=>clone_at ((h2.same K0).same hk) p2 m2
 have HE:Hid (∀ ww (A B:Value),Same0 wb ww→Same0 w ((ww.setCell ⟨w.heap.size+1,0,none⟩ A).setCell ⟨w.heap.size+1,1,none⟩ B)):=fun ww A B hk=>((K0.trans' hk).setCell (fun h=>absurd h (by simp)) _).setCell (fun h=>absurd h (by simp)) _
 have HT:Hid (∀ ww g c xs (A B:Value),TmAt ww g c xs→wb.heap.size≤g→TmAt ((ww.setCell ⟨w.heap.size+1,0,none⟩ A).setCell ⟨w.heap.size+1,1,none⟩ B) g c xs):=fun ww g c xs A B ht hg=>by
  have k:Kept (fun k=>k=w.heap.size+1) ww ((ww.setCell ⟨w.heap.size+1,0,none⟩ A).setCell ⟨w.heap.size+1,1,none⟩ B):=Kept.setCell (p:=⟨w.heap.size+1,1,none⟩) (Kept.setCell (p:=⟨w.heap.size+1,0,none⟩) (Kept.refl (fun k=>k=w.heap.size+1) ww) (fun _=>rfl) A) (fun _=>rfl) B
  exact k.row ht (fun i e=>by simp [Value.ownBlock] at e;omega)
 have HR:Hid (∀ ww (A B:Value),Same0 wb ww→((ww.setCell ⟨w.heap.size+1,0,none⟩ A).setCell ⟨w.heap.size+1,1,none⟩ B).cell? ⟨w.heap.size+1,0,none⟩=some A∧((ww.setCell ⟨w.heap.size+1,0,none⟩ A).setCell ⟨w.heap.size+1,1,none⟩ B).cell? ⟨w.heap.size+1,1,none⟩=some B):=fun ww A B hk=>by
  have b:=setAt (setAt (hk.at0 B1) 0 A) 1 B
  exact ⟨cellAt b 0,cellAt b 1⟩
 have HSE:Hid (∀ ww (A B:Value),Same0 wb ww→((ww.setCell ⟨w.heap.size+1,0,none⟩ A).setCell ⟨w.heap.size+1,1,none⟩ B).cell? ⟨w.heap.size,0,none⟩=some (.slice ao x.1.length ac)∧((ww.setCell ⟨w.heap.size+1,0,none⟩ A).setCell ⟨w.heap.size+1,1,none⟩ B).cell? ⟨w.heap.size,1,none⟩=some (.slice bo x.2.length bc)):=fun ww A B hk=>by
  have k:Kept (fun k=>k=w.heap.size+1) ww ((ww.setCell ⟨w.heap.size+1,0,none⟩ A).setCell ⟨w.heap.size+1,1,none⟩ B):=Kept.setCell (p:=⟨w.heap.size+1,1,none⟩) (Kept.setCell (p:=⟨w.heap.size+1,0,none⟩) (Kept.refl (fun k=>k=w.heap.size+1) ww) (fun _=>rfl) A) (fun _=>rfl) B
  have b:=k.at (hk.at0 B0) (by omega)
  exact ⟨cellAt b 0,cellAt b 1⟩
 have CX:Hid (∀ ww so sc (xs:List Int),((so=ao∧xs=x.1∧sc=ac)∨(so=bo∧xs=x.2∧sc=bc))→Same0 wb ww→Calls Tryz.prog 104 #[.slice so xs.length sc] ww fun e w' => ∃ g c,e=.returned (.slice (some ⟨g,0,none⟩) xs.length c)∧TmAt w' g c xs∧ww.heap.size≤g∧g<w'.heap.size∧Same0 ww w' ∧ Same0 wb w'):=fun ww so sc xs h hk=>by
  rcases h with ⟨rfl,rfl,rfl⟩ | ⟨rfl,rfl,rfl⟩
  ·exact (C1.out ww hk).mono (fun e w' ⟨g,c,q1,q2,q3,q4,q5⟩=>⟨g,c,q1,q2,q3,q4,q5,hk.trans' q5⟩)
  ·exact (C2.out ww hk).mono (fun e w' ⟨g,c,q1,q2,q3,q4,q5⟩=>⟨g,c,q1,q2,q3,q4,q5,hk.trans' q5⟩)
 obtain ⟨CC0,_,_,_⟩:=HS.out wb (Kept.refl _ _)
 have W1:Same0 wb wb.drew:=Kept.drew (Kept.refl _ _)
 have HW:Hid (wb=(w.alloc (.cells #[.slice ao x.1.length ac,.slice bo x.2.length bc] 102)).alloc (.cells #[.slice none 0 0,.slice none 0 0] 102)):=hwb
 clear B0 B1 h1 h2 K0 C1 C2 hwb
 go_enter Tryz.func107,Tryz.ntmps107
 go_wp2
 rw [← HW.out]
 go_region_held3 (fun w' => w'.cell? ⟨w.heap.size,0,none⟩=some (.slice ao x.1.length ac)∧w'.cell? ⟨w.heap.size,1,none⟩=some (.slice bo x.2.length bc)) (first | exact HSE.out _ _ _ hw2 | exact cc2 | exact cc1 | exact CC0) (first
  | (go_at_call 104;have hold:=ht;refine (CX.out _ _ _ _ (by first | exact .inl ⟨rfl,rfl,rfl⟩ | exact .inr ⟨rfl,rfl,rfl⟩) hw1).mono ?_;rintro e w2 ⟨g2,c2,rfl,ht2,hg3,hg4,hk2,hw2⟩;have ht1:=hold.same hk2;obtain ⟨cc2,⟨rr1,rr2⟩,ff1,ff2⟩:=HS.out _ hw2)
  | (go_at_call 104;refine (CX.out _ _ _ _ (by first | exact .inl ⟨rfl,rfl,rfl⟩ | exact .inr ⟨rfl,rfl,rfl⟩) W1).mono ?_;rintro e w1 ⟨g,c,rfl,ht,hg1,hg2,hk,hw1⟩;obtain ⟨cc1,_⟩:=HS.out _ hw1))
 all_goals
  have y0:wb.drew.heap.size=wb.heap.size:=rfl
  have y1:=hk2.size
  have y2:=hw1.size
  go_wp2
  first
   | exact bodyPost_ret (v:=.agg #[.slice (some ⟨g,0,none⟩) x.1.length c,.slice (some ⟨g2,0,none⟩) x.2.length c2]) (by obtain ⟨r0,r1⟩:=HR.out w2 (.slice (some ⟨g,0,none⟩) x.1.length c) (.slice (some ⟨g2,0,none⟩) x.2.length c2) hw2;simp [results,Tryz.results107,go_sem,r0,r1]) rfl ⟨g,c,g2,c2,rfl,HT.out _ _ _ _ _ _ ht1 (by omega),HT.out _ _ _ _ _ _ ht2 (by omega),by omega,by omega,by omega,HE.out _ _ _ hw2⟩
   | exact bodyPost_ret (v:=.agg #[.slice (some ⟨g2,0,none⟩) x.1.length c2,.slice (some ⟨g,0,none⟩) x.2.length c]) (by obtain ⟨r0,r1⟩:=HR.out w2 (.slice (some ⟨g2,0,none⟩) x.1.length c2) (.slice (some ⟨g,0,none⟩) x.2.length c) hw2;simp [results,Tryz.results107,go_sem,r0,r1]) rfl ⟨g2,c2,g,c,rfl,HT.out _ _ _ _ _ _ ht2 (by omega),HT.out _ _ _ _ _ _ ht1 (by omega),by omega,by omega,by omega,HE.out _ _ _ hw2⟩
def OCells (w:World) (vs:List Value) (l:List Ru):Prop:=
 vs.length=l.length * 2∧∀ i (h:i<l.length),∃ g c g' c', vs[i * 2]? = some (.slice (some ⟨g,0,none⟩) l[i].1.length c)∧vs[i * 2+1]? = some (.slice (some ⟨g', 0,none⟩) l[i].2.length c')∧TmAt w g c l[i].1∧TmAt w g' c' l[i].2
theorem TmAt.kept {w w' : World} {g c:Nat} {xs:List Int} {S:Nat→Prop} (h:TmAt w g c xs) (hk:Kept S w w') (hS:∀ k,S k→∀ cur,w.heap[k]? ≠ some (.cells cur 3 (0,0))):TmAt w' g c xs:=by
 refine hk.row h (fun k e hs=>?_)
 rcases h.2 with ⟨h0,_⟩ | ⟨g', c', cur,h1,_,hg,_⟩
 ·cases h0
 ·cases h1
  simp [Value.ownBlock] at e
  subst e
  exact hS _ hs _ hg
theorem TmAt.arg {w:World} {g c:Nat} {xs:List Int} (h:TmAt w g c xs) (hx:xs.length≤2000):Arg w (some ⟨g,0,none⟩) xs c:=by
 obtain ⟨ao,cap,e,h1,h2,_⟩:=Row.ints h
 simp only [Value.slice.injEq] at e
 obtain ⟨rfl,_,rfl⟩:=e
 exact ⟨h1,h2,(fun e=>by cases e),by omega⟩
theorem OCells.kept {w w' : World} {vs:List Value} {l:List Ru} {S:Nat→Prop} (h:OCells w vs l) (hk:Kept S w w') (hS:∀ k,S k→∀ cur,w.heap[k]? ≠ some (.cells cur 3 (0,0))):OCells w' vs l:=
 ⟨h.1,fun i hi=>by
  obtain ⟨g,c,g', c', h1,h2,h3,h4⟩:=h.2 i hi
  exact ⟨g,c,g', c', h1,h2,h3.kept hk hS,h4.kept hk hS⟩⟩
theorem OCells.same {w w' : World} {vs:List Value} {l:List Ru} (h:OCells w vs l) (hk:Same0 w w'):OCells w' vs l:=h.kept hk (fun _ f=>f.elim)
theorem OCells.rcells {w:World} {vs:List Value} {l:List Ru} (h:OCells w vs l) (hl:∀ x∈l,x.1.length≤2000∧x.2.length≤2000):RCells w vs l:=
 ⟨h.1,fun i hi=>by
  obtain ⟨g,c,g', c', h1,h2,h3,h4⟩:=h.2 i hi
  have:=hl _ (List.getElem_mem hi)
  exact ⟨_,_,_,_,h1,h2,h3.arg this.1,h4.arg this.2⟩⟩
theorem OCells.append {w:World} {vs us:List Value} {l m:List Ru} (h:OCells w vs l) (k:OCells w us m):OCells w (vs++us) (l++m):=by
 refine ⟨by simp [h.1,k.1];omega,fun i hi=>?_⟩
 by_cases hl:i<l.length
 ·rw [List.getElem_append_left hl,List.getElem?_append_left (by rw [h.1];omega),List.getElem?_append_left (by rw [h.1];omega)]
  exact h.2 i hl
 ·have hm:i-l.length<m.length:=by simp at hi;omega
  rw [List.getElem_append_right (by omega),List.getElem?_append_right (by rw [h.1];omega),List.getElem?_append_right (by rw [h.1];omega)]
  have e1:i * 2-vs.length=(i-l.length) * 2:=by rw [h.1];omega
  have e2:i * 2+1-vs.length=(i-l.length) * 2+1:=by rw [h.1];omega
  rw [e1,e2]
  exact k.2 _ hm
theorem take_set2 (cs:Array Value) (k:Nat) (A B:Value) (h:k * 2+1<cs.size):((cs.setIfInBounds (k * 2) A).setIfInBounds (k * 2+1) B).toList.take ((k+1) * 2)=cs.toList.take (k * 2) ++ [A,B]:=by
 obtain ⟨l⟩:=cs
 simp only [List.size_toArray] at h
 simp only [List.setIfInBounds_toArray]
 have e1:l.set (k * 2) A=l.take (k * 2)++A :: l.drop (k * 2+1):=by rw [List.set_eq_take_append_cons_drop,if_pos (by omega)]
 have e2:(l.take (k * 2)).length=k * 2:=by simp;omega
 have e3:l.drop (k * 2+1)=l[k * 2+1] :: l.drop (k * 2+2):=List.drop_eq_getElem_cons h
 have e4:((l.take (k * 2)++A :: l.drop (k * 2+1)).set (k * 2+1) B)=l.take (k * 2)++A :: B :: l.drop (k * 2+2):=by
  rw [e3,List.set_append_right _ _ (by omega),e2]
  have:k * 2+1-k * 2=1:=by omega
  rw [this];rfl
 have e5:(k+1) * 2=(l.take (k * 2)).length+2:=by omega
 rw [e1,e4,e5,List.take_length_add_append]
 rfl
theorem OCells.one {w:World} {g c g' c' : Nat} {x:Ru} (h1:TmAt w g c x.1) (h2:TmAt w g' c' x.2):OCells w [.slice (some ⟨g,0,none⟩) x.1.length c,.slice (some ⟨g', 0,none⟩) x.2.length c'] [x]:=
 ⟨rfl,fun i hi=>by
  obtain rfl:i=0:=by simp at hi;omega
  exact ⟨g,c,g', c', rfl,rfl,h1,h2⟩⟩
set_option maxHeartbeats 4000000 in
theorem copies_any {w:World} {lo:Option Addr} {lc:Nat} {l:List Ru} (hl:RsAt w lo l) (hn:l.length≤100) (hx:∀ x∈l,(0<x.1.length∧x.1.length≤2000)∧0<x.2.length∧x.2.length≤2000) :
  Calls Tryz.prog 121 #[.slice lo l.length lc] w fun e w' => ∃ vs,e=.returned (.slice (some ⟨w.heap.size,0,none⟩) l.length l.length)∧w'.ownsRow w.heap.size 102 2 (.slice (some ⟨w.heap.size,0,none⟩) l.length l.length) l.length vs∧OCells w' vs l∧Same0 w w' := by
 have i0:(0:Int)≤(l.length:Int):=by omega
 obtain ⟨Z,hZs,hmk⟩:∃ Z:Array Value,Z.size=l.length * 2∧∀ w:World,(Instr.makeSlice 29 (.int .i64 (l.length:Int)) (.int .i64 (l.length:Int))).run Tryz.prog w=.ok (.slice (some ⟨w.heap.size,0,none⟩) l.length l.length) (w.alloc (.cells Z 102)):=by
  obtain ⟨i,hi,hz0,hz1,hz2⟩:=info_parts info_rule
  refine ⟨madeCells (Value.agg #[.slice none 0 0,.slice none 0 0]).cells (l.length * 2),size_madeCells _ _,fun w=>?_⟩
  have:=run_make w 29 102 i _ Tryz.underlying29 hi hz0 .i64 .i64 (l.length:Int) (l.length:Int) (by omega) (by omega) (by rw [hz2];omega) (by omega)
  simpa [hz1] using this
 have K0:Same0 w (w.alloc (.cells Z 102)):=(Kept.refl _ w).alloc _
 have G0:=heap_alloc_new w (.cells Z 102)
 go_enter Tryz.func121,Tryz.ntmps121
 go_wp2
 go_loopw [11] (fun i wr=>∃ (k:Nat) (cs:Array Value),k≤l.length∧i=.int .i64 (k:Int)∧wr.heap[w.heap.size]? = some (.cells cs 102 (0,0))∧Hid (cs.size=l.length * 2∧OCells wr (cs.toList.take (k * 2)) (l.take k))∧Same0 w wr) (fun i _=>l.length-(intOf i).toNat)
 case atStart=>exact ⟨0,Z,Nat.zero_le _,rfl,G0,⟨hZs,by simp,fun i hi=>absurd hi (by simp)⟩,K0⟩
 case round=>
  clear G0 K0 hZs hmk
  obtain ⟨k,cs,hk,rfl,hg,hO,hs⟩:=hrel
  by_cases hlt:k<l.length
  ·obtain ⟨gb,goff,rfl,hgb,go1,gc1,go2,gc2,r0,r1,A1,A2⟩:=(hl.same hs).get hlt
   have i1:(0:Int)≤(k:Int):=by omega
   have i2:(k:Int)<(l.length:Int):=by omega
   have hxk:=hx _ (List.getElem_mem hlt)
   have KA:Same0 wr (wr.alloc (.cells #[.slice go1 l[k].1.length gc1,.slice go2 l[k].2.length gc2] 102)):=(Kept.refl _ _).alloc _
   have CC:Calls Tryz.prog 107 #[.agg #[.slice go1 l[k].1.length gc1,.slice go2 l[k].2.length gc2]] (wr.alloc (.cells #[.slice go1 l[k].1.length gc1,.slice go2 l[k].2.length gc2] 102)) _:=copied_any (ac:=gc1) (bc:=gc2) (x:=l[k]) (A1.same KA).at' (A2.same KA).at' hxk.1.1 hxk.2.1 hxk.1.2 hxk.2.2
   obtain ⟨hcs,hO1⟩:=hO.out
   have hb1:k * 2<cs.size:=by omega
   have hb2:k * 2+1<cs.size:=by omega
   have HF:Hid (∀ ww,Same0 wr ww→ww.heap[w.heap.size]? = some (.cells cs 102 (0,0))):=fun ww hk=>hk.at0 hg
   obtain ⟨o0,e0⟩:∃ o0,cs[k * 2]? = some o0:=⟨_,Array.getElem?_eq_getElem hb1⟩
   obtain ⟨o1,e1⟩:∃ o1,cs[k * 2+1]? = some o1:=⟨_,Array.getElem?_eq_getElem hb2⟩
   have HI:Hid (∀ ww,Same0 wr ww→ww.cell? ⟨w.heap.size,k * 2,none⟩=some o0∧ww.cell? ⟨w.heap.size,k * 2+1,none⟩=some o1∧ww.frozen? ⟨w.heap.size,k * 2,none⟩=false∧ww.frozen? ⟨w.heap.size,k * 2+1,none⟩=false):=fun ww hk=>⟨(cellAt (HF.out ww hk) _).trans e0,(cellAt (HF.out ww hk) _).trans e1,frozenAt (HF.out ww hk) _,frozenAt (HF.out ww hk) _⟩
   have FIN:Hid (∀ w2 g c g' c', Same0 wr w2→TmAt w2 g c l[k].1→TmAt w2 g' c' l[k].2→∃ (k' : Nat) (cs:Array Value),k' ≤ l.length∧Value.int .i64 ((k:Int)+1)=.int .i64 (k' : Int)∧((w2.setCell ⟨w.heap.size,k * 2,none⟩ (.slice (some ⟨g,0,none⟩) l[k].1.length c)).setCell ⟨w.heap.size,k * 2+1,none⟩ (.slice (some ⟨g', 0,none⟩) l[k].2.length c')).heap[w.heap.size]? = some (.cells cs 102 (0,0))∧Hid (cs.size=l.length * 2∧OCells ((w2.setCell ⟨w.heap.size,k * 2,none⟩ (.slice (some ⟨g,0,none⟩) l[k].1.length c)).setCell ⟨w.heap.size,k * 2+1,none⟩ (.slice (some ⟨g', 0,none⟩) l[k].2.length c')) (cs.toList.take (k' * 2)) (l.take k'))∧Same0 w ((w2.setCell ⟨w.heap.size,k * 2,none⟩ (.slice (some ⟨g,0,none⟩) l[k].1.length c)).setCell ⟨w.heap.size,k * 2+1,none⟩ (.slice (some ⟨g', 0,none⟩) l[k].2.length c'))):=by
    intro w2 g c g' c' h2 t1 t2
    have hg2:=HF.out w2 h2
    have ks:Kept (fun k=>k=w.heap.size) w2 ((w2.setCell ⟨w.heap.size,k * 2,none⟩ (.slice (some ⟨g,0,none⟩) l[k].1.length c)).setCell ⟨w.heap.size,k * 2+1,none⟩ (.slice (some ⟨g', 0,none⟩) l[k].2.length c')):=Kept.setCell (p:=⟨w.heap.size,k * 2+1,none⟩) (Kept.setCell (p:=⟨w.heap.size,k * 2,none⟩) (Kept.refl (fun k=>k=w.heap.size) w2) (fun _=>rfl) _) (fun _=>rfl) _
    have ty:∀ q,q=w.heap.size→∀ cur,w2.heap[q]? ≠ some (.cells cur 3 (0,0)):=fun q e cur h=>by subst e;rw [hg2] at h;cases h
    have hO2:=((hO1.same h2).kept ks ty).append (OCells.one (t1.kept ks ty) (t2.kept ks ty))
    refine ⟨k+1,_,by omega,by congr 1,setAt (setAt hg2 _ _) _ _,⟨by simp [hcs],?_⟩,?_⟩
    ·rw [take_set2 _ _ _ _ hb2,List.take_add_one,List.getElem?_eq_getElem hlt]
     exact hO2
    ·exact Kept.trans (hs.trans' h2) ks (fun i hi e=>by omega)
   clear hO hO1 hcs hb1 hb2 e0 e1 hg hxk A1 A2 hx hl
   go_wp2_with (first | (go_at_call 107;refine CC.mono ?_;rintro e w2 ⟨g,c,g', c', rfl,t1,t2,_,_,_,hk2⟩;obtain ⟨q1,q2,q3,q4⟩:=HI.out _ (KA.trans' hk2)))
   exact ⟨FIN.out w2 g c g' c' (KA.trans' hk2) t1 t2,by simp [intOf];omega⟩
  ·obtain rfl:k=l.length:=by omega
   obtain ⟨hcs,hO1⟩:=hO.out
   rw [List.take_length] at hO1
   have RW:Hid (wr.ownsRow w.heap.size 102 2 (.slice (some ⟨w.heap.size,0,none⟩) l.length l.length) l.length (cs.toList.take (l.length * 2))):=⟨by simp [hcs],.inr ⟨w.heap.size,l.length,cs,rfl,Nat.le_refl _,hg,Nat.le_refl _,by unfold maxLen;omega,hcs,rfl⟩⟩
   have OC:Hid (OCells wr (cs.toList.take (l.length * 2)) l):=hO1
   clear hO hO1 hcs hg
   go_wp2
   go_ret
   exact ⟨_,rfl,RW.out,OC.out,hs⟩
structure StAt (w:World) (b bs:Nat) (L:List Sym) (R:List Ru) (lv:Value) (vs:List Value):Prop where
 blk:w.heap[b]? = some (.cells #[.pointer (some ⟨bs,0,none⟩),lv] 140 (0,0))
 sig:Sg w.heap.size w bs L
 row:w.ownsRow 0 102 2 lv R.length vs
 own:OCells w vs R
 le:R.length≤100
 ok:∀ x∈R,checkE L x.1=0∧checkE L x.2=0
theorem ok_len {L:List Sym} {x:Ru} (h:checkE L x.1=0∧checkE L x.2=0):(0<x.1.length∧x.1.length≤2000)∧0<x.2.length∧x.2.length≤2000:=by
 obtain ⟨a1,_,a2⟩:=checkE_zero.1 h.1
 obtain ⟨b1,_,b2⟩:=checkE_zero.1 h.2
 exact ⟨⟨isT_pos a2,a1⟩,isT_pos b2,b1⟩
theorem StAt.rc {w:World} {b bs:Nat} {L:List Sym} {R:List Ru} {lv:Value} {vs:List Value} (h:StAt w b bs L R lv vs):RCells w vs R:=
 h.own.rcells (fun x hx=>⟨(ok_len (h.ok x hx)).1.2,(ok_len (h.ok x hx)).2.2⟩)
theorem StAt.read {w:World} {b bs:Nat} {L:List Sym} {R:List Ru} {lv:Value} {vs:List Value} (h:StAt w b bs L R lv vs):∃ ro rc,lv=.slice ro R.length rc∧StR w b bs ro rc L R:=by
 obtain ⟨ao,cap,rfl,h1,h2,_⟩:=row_rules h.row h.rc
 exact ⟨ao,cap,rfl,h.blk,h.sig,h1,h2,h.le,fun x hx=>(h.ok x hx).1⟩
def StoB (w:World) (b:Nat) (lv:Value) (k:Nat):Prop:=k=b∨lv.ownBlock=some k
def IsSt (w:World) (k:Nat):Prop:=(∃ c,w.heap[k]? = some (.cells c 140 (0,0)))∨∃ c,w.heap[k]? = some (.cells c 102 (0,0))
theorem own_blk {w:World} {base:Nat} {e:TypeId} {size n:Nat} {v:Value} {xs:List Value} (h:w.ownsRow base e size v n xs) {k:Nat} (hk:v.ownBlock=some k):∃ c,w.heap[k]? = some (.cells c e (0,0)):=by
 rcases h.2 with ⟨rfl,_⟩ | ⟨g,cap,cur,rfl,_,hg,_⟩
 ·cases hk
 ·simp [Value.ownBlock] at hk;subst hk;exact ⟨cur,hg⟩
theorem StAt.isSt {w:World} {b bs:Nat} {L:List Sym} {R:List Ru} {lv:Value} {vs:List Value} (h:StAt w b bs L R lv vs):∀ k,StoB w b lv k→IsSt w k:=by
 rintro k (rfl | e)
 ·exact .inl ⟨_,h.blk⟩
 ·exact .inr (own_blk h.row e)
theorem IsSt.no_int {w:World} {k:Nat} (h:IsSt w k):∀ cur,w.heap[k]? ≠ some (.cells cur 3 (0,0)):=by
 intro cur e
 rcases h with ⟨c,h⟩ | ⟨c,h⟩ <;> (rw [h] at e;cases e)
theorem IsSt.no_sig {w:World} {k b:Nat} {L:List Sym} {sv:Value} {mr:Option Nat} (h:IsSt w k) (hs:SigAt w b L sv mr):¬ Foot b sv mr k:=by
 rintro (e | e | e)
 ·subst e
  have:=hs.blk
  rcases h with ⟨c,h⟩ | ⟨c,h⟩ <;> (rw [h] at this;cases this)
 ·obtain ⟨c', this⟩:=own_blk hs.row e
  rcases h with ⟨c,h⟩ | ⟨c,h⟩ <;> (rw [h] at this;cases this)
 ·subst e
  obtain ⟨n,D,hm,_⟩:=hs.map
  obtain ⟨es,clock,this,_⟩:=hm
  rcases h with ⟨c,h⟩ | ⟨c,h⟩ <;> (rw [h] at this;cases this)
theorem Sg.kept_ty {n b:Nat} {w w' : World} {L:List Sym} {S:Nat→Prop} (h:Sg n w b L) (hk:Kept S w w') (hS:∀ k,S k→IsSt w k):Sg n w' b L:=by
 obtain ⟨⟨sv,mr,h1,h2⟩,h3⟩:=h
 exact ⟨⟨sv,mr,h1.kept hk (fun k e s=>(hS k s).no_sig h1 e),h2⟩,h3⟩
theorem Same0.mono' {S:Nat→Prop} {w w' : World} (h:Same0 w w'):Kept S w w' := h.mono (fun _ _ f=>f.elim)
theorem StAt.same {w w' : World} {b bs:Nat} {L:List Sym} {R:List Ru} {lv:Value} {vs:List Value} (h:StAt w b bs L R lv vs) (hk:Same0 w w'):StAt w' b bs L R lv vs:=
 ⟨hk.at0 h.blk,sg_up (h.sig.same hk) hk.size,hk.row h.row (fun _ _ f=>f),h.own.same hk,h.le,h.ok⟩
theorem step_callx {ops:Array Oper} {o:Oper} {a:Act} {w:World} {K:Act→World→Prop} {Q:Exit→Act→World→Prop} {E:Prop} {f:FuncId} {args:Array Value} {R:Ending→World→Prop} (hgd:o.guard=none)
  (c:Calls Tryz.prog f args w R) (hrun:(execOp a.eval o).run Tryz.prog w=.ok (.enter f args) w) (hR:∀ e w', R e w' → ∃ v,e=.returned v∧(K (a.put o.dst v) w')) :
  if Region.wanted o (yielded ops a.tmps)=true then Oper.wp Tryz.prog o a w K Q else E:=by
 have hw:Region.wanted o (yielded ops a.tmps)=true:=by simp [Region.wanted,hgd]
 rw [if_pos hw]
 unfold Oper.wp
 rw [hrun,Oper.upon_enter]
 refine c.mono fun e w' h=>?_
 obtain ⟨v,rfl,h2⟩:=hR e w' h
 exact h2
theorem run_rules {w0:World} (ty:TypeId) {base N:Nat} {vs:List Value} {v:Value} (hr:w0.ownsRow base 102 2 v N vs) {ad:Addr} {m c:Nat} {us:List Value} (hl:us.length=m * 2) (hu:∀ j u,us[j]? = some u→w0.cell? (ad.add j)=some u) (h1:∀ u∈us,u.oneCell' = true) (hb:base≤w0.heap.size) (hsz:N+m≤1000) :
  ∃ v' w', (Builtin.append_ #[29,29] ty #[v,.slice (some ad) m c]).run Tryz.prog w0=.ok v' w' ∧ w'.ownsRow base 102 2 v' (N+m) (vs++us)∧Kept (fun k=>v.ownBlock=some k) w0 w' ∧ ∀ k,v'.ownBlock=some k→v.ownBlock=some k∨w0.heap.size≤k:=by
 obtain ⟨i,hi,hz0,hz1,hz2⟩:=info_parts info_rule
 by_cases hm:0<m
 ·obtain ⟨g,cap,w', q1,q2,q3,q4,_⟩:=run_append_lies (P:=Tryz.prog) w0 29 ty base 102 i _ 2 48 Tryz.underlying29 hi hz0 hz1 hz2 rfl (by decide) v N vs hr ad m c us hl hu h1 hm (by unfold maxLen;omega) (by omega) hb w0.heap.size rfl
  refine ⟨_,w', q1,q2,Kept.grown (Kept.refl _ w0) q3 (fun _ e _=>e),fun k e=>?_⟩
  simp [Value.ownBlock] at e
  subst e
  exact q4.imp id (fun e=>by omega)
 ·obtain rfl:m=0:=by omega
  obtain ⟨v', w', q1,q2,q3,q4⟩:=run_append_own (P:=Tryz.prog) w0 base 29 ty 102 i _ 2 48 Tryz.underlying29 hi hz0 hz1 hz2 rfl (by decide) v N vs hr ad 0 c us hl hu h1 (by unfold maxLen;omega) (by omega) hb
  refine ⟨v', w', q1,q2,Kept.grown (Kept.refl _ w0) q3 (fun _ e _=>e),fun k e=>.inl ?_⟩
  rcases hr.2 with ⟨rfl,h0⟩ | ⟨g,cap,cur,rfl,_,hg,g1,g2,g3,g4⟩
  ·rw [q4.2 ⟨rfl,rfl⟩] at e;cases e
  ·have e0:us=[]:=List.eq_nil_of_length_eq_zero (by omega)
   subst e0
   have:=run_append_room (P:=Tryz.prog) w0 29 ty 102 i Tryz.underlying29 hi g N cap cur hg ad 0 c [] (by simp) (by simp) (by simp) (by omega) (by rw [hz1,g3];simp;omega)
   rw [q1] at this
   simp only [Result.ok.injEq] at this
   rw [this.1] at e
   exact e
theorem step_rules {w0:World} {ops:Array Oper} {o:Oper} {a:Act} {K:Act→World→Prop} {Q:Exit→Act→World→Prop} {E:Prop} (hgd:o.guard=none) (s x:Operand)
  (ho:o.op=.call { callee:=.builtin .append,args:=#[s,x],argTypes:=#[29,29] })
  (base N:Nat) (vs:List Value) (v:Value) (hs:a.eval s=v) (hr:w0.ownsRow base 102 2 v N vs) (ad:Addr) (m c:Nat) (us:List Value) (hx:a.eval x=.slice (some ad) m c) (hl:us.length=m * 2) (hu:∀ j u,us[j]? = some u→w0.cell? (ad.add j)=some u) (h1:∀ u∈us,u.oneCell' = true) (hb:base≤w0.heap.size) (hsz:N+m≤1000)
  (h:∀ v' w', w'.ownsRow base 102 2 v' (N+m) (vs++us)→Kept (fun k=>v.ownBlock=some k) w0 w' → (∀ k,v'.ownBlock=some k→v.ownBlock=some k∨w0.heap.size≤k)→K (a.put o.dst v') w') :
  if Region.wanted o (yielded ops a.tmps)=true then Oper.wp Tryz.prog o a w0 K Q else E:=by
 have hw:Region.wanted o (yielded ops a.tmps)=true:=by simp [Region.wanted,hgd]
 rw [if_pos hw]
 obtain ⟨v', w', hr1,hr2,hr3,hr4⟩:=run_rules (c:=c) o.type hr hl hu h1 hb hsz
 exact Lib.wp_append_run w0 s x 29 29 ho _ _ hs hx v' w' hr1 (h v' w' hr2 hr3 hr4)
theorem err_nil (w:World):(binOp .neq 46 .nilIface .nilIface).run Tryz.prog w=.ok (.bool false) w:=by kernel_rfl
theorem err_flt (v:Value) (w:World):(binOp .neq 46 (.iface 141 v) .nilIface).run Tryz.prog w=.ok (.bool true) w:=by kernel_rfl
theorem Ans.flt {L:List Sym} {R l:List Ru} {ws:List (Int × Int)} {w:World} {v:Value} (h:Ans L R l ws) (hf:FltAt w ws v):(ws=[]∧v=.nilIface)∨(ws≠[]∧∃ k,v=.iface 141 (.pointer (some ⟨k,0,none⟩))):=by
 rcases h with ⟨rfl,_⟩ | ⟨j,n,_,_,_,_,rfl⟩
 ·exact .inl ⟨rfl,hf⟩
 ·refine .inr ⟨wrongL_ne _ _ _ _ _,?_⟩
  unfold wrongL at hf
  have key:∀ {c:Int} {r:List (Int × Int)},FltAt w ((c,(n:Int)) :: r) v→∃ k,v=.iface 141 (.pointer (some ⟨k,0,none⟩)):=by
   intro c r h
   rcases h with ⟨e,_⟩ | ⟨_,k,u,e,_⟩
   ·omega
   ·exact ⟨k,e⟩
  split at hf
  ·exact key hf
  ·split at hf
   ·exact key hf
   ·exact key hf
def AddPost (L:List Sym) (R l:List Ru) (b bs:Nat) (lv:Value) (w:World) (e:Ending) (w' : World):Prop:=
 ∃ ws v,e=.returned v∧Ans L R l ws∧FltAt w' ws v∧ws.length≤2∧(ws≠[]→Same0 w w')∧(ws=[]→∃ lv' vs', StAt w' b bs L (R++l) lv' vs' ∧ Kept (StoB w b lv) w w' ∧ ∀ k,lv'.ownBlock=some k→lv.ownBlock=some k∨w.heap.size≤k)
theorem Ans.fit {L:List Sym} {R l:List Ru} (h:Ans L R l []) (hR:R.length≤100):R.length+l.length≤100∧∀ x∈l,checkE L x.1=0∧checkE L x.2=0:=by
 refine ⟨?_,fun x hx=>?_⟩
 ·by_cases h0:l.length=0
  ·omega
  ·have:=h.nil 0 (by omega) 0 (by omega)
   simpa [ckB,askB] using this
 ·obtain ⟨i,hi,rfl⟩:=List.mem_iff_getElem.1 hx
  have:=h.nil 1 (by omega) i hi
  simp only [ckB,askB,Bool.and_eq_true,decide_eq_true_eq] at this
  simpa [List.getD,hi] using this
set_option maxHeartbeats 8000000 in
theorem add_rules {w:World} {b bs:Nat} {L:List Sym} {R:List Ru} {lv:Value} {vs:List Value} {lo:Option Addr} {l:List Ru} {lc:Nat} (h:StAt w b bs L R lv vs) (hl:RsAt w lo l) (hll:l.length≤140737488355328) (hlc:l.length≤lc) :
  Calls Tryz.prog 68 #[.pointer (some ⟨b,0,none⟩),.slice lo l.length lc] w (AddPost L R l b bs lv w):=by
 obtain ⟨ro,rc,rfl,hR⟩:=h.read
 have C:=checkR_any hR hl hll hlc
 have hn:=err_nil
 have hf:=err_flt
 unfold ChkPost at C
 go_enter Tryz.func68,Tryz.ntmps68
 go_upto_region 2 with (first | (go_at_call 124;refine C.mono ?_;rintro e w1 ⟨ws,v,rfl,hA,hv,hws,hk1⟩))
 rcases hA.flt hv with ⟨rfl,rfl⟩ | ⟨hne,k,rfl⟩
 ·have A0:Hid (Ans L R l []):=hA
  obtain ⟨hsz,hok⟩:=hA.fit h.le
  have h1:=h.same hk1
  have hl1:=hl.same hk1
  have CC:Hid (∀ ww,Same0 w1 ww→Calls Tryz.prog 121 #[.slice lo l.length lc] ww fun e w' => ∃ us,e=.returned (.slice (some ⟨ww.heap.size,0,none⟩) l.length l.length)∧w'.ownsRow ww.heap.size 102 2 (.slice (some ⟨ww.heap.size,0,none⟩) l.length l.length) l.length us∧OCells w' us l∧Same0 w1 w'):=fun ww hk=>(copies_any (hl1.same hk) (by omega) (fun x hx=>ok_len (hok x hx))).mono (fun e w' ⟨us,q1,q2,q3,q4⟩=>⟨us,q1,q2,q3,hk.trans' q4⟩)
  have HB:Hid (∀ ww,Same0 w1 ww→ww.cell? ⟨b,1,none⟩=some (.slice ro R.length rc)∧ww.ownsRow 0 102 2 (.slice ro R.length rc) R.length vs):=fun ww hk=>⟨cellAt (h1.same hk).blk 1,(h1.same hk).row⟩
  have HU:Hid (∀ w2 g us,w2.ownsRow g 102 2 (.slice (some ⟨g,0,none⟩) l.length l.length) l.length us→OCells w2 us l→us.length=l.length * 2∧(∀ j u,us[j]? = some u→w2.cell? ((⟨g,0,none⟩:Addr).add j)=some u)∧∀ u∈us,u.oneCell' = true):=fun w2 g us r o=>⟨o.1,r.cells rfl,(o.rcells (fun x hx=>⟨(ok_len (hok x hx)).1.2,(ok_len (hok x hx)).2.2⟩)).one⟩
  have HC7:Hid (∀ w2 w7,Same0 w1 w2→Kept (fun k=>(Value.slice ro R.length rc).ownBlock=some k) w2 w7→w7.cell? ⟨b,1,none⟩=some (.slice ro R.length rc)∧w7.frozen? ⟨b,1,none⟩=false):=fun w2 w7 k1 k2=>by
   have h2:=h1.same k1
   have b7:=k2.at h2.blk (fun e=>by
    obtain ⟨c,hc⟩:=own_blk h2.row e
    rw [h2.blk] at hc;cases hc)
   exact ⟨cellAt b7 1,frozenAt b7 1⟩
  have FIN:Hid (∀ w2 w7 us vo vc,Same0 w1 w2→OCells w2 us l→w7.ownsRow 0 102 2 (.slice vo (R.length+l.length) vc) (R.length+l.length) (vs++us)→Kept (fun k=>(Value.slice ro R.length rc).ownBlock=some k) w2 w7→(∀ k,(Value.slice vo (R.length+l.length) vc).ownBlock=some k→(Value.slice ro R.length rc).ownBlock=some k∨w2.heap.size≤k)→∃ lv' vs', StAt (w7.setCell ⟨b,1,none⟩ (.slice vo (R.length+l.length) vc)) b bs L (R++l) lv' vs' ∧ Kept (StoB w b (.slice ro R.length rc)) w (w7.setCell ⟨b,1,none⟩ (.slice vo (R.length+l.length) vc))∧∀ k,lv'.ownBlock=some k→(Value.slice ro R.length rc).ownBlock=some k∨w.heap.size≤k):=by
   intro w2 w7 us vo vc k1 o2 r7 k7 hat
   have h2:=h1.same k1
   have k0:Same0 w w2:=hk1.trans' k1
   have ks:Kept (StoB w b (.slice ro R.length rc)) w2 (w7.setCell ⟨b,1,none⟩ (.slice vo (R.length+l.length) vc)):=Kept.setCell (p:=⟨b,1,none⟩) (k7.mono (S' := StoB w b (.slice ro R.length rc)) (fun _ _ e=>.inr e)) (fun _=>.inl rfl) _
   have b7:w7.heap[b]? = some (.cells #[.pointer (some ⟨bs,0,none⟩),.slice ro R.length rc] 140 (0,0)):=k7.at h2.blk (fun e=>by
    obtain ⟨c,hc⟩:=own_blk h2.row e
    rw [h2.blk] at hc;cases hc)
   have ty:=fun k e=>(h2.isSt k e).no_int
   have hok2:∀ x∈R++l,checkE L x.1=0∧checkE L x.2=0:=fun x hx=>by
    rcases List.mem_append.1 hx with q | q
    ·exact h.ok x q
    ·exact hok x q
   refine ⟨.slice vo (R.length+l.length) vc,vs++us,⟨setAt b7 1 _,sg_up (h2.sig.kept_ty ks h2.isSt) ks.size,?_,(h2.own.kept ks ty).append (o2.kept ks ty),by simp;omega,hok2⟩,Kept.trans k0.mono' ks (fun _ _ e=>e),fun k e=>(hat k e).imp id (fun q=>by have:=k0.size;omega)⟩
   rw [List.length_append]
   have kb:Kept (fun k=>k=b) w7 (w7.setCell ⟨b,1,none⟩ (.slice vo (R.length+l.length) vc)):=Kept.setCell (p:=⟨b,1,none⟩) (Kept.refl (fun k=>k=b) w7) (fun _=>rfl) _
   exact kb.row r7 (fun k e q=>by
    subst q
    obtain ⟨c,hc⟩:=own_blk r7 e
    rw [b7] at hc;cases hc)
  clear hA hv C h hl hR h1 hl1 hok
  obtain ⟨c1,_⟩:=HB.out w1 (Kept.refl _ _)
  go_wp2
  go_region_law (first
   | (refine step_rules (by rfl) _ _ (by rfl) 0 R.length vs (.slice ro R.length rc) (by rfl) r2 ⟨_,0,none⟩ l.length l.length us (by rfl) u1 u2 u3 (Nat.zero_le _) (by omega) ?_;intro v7 w7 r7 k7 hat7;obtain ⟨vo,vc,rfl⟩:=row_shape r7;obtain ⟨c7,f7⟩:=HC7.out w2 w7 k2 k7)
   | (refine step_callx rfl (CC.out _ (Kept.drew (Kept.refl _ _))) (by simp [go_sem]) ?_;rintro e w2 ⟨us,rfl,rr2,o2,k2⟩;refine ⟨_,rfl,?_⟩;obtain ⟨c2,r2⟩:=HB.out w2 k2;obtain ⟨u1,u2,u3⟩:=HU.out _ _ _ rr2 o2))
  all_goals
   have FF:Hid (∃ lv' vs', StAt (w7.setCell ⟨b,1,none⟩ (.slice vo (R.length+l.length) vc)) b bs L (R++l) lv' vs' ∧ Kept (StoB w b (.slice ro R.length rc)) w (w7.setCell ⟨b,1,none⟩ (.slice vo (R.length+l.length) vc))∧∀ k,lv'.ownBlock=some k→(Value.slice ro R.length rc).ownBlock=some k∨w.heap.size≤k):=FIN.out w2 w7 us vo vc k2 o2 r7 k7 hat7
   clear c1 c2 r2 u1 u2 u3 rr2 o2 r7 k7 c7 f7 hat7
   go_wp2
   go_ret
   exact ⟨[],_,rfl,A0.out,rfl,by simp,fun q=>absurd rfl q,fun _=>FF.out⟩
 ·have A0:Hid (Ans L R l ws):=hA
  clear C hA
  go_wp2
  go_ret
  exact ⟨ws,_,rfl,A0.out,hv,hws,fun _=>hk1,fun e=>absurd e hne⟩
theorem wpList_rw {w0 W:World} {ops:Array Oper} {rest:List Oper} {o:Oper} {a:Act} {Q:Exit→Act→World→Prop} (hgd:o.guard=none) (s x:Operand)
  (ho:o.op=.call { callee:=.builtin .append,args:=#[s,x],argTypes:=#[228,228] })
  (base N:Nat) (vs:List Value) (v:Value) (hs:a.eval s=v) (hW:Same0 w0 W) (hr:w0.ownsRow base 308 3 v N vs) (A B C:Value) (q:Nat) (hx:a.eval x=.slice (some ⟨q,0,none⟩) 1 1) (hq:W.heap[q]? = some (.cells #[A,B,C] 308 (0,0))) (hA:A.oneCell' = true) (hB:B.oneCell' = true) (hC:C.oneCell' = true) (hb:base≤w0.heap.size) (hsz:N≤1000)
  (h:∀ g cap w', w'.ownsRow base 308 3 (.slice (some ⟨g,0,none⟩) (N+1) cap) (N+1) (vs ++ [A,B,C])→Kept (fun k=>v.ownBlock=some k) w0 w' → wpList Tryz.prog ops Q rest (a.put o.dst (.slice (some ⟨g,0,none⟩) (N+1) cap)) w') :
  wpList Tryz.prog ops Q (o :: rest) a W:=by
 obtain ⟨i,hi,hz0,hz1,hz2⟩:=info_parts info_row
 refine wpList_append_own _ hgd s x 228 ho base 308 i _ 3 56 Tryz.underlying228 hi hz0 hz1 hz2 rfl (by decide) v N vs hs (hW.row hr (fun _ _ f=>f)) ⟨q,0,none⟩ 1 1 [A,B,C] hx rfl (World.news_of_block (cs:=#[A,B,C]) (t:=308) (fr:=(0,0)) hq) (by intro u hu;simp at hu;rcases hu with rfl | rfl | rfl <;> assumption) (by unfold maxLen;omega) (by omega) (Nat.le_trans hb hW.size) ?_
 intro v' w' hown hgrow _
 rcases hown.2 with ⟨rfl,h0⟩ | ⟨g,cap,cur,rfl,r⟩
 ·omega
 ·exact h g cap w' hown (Kept.grown (Kept.mono hW (fun _ _ f=>f.elim)) hgrow (fun _ e _=>e))
theorem step_rw {w0 W:World} {ops:Array Oper} {o:Oper} {a:Act} {K:Act→World→Prop} {Q:Exit→Act→World→Prop} {E:Prop} (hgd:o.guard=none) (s x:Operand)
  (ho:o.op=.call { callee:=.builtin .append,args:=#[s,x],argTypes:=#[228,228] })
  (base N:Nat) (vs:List Value) (v:Value) (hs:a.eval s=v) (hW:Same0 w0 W) (hr:w0.ownsRow base 308 3 v N vs) (A B C:Value) (q:Nat) (hx:a.eval x=.slice (some ⟨q,0,none⟩) 1 1) (hq:W.heap[q]? = some (.cells #[A,B,C] 308 (0,0))) (hA:A.oneCell' = true) (hB:B.oneCell' = true) (hC:C.oneCell' = true) (hb:base≤w0.heap.size) (hsz:N≤1000)
  (h:∀ g cap w', w'.ownsRow base 308 3 (.slice (some ⟨g,0,none⟩) (N+1) cap) (N+1) (vs ++ [A,B,C])→Kept (fun k=>v.ownBlock=some k) w0 w' → K (a.put o.dst (.slice (some ⟨g,0,none⟩) (N+1) cap)) w') :
  if Region.wanted o (yielded ops a.tmps)=true then Oper.wp Tryz.prog o a W K Q else E:=by
 obtain ⟨i,hi,hz0,hz1,hz2⟩:=info_parts info_row
 refine step_append_lies _ hgd s x 228 ho base 308 i _ 3 56 Tryz.underlying228 hi hz0 hz1 hz2 rfl (by decide) v N vs hs (hW.row hr (fun _ _ f=>f)) ⟨q,0,none⟩ 1 1 [A,B,C] hx rfl (World.news_of_block (cs:=#[A,B,C]) (t:=308) (fr:=(0,0)) hq) (by intro u hu;simp at hu;rcases hu with rfl | rfl | rfl <;> assumption) (by omega) (by unfold maxLen;omega) (by omega) (Nat.le_trans hb hW.size) W.heap.size rfl ?_
 intro g cap w' hown hgrow hat hlt
 exact h g cap w' hown (Kept.grown (Kept.mono hW (fun _ _ f=>f.elim)) hgrow (fun _ e _=>e))
theorem row_ty {w:World} {base N:Nat} {v:Value} {vs:List Value} (h:w.ownsRow base 308 3 v N vs):∀ k,v.ownBlock=some k→∀ cur,w.heap[k]? ≠ some (.cells cur 3 (0,0)):=fun k e cur hc=>by
 obtain ⟨c,h2⟩:=own_blk h e
 rw [hc] at h2;cases h2
theorem havR_take {R:List Rw} {c k:Nat} {s:Int} (h:k<R.length):havR (R.take (k+1)) c s=havR (R.take k) c s++(if numR R[k] c=s then [R[k]] else []):=by
 unfold havR
 rw [List.take_add_one,List.getElem?_eq_getElem h,List.filter_append]
 congr 1
 by_cases e:numR R[k] c=s <;> simp [e]
theorem havR_len (R:List Rw) (c:Nat) (s:Int):(havR R c s).length≤R.length:=List.length_filter_le _ _
set_option maxHeartbeats 8000000 in
theorem having_any {w:World} {nv pv:Value} {n:Nat} {ro:Option Addr} {rc:Nat} {R:List Rw} (hR:RwAt w ro R) (hok:RowsOk n R) (hm:R.length≤100) {bs:Nat} {po:Option Addr} {pl pc:Nat} (c:Nat) (hc:c<n) (s:Int) :
  Calls Tryz.prog 239 #[.agg #[.pointer (some ⟨bs,0,none⟩),.slice po pl pc,.slice ro R.length rc],.int .i64 (c:Int),.int .i64 s] w fun e w' => ∃ ho hc,e=.returned (.slice ho (havR R c s).length hc)∧RwAt w' ho (havR R c s)∧(ho=none→hc=0)∧Same0 w w' := by
 have K:Same0 w (w.alloc (.cells #[.pointer (some ⟨bs,0,none⟩),.slice po pl pc,.slice ro R.length rc] 230)):=(Kept.refl _ w).alloc _
 go_enter Tryz.func239,Tryz.ntmps239
 go_wp2
 go_loopw [7,13] (fun lv i wr=>∃ (k:Nat) (us:List Value),k≤R.length∧i=.int .i64 (k:Int)∧Hid (wr.ownsRow w.heap.size 308 3 lv (havR (R.take k) c s).length us)∧Hid (WCells wr us (havR (R.take k) c s))∧Same0 w wr) (fun _ i _=>R.length-(intOf i).toNat)
 case atStart=>exact ⟨0,[],Nat.zero_le _,rfl,World.ownsRow_nil _ _ _ _,WCells.nil _,K⟩
 case round=>
  obtain ⟨k,us,hk,rfl,hr,hus,hw⟩:=hrel
  obtain ⟨lo,lc,rfl⟩:=row_shape hr.out
  by_cases hlt:k<R.length
  ·obtain ⟨b,off,rfl,hb,ao,ac,bo,bc,r0,r1,r2,A1,A2⟩:=(hR.same hw).get hlt
   obtain ⟨o1,o2⟩:=hok _ (List.getElem_mem hlt)
   have hc' : c<R[k].2.2.length:=by omega
   have hp:=o2 _ (List.getElem_mem hc')
   have ka:Same0 wr (wr.alloc (.cells #[.int .i64 R[k].1,.slice ao R[k].2.1.length ac,.slice bo R[k].2.2.length bc] 308)):=(Kept.refl _ _).alloc _
   have C:=number_any (ac:=ac) (bc:=bc) (A1.1.at'.same ka) (A2.1.at'.same ka) hc' hp
   have HB:Hid (∀ w2,Same0 (wr.alloc (.cells #[.int .i64 R[k].1,.slice ao R[k].2.1.length ac,.slice bo R[k].2.2.length bc] 308)) w2→w2.cell? ⟨wr.heap.size,0,none⟩=some (.int .i64 R[k].1)∧w2.cell? ⟨wr.heap.size,1,none⟩=some (.slice ao R[k].2.1.length ac)∧w2.cell? ⟨wr.heap.size,2,none⟩=some (.slice bo R[k].2.2.length bc)):=fun w2 h2=>⟨cellAt (h2.at0 (heap_alloc_new wr _)) 0,cellAt (h2.at0 (heap_alloc_new wr _)) 1,cellAt (h2.at0 (heap_alloc_new wr _)) 2⟩
   have i1:(0:Int)≤(k:Int):=by omega
   have i2:(k:Int)<(R.length:Int):=by omega
   have hl:=havR_len (R.take k) c s
   have hl2:(R.take k).length=k:=by simp;omega
   have hN:(havR (R.take k) c s).length≤1000:=by omega
   have HT:=havR_take (c:=c) (s:=s) hlt
   by_cases hq:numR R[k] c=s
   ·have hqe:(numR R[k] c == s)=true:=by simpa using hq
    rw [if_pos hq] at HT
    have FIN:Hid (∀ w2 g cap w5,Same0 wr w2→w5.ownsRow w.heap.size 308 3 (.slice (some ⟨g,0,none⟩) ((havR (R.take k) c s).length+1) cap) ((havR (R.take k) c s).length+1) (us ++ [.int .i64 R[k].1,.slice ao R[k].2.1.length ac,.slice bo R[k].2.2.length bc])→Kept (fun q=>(Value.slice lo (havR (R.take k) c s).length lc).ownBlock=some q) w2 w5→∃ us', Hid (w5.ownsRow w.heap.size 308 3 (.slice (some ⟨g,0,none⟩) ((havR (R.take k) c s).length+1) cap) (havR (R.take (k+1)) c s).length us')∧Hid (WCells w5 us' (havR (R.take (k+1)) c s))∧Same0 w w5):=by
     intro w2 g cap w5 k2 r5 k5
     have hr2:=k2.row hr.out (fun _ _ f=>f)
     refine ⟨us ++ [.int .i64 R[k].1,.slice ao R[k].2.1.length ac,.slice bo R[k].2.2.length bc],?_,?_,Kept.trans (hw.trans' k2) k5 (fun i hi e=>by have:=(hr2.lt i e).1;omega)⟩
     ·show World.ownsRow _ _ _ _ _ _ _
      rw [HT,List.length_append];exact r5
     ·show WCells _ _ _
      rw [HT];exact ((hus.out.same k2).snoc (A1.same k2) (A2.same k2)).kept k5 (row_ty hr2)
    have hz0:w.heap.size≤wr.heap.size:=hw.size
    have HR2:Hid (∀ w2,Same0 wr w2→w2.ownsRow w.heap.size 308 3 (.slice lo (havR (R.take k) c s).length lc) (havR (R.take k) c s).length us):=fun w2 k2=>k2.row hr.out (fun _ _ f=>f)
    clear hr hus HT hl hl2 A1 A2 o1 o2 hp hc' hR hok hq
    generalize (havR (R.take k) c s).length=N at *
    go_wp2_with (first
     | (go_at_call 237;refine C.mono ?_;rintro e w2 ⟨rfl,hk2⟩;obtain ⟨y0,y1,y2⟩:=HB.out _ hk2;have k2:Same0 wr w2:=ka.trans' hk2;have hz2:=Nat.le_trans hz0 k2.size)
     | (at_builtin;refine wpList_rw (w0:=w2) rfl _ _ rfl w.heap.size N us (.slice lo N lc) rfl ((Kept.refl _ w2).alloc _) (HR2.out _ k2) (.int .i64 R[k].1) (.slice ao R[k].2.1.length ac) (.slice bo R[k].2.2.length bc) w2.heap.size rfl (heap_alloc_new w2 _) rfl rfl rfl hz2 hN ?_;intro g cap w5 r5 k5))
    obtain ⟨us', z1,z2,z3⟩:=FIN.out w2 g cap w5 k2 r5 k5
    exact ⟨⟨k+1,us', by omega,by go_num,z1,z2,z3⟩,by simp [intOf];omega⟩
   ·have hqe:(numR R[k] c == s)=false:=by simpa using hq
    rw [if_neg hq,List.append_nil] at HT
    have FIN:Hid (∀ w2,Same0 wr w2→Hid (w2.ownsRow w.heap.size 308 3 (.slice lo (havR (R.take k) c s).length lc) (havR (R.take (k+1)) c s).length us)∧Hid (WCells w2 us (havR (R.take (k+1)) c s))):=fun w2 k2=>by
     refine ⟨?_,?_⟩
     ·show World.ownsRow _ _ _ _ _ _ _
      rw [HT];exact k2.row hr.out (fun _ _ f=>f)
     ·show WCells _ _ _
      rw [HT];exact hus.out.same k2
    clear hr hus HT hl hl2 A1 A2 o1 o2 hp hc' hR hok hq
    generalize (havR (R.take k) c s).length=N at *
    go_wp2_with (first
     | (go_at_call 237;refine C.mono ?_;rintro e w2 ⟨rfl,hk2⟩;have k2:Same0 wr w2:=ka.trans' hk2))
    obtain ⟨z1,z2⟩:=FIN.out w2 k2
    exact ⟨⟨k+1,us,by omega,by go_num,z1,z2,hw.trans' k2⟩,by simp [intOf];omega⟩
  ·have e1:R.take k=R:=List.take_of_length_le (by omega)
   have hr' := hr.out
   have hus' := hus.out
   rw [e1] at hr' hus'
   obtain ⟨ho,hcc,q1,q2,q3,_⟩:=row_rows hr' hus'
   have FIN:Hid (∃ ho hc,Value.slice lo (havR (R.take k) c s).length lc=.slice ho (havR R c s).length hc∧RwAt wr ho (havR R c s)∧(ho=none→hc=0)∧Same0 w wr):=⟨ho,hcc,by rw [← q1,e1],q2,q3,hw⟩
   clear hr hus hr' hus' q1 q2 q3 e1 hR hok
   generalize (havR (R.take k) c s).length=N at *
   go_wp2
   go_ret
   obtain ⟨ho,hc,q1,q2⟩:=FIN.out
   exact ⟨ho,hc,by rw [q1];rfl,q2⟩
end Go.Proofs.YtflcpepjmonlpaaGreatDoor
