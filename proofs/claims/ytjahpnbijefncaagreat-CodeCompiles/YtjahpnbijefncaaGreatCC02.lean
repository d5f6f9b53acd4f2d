import Derived.Test.YtjahpnbijefncaaGreatCC01
import Derived.WalkLawsBesides
import Derived.Deep.RegionLaw
import Derived.Deep.DeepCutAuto
import Derived.Deep.DrawnRows
import Derived.Deep.Strs
import Derived.Handy
namespace Go.Proofs.YtjahpnbijefncaaGreat
set_option maxRecDepth 100000
set_option linter.unusedVariables false
set_option maxHeartbeats 2000000
section
open Go.RowKit
theorem Kr (c:Int) (w:World):Calls Tryz.prog 163 #[.int .u8 c] w λ e w' => e=.returned (.bool (smB c))∧w' = w:=by
 unfold smB
 by_cases h:97<=c
 all_goals
  go_enter Tryz.func163,Tryz.ntmps163
  go_wp2;go_ret;exact ⟨by simp [h] <;> omega,rfl⟩
theorem Zdy (c:Int) (w:World):Calls Tryz.prog 164 #[.int .u8 c] w λ e w' => e=.returned (.bool (dgB c))∧w' = w:=by
 unfold dgB
 by_cases h:48<=c
 all_goals
  go_enter Tryz.func164,Tryz.ntmps164
  go_wp2;go_ret;exact ⟨by simp [h] <;> omega,rfl⟩
theorem Xl (c:Int) (w:World):Calls Tryz.prog 138 #[.int .u8 c] w λ e w' => e=.returned (.bool (smB c))∧w' = w:=by
 unfold smB
 by_cases h:97<=c
 all_goals
  go_enter Tryz.func138,Tryz.ntmps138
  go_wp2;go_ret;exact ⟨by simp [h] <;> omega,rfl⟩
theorem Xk (c:Int) (w:World):Calls Tryz.prog 139 #[.int .u8 c] w λ e w' => e=.returned (.bool (dgB c))∧w' = w:=by
 unfold dgB
 by_cases h:48<=c
 all_goals
  go_enter Tryz.func139,Tryz.ntmps139
  go_wp2;go_ret;exact ⟨by simp [h] <;> omega,rfl⟩
def Zu4 (s:ByteArray):Bool:=decide (1<=s.size) && decide (s.size<=12)
theorem Zgo (s:ByteArray) (w:World):Calls Tryz.prog 162 #[.string s] w λ e w' => e=.returned (.bool (Zu4 s))∧w' = w:=by
 unfold Zu4
 by_cases h:1<=s.size
 all_goals
  go_enter Tryz.func162,Tryz.ntmps162
  go_wp2;go_ret;exact ⟨by simp [h] <;> omega,rfl⟩
theorem Zi3 {s : ByteArray} (h1 : 1 <= s.size) (h2 : s.size <= 12) (h0 : Zcj 0 (s[0].toNat : Int) = true) (h : ∀ j (hj : j < s.size), 1 <= j -> Zcj j (s[j].toNat : Int) = true) : Zwa s :=
  ⟨h1, h2, fun i hi => by by_cases e : i = 0; · subst e; exact h0
                          · exact h i hi (by omega)⟩
theorem Vq (s:ByteArray) (w:World) (hs:s.size<=maxLen):Calls Tryz.prog 136 #[.string s] w λ e w' => e=.returned (.bool (X6 s))∧w' = w:=by
 unfold maxLen at hs
 by_cases hf:Zu4 s=true
 ·have hf1:1<=s.size:=by simp [Zu4] at hf;omega
  have hf2:s.size<=12:=by simp [Zu4] at hf;omega
  by_cases h0:smB (s[0].toNat:Int)=true
  ·go_enter Tryz.func136,Tryz.ntmps136
   go_wp2_with (first | (go_at_call 162;refine (Zgo _ _).mono ?_;rintro e w' ⟨rfl,rfl⟩) | (go_at_call 163;refine (Kr _ _).mono ?_;rintro e w' ⟨rfl,rfl⟩))
   go_loop [3] (λ i=>∃ k:Nat,1<=k∧k<=s.size∧i=.int .i64 k∧∀ j (hj:j<s.size),1<=j->j<k->Zcj j (s[j].toNat:Int)=true) (λ i=>s.size-(intOf i).toNat)
   case atStart=>exact ⟨1,by omega,hf1,rfl,by intro j _ _ _;omega⟩
   case round=>
    obtain ⟨k,hk1,hk,rfl,hal⟩:=hrel
    by_cases hlt:k<s.size
    ·by_cases hsm:smB (s[k].toNat:Int)=true
     ·have hnx:∀ j (hj:j<s.size),1<=j->j<k+1->Zcj j (s[j].toNat:Int)=true:=by
       intro j hj h1 h2
       by_cases e:j=k
       ·subst e;simp [Zcj,hsm]
       ·exact hal j hj h1 (by omega)
      go_wp2_with (first | (go_at_call 163;refine (Kr _ _).mono ?_;rintro e w' ⟨rfl,rfl⟩) | (go_at_call 164;refine (Zdy _ _).mono ?_;rintro e w' ⟨rfl,rfl⟩))
      go_round
      case rel=>exact ⟨k+1,by omega,by omega,by go_num,hnx⟩
      case measure=>simp [intOf];omega
     ·have hsm' : smB (s[k].toNat:Int)=false:=by simpa using hsm
      by_cases hdg:dgB (s[k].toNat:Int)=true
      ·have hnx:∀ j (hj:j<s.size),1<=j->j<k+1->Zcj j (s[j].toNat:Int)=true:=by
        intro j hj h1 h2
        by_cases e:j=k
        ·subst e;simp [Zcj,hdg];omega
        ·exact hal j hj h1 (by omega)
       go_wp2_with (first | (go_at_call 163;refine (Kr _ _).mono ?_;rintro e w' ⟨rfl,rfl⟩) | (go_at_call 164;refine (Zdy _ _).mono ?_;rintro e w' ⟨rfl,rfl⟩))
       go_round
       case rel=>exact ⟨k+1,by omega,by omega,by go_num,hnx⟩
       case measure=>simp [intOf];omega
      ·have hdg' : dgB (s[k].toNat:Int)=false:=by simpa using hdg
       have hno:X6 s=false:=V8 λ h=>by have:=h.2.2 k hlt;simp [Zcj,hsm', hdg'] at this
       go_wp2_with (first | (go_at_call 163;refine (Kr _ _).mono ?_;rintro e w' ⟨rfl,rfl⟩) | (go_at_call 164;refine (Zdy _ _).mono ?_;rintro e w' ⟨rfl,rfl⟩))
       go_ret;exact ⟨Ye hno.symm,rfl⟩
    ·have hyes:X6 s=true:=Zig (Zi3 hf1 hf2 (by simp [Zcj,h0]) λ j hj h1=>hal j hj h1 (by omega))
     go_wp2;go_ret
     first | exact ⟨rfl,rfl⟩ | exact ⟨Ye hyes.symm,rfl⟩
  ·have h0' : smB (s[0].toNat:Int)=false:=by simpa using h0
   have hno:X6 s=false:=V8 λ h=>by have:=h.2.2 0 hf1;simp [Zcj,h0'] at this
   go_enter Tryz.func136,Tryz.ntmps136
   go_wp2_with (first | (go_at_call 162;refine (Zgo _ _).mono ?_;rintro e w' ⟨rfl,rfl⟩) | (go_at_call 163;refine (Kr _ _).mono ?_;rintro e w' ⟨rfl,rfl⟩))
   go_ret;exact ⟨Ye hno.symm,rfl⟩
 ·have hf' : Zu4 s=false:=by simpa using hf
  have hno:X6 s=false:=V8 λ h=>hf (by simp [Zu4,h.1,h.2.1])
  go_enter Tryz.func136,Tryz.ntmps136
  go_wp2_with (first | (go_at_call 162;refine (Zgo _ _).mono ?_;rintro e w' ⟨rfl,rfl⟩))
  go_ret;exact ⟨Ye hno.symm,rfl⟩
theorem X1 (s:ByteArray) (w:World) (hs:s.size<=maxLen):Calls Tryz.prog 112 #[.string s] w λ e w' => e=.returned (.bool (X6 s))∧w' = w:=by
 unfold maxLen at hs
 by_cases hf1:1<=s.size
 ·by_cases hf2:s.size<=12
  ·go_enter Tryz.func112,Tryz.ntmps112
   go_wp2
   go_loop [3,4,5] (λ i _ _=>∃ k:Nat,k<=s.size∧i=.int .i64 k∧∀ j (hj:j<s.size),j<k->Zcj j (s[j].toNat:Int)=true) (λ i _ _=>s.size-(intOf i).toNat)
   case atStart=>exact ⟨0,Nat.zero_le _,rfl,by intro j _ _;omega⟩
   case round=>
    obtain ⟨k,hk,rfl,hal⟩:=hrel
    by_cases hlt:k<s.size
    ·by_cases hk0:k=0
     ·subst hk0
      by_cases hsmB:smB (s[0].toNat:Int)=true
      ·
       by_cases hdgB:dgB (s[0].toNat:Int)=true
       ·
        have hnx:∀ j (hj:j<s.size),j<0+1->Zcj j (s[j].toNat:Int)=true:=by
         intro j hj h2
         by_cases e:j=0
         ·subst e;simp [Zcj,hsmB,hdgB] <;> omega
         ·exact hal j hj (by omega)
        go_wp2_with (first | (go_at_call 138;refine (Xl _ _).mono ?_;rintro e w' ⟨rfl,rfl⟩) | (go_at_call 139;refine (Xk _ _).mono ?_;rintro e w' ⟨rfl,rfl⟩))
        go_round
        case rel=>exact ⟨0+1,by omega,by go_num,hnx⟩
        case measure=>simp [intOf] <;> omega
       ·have hdgBn:dgB (s[0].toNat:Int)=false:=by simpa using hdgB
        have hnx:∀ j (hj:j<s.size),j<0+1->Zcj j (s[j].toNat:Int)=true:=by
         intro j hj h2
         by_cases e:j=0
         ·subst e;simp [Zcj,hsmB,hdgBn] <;> omega
         ·exact hal j hj (by omega)
        go_wp2_with (first | (go_at_call 138;refine (Xl _ _).mono ?_;rintro e w' ⟨rfl,rfl⟩) | (go_at_call 139;refine (Xk _ _).mono ?_;rintro e w' ⟨rfl,rfl⟩))
        go_round
        case rel=>exact ⟨0+1,by omega,by go_num,hnx⟩
        case measure=>simp [intOf] <;> omega
      ·have hsmBn:smB (s[0].toNat:Int)=false:=by simpa using hsmB
       by_cases hdgB:dgB (s[0].toNat:Int)=true
       ·
        have hno:X6 s=false:=V8 λ h=>by have:=h.2.2 0 hlt;simp [Zcj,hsmBn,hdgB] at this
        go_wp2_with (first | (go_at_call 138;refine (Xl _ _).mono ?_;rintro e w' ⟨rfl,rfl⟩) | (go_at_call 139;refine (Xk _ _).mono ?_;rintro e w' ⟨rfl,rfl⟩))
        go_ret
        first | exact ⟨rfl,rfl⟩ | exact ⟨Ye hno.symm,rfl⟩
       ·have hdgBn:dgB (s[0].toNat:Int)=false:=by simpa using hdgB
        have hno:X6 s=false:=V8 λ h=>by have:=h.2.2 0 hlt;simp [Zcj,hsmBn,hdgBn] at this
        go_wp2_with (first | (go_at_call 138;refine (Xl _ _).mono ?_;rintro e w' ⟨rfl,rfl⟩) | (go_at_call 139;refine (Xk _ _).mono ?_;rintro e w' ⟨rfl,rfl⟩))
        go_ret
        first | exact ⟨rfl,rfl⟩ | exact ⟨Ye hno.symm,rfl⟩
     ·have hk0' : ((k:Int) == 0)=false:=by simp;omega
      have hkp:0<k:=by omega
      by_cases hsmB:smB (s[k].toNat:Int)=true
      ·
       by_cases hdgB:dgB (s[k].toNat:Int)=true
       ·
        have hnx:∀ j (hj:j<s.size),j<k+1->Zcj j (s[j].toNat:Int)=true:=by
         intro j hj h2
         by_cases e:j=k
         ·subst e;simp [Zcj,hsmB,hdgB] <;> omega
         ·exact hal j hj (by omega)
        go_wp2_with (first | (go_at_call 138;refine (Xl _ _).mono ?_;rintro e w' ⟨rfl,rfl⟩) | (go_at_call 139;refine (Xk _ _).mono ?_;rintro e w' ⟨rfl,rfl⟩))
        go_round
        case rel=>exact ⟨k+1,by omega,by go_num,hnx⟩
        case measure=>simp [intOf] <;> omega
       ·have hdgBn:dgB (s[k].toNat:Int)=false:=by simpa using hdgB
        have hnx:∀ j (hj:j<s.size),j<k+1->Zcj j (s[j].toNat:Int)=true:=by
         intro j hj h2
         by_cases e:j=k
         ·subst e;simp [Zcj,hsmB,hdgBn] <;> omega
         ·exact hal j hj (by omega)
        go_wp2_with (first | (go_at_call 138;refine (Xl _ _).mono ?_;rintro e w' ⟨rfl,rfl⟩) | (go_at_call 139;refine (Xk _ _).mono ?_;rintro e w' ⟨rfl,rfl⟩))
        go_round
        case rel=>exact ⟨k+1,by omega,by go_num,hnx⟩
        case measure=>simp [intOf] <;> omega
      ·have hsmBn:smB (s[k].toNat:Int)=false:=by simpa using hsmB
       by_cases hdgB:dgB (s[k].toNat:Int)=true
       ·
        have hnx:∀ j (hj:j<s.size),j<k+1->Zcj j (s[j].toNat:Int)=true:=by
         intro j hj h2
         by_cases e:j=k
         ·subst e;simp [Zcj,hsmBn,hdgB] <;> omega
         ·exact hal j hj (by omega)
        go_wp2_with (first | (go_at_call 138;refine (Xl _ _).mono ?_;rintro e w' ⟨rfl,rfl⟩) | (go_at_call 139;refine (Xk _ _).mono ?_;rintro e w' ⟨rfl,rfl⟩))
        go_round
        case rel=>exact ⟨k+1,by omega,by go_num,hnx⟩
        case measure=>simp [intOf] <;> omega
       ·have hdgBn:dgB (s[k].toNat:Int)=false:=by simpa using hdgB
        have hno:X6 s=false:=V8 λ h=>by have:=h.2.2 k hlt;simp [Zcj,hsmBn,hdgBn] at this
        go_wp2_with (first | (go_at_call 138;refine (Xl _ _).mono ?_;rintro e w' ⟨rfl,rfl⟩) | (go_at_call 139;refine (Xk _ _).mono ?_;rintro e w' ⟨rfl,rfl⟩))
        go_ret
        first | exact ⟨rfl,rfl⟩ | exact ⟨Ye hno.symm,rfl⟩
    ·have hyes:X6 s=true:=Zig ⟨hf1,hf2,λ j hj=>hal j hj (by omega)⟩
     go_wp2;go_ret
     first | exact ⟨rfl,rfl⟩ | exact ⟨Ye hyes.symm,rfl⟩
  ·have hno:X6 s=false:=V8 λ h=>hf2 h.2.1
   go_enter Tryz.func112,Tryz.ntmps112
   go_wp2;go_ret
   first | exact ⟨rfl,rfl⟩ | exact ⟨Ye hno.symm,rfl⟩
 ·have hno:X6 s=false:=V8 λ h=>hf1 h.1
  go_enter Tryz.func112,Tryz.ntmps112
  go_wp2;go_ret
  first | exact ⟨rfl,rfl⟩ | exact ⟨Ye hno.symm,rfl⟩
theorem Zvl (w:World):Calls Tryz.prog 73 #[] w λ e w' => e=.returned (.pointer (some ⟨w.heap.size,0,none⟩))∧w' = w.alloc (.cells #[.slice none 0 0,.map none] 187):=by
 go_enter Tryz.func73,Tryz.ntmps73
 go_wp2;go_ret;exact ⟨rfl,rfl⟩
theorem Zwj (w:World):Yd (w.alloc (.cells #[.slice none 0 0,.map none] 187)) w.heap.size [] (.slice none 0 0) none:=
 ⟨heap_alloc_new w _,World.ownsRow_nil _ _ _ _,rfl,by simp [Value.ownBlock],by simp,by simp⟩
theorem Zjn {w:World} {b:Nat} {L:List Sym} {sv:Value} {mr:Option Nat} (h:Yd w b L sv mr) (s:ByteArray) (hs:s.size<=maxLen) :
  Calls Tryz.prog 137 #[.pointer (some ⟨b,0,none⟩),.string s] w λ e w' => e=.returned (.bool (Yz L s).isSome)∧w' = w:=by
 have c1:w.cell? ⟨b,1,none⟩=some (.map mr):=Zb h.blk 1;have hl:=h.map.look hs
 go_enter Tryz.func137,Tryz.ntmps137
 go_wp2;go_ret;exact ⟨rfl,rfl⟩
theorem Zkw {w:World} {b:Nat} {L:List Sym} {sv:Value} {mr:Option Nat} (h:Yd w b L sv mr) :
  Calls Tryz.prog 129 #[.pointer (some ⟨b,0,none⟩)] w λ e w' => e=.returned (.int .i64 (L.length:Int))∧w' = w:=by
 obtain ⟨ao,cap,rfl⟩:=h.sv;have c0:w.cell? ⟨b,0,none⟩=some (.slice ao L.length cap):=Zb h.blk 0
 go_enter Tryz.func129,Tryz.ntmps129
 go_wp2;go_ret;exact ⟨rfl,rfl⟩
theorem Zeg {w:World} {b:Nat} {L:List Sym} {sv:Value} {mr:Option Nat} (h:Yd w b L sv mr) (x:Sym) (hs:x.name.size<=maxLen) :
  Calls Tryz.prog 111 #[.pointer (some ⟨b,0,none⟩),.agg #[.string x.name,.int .i64 x.ar,.bool x.df]] w λ e w' => e=.returned (.int .i64 (Zy L x))∧w' = w.alloc (.cells #[.string x.name,.int .i64 x.ar,.bool x.df] 129):=by
 have h1:Yd (w.alloc (.cells #[.string x.name,.int .i64 x.ar,.bool x.df] 129)) b L sv mr:=h.kept (Zc.alloc (Zc.refl (λ _=>False) w) _) (λ _ _ f=>f);have hlen:=h.len;cases hn:X6 x.name with
 | false=>
  have he:Zy L x=10:=by simp [Zy,hn]
  go_enter Tryz.func111,Tryz.ntmps111
  go_wp2_with (first | (go_at_call 136;refine (Vq _ _ hs).mono ?_;rintro e w' ⟨rfl,rfl⟩))
  go_ret;exact ⟨Z7 he.symm,rfl⟩
 | true=>
  by_cases ha:x.ar<0
  ·have he:Zy L x=11:=by simp [Zy,hn,ha]
   go_enter Tryz.func111,Tryz.ntmps111
   go_wp2_with (first | (go_at_call 136;refine (Vq _ _ hs).mono ?_;rintro e w' ⟨rfl,rfl⟩))
   go_ret;exact ⟨Z7 he.symm,rfl⟩
  ·by_cases hb:6<x.ar
   ·have he:Zy L x=11:=by simp [Zy,hn,hb]
    go_enter Tryz.func111,Tryz.ntmps111
    go_wp2_with (first | (go_at_call 136;refine (Vq _ _ hs).mono ?_;rintro e w' ⟨rfl,rfl⟩))
    go_ret;exact ⟨Z7 he.symm,rfl⟩
   ·cases hf:(Yz L x.name).isSome with
    | true=>
     have he:Zy L x=12:=by simp [Zy,hn,ha,hb,hf]
     go_enter Tryz.func111,Tryz.ntmps111
     go_wp2_with (first | (go_at_call 136;refine (Vq _ _ hs).mono ?_;rintro e w' ⟨rfl,rfl⟩) | (go_at_call 137;refine (Zjn h1 _ hs).mono ?_;rintro e w' ⟨rfl,rfl⟩))
     go_ret;exact ⟨Z7 he.symm,rfl⟩
    | false=>
     by_cases hm:64<=L.length
     ·have he:Zy L x=13:=by simp [Zy,hn,ha,hb,hf,hm]
      go_enter Tryz.func111,Tryz.ntmps111
      go_wp2_with (first | (go_at_call 136;refine (Vq _ _ hs).mono ?_;rintro e w' ⟨rfl,rfl⟩) | (go_at_call 137;refine (Zjn h1 _ hs).mono ?_;rintro e w' ⟨rfl,rfl⟩) | (go_at_call 129;refine (Zkw h1).mono ?_;rintro e w' ⟨rfl,rfl⟩))
      go_ret;exact ⟨Z7 he.symm,rfl⟩
     ·have he:Zy L x=0:=by simp [Zy,hn,ha,hb,hf,hm]
      go_enter Tryz.func111,Tryz.ntmps111
      go_wp2_with (first | (go_at_call 136;refine (Vq _ _ hs).mono ?_;rintro e w' ⟨rfl,rfl⟩) | (go_at_call 137;refine (Zjn h1 _ hs).mono ?_;rintro e w' ⟨rfl,rfl⟩) | (go_at_call 129;refine (Zkw h1).mono ?_;rintro e w' ⟨rfl,rfl⟩))
      go_ret;exact ⟨Z7 he.symm,rfl⟩
def Zkl (L:List Sym) (x:Sym):List Sym:=if Zy L x=0 then L ++ [x] else L
def Zw1 (L:List Sym) (x:Sym):Int:=if Zy L x=0 then (L.length:Int) else 0
def Zsx (w:World) (b:Nat) (sv:Value) (mr:Option Nat) (L' : List Sym) (w' : World):Prop:=
 ∃ sv' mr', Yd w' b L' sv' mr' ∧ Zc (Foot b sv mr) w w' ∧ ∀ k,Foot b sv' mr' k->Foot b sv mr k∨w.heap.size<=k
abbrev Y1 (x:Sym):Obj:=.cells #[.string x.name,.int .i64 x.ar,.bool x.df] 129 (0,0)
theorem Zo2 (w:World):Zcv (w.alloc (.map #[] 0)) (some w.heap.size) []:=
 ⟨0,_,World.ownsMap_made w Tryz.prog _ _,Nat.le_refl _,λ s=>⟨rfl,λ i h=>by simp [Yz] at h⟩⟩
theorem Zj5 (mr:Option Nat) (w:World):(binOp .eql 185 (.map mr) (.map none)).run Tryz.prog w=.ok (.bool mr.isNone) w:=by
 cases mr <;> kernel_rfl
theorem Zm1 {W:World} {b:Nat} {L:List Sym} {sv:Value} (h:Yd W b L sv none):Yd ((W.alloc (.map #[] 0)).setCell ⟨b,1,none⟩ (.map (some W.heap.size))) b L sv (some W.heap.size):=by
 obtain rfl:L=[]:=h.map;have hb:=Zi h.blk;have h3:Yd (W.alloc (.map #[] 0)) b [] sv none:=h.kept (Zc.alloc (Zc.refl (λ _=>False) _) _) (λ _ _ f=>f);have hk:Zc (λ k=>k=b) (W.alloc (.map #[] 0)) ((W.alloc (.map #[] 0)).setCell ⟨b,1,none⟩ (.map (some W.heap.size))):=Zc.setCell (S:=λ k=>k=b) (p:=⟨b,1,none⟩) (Zc.refl _ _) (λ _=>rfl) _;exact ⟨by rw [Zs h3.blk];rfl,hk.row h3.row (λ k e e' => h.apart (by rw [e,e'])),(Zo2 W).kept hk (λ k e e' => by simp at e;omega),h.apart,h.len,h.names⟩
theorem add_zero {L:List Sym} {x:Sym} (h:Zy L x=0):Yz L x.name=none∧X6 x.name=true∧L.length<64:=by
 unfold Zy at h
 by_cases h1:X6 x.name=false
 ·simp [h1] at h
 ·rw [if_neg h1] at h
  by_cases h2:x.ar<0∨6<x.ar
  ·simp [h2] at h
  ·rw [if_neg h2] at h
   by_cases h3:(Yz L x.name).isSome
   ·simp [h3] at h
   ·rw [if_neg h3] at h
    by_cases h4:64<=L.length
    ·simp [h4] at h
    ·exact ⟨by simpa using h3,by simpa using h1,by omega⟩
theorem Zun {L:List Sym} {x:Sym} (h:Zy L x=0):0<=x.ar∧x.ar<=6:=by
 unfold Zy at h
 by_cases h1:X6 x.name=false
 ·simp [h1] at h
 ·rw [if_neg h1] at h
  by_cases h2:x.ar<0∨6<x.ar
  ·simp [h2] at h
  ·omega
theorem Zeh {w w1:World} {o ob:Obj} {b:Nat} {v:Value} (hg:(w.alloc o).drew.grownBy w1 v.ownBlock) (hb:w.heap[b]? = some ob) (hne:v.ownBlock≠some b):w1.heap[b]? = some ob:=by
 have hlt:=Zi hb;rw [hg.block b (by simp;omega) (Ne.symm hne)];exact (heap_alloc_old w o hlt).trans hb
def Zuq (w:World) (b:Nat) (L:List Sym) (sv:Value) (mr:Option Nat) (bm:Nat) (x:Sym) (w' : World):Prop:=
 ∃ sv', w'.heap[b]? = some (.cells #[sv', .map (some bm)] 187 (0,0))∧w'.ownsRow 0 129 3 sv' (L.length+1) (Z0 (L ++ [x]))∧Zcv w' (some bm) L∧w'.heap[w.heap.size]? = some (Y1 x)∧Zc (Foot b sv mr) w w' ∧ ∀ k,sv'.ownBlock=some k->k≠b∧(sv.ownBlock=some k∨w.heap.size<=k)
theorem Zwp {w wc w1:World} {b:Nat} {L:List Sym} {sv:Value} {mr:Option Nat} {x:Sym} {bm gg cap:Nat} (h:Yd w b L sv mr) (hsg:Yd wc b L sv (some bm)) (hbx:wc.heap[w.heap.size]? = some (Y1 x)) (hkp:Zc (Foot b sv mr) w wc)
  (hown1:w1.ownsRow 0 129 3 (.slice (some ⟨gg,0,none⟩) (L.length+1) cap) (L.length+1) (Z0 L ++ [.string x.name,.int .i64 x.ar,.bool x.df]))
  (hgrow:(wc.alloc (Y1 x)).drew.grownBy w1 sv.ownBlock) (hat:sv.ownBlock=some gg∨gg=wc.heap.size+1) (hb1:w1.heap[b]? = some (.cells #[sv,.map (some bm)] 187 (0,0))) :
  Zuq w b L sv mr bm x (w1.setCell ⟨b,0,none⟩ (.slice (some ⟨gg,0,none⟩) (L.length+1) cap)):=by
 have lb:=Zi h.blk;have lbc:=Zi hsg.blk;have lsv:=h.row.lt
 have hgb:gg≠b:=by
  rcases hat with e | e
  ·intro e'; exact hsg.apart (by rw [e,e'])
  ·omega
 obtain ⟨n,D,hm,hn,hall⟩:=hsg.map;obtain ⟨es,clock,hbm,hrest⟩:=hm;have hbmb:bm≠b:=λ e=>by subst e;rw [hsg.blk] at hbm;simp at hbm
 have hbms:sv.ownBlock≠some bm:=λ e=>by
  rcases hsg.row.2 with ⟨rfl,_⟩ | ⟨g,c,cur,rfl,_,hg,_⟩
  ·simp [Value.ownBlock] at e
  ·simp [Value.ownBlock] at e;subst e;rw [hg] at hbm;simp at hbm
 have hk1:Zc (λ k=>sv.ownBlock=some k) wc w1:=Zc.grown (Zc.drew (Zc.alloc (Zc.refl _ wc) _)) hgrow (λ _ e _=>e)
 have hk2:Zc (λ k=>sv.ownBlock=some k∨k=b) wc (w1.setCell ⟨b,0,none⟩ (.slice (some ⟨gg,0,none⟩) (L.length+1) cap)):=
  Zc.setCell (hk1.mono (λ _ _ e=>.inl e)) (λ _=>.inr rfl) _
 have hk3:Zc (λ k=>k=b) w1 (w1.setCell ⟨b,0,none⟩ (.slice (some ⟨gg,0,none⟩) (L.length+1) cap)):=Zc.setCell (S:=λ k=>k=b) (p:=⟨b,0,none⟩) (Zc.refl _ _) (λ _=>rfl) _;refine ⟨_,by rw [Zs hb1];rfl,?_,?_,?_,?_,?_⟩
 ·rw [Zbl];exact hk3.row hown1 (λ k e e' => by simp [Value.ownBlock] at e;omega)
 ·exact ⟨n,D,hk2.map ⟨es,clock,hbm,hrest⟩ (λ e=>e.elim hbms hbmb),hn,hall⟩
 ·exact hk2.at hbx (λ e=>by
   rcases e with e | e
   ·have:=lsv _ e;omega
   ·omega)
 ·exact hkp.trans hk2 (λ i _ e=>e.elim (λ e=>.inr (.inl e)) .inl)
 ·intro k e
  simp [Value.ownBlock] at e;subst e;refine ⟨hgb,hat.imp id (λ e=>?_)⟩;have:=hkp.size;omega
theorem Zv4 {w w' : World} {bm:Nat} {L:List Sym} {x:Sym} {n:Nat} {D:DataW Unit} (hf:Yz L x.name=none) (hm:w.ownsMap Tryz.prog 9 (plainElem Tryz.prog 3) bm n D) (hn:n<=L.length)
  (hall:∀ s:ByteArray,Maps.has D (.string s.data.toList)=(Yz L s).isSome∧∀ i,Yz L s=some i->D.atKey (.string s.data.toList) (.lit (.int .i64 0))=.lit (.int .i64 (i:Int)))
  (hm' : w'.ownsMap Tryz.prog 9 (plainElem Tryz.prog 3) bm (n+1) (D.put (.string x.name.data.toList) (.lit (.int .i64 (L.length:Int))))):Zcv w' (some bm) (L ++ [x]):=by
 refine ⟨n+1,_,hm', by simp;omega,λ s=>?_⟩;have hk:WideAt.IsKeyLit (.string x.name.data.toList):=trivial;rw [Zmj]
 by_cases hs:x.name=s
 ·subst hs
  rw [hf,Maps.has_put_same hm.isMap hk,Maps.atKey_put_same hm.isMap hk];simp
 ·have hne:Lit.string s.data.toList≠Lit.string x.name.data.toList:=by
   intro e;apply hs;have e1:s.data.toList=x.name.data.toList:=by simpa using e
   have e2:s.data=x.name.data:=Array.toList_inj.1 e1;cases s;cases hx:x.name;simp_all
  rw [Maps.has_put_other hne,Maps.atKey_put_other hne,(hall s).1];cases hfs:Yz L s with
  | none=>simp [hs]
  | some i=>simpa using (hall s).2 i hfs
theorem Zkv {w:World} {e:TypeId} {v:Value} {n:Nat} {xs:List Value} {bm:Nat} {es:Array MapEntry} {clock:Nat} (hr:w.ownsRow 0 e 3 v n xs) (hb:w.heap[bm]? = some (.map es clock)):v.ownBlock≠some bm:=λ e=>by
 rcases hr.2 with ⟨rfl,_⟩ | ⟨g,c,cur,rfl,_,hg,_⟩
 ·simp [Value.ownBlock] at e
 ·simp [Value.ownBlock] at e;subst e;rw [hg] at hb;simp at hb
theorem Zwh {w wc w2:World} {b:Nat} {L:List Sym} {sv sv' : Value} {mr:Option Nat} {x:Sym} {bm n:Nat} {D:DataW Unit} (h:Yd w b L sv mr) (hz:Zy L x=0) (hb:wc.heap[b]? = some (.cells #[sv', .map (some bm)] 187 (0,0)))
  (hrow:wc.ownsRow 0 129 3 sv' (L.length+1) (Z0 (L ++ [x]))) (hkp:Zc (Foot b sv mr) w wc) (hft:∀ k,sv'.ownBlock=some k->k≠b∧(sv.ownBlock=some k∨w.heap.size<=k))
  (hm:wc.ownsMap Tryz.prog 9 (plainElem Tryz.prog 3) bm n D) (hn:n<=L.length)
  (hall:∀ s:ByteArray,Maps.has D (.string s.data.toList)=(Yz L s).isSome∧∀ i,Yz L s=some i->D.atKey (.string s.data.toList) (.lit (.int .i64 0))=.lit (.int .i64 (i:Int)))
  (hm2:w2.ownsMap Tryz.prog 9 (plainElem Tryz.prog 3) bm (n+1) (D.put (.string x.name.data.toList) (.lit (.int .i64 (L.length:Int)))))
  (hturn:wc.drew.mapTurned w2 bm) (hbm:mr=some bm∨w.heap.size<=bm):Zsx w b sv mr (L ++ [x]) w2:=by
 obtain ⟨hf,hnm,hlen⟩:=add_zero hz;have hk:Zc (λ k=>k=bm) wc w2:=Zc.grown (Zc.drew (Zc.refl _ wc)) hturn.grown (λ k e _=>by simpa using e.symm)
 have hbmb:b≠bm:=by
  obtain ⟨es,clock,hb', _⟩:=hm;intro e;subst e;rw [hb] at hb'; simp at hb'
 have hsb:sv'.ownBlock≠some bm:=by
  obtain ⟨es,clock,hb', _⟩:=hm;exact Zkv hrow hb'
 refine ⟨sv', some bm,⟨hk.at hb hbmb,?_,Zv4 hf hm hn hall hm2,λ e=>(hft b e).1 rfl,by simp;omega,?_⟩,?_,?_⟩
 ·have:=hk.row hrow (λ k e e' => hsb (by rw [e,e']))
  simpa using this
 ·intro y hy
  rcases List.mem_append.1 hy with hy | hy
  ·exact h.names y hy
  ·simp at hy;subst hy;exact hnm
 ·refine hkp.trans hk (λ i hi e=>?_)
  subst e
  rcases hbm with e | e
  ·exact .inr (.inr e)
  ·omega
 ·intro k hk'
  rcases hk' with e | e | e
  ·exact .inl (.inl e)
  ·exact (hft k e).2.imp (λ e=>.inr (.inl e)) id
  ·simp at e;subst e;exact hbm.imp (λ e=>.inr (.inr e)) id
theorem add_ok {w:World} {b:Nat} {L:List Sym} {sv:Value} {mr:Option Nat} (h:Yd w b L sv mr) (x:Sym) (hs:x.name.size<=maxLen) (hz:Zy L x=0) :
  Calls Tryz.prog 74 #[.pointer (some ⟨b,0,none⟩),.agg #[.string x.name,.int .i64 x.ar,.bool x.df]] w λ e w' => e=.returned (.tuple #[.int .i64 (L.length:Int),.int .i64 0])∧Zsx w b sv mr (L ++ [x]) w' := by
 obtain ⟨ao,cap,rfl⟩:=h.sv;have h1:Yd (w.alloc (Y1 x)) b L (.slice ao L.length cap) mr:=h.kept (Zc.alloc (Zc.refl (λ _=>False) w) _) (λ _ _ f=>f);have h2:Yd ((w.alloc (Y1 x)).alloc (Y1 x)) b L (.slice ao L.length cap) mr:=h1.kept (Zc.alloc (Zc.refl (λ _=>False) _) _) (λ _ _ f=>f);have c1:((w.alloc (Y1 x)).alloc (Y1 x)).cell? ⟨b,1,none⟩=some (.map mr):=Zb h2.blk 1;have f1:((w.alloc (Y1 x)).alloc (Y1 x)).frozen? ⟨b,1,none⟩=false:=Zd h2.blk 1;have h2box:((w.alloc (Y1 x)).alloc (Y1 x)).heap[w.heap.size]? = some (Y1 x):=by rw [heap_alloc_old _ _ (by simp)];exact heap_alloc_new w _
 have h3:Yd (((w.alloc (Y1 x)).alloc (Y1 x)).alloc (.map #[] 0)) b L (.slice ao L.length cap) mr:=h2.kept (Zc.alloc (Zc.refl (λ _=>False) _) _) (λ _ _ f=>f);have c3:(((w.alloc (Y1 x)).alloc (Y1 x)).alloc (.map #[] 0)).cell? ⟨b,1,none⟩=some (.map mr):=Zb h3.blk 1;have f3:(((w.alloc (Y1 x)).alloc (Y1 x)).alloc (.map #[] 0)).frozen? ⟨b,1,none⟩=false:=Zd h3.blk 1;have hmm:=@run_makeMap Tryz.prog;have hem:=Zj5
 go_enter Tryz.func74,Tryz.ntmps74
 go_upto_if 18 with (first | (go_at_call 111;refine (Zeg h1 x hs).mono ?_;rintro e w' ⟨rfl,rfl⟩))
 go_cut [] (λ w' => ∃ bm,Yd w' b L (.slice ao L.length cap) (some bm)∧w'.heap[w.heap.size]? = some (Y1 x)∧Zc (Foot b (.slice ao L.length cap) mr) w w' ∧ (mr=some bm∨w.heap.size<=bm))
 case first=>
  cases mr with
  | some bm=>
   go_wp2;go_meet
   case rel=>exact ⟨bm,h2,h2box,Zc.alloc (Zc.alloc (Zc.refl _ w) _) _,.inl rfl⟩
  | none=>
   go_wp2;go_meet
   case rel=>
    refine ⟨w.heap.size+1+1,?_,?_,?_,.inr (by omega)⟩
    ·simpa using Zm1 h2
    ·rw [Below.heap_setCell _ _ _ _ (by have:=Zi h.blk;simp;omega),heap_alloc_old _ _ (by simp;omega)];exact h2box
    ·exact Zc.setCell (Zc.alloc (Zc.alloc (Zc.alloc (Zc.refl _ w) _) _) _) (λ _=>.inl rfl) _
 case rest=>
  obtain ⟨bm,hsg,hbx,hkp,hbm⟩:=hcut;have d0:wc.cell? ⟨b,0,none⟩=some (.slice ao L.length cap):=Zb hsg.blk 0
  go_upto_region 7 with fail
  go_cut [] (λ w' => Zuq w b L (.slice ao L.length cap) mr bm x w')
  case first=>
   obtain ⟨i0,hi0,hz0,hz1,hz2⟩:=info_parts Zar;have hn1:L.length+1<=maxLen:=by have:=h.len;unfold maxLen;omega
   have hn2:(L.length+1) * 32<=140737488355328:=by have:=h.len;omega
   have g0:wc.frozen? ⟨b,0,none⟩=false:=Zd hsg.blk 0;have x0:wc.cell? ⟨w.heap.size,0,none⟩=some (.string x.name):=Zb hbx 0;have x1:wc.cell? ⟨w.heap.size,1,none⟩=some (.int .i64 x.ar):=Zb hbx 1;have x2:wc.cell? ⟨w.heap.size,2,none⟩=some (.bool x.df):=Zb hbx 2;have d0' : (wc.alloc (Y1 x)).cell? ⟨b,0,none⟩=some (.slice ao L.length cap):=Zb ((heap_alloc_old wc _ (Zi hsg.blk)).trans hsg.blk) 0
   go_region_law ((refine step_append_lies _ (by rfl) _ _ _ (by rfl) 0 129 i0 _ 3 32 Tryz.underlying22 hi0 hz0 hz1 hz2 rfl (by omega) (.slice ao L.length cap) L.length (Z0 L) (by rfl) ((hsg.row.alloc _).drew) ⟨wc.heap.size,0,none⟩ 1 1 [.string x.name,.int .i64 x.ar,.bool x.df] (by rfl) (by rfl) (World.news_of_block (cs:=#[.string x.name,.int .i64 x.ar,.bool x.df]) (t:=129) (fr:=(0,0)) (heap_alloc_new wc _)) (by simp [Value.oneCell']) (by omega) hn1 hn2 (by omega) (wc.heap.size+1) (by simp) ?_;intro gg cap w1 hown1 hgrow hat hlt;have hb1:=Zeh hgrow hsg.blk hsg.apart;have k0:=Zb hb1 0;have k1:=Zd hb1 0;simp only [List.getElem?_toArray,List.getElem?_cons_zero] at k0))
   all_goals
    go_wp2;go_meet
    case rel=>exact Zwp h hsg hbx hkp hown1 hgrow hat hb1
  case rest=>
   obtain ⟨sv', hb,hrow,hmap,hbx,hkp,hft⟩:=hcut;obtain ⟨n,D,hm,hn,hall⟩:=hmap;have hsz:Yz L x.name=none∧X6 x.name=true∧L.length<64:=add_zero hz;obtain ⟨w2,hrun,hm2,hturn⟩:=World.ownsMap.store (w:=wc.drew) hm Zca Tryz.underlying185 (by have:=hsz.2.2;unfold maxLen;omega) (Zjj hs) (plainElem_int Tryz.underlying3 (a:=(L.length:Int)) (WalkArith.wf_i64 (by have:=hsz.2.2;omega)));have y0:wc.cell? ⟨w.heap.size,0,none⟩=some (.string x.name):=Zb hbx 0;have y1:wc.cell? ⟨b,1,none⟩=some (.map (some bm)):=Zb hb 1
   go_wp2_with fail
   go_region
   all_goals
    go_wp2
    go_ret2
    exact ⟨rfl,Zwh h hz hb hrow hkp hft hm hn hall hm2 hturn hbm⟩
theorem add_no {w:World} {b:Nat} {L:List Sym} {sv:Value} {mr:Option Nat} (h:Yd w b L sv mr) (x:Sym) (hs:x.name.size<=maxLen) (hz:Zy L x≠0) :
  Calls Tryz.prog 74 #[.pointer (some ⟨b,0,none⟩),.agg #[.string x.name,.int .i64 x.ar,.bool x.df]] w λ e w' => e=.returned (.tuple #[.int .i64 0,.int .i64 (Zy L x)])∧Zsx w b sv mr L w' := by
 have h1:Yd (w.alloc (Y1 x)) b L sv mr:=h.kept (Zc.alloc (Zc.refl (λ _=>False) w) _) (λ _ _ f=>f);have h2:Yd ((w.alloc (Y1 x)).alloc (Y1 x)) b L sv mr:=h1.kept (Zc.alloc (Zc.refl (λ _=>False) _) _) (λ _ _ f=>f);have hz' : (Zy L x != 0)=true:=by simpa using hz
 go_enter Tryz.func74,Tryz.ntmps74
 go_wp2_with (first | (go_at_call 111;refine (Zeg h1 x hs).mono ?_;rintro e w' ⟨rfl,rfl⟩))
 go_ret2
 exact ⟨rfl,sv,mr,h2,Zc.alloc (Zc.alloc (Zc.refl _ w) _) _,λ k hk=>.inl hk⟩
theorem Zuz {w:World} {b:Nat} {L:List Sym} {sv:Value} {mr:Option Nat} (h:Yd w b L sv mr) (x:Sym) (hs:x.name.size<=maxLen) :
  Calls Tryz.prog 74 #[.pointer (some ⟨b,0,none⟩),.agg #[.string x.name,.int .i64 x.ar,.bool x.df]] w λ e w' => e=.returned (.tuple #[.int .i64 (Zw1 L x),.int .i64 (Zy L x)])∧Zsx w b sv mr (Zkl L x) w' := by
 by_cases hz:Zy L x=0
 ·rw [Zw1,Zkl,if_pos hz,if_pos hz,hz];exact add_ok h x hs hz
 ·rw [Zw1,Zkl,if_neg hz,if_neg hz];exact add_no h x hs hz
abbrev From (n k:Nat):Prop:=n<=k
abbrev aS:Sym:=⟨⟨#[115]⟩,1,false⟩
abbrev aAdd:Sym:=⟨⟨#[97,100,100]⟩,2,true⟩
theorem Yd.sym {w:World} {b:Nat} {L:List Sym} {ao:Option Addr} {cap:Nat} {mr:Option Nat} (h:Yd w b L (.slice ao L.length cap) mr) {i:Nat} (hi:i<L.length) :
  ∃ g,ao=some ⟨g,0,none⟩∧g<w.heap.size∧w.cell? ⟨g,i * 3,none⟩=some (.string L[i].name)∧w.cell? ⟨g,i * 3+1,none⟩=some (.int .i64 L[i].ar)∧w.cell? ⟨g,i * 3+2,none⟩=some (.bool L[i].df):=by
 obtain ⟨g,cap', hv,_,hlt⟩:=h.row.form (by omega);obtain ⟨rfl,_,rfl⟩:ao=some ⟨g,0,none⟩∧L.length=L.length∧cap=cap' := by simpa using hv
 have hc:=λ j hj=>h.row.cellAt j hj;obtain ⟨a1,a2,a3⟩:=Kc hi;refine ⟨g,rfl,hlt,?_,?_,?_⟩
 ·rw [hc _ (by omega),a1]
 ·rw [hc _ (by omega),a2]
 ·rw [hc _ (by omega),a3]
theorem Zqn {w:World} {b:Nat} {L:List Sym} {sv:Value} {mr:Option Nat} (h:Yd w b L sv mr) (i:Nat) (hi:i<L.length) :
  Calls Tryz.prog 81 #[.pointer (some ⟨b,0,none⟩),.int .i64 (i:Int)] w λ e w' => e=.returned (.tuple #[.agg #[.string L[i].name,.int .i64 L[i].ar,.bool L[i].df],.int .i64 0])∧Zc (λ _=>False) w w' := by
 obtain ⟨ao,cap,rfl⟩:=h.sv;have h1:∀ o,Yd (w.alloc o) b L (.slice ao L.length cap) mr:=λ o=>h.kept (Zc.alloc (Zc.refl (λ _=>False) w) _) (λ _ _ f=>f);have c0:∀ o,(w.alloc o).cell? ⟨b,0,none⟩=some (.slice ao L.length cap):=λ o=>Zb (h1 o).blk 0;obtain ⟨g,rfl,hg,x0,x1,x2⟩:=h.sym hi;have hlen:=h.len;have i1:(0:Int)<=(i:Int):=by omega
 have i2:(i:Int)<(L.length:Int):=by omega
 go_enter Tryz.func81,Tryz.ntmps81
 go_wp2;exact bodyPost_ret (v:=.tuple #[.agg #[.string L[i].name,.int .i64 L[i].ar,.bool L[i].df],.int .i64 0]) (by simp [results,Tryz.results81,go_sem]) rfl ⟨rfl,Zc.alloc (Zc.refl _ w) _⟩
theorem Zwd {w:World} {b:Nat} {L:List Sym} {sv:Value} {mr:Option Nat} (h:Yd w b L sv mr) (n:Int) (hn:n<0∨(L.length:Int)<=n) :
  Calls Tryz.prog 81 #[.pointer (some ⟨b,0,none⟩),.int .i64 n] w λ e w' => e=.returned (.tuple #[.agg #[.string ⟨#[]⟩,.int .i64 0,.bool false],.int .i64 14])∧Zc (λ _=>False) w w' := by
 obtain ⟨ao,cap,rfl⟩:=h.sv;have h1:∀ o,Yd (w.alloc o) b L (.slice ao L.length cap) mr:=λ o=>h.kept (Zc.alloc (Zc.refl (λ _=>False) w) _) (λ _ _ f=>f);have c0:∀ o,(w.alloc o).cell? ⟨b,0,none⟩=some (.slice ao L.length cap):=λ o=>Zb (h1 o).blk 0
 by_cases h0:n<0
 ·go_enter Tryz.func81,Tryz.ntmps81
  go_wp2;exact bodyPost_ret (v:=.tuple #[.agg #[.string ⟨#[]⟩,.int .i64 0,.bool false],.int .i64 14]) (by simp [results,Tryz.results81,go_sem]) rfl ⟨rfl,Zc.alloc (Zc.refl _ w) _⟩
 ·have h2:(L.length:Int)<=n:=by omega
  go_enter Tryz.func81,Tryz.ntmps81
  go_wp2;exact bodyPost_ret (v:=.tuple #[.agg #[.string ⟨#[]⟩,.int .i64 0,.bool false],.int .i64 14]) (by simp [results,Tryz.results81,go_sem]) rfl ⟨rfl,Zc.alloc (Zc.refl _ w) _⟩
end
section
open Go.RowKit
attribute [local go_sem ↓] Go.wp_at_zero Go.wp_at_succ
def Zcw (L:List Sym) (s:ByteArray):Int:=match Yz L s with | some i=>(i:Int) | none=>-1
theorem Zjg {L:List Sym} {s:ByteArray} {k:Nat} (hk:k<L.length) (h:L[k].name=s) (hb:∀ j (hj:j<L.length),j<k->L[j].name≠s):Yz L s=some k:=by
 induction L generalizing k with
 | nil=>simp at hk
 | cons y r ih=>
  simp only [Yz];cases k with
  | zero=>simp at h;simp [h]
  | succ j=>
   have h0:y.name≠s:=hb 0 (by simp) (by omega);rw [if_neg h0,ih (k:=j) (by simpa using hk) (by simpa using h) (λ i hi hij=>by have:=hb (i+1) (by simpa using hi) (by omega);simpa using this)];rfl
theorem Zqu {L:List Sym} {s:ByteArray} (hb:∀ j (hj:j<L.length),L[j].name≠s):Yz L s=none:=by
 induction L with
 | nil=>rfl
 | cons y r ih=>
  simp only [Yz];have h0:y.name≠s:=hb 0 (by simp);rw [if_neg h0,ih (λ j hj=>by have:=hb (j+1) (by simpa using hj);simpa using this)];rfl
theorem Zo6 {w:World} {base:Nat} {L:List Sym} {ao:Option Addr} {cap:Nat} (h:w.ownsRow base 129 3 (.slice ao L.length cap) L.length (Z0 L)) {i:Nat} (hi:i<L.length) :
  ∃ g,ao=some ⟨g,0,none⟩∧g<w.heap.size∧w.cell? ⟨g,i * 3,none⟩=some (.string L[i].name)∧w.cell? ⟨g,i * 3+1,none⟩=some (.int .i64 L[i].ar)∧w.cell? ⟨g,i * 3+2,none⟩=some (.bool L[i].df):=by
 obtain ⟨g,cap', hv,_,hlt⟩:=h.form (by omega);obtain ⟨rfl,_,rfl⟩:ao=some ⟨g,0,none⟩∧L.length=L.length∧cap=cap' := by simpa using hv
 have hc:=λ j hj=>h.cellAt j hj;obtain ⟨a1,a2,a3⟩:=Kc hi;refine ⟨g,rfl,hlt,?_,?_,?_⟩
 ·rw [hc _ (by omega),a1]
 ·rw [hc _ (by omega),a2]
 ·rw [hc _ (by omega),a3]
theorem Zef {w:World} {base:Nat} {L:List Sym} {v:Value} (hr:w.ownsRow base 129 3 v L.length (Z0 L)) (hlen:L.length<=64) (s:ByteArray) :
  Calls Tryz.prog 113 #[v,.string s] w λ e w' => e=.returned (.int .i64 (Zcw L s))∧w' = w:=by
 obtain ⟨ao,cap,rfl⟩:=Zf hr
 go_enter Tryz.func113,Tryz.ntmps113
 go_wp2
 go_loop [5] (λ i=>∃ k:Nat,k<=L.length∧i=.int .i64 k∧∀ j (hj:j<L.length),j<k->L[j].name≠s) (λ i=>L.length-(intOf i).toNat)
 case atStart=>exact ⟨0,Nat.zero_le _,rfl,λ j _ h=>by omega⟩
 case round=>
  obtain ⟨k,hk,rfl,hal⟩:=hrel
  by_cases hlt:k<L.length
  ·obtain ⟨g,rfl,hg,x0,x1,x2⟩:=Zo6 hr hlt
   have i1:(0:Int)<=(k:Int):=by omega
   have i2:(k:Int)<(L.length:Int):=by omega
   by_cases he:L[k].name=s
   ·have hf:Zcw L s=(k:Int):=by rw [Zcw,Zjg hlt he hal]
    have HF:Hid (Zcw L s=(k:Int)):=hf;clear hf;go_wp2;go_ret;exact ⟨Z7 HF.out.symm,rfl⟩
   ·have hnx:∀ j (hj:j<L.length),j<k+1->L[j].name≠s:=by
     intro j hj h2
     by_cases e:j=k
     ·subst e;exact he
     ·exact hal j hj (by omega)
    have he' := str_ne he;go_wp2
    go_round
    case rel=>exact ⟨k+1,by omega,by go_num,hnx⟩
    case measure=>simp [intOf];omega
  ·have hf:Zcw L s = -1:=by rw [Zcw,Zqu (λ j hj=>hal j hj (by omega))]
   have HF:Hid (Zcw L s = -1):=hf;clear hf;go_wp2;go_ret;exact ⟨Z7 HF.out.symm,rfl⟩
structure Jf (w:World) (rb:Nat) (L:List Sym) (rv:Value):Prop where
 blk:w.heap[rb]? = some (.cells #[rv] 161 (0,0))
 row:w.ownsRow 0 129 3 rv L.length (Z0 L)
 apart:rv.ownBlock≠some rb
def Ze1 (rb:Nat) (rv:Value) (k:Nat):Prop:=k=rb∨rv.ownBlock=some k
theorem Jf.kept {S:Nat->Prop} {w w' : World} {rb:Nat} {L:List Sym} {rv:Value} (h:Jf w rb L rv) (hk:Zc S w w') (hn:∀ k,Ze1 rb rv k->¬ S k):Jf w' rb L rv:=
 ⟨hk.at h.blk (hn rb (.inl rfl)),hk.row h.row (λ k e=>hn k (.inr e)),h.apart⟩
theorem Jf.lt {w:World} {rb:Nat} {L:List Sym} {rv:Value} (h:Jf w rb L rv):∀ k,Ze1 rb rv k->k<w.heap.size:=by
 intro k hk
 rcases hk with rfl | e
 ·exact Zi h.blk
 ·exact (h.row.lt k e).2
theorem Jf.c0 {w:World} {rb:Nat} {L:List Sym} {rv:Value} (h:Jf w rb L rv):w.cell? ⟨rb,0,none⟩=some rv:=Zb h.blk 0
theorem Jf.f0 {w:World} {rb:Nat} {L:List Sym} {rv:Value} (h:Jf w rb L rv):w.frozen? ⟨rb,0,none⟩=false:=Zd h.blk 0
def Zho (w:World) (rb:Nat) (rv:Value) (L' : List Sym) (w' : World):Prop:=
 ∃ rv', Jf w' rb L' rv' ∧ Zc (Ze1 rb rv) w w' ∧ ∀ k,Ze1 rb rv' k->Ze1 rb rv k∨w.heap.size<=k
theorem Zmp {L:List Sym} {s:ByteArray} (h:(Yz L s).isSome=true):0<=Zcw L s:=by
 unfold Zcw;cases hf:Yz L s with
 | none=>simp [hf] at h
 | some i=>simp
theorem Zfg {L:List Sym} {s:ByteArray} (h:(Yz L s).isSome=false):Zcw L s = -1:=by
 unfold Zcw;cases hf:Yz L s with
 | none=>rfl
 | some i=>simp [hf] at h
theorem Zvi {w:World} {rb:Nat} {L:List Sym} {rv:Value} (h:Jf w rb L rv) (hlen:L.length<=64) (x:Sym) (hs:x.name.size<=maxLen) (hz:Zy L x≠0) :
  Calls Tryz.prog 75 #[.pointer (some ⟨rb,0,none⟩),symV x] w λ e w' => e=.returned (.tuple #[.int .i64 0,.int .i64 (Zy L x)])∧Zc (λ _=>False) w w' := by
 have h1:Jf (w.alloc (Y1 x)) rb L rv:=h.kept (Zc.alloc (Zc.refl (λ _=>False) w) _) (λ _ _ f=>f);have h2:∀ m,Jf ((w.alloc (Y1 x)).drewN m) rb L rv:=λ m=>h1.kept (Zc.drewN (Zc.refl (λ _=>False) _) m) (λ _ _ f=>f);obtain ⟨ao,cap,rfl⟩:=Zf h.row;have c0:=h1.c0;cases hn:X6 x.name with
 | false=>
  have he:Zy L x=10:=by simp [Zy,hn]
  have HE:Hid (Zy L x=10):=he;clear he
  go_enter Tryz.func75,Tryz.ntmps75
  go_wp2_with (first | (go_at_call 112;refine (X1 _ _ hs).mono ?_;rintro e w' ⟨rfl,rfl⟩))
  go_ret2
  exact ⟨by rw [HE.out];rfl,Zc.alloc (Zc.refl _ w) _⟩
 | true=>
  by_cases ha:x.ar<0
  ·have HE:Hid (Zy L x=11):=by show Zy L x=11;simp [Zy,hn,ha]
   go_enter Tryz.func75,Tryz.ntmps75
   go_wp2_with (first | (go_at_call 112;refine (X1 _ _ hs).mono ?_;rintro e w' ⟨rfl,rfl⟩))
   go_ret2
   exact ⟨by rw [HE.out];rfl,Zc.alloc (Zc.refl _ w) _⟩
  ·by_cases hb:6<x.ar
   ·have HE:Hid (Zy L x=11):=by show Zy L x=11;simp [Zy,hn,hb]
    go_enter Tryz.func75,Tryz.ntmps75
    go_wp2_with (first | (go_at_call 112;refine (X1 _ _ hs).mono ?_;rintro e w' ⟨rfl,rfl⟩))
    go_ret2
    exact ⟨by rw [HE.out];rfl,Zc.alloc (Zc.refl _ w) _⟩
   ·cases hf:(Yz L x.name).isSome with
    | true=>
     have HE:Hid (Zy L x=12):=by show Zy L x=12;simp [Zy,hn,ha,hb,hf]
     have hfr:=Zmp hf
     go_enter Tryz.func75,Tryz.ntmps75
     go_wp2_with (first | (go_at_call 112;refine (X1 _ _ hs).mono ?_;rintro e w' ⟨rfl,rfl⟩))
     go_quiet ((go_at_call 113;exact Calls.quiet_of_same (Zef (h2 _).row hlen x.name)));go_wp2
     go_ret2
     exact ⟨by rw [HE.out];rfl,Zc.drewN (Zc.alloc (Zc.refl _ w) _) _⟩
    | false=>
     have hm:64<=L.length:=by
      rcases Nat.lt_or_ge L.length 64 with h | h
      ·exact absurd (by simp [Zy,hn,ha,hb,hf];omega) hz
      ·exact h
     have HE:Hid (Zy L x=13):=by show Zy L x=13;simp [Zy,hn,ha,hb,hf,hm]
     have hfr:=Zfg hf
     go_enter Tryz.func75,Tryz.ntmps75
     go_wp2_with (first | (go_at_call 112;refine (X1 _ _ hs).mono ?_;rintro e w' ⟨rfl,rfl⟩))
     go_quiet ((go_at_call 113;exact Calls.quiet_of_same (Zef (h2 _).row hlen x.name)));go_wp2
     go_ret2
     exact ⟨by rw [HE.out];rfl,Zc.drewN (Zc.alloc (Zc.refl _ w) _) _⟩
theorem Zts {w wc w1:World} {rb:Nat} {L:List Sym} {rv:Value} {x:Sym} {gg cap:Nat} (h:Jf w rb L rv) (hrc:Jf wc rb L rv) (hkp:Zc (λ _=>False) w wc)
  (hown1:w1.ownsRow 0 129 3 (.slice (some ⟨gg,0,none⟩) (L.length+1) cap) (L.length+1) (Z0 L ++ [.string x.name,.int .i64 x.ar,.bool x.df]))
  (hgrow:(wc.alloc (Y1 x)).drew.grownBy w1 rv.ownBlock) (hat:rv.ownBlock=some gg∨gg=wc.heap.size+1) :
  Zho w rb rv (L ++ [x]) (w1.setCell ⟨rb,0,none⟩ (.slice (some ⟨gg,0,none⟩) (L.length+1) cap)):=by
 have lb:=Zi h.blk;have lbc:=Zi hrc.blk;have hb1:=Zeh hgrow hrc.blk hrc.apart
 have hgb:gg≠rb:=by
  rcases hat with e | e
  ·intro e'; exact h.apart (by rw [e,e'])
  ·omega
 have hk1:Zc (Ze1 rb rv) wc w1:=Zc.grown (Zc.drew (Zc.alloc (Zc.refl _ wc) _)) hgrow (λ _ e _=>.inr e);have hk2:Zc (Ze1 rb rv) wc (w1.setCell ⟨rb,0,none⟩ (.slice (some ⟨gg,0,none⟩) (L.length+1) cap)):=Zc.setCell hk1 (λ _=>.inl rfl) _;have hk3:Zc (λ k=>k=rb) w1 (w1.setCell ⟨rb,0,none⟩ (.slice (some ⟨gg,0,none⟩) (L.length+1) cap)):=Zc.setCell (S:=λ k=>k=rb) (p:=⟨rb,0,none⟩) (Zc.refl _ _) (λ _=>rfl) _;refine ⟨_,⟨by rw [Zs hb1];rfl,?_,by simpa [Value.ownBlock] using hgb⟩,?_,?_⟩
 ·rw [Zbl]
  have:=hk3.row hown1 (λ k e e' => by simp [Value.ownBlock] at e;omega)
  simpa using this
 ·exact (hkp.mono (λ _ _ f=>f.elim)).trans hk2 (λ _ _ e=>e)
 ·intro k hk
  rcases hk with e | e
  ·exact .inl (.inl e)
  ·simp [Value.ownBlock] at e
   subst e
   rcases hat with e | e
   ·exact .inl (.inr e)
   ·right;have:=hkp.size;omega
theorem Zwc {w:World} {rb:Nat} {L:List Sym} {rv:Value} (h:Jf w rb L rv) (x:Sym) (hs:x.name.size<=maxLen) (hz:Zy L x=0) :
  Calls Tryz.prog 75 #[.pointer (some ⟨rb,0,none⟩),symV x] w λ e w' => e=.returned (.tuple #[.int .i64 (L.length:Int),.int .i64 0])∧Zho w rb rv (L ++ [x]) w' := by
 have h1:Jf (w.alloc (Y1 x)) rb L rv:=h.kept (Zc.alloc (Zc.refl (λ _=>False) w) _) (λ _ _ f=>f);have h2:∀ m,Jf ((w.alloc (Y1 x)).drewN m) rb L rv:=λ m=>h1.kept (Zc.drewN (Zc.refl (λ _=>False) _) m) (λ _ _ f=>f);obtain ⟨ao,cap,rfl⟩:=Zf h.row;have c0:=h1.c0;obtain ⟨hf,hn,hm⟩:=add_zero hz;have hlen:L.length<=64:=by omega
 have har:=Zun hz;have ha:¬ x.ar<0:=by omega
 have hb:¬ 6<x.ar:=by omega
 have hfr:Zcw L x.name = -1:=Zfg (by rw [hf];rfl)
 go_enter Tryz.func75,Tryz.ntmps75
 go_wp2_with (first | (go_at_call 112;refine (X1 _ _ hs).mono ?_;rintro e w' ⟨rfl,rfl⟩))
 go_quiet ((go_at_call 113;exact Calls.quiet_of_same (Zef (h2 _).row hlen x.name)));have hrc:=h2 nq;have hbx:((w.alloc (Y1 x)).drewN nq).heap[w.heap.size]? = some (Y1 x):=heap_alloc_new w _;have hkp:Zc (λ _=>False) w ((w.alloc (Y1 x)).drewN nq):=Zc.drewN (Zc.alloc (Zc.refl _ w) _) nq;obtain ⟨wc,hwc⟩:∃ wc,(w.alloc (Y1 x)).drewN nq=wc:=⟨_,rfl⟩;rw [hwc] at hrc hbx hkp ⊢;clear hwc c0;have d0:=hrc.c0
 go_upto_region 10 with fail
 go_cut [] (λ w' => Zho w rb (.slice ao L.length cap) (L ++ [x]) w')
 case first=>
  obtain ⟨i0,hi0,hz0,hz1,hz2⟩:=info_parts Zar;have hn1:L.length+1<=maxLen:=by unfold maxLen;omega
  have hn2:(L.length+1) * 32<=140737488355328:=by omega
  have g0:=hrc.f0;have x0:wc.cell? ⟨w.heap.size,0,none⟩=some (.string x.name):=Zb hbx 0;have x1:wc.cell? ⟨w.heap.size,1,none⟩=some (.int .i64 x.ar):=Zb hbx 1;have x2:wc.cell? ⟨w.heap.size,2,none⟩=some (.bool x.df):=Zb hbx 2;have d0' : (wc.alloc (Y1 x)).cell? ⟨rb,0,none⟩=some (.slice ao L.length cap):=Zb ((heap_alloc_old wc _ (Zi hrc.blk)).trans hrc.blk) 0
  go_region_law ((refine step_append_lies _ (by rfl) _ _ _ (by rfl) 0 129 i0 _ 3 32 Tryz.underlying22 hi0 hz0 hz1 hz2 rfl (by omega) (.slice ao L.length cap) L.length (Z0 L) (by rfl) ((hrc.row.alloc _).drew) ⟨wc.heap.size,0,none⟩ 1 1 [.string x.name,.int .i64 x.ar,.bool x.df] (by rfl) (by rfl) (World.news_of_block (cs:=#[.string x.name,.int .i64 x.ar,.bool x.df]) (t:=129) (fr:=(0,0)) (heap_alloc_new wc _)) (by simp [Value.oneCell']) (by omega) hn1 hn2 (by omega) (wc.heap.size+1) (by simp) ?_;intro gg cap w1 hown1 hgrow hat hlt;have hb1:=Zeh hgrow hrc.blk hrc.apart;have k0:=Zb hb1 0;have k1:=Zd hb1 0;simp only [List.getElem?_toArray,List.getElem?_cons_zero] at k0))
  all_goals
   go_wp2;go_meet
   case rel=>exact Zts h hrc hkp hown1 hgrow hat
 case rest=>
  obtain ⟨rv', hr', hk', hf'⟩:=hcut;obtain ⟨ao', cap', rfl⟩:=Zf hr'.row;have r0:=hr'.c0;simp only [List.length_append,List.length_cons,List.length_nil] at r0;go_wp2
  go_ret2
  exact ⟨by simp,_,hr', hk', hf'⟩
theorem Zsm {w:World} {rb:Nat} {L:List Sym} {rv:Value} (h:Jf w rb L rv) (hlen:L.length<=64) (x:Sym) (hs:x.name.size<=maxLen) :
  Calls Tryz.prog 75 #[.pointer (some ⟨rb,0,none⟩),symV x] w λ e w' => e=.returned (.tuple #[.int .i64 (Zw1 L x),.int .i64 (Zy L x)])∧Zho w rb rv (Zkl L x) w' := by
 by_cases hz:Zy L x=0
 ·rw [Zw1,Zkl,if_pos hz,if_pos hz,hz];exact Zwc h x hs hz
 ·rw [Zw1,Zkl,if_neg hz,if_neg hz]
  refine (Zvi h hlen x hs hz).mono ?_;rintro e w' ⟨rfl,hk⟩;exact ⟨rfl,rv,h.kept hk (λ _ _ f=>f),hk.mono (λ _ _ f=>f.elim),λ k hk=>.inl hk⟩
end
section
open Go.RowKit Go.Deep
def Vi (w:World) (ao:Option Addr) (len:Nat) (xs:List Sym):Prop:=
 xs.length=len∧(len=0∨∃ b off,ao=some ⟨b,off,none⟩∧b<w.heap.size∧∀ i (h:i<xs.length),w.cell? ⟨b,off+i * 3,none⟩=some (.string xs[i].name)∧w.cell? ⟨b,off+i * 3+1,none⟩=some (.int .i64 xs[i].ar)∧w.cell? ⟨b,off+i * 3+2,none⟩=some (.bool xs[i].df)) ∧
 ∀ x∈xs,x.name.size<=maxLen∧(Lit.int .i64 x.ar).wf=true
theorem Vi.kept {w w' : World} {ao:Option Addr} {len:Nat} {xs:List Sym} (h:Vi w ao len xs) (hb:Below w.heap.size w w'):Vi w' ao len xs:=by
 obtain ⟨h1,h2,h3⟩:=h;refine ⟨h1,h2.imp id ?_,h3⟩;rintro ⟨b,off,e,hlt,hc⟩;refine ⟨b,off,e,Nat.lt_of_lt_of_le hlt hb.size,λ i hi=>?_⟩;obtain ⟨a1,a2,a3⟩:=hc i hi;exact ⟨by rw [hb.cell hlt];exact a1,by rw [hb.cell hlt];exact a2,by rw [hb.cell hlt];exact a3⟩
section
variable {H : Type} {enc : TypeId × Value -> H} {w : World} {spare : Nat -> Bool} {held : Bool}
theorem Zci:Tryz.prog.cellsOf 129=3:=by kernel_rfl
theorem Zh9:Tryz.prog.cellsOf 9=1:=by kernel_rfl
theorem Zi2:Tryz.prog.cellsOf 3=1:=by kernel_rfl
theorem Zms:Tryz.prog.cellsOf 4=1:=by kernel_rfl
theorem Zth {fuel:Nat} {cs:List Value} {x:DataW H × List MemPlace} (h:DataW.trod enc Tryz.prog w 0 spare held fuel 129 cs=some x) :
  ∃ s:Sym,cs=[.string s.name,.int .i64 s.ar,.bool s.df]∧s.name.size<=maxLen∧(Lit.int .i64 s.ar).wf=true:=by
 obtain ⟨y0,y1,y2,n,_,hl,h0,h1,h2⟩:=trod_struct3 Tryz.underlying129 h;rw [Zci] at hl
 match cs,hl with
 | [c0,c1,c2],_=>
  simp only [Zh9,Zi2,Zms,List.drop_zero,List.take_succ_cons,List.take_zero,List.drop_succ_cons] at h0 h1 h2;obtain ⟨s,e0,_,hs⟩:=DataW.trod_string Tryz.underlying9 h0;obtain ⟨a,e1,_,ha⟩:=DataW.trod_int Tryz.underlying3 h1;obtain ⟨d,e2,_⟩:=DataW.trod_bool Tryz.underlying4 h2;simp only [List.cons.injEq,and_true] at e0 e1 e2;exact ⟨⟨s,a,d⟩,by rw [e0,e1,e2],hs,ha⟩
theorem Zfo {t e c fuel:Nat} {ao:Option Addr} {len cap:Nat} {x:DataW H × List MemPlace} (ht:Tryz.prog.underlying t=some (.slice e)) (hc:Tryz.prog.cellsOf e=c) (h0:0<c) (h:DataW.trod enc Tryz.prog w 0 spare held fuel t [.slice ao len cap]=some x) :
  (ao=none∧len=0∧cap=0)∨∃ a,ao=some a∧len<=cap∧cap<=maxLen∧∀ i,i<len->a=⟨a.block,a.off,none⟩∧a.block<w.heap.size∧∃ cs n y,cs.length=c∧(∀ j,j<c->w.cell? ⟨a.block,a.off+i * c+j,none⟩=cs[j]?)∧DataW.trod enc Tryz.prog w 0 spare held n e cs=some y:=by
 rcases open_slice ht h with ⟨hcs,_⟩ | ⟨a,len', cap', m,n,D,Pl,hcs,_,hl,hm,hmm,rfl,hx⟩
 ·simp at hcs;exact .inl ⟨hcs.1,hcs.2.1,hcs.2.2⟩
 ·simp at hcs
  obtain ⟨rfl,rfl,rfl⟩:=hcs;refine .inr ⟨a,rfl,hl,hm,λ i hi=>?_⟩;have hmi:i<m:=by rw [hmm];split <;> omega
  have hm0:0<m:=by omega
  obtain ⟨cs0,g0,_⟩:=hx 0 hm0;rw [hc] at g0;obtain ⟨_,gl,gc⟩:=World.cells?_some g0
  have hsp:a.spot=none:=by
   have:=gc 0 h0;have hv:cs0[0]? = some (cs0[0]'(by omega)):=List.getElem?_eq_getElem (by omega);rw [hv] at this;simp [Addr.add] at this;exact World.cell?_spot this
  have hlt:a.block<w.heap.size:=World.cells?_block (by simpa [Addr.add] using g0) h0;have ea:a=⟨a.block,a.off,none⟩:=by cases a;simp_all
  obtain ⟨cs,g1,g2⟩:=hx i hmi;rw [hc] at g1;obtain ⟨_,gl1,gc1⟩:=World.cells?_some g1;refine ⟨ea,hlt,cs,n,_,gl1,λ j hj=>?_,g2⟩;rw [<- gc1 j hj,add_add];congr 1;unfold Addr.add;split
  ·rw [ea];simp;omega
  ·simp
theorem Zqc {fuel:Nat} {ao:Option Addr} {len cap:Nat} {x:DataW H × List MemPlace} (h:DataW.trod enc Tryz.prog w 0 spare held fuel 22 [.slice ao len cap]=some x):∃ xs,Vi w ao len xs∧len<=maxLen:=by
 rcases Zfo Tryz.underlying22 Zci (by omega) h with ⟨rfl,rfl,rfl⟩ | ⟨a,rfl,hl1,hl2,hall⟩
 ·exact ⟨[],⟨rfl,.inl rfl,by simp⟩,by simp⟩
 ·have each:∀ i,i<len->∃ s:Sym,w.cell? ⟨a.block,a.off+i * 3,none⟩=some (.string s.name)∧w.cell? ⟨a.block,a.off+i * 3+1,none⟩=some (.int .i64 s.ar)∧w.cell? ⟨a.block,a.off+i * 3+2,none⟩=some (.bool s.df)∧s.name.size<=maxLen∧(Lit.int .i64 s.ar).wf=true:=by
   intro i hi;obtain ⟨_,_,cs,n,y,hl,hcell,hy⟩:=hall i hi;obtain ⟨s,rfl,hs,ha⟩:=Zth hy;exact ⟨s,by simpa using hcell 0 (by omega),by simpa using hcell 1 (by omega),by simpa using hcell 2 (by omega),hs,ha⟩
  obtain ⟨f,hf⟩:=Classical.axiomOfChoice (r:=λ (i:Fin len) (s:Sym)=>w.cell? ⟨a.block,a.off+i * 3,none⟩=some (.string s.name)∧w.cell? ⟨a.block,a.off+i * 3+1,none⟩=some (.int .i64 s.ar)∧w.cell? ⟨a.block,a.off+i * 3+2,none⟩=some (.bool s.df)∧s.name.size<=maxLen∧(Lit.int .i64 s.ar).wf=true) (λ i=>each i i.2);refine ⟨List.ofFn f,⟨by simp,?_,?_⟩,by omega⟩
  ·by_cases h0:len=0
   ·exact .inl h0
   ·obtain ⟨ea,hlt,_⟩:=hall 0 (by omega)
    refine .inr ⟨a.block,a.off,by rw [<- ea],hlt,λ i hi=>?_⟩;have hi' : i<len:=by simpa using hi
    have:=hf ⟨i,hi'⟩;simp only [List.getElem_ofFn];exact ⟨this.1,this.2.1,this.2.2.1⟩
  ·intro x hx
   obtain ⟨i,rfl⟩:=(List.mem_ofFn.1 hx);exact ⟨(hf i).2.2.2.1,(hf i).2.2.2.2⟩
end
end
section
open Go.RowKit
attribute [local go_sem ↓] Go.wp_at_zero Go.wp_at_succ
def Zh (w:World) (ao:Option Addr) (xs:List Int):Prop:=
 xs=[]∨∃ b off,ao=some ⟨b,off,none⟩∧b<w.heap.size∧∀ i (h:i<xs.length),w.cell? ⟨b,off+i,none⟩=some (.int .i64 xs[i])
theorem Zh.kept {w w' : World} {S:Nat->Prop} {ao:Option Addr} {xs:List Int} (h:Zh w ao xs) (hk:Zc S w w') (hs:∀ a,ao=some a->¬ S a.block):Zh w' ao xs:=by
 refine h.imp id ?_;rintro ⟨b,off,rfl,hlt,hc⟩;exact ⟨b,off,rfl,Nat.lt_of_lt_of_le hlt hk.size,λ i hi=>(hk.cell (p:=⟨b,off+i,none⟩) hlt (hs ⟨b,off,none⟩ rfl)).trans (hc i hi)⟩
theorem Zh.same {w w' : World} {ao:Option Addr} {xs:List Int} (h:Zh w ao xs) (hk:Za w w'):Zh w' ao xs:=h.kept hk (λ _ _ f=>f)
theorem Zh.get {w:World} {ao:Option Addr} {xs:List Int} (h:Zh w ao xs) {i:Nat} (hi:i<xs.length):∃ b off,ao=some ⟨b,off,none⟩∧b<w.heap.size∧w.cell? ⟨b,off+i,none⟩=some (.int .i64 xs[i]):=by
 rcases h with rfl | ⟨b,off,e,hlt,hc⟩
 ·simp at hi
 ·exact ⟨b,off,e,hlt,hc i hi⟩
def Ars (L:List Sym):Prop:=∀ x∈L,0<=x.ar∧x.ar<=6
theorem Xp {L:List Sym} (h:Ars L) (n:Int):arN L n<=6:=by
 unfold arN;split
 ·omega
 ·split
  ·rename_i x hx
   have:=h x (List.mem_of_getElem? hx);omega
  ·omega
def Sg (n:Nat) (w:World) (b:Nat) (L:List Sym):Prop:=(∃ sv mr,Yd w b L sv mr∧∀ k,Foot b sv mr k->k<n)∧Ars L
theorem Sg.kept {n b:Nat} {w w' : World} {L:List Sym} {S:Nat->Prop} (h:Sg n w b L) (hk:Zc S w w') (hs:∀ k,k<n->¬ S k):Sg n w' b L:=by
 obtain ⟨⟨sv,mr,h1,h2⟩,h3⟩:=h;exact ⟨⟨sv,mr,h1.kept hk (λ k e=>hs k (h2 k e)),h2⟩,h3⟩
theorem Sg.same {n b:Nat} {w w' : World} {L:List Sym} (h:Sg n w b L) (hk:Za w w'):Sg n w' b L:=h.kept hk (λ _ _ f=>f)
def Rl (n:Nat) (w:World) (rv:Value) (L:List Sym):Prop:=w.ownsRow 0 129 3 rv L.length (Z0 L)∧(∀ k,rv.ownBlock=some k->k<n)∧Ars L∧L.length<=64
theorem Rl.kept {n:Nat} {rv:Value} {w w' : World} {L:List Sym} {S:Nat->Prop} (h:Rl n w rv L) (hk:Zc S w w') (hs:∀ k,k<n->¬ S k):Rl n w' rv L:=
 ⟨hk.row h.1 (λ k e=>hs k (h.2.1 k e)),h.2⟩
theorem Rl.same {n:Nat} {rv:Value} {w w' : World} {L:List Sym} (h:Rl n w rv L) (hk:Za w w'):Rl n w' rv L:=h.kept hk (λ _ _ f=>f)
theorem Zro {L:List Sym} (h:Ars L) {i:Nat} (hi:i<L.length):((arN L (i:Int):Nat):Int)=L[i].ar:=by
 have:=(h L[i] (List.getElem_mem hi)).1;rw [arN,if_neg (by omega)];simp [hi];omega
theorem Zv6 {L:List Sym} {n:Int} (hn:n<0∨(L.length:Int)<=n):arN L n=0:=by
 unfold arN
 rcases hn with h | h
 ·simp [h]
 ·rw [if_neg (by omega),List.getElem?_eq_none (by omega)]
theorem Zec {n b:Nat} {w:World} {L:List Sym} (h:Sg n w b L) (x:Int):Calls Tryz.prog 110 #[.pointer (some ⟨b,0,none⟩),.int .i64 x] w λ e w' => e=.returned (.int .i64 ((arN L x:Nat):Int))∧Za w w' := by
 obtain ⟨⟨sv,mr,h1,_⟩,ha⟩:=h
 by_cases hx:x<0∨(L.length:Int)<=x
 ·have e1:=Zv6 hx
  have H1:Hid (arN L x=0):=e1;clear e1;have c:=Zwd h1 x hx
  go_enter Tryz.func110,Tryz.ntmps110
  go_wp2_with (first | (go_at_call 81;refine c.mono ?_;rintro e w' ⟨rfl,hk⟩))
  go_ret;exact ⟨by rw [H1.out];rfl,hk.alloc _⟩
 ·obtain ⟨i,rfl⟩:∃ i:Nat,x=(i:Int):=⟨x.toNat,by omega⟩
  have hi:i<L.length:=by omega
  have H1:Hid (((arN L (i:Int):Nat):Int)=L[i].ar):=Zro ha hi;have c:=Zqn h1 i hi
  go_enter Tryz.func110,Tryz.ntmps110
  go_wp2_with (first | (go_at_call 81;refine c.mono ?_;rintro e w' ⟨rfl,hk⟩))
  go_ret;exact ⟨by rw [H1.out];rfl,hk.alloc _⟩
theorem Je (x:Int) (w:World):Calls Tryz.prog 135 #[.int .i64 x] w λ e w' => e=.returned (.bool (isV x))∧w' = w:=by
 by_cases h1 : -99<=x
 ·by_cases h2:x <= -1
  ·have H:Hid (isV x=true):=by show _=_;simp [isV];omega
   go_enter Tryz.func135,Tryz.ntmps135
   go_wp2;go_ret;exact ⟨by rw [H.out];rfl,rfl⟩
  ·have H:Hid (isV x=false):=by show _=_;simp [isV];omega
   go_enter Tryz.func135,Tryz.ntmps135
   go_wp2;go_ret;exact ⟨by rw [H.out];rfl,rfl⟩
 ·have H:Hid (isV x=false):=by show _=_;simp [isV];omega
  go_enter Tryz.func135,Tryz.ntmps135
  go_wp2;go_ret;exact ⟨by rw [H.out];rfl,rfl⟩
def Zei (L:List Sym) (x:Int):Int:=if (L.length:Int)<=x then 21 else if x < -99 then 22 else 0
theorem Zue {n b:Nat} {w:World} {L:List Sym} (h:Sg n w b L):Calls Tryz.prog 129 #[.pointer (some ⟨b,0,none⟩)] w λ e w' => e=.returned (.int .i64 (L.length:Int))∧w' = w:=by
 obtain ⟨⟨sv,mr,h1,_⟩,ha⟩:=h;exact Zkw h1
theorem Zee {n b:Nat} {w:World} {L:List Sym} (h:Sg n w b L) (x:Int):Calls Tryz.prog 102 #[.pointer (some ⟨b,0,none⟩),.int .i64 x] w λ e w' => e=.returned (.int .i64 (Zei L x))∧w' = w:=by
 have c:=Zue h
 by_cases h1:(L.length:Int)<=x
 ·have H:Hid (Zei L x=21):=by show _=_;simp [Zei,h1]
  go_enter Tryz.func102,Tryz.ntmps102
  go_wp2_with (first | (go_at_call 129;refine c.mono ?_;rintro e w' ⟨rfl,rfl⟩))
  all_goals
   go_ret;exact ⟨by rw [H.out];rfl,rfl⟩
 ·by_cases h2:x<0
  ·by_cases h3:x < -99
   ·have H:Hid (Zei L x=22):=by show _=_;simp [Zei,h1,h3]
    have h4:isV x=false:=by simp [isV];omega
    go_enter Tryz.func102,Tryz.ntmps102
    go_wp2_with (first | (go_at_call 129;refine c.mono ?_;rintro e w' ⟨rfl,rfl⟩) | (go_at_call 135;refine (Je _ _).mono ?_;rintro e w' ⟨rfl,rfl⟩))
    all_goals
     go_ret;exact ⟨by rw [H.out];rfl,rfl⟩
   ·have H:Hid (Zei L x=0):=by show _=_;simp [Zei,h1,h3]
    have h4:isV x=true:=by simp [isV];omega
    go_enter Tryz.func102,Tryz.ntmps102
    go_wp2_with (first | (go_at_call 129;refine c.mono ?_;rintro e w' ⟨rfl,rfl⟩) | (go_at_call 135;refine (Je _ _).mono ?_;rintro e w' ⟨rfl,rfl⟩))
    all_goals
     go_ret;exact ⟨by rw [H.out];rfl,rfl⟩
  ·have H:Hid (Zei L x=0):=by show _=_;simp [Zei,h1];omega
   go_enter Tryz.func102,Tryz.ntmps102
   go_wp2_with (first | (go_at_call 129;refine c.mono ?_;rintro e w' ⟨rfl,rfl⟩))
   all_goals
    go_ret;exact ⟨by rw [H.out];rfl,rfl⟩
end
end Go.Proofs.YtjahpnbijefncaaGreat
