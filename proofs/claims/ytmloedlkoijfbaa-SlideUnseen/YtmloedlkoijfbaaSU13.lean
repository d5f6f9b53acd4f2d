import Derived.Test.YtmloedlkoijfbaaSU11
namespace Go.Proofs.Ytmloedlkoijfbaa
set_option maxRecDepth 100000
set_option linter.unusedVariables false
open Go.RowKit
attribute [local go_sem ↓] Go.wp_at_zero Go.wp_at_succ
set_option maxHeartbeats 8000000 in
theorem un_point {w wr:World} {ro:Option Addr} {rs:List Raw4} {rc:Nat} {h g p q k:Nat} {vx vy:Value} {l m:List Nd} {X Y:List Int} {Q:Nat→Nat→Prop} (hl:rs.length≤2 ^ 63-1) (HX:Hid (∀ ww,Same0 w ww→RawsAt ww ro rs)) (HO:Hid (∀ r∈rs,r.ok)) (h1:k<rs.length) (h2:k<600) (hU:UnM w wr h g p q vx vy l m X Y) (hN:Unn l m X Y Q) (ll:l.length≤k) (lm:m.length≤k) (lX:X.length≤k)
  (hact:pickF (rs[k]'h1).1 7=4∧X.length≠0)
  {t1 t2 t3 t5 t7 t11 t12 t13 t14 t15 t16 t17 t18 t19 t20 t21 t22 t23 t24 t25 t26 t27 t28 t29 t30 t31 t32 t33 t34 t35 t36 t37 t38 t39 t40 t41 t42 t43 t44 t45 t46 t47 t48 t49 t50 t51 t52 t53 t54 t55 t56 t57 t58 t59 t60 t61 t62 t63 t64 t65 t66 t67 t68 t69 t70 t71 t72 t73 t74 t75 t76 t77 t78 t79 t80 t81 t82 t83 t84 t85 t86 t87 t88 t89 t90 t91 t92 t93 t94 t95 t96 t97 t98 t99 t100 t101 t102 t103 t104 t105 t106 t107 t108 t109 t110 t111 t112 t113 t114 t115 t116 t117 t118 t119 t120 t121 t122 t123 t124 t125 t126 t127 t128 t129 t130 t131 t132 t133 t134 t135 t136 t137 t138 t139 t140 t141 t142 t143 t144 t145 t146 t147 t148 t149 t150 t151 t152 t153 t154 t155 t156 t157 t158 t159 t160 t161 t162 t163 t164 t165 t166 t167 t168 t169 t170 t171 t172 t173 t174 t175 t176 t177 t178 t179 t180 t181 t182 t183 t184 t185 t186 t187 t188 t189 t190 t191 t192 t193 t194 t195 t196 t197 t198 t199 t200 t201 t202 t203 t204 t205 t206 t207 t208 t209 t210 t211 t212 t213 t214 t215 t216 t217 t218 t219 t220 t221 t222 t223 t224 t225 t226 t227 t228 t229 t230 t231 t232 t233 t234 t235 t236 t237 t238 t239 t240 t241 t242 t243 t244 t245 t246 t247 t248 t249 t250 t251 t252 t253 t254 t255 t256 t257 t258 t259 t260 t261 t262 t263 t264 t265 t266 t267 t268 t269 t270 t271 t272 t273 t274 t275 t276 t277 t278 t279 t280 t281 t282 t283 t284 t285 t286:Value} {cc:Code} (hcode:Try.f6.body.bind uloop=some cc) {R0:Act→World→Prop} {Q0:Exit→Act→World→Prop}
  (HR:Hid (∀ (s2 s11 s12 s13 s14 s15 s16 s17 s18 s19 s20 s21 s22 s23 s24 s25 s26 s27 s28 s62 s63 s64 s65 s66 s67 s68 s69 s70 s71 s72 s73 s74 s75 s76 s77 s78 s79 s80 s81 s82 s83 s84 s85 s86 s87 s88 s89 s90 s91 s92 s93 s94 s95 s96 s97 s98 s99 s100 s101 s102 s103 s104 s105 s106 s107 s108 s109 s110 s111 s112 s113 s114 s115 s116 s117 s118 s119 s120 s121 s122 s123 s124 s125 s126 s127 s128 s129 s130 s131 s132 s133 s134 s135 s136 s137 s138 s139 s140 s141 s142 s143 s144 s145 s146 s147 s148 s149 s150 s151 s152 s153 s154 s155 s156 s157 s158 s159 s160 s161 s162 s163 s164 s165 s166 s167 s168 s169 s170 s171 s172 s173 s174 s175 s176 s177 s178 s179 s180 s181 s182 s183 s184 s185 s186 s187 s188 s189 s190 s191 s192 s193 s194 s195 s196 s197 s198 s199 s200 s201 s202 s203 s204 s205 s206 s207 s208 s209 s210 s211 s212 s213 s214 s215 s216 s217 s218 s219 s220 s221 s222 s223 s224 s225 s226 s227 s228 s229 s230 s231 s232 s233 s234 s235 s236 s237 s238 s239 s240 s241 s242 s243 s244 s245 s246 s247 s248 s249 s250 s251 v8 v9 v10:Value) (wc:World),v10=.int .i64 ((k+1:Nat):Int)→Hid (UnS w wc h g p q v8 v9 (k+1))→R0 ⟨List.toArray ((.slice ro rs.length rc) :: t1 :: s2 :: t3 :: (.pointer (some ⟨h,0,none⟩)) :: t5 :: (.pointer (some ⟨p,0,none⟩)) :: t7 :: v8 :: v9 :: v10 :: s11 :: s12 :: s13 :: s14 :: s15 :: s16 :: s17 :: s18 :: s19 :: s20 :: s21 :: s22 :: s23 :: s24 :: s25 :: s26 :: s27 :: s28 :: t29 :: t30 :: t31 :: t32 :: t33 :: t34 :: t35 :: t36 :: t37 :: t38 :: t39 :: t40 :: t41 :: t42 :: t43 :: t44 :: t45 :: t46 :: t47 :: t48 :: t49 :: t50 :: t51 :: t52 :: t53 :: t54 :: t55 :: t56 :: t57 :: t58 :: t59 :: t60 :: t61 :: s62 :: s63 :: s64 :: s65 :: s66 :: s67 :: s68 :: s69 :: s70 :: s71 :: s72 :: s73 :: s74 :: s75 :: s76 :: s77 :: s78 :: s79 :: s80 :: s81 :: s82 :: s83 :: s84 :: s85 :: s86 :: s87 :: s88 :: s89 :: s90 :: s91 :: s92 :: s93 :: s94 :: s95 :: s96 :: s97 :: s98 :: s99 :: s100 :: s101 :: s102 :: s103 :: s104 :: s105 :: s106 :: s107 :: s108 :: s109 :: s110 :: s111 :: s112 :: s113 :: s114 :: s115 :: s116 :: s117 :: s118 :: s119 :: s120 :: s121 :: s122 :: s123 :: s124 :: s125 :: s126 :: s127 :: s128 :: s129 :: s130 :: s131 :: s132 :: s133 :: s134 :: s135 :: s136 :: s137 :: s138 :: s139 :: s140 :: s141 :: s142 :: s143 :: s144 :: s145 :: s146 :: s147 :: s148 :: s149 :: s150 :: s151 :: s152 :: s153 :: s154 :: s155 :: s156 :: s157 :: s158 :: s159 :: s160 :: s161 :: s162 :: s163 :: s164 :: s165 :: s166 :: s167 :: s168 :: s169 :: s170 :: s171 :: s172 :: s173 :: s174 :: s175 :: s176 :: s177 :: s178 :: s179 :: s180 :: s181 :: s182 :: s183 :: s184 :: s185 :: s186 :: s187 :: s188 :: s189 :: s190 :: s191 :: s192 :: s193 :: s194 :: s195 :: s196 :: s197 :: s198 :: s199 :: s200 :: s201 :: s202 :: s203 :: s204 :: s205 :: s206 :: s207 :: s208 :: s209 :: s210 :: s211 :: s212 :: s213 :: s214 :: s215 :: s216 :: s217 :: s218 :: s219 :: s220 :: s221 :: s222 :: s223 :: s224 :: s225 :: s226 :: s227 :: s228 :: s229 :: s230 :: s231 :: s232 :: s233 :: s234 :: s235 :: s236 :: s237 :: s238 :: s239 :: s240 :: s241 :: s242 :: s243 :: s244 :: s245 :: s246 :: s247 :: s248 :: s249 :: s250 :: s251 :: t252 :: t253 :: t254 :: t255 :: t256 :: t257 :: t258 :: t259 :: t260 :: t261 :: t262 :: t263 :: t264 :: t265 :: t266 :: t267 :: t268 :: t269 :: t270 :: t271 :: t272 :: t273 :: t274 :: t275 :: t276 :: t277 :: t278 :: t279 :: t280 :: t281 :: t282 :: t283 :: t284 :: t285 :: t286 :: []),[]⟩ wc)) :
  Code.wp Try.prog cc (Exit.then R0 Q0) ⟨List.toArray ((.slice ro rs.length rc) :: t1 :: t2 :: t3 :: (.pointer (some ⟨h,0,none⟩)) :: t5 :: (.pointer (some ⟨p,0,none⟩)) :: t7 :: (vx) :: (vy) :: (.int .i64 (k:Int)) :: t11 :: t12 :: t13 :: t14 :: t15 :: t16 :: t17 :: t18 :: t19 :: t20 :: t21 :: t22 :: t23 :: t24 :: t25 :: t26 :: t27 :: t28 :: t29 :: t30 :: t31 :: t32 :: t33 :: t34 :: t35 :: t36 :: t37 :: t38 :: t39 :: t40 :: t41 :: t42 :: t43 :: t44 :: t45 :: t46 :: t47 :: t48 :: t49 :: t50 :: t51 :: t52 :: t53 :: t54 :: t55 :: t56 :: t57 :: t58 :: t59 :: t60 :: t61 :: t62 :: t63 :: t64 :: t65 :: t66 :: t67 :: t68 :: t69 :: t70 :: t71 :: t72 :: t73 :: t74 :: t75 :: t76 :: t77 :: t78 :: t79 :: t80 :: t81 :: t82 :: t83 :: t84 :: t85 :: t86 :: t87 :: t88 :: t89 :: t90 :: t91 :: t92 :: t93 :: t94 :: t95 :: t96 :: t97 :: t98 :: t99 :: t100 :: t101 :: t102 :: t103 :: t104 :: t105 :: t106 :: t107 :: t108 :: t109 :: t110 :: t111 :: t112 :: t113 :: t114 :: t115 :: t116 :: t117 :: t118 :: t119 :: t120 :: t121 :: t122 :: t123 :: t124 :: t125 :: t126 :: t127 :: t128 :: t129 :: t130 :: t131 :: t132 :: t133 :: t134 :: t135 :: t136 :: t137 :: t138 :: t139 :: t140 :: t141 :: t142 :: t143 :: t144 :: t145 :: t146 :: t147 :: t148 :: t149 :: t150 :: t151 :: t152 :: t153 :: t154 :: t155 :: t156 :: t157 :: t158 :: t159 :: t160 :: t161 :: t162 :: t163 :: t164 :: t165 :: t166 :: t167 :: t168 :: t169 :: t170 :: t171 :: t172 :: t173 :: t174 :: t175 :: t176 :: t177 :: t178 :: t179 :: t180 :: t181 :: t182 :: t183 :: t184 :: t185 :: t186 :: t187 :: t188 :: t189 :: t190 :: t191 :: t192 :: t193 :: t194 :: t195 :: t196 :: t197 :: t198 :: t199 :: t200 :: t201 :: t202 :: t203 :: t204 :: t205 :: t206 :: t207 :: t208 :: t209 :: t210 :: t211 :: t212 :: t213 :: t214 :: t215 :: t216 :: t217 :: t218 :: t219 :: t220 :: t221 :: t222 :: t223 :: t224 :: t225 :: t226 :: t227 :: t228 :: t229 :: t230 :: t231 :: t232 :: t233 :: t234 :: t235 :: t236 :: t237 :: t238 :: t239 :: t240 :: t241 :: t242 :: t243 :: t244 :: t245 :: t246 :: t247 :: t248 :: t249 :: t250 :: t251 :: t252 :: t253 :: t254 :: t255 :: t256 :: t257 :: t258 :: t259 :: t260 :: t261 :: t262 :: t263 :: t264 :: t265 :: t266 :: t267 :: t268 :: t269 :: t270 :: t271 :: t272 :: t273 :: t274 :: t275 :: t276 :: t277 :: t278 :: t279 :: t280 :: t281 :: t282 :: t283 :: t284 :: t285 :: t286 :: []),[]⟩ wr:=by
 obtain rfl:_=cc:=Option.some.inj hcode
 clear hcode
 have hk:k≤rs.length:=Nat.le_of_lt h1
 have hk6:k≤600:=Nat.le_of_lt h2
 obtain ⟨xo,xc,e⟩:=row_shape hU.rx
 subst e
 obtain ⟨yo,yc,e⟩:=row_shape hU.ry
 subst e
 have HL:Hid (X.length=Y.length):=hN.len
 obtain ⟨n,hn⟩:∃ n,n=X.length:=⟨_,rfl⟩
 have hn2:Y.length=n:=by rw [hn];exact HL.out.symm
 have HM:Hid (UnM w wr h g p q (.slice xo n xc) (.slice yo n yc) l m X Y∧Unn l m X Y Q∧l.length≤k∧m.length≤k):=by
  have e:=hU
  rw [← hn,hn2] at e
  exact ⟨e,hN,ll,lm⟩
 rw [← hn,hn2]
 have HNX:Hid (n=X.length∧n=Y.length∧n≤k):=⟨hn,hn2.symm,by omega⟩
 have hnk:n≤600:=by omega
 have hw:=hU.kept
 rw [← hn] at hact
 clear hU hN hn hn2 lX ll lm
 have j1:(k:Int)<(rs.length:Int):=by omega
 have j2:(k:Int)<600:=by omega
 have j3:(0:Int)≤(k:Int):=by omega
 obtain ⟨sb,so,rfl,c0,c1,c2,c3⟩:=(HX.out wr hw).get h1
 have hx:=HO.out _ (List.getElem_mem h1)
 generalize rs[k]=x at *
 obtain ⟨W0,hW0⟩:∃ W0,W0=wr.alloc (.cells #[.int .i64 x.1,.int .i64 x.2.1,.int .i64 x.2.2.1,.int .i64 x.2.2.2] 56):=⟨_,rfl⟩
 have k0:Same0 wr W0:=by rw [hW0];exact (Kept.refl _ wr).alloc _
 have hb:W0.heap[wr.heap.size]? = some (.cells #[.int .i64 x.1,.int .i64 x.2.1,.int .i64 x.2.2.1,.int .i64 x.2.2.2] 56 (0,0)):=by rw [hW0];exact heap_alloc_new wr _
 have HBB:Hid (W0.heap[wr.heap.size]? = some (.cells #[.int .i64 x.1,.int .i64 x.2.1,.int .i64 x.2.2.1,.int .i64 x.2.2.2] 56 (0,0))):=hb
 have HM0:Hid (UnM w W0 h g p q (.slice xo n xc) (.slice yo n yc) l m X Y):=HM.out.1.same k0
 have HBK:Hid (∀ ww,Kept (fun k=>k=h∨k=g) W0 ww→ww.cell? ⟨wr.heap.size,2,none⟩=some (.int .i64 x.2.2.1)):=fun ww hk=>(box4 (hk.at hb (fun e=>by have a1:=HM.out.1.hl.ltH;have a2:=HM.out.1.hl.ltG;omega))).2.2.1
 have HB:Hid (∀ ww,Same0 W0 ww→ww.cell? ⟨wr.heap.size,0,none⟩=some (.int .i64 x.1)∧ww.cell? ⟨wr.heap.size,1,none⟩=some (.int .i64 x.2.1)∧ww.cell? ⟨wr.heap.size,2,none⟩=some (.int .i64 x.2.2.1)∧ww.cell? ⟨wr.heap.size,3,none⟩=some (.int .i64 x.2.2.2)):=fun ww hk=>box4 (hk.at hb (fun f=>f))
 obtain ⟨b0,b1,b2,b3⟩:=HB.out W0 (Kept.refl _ _)
 obtain ⟨K,hK⟩:∃ K,K=pickF x.1 7:=⟨_,rfl⟩
 have C7:=pick12_any x.1 hx.1 7 (by decide) (by decide) W0
 have hK7:=pick_lt x.1 (show (0:Int)<7 by decide)
 rw [← hK] at C7 hK7 hact
 have HXO:Hid x.ok:=hx
 clear hx hK k0 hb
 go_upto_region 12 with fail
 rw [← hW0]
 clear hW0 c0 c1 c2 c3
 go_upto_region 18 with (first | (go_at_call 19;refine C7.mono ?_;rintro e w4 ⟨rfl,h4⟩;have h4:=h4.symm;subst h4))
 clear C7
 have CP:Hid (∀ c ww,I64 c→0<n→Calls Try.prog 19 #[.int .i64 c,.int .i64 (n:Int)] ww fun e w' => ∃ t:Nat,e=.returned (.int .i64 (t:Int))∧w' = ww∧t=pickF c (n:Int)∧(t:Int)<(n:Int)∧(0:Int)≤(t:Int)):=fun c ww hc h0=>(pick12_any c hc (n:Int) (by omega) (by omega) ww).mono (by rintro e w' ⟨rfl,rfl⟩;exact ⟨_,rfl,rfl,rfl,pick_lt c (by omega),by omega⟩)
 have CX:Hid (∀ ww,Same0 W0 ww→∀ t:Nat,(t:Int)<(n:Int)→∃ gx gy zx zy,xo=some ⟨gx,0,none⟩∧yo=some ⟨gy,0,none⟩∧ww.cell? ⟨gx,t,none⟩=some (.int .i64 zx)∧ww.cell? ⟨gy,t,none⟩=some (.int .i64 zy)∧X[t]? = some zx∧Y[t]? = some zy):=fun ww hk t ht=>by
  have e1:=HNX.out.1
  have e2:=HNX.out.2.1
  have U:=HM0.out.same hk
  obtain ⟨gx,cx,gy,cy,q1,q2,q3,q4⟩:=U.get HL.out (j:=t) (by omega)
  simp only [Value.slice.injEq] at q1 q2
  exact ⟨gx,gy,_,_,q1.1,q2.1,q3,q4,List.getElem?_eq_getElem (by omega),List.getElem?_eq_getElem (by omega)⟩
 have hmk:¬ (K≤3∨n=0):=by omega
 have hc:¬ K=6:=by omega
 have hn0:0<n:=by omega
 have n1:((n:Int) == 0)=false:=by simp;omega
 obtain ⟨gx,gy,z1,z2,rfl,rfl, -, -, -, -⟩:=CX.out W0 (Kept.refl _ _) 0 (by omega)
 have hbox:W0.heap[wr.heap.size]? = some (.cells #[.int .i64 x.1,.int .i64 x.2.1,.int .i64 x.2.2.1,.int .i64 x.2.2.2] 56 (0,0)):=HBB.out
 have h4:K=4:=hact.1
 clear hact
 subst h4
 have CXN:Hid (∀ ww,Same0 W0 ww→∀ t:Nat,(t:Int)<(n:Int)→∃ zx zy:Nat,ww.cell? ⟨gx,t,none⟩=some (.int .i64 (zx:Int))∧ww.cell? ⟨gy,t,none⟩=some (.int .i64 (zy:Int))∧X[t]? = some (zx:Int)∧Y[t]? = some (zy:Int)∧zx<l.length∧zy<m.length):=fun ww hk t ht=>by
  obtain ⟨gx', gy', zx,zy,e1,e2,q1,q2,q3,q4⟩:=CX.out ww hk t ht
  cases e1;cases e2
  obtain ⟨r1,r2, -⟩:=HM.out.2.1.han t zx zy q3 q4
  have c1:((zx.toNat:Nat):Int)=zx:=by omega
  have c2:((zy.toNat:Nat):Int)=zy:=by omega
  exact ⟨zx.toNat,zy.toNat,by rw [c1];exact q1,by rw [c2];exact q2,by rw [c1];exact q3,by rw [c2];exact q4,by omega,by omega⟩
 have CR1:Hid (∀ ww,Same0 W0 ww→∀ z:Nat,z<l.length→Calls Try.prog 21 #[.pointer (some ⟨h,0,none⟩),.int .i64 (z:Int)] ww fun e w' => ∃ b:Nat,e=.returned (.tuple #[.int .i64 (b:Int),.int .i64 0])∧Res l z b∧Same0 ww w'):=fun ww hk z hz=>hres_yes (HM0.out.same hk).hl z hz
 have CR2:Hid (∀ ww,Same0 W0 ww→∀ z:Nat,z<m.length→Calls Try.prog 21 #[.pointer (some ⟨p,0,none⟩),.int .i64 (z:Int)] ww fun e w' => ∃ b:Nat,e=.returned (.tuple #[.int .i64 (b:Int),.int .i64 0])∧Res m z b∧Same0 ww w'):=fun ww hk z hz=>hres_yes (HM0.out.same hk).hm z hz
 clear CX hbox
 go_upto_region 33 with fail
 go_upto_region 34 with (first
  | (go_at_call 19;refine (CP.out _ _ HXO.out.2.1 hn0).mono ?_;rintro e w4 ⟨t,rfl,h4,ht,t1,t2⟩;have h4:=h4.symm;subst h4;obtain ⟨zx,zy,cx, -,ex,ey,lx,ly⟩:=CXN.out _ (Kept.refl _ _) t t1;have HE:Hid (X[t]? = some (zx:Int)∧Y[t]? = some (zy:Int)):=⟨ex,ey⟩;have HT:=(show Hid _ from ht);clear ht ex ey)
  | (go_at_call 21;refine (CR1.out _ (Kept.refl _ _) zx lx).mono ?_;rintro e w5 ⟨c,rfl,hc1,k5⟩))
 obtain ⟨d0,d1,d2,d3⟩:=HB.out w5 k5
 clear b0 b1 b2 b3 cx
 go_upto_region 35 with (first
  | (go_at_call 19;refine (CP.out _ _ HXO.out.2.1 hn0).mono ?_;rintro e w4 ⟨t', rfl,h4,ht', t1', t2'⟩;have h4:=h4.symm;subst h4;have e:=ht'.trans HT.out.symm;subst e;obtain ⟨zx', zy', -,cy, -,ey, -,ly'⟩:=CXN.out _ k5 t' t1'; have HE2:Hid (Y[t']? = some (zy' : Int)):=ey;clear ht' ey)
  | (go_at_call 21;refine (CR2.out _ k5 zy' ly').mono ?_;rintro e w6 ⟨d,rfl,hd1,k6⟩))
 have K6:Same0 W0 w6:=k5.trans' k6
 -- the handle that is pointed to
 obtain ⟨tB,htB⟩:∃ tB,tB=pickF x.2.2.1 (n:Int):=⟨_,rfl⟩
 have hB1:(tB:Int)<(n:Int):=by rw [htB];exact pick_lt _ (by omega)
 have hB0:(0:Int)≤(tB:Int):=by omega
 have CPB:Hid (∀ ww,Calls Try.prog 19 #[.int .i64 x.2.2.1,.int .i64 (n:Int)] ww fun e w' => e=.returned (.int .i64 (tB:Int))∧w' = ww):=fun ww=>by
  have:=pick12_any x.2.2.1 HXO.out.2.2.1 (n:Int) (by omega) (by omega) ww
  rw [← htB] at this
  exact this
 clear htB
 obtain ⟨ux,uy,cx,cy2,ex,ey,lux,luy⟩:=CXN.out w6 K6 tB hB1
 have hQ:Q c d:=(HM.out.2.1.han t' _ _ HE.out.1 HE2.out).2.2 c d (by simpa using hc1) (by simpa using hd1)
 have hac:=HM.out.2.1.bis.app c d hQ
 have hcl:=hac.1.1
 have hdl:=hac.2.1
 have key:∃ (E:Int) (l1 m1:List Nd) (Q1:Nat→Nat→Prop),l1.length=l.length∧m1.length=m.length∧(Wf l1→Wf m1→Unn l1 m1 X Y Q1)∧((Rc l ux c∧E=113∧l1=l)∨(¬ Rc l ux c∧E=0∧l1=l.set c (indN ux)))∧((Rc m uy d∧E=113∧m1=m)∨(¬ Rc m uy d∧E=0∧m1=m.set d (indN uy))):=by
  have hrc:Rc l ux c ↔ Rc m uy d:=by simpa using HM.out.2.1.rc ex ey hQ
  by_cases hh:Rc l ux c
  ·exact ⟨113,l,m,Q,rfl,rfl,fun _ _=>HM.out.2.1,.inl ⟨hh,rfl,rfl⟩,.inl ⟨hrc.1 hh,rfl,rfl⟩⟩
  ·exact ⟨0,_,_,_,by simp,by simp,fun a1 a2=>HM.out.2.1.point hQ ex ey (by simpa using hh) (by simpa using a1) (by simpa using a2),.inr ⟨hh,rfl,by simp⟩,.inr ⟨fun q=>hh (hrc.2 q),rfl,by simp⟩⟩
 obtain ⟨E,l1,m1,Q1,e1,e2,hN1,hl1,hm1⟩:=key
 have hgx:=HM.out.1.hl.ltG
 have hqx:=HM.out.1.hm.ltG
 have ST:Hid (∀ ww l' m', UnB w wr.heap.size x h g p q (.slice (some ⟨gx,0,none⟩) n xc) (.slice (some ⟨gy,0,none⟩) n yc) X Y ww l' m' → ww.cell? ⟨wr.heap.size,2,none⟩=some (.int .i64 x.2.2.1)∧ww.cell? ⟨gx,tB,none⟩=some (.int .i64 (ux:Int))∧ww.cell? ⟨gy,tB,none⟩=some (.int .i64 (uy:Int))):=fun ww l' m' hs=>by
  have a1:=HNX.out.1
  have a2:=HNX.out.2.1
  obtain ⟨gx', cx', gy', cy', q1,q2,q3,q4⟩:=hs.1.get HL.out (j:=tB) (by omega)
  cases q1;cases q2
  rw [List.getElem?_eq_getElem (by omega)] at ex ey
  simp only [Option.some.injEq] at ex ey
  rw [ex] at q3
  rw [ey] at q4
  exact ⟨(box4 hs.2).2.2.1,q3,q4⟩
 have PH:Hid (∀ ww m', UnB w wr.heap.size x h g p q (.slice (some ⟨gx,0,none⟩) n xc) (.slice (some ⟨gy,0,none⟩) n yc) X Y ww l m' → Calls Try.prog 22 #[.pointer (some ⟨h,0,none⟩),.int .i64 (c:Int),.int .i64 (ux:Int)] ww fun e w' => e=.returned (.int .i64 E)∧UnB w wr.heap.size x h g p q (.slice (some ⟨gx,0,none⟩) n xc) (.slice (some ⟨gy,0,none⟩) n yc) X Y w' l1 m'):=fun ww m' hs=>(point_in hs.1.hl c ux hcl lux).mono (by
  rintro e w' (⟨r,rfl,kk⟩ | ⟨r,rfl,p', kk⟩)
  ·rcases hl1 with ⟨-,rfl,rfl⟩ | ⟨r', -, -⟩
   ·exact ⟨rfl,hs.1.same kk,kk.at hs.2 (fun f=>f)⟩
   ·exact absurd r r'
  ·rcases hl1 with ⟨r', -, -⟩ | ⟨-,rfl,rfl⟩
   ·exact absurd r' r
   ·exact ⟨rfl,hs.1.one (p'.mono (fun _ _ _ o=>.inl o)) (kept_two kk),kk.at hs.2 (by omega)⟩)
 have PG:Hid (∀ ww l', UnB w wr.heap.size x h g p q (.slice (some ⟨gx,0,none⟩) n xc) (.slice (some ⟨gy,0,none⟩) n yc) X Y ww l' m→Calls Try.prog 22 #[.pointer (some ⟨p,0,none⟩),.int .i64 (d:Int),.int .i64 (uy:Int)] ww fun e w' => e=.returned (.int .i64 E)∧UnB w wr.heap.size x h g p q (.slice (some ⟨gx,0,none⟩) n xc) (.slice (some ⟨gy,0,none⟩) n yc) X Y w' l' m1):=fun ww l' hs=>(point_in hs.1.hm d uy hdl luy).mono (by
  rintro e w' (⟨r,rfl,kk⟩ | ⟨r,rfl,p', kk⟩)
  ·rcases hm1 with ⟨-,rfl,rfl⟩ | ⟨r', -, -⟩
   ·exact ⟨rfl,hs.1.same kk,kk.at hs.2 (fun f=>f)⟩
   ·exact absurd r r'
  ·rcases hm1 with ⟨r', -, -⟩ | ⟨-,rfl,rfl⟩
   ·exact absurd r' r
   ·exact ⟨rfl,hs.1.two (p'.mono (fun _ _ _ o=>.inl o)) (kept_two kk),kk.at hs.2 (by omega)⟩)
 have FIN:Hid (∀ ww,UnB w wr.heap.size x h g p q (.slice (some ⟨gx,0,none⟩) n xc) (.slice (some ⟨gy,0,none⟩) n yc) X Y ww l1 m1→Hid (UnS w ww h g p q (.slice (some ⟨gx,0,none⟩) n xc) (.slice (some ⟨gy,0,none⟩) n yc) (k+1))):=fun ww hs=>⟨l1,m1,X,Y,Q1,hs.1,hN1 ⟨hs.1.hl.may,hs.1.hl.ac⟩ ⟨hs.1.hm.may,hs.1.hm.ac⟩,by have:=HM.out.2.2.1;omega,by have:=HM.out.2.2.2;omega,by have:=HNX.out.1;have:=HNX.out.2.2;omega⟩
 have S0:UnB w wr.heap.size x h g p q (.slice (some ⟨gx,0,none⟩) n xc) (.slice (some ⟨gy,0,none⟩) n yc) X Y w6.drew l m:=⟨HM0.out.same (Kept.drew K6),(show Same0 W0 w6.drew from Kept.drew K6).at HBB.out (fun f=>f)⟩
 have CC0:=ST.out _ _ _ S0
 have bE:(E != E)=false:=by simp
 clear K6 k5 k6 cx cy cy2 d0 d1 d2 d3 ex ey lux luy hQ hac hcl hdl hN1 hl1 hm1 hc1 hd1 CR1 CR2 CXN CP e1 e2 hgx hqx lx ly ly'
 go_cut [224] from 204 to 223 (fun s224 wc=>s224=.bool false∧Hid (UnS w wc h g p q (.slice (some ⟨gx,0,none⟩) n xc) (.slice (some ⟨gy,0,none⟩) n yc) (k+1)))
 case first=>
  clear hw hnk h1 h2 j1 j2 j3 hk6 hl
  go_region_held3 (fun w' => w'.cell? ⟨wr.heap.size,2,none⟩=some (.int .i64 x.2.2.1)∧w'.cell? ⟨gx,tB,none⟩=some (.int .i64 (ux:Int))∧w'.cell? ⟨gy,tB,none⟩=some (.int .i64 (uy:Int))) (with_reducible first | exact CC0 | exact cc1 | exact cc2) (first
   | (go_at_call 19;refine (CPB.out _).mono ?_;rintro e w7 ⟨rfl,h7⟩;have h7:=h7.symm;subst h7)
   | (go_at_call 22;with_reducible refine (PH.out _ _ S0).mono ?_;rintro e w8 ⟨rfl,sh⟩;have cc1:=ST.out _ _ _ sh)
   | (go_at_call 22;with_reducible refine (PG.out _ _ sh).mono ?_;rintro e w9 ⟨rfl,sg⟩;have cc2:=ST.out _ _ _ sg)
   | (go_at_call 22;with_reducible refine (PG.out _ _ S0).mono ?_;rintro e w9 ⟨rfl,sg⟩;have cc2:=ST.out _ _ _ sg)
   | (go_at_call 22;with_reducible refine (PH.out _ _ sg).mono ?_;rintro e w8 ⟨rfl,sh⟩;have cc1:=ST.out _ _ _ sh))
  all_goals
   go_wp2_with fail
   go_meet
   case rel=>exact ⟨rfl,by first | exact FIN.out _ sh | exact FIN.out _ sg⟩
 case rest=>
 obtain ⟨rfl,HF⟩:=hcut
 clear S0 CC0 PH PG ST FIN CPB
 go_wp2
 exact HR.out _ _ _ _ _ _ _ _ _ _ _ _ _ _ _ _ _ _ _ _ _ _ _ _ _ _ _ _ _ _ _ _ _ _ _ _ _ _ _ _ _ _ _ _ _ _ _ _ _ _ _ _ _ _ _ _ _ _ _ _ _ _ _ _ _ _ _ _ _ _ _ _ _ _ _ _ _ _ _ _ _ _ _ _ _ _ _ _ _ _ _ _ _ _ _ _ _ _ _ _ _ _ _ _ _ _ _ _ _ _ _ _ _ _ _ _ _ _ _ _ _ _ _ _ _ _ _ _ _ _ _ _ _ _ _ _ _ _ _ _ _ _ _ _ _ _ _ _ _ _ _ _ _ _ _ _ _ _ _ _ _ _ _ _ _ _ _ _ _ _ _ _ _ _ _ _ _ _ _ _ _ _ _ _ _ _ _ _ _ _ _ _ _ _ _ _ _ _ _ _ _ _ _ _ _ _ _ _ _ _ _ _ _ (by go_num) HF
end Go.Proofs.Ytmloedlkoijfbaa
