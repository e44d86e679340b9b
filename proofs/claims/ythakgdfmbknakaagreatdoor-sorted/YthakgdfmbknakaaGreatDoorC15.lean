import Derived.Test.YthakgdfmbknakaaGreatDoorC14
set_option linter.all false
set_option maxHeartbeats 40000000
set_option maxRecDepth 100000
open Go.Proofs.Tryz
open Or (inl inr)
open Nat (le_refl le_trans zero_le)
open List (append_nil length_append length_cons mem_cons_self mem_cons_of_mem append_assoc cons_append length_nil map_cons nil_append)
namespace Go.Proofs.YthakgdfmbknakaaGreatDoor
open Instr (makeFunc)
open Builtin (append_)
open World (cell? frozen? setCell)
open St (ev)
section
open Go.RowKit
section
variable {N rb:Nat}{ts r r1 r2 r3:dL}{t x txt:List UInt8}{w u:World}{nd nd1 nd2 nd3:Nd}
def kS(h:Tok t)(w:World):Calls prog 196 #[.string (bs t)] w fun e w'=>e=.returned (.bool (aR t==99))/\w'=w:=by
 have:=oY (bs t) w h.size';rw[dD,WG t]at this;exact this
def LW(h:Tok t)(w:World):Calls prog 326 #[.string (bs t)] w fun e w'=>e=.returned (.bool (aR t==100))/\w'=w:=by
 have:=xU (bs t) w h.size';rw[dD,TW h]at this;exact this
def TX(w:World):Calls prog 327 #[.string (bs [48])] w fun e w'=>e=.returned (.string (bs [48]))/\w'=w:=by
 have hT:=Tryz.strings_TrimLeft_one (bs [48]) 48 (by decide) w;rw[dD,show Lib.trimLeftB [48] 48=[] by decide]at hT;have HT:=aC hT;rw[show bs [48]=⟨#[48]⟩from rfl];clear hT;go_enter func327,ntmps327;go_wp2_with fail;refine(HT.out).mono ?_;rintro e w1⟨rfl,rfl⟩;go_wp2;exact⟨rfl,_,(by simp[results,results327,go_sem]),rfl,rfl⟩
def ZE(hk:(aR t==110)=true):Rdz N rb 324 (t::r) (.mk 3 t []) r:=fun w h=>by
 have HC:=aC (show Calls prog 194 #[aA rb] w fun e w'=>e=.returned (.string (bs t))/\w'=w from eG h);have HI:=aC (gM (show Tok t from h.head) w);have HT:=aC (fW h);rw[hk]at HI;clear h hk;unfold aA at *;go_enter func324,ntmps324;go_wp2_with fail;refine(HC.out).mono ?_;rintro e u1⟨rfl,rfl⟩;clear HC;have HC:=HI;go_wp2_with fail;refine(HC.out).mono ?_;rintro e u2⟨rfl,rfl⟩;clear HC;have HC:=HT;go_wp2_with fail;refine(HC.out).mono ?_;rintro e u3⟨rfl,K3⟩;have HC:=aC (UD (k:=3) (txt:=t) rfl K3.out.1 K3.out.2);unfold aA at *;go_wp2_with fail;refine(HC.out).mono ?_;rintro e u4⟨b4,rfl,G4⟩;go_wp2;exact⟨rfl,_,(by simp[results,results324,go_sem]),_,rfl,G4⟩
def ZH(hk:(aR t==110)=false)(Jy:(aR t==99)=true):Rdz N rb 324 (t::r) (.mk 14 t []) r:=fun w h=>by
 have HC:=aC (show Calls prog 194 #[aA rb] w fun e w'=>e=.returned (.string (bs t))/\w'=w from eG h);have HI:=aC (gM (show Tok t from h.head) w);have HJ:=aC (kS (show Tok t from h.head) w);have HT:=aC (fW h);rw[hk]at HI;rw[Jy]at HJ;clear h hk Jy;unfold aA at *;go_enter func324,ntmps324;go_wp2_with fail;refine(HC.out).mono ?_;rintro e u1⟨rfl,rfl⟩;clear HC;have HC:=HI;go_wp2_with fail;refine(HC.out).mono ?_;rintro e u2⟨rfl,rfl⟩;clear HC;have HC:=HJ;go_wp2_with fail;refine(HC.out).mono ?_;rintro e u5⟨rfl,rfl⟩;clear HC;have HC:=HT;go_wp2_with fail;refine(HC.out).mono ?_;rintro e u3⟨rfl,K3⟩;have HC:=aC (UD (k:=14) (txt:=t) rfl K3.out.1 K3.out.2);unfold aA at *;go_wp2_with fail;refine(HC.out).mono ?_;rintro e u4⟨b4,rfl,G4⟩;go_wp2;exact⟨rfl,_,(by simp[results,results324,go_sem]),_,rfl,G4⟩
def NU :Rdz N rb 324 ([48]::r) (.mk 0 [48] []) r:=fun w h=>by
 have HC:=aC (show Calls prog 194 #[aA rb] w fun e w'=>e=.returned (.string (bs [48]))/\w'=w from eG h);have HI:=aC (gM (t:=[48]) h.head w);have HJ:=aC (kS (t:=[48]) h.head w);have HK:=aC (LW (t:=[48]) h.head w);have HT:=aC (fW h);rw[show (aR [48]==110)=false by decide]at HI;rw[show (aR [48]==99)=false by decide]at HJ;rw[show (aR [48]==100)=true by decide]at HK;clear h;unfold aA at *;go_enter func324,ntmps324;go_wp2_with fail;refine(HC.out).mono ?_;rintro e u1⟨rfl,rfl⟩;clear HC;have HC:=HI;go_wp2_with fail;refine(HC.out).mono ?_;rintro e u2⟨rfl,rfl⟩;clear HC;have HC:=HJ;go_wp2_with fail;refine(HC.out).mono ?_;rintro e u5⟨rfl,rfl⟩;clear HC;have HC:=HK;go_wp2_with fail;refine(HC.out).mono ?_;rintro e u6⟨rfl,rfl⟩;clear HC;have HC:=HT;go_wp2_with fail;refine(HC.out).mono ?_;rintro e u3⟨rfl,K3⟩;have HC:=aC (TX u3);unfold aA at *;go_wp2_with fail;refine(HC.out).mono ?_;rintro e u7⟨rfl,rfl⟩;have HC:=aC (UD (k:=0) (txt:=[48]) rfl K3.out.1 K3.out.2);unfold aA at *;go_wp2_with fail;refine(HC.out).mono ?_;rintro e u4⟨b4,rfl,G4⟩;go_wp2;exact⟨rfl,_,(by simp[results,results324,go_sem]),_,rfl,G4⟩
def Hh(ts:dL):Bool:=!(aR (ts.headD [])==110) && !(aR (ts.headD [])==99) && !(aR (ts.headD [])==100) && !(ts.headD []==[116,114,117,101]) && !(ts.headD []==[102,97,108,115,101])
def SZ(hn:Hh ts=true):Rnz N rb 324 ts:=fun w h=>by
 unfold Hh at hn;simp only[Bool.and_eq_true,Bool.not_eq_true']at hn;obtain⟨⟨⟨⟨n1,n2⟩,n3⟩,n4⟩,n5⟩:=hn;have HC:=aC (eG h);have HI:=aC (gM h.head w);have HJ:=aC (kS h.head w);have HK:=aC (LW h.head w);rw[n1]at HI;rw[n2]at HJ;rw[n3]at HK;have e4:((bs (ts.headD [])).toList==[116,114,117,101])=false:=by rw[ByteArray.toList_eq,dD];exact n4
 have e5:((bs (ts.headD [])).toList==[102,97,108,115,101])=false:=by rw[ByteArray.toList_eq,dD];exact n5
 clear h n1 n2 n3 n4 n5;generalize bs (ts.headD [])=bx at *;unfold aA at *;go_enter func324,ntmps324;go_wp2_with fail;refine(HC.out).mono ?_;rintro e u1⟨rfl,rfl⟩;clear HC;have HC:=HI;go_wp2_with fail;refine(HC.out).mono ?_;rintro e u2⟨rfl,rfl⟩;clear HC;have HC:=HJ;go_wp2_with fail;refine(HC.out).mono ?_;rintro e u5⟨rfl,rfl⟩;clear HC;have HC:=HK;go_wp2_with fail;refine(HC.out).mono ?_;rintro e u6⟨rfl,rfl⟩;go_wp2;exact⟨rfl,_,(by simp[results,results324,go_sem]),rfl,rfl⟩
def aF.zexp:aF 109:=enters func109 (by kernel_rfl) rfl
def aF.zatom:aF 320:=enters func320 (by kernel_rfl) rfl
def Bd(h:Rz N rb ([41]::r) w):Calls prog 322 #[aA rb,.func (.func 109) #[aA rb] #[]] w fun e u=>∃b,e=.returned (aA b)/\Hid (Got N rb w (.mk 2 [40,41] []) r b u):=by
 have HC:=aC (fS oN h);clear h;unfold aA at *;go_enter func322,ntmps322;go_wp2_with fail;refine(HC.out).mono ?_;rintro e u1⟨rfl,K1⟩;have HC:=aC (UD (k:=2) (txt:=[40,41]) (s:=⟨#[40,41]⟩) rfl K1.out.1 K1.out.2);unfold aA at *;go_wp2_with fail;refine(HC.out).mono ?_;rintro e u4⟨b4,rfl,G4⟩;go_wp2;exact⟨rfl,_,(by simp[results,results322,go_sem]),_,rfl,G4⟩
def Be(h1:Rdz N rb 109 ts nd ([41]::r))(hn:(ts.headD []==[41])=false)(h:Rz N rb ts w):Calls prog 322 #[aA rb,.func (.func 109) #[aA rb] #[]] w fun e u=>∃b,e=.returned (aA b)/\Hid (Got N rb w nd r b u):=by
 have HC:=aC (cY oN hn h);have H1:=aC (h1 w h);have hE:=fun(args:Array Value) (w:World)=>aF.zexp args w;have HZ:=aC h;clear h h1 hn;unfold aA at *;go_enter func322,ntmps322;go_wp2_with fail;refine(HC.out).mono ?_;rintro e u1⟨rfl,rfl⟩;clear HC;have HC:=H1;go_wp2_with fail;refine(HC.out).mono ?_;rintro e u2⟨b2,rfl,G2⟩;have HC:=aC (mA oN G2.out.rz);unfold aA at *;go_wp2_with fail;refine(HC.out).mono ?_;rintro e u3⟨rfl,K3⟩;have hk:=G2.out.kq.trans K3.out.1;have HG:Hid (Got N rb _ nd r b2 u3):=aC ⟨hk,K3.out.1.sn HZ.out.lt G2.out.sn,K3.out.2⟩;go_wp2;exact⟨rfl,_,(by simp[results,results322,go_sem]),_,rfl,HG⟩
def ZD :Rdz N rb 320 ([40]::[41]::r) (.mk 2 [40,41] []) r:=fun w h=>by
 have HC:=aC (fS fO h);have Vs:∀(fn:Fn)(first cap:Array Value)(w:World),(makeFunc fn first cap).run prog w=.ok (.func fn first cap) w:=fun _ _ _ _=>rfl;have H1:=aC (fun(u:World) (g:Rz N rb ([41]::r) u)=>Bd g);clear h;unfold aA at *;go_enter func320,ntmps320;go_wp2_with fail;refine(HC.out).mono ?_;rintro e u1⟨rfl,K1⟩;have HC:=aC (H1.out _ K1.out.2);unfold aA at *;go_wp2_with fail;refine(HC.out).mono ?_;rintro e u2⟨b2,rfl,G2⟩;have HG:=aC (G2.out.late K1.out.1);go_wp2;exact⟨rfl,_,(by simp[results,results320,go_sem]),_,rfl,HG⟩
def Ep(h1:Rdz N rb 109 ts nd ([41]::r))(hn:(ts.headD []==[41])=false):Rdz N rb 320 ([40]::ts) nd r:=fun w h=>by
 have HC:=aC (fS fO h);have Vs:∀(fn:Fn)(first cap:Array Value)(w:World),(makeFunc fn first cap).run prog w=.ok (.func fn first cap) w:=fun _ _ _ _=>rfl;have H1:=aC (fun(u:World) (g:Rz N rb ts u)=>Be h1 hn g);clear h h1 hn;unfold aA at *;go_enter func320,ntmps320;go_wp2_with fail;refine(HC.out).mono ?_;rintro e u1⟨rfl,K1⟩;have HC:=aC (H1.out _ K1.out.2);unfold aA at *;go_wp2_with fail;refine(HC.out).mono ?_;rintro e u2⟨b2,rfl,G2⟩;have HG:=aC (G2.out.late K1.out.1);go_wp2;exact⟨rfl,_,(by simp[results,results320,go_sem]),_,rfl,HG⟩
def NW(h1:Rdz N rb 323 ts nd r):Rdz N rb 320 ([109,97,116,99,104]::ts) nd r:=fun w h=>by
 have HC:=aC (cY fO rfl h);have HD:=aC (cY tD rfl h);have HE:=aC (fS pS h);have H1:=aC h1;clear h h1;unfold aA at *;go_enter func320,ntmps320;go_wp2_with fail;refine(HC.out).mono ?_;rintro e u1⟨rfl,rfl⟩;clear HC;have HC:=HD;go_wp2_with fail;refine(HC.out).mono ?_;rintro e u2⟨rfl,rfl⟩;clear HC;have HC:=HE;go_wp2_with fail;refine(HC.out).mono ?_;rintro e u3⟨rfl,K3⟩;have HC:=aC (H1.out _ K3.out.2);unfold aA at *;go_wp2_with fail;refine(HC.out).mono ?_;rintro e u4⟨b4,rfl,G4⟩;have HG:=aC (G4.out.late K3.out.1);go_wp2;exact⟨rfl,_,(by simp[results,results320,go_sem]),_,rfl,HG⟩
def ZK(h1:Rdz N rb 324 ts nd r)(n1:(ts.headD []==[40])=false)(n2:(ts.headD []==[33])=false)(n3:(ts.headD []==[109,97,116,99,104])=false):Rdz N rb 320 ts nd r:=fun w h=>by
 have HC:=aC (cY fO n1 h);have HD:=aC (cY tD n2 h);have HE:=aC (cY pS n3 h);have H1:=aC (h1 w h);clear h h1 n1 n2 n3;unfold aA at *;go_enter func320,ntmps320;go_wp2_with fail;refine(HC.out).mono ?_;rintro e u1⟨rfl,rfl⟩;clear HC;have HC:=HD;go_wp2_with fail;refine(HC.out).mono ?_;rintro e u2⟨rfl,rfl⟩;clear HC;have HC:=HE;go_wp2_with fail;refine(HC.out).mono ?_;rintro e u3⟨rfl,rfl⟩;clear HC;have HC:=H1;go_wp2_with fail;refine(HC.out).mono ?_;rintro e u4⟨b4,rfl,G4⟩;go_wp2;exact⟨rfl,_,(by simp[results,results320,go_sem]),_,rfl,G4⟩
def YW(h1:Rnz N rb 324 ts)(n1:(ts.headD []==[40])=false)(n2:(ts.headD []==[33])=false)(n3:(ts.headD []==[109,97,116,99,104])=false):Rnz N rb 320 ts:=fun w h=>by
 have HC:=aC (cY fO n1 h);have HD:=aC (cY tD n2 h);have HE:=aC (cY pS n3 h);have H1:=aC (h1 w h);clear h h1 n1 n2 n3;unfold aA at *;go_enter func320,ntmps320;go_wp2_with fail;refine(HC.out).mono ?_;rintro e u1⟨rfl,rfl⟩;clear HC;have HC:=HD;go_wp2_with fail;refine(HC.out).mono ?_;rintro e u2⟨rfl,rfl⟩;clear HC;have HC:=HE;go_wp2_with fail;refine(HC.out).mono ?_;rintro e u3⟨rfl,rfl⟩;clear HC;have HC:=H1;go_wp2_with fail;refine(HC.out).mono ?_;rintro e u4⟨rfl,rfl⟩;go_wp2;exact⟨rfl,_,(by simp[results,results320,go_sem]),rfl,rfl⟩
def ZC(h1:Rdz N rb 324 ts nd r)(n1:(ts.headD []==[40])=false)(n2:(ts.headD []==[95])=false):Rdz N rb 330 ts nd r:=fun w h=>by
 have HC:=aC (cY fO n1 h);have HD:=aC (cY vM n2 h);have H1:=aC (h1 w h);clear h h1 n1 n2;unfold aA at *;go_enter func330,ntmps330;go_wp2_with fail;refine(HC.out).mono ?_;rintro e u1⟨rfl,rfl⟩;clear HC;have HC:=HD;go_wp2_with fail;refine(HC.out).mono ?_;rintro e u2⟨rfl,rfl⟩;clear HC;have HC:=H1;go_wp2_with fail;refine(HC.out).mono ?_;rintro e u4⟨b4,rfl,G4⟩;go_wp2;exact⟨rfl,_,(by simp[results,results330,go_sem]),_,rfl,G4⟩
def YV(h1:Rnz N rb 324 ts)(n1:(ts.headD []==[40])=false)(n2:(ts.headD []==[95])=false):Rnz N rb 330 ts:=fun w h=>by
 have HC:=aC (cY fO n1 h);have HD:=aC (cY vM n2 h);have H1:=aC (h1 w h);clear h h1 n1 n2;unfold aA at *;go_enter func330,ntmps330;go_wp2_with fail;refine(HC.out).mono ?_;rintro e u1⟨rfl,rfl⟩;clear HC;have HC:=HD;go_wp2_with fail;refine(HC.out).mono ?_;rintro e u2⟨rfl,rfl⟩;clear HC;have HC:=H1;go_wp2_with fail;refine(HC.out).mono ?_;rintro e u4⟨rfl,rfl⟩;go_wp2;exact⟨rfl,_,(by simp[results,results330,go_sem]),rfl,rfl⟩
def jO.parts{l:List Nd}{y:Value}{v:World}(h:jO N rb v l r y u)(hk:Kq rb w v):∃bl,Sn none w.heap.size u fun z=>z.ownsRow 0 aH 1 y bl.length (bl.map aA)/\AB.AD z l bl:=by
 obtain⟨ps,h1,h2⟩:=h.sn;exact⟨ps,((Sn.row h1).low hk.size (by simp)).and (fun z hz=>h2 z fun k c T f h1 _ h2=>hz k c T f (by have:=hk.size;omega) (by simp) h2)⟩
def aF.zpart:aF 330:=enters func330 (by kernel_rfl) rfl
def Eu{l:List Nd}(hk:(aR t==99)=true)(hs:FC N rb 320 l ts r)(hl:l.length<=1000):Rdz N rb 311 (t::ts) (.mk 14 t l) r:=fun w h=>by
 have HC:=aC (show Calls prog 194 #[aA rb] w fun e w'=>e=.returned (.string (bs t))/\w'=w from eG h);have HJ:=aC (kS (show Tok t from h.head) w);have HT:=aC (fW h);rw[hk]at HJ;have H1:=aC (fun(u:World) (g:Rz N rb ts u)=>iU aF.zatom hs hl g);have Vs:∀(fn:Fn)(first cap:Array Value)(w:World),(makeFunc fn first cap).run prog w=.ok (.func fn first cap) w:=fun _ _ _ _=>rfl;clear h hk hs;unfold aA at *;go_enter func311,ntmps311;go_wp2_with fail;refine(HC.out).mono ?_;rintro e u1⟨rfl,rfl⟩;clear HC;have HC:=HJ;go_wp2_with fail;refine(HC.out).mono ?_;rintro e u2⟨rfl,rfl⟩;clear HC;have HC:=HT;go_wp2_with fail;refine(HC.out).mono ?_;rintro e u3⟨rfl,K3⟩;have HC:=aC (H1.out _ K3.out.2);unfold aA at *;go_wp2_with fail;refine(HC.out).mono ?_;rintro e u4⟨q4,n4,m4,rfl,G4⟩;obtain⟨bl,Kx⟩:=G4.out.parts K3.out.1;have HC:=aC (nF (k:=14) (txt:=t) rfl (K3.out.1.trans G4.out.kq) G4.out.rz Kx);unfold aA at *;clear Kx;go_wp2_with fail;refine(HC.out).mono ?_;rintro e u5⟨b5,rfl,G5⟩;go_wp2;exact⟨rfl,_,(by simp[results,results311,go_sem]),_,rfl,G5⟩
def Eo{l:List Nd}(hk:(aR t==99)=true)(hs:FC N rb 330 l ts r)(hl:l.length<=1000):Rdz N rb 328 (t::ts) (.mk 14 t l) r:=fun w h=>by
 have HC:=aC (show Calls prog 194 #[aA rb] w fun e w'=>e=.returned (.string (bs t))/\w'=w from eG h);have HJ:=aC (kS (show Tok t from h.head) w);have HT:=aC (fW h);rw[hk]at HJ;have H1:=aC (fun(u:World) (g:Rz N rb ts u)=>iU aF.zpart hs hl g);have Vs:∀(fn:Fn)(first cap:Array Value)(w:World),(makeFunc fn first cap).run prog w=.ok (.func fn first cap) w:=fun _ _ _ _=>rfl;clear h hk hs;unfold aA at *;go_enter func328,ntmps328;go_wp2_with fail;refine(HC.out).mono ?_;rintro e u1⟨rfl,rfl⟩;clear HC;have HC:=HJ;go_wp2_with fail;refine(HC.out).mono ?_;rintro e u2⟨rfl,rfl⟩;clear HC;have HC:=HT;go_wp2_with fail;refine(HC.out).mono ?_;rintro e u3⟨rfl,K3⟩;have HC:=aC (H1.out _ K3.out.2);unfold aA at *;go_wp2_with fail;refine(HC.out).mono ?_;rintro e u4⟨q4,n4,m4,rfl,G4⟩;obtain⟨bl,Kx⟩:=G4.out.parts K3.out.1;have HC:=aC (nF (k:=14) (txt:=t) rfl (K3.out.1.trans G4.out.kq) G4.out.rz Kx);unfold aA at *;clear Kx;go_wp2_with fail;refine(HC.out).mono ?_;rintro e u5⟨b5,rfl,G5⟩;go_wp2;exact⟨rfl,_,(by simp[results,results328,go_sem]),_,rfl,G5⟩
def En(h1:Rdz N rb 328 ts nd1 ([45,62]::r1))(h2:Rdz N rb 109 r1 nd2 r):Rdz N rb 325 ts (.mk 16 [] [nd1,nd2]) r:=fun w h=>by
 have HC:=aC (h1 w h);have H2:=aC h2;have HZ:=aC h;clear h1 h2 h;unfold aA at *;go_enter func325,ntmps325;go_wp2_with fail;refine(HC.out).mono ?_;rintro e u1⟨b1,rfl,G1⟩;have HC:=aC (mA vN G1.out.rz);unfold aA at *;go_wp2_with fail;refine(HC.out).mono ?_;rintro e u2⟨rfl,K2⟩;have HC:=aC (H2.out _ K2.out.2);unfold aA at *;go_wp2_with fail;refine(HC.out).mono ?_;rintro e u3⟨b3,rfl,G3⟩;have k2:=G1.out.kq.trans K2.out.1;have HC:=aC (Ai (k:=16) mM (k2.trans G3.out.kq) G3.out.rz (G1.out.on HZ.out (K2.out.1.trans G3.out.kq)) (G3.out.since k2));unfold aA at *;clear k2;go_wp2_with fail;refine(HC.out).mono ?_;rintro e u6⟨b6,rfl,G6⟩;go_wp2;exact⟨rfl,_,(by simp[results,results325,go_sem]),_,rfl,G6⟩
end
end
section
open Go.RowKit
section
variable {N rb:Nat}{ts r r1 r2 r3:dL}{t x txt:List UInt8}{w u:World}{nd nd1 nd2 nd3:Nd}
def Fc(b:Nat)(w:World):Calls prog 310 #[aA b] w fun e w'=>e=.returned (aA b)/\w'=w:=by
 unfold aA;go_enter func310,ntmps310;go_wp2;exact⟨rfl,_,(by simp[results,results310,go_sem]),rfl,rfl⟩
def XA(l:List Nd)(f:Nd):Nd:=l.foldl (fun f a=>.mk 13 [] [f,a]) f
def GW{l:List Nd}(hk:(aR (ts.headD [])==99)=false)(h1:Rdz N rb 320 ts nd r1)(hs:FC N rb 320 l r1 r)(hl:l.length<=1000):Rdz N rb 311 ts (XA l nd) r:=fun w h=>by
 have HC:=aC (eG h);have HJ:=aC (kS h.head w);have H1:=aC (h1 w h);have HN:=aC Fc;rw[hk]at HJ
 have hS:∀b u,Got N rb w nd r1 b u->Calls prog 144 #[.func (.func 320) #[aA rb] #[]] u fun e v=>∃q m,e=.returned (.slice q l.length m)/\∃LD:Nat->Nat->World->Prop,Hid (LD 0 b v) /\
   (∀i c wr,LD i c wr->i<l.length->∃g a,q=some ⟨g,0,none⟩/\wr.cell? ⟨g,i,none⟩=some (aA a)/\g<wr.heap.size/\Calls prog 108 #[.int .i64 13,.string ⟨#[]⟩,.slice (some ⟨wr.heap.size,0,none⟩) 2 2] (wr.alloc (.cells #[aA c,aA a] aH)) fun e v=>∃b,e=.returned (aA b)/\Hid (LD (i+1) b v)) /\
   ∀c wr,LD l.length c wr->Hid (Got N rb w (XA l nd) r c wr):=fun b u hg=>by
  refine(iU aF.zatom hs hl hg.rz).mono ?_;rintro e v⟨q,n,m,rfl,H⟩;have hv:=H.out;obtain⟨bl,Kx⟩:=hv.parts hg.kq;have Sy:=Kx.now;have Jm:=Sy.2.len;rw[Jm]at Kx Sy
  obtain rfl:n=l.length:=by
   rcases aD Sy.1 with⟨h,h0⟩|⟨g,cap,h⟩<;>cases h<;>omega
  refine⟨q,m,rfl,fun i c wr=>Got N rb w (XA (l.take i) nd) r c wr/\Sn none w.heap.size wr fun z=>z.ownsRow 0 aH 1 (.slice q l.length m) l.length (bl.map aA)/\AB.AD z l bl,aC ⟨⟨hg.kq.trans hv.kq,hg.on h hv.kq,hv.rz⟩,Kx⟩,?_,?_⟩
  ·rintro i c wr⟨hG,hB⟩ hi;obtain⟨Jn,Pq⟩:=hB.now;have P4:l[i]?=some l[i]:=List.getElem?_eq_getElem hi;obtain⟨a,ha,_⟩:=Pq.at P4;obtain⟨g,cap,e,Jw⟩:=dI Jn (by omega);cases e
   have Yy:Sn none w.heap.size wr fun z=>AB z l[i] a:=hB.imp fun z hz=>by
    obtain⟨a',Wp,hm⟩:=hz.2.at P4;rw[ha]at Wp;cases Wp;exact hm
   refine⟨g,a,rfl,Jw i _ (by rw[List.getElem?_map,ha];rfl),(Jn.lt g rfl).2,?_⟩;have Qw:=hG.kq;refine(UB (bl:=[c,a]) (ps:=[XA (l.take i) nd,l[i]]) (k:=13) mM (Qw.alloc _) (hG.rz.alloc _) (((Sn.row (Hb wr c a)).low Qw.size (by simp)).and (((hG.sn.and Yy).onto fun q _ h2=>Below.heap_alloc _ _ _ h2).imp fun z h=>by simpa [AB.AD]using h)) (hB.onto fun q _ h2=>Below.heap_alloc _ _ _ h2)).mono ?_;rintro e v⟨b,rfl,hh⟩;refine⟨b,rfl,aC ⟨?_,hh.out.2⟩⟩;rw[List.take_add_one,P4];unfold XA;rw[List.foldl_append];exact hh.out.1
  ·rintro c wr⟨hG,_⟩;rw[List.take_length]at hG;exact hG
 have HS:=aC hS;have Vs:∀(fn:Fn)(first cap:Array Value)(w:World),(makeFunc fn first cap).run prog w=.ok (.func fn first cap) w:=fun _ _ _ _=>rfl;have Yi:l.length<=9223372036854775807:=by omega
 clear h h1 hk hs hS;generalize l.length=n at *;generalize bs (ts.headD [])=bx at *;unfold aA at *;go_enter func311,ntmps311;go_wp2_with fail;refine(HC.out).mono ?_;rintro e u1⟨rfl,rfl⟩;clear HC;go_wp2_with fail;refine(HJ.out).mono ?_;rintro e u2⟨rfl,rfl⟩;clear HJ;go_wp2_with fail;refine(H1.out).mono ?_;rintro e u3⟨b3,rfl,G3⟩;have HC:=aC (HN.out b3 u3);clear H1 HN;unfold aA at *;go_wp2_with fail;refine(HC.out).mono ?_;rintro e u4⟨rfl,rfl⟩;clear HC;have HC:=aC (HS.out _ _ G3.out);clear HS G3;go_wp2_with fail;refine(HC.out).mono ?_;rintro e v⟨q,m,rfl,LD,HL,Jz,Rx⟩;have Km:=aC Jz;have Pu:=aC Rx;clear Jz Rx HC;go_wp2_with fail
 go_loopg [3,22] n (fun gk v3 vi wr=>∃i b:Nat,vi=.int .i64 (i:Nat)/\v3=.pointer (some ⟨b,0,none⟩)/\i+gk=n/\Hid (LD i b wr))
 case atStart=>exact⟨0,b3,rfl,rfl,by omega,HL⟩
 case round=>
  clear HL;obtain⟨i,b,rfl,rfl,hi,Kd⟩:=hrel
  by_cases Js:i<n
  ·obtain⟨g,a,rfl,e1,e2,hc⟩:=Km.out _ _ _ Kd.out Js;have Jt:(i:Int)<(n:Int):=by omega
   have HC:=aC hc;clear hc Km Pu Kd;go_wp2_with fail;refine(HC.out).mono ?_;rintro e u⟨b',rfl,HL⟩;clear HC;unfold aA at *;go_wp2_with fail
   go_roundg (n-(i+1))
   case rel=>exact⟨i+1,b',by simp,rfl,by omega,HL⟩
   case measure=>omega
  ·have Kg:i=n:=by omega
   subst Kg;have Jt:¬(i:Int)<(i:Int):=by omega
   have HG:=Pu.out _ _ Kd.out;clear Km Pu Kd;go_wp2;exact⟨rfl,_,(by simp[results,results311,go_sem]),_,rfl,HG⟩
def jO.move{l:List Nd}{y:Value}{v:World}(h:jO N rb w l r y u)(h0:rb<w.heap.size)(hk:Kq rb u v)(hz:Rz N rb r1 v):jO N rb w l r1 y v:=by
 obtain⟨ps,h1,h2⟩:=h.sn;exact⟨h.kq.trans hk,hz,ps,aE h1 fun q c f hq hc=>hk.block q (aB hc) (by have:=(h1.lt q hq).1;omega),hk.sn h0 h2⟩
def Gm(N rb:Nat):List Nd->dL->dL->Prop
 |[],ts,r=>ts=[101,110,100]::r
 |nd::l,ts,r=>∃ts1 r1,ts=[124]::ts1/\Rdz N rb 325 ts1 nd r1/\Gm N rb l r1 r
def TH{l:List Nd}(h1:Rdz N rb 109 ts nd ([119,105,116,104]::r1))(hm:Gm N rb l r1 r)(hl:1<=l.length/\l.length<=12):Rdz N rb 323 ts (.mk 15 [] (nd::l)) r:=fun w h=>by
 have H1:=aC (h1 w h)
 have hw:∀b u,Got N rb w nd ([119,105,116,104]::r1) b u->Calls prog 146 #[aA rb,.string ⟨#[119,105,116,104]⟩] (u.alloc (.cells #[aA b] aH)) fun e v=>e=.returned (.tuple #[])/\∃LD:Nat->Value->World->Prop,Hid (LD l.length (.slice (some ⟨u.heap.size,0,none⟩) 1 1) v) /\
   (∀gk y wr,LD gk y wr->gk≠0->Calls prog 148 #[aA rb,.string ⟨#[124]⟩] wr fun e v=>e=.returned (.bool true)/\Calls prog 325 #[aA rb] v fun e v2=>∃b,e=.returned (aA b)/\∃y' v',(append_ #[41,41] 41 #[y,.slice (some ⟨v2.heap.size,0,none⟩) 1 1]).run prog (v2.alloc (.cells #[aA b] aH))=.ok y' v'/\Hid (LD (gk-1) y' v')) /\
   ∀y wr,LD 0 y wr->∃q m,y=.slice q (l.length+1) m/\Calls prog 148 #[aA rb,.string ⟨#[124]⟩] wr fun e v=>e=.returned (.bool false)/\Calls prog 146 #[aA rb,.string ⟨#[101,110,100]⟩] v fun e v2=>e=.returned (.tuple #[])/\Calls prog 108 #[.int .i64 15,.string ⟨#[]⟩,.slice q (l.length+1) m] v2 fun e u=>∃b,e=.returned (aA b)/\Hid (Got N rb w (.mk 15 [] (nd::l)) r b u):=fun b u hg=>by
  have J4:jO N rb w [nd] ([119,105,116,104]::r1) (.slice (some ⟨u.heap.size,0,none⟩) 1 1) (u.alloc (.cells #[aA b] aH)):=
   ⟨hg.kq.alloc _,hg.rz.alloc _,[b],bN (Hc u b) hg.kq.size,(hg.sn.app (g':=some u.heap.size) (fun q _ h2 _=>Below.heap_alloc _ _ _ h2) fun q e=>by cases e;exact .inr (le_refl _)).imp fun z h=>by simpa [AB.AD]using h⟩
  refine(mA WO J4.rz).mono ?_;rintro e v⟨rfl,hq⟩;refine⟨rfl,fun gk y wr=>∃l1 l2 ts1,l=l1++l2/\gk=l2.length/\jO N rb w (nd::l1) ts1 y wr/\Gm N rb l2 ts1 r,aC ⟨[],l,r1,rfl,rfl,J4.move h.lt hq.out.1 hq.out.2,hm⟩,?_,?_⟩
  ·rintro gk y wr⟨l1,l2,ts1,e1,e2,e3,e4⟩ h0
   cases l2 with
   |nil=>exact absurd e2 h0
   |cons a l2=>
    obtain⟨ts2,r2,rfl,e5,e6⟩:=e4;refine(fS rA e3.rz).mono ?_;rintro e v⟨rfl,hq⟩;refine⟨rfl,(e5 v hq.out.2).mono ?_⟩;rintro e v2⟨b2,rfl,Un⟩;obtain⟨y',v',f1,f2⟩:=(e3.move h.lt hq.out.1 hq.out.2).put (ty:=41) h Un.out (by rw[e1]at hl;simp at hl ⊢;omega);exact⟨b2,rfl,y',v',f1,aC ⟨l1++[a],l2,r2,by simp[e1],by rw[e2];simp,f2.out,e6⟩⟩
  ·rintro y wr⟨l1,l2,ts1,e1,e2,e3,e4⟩;obtain rfl:l2=[]:=List.length_eq_zero_iff.1 e2.symm;have e4:ts1=[101,110,100]::r:=e4;subst e4;rw[append_nil]at e1;subst e1;obtain⟨bl,Kx⟩:=e3.parts (Kq.refl _ _);have Sy:=Kx.now;have Jm:=Sy.2.len;rw[length_cons]at Jm;obtain⟨g,cap,rfl,_⟩:=dI Sy.1 (by omega);refine⟨_,_,by rw[Jm],(cY rA rfl e3.rz).mono ?_⟩;rintro e v⟨rfl,rfl⟩;refine⟨rfl,(mA Cp e3.rz).mono ?_⟩;rintro e v2⟨rfl,hq⟩;refine⟨rfl,?_⟩;rw[<- Jm];exact nF (k:=15) mM (e3.kq.trans hq.out.1) hq.out.2 (hq.out.1.sn h.lt Kx)
 have HW:=aC hw;clear hw h h1 hm;generalize l.length=n at *;have l1:¬((n:Int)<1):=by omega
 have l2:¬((12:Int)<(n:Int)):=by omega
 have l3:(((n+1:Nat):Int)-1)=(n:Int):=by omega
 unfold aA at *;go_enter func323,ntmps323;go_wp2_with fail;refine(H1.out).mono ?_;rintro e u1⟨b1,rfl,G1⟩;have HC:=aC (HW.out _ _ G1.out);clear HW G1 H1;go_wp2_with fail;refine(HC.out).mono ?_;rintro e v⟨rfl,LD,HL,Jz,Rx⟩;have Km:=aC Jz;have Pu:=aC Rx;clear Jz Rx HC;go_wp2_with fail
 go_loopg [3] n (fun gk v3 wr=>Hid (LD gk v3 wr))
 case atStart=>exact HL
 case round=>
  clear HL
  by_cases h0:gk=0
  ·subst h0;obtain⟨q,m,rfl,hc⟩:=Pu.out _ _ hrel.out;have HC:=aC hc;clear hc Km Pu hrel;go_wp2_with fail;refine(HC.out).mono ?_;rintro e v⟨rfl,Mv⟩;have HC:=aC Mv;clear Mv;go_wp2_with fail;refine(HC.out).mono ?_;rintro e v⟨rfl,Mv⟩;have HC:=aC Mv;clear Mv;go_wp2_with fail;refine(HC.out).mono ?_;rintro e v⟨b,rfl,HG⟩;unfold aA at *;go_wp2;exact⟨rfl,_,(by simp[results,results323,go_sem]),_,rfl,HG⟩
  ·have HC:=aC (Km.out _ _ _ hrel.out h0);clear Km Pu hrel;go_wp2_with fail;refine(HC.out).mono ?_;rintro e v⟨rfl,Mv⟩;have HC:=aC Mv;clear Mv;go_wp2_with fail;refine(HC.out).mono ?_;rintro e v2⟨b,rfl,y',v',Jo,HL⟩;have HR:=aC Jo;clear Jo HC;unfold aA at *
   go_wp2_with (at_builtin;refine aU rfl _ _ _ rfl (by simp[Act.eval,Act.put]) (by simp[Act.eval,Act.put]) HR.out ?_)
   go_roundg (gk-1)
   case rel=>exact HL
   case measure=>omega
end
end
section
open Go.RowKit
section
variable {N rb:Nat}{ts r r1 r2 r3:dL}{t x txt:List UInt8}{w u:World}{nd nd1 nd2 nd3:Nd}
def LX(h:Tok t)(w:World):Calls prog 252 #[.string (bs t)] w fun e w'=>e=.returned (.bool (aR t==108))/\w'=w:=by
 have:=xV (bs t) w h.size';rw[dD,zM h]at this;exact this
def WM(t:List UInt8):(bs t).extract 1 (bs t).size=bs (t.drop 1):=by
 apply ByteArray.ext;simp[bs,ByteArray.size];exact List.take_of_length_le (by simp)
def LS{k:Nat}(hk:(aR t==108)=true)(hl:1<=t.length)(h:Rz N rb (t::r) w):Calls prog 195 #[aA rb,.int .i64 k] w fun e u=>∃b,e=.returned (aA b)/\Hid (Got N rb w (.mk k (t.drop 1) []) r b u):=by
 have HC:=aC (show Calls prog 194 #[aA rb] w fun e w'=>e=.returned (.string (bs t))/\w'=w from eG h);have HJ:=aC (LX (show Tok t from h.head) w);have HT:=aC (fW h);rw[hk]at HJ;have Ke:(bs t).size=t.length:=by simp[bs,ByteArray.size]
 have e1:(1:Int)<=((bs t).size:Int):=by omega
 have e3:=WM t;clear h hk;unfold aA at *;go_enter func195,ntmps195;go_wp2_with fail;refine(HC.out).mono ?_;rintro e u1⟨rfl,rfl⟩;clear HC;have HC:=HJ;go_wp2_with fail;refine(HC.out).mono ?_;rintro e u2⟨rfl,rfl⟩;clear HC;have HC:=HT;go_wp2_with fail;refine(HC.out).mono ?_;rintro e u3⟨rfl,K3⟩;have HC:=aC (UD (k:=k) (txt:=t.drop 1) e3.symm K3.out.1 K3.out.2);unfold aA at *;go_wp2_with fail;refine(HC.out).mono ?_;rintro e u4⟨b4,rfl,G4⟩;go_wp2;exact⟨rfl,_,(by simp[results,results195,go_sem]),_,rfl,G4⟩
def UQ{k:Nat}(hk:(aR (ts.headD [])==108)=false)(h:Rz N rb ts w):Calls prog 195 #[aA rb,.int .i64 k] w fun e u=>e=.returned (.pointer none)/\u=w:=by
 have HC:=aC (eG h);have HJ:=aC (LX h.head w);rw[hk]at HJ;clear h hk;generalize bs (ts.headD [])=bx at *;unfold aA at *;go_enter func195,ntmps195;go_wp2_with fail;refine(HC.out).mono ?_;rintro e u1⟨rfl,rfl⟩;clear HC;have HC:=HJ;go_wp2_with fail;refine(HC.out).mono ?_;rintro e u2⟨rfl,rfl⟩;go_wp2;exact⟨rfl,_,(by simp[results,results195,go_sem]),rfl,rfl⟩
def Er(hk:(aR t==108)=true)(hl:1<=t.length):Rdz N rb 145 (t::r) (.mk 19 (t.drop 1) []) r:=fun w h=>by
 have HC:=aC (LS (k:=19) hk hl h);clear h hk hl;unfold aA at *;go_enter func145,ntmps145;go_wp2_with fail;refine(HC.out).mono ?_;rintro e u1⟨b1,rfl,G1⟩;go_wp2;exact⟨rfl,_,(by simp[results,results145,go_sem]),_,rfl,G1⟩
def El(hk:(aR (ts.headD [])==108)=false):Rnz N rb 145 ts:=fun w h=>by
 have HC:=aC (UQ (k:=19) hk h);clear h hk;unfold aA at *;go_enter func145,ntmps145;go_wp2_with fail;refine(HC.out).mono ?_;rintro e u1⟨rfl,rfl⟩;go_wp2;exact⟨rfl,_,(by simp[results,results145,go_sem]),rfl,rfl⟩
def ZJ(hk:(aR t==108)=true)(hl:1<=t.length)(hn:(t==[40])=false):Rdz N rb 253 (t::r) (.mk 21 (t.drop 1) []) r:=fun w h=>by
 have HC:=aC (cY fO (show ((t::r).headD []==K.open_)=false from hn) h);have HL:=aC (LS (k:=21) hk hl h);clear h hk hl hn;unfold aA at *;go_enter func253,ntmps253;go_wp2_with fail;refine(HC.out).mono ?_;rintro e u1⟨rfl,rfl⟩;clear HC;have HC:=HL;go_wp2_with fail;refine(HC.out).mono ?_;rintro e u2⟨b2,rfl,G2⟩;go_wp2;exact⟨rfl,_,(by simp[results,results253,go_sem]),_,rfl,G2⟩
def NR(hk:(aR (ts.headD [])==108)=false)(hn:(ts.headD []==[40])=false):Rnz N rb 253 ts:=fun w h=>by
 have HC:=aC (cY fO hn h);have HL:=aC (UQ (k:=21) hk h);clear h hk hn;unfold aA at *;go_enter func253,ntmps253;go_wp2_with fail;refine(HC.out).mono ?_;rintro e u1⟨rfl,rfl⟩;clear HC;have HC:=HL;go_wp2_with fail;refine(HC.out).mono ?_;rintro e u2⟨rfl,rfl⟩;go_wp2;exact⟨rfl,_,(by simp[results,results253,go_sem]),rfl,rfl⟩
def ZG(h1:Rdz N rb 281 ts nd ([41]::r)):Rdz N rb 253 ([40]::ts) nd r:=fun w h=>by
 have HC:=aC (fS fO h);have H1:=aC h1;clear h h1;unfold aA at *;go_enter func253,ntmps253;go_wp2_with fail;refine(HC.out).mono ?_;rintro e u1⟨rfl,K1⟩;have HC:=aC (H1.out _ K1.out.2);unfold aA at *;go_wp2_with fail;refine(HC.out).mono ?_;rintro e u2⟨b2,rfl,G2⟩;have HC:=aC (mA oN G2.out.rz);unfold aA at *;go_wp2_with fail;refine(HC.out).mono ?_;rintro e u3⟨rfl,K3⟩;have HG:Hid (Got N rb w nd r b2 u3):=aC ⟨(K1.out.1.trans G2.out.kq).trans K3.out.1,(G2.out.on K1.out.2 K3.out.1).low K1.out.1.size (by simp),K3.out.2⟩;go_wp2;exact⟨rfl,_,(by simp[results,results253,go_sem]),_,rfl,HG⟩
def GU(hk:(aR (ts.headD [])==110)=false)(h1:Rdz N rb 253 ts nd r):Rdz N rb 197 ts nd r:=fun w h=>by
 have HC:=aC (eG h);have HI:=aC (gM h.head w);have H1:=aC (h1 w h);rw[hk]at HI;clear h hk h1;generalize bs (ts.headD [])=bx at *;unfold aA at *;go_enter func197,ntmps197;go_wp2_with fail;refine(HC.out).mono ?_;rintro e u1⟨rfl,rfl⟩;clear HC;have HC:=HI;go_wp2_with fail;refine(HC.out).mono ?_;rintro e u2⟨rfl,rfl⟩;clear HC;have HC:=H1;go_wp2_with fail;refine(HC.out).mono ?_;rintro e u3⟨b3,rfl,G3⟩;go_wp2;exact⟨rfl,_,(by simp[results,results197,go_sem]),_,rfl,G3⟩
def GN(hk:(aR (ts.headD [])==110)=false)(h1:Rnz N rb 253 ts):Rnz N rb 197 ts:=fun w h=>by
 have HC:=aC (eG h);have HI:=aC (gM h.head w);have H1:=aC (h1 w h);rw[hk]at HI;clear h hk h1;generalize bs (ts.headD [])=bx at *;unfold aA at *;go_enter func197,ntmps197;go_wp2_with fail;refine(HC.out).mono ?_;rintro e u1⟨rfl,rfl⟩;clear HC;have HC:=HI;go_wp2_with fail;refine(HC.out).mono ?_;rintro e u2⟨rfl,rfl⟩;clear HC;have HC:=H1;go_wp2_with fail;refine(HC.out).mono ?_;rintro e u3⟨rfl,rfl⟩;go_wp2;exact⟨rfl,_,(by simp[results,results197,go_sem]),rfl,rfl⟩
def aF.zpt:aF 197:=enters func197 (by kernel_rfl) rfl
def aF.zol:aF 145:=enters func145 (by kernel_rfl) rfl
def Ev{l:List Nd}(hk:(aR t==110)=true)(hs:FC N rb 197 l ts r)(hl:l.length<=1000):Rdz N rb 295 (t::ts) (.mk 22 t l) r:=fun w h=>by
 have HC:=aC (show Calls prog 194 #[aA rb] w fun e w'=>e=.returned (.string (bs t))/\w'=w from eG h);have HJ:=aC (gM (show Tok t from h.head) w);have HT:=aC (fW h);rw[hk]at HJ;have H1:=aC (fun(u:World) (g:Rz N rb ts u)=>iU aF.zpt hs hl g);have Vs:∀(fn:Fn)(first cap:Array Value)(w:World),(makeFunc fn first cap).run prog w=.ok (.func fn first cap) w:=fun _ _ _ _=>rfl;clear h hk hs;unfold aA at *;go_enter func295,ntmps295;go_wp2_with fail;refine(HC.out).mono ?_;rintro e u1⟨rfl,rfl⟩;clear HC;have HC:=HJ;go_wp2_with fail;refine(HC.out).mono ?_;rintro e u2⟨rfl,rfl⟩;clear HC;have HC:=HT;go_wp2_with fail;refine(HC.out).mono ?_;rintro e u3⟨rfl,K3⟩;have HC:=aC (H1.out _ K3.out.2);unfold aA at *;go_wp2_with fail;refine(HC.out).mono ?_;rintro e u4⟨q4,n4,m4,rfl,G4⟩;obtain⟨bl,Kx⟩:=G4.out.parts K3.out.1;have HC:=aC (nF (k:=22) (txt:=t) rfl (K3.out.1.trans G4.out.kq) G4.out.rz Kx);unfold aA at *;clear Kx;go_wp2_with fail;refine(HC.out).mono ?_;rintro e u5⟨b5,rfl,G5⟩;go_wp2;exact⟨rfl,_,(by simp[results,results295,go_sem]),_,rfl,G5⟩
def GS{l:List Nd}(hk:(aR t==99)=true)(hs:FC N rb 197 l ts r)(hl:l.length<=1000):Rdz N rb 147 (t::ts) (.mk 20 t l) r:=fun w h=>by
 have HC:=aC (show Calls prog 194 #[aA rb] w fun e w'=>e=.returned (.string (bs t))/\w'=w from eG h);have HJ:=aC (kS (show Tok t from h.head) w);have HT:=aC (fW h);rw[hk]at HJ;have H1:=aC (fun(u:World) (g:Rz N rb ts u)=>iU aF.zpt hs hl g);have Vs:∀(fn:Fn)(first cap:Array Value)(w:World),(makeFunc fn first cap).run prog w=.ok (.func fn first cap) w:=fun _ _ _ _=>rfl;clear h hk hs;unfold aA at *;go_enter func147,ntmps147;go_wp2_with fail;refine(HC.out).mono ?_;rintro e u1⟨rfl,rfl⟩;clear HC;have HC:=HJ;go_wp2_with fail;refine(HC.out).mono ?_;rintro e u2⟨rfl,rfl⟩;clear HC;have HC:=HT;go_wp2_with fail;refine(HC.out).mono ?_;rintro e u3⟨rfl,K3⟩;have HC:=aC (H1.out _ K3.out.2);unfold aA at *;go_wp2_with fail;refine(HC.out).mono ?_;rintro e u4⟨q4,n4,m4,rfl,G4⟩;obtain⟨bl,Kx⟩:=G4.out.parts K3.out.1;have HC:=aC (nF (k:=20) (txt:=t) rfl (K3.out.1.trans G4.out.kq) G4.out.rz Kx);unfold aA at *;clear Kx;go_wp2_with fail;refine(HC.out).mono ?_;rintro e u5⟨b5,rfl,G5⟩;go_wp2;exact⟨rfl,_,(by simp[results,results147,go_sem]),_,rfl,G5⟩
def TE(h1:Rdz N rb 295 ts nd r)(hn:(r.headD []==[45,62])=false):Rdz N rb 281 ts nd r:=fun w h=>by
 have HC:=aC (h1 w h);have HN:=aC hn;clear h1 h hn;unfold aA at *;go_enter func281,ntmps281;go_wp2_with fail;refine(HC.out).mono ?_;rintro e u1⟨b1,rfl,G1⟩;have HC:=aC (cY vN HN.out G1.out.rz);unfold aA at *;go_wp2_with fail;refine(HC.out).mono ?_;rintro e u2⟨rfl,rfl⟩;go_wp2;exact⟨rfl,_,(by simp[results,results281,go_sem]),_,rfl,G1⟩
def Gf(N rb:Nat):List Nd->dL->Prop
 |[],ts=>ts=[]
 |nd::l,ts=>∃ts1 r1,ts=[124]::ts1/\Rdz N rb 147 ts1 nd r1/\Gf N rb l r1
def YY{lo l:List Nd}(hk:(aR t==110)=true)(hs:FC N rb 145 lo ts ([61]::r1))(h1:Rdz N rb 147 r1 nd r2)(hv:Gf N rb l r2)(hl:lo.length<=1000/\l.length<=1000):Rdz N rb 106 (t::ts) (.mk 18 t (lo++nd::l)) []:=fun w h=>by
 have HC:=aC (IE hk h)
 have hw:∀u,Kq rb w u->Rz N rb ts u->Calls prog 144 #[.func (.func 145) #[aA rb] #[]] u fun e v=>∃q n m,e=.returned (.slice q n m)/\Calls prog 146 #[aA rb,.string ⟨#[61]⟩] v fun e v2=>e=.returned (.tuple #[])/\Calls prog 147 #[aA rb] v2 fun e v3=>∃b,e=.returned (aA b)/\∃y' v',(append_ #[41,41] 41 #[.slice q n m,.slice (some ⟨v3.heap.size,0,none⟩) 1 1]).run prog (v3.alloc (.cells #[aA b] aH))=.ok y' v'/\∃LD:Nat->Value->World->Prop,Hid (LD l.length y' v') /\
   (∀gk y wr,LD gk y wr->gk≠0->Calls prog 148 #[aA rb,.string ⟨#[124]⟩] wr fun e v=>e=.returned (.bool true)/\Calls prog 147 #[aA rb] v fun e v2=>∃b,e=.returned (aA b)/\∃y' v',(append_ #[41,41] 41 #[y,.slice (some ⟨v2.heap.size,0,none⟩) 1 1]).run prog (v2.alloc (.cells #[aA b] aH))=.ok y' v'/\Hid (LD (gk-1) y' v')) /\
   ∀y wr,LD 0 y wr->∃q n m,y=.slice q n m/\Calls prog 148 #[aA rb,.string ⟨#[124]⟩] wr fun e v=>e=.returned (.bool false)/\Calls prog 108 #[.int .i64 18,.string (bs t),.slice q n m] v fun e u=>∃b,e=.returned (aA b)/\Hid (Got N rb w (.mk 18 t (lo++nd::l)) [] b u):=fun u Nn M0=>by
  refine(iU aF.zol hs hl.1 M0).mono ?_;rintro e v⟨q,n,m,rfl,Ye⟩;refine⟨q,n,m,rfl,(mA JM Ye.out.rz).mono ?_⟩;rintro e v2⟨rfl,hq⟩;refine⟨rfl,(h1 v2 hq.out.2).mono ?_⟩;rintro e v3⟨b,rfl,hg⟩;obtain⟨y',v',f1,f2⟩:=(Ye.out.move M0.lt hq.out.1 hq.out.2).put (ty:=41) M0 hg.out (by omega);refine⟨b,rfl,y',v',f1,fun gk y wr=>∃l1 l2 ts1,l=l1++l2/\gk=l2.length/\jO N rb u (lo++nd::l1) ts1 y wr/\Gf N rb l2 ts1,aC ⟨[],l,r2,rfl,rfl,f2.out,hv⟩,?_,?_⟩
  ·rintro gk y wr⟨l1,l2,ts1,e1,e2,e3,e4⟩ h0
   cases l2 with
   |nil=>exact absurd e2 h0
   |cons a l2=>
    obtain⟨ts2,r2,rfl,e5,e6⟩:=e4;refine(fS rA e3.rz).mono ?_;rintro e v⟨rfl,hq⟩;refine⟨rfl,(e5 v hq.out.2).mono ?_⟩;rintro e v2⟨b2,rfl,Un⟩;obtain⟨y',v',f1,f2⟩:=(e3.move M0.lt hq.out.1 hq.out.2).put (ty:=41) M0 Un.out (by rw[e1]at hl;simp at hl ⊢;omega);exact⟨b2,rfl,y',v',f1,aC ⟨l1++[a],l2,r2,by simp[e1],by rw[e2];simp,by simpa using f2.out,e6⟩⟩
  ·rintro y wr⟨l1,l2,ts1,e1,e2,e3,e4⟩;obtain rfl:l2=[]:=List.length_eq_zero_iff.1 e2.symm;have e4:ts1=[]:=e4;subst e4;rw[append_nil]at e1;subst e1;obtain⟨bl,Kx⟩:=e3.parts Nn;obtain⟨q,n,m,rfl⟩:=e3.form;refine⟨_,_,_,rfl,(cY rA rfl e3.rz).mono ?_⟩;rintro e v⟨rfl,rfl⟩;exact⟨rfl,nF (k:=18) rfl (Nn.trans e3.kq) e3.rz Kx⟩
 have HW:=aC hw;have Vs:∀(fn:Fn)(first cap:Array Value)(w:World),(makeFunc fn first cap).run prog w=.ok (.func fn first cap) w:=fun _ _ _ _=>rfl;clear hw h h1 hv hs hk;generalize bs t=bx at *;unfold aA at *;go_enter func106,ntmps106;go_wp2_with fail;refine(HC.out).mono ?_;rintro e u1⟨rfl,K1⟩;have HC:=aC (HW.out _ K1.out.1 K1.out.2);clear HW K1;go_wp2_with fail;refine(HC.out).mono ?_;rintro e v⟨q,n,m,rfl,hc⟩;have HC:=aC hc;clear hc;go_wp2_with fail;refine(HC.out).mono ?_;rintro e v2⟨rfl,hc⟩;have HC:=aC hc;clear hc;go_wp2_with fail;refine(HC.out).mono ?_;rintro e v3⟨b,rfl,y',v',Jo,LD,HL,Jz,Rx⟩;have HR:=aC Jo;have Km:=aC Jz;have Pu:=aC Rx;clear Jz Rx Jo HC;unfold aA at *
 go_wp2_with (at_builtin;refine aU rfl _ _ _ rfl (by simp[Act.eval,Act.put]) (by simp[Act.eval,Act.put]) HR.out ?_)
 clear HR
 go_loopg [4] l.length (fun gk v3 wr=>Hid (LD gk v3 wr))
 case atStart=>exact HL
 case round=>
  clear HL
  by_cases h0:gk=0
  ·subst h0;obtain⟨q,n,m,rfl,hc⟩:=Pu.out _ _ hrel.out;have HC:=aC hc;clear hc Km Pu hrel;go_wp2_with fail;refine(HC.out).mono ?_;rintro e v⟨rfl,Mv⟩;have HC:=aC Mv;clear Mv;go_wp2_with fail;refine(HC.out).mono ?_;rintro e v⟨b,rfl,HG⟩;unfold aA at *;go_wp2;exact⟨rfl,_,(by simp[results,results106,go_sem]),_,rfl,HG⟩
  ·have HC:=aC (Km.out _ _ _ hrel.out h0);clear Km Pu hrel;go_wp2_with fail;refine(HC.out).mono ?_;rintro e v⟨rfl,Mv⟩;have HC:=aC Mv;clear Mv;go_wp2_with fail;refine(HC.out).mono ?_;rintro e v2⟨b,rfl,y',v',Jo,HL⟩;have HR:=aC Jo;clear Jo HC;unfold aA at *
   go_wp2_with (at_builtin;refine aU rfl _ _ _ rfl (by simp[Act.eval,Act.put]) (by simp[Act.eval,Act.put]) HR.out ?_)
   go_roundg (gk-1)
   case rel=>exact HL
   case measure=>omega
end
end
section
open Go.RowKit Go.Shelf
attribute [local go_sem] Oper.semAt_some
def PJ(nd:Nd)(pre:List (Int×List UInt8)):Nd:=pre.foldl (fun z x=>.mk 5 x.2 [z]) nd
def PI(nd:Nd)(pre:List (Int×List UInt8))(x:Int×List UInt8):PJ nd (pre++[x])=.mk 5 x.2 [PJ nd pre]:=by simp[PJ]
def EF(l:dL)(nd:Nd):Nd:=l.reverse.foldl (fun z a=>.mk 5 a [z]) nd
def VN(l:dL)(nd:Nd):PJ nd (eY l l.length)=EF l nd:=by
 unfold EF PJ;rw[<- JR,List.foldl_map]
def Dh(B:Nat)(w:World)(nd:Nd)(pre:List (Int×List UInt8))(W:World):Prop:=
 ∃b',W.heap[w.heap.size]?=some (.cells #[aA b'] aH (0,0))/\Sn (some w.heap.size) B W (fun z=>AB z (PJ nd pre) b')/\Below w.heap.size w W/\w.heap.size+2<=W.heap.size
def VT(B':Nat)(w:World)(nd:Nd)(B:Nat)(hB:w.heap.size<=B):OwnFrom B (Dh B' w nd):=by
 rintro s W W' row⟨b',h1,h2,h3,h4⟩ hg hr
 have hk:∀(k:Nat)(c:Array Value)(T:TypeId)(f:Nat×Nat),W.heap[k]?=some (.cells c T f)->W'.heap[k]?=W.heap[k]?:=by
  intro k c T f he;refine hg.block k (aB he) (fun e=>?_);obtain⟨_,o,ho,hc⟩:=hr k e.symm;rw[he]at ho;obtain rfl:=Option.some.inj ho;simp[Obj.isCells]at hc
 exact⟨b',by rw[hk _ _ _ _ h1];exact h1,h2.appC (fun k c T f _ _ he=>hk k c T f he) fun _=>.inl,h3.grown hg h3.size (fun k e=>le_trans hB (hr k e).1),le_trans h4 hg.size⟩
def Dp{B b:Nat}{w:World}{v:Value}{l:dL}{nd:Nd}(hv:w.ownsRow 0 aI 1 v l.length (l.map bM))(hl:l.length<=4001)(hm:Sn none B w fun z=>AB z nd b)(hB:B<=w.heap.size) :
  Calls prog 150 #[v,aA b] w fun e u=>∃b',e=.returned (aA b')/\Hid (Sn none B u (fun z=>AB z (EF l nd) b')/\Below w.heap.size w u):=by
 have hT:MJ w.heap.size (w.heap.size+2) ((w.alloc (.cells #[aA b] aH)).alloc (.cells #[v] 22)) v l:=by
  rcases hv.2 with⟨rfl,Ou⟩|⟨g,cap,cur,rfl,Wo,Ng,Wk,Xo,Rh,Oz⟩
  ·exact inl ⟨rfl,List.length_eq_zero_iff.1 Ou⟩
  ·have Qo:=aB Ng;refine inr ⟨g,cap,cur,rfl,by omega,by omega,by rw[Below.heap_alloc _ _ _ (by simp;omega),Below.heap_alloc _ _ _ Qo];exact Ng,fun j tk hj=>?_⟩;have Lc:j<l.length:=(List.getElem?_eq_some_iff.1 hj).1;have h1:(l.map bM)[j]?=some (bM tk):=by rw[List.getElem?_map,hj];rfl
   rw[<- Oz,List.getElem?_take,if_pos (by omega)]at h1;rw[<- Array.getElem?_toList];exact h1
 have hFA:Dh B w nd [] ((w.alloc (.cells #[aA b] aH)).alloc (.cells #[v] 22)):=by
  refine⟨b,?_,?_,((Below.refl _ w).alloc (le_refl _) _).alloc (by simp) _,by simp⟩
  ·rw[Below.heap_alloc _ _ _ (by simp)];simp only[World.alloc,Array.getElem?_push_size]
  ·exact hm.app (g':=some w.heap.size) (fun k _ hk _=>by rw[Below.heap_alloc _ _ _ (by simp;omega),Below.heap_alloc _ _ _ hk]) fun q e=>by cases e;exact .inr (le_refl _)
 obtain⟨va,vn,vc,rfl⟩:∃a n c,v=.slice a n c:=by
  rcases aD hv with⟨rfl,_⟩|⟨g,cap,rfl⟩<;>exact⟨_,_,_,rfl⟩
 have HT:=aC hT;have HFA:=aC hFA;clear hT hFA hv hm;unfold aA at *;refine(callsIn_wide (n:=3)).1 ?_;refine callsIn_of_wp_marks func150 rfl trivial ?_ rfl;simp only[ntmps150,List.size_toArray,length_cons,length_nil,Nat.reduceAdd,Nat.reduceSub,Array.replicate_succ,Array.replicate_zero,List.push_toArray,List.append_toArray,nil_append,cons_append]
 gi_wp2_with (refine⟨trivial,?_⟩;gi_at_call 198;refine(Cs Fence.wide _ trivial rfl _ _ _ _).mono ?_;rintro e w'⟨rfl,rfl⟩)
 have Ke:((w.alloc (.cells #[.pointer (some ⟨b,0,none⟩)] aH)).alloc (.cells #[.slice va vn vc] 22)).heap.size=w.heap.size+2:=by simp
 have Jz:=JQ Fence.wide (3-1) trivial rfl (by omega) (w.heap.size+1) w.heap.size (.slice va vn vc) l hl ((w.alloc (.cells #[.pointer (some ⟨b,0,none⟩)] aH)).alloc (.cells #[.slice va vn vc] 22)) (by simp) (by omega)
  (by rw[show w.heap.size+1=(w.alloc (.cells #[.pointer (some ⟨b,0,none⟩)] aH)).heap.size by simp];simp only[World.alloc,Array.getElem?_push_size]) (by rw[Ke];exact HT.out)
 refine wpIn_rangeFunc_ownF rfl (by omega) (gf:=254) (lb:=#[.pointer (some ⟨w.heap.size+1,0,none⟩)]) ?hg trivial (enters_of func254 (by kernel_rfl) rfl)
  Jz (fun h k=>h.trans k) ?Q8 (Below.refl _ _) (fun _=>rfl) (Dh B w nd) (fun _ _ _=>False) (VT B w nd _ (by simp;omega)) (fun _ _ _ _ _ hs _ _=>hs) HFA.out
  (fun x=>{ tmps:=#[.slice va vn vc,.pointer (some ⟨b,0,none⟩),undef,.pointer (some ⟨w.heap.size,0,none⟩),.pointer none,undef,.string (bs x.2),.slice va vn vc,.func (.func 254) #[] #[.pointer (some ⟨w.heap.size+1,0,none⟩)],.int .i64 x.1,.string (bs x.2),undef,undef,undef,undef,undef],defers:=[] }) ?assign ?body ?done ?stop
 case hg=>rfl
 case Q8=>
  intro W k o o' hk ho _ _;have Jy:w.heap.size+2<=k:=by simpa using hk
  refine⟨by simp,fun i hi _=>World.putObj_heap_other ?_⟩;rw[Ke]at hi;omega
 case assign=>
  intro lr x W K hK;unfold Bu
  gi_wp2
  exact hK
 case body=>
  rintro lr pre x W⟨b',h1,h2,h3,h4⟩ _;have c0:W.cell? ⟨w.heap.size,0,none⟩=some (.pointer (some ⟨b',0,none⟩)):=by simp[cell?,h1,aA]
  have f0:W.frozen? ⟨w.heap.size,0,none⟩=false:=by simp[frozen?,h1]
  obtain⟨W1,Ql⟩:∃W1,W1=(W.alloc (.cells #[.pointer (some ⟨b',0,none⟩)] aH)).alloc (.cells #[.int .i64 5,.string (bs x.2),.slice (some ⟨W.heap.size,0,none⟩) 1 1] cS):=⟨_,rfl⟩
  have Kv:∀k,k<W.heap.size->W1.heap[k]?=W.heap[k]?:=fun k hk=>by
   rw[Ql,Below.heap_alloc _ _ _ (by simp;omega),Below.heap_alloc _ _ _ hk]
  have Li:W1.heap.size=W.heap.size+2:=by rw[Ql];simp
  have hN:Calls prog 108 #[.int .i64 5,.string (bs x.2),.slice (some ⟨W.heap.size,0,none⟩) 1 1] (W.alloc (.cells #[.pointer (some ⟨b',0,none⟩)] aH)) fun e u=>e=.returned (.pointer (some ⟨W.heap.size+1,0,none⟩))/\u=W1:=by
   generalize bs x.2=tx at *;rw[Ql];go_enter func108,ntmps108;go_wp2;exact⟨rfl,_,(by simp[results,results108,go_sem]),rfl,rfl⟩
  have Kz:W1.heap[w.heap.size]?=some (.cells #[aA b'] aH (0,0)):=(Kv _ (by omega)).trans h1
  have Ld:W1.heap[W.heap.size]?=some (.cells #[.pointer (some ⟨b',0,none⟩)] aH (0,0)):=by
   rw[Ql,Below.heap_alloc _ _ _ (by simp)];exact(MapKept.heap_alloc W _).1
  have Pj:W1.heap[W.heap.size+1]?=some (.cells #[.int .i64 5,.string (bs x.2),.slice (some ⟨W.heap.size,0,none⟩) 1 1] cS (0,0)):=by
   have:=(MapKept.heap_alloc (W.alloc (.cells #[.pointer (some ⟨b',0,none⟩)] aH)) (.cells #[.int .i64 5,.string (bs x.2),.slice (some ⟨W.heap.size,0,none⟩) 1 1] cS)).1;rw[Ql];simpa using this
  have Ma:∀k,k≠w.heap.size->(W1.setCell ⟨w.heap.size,0,none⟩ (.pointer (some ⟨W.heap.size+1,0,none⟩))).heap[k]?=W1.heap[k]?:=fun k hk=>Below.heap_setCell _ _ _ _ hk
  have B1:Dh B w nd (pre++[x]) (W1.setCell ⟨w.heap.size,0,none⟩ (.pointer (some ⟨W.heap.size+1,0,none⟩))):=by
   refine⟨W.heap.size+1,?_,?_,?_,by simp[setCell];omega⟩
   ·simp only[setCell,Array.getElem?_modify,if_pos,Kz,Option.map_some,Option.isSome_none,Bool.false_eq_true,if_false];simp[aA]
   ·rw[PI];intro z hz;have e1:=(Ma W.heap.size (by omega)).trans Ld;have e2:=(Ma (W.heap.size+1) (by omega)).trans Pj;have e3:=(hz _ _ _ _ (by omega) (by simp;omega) e1).trans e1;have e4:=(hz _ _ _ _ (by omega) (by simp;omega) e2).trans e2;refine AB.mk (bs':=[b']) e4 ⟨by simp,inr ⟨_,_,_,rfl,zero_le _,e3,le_refl _,by unfold maxLen;omega,rfl,rfl⟩⟩ ?_
    have:=h2 z fun k c T f hk Ju he=>by
     have Kj:k≠w.heap.size:=fun e=>Ju (by rw[e]);have e5:=(Ma k Kj).trans (Kv k (aB he));exact(hz k c T f hk Ju (e5.trans he)).trans e5
    simpa [AB.AD]using this
   ·rw[Ql];exact((h3.alloc h3.size _).alloc (by simp;omega) _).setCell (le_refl _) _
  have Vk:=aC B1;have HKO:=aC (show KeepsOthers W (W1.setCell ⟨w.heap.size,0,none⟩ (.pointer (some ⟨W.heap.size+1,0,none⟩))) by rw[Ql];exact((KeepsOthers.alloc _ _).trans (KeepsOthers.alloc _ _)).trans (KeepsOthers.setCell _ _ _))
  have HKB:=aC (show lG w.heap.size ((w.alloc (.cells #[.pointer (some ⟨b,0,none⟩)] aH)).alloc (.cells #[.slice va vn vc] 22)).heap.size W (W1.setCell ⟨w.heap.size,0,none⟩ (.pointer (some ⟨W.heap.size+1,0,none⟩)))from by
   refine⟨by simp[setCell];omega,fun k hk Ju=>?_⟩;rw[Ke]at hk
   rw[Ma k Ju,Kv k (by omega)])
  have c1:W1.cell? ⟨w.heap.size,0,none⟩=some (.pointer (some ⟨b',0,none⟩)):=by simp[cell?,Kz,aA]
  have f1:W1.frozen? ⟨w.heap.size,0,none⟩=false:=by simp[frozen?,Kz]
  have HN:=aC hN;clear Kz Ld Pj Ma hN Kv Li h1 h2 h3 h4 B1;clear Ql
  gi_wp2_with (refine⟨trivial,?_⟩;gi_at_call 108;refine(CallsIn.inRound lr (callsIn_wide.2 HN.out)).mono ?_;rintro e w'⟨rfl,rfl⟩)
  exact⟨HKO.out,HKB.out,Vk.out⟩
 case done=>
  rintro D xs W hD rfl⟨b',h1,h2,h3,h4⟩ hK;have c0:W.cell? ⟨w.heap.size,0,none⟩=some (.pointer (some ⟨b',0,none⟩)):=by simp[cell?,h1,aA]
  rw[VN]at h2
  have K8:∀(k:Nat)(c:Array Value)(T:TypeId)(f:Nat×Nat),W.heap[k]?=some (.cells c T f)->(W.putObj D (.deferred none)).heap[k]?=W.heap[k]?:=by
   intro k c T f he;refine World.putObj_heap_other (fun e=>?_);subst e;rw[he]at hK;cases hK
  have HM:=aC (show Sn none B (W.putObj D (.deferred none)) (fun z=>AB z (EF l nd) b')/\Below w.heap.size w (W.putObj D (.deferred none))from⟨(h2.appC (g':=some w.heap.size) (fun k c T f _ _ he=>K8 k c T f he) fun _=>.inl).wide,h3.trans (belowK_b (w:=w) (le_refl _) W D _ _ (by simp at hD;omega) hK rfl rfl)⟩);clear h1 h2 h3 h4 K8
  gi_wp2
  refine⟨by simp,.inl ⟨_,_,rfl,run_takeDeferred hK,?_⟩⟩;exact⟨_,results_tmp rfl _ _ _,b',rfl,HM⟩
 case stop=>
  rintro D c pre W _ _ h _;exact h.elim
end
section
open Go.RowKit
section
variable {N rb:Nat}{ts r r1 r2 r3:dL}{t x txt:List UInt8}{w u:World}{nd nd1 nd2 nd3:Nd}
def TJ{xs:dL}(hk:(aR txt==110)=true)(hx:∀x∈xs,(aR x==110)=true)(h0:0<xs.length)(hl:xs.length<=4001)(h1:Rdz N rb 109 r1 nd r):Rbz N rb ([114,101,99]::txt::(xs++[61]::r1)) 7 txt (EF xs nd) r:=fun w h=>by
 have HC:=aC (fS ME h);have Sv:=aC (fun(u:World) (g:Rz N rb (txt::(xs++[61]::r1)) u)=>IE hk g);have HNS:=aC (fun(u:World) (g:Rz N rb (xs++[61]::r1) u)=>LK (r:=[61]::r1) hx (show (aR [61]==110)=false by decide) g);have H1:=aC h1;clear h h1 hk hx;unfold aA at *;go_enter func107,ntmps107;go_wp2_with fail;refine(HC.out).mono ?_;rintro e u1⟨rfl,K1⟩;have HC:=aC (Sv.out _ K1.out.2);unfold aA at *;go_wp2_with fail;refine(HC.out).mono ?_;rintro e u2⟨rfl,K2⟩;have HC:=aC (HNS.out _ K2.out.2);unfold aA at *;go_wp2_with fail;refine(HC.out).mono ?_;rintro e u3⟨q,n,m,rfl,S3⟩
 have hn:n=xs.length:=by
  rcases aD S3.out.row with⟨h,h0⟩|⟨g,cap,h⟩<;>cases h<;>omega
 subst hn;have e1:((xs.length:Int)==0)=false:=by simp only[beq_eq_false_iff_ne,ne_eq];omega
 have e2:¬((xs.length:Int)=0):=by omega
 have HC:=aC (mA JM S3.out.rz);unfold aA at *;go_wp2_with fail;refine(HC.out).mono ?_;rintro e u4⟨rfl,K4⟩;have HC:=aC (H1.out _ K4.out.2);unfold aA at *;go_wp2_with fail;refine(HC.out).mono ?_;rintro e u6⟨b6,rfl,G6⟩;have K5:Kq rb w u4:=((K1.out.1.trans K2.out.1).trans S3.out.kq).trans K4.out.1;have k46:=K4.out.1.trans G6.out.kq;have Jn:=bN (aE (w':=u6) S3.out.row fun q c f hq hc=>k46.block q (aB hc) (by have:=(S3.out.row.lt q hq).1;have:=K2.out.2.lt;omega)) (zero_le _);have HC:=aC (Dp (B:=w.heap.size) Jn hl (G6.out.since K5) (le_trans K5.size G6.out.kq.size));unfold aA at *;clear Jn k46;go_wp2_with fail;refine(HC.out).mono ?_;rintro e u7⟨b7,rfl,H7⟩;have HG:Hid (Got N rb w (EF xs nd) r b7 u7):=aC ⟨(K5.trans G6.out.kq).trans (Kq.AP H7.out.2),H7.out.1,G6.out.rz.onto H7.out.2.size fun k hk=>H7.out.2.block k (by have:=G6.out.rz.low;omega)⟩;go_wp2;exact⟨rfl,_,(by simp[results,results107,go_sem]),_,rfl,HG⟩
def Ew(hn:(txt==[114,101,99])=false)(hk:(aR txt==110)=true)(h1:Rdz N rb 109 r1 nd r):Rbz N rb (txt::[61]::r1) 6 txt (EF [] nd) r:=fun w h=>by
 have HC:=aC (cY ME (show ((txt::[61]::r1).headD []==K.rec_)=false from hn) h);have Sv:=aC (IE hk h);have HNS:=aC (fun(u:World) (g:Rz N rb ([]++[61]::r1) u)=>LK (xs:=[]) (r:=[61]::r1) (fun x h=>by simp at h) (show (aR [61]==110)=false by decide) g);have H1:=aC h1;have hl:([]:dL).length<=4001:=by simp
 clear h h1 hk hn;unfold aA at *;go_enter func107,ntmps107;go_wp2_with fail;refine(HC.out).mono ?_;rintro e u1⟨rfl,rfl⟩;clear HC;have HC:=Sv;go_wp2_with fail;refine(HC.out).mono ?_;rintro e u2⟨rfl,K2⟩;have HC:=aC (HNS.out _ K2.out.2);unfold aA at *;go_wp2_with fail;refine(HC.out).mono ?_;rintro e u3⟨q,n,m,rfl,S3⟩;have HC:=aC (mA JM S3.out.rz);unfold aA at *;go_wp2_with fail;refine(HC.out).mono ?_;rintro e u4⟨rfl,K4⟩;have HC:=aC (H1.out _ K4.out.2);unfold aA at *;go_wp2_with fail;refine(HC.out).mono ?_;rintro e u6⟨b6,rfl,G6⟩;have K5:Kq rb u1 u4:=(K2.out.1.trans S3.out.kq).trans K4.out.1;have k46:=K4.out.1.trans G6.out.kq;have Jn:=bN (aE (w':=u6) S3.out.row fun q c f hq hc=>k46.block q (aB hc) (by have:=(S3.out.row.lt q hq).1;have:=K2.out.2.lt;omega)) (zero_le _);have HC:=aC (Dp (B:=u1.heap.size) Jn hl (G6.out.since K5) (le_trans K5.size G6.out.kq.size));unfold aA at *;clear Jn k46;go_wp2_with fail;refine(HC.out).mono ?_;rintro e u7⟨b7,rfl,H7⟩;have HG:Hid (Got N rb u1 (EF [] nd) r b7 u7):=aC ⟨(K5.trans G6.out.kq).trans (Kq.AP H7.out.2),H7.out.1,G6.out.rz.onto H7.out.2.size fun k hk=>H7.out.2.block k (by have:=G6.out.rz.low;omega)⟩;go_wp2;exact⟨rfl,_,(by simp[results,results107,go_sem]),_,rfl,HG⟩
def TI(h1:Rdz N rb 106 ts nd r):Rdz N rb 68 ([116,121,112,101]::ts) nd r:=fun w h=>by
 have HC:=aC (show Calls prog 105 #[aA rb] w fun e u=>e=.returned (.string ⟨#[116,121,112,101]⟩)/\Hid (Kq rb w u/\Rz N rb ts u)from fW h);have H1:=aC h1;clear h h1;unfold aA at *;go_enter func68,ntmps68;go_wp2_with fail;refine(HC.out).mono ?_;rintro e u1⟨rfl,K1⟩;have HC:=aC (H1.out _ K1.out.2);unfold aA at *;go_wp2_with fail;refine(HC.out).mono ?_;rintro e u2⟨b2,rfl,G2⟩;have HG:=aC (G2.out.late K1.out.1);go_wp2;exact⟨rfl,_,(by simp[results,results68,go_sem]),_,rfl,HG⟩
def ZF{k:Nat}(h1:Rbz N rb ts k txt nd r):Rdz N rb 68 ([108,101,116]::ts) (.mk k txt [nd]) r:=fun w h=>by
 have HC:=aC (show Calls prog 105 #[aA rb] w fun e u=>e=.returned (.string ⟨#[108,101,116]⟩)/\Hid (Kq rb w u/\Rz N rb ts u)from fW h);have H1:=aC h1;clear h h1;unfold aA at *;go_enter func68,ntmps68;go_wp2_with fail;refine(HC.out).mono ?_;rintro e u1⟨rfl,K1⟩;have HC:=aC (H1.out _ K1.out.2);unfold aA at *;go_wp2_with fail;refine(HC.out).mono ?_;rintro e u2⟨b2,rfl,G2⟩;have HC:=aC (new1 (k:=k) (txt:=txt) rfl (K1.out.1.trans G2.out.kq) G2.out.rz (G2.out.since K1.out.1));unfold aA at *;go_wp2_with fail;refine(HC.out).mono ?_;rintro e u3⟨b3,rfl,G3⟩;go_wp2;exact⟨rfl,_,(by simp[results,results68,go_sem]),_,rfl,G3⟩
def Et(h1:Rdz N rb 109 ts nd r):Rdz N rb 68 ([100,111]::ts) (.mk 17 [] [nd]) r:=fun w h=>by
 have HC:=aC (show Calls prog 105 #[aA rb] w fun e u=>e=.returned (.string ⟨#[100,111]⟩)/\Hid (Kq rb w u/\Rz N rb ts u)from fW h);have H1:=aC h1;clear h h1;unfold aA at *;go_enter func68,ntmps68;go_wp2_with fail;refine(HC.out).mono ?_;rintro e u1⟨rfl,K1⟩;have HC:=aC (H1.out _ K1.out.2);unfold aA at *;go_wp2_with fail;refine(HC.out).mono ?_;rintro e u2⟨b2,rfl,G2⟩;have HC:=aC (new1 (k:=17) mM (K1.out.1.trans G2.out.kq) G2.out.rz (G2.out.since K1.out.1));unfold aA at *;go_wp2_with fail;refine(HC.out).mono ?_;rintro e u3⟨b3,rfl,G3⟩;go_wp2;exact⟨rfl,_,(by simp[results,results68,go_sem]),_,rfl,G3⟩
def Ch(w:World):CallsD prog 67 #[] .returning w fun e u' w'=>e=.returned (.tuple #[])/\u'=.returning/\w'=w:=by
 refine callsD_of_wpS func67 rfl fun c₀ cs hu=>?_;apply wpS_seq;apply wpS_region;simp[wpOpsS,go_sem,recoverD,hu,ntmps67,Exit.thenS];have O4:∀w:World,(binOp BinOp.neq 20 .nilIface .nilIface).run prog w=.ok (.bool false) w:=fun _=>by kernel_rfl
 refine wpS_of_wp ?_;go_wp2;cases c₀
 simp_all [bodyPostS,results,results67]
structure nT(tb o cap:Nat)(ts:dL)(w:World):Prop where
 len:ts.length<=4000
 toks:∀t∈ts,Tok t/\t≠[]
 own:∃cs,w.heap[tb]?=some (.cells cs aI (0,0))/\ts.length<=cap/\cap<=9223372036854775807/\∀(i:Nat)(t:List UInt8),ts[i]?=some t->cs[o+i]?=some (bM t)
def nT.rz{tb o cap:Nat}(h:nT tb o cap ts w):Rz (w.heap.size+1) w.heap.size ts (w.alloc (.cells #[.slice (some ⟨tb,o,none⟩) ts.length cap] SH)):=by
 obtain⟨cs,h1,h2⟩:=h.own;have hl:=aB h1;exact⟨⟨by omega,by simp⟩,h.len,h.toks,tb,o,cap,cs,by omega,by simp only[World.alloc,Array.getElem?_push_size],by rw[Below.heap_alloc _ _ _ hl];exact h1,h2⟩
def GQ{tb o cap:Nat}(h:nT tb o cap ts w)(hd:∀N rb,Rdz N rb 68 ts nd []):Calls prog 33 #[.slice (some ⟨tb,o,none⟩) ts.length cap] w fun e u=>∃b,e=.returned (aA b)/\Hid (Below w.heap.size w u/\Sn none w.heap.size u fun z=>AB z nd b):=by
 have HC:=aC (hd _ _ _ h.rz)
 have HQ:=aC (fun(b:Nat) (u:World) (g:Got (w.heap.size+1) w.heap.size (w.alloc (.cells #[.slice (some ⟨tb,o,none⟩) ts.length cap] SH)) nd [] b u)=>show Below w.heap.size w u/\Sn none w.heap.size u fun z=>AB z nd b from
  ⟨⟨g.kq.os,g.kq.tape,g.kq.output,by have:=g.kq.size;simp at this;omega,fun k hk=>(g.kq.block k (by simp;omega) (by omega)).trans (Below.heap_alloc _ _ _ hk)⟩,g.sn.low (by simp) (by simp)⟩)
 clear h hd;unfold aA at *;generalize ts.length=n at *
 go_enter_defers func33,ntmps33
 go_wp2_with fail;refine(HC.out).mono ?_;rintro e u2⟨b2,rfl,G2⟩;have HC:=aC (Ho G2.out.rz);have HR:=aC (HQ.out _ _ G2.out);clear G2 HQ;unfold aA at *;go_wp2_with fail;refine(HC.out).mono ?_;rintro e u3⟨rfl,rfl⟩;go_wp2;refine leaves_cons (f:=67) (args:=#[]) (by simp) (by simp[go_sem]) ?_;refine(Ch _).mono ?_;rintro e u' w''⟨rfl,rfl,rfl⟩;simp[Leaves,settle,results,results33,go_sem];exact HR
end
end
section
open Go.RowKit
section
variable {ts r:dL}{w u v:World}{nd:Nd}{b:Nat}
def Ic:List Nd->dL->Prop
 |[],ts=>ts=[]
 |nd::l,ts=>∃seg r,ts=seg++[46]::r/\[46]∉seg/\(∀N rb,Rdz N rb 68 seg nd [])/\Ic l r
def Bc:∀(seg:dL)(r:dL)(i:Nat),[46]∉seg->Lib.idxFromS ((seg++[46]::r).map bs) (bs [46]) i=((i+seg.length:Nat):Int):=by
 intro seg
 induction seg with
 |nil=>intro r i _;simp[Lib.idxFromS]
 |cons a l ih=>
  intro r i h
  have h1:bs a≠bs [46]:=fun e=>by
   have e:=congrArg (fun s:ByteArray=>s.data.toList) e;simp only[dD]at e;exact h (by rw[e];exact mem_cons_self ..)
  rw[cons_append,map_cons,Lib.idxFromS,if_neg h1,ih r (i+1) fun hh=>h (mem_cons_of_mem _ hh)];simp only[length_cons];congr 1;omega
def nT.take{tb o cap:Nat}(h:nT tb o cap (ts++r) w):nT tb o cap ts w:=by
 obtain⟨cs,h1,h2,h3,h4⟩:=h.own;have hl:=h.len;rw[length_append]at hl h2;exact⟨by omega,fun t ht=>h.toks t (List.mem_append_left _ ht),cs,h1,by omega,h3,fun i t hi=>h4 i t (by rw[List.getElem?_append_left (List.getElem?_eq_some_iff.1 hi).1];exact hi)⟩
def nT.drop{tb o cap k:Nat}(h:nT tb o cap (ts++r) w)(hk:k=ts.length)(o2:Nat)(ho:cap=k\/o2=o+k):nT tb o2 (cap-k) r w:=by
 obtain⟨cs,h1,h2,h3,h4⟩:=h.own;have hl:=h.len;rw[length_append]at hl h2;refine⟨by omega,fun t ht=>h.toks t (List.mem_append_right _ ht),cs,h1,by omega,by omega,fun i t hi=>?_⟩;have Lc:=(List.getElem?_eq_some_iff.1 hi).1;rcases ho with ho|rfl
 ·omega
 ·have:=h4 (k+i) t (by rw[List.getElem?_append_right (by omega),hk];simpa using hi);rw[<- this];congr 1;omega
def nT.kept{tb o cap:Nat}(h:nT tb o cap ts w)(hk:∀(k:Nat)(c:Array Value)(f:Nat×Nat),w.heap[k]?=some (.cells c aI f)->u.heap[k]?=w.heap[k]?):nT tb o cap ts u:=by
 obtain⟨cs,h1,h2⟩:=h.own;exact⟨h.len,h.toks,cs,(hk _ _ _ h1).trans h1,h2⟩
def Hk{tb o cap:Nat}(h:nT tb o cap ts w):Calls prog 32 #[.slice (some ⟨tb,o,none⟩) ts.length cap,.string ⟨#[46]⟩] w fun e w'=>e=.returned (.int .i64 (Lib.idxFromS (ts.map bs) (bs [46]) 0))/\w'=w:=by
 have hl:=h.len;obtain⟨cs,c1,c2,c3,c4⟩:=h.own
 have hI:=Tryz.slices_Index_string tb o ts.length cap (ts.map bs) (bs [46]) w (by simp) (by omega) (by
  intro j hj;have R9:j<ts.length:=by simpa using hj
  have:=c4 j ts[j] (List.getElem?_eq_getElem R9);simp[cell?,c1,R9]
  exact this)
 rw[List.take_of_length_le (by simp)]at hI;exact hI
structure KJ(w:World)(l:List Nd)(y:Value)(u:World):Prop where
 bl:Below w.heap.size w u
 sn:∃ps:List Nat,u.ownsRow w.heap.size aH 1 y ps.length (ps.map aA)/\Sn y.ownBlock w.heap.size u fun z=>AB.AD z l ps
def KJ.put{l:List Nd}{y:Value}{ty:TypeId}(h:KJ w l y u)(hb:Below u.heap.size u v)(hn:Sn none u.heap.size v fun z=>AB z nd b)(hl:l.length<=100000) :
  ∃y' v',(append_ #[41,41] ty #[y,.slice (some ⟨v.heap.size,0,none⟩) 1 1]).run prog (v.alloc (.cells #[.pointer (some ⟨b,0,none⟩)] aH))=.ok y' v'/\KJ w (l++[nd]) y' v'/\∀(k:Nat)(c:Array Value)(f:Nat×Nat),u.heap[k]?=some (.cells c aI f)->v'.heap[k]?=u.heap[k]?:=by
 obtain⟨ps,h1,h2⟩:=h.sn;have Jm:=(h2.now).len;have Wh:v.ownsRow w.heap.size aH 1 y ps.length (ps.map aA):=aE h1 fun q c f _ hc=>hb.block q (aB hc);have hk:Below w.heap.size w v:=h.bl.trans (hb.mono h.bl.size);obtain⟨y',v',e1,e2,e3,e4,_⟩:=iY (ty:=ty) b Wh (by omega) hk.size
 have Vd:∀q,q<v.heap.size->y.ownBlock≠some q->v'.heap[q]?=v.heap[q]?:=fun q hq Ju=>by
  rw[e3.block q (by simp;omega) (fun e=>Ju e.symm),Below.heap_alloc _ _ _ hq]
 have s1:Sn y.ownBlock w.heap.size v fun z=>AB.AD z l ps:=h2.onto fun k _ hk=>hb.block k hk;have s2:Sn y.ownBlock w.heap.size v fun z=>AB z nd b:=hn.low h.bl.size fun q hq=>(h1.lt q hq).2;refine⟨y',v',e1,⟨(hk.alloc hk.size _).grown e3 (by have:=hk.size;simp;omega) (fun q e=>(Wh.lt q e).1),ps++[b],e2,((s1.and s2).imp fun z h=>rZ h.1 h.2).app (fun q _ hq Ju=>Vd q hq Ju) fun q hq=>(e4 q hq).imp id fun h=>by omega⟩,fun k c f hc=>?_⟩;have Js:=aB hc;rw[Vd k (by have:=hb.size;omega) (fun e=>?_),hb.block k Js];rcases h1.2 with⟨rfl,_⟩|⟨g2,cap3,cur,rfl,_,Ng,_⟩
 ·simp[Value.ownBlock]at e
 ·obtain rfl:g2=k:=by simpa [Value.ownBlock]using e
  rw[hc]at Ng;exact absurd (aN Ng) (by decide)
def QW{txt:ByteArray}{T:dL}{l:List Nd}(w:World)(hc:nO txt.data.toList=(T,0,0))(hp:Ic l T)(hs:txt.size<=maxLen)(hl:0<l.length/\l.length<=1000) :
  Calls prog 14 #[.string txt] w fun e u=>∃a n c,e=.returned (.tuple #[.slice a n c,.int .i64 0,.int .i64 0])/\Hid (KJ w l (.slice a n c) u):=by
 obtain⟨LD,Tp⟩:∃LD:Nat->Value->Value->World->Prop,LD=fun gk v5 v8 wr=>∃l1 l2 ts1 tb o cap,l=l1++l2/\gk=l2.length/\v5=.slice (some ⟨tb,o,none⟩) ts1.length cap/\nT tb o cap ts1 wr/\Ic l2 ts1/\KJ w l1 v8 wr:=⟨_,rfl⟩
 have hC:Calls prog 31 #[.string txt] w fun e u=>∃a n c,e=.returned (.tuple #[.slice a n c,.int .i64 0,.int .i64 0])/\Hid (LD l.length (.slice a n c) (.slice none 0 0) u):=by
  have h:=Di txt w hs;have Jm:=WC txt.data.toList;have hG:=PY txt.data.toList T hc;rw[hc]at h Jm;simp only at h Jm;refine h.mono ?_;rintro e u⟨v1,rfl,Sm,Kz⟩
  have hT:T.length≠0:=fun h0=>by
   have:T=[]:=List.length_eq_zero_iff.1 h0;subst this
   cases l with
   |nil=>simp at hl
   |cons nd l=>obtain⟨seg,r,e,_⟩:=hp;simp at e
  rcases Sm.2 with⟨rfl,Ou⟩|⟨g,cap,cur,rfl,Wo,Ng,Wk,Xo,Rh,Oz⟩
  ·exact absurd Ou hT
  ·refine⟨_,_,_,rfl,aC ?_⟩;rw[Tp];refine⟨[],l,T,g,0,cap,rfl,rfl,rfl,⟨Jm,fun t ht=>⟨⟨?_,(hG t ht).2⟩,(hG t ht).1.1⟩,cur,Ng,Wk,Xo,fun i t hi=>?_⟩,hp,Kz,[],World.ownsRow_nil _ _ _ _,fun z _=>by simp[AB.AD]⟩
   ·have:=((hG t ht).1.2 [] (inl rfl)).1;rw[append_nil]at this;exact this
   ·have Lc:=(List.getElem?_eq_some_iff.1 hi).1;have h1:(T.map bM)[i]?=some (bM t):=by rw[List.getElem?_map,hi];rfl
    rw[<- Oz,List.getElem?_take,if_pos (by omega)]at h1;rw[Nat.zero_add,<- Array.getElem?_toList];exact h1
 have Jz:∀gk v5 v8 wr,LD gk v5 v8 wr->gk≠0->∃tb o n cap k,v5=.slice (some ⟨tb,o,none⟩) n cap/\k+1<=n/\n<=cap/\n<=4000/\cap<=9223372036854775807/\(Calls prog 32 #[.slice (some ⟨tb,o,none⟩) n cap,.string ⟨#[46]⟩] wr fun e w'=>e=.returned (.int .i64 (k:Nat))/\w'=wr) /\
   Calls prog 33 #[.slice (some ⟨tb,o,none⟩) k cap] wr fun e u=>∃b,e=.returned (aA b)/\∃y' v',(append_ #[41,41] 41 #[v8,.slice (some ⟨u.heap.size,0,none⟩) 1 1]).run prog (u.alloc (.cells #[aA b] aH))=.ok y' v'/\∀o2,(cap=k+1\/o2=o+(k+1))->Hid (LD (gk-1) (.slice (some ⟨tb,o2,none⟩) (n-(k+1)) (cap-(k+1))) y' v'):=by
  intro gk v5 v8 wr h h0;rw[Tp]at h;obtain⟨l1,l2,ts1,tb,o,cap,e1,e2,rfl,e3,e4,e5⟩:=h
  cases l2 with
  |nil=>exact absurd e2 h0
  |cons nd l2=>
   obtain⟨seg,r,rfl,hns,hd,hr⟩:=e4;obtain⟨cs,c1,c2,c3,c4⟩:=e3.own;have hln:=e3.len;have Jm:(seg++[46]::r).length=seg.length+1+r.length:=by simp;omega
   refine⟨tb,o,_,cap,seg.length,rfl,by omega,c2,hln,c3,?_,(GQ e3.take hd).mono ?_⟩
   ·have hI:=Hk e3;rw[Bc seg r 0 hns,Nat.zero_add]at hI;exact hI
   ·rintro e u⟨b,rfl,hb⟩;obtain⟨y',v',f1,f2,f3⟩:=e5.put (ty:=41) hb.out.1 hb.out.2 (by rw[e1]at hl;simp at hl;omega);refine⟨b,rfl,y',v',f1,fun o2 ho=>aC ?_⟩;rw[Tp];refine⟨l1++[nd],l2,r,tb,o2,cap-(seg.length+1),by simp[e1],by rw[e2];simp,by rw[Jm];congr 1;omega,?_,hr,f2⟩;have e3':nT tb o cap ((seg++[[46]])++r) wr:=by simpa using e3
    exact(e3'.drop (k:=seg.length+1) (by simp) o2 ho).kept fun k c f hc=>f3 k c f hc
 have Rx:∀v5 v8 wr,LD 0 v5 v8 wr->∃a c b n m,v5=.slice a 0 c/\v8=.slice b n m/\Hid (KJ w l (.slice b n m) wr):=by
  intro v5 v8 wr h;rw[Tp]at h;obtain⟨l1,l2,ts1,tb,o,cap,e1,e2,rfl,e3,e4,e5⟩:=h;obtain rfl:l2=[]:=List.length_eq_zero_iff.1 e2.symm;have e4:ts1=[]:=e4;subst e4;rw[append_nil]at e1;subst e1;obtain⟨ps,h1,_⟩:=e5.sn;rcases aD h1 with⟨rfl,_⟩|⟨g,cap,rfl⟩<;>exact⟨_,_,_,_,_,rfl,rfl,aC e5⟩
 have HC:=aC hC;have Km:=aC Jz;have Pu:=aC Rx;clear hC Jz Rx Tp hc hp hs;generalize KJ w l=AA at *;unfold aA at *;go_enter func14,ntmps14;go_wp2_with fail;refine(HC.out).mono ?_;rintro e w1⟨a,n,c,rfl,HL⟩;clear HC;go_wp2_with fail
 go_loopg [5,8] l.length (fun gk v5 v8 wr=>Hid (LD gk v5 v8 wr))
 case atStart=>exact HL
 case round=>
  clear HL
  by_cases h0:gk=0
  ·subst h0;obtain⟨a,c,b,n,m,rfl,rfl,HQ⟩:=Pu.out _ _ _ hrel.out;clear Km Pu hrel;go_wp2;exact⟨rfl,_,(by simp[results,results14,go_sem]),_,_,_,rfl,HQ⟩
  ·obtain⟨tb,o,n,cap,k,rfl,k1,k2,k3,k4,hi,hr⟩:=Km.out _ _ _ _ hrel.out h0;have HI:=aC hi;have HR:=aC hr;clear hi hr Km Pu hrel;have z0:(0:Int)<(n:Int):=by omega
   have z1:(0:Int)<=(k:Int):=by omega
   have z2:(k:Int)<=(cap:Int):=by omega
   have z3:¬(k:Int)<0:=by omega
   have z4:¬cap=0:=by omega
   have z5:(k:Int)+1<=(n:Int):=by omega
   have z6:(0:Int)<=(k:Int)+1:=by omega
   have z7:k<=4000:=by omega
   go_wp2_with fail;refine(HI.out).mono ?_;rintro e wp⟨rfl,hw⟩;rw[hw];clear hw wp HI;go_wp2_with fail;refine(HR.out).mono ?_;rintro e u⟨b,rfl,y',v',Jo,hn⟩;have HA:=aC Jo;have HN:=aC hn;clear Jo hn HR;unfold aA at *
   by_cases Oc:cap=k+1
   ·have Yn:=HN.out o (inl Oc);rw[show cap-(k+1)=0 by omega]at Yn;clear HN
    go_wp2_with (at_builtin;refine aU rfl _ _ _ rfl (by simp[Act.eval,Act.put]) (by simp[Act.eval,Act.put]) HA.out ?_)
    go_roundg (gk-1)
    case rel=>exact Yn
    case measure=>omega
   ·have Yn:=HN.out (o+(k+1)) (inr rfl);clear HN
    go_wp2_with (at_builtin;refine aU rfl _ _ _ rfl (by simp[Act.eval,Act.put]) (by simp[Act.eval,Act.put]) HA.out ?_)
    go_roundg (gk-1)
    case rel=>exact Yn
    case measure=>omega
end
end
section
open Go.RowKit
section
variable {N rb:Nat}{ts r r1 r2 r3:dL}{t x y txt:List UInt8}{nd nd1 nd2 nd3:Nd}{K:Nat}{l:List Nd}
def Eh(h:Rnz N rb K ts):FC N rb K [] ts ts:=⟨h,rfl⟩
def YI(h1:Rdz N rb K ts nd r1)(h2:FC N rb K l r1 r):FC N rb K (nd::l) ts r:=⟨_,h1,h2⟩
def Fe:Gm N rb [] ([101,110,100]::r) r:=rfl
def Ak(h1:Rdz N rb 325 ts nd r1)(h2:Gm N rb l r1 r):Gm N rb (nd::l) ([124]::ts) r:=⟨_,_,rfl,h1,h2⟩
def Ed:Gf N rb [] []:=rfl
def YE(h1:Rdz N rb 147 ts nd r1)(h2:Gf N rb l r1):Gf N rb (nd::l) ([124]::ts):=⟨_,_,rfl,h1,h2⟩
def ZN(h1:Rdz N rb 320 ts nd r1)(hs:FC N rb 320 [] r1 r)(hk:(aR (ts.headD [])==99)=false):Rdz N rb 311 ts nd r:=GW (l:=[]) hk h1 hs (by simp)
def ZM(h1:Rdz N rb 320 ts nd r1)(hs:FC N rb 320 [nd1] r1 r)(hk:(aR (ts.headD [])==99)=false):Rdz N rb 311 ts (.mk 13 [] [nd,nd1]) r:=GW (l:=[nd1]) hk h1 hs (by simp)
def ZL(h1:Rdz N rb 320 ts nd r1)(hs:FC N rb 320 [nd1,nd2] r1 r)(hk:(aR (ts.headD [])==99)=false):Rdz N rb 311 ts (.mk 13 [] [.mk 13 [] [nd,nd1],nd2]) r:=GW (l:=[nd1,nd2]) hk h1 hs (by simp)
def ZP(h1:Rdz N rb 109 r1 nd r)(hk:(aR txt==110)=true)(hx:(aR x==110)=true):Rbz N rb ([114,101,99]::txt::x::[61]::r1) 7 txt (.mk 5 x [nd]) r:=TJ (xs:=[x]) hk (by simpa using hx) (by simp) (by simp) h1
def ZO(h1:Rdz N rb 109 r1 nd r)(hk:(aR txt==110)=true)(hx:(aR x==110)=true)(hy:(aR y==110)=true):Rbz N rb ([114,101,99]::txt::x::y::[61]::r1) 7 txt (.mk 5 x [.mk 5 y [nd]]) r:=TJ (xs:=[x,y]) hk (by intro z hz;simp at hz;rcases hz with rfl|rfl<;>assumption) (by simp) (by simp) h1
def ZQ(h1:Rdz N rb 109 r1 nd r)(hn:(txt==[114,101,99])=false)(hk:(aR txt==110)=true):Rbz N rb (txt::[61]::r1) 6 txt nd r:=Ew hn hk h1
def TF{lo v1 v2:Nd}(hs:FC N rb 145 [lo] ts ([61]::r1))(h1:Rdz N rb 147 r1 v1 r2)(hv:Gf N rb [v2] r2)(hk:(aR t==110)=true):Rdz N rb 106 (t::ts) (.mk 18 t [lo,v1,v2]) []:=YY (lo:=[lo]) (l:=[v2]) hk hs h1 hv ⟨by simp,by simp⟩
def lR:List dL:=[[[116,121,112,101],[108,105,115,116],[39,97],[61],[78,105,108],[124],[67,111,110,115],[39,97],[40],[108,105,115,116],[39,97],[41]],[[108,101,116],[114,101,99],[114,101,97,100],[117],[61],[108,101,116],[99],[61],[103,101,116],[40],[41],[105,110],[105,102],[99],[60],[48],[116,104,101,110],[78,105,108],[101,108,115,101],[67,111,110,115],[99],[40],[114,101,97,100],[40],[41],[41]],[[108,101,116],[114,101,99],[105,110,115,101,114,116],[120],[108],[61],[109,97,116,99,104],[108],[119,105,116,104],[124],[78,105,108],[45,62],[67,111,110,115],[120],[78,105,108],[124],[67,111,110,115],[121],[114],[45,62],[105,102],[121],[60],[120],[116,104,101,110],[67,111,110,115],[121],[40],[105,110,115,101,114,116],[120],[114],[41],[101,108,115,101],[67,111,110,115],[120],[108],[101,110,100]],[[108,101,116],[114,101,99],[115,111,114,116],[108],[61],[109,97,116,99,104],[108],[119,105,116,104],[124],[78,105,108],[45,62],[78,105,108],[124],[67,111,110,115],[120],[114],[45,62],[105,110,115,101,114,116],[120],[40],[115,111,114,116],[114],[41],[101,110,100]],[[108,101,116],[114,101,99],[101,97,99,104],[102],[108],[61],[109,97,116,99,104],[108],[119,105,116,104],[124],[78,105,108],[45,62],[40],[41],[124],[67,111,110,115],[120],[114],[45,62],[102],[120],[59],[101,97,99,104],[102],[114],[101,110,100]],[[100,111],[101,97,99,104],[112,117,116],[40],[115,111,114,116],[40],[114,101,97,100],[40],[41],[41],[41]]]
def bO:List Nd:=[.mk 18 [108,105,115,116] [.mk 19 [97] [],.mk 20 [78,105,108] [],.mk 20 [67,111,110,115] [.mk 21 [97] [],.mk 22 [108,105,115,116] [.mk 21 [97] []]]],.mk 7 [114,101,97,100] [.mk 5 [117] [.mk 6 [99] [.mk 13 [] [.mk 3 [103,101,116] [],.mk 2 [40,41] []],.mk 8 [] [.mk 11 [60] [.mk 3 [99] [],.mk 0 [48] []],.mk 14 [78,105,108] [],.mk 14 [67,111,110,115] [.mk 3 [99] [],.mk 13 [] [.mk 3 [114,101,97,100] [],.mk 2 [40,41] []]]]]]],.mk 7 [105,110,115,101,114,116] [.mk 5 [120] [.mk 5 [108] [.mk 15 [] [.mk 3 [108] [],.mk 16 [] [.mk 14 [78,105,108] [],.mk 14 [67,111,110,115] [.mk 3 [120] [],.mk 14 [78,105,108] []]],.mk 16 [] [.mk 14 [67,111,110,115] [.mk 3 [121] [],.mk 3 [114] []],.mk 8 [] [.mk 11 [60] [.mk 3 [121] [],.mk 3 [120] []],.mk 14 [67,111,110,115] [.mk 3 [121] [],.mk 13 [] [.mk 13 [] [.mk 3 [105,110,115,101,114,116] [],.mk 3 [120] []],.mk 3 [114] []]],.mk 14 [67,111,110,115] [.mk 3 [120] [],.mk 3 [108] []]]]]]]],.mk 7 [115,111,114,116] [.mk 5 [108] [.mk 15 [] [.mk 3 [108] [],.mk 16 [] [.mk 14 [78,105,108] [],.mk 14 [78,105,108] []],.mk 16 [] [.mk 14 [67,111,110,115] [.mk 3 [120] [],.mk 3 [114] []],.mk 13 [] [.mk 13 [] [.mk 3 [105,110,115,101,114,116] [],.mk 3 [120] []],.mk 13 [] [.mk 3 [115,111,114,116] [],.mk 3 [114] []]]]]]],.mk 7 [101,97,99,104] [.mk 5 [102] [.mk 5 [108] [.mk 15 [] [.mk 3 [108] [],.mk 16 [] [.mk 14 [78,105,108] [],.mk 2 [40,41] []],.mk 16 [] [.mk 14 [67,111,110,115] [.mk 3 [120] [],.mk 3 [114] []],.mk 9 [] [.mk 13 [] [.mk 3 [102] [],.mk 3 [120] []],.mk 13 [] [.mk 13 [] [.mk 3 [101,97,99,104] [],.mk 3 [102] []],.mk 3 [114] []]]]]]]],.mk 17 [] [.mk 13 [] [.mk 13 [] [.mk 3 [101,97,99,104] [],.mk 3 [112,117,116] []],.mk 13 [] [.mk 3 [115,111,114,116] [],.mk 13 [] [.mk 3 [114,101,97,100] [],.mk 2 [40,41] []]]]]]
def sd(N rb:Nat):Rdz N rb 68 (lR[0]'(by decide)) (bO[0]'(by decide)) []/\Rdz N rb 68 (lR[1]'(by decide)) (bO[1]'(by decide)) []/\Rdz N rb 68 (lR[2]'(by decide)) (bO[2]'(by decide)) []/\Rdz N rb 68 (lR[3]'(by decide)) (bO[3]'(by decide)) []/\Rdz N rb 68 (lR[4]'(by decide)) (bO[4]'(by decide)) []/\Rdz N rb 68 (lR[5]'(by decide)) (bO[5]'(by decide)) []:=by
 refine⟨?_,?_,?_,?_,?_,?_⟩
 all_goals
  dsimp only[lR,bO,List.getElem_cons_zero,List.getElem_cons_succ]
  repeat' (first|apply TI|apply TF|apply ZF|apply Et|apply ZO|apply ZP|apply ZQ|apply Ha|apply Es|apply NT|apply NV|apply Em|apply ZB|apply ZA|apply Gz|apply ZI|apply YZ|apply TG|apply Eu|apply ZL|apply ZM|apply ZN|apply ZD|apply Ep|apply NW|apply ZK|apply NU|apply ZH|apply ZE|apply TH|apply En|apply Eo|apply ZC|apply Eh|apply YI|apply Fe|apply Ak|apply Ed|apply YE|apply YW|apply SZ|apply YV|apply Er|apply El|apply GS|apply rd_pname|apply GU|apply GN|apply ZJ|apply NR|apply ZG|apply TE|apply Ev)
  all_goals decide
end
def Dk:dL:=lR.flatMap fun s=>s++[[46]]
def YL:Ic bO Dk:=⟨_,_,rfl,by decide,fun N rb=>(sd N rb).1,_,_,rfl,by decide,fun N rb=>(sd N rb).2.1,_,_,rfl,by decide,fun N rb=>(sd N rb).2.2.1,_,_,rfl,by decide,fun N rb=>(sd N rb).2.2.2.1,_,_,rfl,by decide,fun N rb=>(sd N rb).2.2.2.2.1,_,_,rfl,by decide,fun N rb=>(sd N rb).2.2.2.2.2,rfl⟩
end
section
def Runs(m:Mach)(s:St)(m':Mach)(s':St):Prop:=∃n,∀k,jX (n+k) m s=jX k m' s'
def Runs.refl(m:Mach)(s:St):Runs m s m s:=⟨0,fun k=>by rw[Nat.zero_add]⟩
def Runs.trans{a b c:Mach}{x y z:St}(h:Runs a x b y)(k:Runs b y c z):Runs a x c z:=by
 obtain⟨n,hn⟩:=h;obtain⟨l,hl⟩:=k;exact⟨n+l,fun q=>by rw[Nat.add_assoc,hn,hl]⟩
def Runs.step{m m' m2:Mach}{s s' s2:St}(h:jQ m s=.inr (m',s'))(k:Runs m' s' m2 s2):Runs m s m2 s2:=by
 obtain⟨n,hn⟩:=k;refine⟨n+1,fun q=>?_⟩;rw[show n+1+q=(n+q)+1 by omega,jX,h];exact hn q
def Runs.ends{m m':Mach}{s s':St}{e:Nat}(h:Runs m s m' s')(he:jQ m' s'=.inl e):∃n,∀k,jX (n+k) m s=some (e,m'):=by
 obtain⟨n,hn⟩:=h;refine⟨n+1,fun k=>?_⟩;rw[show n+1+k=n+(k+1) by omega,hn,jX,he]
def FD(m:Mach)(sc:Nat)(v:RV)(outer:Nat):Prop:=m.scopes[sc-1]?=some (v,outer)
def FD.out0{m:Mach}{sc outer:Nat}{v:RV}(h:FD m sc v outer)(h0:sc≠0):m.out 0 sc=v:=by
 unfold FD at h;rw[Mach.out,if_neg h0,h];rfl
def FD.out{m:Mach}{sc outer k:Nat}{v:RV}(h:FD m sc v outer)(h0:sc≠0):m.out (k+1) sc=m.out k outer:=by
 unfold FD at h;rw[Mach.out,if_neg h0,h];rfl
def bF{m:Mach}{sc i:Nat}{nm:Nm}{k:List Fr}{v:RV}(h:m.out i sc=v)(hv:Nat.ble 9 v.tag=false:=by rfl):jQ m (ev ⟨3,i,nm,[],[]⟩ sc k)=.inr (m,St.go v k):=by
 subst h
 show (if 9<=(m.out i sc).tag then _ else _)=_;rw[if_neg (fun h=>by rw[Nat.ble_eq_true_of_le h]at hv;cases hv)];rfl
def NI{I O:Nm}{M D:Nat}{S:List (RV×Nat)}{f v:RV}{k:List Fr}(h:D≠M):jQ ⟨I,O,M,D,S⟩ (St.go v (⟨1,[],[],0,[f],[]⟩::k))=call ⟨I,O,M,D+1,S⟩ f v k:=by
 show (if D=M then _ else _)=_;rw[if_neg h];rfl
def Cv(S:List (RV×Nat))(x:RV×Nat):(S++[x])[S.length+1-1]?=some x:=by
 rw[Nat.add_sub_cancel];simp
end
section
namespace Sorter
def lN:Nm:=[108]
def xN:Nm:=[120]
def yN:Nm:=[121]
def rN:Nm:=[114]
def fN:Nm:=[102]
def uN:Nm:=[117]
def cN:Nm:=[99]
def TD:Nm:=[114,101,97,100]
def Fl:Nm:=[105,110,115,101,114,116]
def SV:Nm:=[115,111,114,116]
def VW:Nm:=[101,97,99,104]
def wM:Nm:=[78,105,108]
def lE:Nm:=[67,111,110,115]
def vr(k:Int)(nm:Nm):Cd:=⟨3,k,nm,[],[]⟩
def Jf:Cd:=⟨0,0,[48],[],[]⟩
def Hz:Cd:=⟨2,0,[40,41],[],[]⟩
def app(a b:Cd):Cd:=⟨13,0,[],[a,b],[]⟩
def con(nm:Nm)(l:List Cd):Cd:=⟨14,0,nm,l,[]⟩
def lt(a b:Cd):Cd:=⟨11,0,[60],[a,b],[]⟩
def ite(a b c:Cd):Cd:=⟨8,0,[],[a,b,c],[]⟩
def fn(nm:Nm)(c:Cd):Cd:=⟨5,0,nm,[c],[]⟩
def pcon(nm:Nm)(n:Nat):Pt:=⟨nm,n⟩
def vA:Cd:=⟨6,0,cN,[app (vr 3 sN) Hz,ite (lt (vr 0 cN) Jf) (con wM []) (con lE [vr 0 cN,app (vr 2 TD) Hz])],[]⟩
def OZ:Cd:=⟨15,0,[],[vr 0 lN,con lE [vr 1 xN,con wM []],ite (lt (vr 1 yN) (vr 3 xN)) (con lE [vr 1 yN,app (app (vr 4 Fl) (vr 3 xN)) (vr 0 rN)]) (con lE [vr 3 xN,vr 2 lN])],[pcon wM 0,pcon lE 2]⟩
def rJ:Cd:=⟨15,0,[],[vr 0 lN,con wM [],app (app (vr 4 Fl) (vr 1 xN)) (app (vr 3 SV) (vr 0 rN))],[pcon wM 0,pcon lE 2]⟩
def qH:Cd:=⟨15,0,[],[vr 0 lN,Hz,⟨9,0,[],[app (vr 3 fN) (vr 1 xN),app (app (vr 4 VW) (vr 3 fN)) (vr 0 rN)],[]⟩],[pcon wM 0,pcon lE 2]⟩
def Iy:Cd:=app (app (vr 0 VW) (vr 6 rV)) (app (vr 1 SV) (app (vr 3 TD) Hz))
def whole:Cd:=⟨7,0,TD,[fn uN vA,⟨7,0,Fl,[fn xN (fn lN OZ),⟨7,0,SV,[fn lN rJ,⟨7,0,VW,[fn fN (fn lN qH),⟨9,0,[],[Iy,⟨2,0,[],[],[]⟩],[]⟩],[]⟩],[]⟩],[]⟩],[]⟩
def base:List (RV×Nat):=[(RV.put,0),(RV.get,1),(RV.ref,2),(RV.fn vA 4,3),(RV.fn (fn lN OZ) 5,4),(RV.fn rJ 6,5),(RV.fn (fn lN qH) 7,6)]
def lat:Fr:=⟨13,[],[],0,[],[]⟩
def lst:List UInt8->RV
 |[]=>RV.data wM []
 |c::r=>RV.data lE [RV.num c.toNat,lst r]
def M(I O:Nm)(D:Nat)(X:List (RV×Nat)):Mach:=⟨I,O,4000,D,base++X⟩
def At(X:List (RV×Nat))(s:Nat)(y:RV×Nat):Prop:=s≠0/\(base++X)[s-1]?=some y
def eH(X:List (RV×Nat))(x:RV×Nat):At (X++[x]) ((base++X).length+1) x:=by
 refine⟨by omega,?_⟩;rw[<- append_assoc];exact Cv _ _
def keep{X:List (RV×Nat)}{s:Nat}{y:RV×Nat}(h:At X s y)(x:RV×Nat):At (X++[x]) s y:=by
 refine⟨h.1,?_⟩;rw[<- append_assoc,List.getElem?_append_left (List.getElem?_eq_some_iff.1 h.2).1];exact h.2
def up{I O:Nm}{D s o k:Nat}{X:List (RV×Nat)}{v:RV}(h:At X s (v,o)):(M I O D X).out (k+1) s=(M I O D X).out k o:=FD.out (m:=M I O D X) h.2 h.1
def here{I O:Nm}{D s o:Nat}{X:List (RV×Nat)}{v:RV}(h:At X s (v,o)):(M I O D X).out 0 s=v:=FD.out0 (m:=M I O D X) h.2 h.1
def wN(l:List UInt8):Nat.ble 9 (lst l).tag=false:=by cases l<;>rfl
def xT{I O:Nm}{D:Nat}{X:List (RV×Nat)}{f v:RV}{k:List Fr}(h:D<4000):jQ (M I O D X) (St.go v (⟨1,[],[],0,[f],[]⟩::k))=call (M I O (D+1) X) f v k:=NI (by omega)
def Cj{I O:Nm}{D sc:Nat}{X:List (RV×Nat)}{c:Cd}{v:RV}{k:List Fr}:call (M I O D X) (RV.fn c sc) v k=.inr (M I O D (X++[(v,sc)]),ev c ((base++X).length+1) (lat::k)):=by
 show Sum.inr ((⟨I,O,4000,D,base++X++[(v,sc)]⟩:Mach),_)=_;rw[append_assoc];rfl
def eO{I O:Nm}{D sc:Nat}{X:List (RV×Nat)}{c:Cd}{v:RV}{k:List Fr}(h:D<4000):jQ (M I O D X) (St.go v (⟨1,[],[],0,[RV.fn c sc],[]⟩::k))=.inr (M I O (D+1) (X++[(v,sc)]),ev c ((base++X).length+1) (lat::k)):=by
 rw[xT h,Cj]
def KM{I O:Nm}{D sc:Nat}{X:List (RV×Nat)}{v:RV}:(M I O D X).with v sc=((base++X).length+1,M I O D (X++[(v,sc)])):=by
 show (_,(⟨I,O,4000,D,base++X++[(v,sc)]⟩:Mach))=_;rw[append_assoc];rfl
def yO{I O:Nm}{D sc:Nat}{X:List (RV×Nat)}{b:Cd}{v:RV}{k:List Fr}:jQ (M I O D X) (St.go v (⟨2,[b],[],sc,[],[]⟩::k))=.inr (M I O D (X++[(v,sc)]),ev b ((base++X).length+1) k):=by
 show Sum.inr (((M I O D X).with v sc).2,ev b ((M I O D X).with v sc).1 k)=_;rw[KM]
def LO(a b:UInt8):RV.bool (decide ((RV.num a.toNat).n<(RV.num b.toNat).n))=RV.bool (decide (a.toNat<b.toNat)):=by
 show RV.bool (decide ((a.toNat:Int)<(b.toNat:Int)))=_;congr 1;simp
def TC:∀(I O:Nm) (D:Nat) (X:List (RV×Nat)) (s:Nat) (k:List Fr),D+2*I.length+1<=4000->At X s (RV.unit,4) ->
  ∃X',(∀t y,At X t y->At X' t y)/\Runs (M I O D X) (ev vA s k) (M [] O (D+2*I.length+1) X') (St.go (lst I) k):=by
 intro I
 induction I with
 |nil=>
  intro O D X s k hD hs;have Li:=eH X (RV.num (-1),s);refine⟨X++[(RV.num (-1),s)],fun t y h=>keep h _,?_⟩;refine Runs.step rfl ?_;refine Runs.step rfl ?_;refine Runs.step (bF (v:=RV.get) ((up hs).trans rfl)) ?_;refine Runs.step rfl ?_;refine Runs.step rfl ?_;refine Runs.step (xT (by simp at hD;omega)) ?_;refine Runs.step yO ?_;refine Runs.step rfl ?_;refine Runs.step rfl ?_;refine Runs.step (bF (v:=RV.num (-1)) (here Li)) ?_;refine Runs.step rfl ?_;refine Runs.step rfl ?_;refine Runs.step rfl ?_;refine Runs.step rfl ?_;refine Runs.step rfl ?_;exact Runs.refl _ _
 |cons c r ih=>
  intro O D X s k hD hs;rw[length_cons]at hD;have Li:=eH X (RV.num c.toNat,s);have J4:=keep hs (RV.num c.toNat,s);have Rm:=eH (X++[(RV.num c.toNat,s)]) (RV.unit,4);obtain⟨X',hX,hr⟩:=ih O (D+1+1) (X++[(RV.num c.toNat,s)]++[(RV.unit,4)]) _ (lat::⟨11,[],[],(base++X).length+1,[RV.num c.toNat],lE⟩::k) (by omega) Rm;refine⟨X',fun t y h=>hX t y (keep (keep h _) _),?_⟩;refine Runs.step rfl ?_;refine Runs.step rfl ?_;refine Runs.step (bF (v:=RV.get) ((up hs).trans rfl)) ?_;refine Runs.step rfl ?_;refine Runs.step rfl ?_;refine Runs.step (xT (by omega)) ?_;refine Runs.step (m':=M r O (D+1) (X++[(RV.num c.toNat,s)])) yO ?_;refine Runs.step rfl ?_;refine Runs.step rfl ?_;refine Runs.step (bF (v:=RV.num c.toNat) (here Li)) ?_;refine Runs.step rfl ?_;refine Runs.step rfl ?_;refine Runs.step rfl ?_
  have Js:RV.bool (decide ((RV.num c.toNat).n<(RV.num 0).n))=RV.bool false:=by
   show RV.bool (decide ((c.toNat:Int)<0))=_;rw[show decide ((c.toNat:Int)<0)=false by simp]
  show Runs _ (St.go (RV.bool (decide ((RV.num c.toNat).n<(RV.num 0).n))) _) _ _;rw[Js];refine Runs.step rfl ?_;refine Runs.step rfl ?_;refine Runs.step (bF (v:=RV.num c.toNat) (here Li)) ?_;refine Runs.step rfl ?_;refine Runs.step rfl ?_;refine Runs.step (bF (v:=RV.fn vA 4) ((up Li).trans ((up J4).trans rfl))) ?_;refine Runs.step rfl ?_;refine Runs.step rfl ?_;refine Runs.step (eO (by omega)) ?_;refine hr.trans ?_;refine Runs.step rfl ?_;refine Runs.step rfl ?_;rw[length_cons,show D+1+1+2*r.length+1=D+2*(r.length+1)+1 by omega];exact Runs.refl _ _
def pN(x:UInt8):List UInt8->List UInt8
 |[]=>[x]
 |y::r=>if y.toNat<x.toNat then y::pN x r else x::y::r
def rH{I O:Nm}{D sc:Nat}{X:List (RV×Nat)}{a b:Cd}{k:List Fr}:jQ (M I O D X) (St.go (lst []) (⟨12,[a,b],[pcon wM 0,pcon lE 2],sc,[],[]⟩::k))=.inr (M I O D X,ev a sc k):=rfl
def mJ{I O:Nm}{D sc:Nat}{X:List (RV×Nat)}{a b:Cd}{c:UInt8}{l:List UInt8}{k:List Fr}:jQ (M I O D X) (St.go (lst (c::l)) (⟨12,[a,b],[pcon wM 0,pcon lE 2],sc,[],[]⟩::k))=.inr (M I O D (X++[(RV.num c.toNat,sc)]++[(lst l,(base++X).length+1)]),ev b ((base++(X++[(RV.num c.toNat,sc)])).length+1) k):=by
 show Sum.inr (((M I O D X).withs sc [RV.num c.toNat,lst l]).2,ev b ((M I O D X).withs sc [RV.num c.toNat,lst l]).1 k)=_;rw[Mach.withs,KM];simp only;rw[Mach.withs,KM];rfl
def Ax(x:UInt8):∀(L:List UInt8) (I O:Nm) (D:Nat) (X:List (RV×Nat)) (sx s:Nat) (k:List Fr),D+2*L.length<=4000->At X sx (RV.num x.toNat,5)->At X s (lst L,sx) ->
  ∃X' D',D<=D'/\D'<=D+2*L.length/\(∀t y,At X t y->At X' t y)/\Runs (M I O D X) (ev OZ s k) (M I O D' X') (St.go (lst (pN x L)) k):=by
 intro L
 induction L with
 |nil=>
  intro I O D X sx s k hD hx hs;refine⟨X,D,le_refl _,Nat.le_add_right _ _,fun _ _ h=>h,?_⟩;refine Runs.step rfl ?_;refine Runs.step (bF (v:=lst []) (here hs)) ?_;refine Runs.step rH ?_;refine Runs.step rfl ?_;refine Runs.step (bF (v:=RV.num x.toNat) ((up hs).trans (here hx))) ?_;refine Runs.step rfl ?_;refine Runs.step rfl ?_;refine Runs.step rfl ?_;exact Runs.refl _ _
 |cons y r ih=>
  intro I O D X sx s k hD hx hs;rw[length_cons]at hD;have Rk:=keep (keep hx (RV.num y.toNat,s)) (lst r,(base++X).length+1);have Li:=keep (keep hs (RV.num y.toNat,s)) (lst r,(base++X).length+1);have Tz:=keep (eH X (RV.num y.toNat,s)) (lst r,(base++X).length+1);have Nk:=eH (X++[(RV.num y.toNat,s)]) (lst r,(base++X).length+1)
  by_cases Js:y.toNat<x.toNat
  ·have Pl:=eH (X++[(RV.num y.toNat,s)]++[(lst r,(base++X).length+1)]) (RV.num x.toNat,5);have Rr:=keep Pl (lst r,(base++(X++[(RV.num y.toNat,s)]++[(lst r,(base++X).length+1)])).length+1);have F4:=eH (X++[(RV.num y.toNat,s)]++[(lst r,(base++X).length+1)]++[(RV.num x.toNat,5)]) (lst r,(base++(X++[(RV.num y.toNat,s)]++[(lst r,(base++X).length+1)])).length+1);obtain⟨X',D',h1,h2,h3,h4⟩:=ih I O (D+1+1) _ _ _ (lat::⟨11,[],[],(base++(X++[(RV.num y.toNat,s)])).length+1,[RV.num y.toNat],lE⟩::k) (by omega) Rr F4;refine⟨X',D',by omega,by rw[length_cons];omega,fun t z h=>h3 t z (keep (keep (keep (keep h _) _) _) _),?_⟩;refine Runs.step rfl ?_;refine Runs.step (bF (v:=lst (y::r)) (here hs)) ?_;refine Runs.step mJ ?_;refine Runs.step rfl ?_;refine Runs.step rfl ?_;refine Runs.step (bF (v:=RV.num y.toNat) ((up Nk).trans (here Tz))) ?_;refine Runs.step rfl ?_;refine Runs.step (bF (v:=RV.num x.toNat) ((up Nk).trans ((up Tz).trans ((up Li).trans (here Rk))))) ?_;refine Runs.step rfl ?_
   show Runs _ (St.go (RV.bool (decide ((RV.num y.toNat).n<(RV.num x.toNat).n))) _) _ _;rw[LO,decide_eq_true Js];refine Runs.step rfl ?_;refine Runs.step rfl ?_;refine Runs.step (bF (v:=RV.num y.toNat) ((up Nk).trans (here Tz))) ?_;refine Runs.step rfl ?_;refine Runs.step rfl ?_;refine Runs.step rfl ?_;refine Runs.step (bF (v:=RV.fn (fn lN OZ) 5) ((up Nk).trans ((up Tz).trans ((up Li).trans ((up Rk).trans rfl))))) ?_;refine Runs.step rfl ?_;refine Runs.step (bF (v:=RV.num x.toNat) ((up Nk).trans ((up Tz).trans ((up Li).trans (here Rk))))) ?_;refine Runs.step (eO (by omega)) ?_;refine Runs.step rfl ?_;refine Runs.step rfl ?_;refine Runs.step rfl ?_;refine Runs.step (bF (v:=lst r) (here (keep Nk _)) (wN r)) ?_;refine Runs.step (eO (by omega)) ?_;refine h4.trans ?_;refine Runs.step rfl ?_;refine Runs.step rfl ?_;rw[pN,if_pos Js];exact Runs.refl _ _
  ·refine⟨X++[(RV.num y.toNat,s)]++[(lst r,(base++X).length+1)],D,le_refl _,Nat.le_add_right _ _,fun t z h=>keep (keep h _) _,?_⟩;refine Runs.step rfl ?_;refine Runs.step (bF (v:=lst (y::r)) (here hs)) ?_;refine Runs.step mJ ?_;refine Runs.step rfl ?_;refine Runs.step rfl ?_;refine Runs.step (bF (v:=RV.num y.toNat) ((up Nk).trans (here Tz))) ?_;refine Runs.step rfl ?_;refine Runs.step (bF (v:=RV.num x.toNat) ((up Nk).trans ((up Tz).trans ((up Li).trans (here Rk))))) ?_;refine Runs.step rfl ?_
   show Runs _ (St.go (RV.bool (decide ((RV.num y.toNat).n<(RV.num x.toNat).n))) _) _ _;rw[LO,decide_eq_false Js];refine Runs.step rfl ?_;refine Runs.step rfl ?_;refine Runs.step (bF (v:=RV.num x.toNat) ((up Nk).trans ((up Tz).trans ((up Li).trans (here Rk))))) ?_;refine Runs.step rfl ?_;refine Runs.step (bF (v:=lst (y::r)) ((up Nk).trans ((up Tz).trans (here Li)))) ?_;refine Runs.step rfl ?_;rw[pN,if_neg Js];exact Runs.refl _ _
def sortL:List UInt8->List UInt8
 |[]=>[]
 |x::r=>pN x (sortL r)
def UX(x:UInt8):∀l,(pN x l).length=l.length+1:=by
 intro l
 induction l with
 |nil=>rfl
 |cons y r ih=>rw[pN];split<;>simp[ih]
def sortL_len:∀l,(sortL l).length=l.length:=by
 intro l
 induction l with
 |nil=>rfl
 |cons x r ih=>rw[sortL,UX,ih];rfl
def cost:Nat->Nat
 |0=>0
 |n+1=>cost n+2*n+3
def SR:∀(L:List UInt8) (I O:Nm) (D:Nat) (X:List (RV×Nat)) (s:Nat) (k:List Fr),D+cost L.length<=4000->At X s (lst L,6) ->
  ∃X' D',D<=D'/\D'<=D+cost L.length/\(∀t y,At X t y->At X' t y)/\Runs (M I O D X) (ev rJ s k) (M I O D' X') (St.go (lst (sortL L)) k):=by
 intro L
 induction L with
 |nil=>
  intro I O D X s k hD hs;refine⟨X,D,le_refl _,Nat.le_add_right _ _,fun _ _ h=>h,?_⟩;refine Runs.step rfl ?_;refine Runs.step (bF (v:=lst []) (here hs)) ?_;refine Runs.step rH ?_;refine Runs.step rfl ?_;exact Runs.refl _ _
 |cons x r ih=>
  intro I O D X s k hD hs;rw[length_cons,cost]at hD;have Li:=keep (keep hs (RV.num x.toNat,s)) (lst r,(base++X).length+1);have Rk:=keep (eH X (RV.num x.toNat,s)) (lst r,(base++X).length+1);have Nk:=eH (X++[(RV.num x.toNat,s)]) (lst r,(base++X).length+1);generalize d7:X++[(RV.num x.toNat,s)]++[(lst r,(base++X).length+1)]=X1 at *;generalize J3:(base++(X++[(RV.num x.toNat,s)])).length+1=s3 at *;have Pl:=eH X1 (RV.num x.toNat,5);have Nc:=keep Nk (RV.num x.toNat,5);have m9:=keep Rk (RV.num x.toNat,5);have t6:=keep Li (RV.num x.toNat,5);have Rr:=keep Pl (lst r,6);have J5:=eH (X1++[(RV.num x.toNat,5)]) (lst r,6);obtain⟨X4,D4,h1,h2,h3,h4⟩:=ih I O (D+1+1) _ _ (lat::⟨1,[],[],0,[RV.fn OZ ((base++X1).length+1)],[]⟩::k) (by omega) J5;have hx4:=h3 _ _ Rr;have hx5:=keep hx4 (lst (sortL r),(base++X1).length+1);have hl5:=eH X4 (lst (sortL r),(base++X1).length+1);obtain⟨X6,D6,g1,g2,g3,g4⟩:=Ax x (sortL r) I O (D4+1) _ _ _ (lat::k) (by rw[sortL_len];omega) hx5 hl5;rw[sortL_len]at g2;refine⟨X6,D6,by omega,by rw[length_cons,cost];omega,fun t z h=>?_,?_⟩
  ·refine g3 t z (keep (h3 t z (keep (keep ?_ _) _)) _);rw[<- d7];exact keep (keep h _) _
  ·refine Runs.step rfl ?_;refine Runs.step (bF (v:=lst (x::r)) (here hs)) ?_;refine Runs.step mJ ?_
   show Runs (M I O D (X++[(RV.num x.toNat,s)]++[(lst r,(base++X).length+1)])) (ev _ ((base++(X++[(RV.num x.toNat,s)])).length+1) k) _ _;rw[d7,J3];refine Runs.step rfl ?_;refine Runs.step rfl ?_;refine Runs.step (bF (v:=RV.fn (fn lN OZ) 5) ((up Nk).trans ((up Rk).trans ((up Li).trans rfl)))) ?_;refine Runs.step rfl ?_;refine Runs.step (bF (v:=RV.num x.toNat) ((up Nk).trans (here Rk))) ?_;refine Runs.step (eO (by omega)) ?_;refine Runs.step rfl ?_;refine Runs.step rfl ?_;refine Runs.step rfl ?_;refine Runs.step rfl ?_;refine Runs.step (bF (v:=RV.fn rJ 6) ((up Nc).trans ((up m9).trans ((up t6).trans rfl)))) ?_;refine Runs.step rfl ?_;refine Runs.step (bF (v:=lst r) (here Nc) (wN r)) ?_;refine Runs.step (eO (by omega)) ?_;refine h4.trans ?_;refine Runs.step rfl ?_;refine Runs.step (eO (by omega)) ?_;refine g4.trans ?_;refine Runs.step rfl ?_;exact Runs.refl _ _
def QH(c:UInt8):UInt8.ofNat (((c.toNat:Int)) % 256).toNat=c:=by
 have h:c.toNat<256:=c.toNat_lt;rw[show (((c.toNat:Int)) % 256).toNat=c.toNat by omega];simp
def Hv{I O:Nm}{D:Nat}{X:List (RV×Nat)}{c:UInt8}{k:List Fr}(h:D<4000):jQ (M I O D X) (St.go (RV.num c.toNat) (⟨1,[],[],0,[RV.put],[]⟩::k))=.inr (M I (O++[c]) (D+1) X,St.go RV.unit k):=by
 rw[xT h]
 show Sum.inr (M I (O++[UInt8.ofNat (((c.toNat:Int)) % 256).toNat]) (D+1) X,_)=_;rw[QH]
def VV:∀(L:List UInt8) (I O:Nm) (D:Nat) (X:List (RV×Nat)) (sf s:Nat) (k:List Fr),D+3*L.length<=4000->At X sf (RV.put,7)->At X s (lst L,sf) ->
  ∃X',Runs (M I O D X) (ev qH s k) (M I (O++L) (D+3*L.length) X') (St.go RV.unit (List.replicate L.length lat++k)):=by
 intro L
 induction L with
 |nil=>
  intro I O D X sf s k hD hf hs;refine⟨X,?_⟩;refine Runs.step rfl ?_;refine Runs.step (bF (v:=lst []) (here hs)) ?_;refine Runs.step rH ?_;refine Runs.step rfl ?_;rw[append_nil];exact Runs.refl _ _
 |cons x r ih=>
  intro I O D X sf s k hD hf hs;rw[length_cons]at hD;have Li:=keep (keep hs (RV.num x.toNat,s)) (lst r,(base++X).length+1);have Wc:=keep (keep hf (RV.num x.toNat,s)) (lst r,(base++X).length+1);have Rk:=keep (eH X (RV.num x.toNat,s)) (lst r,(base++X).length+1);have Nk:=eH (X++[(RV.num x.toNat,s)]) (lst r,(base++X).length+1);generalize d7:X++[(RV.num x.toNat,s)]++[(lst r,(base++X).length+1)]=X1 at *;generalize J3:(base++(X++[(RV.num x.toNat,s)])).length+1=s3 at *;have Wa:=eH X1 (RV.put,7);have Nc:=keep Nk (RV.put,7);have hf3:=keep Wa (lst r,(base++X1).length+1);have J5:=eH (X1++[(RV.put,7)]) (lst r,(base++X1).length+1);obtain⟨X',h4⟩:=ih I (O++[x]) (D+1+1+1) _ _ _ (lat::k) (by omega) hf3 J5;refine⟨X',?_⟩;refine Runs.step rfl ?_;refine Runs.step (bF (v:=lst (x::r)) (here hs)) ?_;refine Runs.step mJ ?_
  show Runs (M I O D (X++[(RV.num x.toNat,s)]++[(lst r,(base++X).length+1)])) (ev _ ((base++(X++[(RV.num x.toNat,s)])).length+1) k) _ _;rw[d7,J3];refine Runs.step rfl ?_;refine Runs.step rfl ?_;refine Runs.step (bF (v:=RV.put) ((up Nk).trans ((up Rk).trans ((up Li).trans (here Wc))))) ?_;refine Runs.step rfl ?_;refine Runs.step (bF (v:=RV.num x.toNat) ((up Nk).trans (here Rk))) ?_;refine Runs.step (Hv (by omega)) ?_;refine Runs.step rfl ?_;refine Runs.step rfl ?_;refine Runs.step rfl ?_;refine Runs.step (bF (v:=RV.fn (fn lN qH) 7) ((up Nk).trans ((up Rk).trans ((up Li).trans ((up Wc).trans rfl))))) ?_;refine Runs.step rfl ?_;refine Runs.step (bF (v:=RV.put) ((up Nk).trans ((up Rk).trans ((up Li).trans (here Wc))))) ?_;refine Runs.step (eO (by omega)) ?_;refine Runs.step rfl ?_;refine Runs.step rfl ?_;refine Runs.step rfl ?_;refine Runs.step (bF (v:=lst r) (here Nc) (wN r)) ?_;refine Runs.step (eO (by omega)) ?_;have e1:O++[x]++r=O++x::r:=by simp
  have e2:D+1+1+1+3*r.length=D+3*(x::r).length:=by rw[length_cons];omega
  have e3:List.replicate r.length lat++lat::k=List.replicate (x::r).length lat++k:=by
   rw[length_cons,List.replicate_succ',append_assoc];rfl
  rw[e1,e2,e3]at h4;exact h4
def lats{m:Mach}{v:RV}{k:List Fr}:∀n,Runs m (St.go v (List.replicate n lat++k)) m (St.go v k):=by
 intro n
 induction n with
 |zero=>exact Runs.refl _ _
 |succ n ih=>rw[List.replicate_succ,cons_append];exact Runs.step rfl ih
def Cb{n:Nat}(h:n<=24):cost n<=700:=by
 have:∀n,cost n<=cost (n+1):=fun n=>by rw[cost];omega
 have mono:∀d n,cost n<=cost (n+d):=fun d=>by
  induction d with
  |zero=>intro n;exact le_refl _
  |succ d ih=>intro n;exact le_trans (ih n) (this _)
 have h2:=mono (24-n) n;rw[show n+(24-n)=24 by omega]at h2;exact le_trans h2 (by decide)
def run(I:Nm)(h:I.length<=24):∃n m,(∀k,jX (n+k) (rI I 4000) (ev whole 3 [])=some (0,m))/\m.output=sortL I:=by
 have hcost:=Cb h;have C3:=eH [] (RV.put,7);have hu:=eH [(RV.put,7)] (RV.unit,4);obtain⟨X1,k1,r1⟩:=TC I [] 2 [(RV.put,7),(RV.unit,4)] 9 [lat,⟨1,[],[],0,[RV.fn rJ 6],[]⟩,⟨1,[],[],0,[RV.fn qH 8],[]⟩,⟨5,[⟨2,0,[],[],[]⟩],[],7,[],[]⟩] (by omega) hu;have hl:=eH X1 (lst I,6);obtain⟨X2,D2,d1,d2,k2,r2⟩:=SR I [] [] (2+2*I.length+1+1) (X1++[(lst I,6)]) _ [lat,⟨1,[],[],0,[RV.fn qH 8],[]⟩,⟨5,[⟨2,0,[],[],[]⟩],[],7,[],[]⟩] (by omega) hl;have Wc:At X2 8 (RV.put,7):=k2 8 _ (keep (k1 8 _ ⟨by decide,rfl⟩) _);have Mb:=eH X2 (lst (sortL I),8);obtain⟨X3,r3⟩:=VV (sortL I) [] [] (D2+1) (X2++[(lst (sortL I),8)]) 8 _ [lat,⟨5,[⟨2,0,[],[],[]⟩],[],7,[],[]⟩] (by rw[sortL_len];omega) (keep Wc _) Mb
 have h0:Runs (rI I 4000) (ev whole 3 []) (M I [] 2 [(RV.put,7),(RV.unit,4)]) (ev vA 9 [lat,⟨1,[],[],0,[RV.fn rJ 6],[]⟩,⟨1,[],[],0,[RV.fn qH 8],[]⟩,⟨5,[⟨2,0,[],[],[]⟩],[],7,[],[]⟩]):=by
  iterate 13 refine Runs.step rfl ?_
  show Runs (M I [] 0 []) (ev Iy 7 [⟨5,[⟨2,0,[],[],[]⟩],[],7,[],[]⟩]) _ _;refine Runs.step rfl ?_;refine Runs.step rfl ?_;refine Runs.step (bF (v:=RV.fn (fn lN qH) 7) rfl) ?_;refine Runs.step rfl ?_;refine Runs.step (bF (v:=RV.put) rfl) ?_;refine Runs.step (eO (by omega)) ?_;refine Runs.step rfl ?_;refine Runs.step rfl ?_;refine Runs.step rfl ?_;refine Runs.step rfl ?_;refine Runs.step (bF (v:=RV.fn rJ 6) rfl) ?_;refine Runs.step rfl ?_;refine Runs.step rfl ?_;refine Runs.step (bF (v:=RV.fn vA 4) rfl) ?_;refine Runs.step rfl ?_;refine Runs.step rfl ?_;refine Runs.step (eO (by omega)) ?_;exact Runs.refl _ _
 have h1:=(h0.trans r1).trans (Runs.step rfl (Runs.step (eO (by omega)) (r2.trans (Runs.step rfl (Runs.step (eO (by omega)) (r3.trans ((lats _).trans (Runs.step rfl (Runs.step rfl (Runs.step rfl (Runs.refl _ _)))))))))));obtain⟨n,hn⟩:=h1.ends rfl;exact⟨n,_,hn,rfl⟩
end Sorter
end
section
def Fz:Nat->Cd->Cd->Bool
 |0,_,_=>false
 |n+1,a,b=>a.op==b.op && a.n==b.n && a.nm==b.nm && a.pts.map (fun p=>(p.nm,p.n))==b.pts.map (fun p=>(p.nm,p.n)) && a.ps.length==b.ps.length && (a.ps.zip b.ps).all fun p=>Fz n p.1 p.2
def ZR:∀(l k:List Pt),l.map (fun p=>(p.nm,p.n))=k.map (fun p=>(p.nm,p.n))->l=k:=by
 intro l
 induction l with
 |nil=>intro k h;cases k with|nil=>rfl|cons=>simp at h
 |cons a r ih=>
  intro k h
  cases k with
  |nil=>simp at h
  |cons b k=>
   obtain⟨a1,a2⟩:=a;obtain⟨b1,b2⟩:=b;simp only[map_cons,List.cons.injEq,Prod.mk.injEq]at h;obtain⟨⟨rfl,rfl⟩,h⟩:=h;rw[ih k h]
def Cg:∀(n:Nat)(a b:Cd),Fz n a b=true->a=b:=by
 intro n
 induction n with
 |zero=>intro a b h;cases h
 |succ n ih=>
  intro a b h;obtain⟨a1,a2,a3,a4,a5⟩:=a;obtain⟨b1,b2,b3,b4,b5⟩:=b;simp only[Fz,Bool.and_eq_true,beq_iff_eq]at h;obtain⟨⟨⟨⟨⟨rfl,rfl⟩,rfl⟩,hp⟩,hl⟩,hz⟩:=h;have hp:=ZR _ _ hp
  have:a4=b4:=by
   refine List.ext_getElem hl fun i h1 h2=>?_;have:=List.all_eq_true.1 hz (a4[i],b4[i]) (List.mem_iff_getElem.2 ⟨i,by simp;omega,by simp⟩);exact ih _ _ this
  rw[this,hp]
def NK:eX [gP,sN,rV] bO=Sorter.whole:=Cg 40 _ _ (by decide +kernel)
def YN:Dl [gP,sN,rV] bO=true:=by decide +kernel
end
end Go.Proofs.YthakgdfmbknakaaGreatDoor
