import Derived.Test.YthakgdfmbknakaaGreatDoorC2
import Derived.Deep.RegionHeld2
import Derived.Deep.RegionWith
import Derived.Deep.RegionLaw
import Derived.Deep.RegionHeld3
set_option linter.all false
set_option maxHeartbeats 40000000
set_option maxRecDepth 100000
open Go.Proofs.Tryz
open Or (inl inr)
open Nat (le_refl le_trans)
open List (append_nil length_append length_cons mem_append mem_singleton append_assoc mem_cons length_nil map_cons)
namespace Go.Proofs.YthakgdfmbknakaaGreatDoor
open World (cell? setCell)
open Builtin (append_ zeroCells)
open St (ev)
open Go.RowKit
section
variable {B mb:Nat}{sa:List Nat}{m:Mach}{w u:World}
structure KZ(B:Nat)(w u:World):Prop where
 kr:KR B w u
 rows:∀(b:Nat)(c:Array Value)(f:Nat×Nat),w.heap[b]?=some (.cells c bL f)->u.heap[b]?=w.heap[b]?
def KZ.refl(B:Nat)(w:World):KZ B w w:=⟨.refl B w,fun _ _ _ _=>rfl⟩
def KZ.trans{a b c:World}(h:KZ B a b)(k:KZ B b c):KZ B a c:=⟨h.kr.trans k.kr,fun i x f hx=>by
 have h1:=h.rows i x f hx
 rw[k.rows i x f (h1.trans hx),h1]⟩
def KZ.more(hs:w.heap.size<=u.heap.size)(e:∀k,k<w.heap.size->u.heap[k]?=w.heap[k]?)(so:eS u w):KZ B w u:=⟨.same hs (fun k _ _ _ _ hc=>e k (aB hc)) (fun k _ hl=>e k hl) so,fun k _ _ hc=>e k (aB hc)⟩
def KZ.heap{a:World}(h:KZ B a w)(e:HEq u w):KZ B a u:=h.trans (.more (by rw[e.heap];exact le_refl _) (fun k _=>by rw[e.heap]) e.so)
def KZ.push{a:World}{o:Obj}(h:KZ B a w)(e:PEq u w o):KZ B a u:=h.trans (.more (by rw[bP e];omega) (fun k hk=>aS e hk) e.so)
def KZ.turn{a:World}{b:Nat}{c:Array Value}{t:TypeId}{f:Nat×Nat}(h:KZ B a w)(hB:B<=b)(hb:w.heap[b]?=some (.cells c t f))(ht:¬Fixed t)(hv:t≠bL)(hs:u.heap.size=w.heap.size)(e:∀k,k≠b->u.heap[k]?=w.heap[k]?)(so:eS u w):KZ B a u:=
 h.trans ⟨(KR.refl B w).turn hB hb ht hv hs e so,fun k _ _ hc=>e k fun hk=>by subst hk;rw[hb]at hc;exact hv (aN hc)⟩
def VM.stay(hk:KR B w u){r:RV}{v:Value}(h:VM mb sa w r v):VM mb sa u r v:=by
 have:=h.kept hk [];rw[append_nil]at this;exact this
def VM0.stay(hk:KR B w u){r:RV}{v:Value}(h:VM0 mb sa w r v):VM0 mb sa u r v:=by
 have:=h.kept hk [];rw[append_nil]at this;exact this
def lF.app(hk:KZ B w u)(l:List Nat){ow:List Nat}{k:List Fr}{v:Value}(h:lF B mb sa w ow k v):lF B mb (sa++l) u ow k v:=lF.kept hk.kr l k ow v (fun b _ c f hc=>hk.rows b c f hc) h
def lF.stay(hk:KZ B w u){ow:List Nat}{k:List Fr}{v:Value}(h:lF B mb sa w ow k v):lF B mb sa u ow k v:=by
 have:=h.app hk [];rw[append_nil]at this;exact this
def RM.DQ(h:RM B mb sa m w){b:Nat}(hb:b∈sa):b<w.heap.size:=by
 obtain⟨i,hi,rfl⟩:=List.mem_iff_getElem.1 hb;have hl:i<m.scopes.length:=by rw[<- h.slen];exact hi
 obtain⟨b,x,ov,h1,h2,_⟩:=h.scope i m.scopes[i].1 m.scopes[i].2 (List.getElem?_eq_getElem hl);rw[List.getElem?_eq_getElem hi]at h1;cases h1;exact aB h2
def RM.more(h:RM B mb sa m w)(hs:w.heap.size<=u.heap.size)(e:∀k,k<w.heap.size->u.heap[k]?=w.heap[k]?)(so:eS u w):RM B mb sa m u:=by
 have hk:KZ B w u:=KZ.more hs e so;obtain⟨ov,h1,h2⟩:=h.mach;refine⟨⟨ov,(e _ (aB h1)).trans h1,aE h2 fun k c f _ hc=>e k (aB hc)⟩,h.slen,h.sdis,fun i v o hi=>?_,h.inp,h.out,h.don,h.mst,h.lowm,h.lows,le_trans h.lowb hs⟩;obtain⟨b,x,ov,h1,h2,h3,h4⟩:=h.scope i v o hi;exact⟨b,x,ov,h1,(e _ (aB h2)).trans h2,h3.stay hk.kr,h4⟩
def RM.heap(h:RM B mb sa m w)(e:HEq u w):RM B mb sa m u:=h.more (by rw[e.heap];exact le_refl _) (fun k _=>by rw[e.heap]) e.so
def RM.push(h:RM B mb sa m w){o:Obj}(e:PEq u w o):RM B mb sa m u:=h.more (by rw[bP e];omega) (fun k hk=>aS e hk) e.so
def RM.with(h:RM B mb sa m w){v:RV}{x sv:Value}{sc:Nat}(hv:VM0 mb sa w v x)(ho:tS sa sc sv)(e:PEq u w (.cells #[x,sv] bD (0,0))):RM B mb (sa++[w.heap.size]) (m.with v sc).2 u:=by
 have hp:=h.push e;have hk:KR B w u:=(KR.refl B w).push e;refine⟨hp.mach,?_,?_,fun i v' o hi=>?_,h.inp,h.out,h.don,h.mst,h.lowm,fun b hb=>?_,hp.lowb⟩
 rotate_right
 ·rcases mem_append.1 hb with hb|hb
  ·exact h.lows b hb
  ·rw[mem_singleton.1 hb];exact h.lowb
 ·show (sa++[w.heap.size]).length=(m.scopes++[(v,sc)]).length;simp[h.slen]
 ·rw[List.nodup_append];refine⟨h.sdis,by simp,fun a ha b hb=>?_⟩;rw[mem_singleton]at hb;subst hb;have:=h.DQ ha;omega
 ·replace hi:(m.scopes++[(v,sc)])[i]?=some (v',o):=hi
  by_cases hl:i<m.scopes.length
  ·rw[List.getElem?_append_left hl]at hi;obtain⟨b,x',ov,h1,h2,h3,h4⟩:=hp.scope i v' o hi;exact⟨b,x',ov,by rw[List.getElem?_append_left (by rw[h.slen];exact hl)];exact h1,h2,h3.kept (KR.refl B u) [w.heap.size],h4.app _⟩
  ·have hi':i=m.scopes.length:=by
    have:=(List.getElem?_eq_some_iff.1 hi).1;simp at this;omega
   subst hi';simp at hi;obtain⟨rfl,rfl⟩:=hi;exact⟨w.heap.size,x,sv,by rw[<- h.slen];simp,bT e,hv.kept hk [w.heap.size],ho.app _⟩
def TY{l:List Nat}(h:l.Nodup){i j a:Nat}(hi:l[i]?=some a)(hj:l[j]?=some a):i=j:=by
 obtain⟨h1,h2⟩:=List.getElem?_eq_some_iff.1 hi;obtain⟨h3,h4⟩:=List.getElem?_eq_some_iff.1 hj;have hp:=List.pairwise_iff_getElem.1 h;rcases Nat.lt_trichotomy i j with hl|hl|hl
 ·exact absurd (h2.trans h4.symm) (hp i j h1 h3 hl)
 ·exact hl
 ·exact absurd (h4.trans h2.symm) (hp j i h3 h1 hl)
def RM.fill(h:RM B mb sa m w){v:RV}{x x0 ov:Value}{i b:Nat}(hv:VM mb sa w v x)(hb:sa[i]?=some b)(h0:w.heap[b]?=some (.cells #[x0,ov] bD (0,0)))(hs:u.heap.size=w.heap.size)(e:∀k,k≠b->u.heap[k]?=w.heap[k]?)(e0:u.heap[b]?=some (.cells #[x,ov] bD (0,0)))(so:eS u w) :
  KZ B w u/\RM B mb sa { m with scopes:=m.scopes.modify i (fun p=>(v,p.2)) } u:=by
 have hk:KZ B w u:=(KZ.refl B w).turn (h.lows b (List.mem_of_getElem? hb)) h0 (fun hf=>hf.1 rfl) (by decide) hs e so;obtain⟨o2,h1,h2⟩:=h.mach;refine⟨hk,⟨o2,(e mb fun q=>by subst q;rw[h0]at h1;exact absurd (aN h1) (by decide)).trans h1,aE h2 fun k c f _ hc=>e k fun q=>by subst q;rw[h0]at hc;exact absurd (aN hc) (by decide)⟩,by rw[List.length_modify];exact h.slen,h.sdis,fun j v' o hj=>?_,h.inp,h.out,h.don,h.mst,h.lowm,h.lows,by rw[hs];exact h.lowb⟩
 replace hj:(m.scopes.modify i (fun p=>(v,p.2)))[j]?=some (v',o):=hj
 rw[List.getElem?_modify]at hj
 cases hq:m.scopes[j]? with
 |none=>rw[hq]at hj;cases hj
 |some p=>
  rw[hq]at hj;obtain⟨b',x',ov',q1,q2,q3,q4⟩:=h.scope j p.1 p.2 hq
  by_cases Qy:i=j
  ·subst Qy;simp at hj;obtain⟨rfl,rfl⟩:=hj;rw[hb]at q1;cases q1;rw[h0]at q2;have:ov'=ov:=by simp at q2;exact q2.2.symm
   subst this;exact⟨b,x,ov',hb,e0,inl (hv.stay hk.kr),q4⟩
  ·simp[Qy]at hj;subst hj;exact⟨b',x',ov',q1,(e b' fun q=>Qy (TY h.sdis hb (q ▸ q1))).trans q2,q3.stay hk.kr,q4⟩
def RM.other(h:RM B mb sa m w)(hk:KR B w u)(e:∀(k:Nat)(c:Array Value)(t:TypeId)(f:Nat×Nat),t=bD\/t=dJ\/t=kF->w.heap[k]?=some (.cells c t f)->u.heap[k]?=w.heap[k]?):RM B mb sa m u:=by
 obtain⟨ov,h1,h2⟩:=h.mach;refine⟨⟨ov,(e _ _ _ _ (inr (inl rfl)) h1).trans h1,aE h2 fun k c f _ hc=>e k c _ f (inr (inr rfl)) hc⟩,h.slen,h.sdis,fun i v o hi=>?_,h.inp,h.out,h.don,h.mst,h.lowm,h.lows,le_trans h.lowb hk.size⟩;obtain⟨b,x,ov,h1,h2,h3,h4⟩:=h.scope i v o hi;exact⟨b,x,ov,h1,(e b _ _ _ (inl rfl) h2).trans h2,h3.stay hk,h4⟩
def RM.field(h:RM B mb sa m w){m':Mach}{ov:Value}(hk:KR B w u)(Xb:m'.scopes=m.scopes)(h1:u.heap[mb]?=some (.cells #[.string (bs m'.input),ov,.int .i64 m'.most,.int .i64 m'.done] dJ (0,0)))(h2:u.ownsRow B kF 1 ov m'.output.length (m'.output.map fun c=>.int .u8 c.toNat))
  (e:∀(k:Nat)(c:Array Value)(f:Nat×Nat),w.heap[k]?=some (.cells c bD f)->u.heap[k]?=w.heap[k]?) (hi:m'.input.length<=1000000) (ho:m'.output.length<=m'.done) (hd:m'.done<=m'.most) (hm:m'.most<=4000):RM B mb sa m' u:=by
 refine⟨⟨ov,h1,h2⟩,by rw[Xb];exact h.slen,h.sdis,fun j v' o hj=>?_,hi,ho,hd,hm,h.lowm,h.lows,le_trans h.lowb hk.size⟩;rw[Xb]at hj;obtain⟨b',x',ov',q1,q2,q3,q4⟩:=h.scope j v' o hj;exact⟨b',x',ov',q1,(e b' _ _ q2).trans q2,q3.stay hk,q4⟩
end
def bX{w:World}{o:Obj}{b i:Nat}{v:Value}(h:w.cell? ⟨b,i,none⟩=some v):(w.alloc o).cell? ⟨b,i,none⟩=some v:=by
 have hb:b<w.heap.size:=by
  unfold cell? at h
  cases hc:w.heap[b]? with
  |none=>simp[hc]at h
  |some o=>exact aB hc
 have:(w.alloc o).heap[b]?=w.heap[b]?:=Below.heap_alloc _ _ _ hb;unfold cell? at h ⊢;rw[show (w.alloc o).heap[b]?=w.heap[b]? from this];exact h
def RQ(P:Value->World->Prop):Ending->World->Prop:=fun e w'=>∃rv,e=.returned rv/\P rv w'
section
variable {b1 b2 b3 K K':Nat}{p:Option Addr}{cs cs':Array Value}{w:World}{P:Value->World->Prop}
def Gs(h1:w.cell? ⟨b1,0,none⟩=some (.func (.func K) #[] cs))(HE:aF K)
  (hc:Calls prog K (#[.pointer p,.func (.func 190) #[] #[aA b2,aA w.heap.size,aA (w.heap.size+1)]]++cs) ((w.alloc (.cells #[.pointer p] aV)).alloc (.cells #[.func (.func K') #[] cs'] aZ)) (RQ P)) :
  Calls prog 189 #[.pointer p,.func (.func K') #[] cs',aA b1,aA b2] w (RQ P):=by
 have hE:=fun(args:Array Value) (w:World)=>HE args w;have c1:=bX (o:=.cells #[.func (.func K') #[] cs'] aZ) (bX (o:=.cells #[.pointer p] aV) h1);have HC:=aC hc;clear hc HE h1;unfold aA at *;go_enter func189,ntmps189;go_wp2_with fail;refine(HC.out).mono ?_;rintro e w'⟨rv,rfl,hq⟩;go_wp2;refine bodyPost_ret (v:=rv) (by simp[results,results189,go_sem]) rfl ⟨rv,rfl,hq⟩
def Gp(h1:w.cell? ⟨b1,0,none⟩=some (.func (.func K) #[] cs))(HE:aF K)
  (hc:Calls prog K (#[.pointer p,.func (.func 127) #[] #[aA b2,aA w.heap.size,aA (w.heap.size+1)]]++cs) ((w.alloc (.cells #[.pointer p] aV)).alloc (.cells #[.func (.func K') #[] cs'] aZ)) (RQ P)) :
  Calls prog 126 #[.pointer p,.func (.func K') #[] cs',aA b1,aA b2] w (RQ P):=by
 have hE:=fun(args:Array Value) (w:World)=>HE args w;have c1:=bX (o:=.cells #[.func (.func K') #[] cs'] aZ) (bX (o:=.cells #[.pointer p] aV) h1);have HC:=aC hc;clear hc HE h1;unfold aA at *;go_enter func126,ntmps126;go_wp2_with fail;refine(HC.out).mono ?_;rintro e w'⟨rv,rfl,hq⟩;go_wp2;refine bodyPost_ret (v:=rv) (by simp[results,results126,go_sem]) rfl ⟨rv,rfl,hq⟩
def RY(h1:w.cell? ⟨b1,0,none⟩=some (.func (.func K) #[] cs))(HE:aF K)
  (hc:Calls prog K (#[.pointer p,.func (.func 235) #[] #[aA b2,aA w.heap.size,aA (w.heap.size+1),aA b3]]++cs) ((w.alloc (.cells #[.pointer p] aV)).alloc (.cells #[.func (.func K') #[] cs'] aZ)) (RQ P)) :
  Calls prog 234 #[.pointer p,.func (.func K') #[] cs',aA b1,aA b2,aA b3] w (RQ P):=by
 have hE:=fun(args:Array Value) (w:World)=>HE args w;have c1:=bX (o:=.cells #[.func (.func K') #[] cs'] aZ) (bX (o:=.cells #[.pointer p] aV) h1);have HC:=aC hc;clear hc HE;unfold aA at *;go_enter func234,ntmps234;go_wp2_with fail;refine(HC.out).mono ?_;rintro e w'⟨rv,rfl,hq⟩;go_wp2;refine bodyPost_ret (v:=rv) (by simp[results,results234,go_sem]) rfl ⟨rv,rfl,hq⟩
def Ec(h1:w.cell? ⟨b1,0,none⟩=some (.func (.func K) #[] cs))(HE:aF K)
  (hc:Calls prog K (#[.pointer p,.func (.func 242) #[] #[aA b2,aA w.heap.size,aA (w.heap.size+1),aA b3]]++cs) ((w.alloc (.cells #[.pointer p] aV)).alloc (.cells #[.func (.func K') #[] cs'] aZ)) (RQ P)) :
  Calls prog 241 #[.pointer p,.func (.func K') #[] cs',aA b1,aA b2,aA b3] w (RQ P):=by
 have hE:=fun(args:Array Value) (w:World)=>HE args w;have c1:=bX (o:=.cells #[.func (.func K') #[] cs'] aZ) (bX (o:=.cells #[.pointer p] aV) h1);have HC:=aC hc;clear hc HE;unfold aA at *;go_enter func241,ntmps241;go_wp2_with fail;refine(HC.out).mono ?_;rintro e w'⟨rv,rfl,hq⟩;go_wp2;refine bodyPost_ret (v:=rv) (by simp[results,results241,go_sem]) rfl ⟨rv,rfl,hq⟩
def YD(h1:w.cell? ⟨b1,0,none⟩=some (.func (.func K) #[] cs))(HE:aF K)
  (hc:Calls prog K (#[.pointer p,.func (.func 232) #[] #[aA b2,aA w.heap.size,aA b3,aA (w.heap.size+1)]]++cs) ((w.alloc (.cells #[.pointer p] aV)).alloc (.cells #[.func (.func K') #[] cs'] aZ)) (RQ P)) :
  Calls prog 231 #[.pointer p,.func (.func K') #[] cs',aA b1,aA b2,aA b3] w (RQ P):=by
 have hE:=fun(args:Array Value) (w:World)=>HE args w;have c1:=bX (o:=.cells #[.func (.func K') #[] cs'] aZ) (bX (o:=.cells #[.pointer p] aV) h1);have HC:=aC hc;clear hc HE;unfold aA at *;go_enter func231,ntmps231;go_wp2_with fail;refine(HC.out).mono ?_;rintro e w'⟨rv,rfl,hq⟩;go_wp2;refine bodyPost_ret (v:=rv) (by simp[results,results231,go_sem]) rfl ⟨rv,rfl,hq⟩
def yJ{x:Value}(h1:w.cell? ⟨b1,0,none⟩=some x)(HE:aF K)
  (hc:Calls prog K (#[x]++cs) (w) (RQ P)) :
  Calls prog 125 #[.pointer p,.func (.func K) #[] cs,aA b1] w (RQ P):=by
 have hE:=fun(args:Array Value) (w:World)=>HE args w;have HC:=aC hc;clear hc HE;unfold aA at *;go_enter func125,ntmps125;go_wp2_with fail;refine(HC.out).mono ?_;rintro e w'⟨rv,rfl,hq⟩;go_wp2;refine bodyPost_ret (v:=rv) (by simp[results,results125,go_sem]) rfl ⟨rv,rfl,hq⟩
def Gu(HE:aF K)
  (hc:Calls prog K (#[.iface iE (.func (.func 172) #[] #[aA b1,aA w.heap.size])]++cs) (w.alloc (.cells #[.pointer p] aV)) (RQ P)) :
  Calls prog 171 #[.pointer p,.func (.func K) #[] cs,aA b1] w (RQ P):=by
 have hE:=fun(args:Array Value) (w:World)=>HE args w;have HC:=aC hc;clear hc HE;unfold aA at *;go_enter func171,ntmps171;go_wp2_with fail;refine(HC.out).mono ?_;rintro e w'⟨rv,rfl,hq⟩;go_wp2;refine bodyPost_ret (v:=rv) (by simp[results,results171,go_sem]) rfl ⟨rv,rfl,hq⟩
def Dz{x kv:Value}(h1:w.cell? ⟨b1,0,none⟩=some (.func (.func K) #[] cs))(h2:w.cell? ⟨b2,0,none⟩=some (.pointer p))(h3:w.cell? ⟨b3,0,none⟩=some kv)(HE:aF K)
  (hc:Calls prog K (#[.pointer p,kv]++cs) (w) (RQ P)) :
  Calls prog 127 #[x,aA b1,aA b2,aA b3] w (RQ P):=by
 have hE:=fun(args:Array Value) (w:World)=>HE args w;have HC:=aC hc;clear hc HE;unfold aA at *;go_enter func127,ntmps127;go_wp2_with fail;refine(HC.out).mono ?_;rintro e w'⟨rv,rfl,hq⟩;go_wp2;refine bodyPost_ret (v:=rv) (by simp[results,results127,go_sem]) rfl ⟨rv,rfl,hq⟩
def SA{x:Value}{b4:Nat}(hx:FK x)(h1:w.cell? ⟨b1,0,none⟩=some (.func (.func K) #[] cs))(h2:w.cell? ⟨b2,0,none⟩=some (.pointer p))(HE:aF K)
  (hc:Calls prog K (#[.pointer p,.func (.func 233) #[] #[aA b3,aA w.heap.size,aA b4]]++cs) (w.alloc (.cells #[x] bL)) (RQ P)) :
  Calls prog 232 #[x,aA b1,aA b2,aA b3,aA b4] w (RQ P):=by
 have hE:=fun(args:Array Value) (w:World)=>HE args w;have c1:=bX (o:=.cells #[x] bL) h1;have c2:=bX (o:=.cells #[x] bL) h2;rcases hx with⟨tx,vx,rfl⟩|rfl
 all_goals
  have HC:=aC hc;clear hc HE;unfold aA at *;go_enter func232,ntmps232;go_wp2_with fail;refine(HC.out).mono ?_;rintro e w'⟨rv,rfl,hq⟩;go_wp2;refine bodyPost_ret (v:=rv) (by simp[results,results232,go_sem]) rfl ⟨rv,rfl,hq⟩
def YC{x:Value}{b4:Nat}(hx:FK x)(h1:w.cell? ⟨b1,0,none⟩=some (.func (.func K) #[] cs))(h2:w.cell? ⟨b2,0,none⟩=some (.pointer p))(HE:aF K)
  (hc:Calls prog K (#[.pointer p,.func (.func 243) #[] #[aA b3,aA b4,aA w.heap.size]]++cs) (w.alloc (.cells #[x] bL)) (RQ P)) :
  Calls prog 242 #[x,aA b1,aA b2,aA b3,aA b4] w (RQ P):=by
 have hE:=fun(args:Array Value) (w:World)=>HE args w;have c1:=bX (o:=.cells #[x] bL) h1;have c2:=bX (o:=.cells #[x] bL) h2;rcases hx with⟨tx,vx,rfl⟩|rfl
 all_goals
  have HC:=aC hc;clear hc HE;unfold aA at *;go_enter func242,ntmps242;go_wp2_with fail;refine(HC.out).mono ?_;rintro e w'⟨rv,rfl,hq⟩;go_wp2;refine bodyPost_ret (v:=rv) (by simp[results,results242,go_sem]) rfl ⟨rv,rfl,hq⟩
def MV{x:Value}(h1:w.cell? ⟨b1,0,none⟩=some (.func (.func K) #[] cs))(h2:w.cell? ⟨b2,0,none⟩=some x)(HE:aF K)
  (hc:Calls prog K (#[x]++cs) (w) (RQ P)) :
  Calls prog 221 #[aA b1,aA b2] w (RQ P):=by
 have hE:=fun(args:Array Value) (w:World)=>HE args w;have HC:=aC hc;clear hc HE;unfold aA at *;go_enter func221,ntmps221;go_wp2_with fail;refine(HC.out).mono ?_;rintro e w'⟨rv,rfl,hq⟩;go_wp2;refine bodyPost_ret (v:=rv) (by simp[results,results221,go_sem]) rfl ⟨rv,rfl,hq⟩
end
def kE{v:Value}(p:Option Addr)(hv:FK v)(w:World):Calls prog 60 #[.pointer p,v] w fun e w'=>e=.returned (aA w.heap.size)/\w'=w.alloc (.cells #[v,.pointer p] bD):=by
 unfold aA;rcases hv with⟨t,x,rfl⟩|rfl
 all_goals
  go_enter func60,ntmps60;go_wp2;refine bodyPost_ret (v:=.pointer (some ⟨w.heap.size,0,none⟩)) (by simp[results,results60,go_sem]) rfl ⟨rfl,rfl⟩
def vH(K:Nat)(cs:Array Value)(w:World):Calls prog 174 #[.func (.func K) #[] cs] w fun e w'=>e=.returned (.func (.func 220) #[] #[aA w.heap.size])/\w'=w.alloc (.cells #[.func (.func K) #[] cs] aZ):=by
 unfold aA;go_enter func174,ntmps174;go_wp2;refine bodyPost_ret (v:=.func (.func 220) #[] #[.pointer (some ⟨w.heap.size,0,none⟩)]) (by simp[results,results174,go_sem]) rfl ⟨rfl,rfl⟩
def Cw(v:Value)(w:World):(Instr.typeAssert (.iface 4 v) 173 4 false).run prog w=.ok v w:=by kernel_rfl
def WY(v:Value)(w:World):(Instr.typeAssert (.iface 2 v) 173 2 false).run prog w=.ok v w:=by kernel_rfl
def Ht(v:Value)(w:World):(Instr.typeAssert (.iface 139 v) 173 139 false).run prog w=.ok v w:=by kernel_rfl
section
variable {b1 b2 b3 b4 K K':Nat}{p:Option Addr}{cs cs':Array Value}{x kv:Value}{w:World}{P:Value->World->Prop}
def RP(hx:FK x)(hp:P (.func (.func 221) #[] #[aA b1,aA w.heap.size]) (w.alloc (.cells #[x] bL))) :
  Calls prog 220 #[x,aA b1] w (RQ P):=by
 have HP:=aC hp;clear hp;unfold aA at *;rcases hx with⟨tx,vx,rfl⟩|rfl
 all_goals
  go_enter func220,ntmps220;go_wp2;refine bodyPost_ret (v:=.func (.func 221) #[] #[.pointer (some ⟨b1,0,none⟩),.pointer (some ⟨w.heap.size,0,none⟩)]) (by simp[results,results220,go_sem]) rfl ⟨_,rfl,HP.out⟩
def XZ(hx:FK x)(hp:P (.func (.func 173) #[] #[aA b1,aA b2,aA w.heap.size,aA (w.heap.size+1)]) ((w.alloc (.cells #[x] bL)).alloc (.cells #[.func (.func K') #[] cs'] aZ))) :
  Calls prog 172 #[x,.func (.func K') #[] cs',aA b1,aA b2] w (RQ P):=by
 have HP:=aC hp;clear hp;unfold aA at *;rcases hx with⟨tx,vx,rfl⟩|rfl
 all_goals
  go_enter func172,ntmps172;go_wp2;refine bodyPost_ret (v:=.func (.func 173) #[] #[.pointer (some ⟨b1,0,none⟩),.pointer (some ⟨b2,0,none⟩),.pointer (some ⟨w.heap.size,0,none⟩),.pointer (some ⟨w.heap.size+1,0,none⟩)]) (by simp[results,results172,go_sem]) rfl ⟨_,rfl,HP.out⟩
def Gv(hp:P .nilFunc w):Calls prog 93 #[x] w (RQ P):=by
 have HP:=aC hp;clear hp;go_enter func93,ntmps93;go_wp2;refine bodyPost_ret (v:=.nilFunc) (by simp[results,results93,go_sem]) rfl ⟨_,rfl,HP.out⟩
def uV(b:Bool)(h1:w.cell? ⟨if b then b1 else b4,0,none⟩=some (.func (.func K) #[] cs))(h2:w.cell? ⟨b2,0,none⟩=some (.pointer p))(h3:w.cell? ⟨b3,0,none⟩=some kv)(HE:aF K)
  (hc:Calls prog K (#[.pointer p,kv]++cs) w (RQ P)) :
  Calls prog 235 #[qJ b,aA b1,aA b2,aA b3,aA b4] w (RQ P):=by
 have hE:=fun(args:Array Value) (w:World)=>HE args w;have HC:=aC hc;clear hc HE;unfold aA qJ at *;have ha:=Cw;cases b
 all_goals
  simp only[Bool.false_eq_true,if_false,if_true]at h1;go_enter func235,ntmps235;go_wp2_with fail;refine(HC.out).mono ?_;rintro e w'⟨rv,rfl,hq⟩;go_wp2;refine bodyPost_ret (v:=rv) (by simp[results,results235,go_sem]) rfl ⟨rv,rfl,hq⟩
def Eb(hx:FK x)(h1:w.cell? ⟨b1,0,none⟩=some (.func (.func K) #[] cs))(h2:w.cell? ⟨b2,0,none⟩=some (.pointer p))(h3:w.cell? ⟨b3,0,none⟩=some kv)(HE:aF K)
  (hc:∀u,PEq u w (.cells #[x,.pointer p] bD (0,0))->Calls prog K (#[aA w.heap.size,kv]++cs) u (RQ fun rv u'=>P rv u'/\u'.cell? ⟨b1,0,none⟩=some (.func (.func K) #[] cs)/\u'.cell? ⟨b2,0,none⟩=some (.pointer p)/\u'.cell? ⟨b3,0,none⟩=some kv)) :
  Calls prog 190 #[x,aA b1,aA b2,aA b3] w (RQ P):=by
 have hE:=fun(args:Array Value) (w:World)=>HE args w
 have hW:∀u,HEq u w->Calls prog 60 #[.pointer p,x] u fun e u'=>e=.returned (aA w.heap.size)/\(PEq u' w (.cells #[x,.pointer p] bD (0,0))/\u'.cell? ⟨b1,0,none⟩=some (.func (.func K) #[] cs)/\u'.cell? ⟨b2,0,none⟩=some (.pointer p)/\u'.cell? ⟨b3,0,none⟩=some kv):=fun u hu=>by
  refine(kE p hx u).mono ?_;rintro e u'⟨rfl,rfl⟩;have Nr:∀b v,w.cell? ⟨b,0,none⟩=some v->u.cell? ⟨b,0,none⟩=some v:=fun b v h=>by unfold cell? at h ⊢;rw[hu.heap];exact h
  refine⟨by rw[hu.heap],⟨?_,hu.so.os,hu.so.tape,hu.so.output⟩,bX (Nr _ _ h1),bX (Nr _ _ h2),bX (Nr _ _ h3)⟩;rw[<- hu.heap];rfl
 have HW:=aC hW;have HC:=aC hc;have HU:=aC (HEq.drew w);clear hc HE hW;unfold aA at *;go_enter func190,ntmps190;go_wp2_with fail;have c1:w.drew.cell? ⟨b1,0,none⟩=some (.func (.func K) #[] cs):=h1;have c2:w.drew.cell? ⟨b2,0,none⟩=some (.pointer p):=h2;have c3:w.drew.cell? ⟨b3,0,none⟩=some kv:=h3;clear h1 h2 h3
 go_region_held2 (fun w'=>w'.cell? ⟨b1,0,none⟩=some (.func (.func K) #[] cs)/\w'.cell? ⟨b2,0,none⟩=some (.pointer p)/\w'.cell? ⟨b3,0,none⟩=some kv) (exact⟨c1,c2,c3⟩)
  (first|(go_at_call 60;refine(HW.out _ HU.out).mono ?_;rintro e u⟨rfl,hu,c1,c2,c3⟩;have HV:=aC hu;clear hu)|(refine(HC.out _ HV.out).mono ?_;rintro e w'⟨rv,rfl,hq,c1,c2,c3⟩))
 all_goals
  go_wp2;refine bodyPost_ret (v:=rv) (by simp[results,results190,go_sem]) rfl ⟨rv,rfl,hq⟩
end
structure Upd(w w':World)(b:Nat)(o:Obj):Prop where
 size:w'.heap.size=w.heap.size
 rest:∀k,k≠b->w'.heap[k]?=w.heap[k]?
 here:w'.heap[b]?=some o
 so:eS w' w
def Upd.set{w:World}{b:Nat}{c:Array Value}{t:TypeId}{f:Nat×Nat}(h:w.heap[b]?=some (.cells c t f))(i:Nat)(v:Value):Upd w (w.setCell ⟨b,i,none⟩ v) b (.cells (c.setIfInBounds i v) t f):=
 ⟨by simp[setCell],fun k hk=>Below.heap_setCell _ _ _ _ hk,by simp[setCell,Array.getElem?_modify,h],rfl,rfl,rfl⟩
def Upd.heap{w u w':World}{b:Nat}{o:Obj}(h:Upd u w' b o)(e:HEq u w):Upd w w' b o:=⟨by rw[<- e.heap];exact h.size,fun k hk=>by rw[<- e.heap];exact h.rest k hk,h.here,e.so.trans h.so⟩
def aP{w:World}{b:Nat}{c:Array Value}{t:TypeId}{f:Nat×Nat}(h:w.heap[b]?=some (.cells c t f))(i:Nat):w.cell? ⟨b,i,none⟩=c[i]?:=by simp[cell?,h]
def cP{w:World}{b:Nat}{c:Array Value}{t:TypeId}(h:w.heap[b]?=some (.cells c t (0,0)))(i:Nat):w.frozen? ⟨b,i,none⟩=false:=by simp[World.frozen?,h]
section
variable {mb b1 b2 b3 b4 K K':Nat}{p:Option Addr}{fs cs cs':Array Value}{x kv:Value}{w:World}{P:Value->World->Prop}
def SO{i0 o0:Value}{M D:Nat}(h:w.heap[mb]?=some (.cells #[i0,o0,.int .i64 M,.int .i64 D] dJ (0,0)))(hD:D≠M)(hM:D<=4000) :
  Calls prog 55 #[aA mb] w fun e w'=>e=.returned (.tuple #[])/\Upd w w' mb (.cells #[i0,o0,.int .i64 M,.int .i64 (D+1:Nat)] dJ (0,0)):=by
 have c2:w.cell? ⟨mb,2,none⟩=some (.int .i64 M):=by rw[aP h];rfl
 have c3:w.cell? ⟨mb,3,none⟩=some (.int .i64 D):=by rw[aP h];rfl
 have f3:w.frozen? ⟨mb,3,none⟩=false:=cP h 3;have Ju:((D:Int)==(M:Int))=false:=by simp;omega
 have hne':¬((D:Int)=(M:Int)):=by omega
 have HU:=aC (show ∀u:World,HEq u w->Upd w (u.setCell ⟨mb,3,none⟩ (.int .i64 ((D:Int)+1))) mb (.cells #[i0,o0,.int .i64 M,.int .i64 (D+1:Nat)] dJ (0,0))from fun u e=>by
  have:=(Upd.set (w:=u) (by rw[e.heap];exact h) 3 (.int .i64 ((D:Int)+1))).heap e
  simpa using this)
 clear h;unfold aA;go_enter func55,ntmps55;go_wp2_with fail
 go_quiet (fail)
 go_wp2_with fail;refine bodyPost_end (v:=.tuple #[]) (by simp[results,results55,go_sem]) rfl ⟨rfl,HU.out (w.drewN nq) ⟨rfl,rfl,rfl,rfl⟩⟩
def Ea{sb:Nat}{y ov:Value}(hx:FK x)(h0:w.heap[sb]?=some (.cells #[y,ov] bD (0,0)))(h1:w.cell? ⟨b1,0,none⟩=some (aA sb))(h2:∀u,Upd w u sb (.cells #[x,ov] bD (0,0))->u.cell? ⟨b1,0,none⟩=some (aA sb)/\u.cell? ⟨b2,0,none⟩=some (.func (.func K) #[] cs)/\u.cell? ⟨b3,0,none⟩=some kv)(HE:aF K)
  (hc:∀u,Upd w u sb (.cells #[x,ov] bD (0,0))->Calls prog K (#[aA sb,kv]++cs) u (RQ P)) :
  Calls prog 188 #[x,aA b1,aA b2,aA b3] w (RQ P):=by
 have hE:=fun(args:Array Value) (w:World)=>HE args w;have c0:w.cell? ⟨sb,0,none⟩=some y:=by rw[aP h0];rfl
 have f0:w.frozen? ⟨sb,0,none⟩=false:=cP h0 0;have HC:=aC hc;have H2:=aC h2
 have HU:=aC (show ∀u:World,HEq u w->Upd w (u.setCell ⟨sb,0,none⟩ x) sb (.cells #[x,ov] bD (0,0))from fun u e=>by
  have:=(Upd.set (w:=u) (by rw[e.heap];exact h0) 0 x).heap e
  simpa using this)
 obtain⟨d1,d2,d3⟩:=h2 _ (HU.out w (HEq.refl w));clear hc HE h2 h0;unfold aA at *;rcases hx with⟨tx,vx,rfl⟩|rfl
 all_goals
  go_enter func188,ntmps188;go_wp2_with fail;refine(HC.out _ (HU.out w (HEq.refl w))).mono ?_;rintro e w'⟨rv,rfl,hq⟩;go_wp2;refine bodyPost_ret (v:=rv) (by simp[results,results188,go_sem]) rfl ⟨rv,rfl,hq⟩
def Gq(h1:w.cell? ⟨b1,0,none⟩=some (.func (.func K) #[] cs))(HE:aF K)
  (hc:∀(u:World),u.heap=((w.heap.push (.cells #[.func (.func K') #[] cs'] aZ (0,0))).push (.cells #[.nilIface,.pointer p] bD (0,0))).push (.cells #[aA (w.heap.size+1)] aV (0,0))->eS u w->Calls prog K (#[aA (w.heap.size+1),.func (.func 188) #[] #[aA (w.heap.size+1+1),aA b2,aA w.heap.size]]++cs) u (RQ P)) :
  Calls prog 187 #[.pointer p,.func (.func K') #[] cs',aA b1,aA b2] w (RQ P):=by
 have hE:=fun(args:Array Value) (w:World)=>HE args w;have hW:=fun w=>kE p (inr rfl) w;have HC:=aC hc;have HW:=aC hW;clear hc HE hW;unfold aA at *;go_enter func187,ntmps187;go_wp2_with fail;refine(HW.out _).mono ?_;rintro e w1⟨rfl,rfl⟩;have c1:=bX (o:=.cells #[.pointer (some ⟨w.heap.size+1,0,none⟩)] aV) (bX (o:=.cells #[.nilIface,.pointer p] bD) (bX (o:=.cells #[.func (.func K') #[] cs'] aZ) h1));go_wp2_with fail;refine(HC.out (((w.alloc (.cells #[.func (.func K') #[] cs'] aZ)).alloc (.cells #[.nilIface,.pointer p] bD)).alloc (.cells #[.pointer (some ⟨w.heap.size+1,0,none⟩)] aV)) rfl ⟨rfl,rfl,rfl⟩).mono ?_;rintro e w'⟨rv,rfl,hq⟩;go_wp2;refine bodyPost_ret (v:=rv) (by simp[results,results187,go_sem]) rfl ⟨rv,rfl,hq⟩
end
def Cm(c:UInt8)(r:List UInt8):(bs (c::r)).extract 1 (bs (c::r)).size=bs r:=by
 refine ByteArray.ext ?_;rw[ByteArray.data_extract];refine Array.ext' ?_;simp[bs,ByteArray.size]
section
variable {mb b1 b2 b3 b4 K K':Nat}{p:Option Addr}{fs cs cs':Array Value}{x kv:Value}{w:World}{P:Value->World->Prop}
def RZ(h1:w.cell? ⟨b1,0,none⟩=some (eT mb))(HE:aF K)
  (hS:Calls prog 55 #[aA mb] w fun e u=>e=.returned (.tuple #[])/\(u.cell? ⟨b2,0,none⟩=some (.iface iE (.func (.func K) fs cs))/\u.cell? ⟨b3,0,none⟩=some kv)/\∀u':World,HEq u' u->Calls prog K (fs++(#[x,kv]++cs)) u' (RQ P)) :
  Calls prog 233 #[x,aA b1,aA b2,aA b3] w (RQ P):=by
 have hE:=fun(args:Array Value) (w:World)=>HE args w;have ha:=Ht;have HS:=aC hS;clear hS HE;unfold aA eT at *;go_enter func233,ntmps233;go_wp2_with fail;refine(HS.out).mono ?_;rintro e u⟨rfl,⟨c2,c3⟩,hc⟩;have HC:=aC hc;clear hc HS h1;go_wp2_with fail;have HU:=aC (HEq.drew u)
 go_region_with ((refine(HC.out _ HU.out).mono ?_);rintro e w'⟨rv,rfl,hq⟩)
 all_goals
  go_wp2;refine bodyPost_ret (v:=rv) (by simp[results,results233,go_sem]) rfl ⟨rv,rfl,hq⟩
def Gt{i0:Nm}{o0:Value}{M D:Int}(h:w.heap[mb]?=some (.cells #[.string (bs i0),o0,.int .i64 M,.int .i64 D] dJ (0,0)))(HE:aF K)(hl:i0.length<=1000000)
  (hc:(i0=[]/\∀u:World,HEq u w->Calls prog K (#[jB (-1)]++cs) u (RQ P))\/∃c r,i0=c::r/\∀u:World,Upd w u mb (.cells #[.string (bs r),o0,.int .i64 M,.int .i64 D] dJ (0,0))->Calls prog K (#[jB c.toNat]++cs) u (RQ P)) :
  Calls prog 62 #[aA mb,x,.func (.func K) #[] cs] w (RQ P):=by
 have hE:=fun(args:Array Value) (w:World)=>HE args w;have c0:w.cell? ⟨mb,0,none⟩=some (.string (bs i0)):=by rw[aP h];rfl
 have f0:w.frozen? ⟨mb,0,none⟩=false:=cP h 0;unfold aA jB at *;rcases hc with⟨rfl,hc⟩|⟨c,r,rfl,hc⟩
 ·have HC:=aC hc;clear hc HE h;have hb:bs []=ByteArray.empty:=rfl;rw[hb]at c0;go_enter func62,ntmps62;go_wp2_with fail;refine(HC.out _ (HEq.refl _)).mono ?_;rintro e w'⟨rv,rfl,hq⟩;go_wp2;refine bodyPost_ret (v:=rv) (by simp[results,results62,go_sem]) rfl ⟨rv,rfl,hq⟩
 ·have Ke:0<(bs (c::r)).size:=by simp[bs,ByteArray.size]
  have hem:(bs (c::r)).toList.isEmpty=false:=by
   rw[List.isEmpty_eq_false_iff];intro hh;have:=congrArg List.length hh;simp[bs,ByteArray.size]at this
  have hg:RowKit.wrap64 ((bs (c::r))[0].toNat:Int)=(c.toNat:Int):=by
   have h1:(bs (c::r))[0]=c:=rfl;rw[h1];have:=c.toNat_lt;unfold RowKit.wrap64;omega
  have hx:(bs (c::r)).extract 1 (bs (c::r)).size=bs r:=by
   exact Cm c r
  have Ny:=hc (w.setCell ⟨mb,0,none⟩ (.string ((bs (c::r)).extract 1 (bs (c::r)).size))) (by
   have:=Upd.set h 0 (.string ((bs (c::r)).extract 1 (bs (c::r)).size));rw[hx]at this ⊢
   simpa using this)
  rw[<- hg]at Ny;have HC:=aC Ny;have Mo:(1:Int)<=((bs (c::r)).size:Int):=by omega
  clear hc HE h hg hx Ny;generalize bs (c::r)=sv at *;go_enter func62,ntmps62;go_wp2_with fail;refine(HC.out).mono ?_;rintro e w'⟨rv,rfl,hq⟩;go_wp2;refine bodyPost_ret (v:=rv) (by simp[results,results62,go_sem]) rfl ⟨rv,rfl,hq⟩
def Gn{n:Int}{y:Value}(h1:w.cell? ⟨b1,0,none⟩=some (.int .i64 n))(HE:aF K)
  (hO:∀u:World,HEq u w->Calls prog 170 #[.pointer p,.int .i64 n] u fun e u'=>e=.returned y/\u'=u)
  (hc:∀u:World,HEq u w->Calls prog K (#[y]++cs) u (RQ P)) :
  Calls prog 169 #[.pointer p,.func (.func K) #[] cs,aA b1] w (RQ P):=by
 have hE:=fun(args:Array Value) (w:World)=>HE args w;have HC:=aC hc;have HO:=aC hO;have HU:=aC (HEq.drew w);clear hc HE hO;unfold aA at *;go_enter func169,ntmps169;go_wp2_with fail;refine(HO.out _ (HEq.refl _)).mono ?_;rintro e w'⟨rfl,D8⟩;subst w';go_wp2_with fail;refine(HC.out _ (HEq.refl _)).mono ?_;rintro e w'⟨rv,rfl,hq⟩;go_wp2;refine bodyPost_ret (v:=rv) (by simp[results,results169,go_sem]) rfl ⟨rv,rfl,hq⟩
end
section
variable {mb b1 b2 b3 b4 K K':Nat}{p:Option Addr}{fs cs cs':Array Value}{x kv:Value}{w:World}{P:Value->World->Prop}
def YB{l r:Int}{Ko:Nat}{y:Value}(h1:w.cell? ⟨b1,0,none⟩=some (.func (.func K) #[] cs))(h2:w.cell? ⟨b2,0,none⟩=some (.func (.func Ko) #[] #[]))(h3:w.cell? ⟨b3,0,none⟩=some (jB l))(HE:aF K)(HEo:aF Ko)
  (hO:∀u:World,HEq u w->Calls prog Ko #[.int .i64 l,.int .i64 r] u fun e u'=>e=.returned y/\u'=u)
  (hc:∀u:World,HEq u w->Calls prog K (#[y]++cs) u (RQ fun rv u'=>P rv u'/\u'.cell? ⟨b1,0,none⟩=some (.func (.func K) #[] cs)/\u'.cell? ⟨b2,0,none⟩=some (.func (.func Ko) #[] #[])/\u'.cell? ⟨b3,0,none⟩=some (jB l))) :
  Calls prog 243 #[jB r,aA b1,aA b2,aA b3] w (RQ P):=by
 have hE:=fun(args:Array Value) (w:World)=>HE args w;have hEo:=fun(args:Array Value) (w:World)=>HEo args w;have ha:=WY;have HC:=aC hc;have HO:=aC hO;have HU:=aC (HEq.drew w);clear hc HE hO HEo;unfold aA jB at *;have c1:w.drew.cell? ⟨b1,0,none⟩=some (.func (.func K) #[] cs):=h1;have c2:w.drew.cell? ⟨b2,0,none⟩=some (.func (.func Ko) #[] #[]):=h2;have c3:w.drew.cell? ⟨b3,0,none⟩=some (.iface 2 (.int .i64 l)):=h3;clear h1 h2 h3;go_enter func243,ntmps243;go_wp2_with fail
 go_region_held2 (fun w'=>w'.cell? ⟨b1,0,none⟩=some (.func (.func K) #[] cs)/\w'.cell? ⟨b2,0,none⟩=some (.func (.func Ko) #[] #[])/\w'.cell? ⟨b3,0,none⟩=some (.iface 2 (.int .i64 l))) (exact⟨c1,c2,c3⟩)
  (first|((with_reducible refine(HC.out _ HU.out).mono ?_);rintro e w'⟨rv,rfl,hq,c1,c2,c3⟩)|((with_reducible refine(HO.out _ HU.out).mono ?_);rintro e w'⟨rfl,D8⟩;subst w'))
 all_goals
  go_wp2;refine bodyPost_ret (v:=rv) (by simp[results,results243,go_sem]) rfl ⟨rv,rfl,hq⟩
end
section
variable {mb b1 b2 b3 b4 K K':Nat}{p:Option Addr}{fs cs cs':Array Value}{x kv:Value}{w:World}{P:Value->World->Prop}
def nU(w u:World)(x:Value)(p:Option Addr)(kv:Value)(sb lb:Nat):Prop:=
 u.heap.size=w.heap.size+2/\(∀k,k<w.heap.size->u.heap[k]?=w.heap[k]?)/\u.heap[sb]?=some (.cells #[x,.pointer p] bD (0,0))/\u.heap[lb]?=some (.cells #[kv] aZ (0,0)) /\
 ((sb=w.heap.size/\lb=w.heap.size+1)\/(lb=w.heap.size/\sb=w.heap.size+1))/\eS u w
def RS(hx:FK x)(h1:w.cell? ⟨b1,0,none⟩=some (.func (.func K) #[] cs))(h2:w.cell? ⟨b2,0,none⟩=some (.pointer p))(h3:w.cell? ⟨b3,0,none⟩=some x)(h4:w.cell? ⟨b4,0,none⟩=some (.func (.func K') #[] cs'))(HE:aF K)
  (hc:∀(u:World)(sb lb:Nat),nU w u x p (.func (.func K') #[] cs') sb lb->Calls prog K (#[aA sb,.func (.func 220) #[] #[aA lb]]++cs) u (RQ fun rv u'=>P rv u'/\u'.cell? ⟨b1,0,none⟩=some (.func (.func K) #[] cs)/\u'.cell? ⟨b2,0,none⟩=some (.pointer p)/\u'.cell? ⟨b3,0,none⟩=some x/\u'.cell? ⟨b4,0,none⟩=some (.func (.func K') #[] cs'))) :
  Calls prog 173 #[aA b1,aA b2,aA b3,aA b4] w (RQ P):=by
 have hE:=fun(args:Array Value) (w:World)=>HE args w
 have Nr:∀u:World,(∀k,k<w.heap.size->u.heap[k]?=w.heap[k]?)->u.cell? ⟨b1,0,none⟩=some (.func (.func K) #[] cs)/\u.cell? ⟨b2,0,none⟩=some (.pointer p)/\u.cell? ⟨b3,0,none⟩=some x/\u.cell? ⟨b4,0,none⟩=some (.func (.func K') #[] cs'):=fun u hu=>by
  have hh:∀b v,w.cell? ⟨b,0,none⟩=some v->u.cell? ⟨b,0,none⟩=some v:=fun b v h=>by
   have hb:b<w.heap.size:=by
    unfold cell? at h
    cases hc:w.heap[b]? with
    |none=>simp[hc]at h
    |some o=>exact aB hc
   have e:=hu b hb;unfold cell? at h ⊢;rw[show u.heap[b]?=w.heap[b]? from e];exact h
  exact⟨hh _ _ h1,hh _ _ h2,hh _ _ h3,hh _ _ h4⟩
 have hW0:∀u:World,HEq u w->Calls prog 60 #[.pointer p,x] u fun e u'=>e=.returned (aA w.heap.size)/\PEq u' w (.cells #[x,.pointer p] bD (0,0)):=fun u hu=>(kE p hx u).mono (by
  rintro e u'⟨rfl,rfl⟩;exact⟨by rw[hu.heap],by rw[<- hu.heap];rfl,hu.so.os,hu.so.tape,hu.so.output⟩)
 have hL0:∀u:World,HEq u w->Calls prog 174 #[.func (.func K') #[] cs'] u fun e u'=>e=.returned (.func (.func 220) #[] #[aA w.heap.size])/\PEq u' w (.cells #[.func (.func K') #[] cs'] aZ (0,0)):=fun u hu=>(vH K' cs' u).mono (by
  rintro e u'⟨rfl,rfl⟩;exact⟨by rw[hu.heap],by rw[<- hu.heap];rfl,hu.so.os,hu.so.tape,hu.so.output⟩)
 have Ql:∀u:World,PEq u w (.cells #[.func (.func K') #[] cs'] aZ (0,0))->Calls prog 60 #[.pointer p,x] u fun e u'=>e=.returned (aA (w.heap.size+1))/\nU w u' x p (.func (.func K') #[] cs') (w.heap.size+1) w.heap.size:=fun u hu=>(kE p hx u).mono (by
  rintro e u'⟨rfl,rfl⟩;have e2:PEq (u.alloc (.cells #[x,.pointer p] bD)) u (.cells #[x,.pointer p] bD (0,0)):=PEq.alloc _ _;have s1:=bP hu
  refine⟨by rw[s1],by rw[bP e2,s1],fun k hk=>(aS e2 (by omega)).trans (aS hu hk),by rw[<- s1];exact bT e2,(aS e2 (by omega)).trans (bT hu),inr ⟨rfl,rfl⟩,hu.so.trans e2.so⟩)
 have hL1:∀u:World,PEq u w (.cells #[x,.pointer p] bD (0,0))->Calls prog 174 #[.func (.func K') #[] cs'] u fun e u'=>e=.returned (.func (.func 220) #[] #[aA (w.heap.size+1)])/\nU w u' x p (.func (.func K') #[] cs') w.heap.size (w.heap.size+1):=fun u hu=>(vH K' cs' u).mono (by
  rintro e u'⟨rfl,rfl⟩;have e2:PEq (u.alloc (.cells #[.func (.func K') #[] cs'] aZ)) u (.cells #[.func (.func K') #[] cs'] aZ (0,0)):=PEq.alloc _ _;have s1:=bP hu
  refine⟨by rw[s1],by rw[bP e2,s1],fun k hk=>(aS e2 (by omega)).trans (aS hu hk),(aS e2 (by omega)).trans (bT hu),by rw[<- s1];exact bT e2,inl ⟨rfl,rfl⟩,hu.so.trans e2.so⟩)
 have i4:=aC hW0;have Ut:=aC hL0;have HW1:=aC Ql;have Ow:=aC hL1;have HC:=aC hc;have Tx:=aC Nr;have HU:=aC (HEq.drew w);obtain⟨c1,c2,c3,c4⟩:=Nr w.drew (fun k _=>rfl);clear hW0 hL0 Ql hL1 hc Nr HE h1 h2 h3 h4;unfold aA at *;go_enter func173,ntmps173;go_wp2_with fail
 go_region_held2 (fun w'=>w'.cell? ⟨b1,0,none⟩=some (.func (.func K) #[] cs)/\w'.cell? ⟨b2,0,none⟩=some (.pointer p)/\w'.cell? ⟨b3,0,none⟩=some x/\w'.cell? ⟨b4,0,none⟩=some (.func (.func K') #[] cs')) (exact⟨c1,c2,c3,c4⟩)
  (first
   |(go_at_call 60;first
     |((with_reducible refine(i4.out _ HU.out).mono ?_);rintro e u⟨rfl,hu⟩;obtain⟨c1,c2,c3,c4⟩:=Tx.out u (fun k hk=>aS hu hk);have HU:=aC hu;clear hu)
     |((with_reducible refine(HW1.out _ HU.out).mono ?_);rintro e u⟨rfl,hu⟩;obtain⟨c1,c2,c3,c4⟩:=Tx.out u hu.2.1;have HV:=aC hu;clear hu))
   |(go_at_call 174;first
     |((with_reducible refine(Ut.out _ HU.out).mono ?_);rintro e u⟨rfl,hu⟩;obtain⟨c1,c2,c3,c4⟩:=Tx.out u (fun k hk=>aS hu hk);have HU:=aC hu;clear hu)
     |((with_reducible refine(Ow.out _ HU.out).mono ?_);rintro e u⟨rfl,hu⟩;obtain⟨c1,c2,c3,c4⟩:=Tx.out u hu.2.1;have HV:=aC hu;clear hu))
   |((with_reducible refine(HC.out _ _ _ HV.out).mono ?_);rintro e w'⟨rv,rfl,hq,c1,c2,c3,c4⟩))
 all_goals
  go_wp2;refine bodyPost_ret (v:=rv) (by simp[results,results173,go_sem]) rfl ⟨rv,rfl,hq⟩
end
def Hg(l r:Int)(w:World):Calls prog 250 #[.int .i64 l,.int .i64 r] w fun e w'=>e=.returned (qJ (decide (l<r)))/\w'=w:=by
 unfold qJ;go_enter func250,ntmps250;go_wp2;refine bodyPost_ret (v:=.iface 4 (.bool (decide (l<r)))) (by simp[results,results250,go_sem]) rfl ⟨by rfl,rfl⟩
def aF.op6:aF 250:=enters func250 (by kernel_rfl) rfl
def Dc(w:World):Nat->Option Addr->Value->Prop
 |0,p,y=>∃b,p=some ⟨b,0,none⟩/\w.cell? ⟨b,0,none⟩=some y
 |n+1,p,y=>∃b q,p=some ⟨b,0,none⟩/\w.cell? ⟨b,1,none⟩=some (.pointer q)/\Dc w n q y
def wK{n:Nat}{p:Option Addr}{y:Value}{w:World}(hn:n<=1000000)(h:Dc w n p y):Calls prog 170 #[.pointer p,.int .i64 n] w fun e w'=>e=.returned y/\w'=w:=by
 have H:=aC h;clear h;go_enter func170,ntmps170;go_wp2_with fail
 go_loopg [0,6] n (fun gk v0 v6 wr=>∃i q,v0=.pointer q/\v6=.int .i64 (i:Nat)/\i+gk=n/\Hid (Dc w gk q y)/\wr=w)
 case atStart=>exact⟨0,p,rfl,rfl,by omega,H,rfl⟩
 case round=>
  clear H;obtain⟨i,q,rfl,rfl,hi,H,rfl⟩:=hrel
  cases gk with
  |zero=>
   obtain⟨b,rfl,hc⟩:=H.out;have Js:¬(i:Int)<(n:Int):=by omega
   have Sh:decide ((i:Int)<(n:Int))=false:=by simp;omega
   clear H;go_wp2;refine bodyPost_ret (v:=y) (by simp[results,results170,go_sem]) rfl ⟨rfl,rfl⟩
  |succ g=>
   obtain⟨b,q',rfl,hc,hr⟩:=H.out;have Js:(i:Int)<(n:Int):=by omega
   have Sh:decide ((i:Int)<(n:Int))=true:=by simp;omega
   have HR:=aC hr;clear H hr;go_wp2_with fail
   go_roundg g
   case rel=>exact⟨i+1,q',rfl,by simp,by omega,HR,rfl⟩
   case measure=>omega
def Tryz.CI:(prog.info? kF).map (fun i=>(i.zero,i.size,i.bytes))=some (some (.int .u8 0),1,1):=by kernel_rfl
def lP{ops:Array Oper}{o:Oper}{a:Act}{w w':World}{K:Act->World->Prop}{Q:Exit->Act->World->Prop}{E:Prop}{v' vs vx:Value}(Vx:o.guard=none)(s x:Operand)(ts:Array TypeId)
  (ho:o.op=.call { callee:=.builtin .append,args:=#[s,x],argTypes:=ts }) (hs:a.eval s=vs) (hx:a.eval x=vx) (hr:(append_ ts o.type #[vs,vx]).run prog w=.ok v' w') (h:K (a.put o.dst v') w') :
  if Region.wanted o (yielded ops a.tmps)=true then Oper.wp prog o a w K Q else E:=by
 have hw:Region.wanted o (yielded ops a.tmps)=true:=by simp[Region.wanted,Vx]
 rw[if_pos hw];unfold Oper.wp execOp;simp only[ho,resolve,invoke,builtin,Sem.run_bind,Sem.run_pure,Result.andThen_ok,List.map_toArray,map_cons,List.map_nil,hs,hx,hr];exact h
def Gr{B mb K:Nat}{cs:Array Value}{w:World}{P:Value->World->Prop}{n:Int}{i0:Value}{M D:Int}{ov:Value}{xs:List Value}(h:w.heap[mb]?=some (.cells #[i0,ov,.int .i64 M,.int .i64 D] dJ (0,0)))(Su:B<=w.heap.size)(Jr:w.ownsRow B kF 1 ov xs.length xs)(hl:xs.length<=4000)(HE:aF K)
  (hc:∀(u:World)(ov':Value),u.heap[mb]?=some (.cells #[i0,ov',.int .i64 M,.int .i64 D] dJ (0,0))->u.ownsRow B kF 1 ov' (xs.length+1) (xs++[.int .u8 (n % 256)])->w.heap.size<=u.heap.size->(∀k,k<w.heap.size->k≠mb->ov.ownBlock≠some k->u.heap[k]?=w.heap[k]?)->eS u w->Calls prog K (#[iW]++cs) u (RQ P)) :
  Calls prog 61 #[aA mb,jB n,.func (.func K) #[] cs] w (RQ P):=by
 obtain⟨i0',hi,Og,Lz,Nj⟩:=info_parts Tryz.CI;have hE:=fun(args:Array Value) (w:World)=>HE args w;have Js:=aB h;have D5:IntKind.u8.wrap n=n % 256:=by simp[IntKind.wrap,IntKind.bits,IntKind.signed]
 rw[<- D5]at hc;have Ll:(w.alloc (.cells #[.int .u8 (IntKind.u8.wrap n)] kF)).drew.ownsRow B kF 1 ov xs.length xs:=Jr.alloc _;have Ks:∀j u,[Value.int .u8 (IntKind.u8.wrap n)][j]?=some u->(w.alloc (.cells #[.int .u8 (IntKind.u8.wrap n)] kF)).drew.cell? ((⟨w.heap.size,0,none⟩:Addr).add j)=some u:=fun j u hj=>fK rfl (by simpa using hj);have Qh:∀u∈[Value.int .u8 (IntKind.u8.wrap n)],u.oneCell'=true:=by intro u hu;simp at hu;subst hu;rfl
 obtain⟨v',w2,Jo,Nf,Pe,_⟩:=run_append_own (P:=prog) (w.alloc (.cells #[.int .u8 (IntKind.u8.wrap n)] kF)).drew B 67 67 kF i0' (.int .u8 0) 1 1 underlying67 hi Og Lz Nj rfl (by decide) ov xs.length xs Ll ⟨w.heap.size,0,none⟩ 1 1 [.int .u8 (IntKind.u8.wrap n)] rfl Ks Qh (by unfold maxLen;omega) (by omega) (by show B<=(w.alloc _).heap.size;rw[aK];omega)
 have Ju:ov.ownBlock≠some mb:=fun e=>by
  rcases Jr.2 with⟨rfl,_⟩|⟨g,cap,cur,rfl,_,Ng,_⟩
  ·simp[Value.ownBlock]at e
  ·have:g=mb:=by simpa [Value.ownBlock]using e
   subst this;rw[h]at Ng;exact absurd (aN Ng) (by decide)
 have hold:∀k,k<w.heap.size->ov.ownBlock≠some k->w2.heap[k]?=w.heap[k]?:=fun k hk hn=>by
  rw[Pe.block k (by show k<(w.alloc _).heap.size;rw[aK];omega) (fun e=>hn e.symm)]
  show (w.alloc _).heap[k]?=_;rw[bC,if_neg (by omega)]
 have h2:w2.heap[mb]?=some (.cells #[i0,ov,.int .i64 M,.int .i64 D] dJ (0,0)):=(hold mb Js Ju).trans h
 have Ke:w.heap.size<=w2.heap.size:=by
  have:=Pe.size;have e:(w.alloc (.cells #[.int .u8 (IntKind.u8.wrap n)] kF)).drew.heap.size=w.heap.size+1:=aK _ _;omega
 have Uh:∃g cap,v'=.slice (some ⟨g,0,none⟩) (xs.length+1) cap:=by
  rcases aD Nf with⟨_,h0⟩|h0
  ·simp at h0
  ·exact h0
 obtain⟨g,cap,rfl⟩:=Uh
 have Uk:g≠mb:=fun e=>by
  subst e;rcases Nf.2 with⟨e2,_⟩|⟨g',cap',cur,e2,_,Ng,_⟩
  ·cases e2
  ·have:g=g':=by simp at e2;exact e2.1
   subst this;rw[h2]at Ng;exact absurd (aN Ng) (by decide)
 have hu:=Upd.set h2 1 (.slice (some ⟨g,0,none⟩) (xs.length+1) cap);have Nr:=hc (w2.setCell ⟨mb,1,none⟩ (.slice (some ⟨g,0,none⟩) (xs.length+1) cap)) _ (by have:=hu.here;simpa using this) (aE Nf fun k c f hk _=>hu.rest k (fun e=>by subst e;simp[Value.ownBlock]at hk;exact Uk hk)) (by rw[hu.size];exact Ke) (fun k hk Zb hko=>(hu.rest k Zb).trans (hold k hk hko)) ⟨Pe.os,Pe.tape,Pe.output⟩;have c1:w.cell? ⟨mb,1,none⟩=some ov:=(aP h 1).trans rfl;have d1:w2.cell? ⟨mb,1,none⟩=some ov:=(aP h2 1).trans rfl;have f1:w2.frozen? ⟨mb,1,none⟩=false:=cP h2 1;have ha:=WY;have HC:=aC Nr;have HR:=aC Jo;clear hc HE h h2 Nr hu Uk hold Ju Jr Ll D5 Ks Qh Nf Pe Jo;unfold aA jB iW at *;go_enter func61,ntmps61;go_wp2_with fail
 go_region_law (refine lP rfl _ _ _ rfl (by simp[Act.eval,Act.put]) (by simp[Act.eval,Act.put]) HR.out ?_)
 all_goals
  go_wp2_with fail;refine(HC.out).mono ?_;rintro e w'⟨rv,rfl,hq⟩;go_wp2;refine bodyPost_ret (v:=rv) (by simp[results,results61,go_sem]) rfl ⟨rv,rfl,hq⟩
def Tryz.CQ:(prog.info? bL).map (fun i=>(i.zero,i.size,i.bytes))=some (some .nilIface,1,16):=by kernel_rfl
def lF.CX{B mb:Nat}{sa:List Nat}{w:World}:∀{k:List Fr}{ow:List Nat}{v:Value},lF B mb sa w ow k v->∀b∈ow,b<w.heap.size:=by
 intro k
 induction k with
 |nil=>intro ow v h b hb;rw[h.1]at hb;cases hb
 |cons f k ih=>
  intro ow v h;obtain⟨xs,ys,sv,tv,ow',h1,h2,h3,h4,⟨rfl,_⟩|⟨rfl,_⟩|⟨_,_,u,av,_,⟨_,_,rfl⟩|⟨g,cs,_,p2,_,_,_,_,_,rfl,_⟩,_⟩⟩:=h
  ·exact ih h4
  ·exact ih h4
  ·exact ih h4
  ·intro b hb;rcases mem_cons.1 hb with rfl|hb
   ·exact aB p2
   ·exact ih h4 b hb
def RG{n j:Nat}(h:j<n):(zeroCells (Value.cells .nilIface) n)[j]?=some .nilIface:=by
 have:Value.cells .nilIface=#[.nilIface]:=rfl;unfold zeroCells;rw[this];simp[Nat.mod_one,h]
section
variable {B:Nat}{w u w0:World}{ow ow':List Nat}{ys:List Value}{av x:Value}
def Ab{cap:Nat}(hB:B<=w0.heap.size)(ho:∀b∈ow',b<w0.heap.size)(h1:ys.length+1<=cap)(h2:cap<=maxLen)(e:PEq u w0 (.cells (ys.toArray++[x].toArray++zeroCells (Value.cells .nilIface) (cap-(ys.length+1))) bL (0,0))) :
  FE B u (w0.heap.size::ow') ow' (ys++[x]) (.slice (some ⟨w0.heap.size,0,none⟩) (ys.length+1) cap):=by
 have hs:(ys.toArray++[x].toArray++zeroCells (Value.cells .nilIface) (cap-(ys.length+1))).size=cap:=by
  simp[size_zeroCells,Value.cells];omega
 refine inr ⟨w0.heap.size,_,by rw[hs,length_append];rfl,bT e,hB,by rw[hs,length_append];exact h1,by rw[hs];exact h2,fun i y hy=>?_,fun i hi hl=>?_,rfl,fun hb=>Nat.lt_irrefl _ (ho _ hb)⟩
 ·rw[Array.getElem?_append_left (by have:=(List.getElem?_eq_some_iff.1 hy).1;simpa using this)]
  simpa using hy
 ·rw[length_append,List.length_singleton]at hi;rw[hs]at hl;rw[Array.getElem?_append_right (by simp;omega)];exact RG (by simp;omega)
def JW(ho:FE B w ow ow' ys av)(Js:∀b∈ow',b<w.heap.size)(hl:ys.length<=1000)(hB:B<=w.heap.size)(Rk:x.oneCell'=true) :
  ∃av' u ow2,(append_ #[dT,dT] dT #[av,.slice (some ⟨w.heap.size,0,none⟩) 1 1]).run prog (w.alloc (.cells #[x] bL)).drew=.ok av' u/\FE B u ow2 ow' (ys++[x]) av'/\KR B w u/\(∀b∈ow',u.heap[b]?=w.heap[b]?) /\
   ∀(k:Nat)(c:Array Value)(t:TypeId)(f:Nat×Nat),t≠bL->w.heap[k]?=some (.cells c t f)->u.heap[k]?=w.heap[k]?:=by
 obtain⟨i0,hi,Og,Lz,Nj⟩:=info_parts Tryz.CQ;have e0:PEq (w.alloc (.cells #[x] bL)).drew w (.cells #[x] bL (0,0)):=⟨rfl,rfl,rfl,rfl⟩;have s0:=bP e0;have Ks:∀j y,[x][j]?=some y->(w.alloc (.cells #[x] bL)).drew.cell? ((⟨w.heap.size,0,none⟩:Addr).add j)=some y:=fun j y hj=>fK rfl (by simpa using hj);generalize (w.alloc (.cells #[x] bL)).drew=w0 at *;have k0:KR B w w0:=(KR.refl B w).push e0
 have Mw:∀cap,ys.length+1<=cap->cap<=maxLen->∀u,PEq u w0 (.cells (ys.toArray++[x].toArray++zeroCells (Value.cells .nilIface) (cap-(ys.length+1))) bL (0,0))->∃ow2,FE B u ow2 ow' (ys++[x]) (.slice (some ⟨w0.heap.size,0,none⟩) (ys.length+1) cap)/\KR B w u/\(∀b∈ow',u.heap[b]?=w.heap[b]?)/\∀(k:Nat)(c:Array Value)(t:TypeId)(f:Nat×Nat),t≠bL->w.heap[k]?=some (.cells c t f)->u.heap[k]?=w.heap[k]?:=fun cap h1 h2 u e=>
  ⟨_,Ab (by omega) (fun b hb=>by have:=Js b hb;omega) h1 h2 e,k0.push e,fun b hb=>(aS e (by have:=Js b hb;omega)).trans (aS e0 (Js b hb)),fun k c t f _ hc=>(aS e (by have:=aB hc;omega)).trans (aS e0 (aB hc))⟩
 rcases ho with⟨rfl,rfl,rfl⟩|⟨g,cs,rfl,h2,h3,h4,h5,h6,h7,rfl,h9⟩
 ·have hr:=run_append_nil (P:=prog) w0 dT dT bL i0 .nilIface underlying263 hi Og ⟨w.heap.size,0,none⟩ 1 1 [x] (by rw[Lz];rfl) Ks (by omega) (by omega) (by rw[Nj];omega);obtain⟨ow2,q⟩:=Mw _ (grownCap_ge w0 1 0 bL) (grownCap_le_maxLen w0 1 0 bL (by decide)) (w0.drew.alloc (.cells (#[]++[x].toArray++zeroCells (Value.cells .nilIface) (grownCap w0 1 0 bL-(0+1))) bL)) ⟨rfl,rfl,rfl,rfl⟩;refine⟨_,_,ow2,hr,?_⟩
  simpa using q
 ·have Ov:w0.heap[g]?=some (.cells cs bL (0,0)):=(aS e0 (aB h2)).trans h2
  by_cases Pa:ys.length+1<=cs.size
  ·have hr:=run_append_room (P:=prog) w0 dT dT bL i0 underlying263 hi g ys.length cs.size cs Ov ⟨w.heap.size,0,none⟩ 1 1 [x] (by rw[Lz];rfl) Ks (by intro y hy;simp at hy;subst hy;exact Rk) Pa (by rw[Lz];simp only[length_cons,length_nil];omega);rw[Lz,Nat.mul_one]at hr;have Jn:=setRow_heap w0 g cs (cs.toList.take ys.length++[x]++cs.toList.drop (ys.length+[x].length)).toArray bL (0,0) Ov;have Sx:∀k,k≠g->(w0.setRow g (cs.toList.take ys.length++[x]++cs.toList.drop (ys.length+[x].length)).toArray).heap[k]?=w0.heap[k]?:=fun k hk=>setRow_other w0 g k _ hk
   have Ke:(cs.toList.take ys.length++[x]++cs.toList.drop (ys.length+[x].length)).toArray.size=cs.size:=by
    simp only[List.size_toArray,length_append,List.length_take,List.length_drop,Array.length_toList,List.length_singleton];omega
   have Kl:∀i,i≠ys.length->(cs.toList.take ys.length++[x]++cs.toList.drop (ys.length+[x].length)).toArray[i]?=cs[i]?:=fun i hi=>by
    rw[List.getElem?_toArray,append_assoc]
    by_cases Sh:i<ys.length
    ·rw[List.getElem?_append_left (by simp;omega),List.getElem?_take_of_lt Sh,Array.getElem?_toList]
    ·rw[List.getElem?_append_right (by simp;omega)];simp only[List.length_take,Array.length_toList,Nat.min_eq_left h4,List.singleton_append,List.length_singleton];rw[show i-ys.length=(i-ys.length-1)+1 by omega,List.getElem?_cons_succ,List.getElem?_drop,Array.getElem?_toList];congr 1;omega
   have E6:(cs.toList.take ys.length++[x]++cs.toList.drop (ys.length+[x].length)).toArray[ys.length]?=some x:=by
    rw[List.getElem?_toArray,append_assoc,List.getElem?_append_right (by simp;omega)];simp[Nat.min_eq_left h4]
   refine⟨_,_,g::ow',hr,?_,?_,?_,?_⟩
   ·refine inr ⟨g,_,by rw[Ke,length_append];rfl,Jn,h3,by rw[Ke,length_append];exact Pa,by rw[Ke];exact h5,fun i y hy=>?_,fun i hi Mb=>?_,rfl,h9⟩
    ·by_cases hi:i=ys.length
     ·subst hi;rw[List.getElem?_append_right (le_refl _)]at hy;simp at hy;subst hy;exact E6
     ·have Jt:i<ys.length:=by
       have:=(List.getElem?_eq_some_iff.1 hy).1;simp at this;omega
      rw[Kl i hi];rw[List.getElem?_append_left Jt]at hy;exact h6 i y hy
    ·rw[length_append,List.length_singleton]at hi;rw[Ke]at Mb;rw[Kl i (by omega)];exact h7 i (by omega) Mb
   ·refine k0.fill (n:=ys.length) h3 Ov (h7 _ (le_refl _) (by omega)) (by simp[World.setRow]) Sx Jn Ke Kl ⟨rfl,rfl,rfl⟩
   ·exact fun b hb=>(Sx b fun e=>by subst e;exact h9 hb).trans (aS e0 (Js b hb))
   ·exact fun k c t f ht hc=>(Sx k fun e=>by subst e;rw[h2]at hc;exact ht (aN hc).symm).trans (aS e0 (aB hc))
  ·have Oc:cs.size=ys.length:=by omega
   have holds:∀j y,ys[j]?=some y->w0.cell? ((⟨g,0,none⟩:Addr).add j)=some y:=fun j y hj=>by
    rw[Addr.add_lit,Nat.zero_add];simp[cell?,Ov,h6 j y hj]
   have hr:=run_append_grow (P:=prog) w0 dT dT bL i0 .nilIface underlying263 hi Og ⟨g,0,none⟩ ys.length cs.size ys (by rw[Lz];omega) holds ⟨w.heap.size,0,none⟩ 1 1 [x] (by rw[Lz];rfl) Ks (by omega) (by omega) (growslice_fits (by omega) (by rw[Nj];omega));obtain⟨ow2,q⟩:=Mw _ (grownCap_ge w0 (ys.length+1) cs.size bL) (grownCap_le_maxLen w0 (ys.length+1) cs.size bL (by unfold maxLen;omega)) (w0.drew.alloc (.cells (ys.toArray++[x].toArray++zeroCells (Value.cells .nilIface) (grownCap w0 (ys.length+1) cs.size bL-(ys.length+1))) bL)) ⟨rfl,rfl,rfl,rfl⟩;exact⟨_,_,ow2,hr,q⟩
end
section
variable {b1 b2 b3 b4 K K':Nat}{p:Option Addr}{cs cs':Array Value}{w:World}{P:Value->World->Prop}{av:Value}
def RT{kv:Value}(h1:w.cell? ⟨b1,0,none⟩=some (.func (.func K) #[] cs))(HE:aF K)(hc:Calls prog K (#[.pointer p,.slice none 0 0,kv]++cs) w (RQ P)) :
  Calls prog 230 #[.pointer p,kv,aA b1] w (RQ P):=by
 have hE:=fun(args:Array Value) (w:World)=>HE args w;have HC:=aC hc;clear hc HE;unfold aA at *;go_enter func230,ntmps230;go_wp2_with fail;refine(HC.out).mono ?_;rintro e w'⟨rv,rfl,hq⟩;go_wp2;refine bodyPost_ret (v:=rv) (by simp[results,results230,go_sem]) rfl ⟨rv,rfl,hq⟩
def RU{a:Option Addr}{n c:Nat}(h1:w.cell? ⟨b1,0,none⟩=some (.func (.func K) #[] cs))(HE:aF K)
  (hc:Calls prog K (#[.pointer p,.func (.func 229) #[] #[aA b2,aA w.heap.size,aA (w.heap.size+1),aA (w.heap.size+1+1)]]++cs) (((w.alloc (.cells #[.pointer p] aV)).alloc (.cells #[.slice a n c] dT)).alloc (.cells #[.func (.func K') #[] cs'] aZ)) (RQ P)) :
  Calls prog 228 #[.pointer p,.slice a n c,.func (.func K') #[] cs',aA b1,aA b2] w (RQ P):=by
 have hE:=fun(args:Array Value) (w:World)=>HE args w;have c1:=bX (o:=.cells #[.func (.func K') #[] cs'] aZ) (bX (o:=.cells #[.slice a n c] dT) (bX (o:=.cells #[.pointer p] aV) h1));have HC:=aC hc;clear hc HE h1;unfold aA at *;go_enter func228,ntmps228;go_wp2_with fail;refine(HC.out).mono ?_;rintro e w'⟨rv,rfl,hq⟩;go_wp2;refine bodyPost_ret (v:=rv) (by simp[results,results228,go_sem]) rfl ⟨rv,rfl,hq⟩
def RX{a:Option Addr}{n c:Nat}{s:ByteArray}(h1:w.cell? ⟨b1,0,none⟩=some (.string s))(HE:aF K)
  (hc:∀u,PEq u w (.cells #[.string s,.slice a n c] lM (0,0))->Calls prog K (#[.iface kQ (aA w.heap.size)]++cs) u (RQ P)) :
  Calls prog 226 #[.pointer p,.slice a n c,.func (.func K) #[] cs,aA b1] w (RQ P):=by
 have hE:=fun(args:Array Value) (w:World)=>HE args w;have HC:=aC hc;clear hc HE;unfold aA at *;go_enter func226,ntmps226;go_wp2_with fail;refine(HC.out _ (PEq.alloc _ _)).mono ?_;rintro e w'⟨rv,rfl,hq⟩;go_wp2;refine bodyPost_ret (v:=rv) (by simp[results,results226,go_sem]) rfl ⟨rv,rfl,hq⟩
def YA{kv x av':Value}{u:World}(hx:FK x)(h1:w.cell? ⟨b1,0,none⟩=some (.func (.func K) #[] cs))(h2:w.cell? ⟨b2,0,none⟩=some (.pointer p))(h3:w.cell? ⟨b3,0,none⟩=some av)(h4:w.cell? ⟨b4,0,none⟩=some kv)(HE:aF K)
  (hr:(append_ #[dT,dT] dT #[av,.slice (some ⟨w.heap.size,0,none⟩) 1 1]).run prog (w.alloc (.cells #[x] bL)).drew=.ok av' u)
  (k1:u.cell? ⟨b1,0,none⟩=some (.func (.func K) #[] cs)) (k2:u.cell? ⟨b2,0,none⟩=some (.pointer p)) (k3:u.cell? ⟨b3,0,none⟩=some av) (k4:u.cell? ⟨b4,0,none⟩=some kv)
  (hc:Calls prog K (#[.pointer p,av',kv]++cs) u (RQ fun rv u'=>P rv u'/\u'.cell? ⟨b1,0,none⟩=some (.func (.func K) #[] cs)/\u'.cell? ⟨b2,0,none⟩=some (.pointer p)/\u'.cell? ⟨b3,0,none⟩=some av/\u'.cell? ⟨b4,0,none⟩=some kv)) :
  Calls prog 229 #[x,aA b1,aA b2,aA b3,aA b4] w (RQ P):=by
 have hE:=fun(args:Array Value) (w:World)=>HE args w;have HC:=aC hc;have HR:=aC hr;clear HE hc hr;unfold aA at *;have c1:w.drew.cell? ⟨b1,0,none⟩=some (.func (.func K) #[] cs):=h1;have c2:w.drew.cell? ⟨b2,0,none⟩=some (.pointer p):=h2;have c3:w.drew.cell? ⟨b3,0,none⟩=some av:=h3;have c4:w.drew.cell? ⟨b4,0,none⟩=some kv:=h4;have d1:(w.alloc (.cells #[x] bL)).drew.cell? ⟨b1,0,none⟩=some (.func (.func K) #[] cs):=bX h1;have d2:(w.alloc (.cells #[x] bL)).drew.cell? ⟨b2,0,none⟩=some (.pointer p):=bX h2;have d3:(w.alloc (.cells #[x] bL)).drew.cell? ⟨b3,0,none⟩=some av:=bX h3;have d4:(w.alloc (.cells #[x] bL)).drew.cell? ⟨b4,0,none⟩=some kv:=bX h4;clear h1 h2 h3 h4;rcases hx with⟨tx,vx,rfl⟩|rfl
 all_goals
  go_enter func229,ntmps229;go_wp2_with fail
  go_region_held2 (fun w'=>w'.cell? ⟨b1,0,none⟩=some (.func (.func K) #[] cs)/\w'.cell? ⟨b2,0,none⟩=some (.pointer p)/\w'.cell? ⟨b3,0,none⟩=some av/\w'.cell? ⟨b4,0,none⟩=some kv) (first|exact⟨c1,c2,c3,c4⟩|exact⟨d1,d2,d3,d4⟩|exact⟨k1,k2,k3,k4⟩)
   (first|((with_reducible refine(HC.out).mono ?_);rintro e w'⟨rv,rfl,hq,c1,c2,c3,c4⟩)|(refine lP rfl _ _ _ rfl (by simp[Act.eval,Act.put]) (by simp[Act.eval,Act.put]) HR.out ?_))
  all_goals
   go_wp2;refine bodyPost_ret (v:=rv) (by simp[results,results229,go_sem]) rfl ⟨rv,rfl,hq⟩
end
def MH(v:Value)(w:World):(Instr.typeAssert (.iface 264 v) 173 264 false).run prog w=.ok v w:=by kernel_rfl
def uY(w:World)(K1 K2:Nat)(c1 c2:Array Value):∃w1 w2,(store ⟨w.heap.size,0,none⟩ (.func (.func K1) #[] c1)).run prog (w.alloc (.cells #[.nilFunc,.nilFunc] cW))=.ok () w1/\(store ⟨w.heap.size,1,none⟩ (.func (.func K2) #[] c2)).run prog w1=.ok () w2/\Kn (fun _=>False) w w2/\w2.cell? ⟨w.heap.size,0,none⟩=some (.func (.func K1) #[] c1)/\w2.cell? ⟨w.heap.size,1,none⟩=some (.func (.func K2) #[] c2):=by
 have h0:(w.alloc (.cells #[.nilFunc,.nilFunc] cW)).heap[w.heap.size]?=some (.cells #[.nilFunc,.nilFunc] cW (0,0)):=by simp only[bC,if_pos]
 have u1:=Upd.set h0 0 (.func (.func K1) #[] c1);have u2:=Upd.set u1.here 1 (.func (.func K2) #[] c2);refine⟨(w.alloc (.cells #[.nilFunc,.nilFunc] cW)).setCell ⟨w.heap.size,0,none⟩ (.func (.func K1) #[] c1),_,?_,?_,((((Kn.refl _ w).alloc _).set (p:=⟨w.heap.size,0,none⟩) (inr (le_refl _)) (.func (.func K1) #[] c1))).set (p:=⟨w.heap.size,1,none⟩) (inr (le_refl _)) (.func (.func K2) #[] c2),(aP u2.here 0).trans rfl,(aP u2.here 1).trans rfl⟩
 ·rw[run_store prog _ _ _ _ rfl,show (w.alloc (.cells #[.nilFunc,.nilFunc] cW)).cell? ⟨w.heap.size,0,none⟩=some .nilFunc from(aP h0 0).trans rfl];simp only[cP h0 0];rfl
 ·rw[run_store prog _ _ _ _ rfl,show ((w.alloc (.cells #[.nilFunc,.nilFunc] cW)).setCell ⟨w.heap.size,0,none⟩ (.func (.func K1) #[] c1)).cell? ⟨w.heap.size,1,none⟩=some .nilFunc from(aP u1.here 1).trans rfl];simp only[cP u1.here 1];rfl
def aF.pvar:aF 223:=enters func223 (by kernel_rfl) rfl
section
variable {b1 b2 b3 b4 K K':Nat}{p:Option Addr}{cs cs':Array Value}{w:World}{P:Value->World->Prop}{x kv:Value}
def XY(h1:w.cell? ⟨b1,0,none⟩=some (.func (.func K) #[] cs))(HE:aF K)
  (hc:Calls prog K (#[.pointer p,.func (.func 176) #[] #[aA b2,aA w.heap.size,aA (w.heap.size+1)]]++cs) ((w.alloc (.cells #[.pointer p] aV)).alloc (.cells #[.func (.func K') #[] cs'] aZ)) (RQ P)) :
  Calls prog 175 #[.pointer p,.func (.func K') #[] cs',aA b1,aA b2] w (RQ P):=by
 have hE:=fun(args:Array Value) (w:World)=>HE args w;have c1:=bX (o:=.cells #[.func (.func K') #[] cs'] aZ) (bX (o:=.cells #[.pointer p] aV) h1);have HC:=aC hc;clear hc HE h1;unfold aA at *;go_enter func175,ntmps175;go_wp2_with fail;refine(HC.out).mono ?_;rintro e w'⟨rv,rfl,hq⟩;go_wp2;refine bodyPost_ret (v:=rv) (by simp[results,results175,go_sem]) rfl ⟨rv,rfl,hq⟩
def TK(hx:FK x):Calls prog 223 #[x,.pointer p] w fun e u=>e=.returned (.tuple #[aA w.heap.size,.bool true])/\PEq u w (.cells #[x,.pointer p] bD (0,0)):=by
 have HW:=aC (kE p hx w);unfold aA at *;go_enter func223,ntmps223;go_wp2_with fail;refine(HW.out).mono ?_;rintro e u⟨rfl,rfl⟩;go_wp2;refine bodyPost_ret (v:=.tuple #[.pointer (some ⟨w.heap.size,0,none⟩),.bool true]) (by simp[results,results223,go_sem]) rfl ⟨rfl,PEq.alloc _ _⟩
def dP{w u:World}(hk:Kn (fun _=>False) w u){b i:Nat}{v:Value}(h:w.cell? ⟨b,i,none⟩=some v):u.cell? ⟨b,i,none⟩=some v:=by
 unfold cell? at h ⊢
 cases hc:w.heap[b]? with
 |none=>simp[hc]at h
 |some o=>rw[show u.heap[b]?=w.heap[b]? from hk.block b (aB hc) id];exact h
def HEq.kn{w u:World}(h:HEq u w):Kn (fun _=>False) w u:=⟨h.so.os,h.so.tape,h.so.output,by rw[h.heap];exact le_refl _,fun k _ _=>by rw[h.heap]⟩
def PEq.kn{w u:World}{o:Obj}(h:PEq u w o):Kn (fun _=>False) w u:=⟨h.so.os,h.so.tape,h.so.output,by rw[bP h];omega,fun k hk _=>aS h hk⟩
def PEq.of{w u v:World}{o:Obj}(h:PEq u v o)(e:HEq v w):PEq u w o:=⟨by rw[h.heap,e.heap],e.so.trans h.so⟩
def tI(w:World)(xs:List Value)(sv:Value):Nat->World->Value->Prop
 |0,u,v=>HEq u w/\v=sv
 |n+1,u,v=>∃u1 v1 x,tI w xs sv n u1 v1/\xs[n]?=some x/\v=aA u1.heap.size/\PEq u u1 (.cells #[x,v1] bD (0,0))
def tI.kn{xs:List Value}{sv:Value}:∀{n:Nat}{u:World}{v:Value},tI w xs sv n u v->Kn (fun _=>False) w u:=by
 intro n
 induction n with
 |zero=>intro u v h;exact h.1.kn
 |succ n ih=>intro u v h;obtain⟨u1,v1,x,h1,_,_,h2⟩:=h;exact(ih h1).trans h2.kn
def TQ{b a1 a2:Nat}{nm s:ByteArray}{sl ps:Value}(h1:w.heap[b]?=some (.cells #[.string nm,sl] lM (0,0)))(h2:w.cell? ⟨a1,0,none⟩=some (.string s))(Ju:(nm.toList==s.toList)=false) :
  Calls prog 278 #[.iface kQ (aA b),.pointer p,aA a1,aA a2] w fun e u=>e=.returned (.tuple #[.pointer p,.bool false])/\HEq u w:=by
 have ha:=MH;have c0:w.drew.cell? ⟨b,0,none⟩=some (.string nm):=(aP (w:=w.drew) h1 0).trans rfl;have c1:w.drew.cell? ⟨a1,0,none⟩=some (.string s):=h2;clear h1 h2;unfold aA at *;go_enter func278,ntmps278;go_wp2_with fail
 go_region
 all_goals
  go_wp2_with fail;refine wp_loop_rounds 1 ?_;rw[rounds_succ];go_wp2_with fail;refine bodyPost_ret (v:=.tuple #[.pointer p,.bool false]) (by simp[results,results278,go_sem]) rfl ⟨rfl,HEq.drew w⟩
def TR{b a1 a2:Nat}{nm:ByteArray}{xs:List Value}{sl ps:Value}(h1:w.heap[b]?=some (.cells #[.string nm,sl] lM (0,0)))(hp:kY w xs sl)(hx:∀x∈xs,FK x)(hl:xs.length<=1000)(h2:w.cell? ⟨a1,0,none⟩=some (.string nm))(h3:w.cell? ⟨a2,0,none⟩=some ps)
  (h4:(xs.length=0/\∃a c,ps=.slice a 0 c)\/∃g cap cs,ps=.slice (some ⟨g,0,none⟩) xs.length cap/\w.heap[g]?=some (.cells cs kG (0,0))/\∀i,i<xs.length->cs[i]?=some (tQ 223 [])) :
  Calls prog 278 #[.iface kQ (aA b),.pointer p,aA a1,aA a2] w fun e u=>∃q,e=.returned (.tuple #[.pointer q,.bool true])/\tI w xs (.pointer p) xs.length u (.pointer q):=by
 have ha:=MH;have heq:(nm.toList==nm.toList)=true:=by simp
 have c0:w.drew.cell? ⟨b,0,none⟩=some (.string nm):=(aP (w:=w.drew) h1 0).trans rfl;have c1:w.drew.cell? ⟨a1,0,none⟩=some (.string nm):=h2;have i4:=aC (show tI w xs (.pointer p) 0 w.drew (.pointer p)from⟨HEq.drew w,rfl⟩)
 have Jz:∀(i:Nat)(wr:World)(q:Option Addr),tI w xs (.pointer p) i wr (.pointer q)->wr.cell? ⟨a2,0,none⟩=some ps/\wr.cell? ⟨b,1,none⟩=some sl/\(i<xs.length->∃g cap g2 cap2 x,ps=.slice (some ⟨g,0,none⟩) xs.length cap/\wr.cell? ⟨g,i,none⟩=some (.func (.func 223) #[] #[])/\sl=.slice (some ⟨g2,0,none⟩) xs.length cap2/\wr.cell? ⟨g2,i,none⟩=some x/\FK x /\
   ∀u,HEq u wr->Calls prog 223 #[x,.pointer q] u fun e u'=>∃q',e=.returned (.tuple #[.pointer q',.bool true])/\Hid (tI w xs (.pointer p) (i+1) u' (.pointer q'))):=fun i wr q hw=>by
  have hk:=hw.kn;refine⟨dP hk h3,dP hk ((aP h1 1).trans rfl),fun hi=>?_⟩;rcases h4 with⟨h0,_⟩|⟨g,cap,cs,e1,e2,e3⟩
  ·omega
  ·rcases hp with⟨rfl,_⟩|⟨g2,cap2,cs2,f1,f2,f3⟩
   ·simp at hi
   ·have hxi:xs[i]?=some xs[i]:=List.getElem?_eq_getElem hi;refine⟨g,cap,g2,cap2,xs[i],e1,dP hk ((aP e2 i).trans (e3 i hi)),f1,dP hk ((aP f2 i).trans (f3 i _ hxi)),hx _ (List.getElem_mem hi),fun u hu=>(TK (hx _ (List.getElem_mem hi))).mono ?_⟩;rintro e u'⟨rfl,h⟩;exact⟨_,rfl,aC ⟨wr,_,_,hw,hxi,by rw[hu.heap];rfl,h.of hu⟩⟩
 have HS:=aC Jz
 have Lu:∃a n c,ps=.slice a n c/\n=xs.length:=by
  rcases h4 with⟨h0,a,c,rfl⟩|⟨g,cap,cs,rfl,_⟩
  ·exact⟨a,0,c,rfl,h0.symm⟩
  ·exact⟨_,_,_,rfl,rfl⟩
 obtain⟨pa,pn,pc,rfl,A6⟩:=Lu;clear h1 h2 h3 h4 hp hx Jz;unfold aA at *;go_enter func278,ntmps278;go_wp2_with fail
 go_region
 all_goals
  go_wp2_with fail
  go_loopg [1,9,10] xs.length (fun gk v1 v9 v10 wr=>∃(i:Nat) (q:Option Addr),v1=.pointer q/\v9=.bool true/\v10=.int .i64 (i:Nat)/\i+gk=xs.length/\Hid (tI w xs (.pointer p) i wr (.pointer q)))
  case atStart=>exact⟨0,p,rfl,rfl,rfl,by omega,i4⟩
  case round=>
   clear i4;obtain⟨i,q,rfl,rfl,rfl,hi,HW⟩:=hrel;obtain⟨d1,d2,Ml⟩:=HS.out i wr q HW.out
   by_cases Js:i<xs.length
   ·obtain⟨g,cap,g2,cap2,x,e1,e2,e3,e4,e5,Jq⟩:=Ml Js;have Te:(i:Int)<(pn:Int):=by omega
    have Sh:i<xs.length:=Js;cases e1;subst e3;have HC:=aC Jq;have HU:=aC (HEq.drew wr);have z1:wr.drew.cell? ⟨a2,0,none⟩=some (.slice (some ⟨g,0,none⟩) xs.length pc):=d1;have z2:wr.drew.cell? ⟨b,1,none⟩=some (.slice (some ⟨g2,0,none⟩) xs.length cap2):=d2;have z3:wr.drew.cell? ⟨g,i,none⟩=some (.func (.func 223) #[] #[]):=e2;have z4:wr.drew.cell? ⟨g2,i,none⟩=some x:=e4;have hEp:=fun(args:Array Value) (w:World)=>aF.pvar args w;clear Jq Ml HW HS e5;go_wp2_with fail
    go_region_with ((with_reducible refine(HC.out _ HU.out).mono ?_);rintro e u⟨q',rfl,HW2⟩)
    all_goals
     go_wp2_with fail
     go_roundg (xs.length-(i+1))
     case rel=>exact⟨i+1,q',rfl,rfl,by go_num,by omega,HW2⟩
     case measure=>omega
   ·have Te:¬(i:Int)<(pn:Int):=by omega
    have he:i=xs.length:=by omega
    subst he;have HQ:=aC HW.out;clear Ml HW HS;go_wp2_with fail;refine bodyPost_ret (v:=.tuple #[.pointer q,.bool true]) (by simp[results,results278,go_sem]) rfl ⟨q,rfl,HQ.out⟩
def MU{g n cap j:Nat}(hx:FK x)(h1:w.cell? ⟨b1,0,none⟩=some (.slice (some ⟨g,0,none⟩) n cap))(h2:w.cell? ⟨b2,0,none⟩=some (.pointer p))(h3:w.cell? ⟨b3,0,none⟩=some kv)(hj:j<n)(hn:n<=1000)
  (Lg:∀i,i<j->∃Kpp csp Kb csb,w.cell? ⟨g,i*2,none⟩=some (.func (.func Kpp) #[] csp)/\w.cell? ⟨g,i*2+1,none⟩=some (.func (.func Kb) #[] csb)/\aF Kpp/\∀u,Kn (fun _=>False) w u->Calls prog Kpp (#[x,.pointer p]++csp) u fun e u'=>e=.returned (.tuple #[.pointer p,.bool false])/\Kn (fun _=>False) u u')
  (Zi:∃Kpp csp Kb csb,w.cell? ⟨g,j*2,none⟩=some (.func (.func Kpp) #[] csp)/\w.cell? ⟨g,j*2+1,none⟩=some (.func (.func Kb) #[] csb)/\aF Kpp/\aF Kb/\∀u,Kn (fun _=>False) w u->Calls prog Kpp (#[x,.pointer p]++csp) u fun e u'=>∃q,e=.returned (.tuple #[.pointer q,.bool true])/\Kn (fun _=>False) u u'/\Hid (Calls prog Kb (#[.pointer q,kv]++csb) u' (RQ P))) :
  Calls prog 176 #[x,aA b1,aA b2,aA b3] w (RQ P):=by
 have HN:=aC Lg;have HF:=aC Zi;have HC:=aC (show ∀u,Kn (fun _=>False) w u->u.cell? ⟨b2,0,none⟩=some (.pointer p)/\u.cell? ⟨b3,0,none⟩=some kv from fun u hk=>⟨dP hk h2,dP hk h3⟩);have HK0:=aC (Kn.refl (fun _=>False) w);clear Lg Zi h2 h3;unfold aA at *;go_enter func176,ntmps176;go_wp2_with fail
 go_loopg [12] j (fun gk v12 wr=>∃i:Nat,v12=.int .i64 (i:Nat)/\i+gk=j/\Hid (Kn (fun _=>False) w wr))
 case atStart=>exact⟨0,rfl,by omega,HK0⟩
 case round=>
  clear HK0;obtain⟨i,rfl,hi,HK⟩:=hrel;have Js:(i:Int)<(n:Int):=by omega
  have Sh:i<n:=by omega
  by_cases Qy:i<j
  ·obtain⟨Kpp,csp,Kb,csb,q1,q2,q3,q4⟩:=HN.out i Qy;have hEp:=fun(args:Array Value) (w:World)=>q3 args w;have r1:=dP HK.out q1;have r2:=dP HK.out q2;obtain⟨d2,d3⟩:=HC.out wr HK.out;obtain⟨w1,w2,s1,s2,k2,f0,f1⟩:=uY wr Kpp Kb csp csb;have HQ:=aC (q4 _ (HK.out.trans k2));have d2':=dP k2 d2;have Vl:=aC (HK.out.trans k2);clear q1 q2 q3 q4 HN HF k2;go_wp2_with fail;refine(HQ.out).mono ?_;rintro e u⟨rfl,Jy⟩;have Yo:=aC (Vl.out.trans Jy);clear Jy HQ HK Vl;go_wp2_with fail
   go_roundg (j-(i+1))
   case rel=>exact⟨i+1,by go_num,by omega,Yo⟩
   case measure=>omega
  ·have:i=j:=by omega
   subst this;obtain⟨Kpp,csp,Kb,csb,q1,q2,q3,q3b,q4⟩:=HF.out;have hEp:=fun(args:Array Value) (w:World)=>q3 args w;have Zp:=fun(args:Array Value) (w:World)=>q3b args w;have r1:=dP HK.out q1;have r2:=dP HK.out q2;obtain⟨d2,d3⟩:=HC.out wr HK.out;obtain⟨w1,w2,s1,s2,k2,f0,f1⟩:=uY wr Kpp Kb csp csb;have HQ:=aC (q4 _ (HK.out.trans k2));have d2':=dP k2 d2;have d3':=dP k2 d3;clear q1 q2 q3 q3b q4 HN HF k2;go_wp2_with fail;refine(HQ.out).mono ?_;rintro e u⟨q,rfl,Jy,HB⟩;have e1:=dP Jy f1;have e3:=dP Jy d3';clear Jy HQ HK HC;go_wp2_with fail;refine(HB.out).mono ?_;rintro e w'⟨rv,rfl,hq⟩;go_wp2;refine bodyPost_ret (v:=rv) (by simp[results,results176,go_sem]) rfl ⟨rv,rfl,hq⟩
end
def aF.always:aF 125:=enters func125 (by kernel_rfl) rfl
def aF.variable:aF 169:=enters func169 (by kernel_rfl) rfl
def aF.fun:aF 171:=enters func171 (by kernel_rfl) rfl
def aF.let:aF 189:=enters func189 (by kernel_rfl) rfl
def aF.rec:aF 187:=enters func187 (by kernel_rfl) rfl
def aF.choice:aF 234:=enters func234 (by kernel_rfl) rfl
def aF.seq:aF 126:=enters func126 (by kernel_rfl) rfl
def aF.calc:aF 241:=enters func241 (by kernel_rfl) rfl
def aF.apply:aF 231:=enters func231 (by kernel_rfl) rfl
def aF.let1:aF 190:=enters func190 (by kernel_rfl) rfl
def aF.rec1:aF 188:=enters func188 (by kernel_rfl) rfl
def aF.CR:aF 235:=enters func235 (by kernel_rfl) rfl
def aF.seq1:aF 127:=enters func127 (by kernel_rfl) rfl
def aF.DX:aF 242:=enters func242 (by kernel_rfl) rfl
def aF.DV:aF 243:=enters func243 (by kernel_rfl) rfl
def aF.CY:aF 232:=enters func232 (by kernel_rfl) rfl
def aF.DA:aF 233:=enters func233 (by kernel_rfl) rfl
def aF.DF:aF 220:=enters func220 (by kernel_rfl) rfl
def aF.DE:aF 221:=enters func221 (by kernel_rfl) rfl
def aF.fun1:aF 172:=enters func172 (by kernel_rfl) rfl
def aF.fun2:aF 173:=enters func173 (by kernel_rfl) rfl
def aF.wend:aF 93:=enters func93 (by kernel_rfl) rfl
def aF.con0:aF 226:=enters func226 (by kernel_rfl) rfl
def aF.con2:aF 228:=enters func228 (by kernel_rfl) rfl
def aF.CV:aF 229:=enters func229 (by kernel_rfl) rfl
def aF.con3:aF 230:=enters func230 (by kernel_rfl) rfl
def aF.CZ:aF 176:=enters func176 (by kernel_rfl) rfl
def aF.pcon:aF 278:=enters func278 (by kernel_rfl) rfl
def aF.mput:aF 61:=enters func61 (by kernel_rfl) rfl
def aF.mget:aF 62:=enters func62 (by kernel_rfl) rfl
def XM(B mb:Nat)(sa:List Nat)(w:World)(rv:Value)(m:Mach)(N:Nat)(out:Mach):Prop:=
 (∃c a sc k x v sv kv ow,Clo w rv 173 [(aW,x),(aV,sv),(bL,v),(aZ,kv)]/\fP mb w c x/\tS sa sc sv/\VM mb sa w a v/\lF B mb sa w ow k kv/\jX N (m.with a sc).2 (ev c (m.with a sc).1 (⟨13,[],[],0,[],[]⟩::k))=some (0,out)) \/
 (∃v x k kv ow,Clo w rv 221 [(aZ,kv),(bL,x)]/\VM mb sa w v x/\lF B mb sa w ow k kv/\jX N m (St.go v k)=some (0,out))
def jJ(B mb N:Nat)(out:Mach)(w0:World)(rv:Value)(w':World):Prop:=
 KR B w0 w'/\∃sa m,RM B mb sa m w'/\((rv=.nilFunc/\m=out)\/∃N',N'<N/\XM B mb sa w' rv m N' out)
def jJ.up{B mb N:Nat}{out:Mach}{w u:World}{rv:Value}{w':World}(hk:KR B w u)(h:jJ B mb N out u rv w'):jJ B mb (N+1) out w rv w':=by
 obtain⟨h1,sa,m,h2,h3⟩:=h;refine⟨hk.trans h1,sa,m,h2,?_⟩;rcases h3 with h3|⟨N',h4,h5⟩
 ·exact inl h3
 ·exact inr ⟨N',by omega,h5⟩
def cJ{B mb N K:Nat}{out:Mach}{args:Array Value}{w u:World}(hk:KR B w u)(h:Calls prog K args u (RQ (jJ B mb N out u))):Calls prog K args u (RQ (jJ B mb (N+1) out w)):=
 h.mono (by rintro e w'⟨rv,rfl,hp⟩;exact⟨rv,rfl,hp.up hk⟩)
def Jb(v:Value)(args:Array Value)(w:World)(P:Value->World->Prop):Prop:=∃K cs,v=.func (.func K) #[] cs/\aF K/\Calls prog K (args++cs) w (RQ P)
def Hx(B mb:Nat)(out:Mach)(N:Nat):Prop:=∀(sa:List Nat)(m:Mach)(w:World)(c:Cd)(sc:Nat)(k:List Fr)(cv sv kv:Value)(ow:List Nat),RM B mb sa m w->fP mb w c cv->tS sa sc sv->lF B mb sa w ow k kv->jX N m (ev c sc k)=some (0,out)->Jb cv #[sv,kv] w (jJ B mb N out w)
def Hw(B mb:Nat)(out:Mach)(N:Nat):Prop:=∀(sa:List Nat)(m:Mach)(w:World)(r:RV)(k:List Fr)(x kv:Value)(ow:List Nat),RM B mb sa m w->VM mb sa w r x->lF B mb sa w ow k kv->jX N m (St.go r k)=some (0,out)->Jb kv #[x] w (jJ B mb N out w)
def bV{N:Nat}{m m':Mach}{s s':St}{r:Nat×Mach}(h:jX (N+1) m s=some r)(hs:jQ m s=.inr (m',s')):jX N m' s'=some r:=by
 rw[jX,hs]at h;exact h
def gH{N e:Nat}{m:Mach}{s:St}{r:Nat×Mach}(h:jX (N+1) m s=some r)(hs:jQ m s=.inl e):r=(e,m):=by
 rw[jX,hs]at h;exact(Option.some.inj h).symm
def Bxs.one{w:World}{t:TypeId}{v:Value}{l:List Nat}(h:Bxs w [(t,v)] l):∃b,l=[b]/\w.heap[b]?=some (.cells #[v] t (0,0)):=by
 match l,h with
 |[b],h=>exact⟨b,rfl,h.1⟩
def Bxs.two{w:World}{t t2:TypeId}{v v2:Value}{l:List Nat}(h:Bxs w [(t,v),(t2,v2)] l):∃b b2,l=[b,b2]/\w.heap[b]?=some (.cells #[v] t (0,0))/\w.heap[b2]?=some (.cells #[v2] t2 (0,0)):=by
 match l,h with
 |[b,b2],h=>exact⟨b,b2,rfl,h.1,h.2.2.1⟩
def Bxs.three{w:World}{t t2 t3:TypeId}{v v2 v3:Value}{l:List Nat}(h:Bxs w [(t,v),(t2,v2),(t3,v3)] l):∃b b2 b3,l=[b,b2,b3]/\w.heap[b]?=some (.cells #[v] t (0,0))/\w.heap[b2]?=some (.cells #[v2] t2 (0,0))/\w.heap[b3]?=some (.cells #[v3] t3 (0,0)):=by
 match l,h with
 |[b,b2,b3],h=>exact⟨b,b2,b3,rfl,h.1,h.2.2.1,h.2.2.2.2.1⟩
def Bxs.four{w:World}{t t2 t3 t4:TypeId}{v v2 v3 v4:Value}{l:List Nat}(h:Bxs w [(t,v),(t2,v2),(t3,v3),(t4,v4)] l):∃b b2 b3 b4,l=[b,b2,b3,b4]/\w.heap[b]?=some (.cells #[v] t (0,0))/\w.heap[b2]?=some (.cells #[v2] t2 (0,0))/\w.heap[b3]?=some (.cells #[v3] t3 (0,0))/\w.heap[b4]?=some (.cells #[v4] t4 (0,0)):=by
 match l,h with
 |[b,b2,b3,b4],h=>exact⟨b,b2,b3,b4,rfl,h.1,h.2.2.1,h.2.2.2.2.1,h.2.2.2.2.2.2.1⟩
def cO{v:Value}:pZ aW v:=inl (by unfold Fixed;decide)
def eC{v:Value}:pZ aZ v:=inl (by unfold Fixed;decide)
def iH{v:Value}:pZ aV v:=inl (by unfold Fixed;decide)
def oJ{v:Value}(h:v≠.nilIface):pZ bL v:=inr ⟨rfl,h⟩
def wT{v:Value}:pZ pD v:=inl (by unfold Fixed;decide)
def IW{v:Value}:pZ 1 v:=inl (by unfold Fixed;decide)
def Hl{v:Value}:pZ 3 v:=inl (by unfold Fixed;decide)
def PG{v:Value}:pZ iD v:=inl (by unfold Fixed;decide)
def wS{v:Value}:pZ dT v:=inl (by unfold Fixed;decide)
def VL{v:Value}:pZ dU v:=inl (by unfold Fixed;decide)
def lF.form{B mb:Nat}{sa ow:List Nat}{w:World}{k:List Fr}{v:Value}(h:lF B mb sa w ow k v):∃K cs,v=.func (.func K) #[] cs/\aF K:=by
 cases k with
 |nil=>obtain⟨_,h0,l,rfl,_⟩:=h;exact⟨_,_,rfl,h0⟩
 |cons f k=>
  obtain⟨_,_,_,_,_,_,_,_,_,⟨_,_,_,_,h0,l,rfl,_⟩|⟨_,_,_,_,h0,l,rfl,_⟩|⟨_,_,_,_,_,_,h0,l,rfl,_⟩⟩:=h
  all_goals exact⟨_,_,rfl,h0⟩
def Each.one{α β:Type}{R:α->β->Prop}{ps:List α}{x:β}(h:Each R ps [x]):∃a,ps=[a]/\R a x:=by
 match ps,h with
 |[a],h=>exact⟨a,rfl,h.1⟩
def Each.two{α β:Type}{R:α->β->Prop}{ps:List α}{x y:β}(h:Each R ps [x,y]):∃a b,ps=[a,b]/\R a x/\R b y:=by
 match ps,h with
 |[a,b],h=>exact⟨a,b,rfl,h.1,h.2.1⟩
def Each.three{α β:Type}{R:α->β->Prop}{ps:List α}{x y z:β}(h:Each R ps [x,y,z]):∃a b c,ps=[a,b,c]/\R a x/\R b y/\R c z:=by
 match ps,h with
 |[a,b,c],h=>exact⟨a,b,c,rfl,h.1,h.2.1,h.2.2.1⟩
def pB.form{mb:Nat}{w:World}{d:Nat}{c:Cd}{v:Value}(h:pB mb w d c v):∃K cs,v=.func (.func K) #[] cs/\aF K:=by
 cases d with
 |zero=>exact h.elim
 |succ d=>
  obtain⟨_,_,_,⟨_,_,_,h0,l,rfl,_⟩|⟨_,_,_,_,h0,l,rfl,_⟩|⟨_,_,_,_,_,_,h0,l,rfl,_⟩⟩:=h
  all_goals exact⟨_,_,rfl,h0⟩
def FA.form{w:World}{nm:Nm}{xs:List Value}{v:Value}(h:FA w nm xs v):∃K cs,v=.func (.func K) #[] cs/\aF K:=by
 cases xs with
 |nil=>obtain⟨h0,l,rfl,_⟩:=h;exact⟨_,_,rfl,h0⟩
 |cons x r=>obtain⟨_,_,h0,l,rfl,_⟩:=h;exact⟨_,_,rfl,h0⟩
section
variable {mb:Nat}{sa:List Nat}{w:World}
def VM.num{n:Int}(h:QX n):VM mb sa w (RV.num n) (jB n):=⟨1,inl ⟨rfl,rfl,h⟩⟩
def VM.bool(b:Bool):VM mb sa w (RV.bool b) (qJ b):=⟨1,inr (inl ⟨rfl,by cases b<;>rfl⟩)⟩
def VM.unit:VM mb sa w RV.unit iW:=⟨1,inr (inr (inl ⟨rfl,rfl⟩))⟩
def Each.depth{xs:List Value}:∀{l:List RV},Each (VM mb sa w) l xs->∃n,Each (VMd mb sa w n) l xs:=by
 have up:∀n r v,VMd mb sa w n r v->VMd mb sa w (n+1) r v:=by
  intro n
  induction n with
  |zero=>intro r v h;exact h.elim
  |succ n ih=>
   intro r v h;rcases h with h|h|h|h|h|h|h|⟨h1,b,sl,xs,h2,h3,h4,h5⟩
   ·exact inl h
   ·exact inr (inl h)
   ·exact inr (inr (inl h))
   ·exact inr (inr (inr (inl h)))
   ·exact inr (inr (inr (inr (inl h))))
   ·exact inr (inr (inr (inr (inr (inl h)))))
   ·exact inr (inr (inr (inr (inr (inr (inl h))))))
   ·exact inr (inr (inr (inr (inr (inr (inr ⟨h1,b,sl,xs,h2,h3,h4.imp ih,h5⟩))))))
 have ups:∀d n r v,VMd mb sa w n r v->VMd mb sa w (n+d) r v:=by
  intro d
  induction d with
  |zero=>intro n r v h;exact h
  |succ d ih=>intro n r v h;exact up _ _ _ (ih n r v h)
 induction xs with
 |nil=>intro l h;cases l with|nil=>exact⟨0,trivial⟩|cons=>exact h.elim
 |cons x xs ih=>
  intro l h
  cases l with
  |nil=>exact h.elim
  |cons r l=>
   obtain⟨n,hn⟩:=h.1;obtain⟨k,hk⟩:=ih h.2;exact⟨n+k,ups k n _ _ hn,hk.imp fun a b hq=>by rw[Nat.add_comm];exact ups n k _ _ hq⟩
def VM.data{b:Nat}{sl:Value}{nm:Nm}{l:List RV}{xs:List Value}(h:w.heap[b]?=some (.cells #[.string (bs nm),sl] lM (0,0)))(h1:Each (VM mb sa w) l xs)(h2:kY w xs sl):VM mb sa w (RV.data nm l) (.iface kQ (aA b)):=
 h1.depth.elim fun n hn=>⟨n+1,inr (inr (inr (inr (inr (inr (inr ⟨rfl,b,sl,xs,rfl,h,hn,h2⟩))))))⟩
end
def Ad{B mb:Nat}{sa:List Nat}{m:Mach}{w:World}(hM:RM B mb sa m w):∀(n sc:Nat)(p:Option Addr),tS sa sc (.pointer p)->¬9<=(m.out n sc).tag->∃y,(∀u:World,HEq u w->Dc u n p y)/\VM mb sa w (m.out n sc) y:=by
 intro n
 induction n with
 |zero=>
  intro sc p hS ht;rw[Mach.out]at ht ⊢
  by_cases h0:sc=0
  ·rw[if_pos h0]at ht;exact absurd (by decide) ht
  rw[if_neg h0]at ht ⊢
  cases hq:m.scopes[sc-1]? with
  |none=>rw[hq]at ht;exact absurd (by decide) ht
  |some q=>
   obtain⟨b,x,ov,q1,q2,q3,q4⟩:=hM.scope _ q.1 q.2 hq;rw[hq]at ht;refine⟨x,fun u hu=>?_,q3.resolve_right fun h=>ht (by show 9<=q.1.tag;omega)⟩;rcases hS with⟨h1,_⟩|⟨b',_,h2,h3⟩
   ·exact absurd h1 h0
   ·rw[q1]at h2;cases h2;refine⟨b,by simpa [aA]using h3,?_⟩;rw[aP (c:=#[x,ov]) (t:=bD) (f:=(0,0)) (by rw[hu.heap];exact q2)];rfl
 |succ n ih=>
  intro sc p hS ht;rw[Mach.out]at ht ⊢
  by_cases h0:sc=0
  ·rw[if_pos h0]at ht;exact absurd (by decide) ht
  rw[if_neg h0]at ht ⊢
  cases hq:m.scopes[sc-1]? with
  |none=>
   rw[hq]at ht;exfalso;refine ht ?_
   show 9<=(m.out n 0).tag
   cases n with
   |zero=>rw[Mach.out,if_pos rfl];decide
   |succ n=>rw[Mach.out,if_pos rfl];decide
  |some q=>
   rw[hq]at ht;obtain⟨b,x,ov,q1,q2,q3,q4⟩:=hM.scope _ q.1 q.2 hq;obtain⟨pp,rfl⟩:=q4.ptr;obtain⟨y,y1,y2⟩:=ih q.2 pp q4 ht;refine⟨y,fun u hu=>?_,y2⟩;rcases hS with⟨h1,_⟩|⟨b',_,h2,h3⟩
   ·exact absurd h1 h0
   ·rw[q1]at h2;cases h2;refine⟨b,pp,by simpa [aA]using h3,?_,y1 u hu⟩;rw[aP (c:=#[x,.pointer pp]) (t:=bD) (f:=(0,0)) (by rw[hu.heap];exact q2)];rfl
section
variable {B mb N:Nat}{out:Mach}{sa:List Nat}{m:Mach}{w u:World}{c:Cd}{sc:Nat}{k:List Fr}{cv sv kv:Value}
structure Gh(B:Nat)(w u:World)(p:Option Addr)(kv:Value):Prop where
 kr:KZ B w u
 sc:u.heap[w.heap.size]?=some (.cells #[.pointer p] aV (0,0))
 nx:u.heap[w.heap.size+1]?=some (.cells #[kv] aZ (0,0))
 old:∀k,k<w.heap.size->u.heap[k]?=w.heap[k]?
 size:u.heap.size=w.heap.size+2
def NG(B:Nat)(w:World)(p:Option Addr)(kv:Value):Gh B w ((w.alloc (.cells #[.pointer p] aV)).alloc (.cells #[kv] aZ)) p kv:=by
 have e1:PEq (w.alloc (.cells #[.pointer p] aV)) w (.cells #[.pointer p] aV (0,0)):=PEq.alloc _ _;have e2:PEq ((w.alloc (.cells #[.pointer p] aV)).alloc (.cells #[kv] aZ)) (w.alloc (.cells #[.pointer p] aV)) (.cells #[kv] aZ (0,0)):=PEq.alloc _ _;have s1:=bP e1;refine⟨((KZ.refl B w).push e1).push e2,(aS e2 (by omega)).trans (bT e1),by rw[<- s1];exact bT e2,fun k hk=>(aS e2 (by omega)).trans (aS e1 hk),by rw[bP e2,s1]⟩
def Gh.rm{p:Option Addr}{kv:Value}(h:Gh B w u p kv)(hr:RM B mb sa m w):RM B mb sa m u:=hr.more (by rw[h.size];omega) h.old h.kr.kr.so
structure KC(B:Nat)(w u:World)(p:Option Addr)(av kv:Value):Prop where
 kr:KZ B w u
 sc:u.heap[w.heap.size]?=some (.cells #[.pointer p] aV (0,0))
 vs:u.heap[w.heap.size+1]?=some (.cells #[av] dT (0,0))
 nx:u.heap[w.heap.size+1+1]?=some (.cells #[kv] aZ (0,0))
 old:∀k,k<w.heap.size->u.heap[k]?=w.heap[k]?
 size:w.heap.size<=u.heap.size
def SJ(B:Nat)(w:World)(p:Option Addr)(av kv:Value):KC B w (((w.alloc (.cells #[.pointer p] aV)).alloc (.cells #[av] dT)).alloc (.cells #[kv] aZ)) p av kv:=by
 have e1:PEq (w.alloc (.cells #[.pointer p] aV)) w (.cells #[.pointer p] aV (0,0)):=PEq.alloc _ _;have e2:PEq ((w.alloc (.cells #[.pointer p] aV)).alloc (.cells #[av] dT)) (w.alloc (.cells #[.pointer p] aV)) (.cells #[av] dT (0,0)):=PEq.alloc _ _;have e3:PEq (((w.alloc (.cells #[.pointer p] aV)).alloc (.cells #[av] dT)).alloc (.cells #[kv] aZ)) ((w.alloc (.cells #[.pointer p] aV)).alloc (.cells #[av] dT)) (.cells #[kv] aZ (0,0)):=PEq.alloc _ _;have s1:=bP e1;have s2:=bP e2;have s3:=bP e3;refine⟨(((KZ.refl B w).push e1).push e2).push e3,(aS e3 (by omega)).trans ((aS e2 (by omega)).trans (bT e1)),?_,?_,fun k hk=>(aS e3 (by omega)).trans ((aS e2 (by omega)).trans (aS e1 hk)),by omega⟩
 ·rw[<- s1];exact(aS e3 (by omega)).trans (bT e2)
 ·rw[<- s1,<- s2];exact bT e3
def KC.rm{p:Option Addr}{av kv:Value}(h:KC B w u p av kv)(hr:RM B mb sa m w):RM B mb sa m u:=hr.more h.size h.old h.kr.kr.so
def Each.nil{α β:Type}{R:α->β->Prop}{ps:List α}(h:Each R ps ([]:List β)):ps=[]:=by
 match ps,h with
 |[],_=>rfl
def Bo(hE:Hx B mb out N)(hG:Hw B mb out N):Hx B mb out (N+1):=by
 intro sa m w c sc k cv sv kv ow hM hC hS hK hr;obtain⟨d,hC⟩:=hC
 cases d with
 |zero=>exact hC.elim
 |succ d=>
 obtain⟨⟨Kg,M4⟩,xs,hx,hF⟩:=hC;obtain⟨p,rfl⟩:=hS.ptr;obtain⟨K',cs',rfl,Tq⟩:=hK.form;obtain⟨op,n,nm,ps,pts⟩:=c;rcases hF with⟨K,bl,hf,Wg,l,rfl,hb⟩|⟨hop,Jm,wv,hw,Wg,l,rfl,hb⟩|⟨hop,x,r,wv,rfl,hw,Wg,l,rfl,hb⟩
 ·refine⟨K,(l.map aA).toArray,rfl,Wg,?_⟩;unfold IZ at hf;split at hf<;>cases hf
  ·
   rename_i hop;have hop:op=0:=hop;subst hop;obtain⟨b1,rfl,e1⟩:=hb.one;have Lj:=bV hr (m':=m) (s':=St.go (RV.num n) k) rfl;obtain⟨K2,cs2,Vu,_,Jq⟩:=hG sa m w (RV.num n) k (jB n) _ ow hM (VM.num Kg) hK Lj;cases Vu;exact yJ ((aP e1 0).trans rfl) Tq (cJ (KR.refl B w) Jq)
  ·
   rename_i hop;have hop:op=2:=hop;subst hop;obtain⟨b1,rfl,e1⟩:=hb.one;have Lj:=bV hr (m':=m) (s':=St.go (RV.unit) k) rfl;obtain⟨K2,cs2,Vu,_,Jq⟩:=hG sa m w RV.unit k iW _ ow hM VM.unit hK Lj;cases Vu;exact yJ ((aP e1 0).trans rfl) Tq (cJ (KR.refl B w) Jq)
  ·
   rename_i hop;have hop:op=3:=hop;subst hop;obtain⟨b1,rfl,e1⟩:=hb.one
   by_cases ht:9<=(m.out n.toNat sc).tag
   ·have:=gH hr (e:=3) (if_pos ht);cases this
   have Lj:=bV hr (m':=m) (s':=St.go (m.out n.toNat sc) k) (if_neg ht);have Ou:0<=n/\n.toNat<=1000000:=M4 rfl;obtain⟨y,Tz,Rd⟩:=Ad hM n.toNat sc p hS ht;have hn:(.int .i64 n:Value)=.int .i64 (n.toNat:Nat):=by congr 1;omega
   refine Gn (y:=y) (n:=n) ((aP e1 0).trans rfl) Tq (fun u hu=>?_) (fun u hu=>?_)
   ·rw[hn];exact wK Ou.2 (Tz u hu)
   ·have hk:KZ B w u:=(KZ.refl B w).heap hu;obtain⟨K2,cs2,Vu,_,Jq⟩:=hG sa m u (m.out n.toNat sc) k y _ ow (hM.heap hu) (Rd.stay hk.kr) (hK.stay hk) Lj;cases Vu;exact cJ hk.kr Jq
  ·
   rename_i x hop;have hop:op=5:=hop;subst hop;obtain⟨a,rfl,ha⟩:=hx.one;obtain⟨b1,rfl,e1⟩:=hb.one;have Lj:=bV hr (m':=m) (s':=St.go (RV.fn a sc) k) rfl;have e2:PEq (w.alloc (.cells #[.pointer p] aV)) w (.cells #[.pointer p] aV (0,0)):=PEq.alloc _ _;have hk:=(KZ.refl B w).push e2
   have hv:VM mb sa (w.alloc (.cells #[.pointer p] aV)) (RV.fn a sc) (.iface iE (.func (.func 172) #[] #[aA b1,aA w.heap.size])):=
    ⟨1,inr (inr (inr (inl ⟨rfl,d,a,x,.pointer p,tQ 172 [b1,w.heap.size],rfl,ha.kept hk.kr,hS,⟨aF.fun1,_,rfl,(aS e2 (aB e1)).trans e1,cO,bT e2,iH,trivial⟩,rfl⟩)))⟩
   obtain⟨K2,cs2,Vu,_,Jq⟩:=hG sa m _ (RV.fn a sc) k _ _ ow (hM.push e2) hv (hK.stay hk) Lj;cases Vu;exact Gu Tq (cJ hk.kr Jq)
  ·
   rename_i x y hop;have hop:op=6:=hop;subst hop;obtain⟨a,a2,rfl,ha,Qp⟩:=hx.two;obtain⟨b1,b2,rfl,e1,e2⟩:=hb.two;have Lj:=bV hr (m':=m) (s':=ev a sc (⟨2,[a2],[],sc,[],[]⟩::k)) rfl;have hT:=NG B w p (.func (.func K') #[] cs')
   have Ml:lF B mb sa _ ow (⟨2,[a2],[],sc,[],[]⟩::k) (tQ 190 [b2,w.heap.size,w.heap.size+1]):=
    ⟨[y],[],.pointer p,.func (.func K') #[] cs',ow,⟨⟨d,Qp.kept hT.kr.kr⟩,trivial⟩,trivial,hS,hK.stay hT.kr,inl ⟨rfl,_,_,rfl,aF.let1,_,rfl,(hT.old _ (aB e2)).trans e2,cO,hT.sc,iH,hT.nx,eC,trivial⟩⟩
   obtain⟨K2,cs2,Md,Mt,Jq⟩:=hE sa m _ a sc _ x _ _ ow (hT.rm hM) ⟨d,ha.kept hT.kr.kr⟩ hS Ml Lj;subst Md;exact Gs ((aP e1 0).trans rfl) Mt (cJ hT.kr.kr Jq)
  ·
   rename_i x y hop;have hop:op=7:=hop;subst hop;obtain⟨a,a2,rfl,ha,Qp⟩:=hx.two;obtain⟨b1,b2,rfl,e1,e2⟩:=hb.two;have Lj:=bV hr (m':=(m.with RV.none sc).2) (s':=ev a (m.with RV.none sc).1 (⟨3,[a2],[],(m.with RV.none sc).1,[],[]⟩::k)) rfl;obtain⟨Ka,csa,m8,I5⟩:=pB.form ha;subst m8;refine Gq (K:=Ka) (cs:=csa) ((aP e1 0).trans rfl) I5 (fun u hu q8=>?_);have q1:PEq (w.alloc (.cells #[.func (.func K') #[] cs'] aZ)) w (.cells #[.func (.func K') #[] cs'] aZ (0,0)):=PEq.alloc _ _;have q2:PEq ((w.alloc (.cells #[.func (.func K') #[] cs'] aZ)).alloc (.cells #[.nilIface,.pointer p] bD)) (w.alloc (.cells #[.func (.func K') #[] cs'] aZ)) (.cells #[.nilIface,.pointer p] bD (0,0)):=PEq.alloc _ _;have q3:PEq u ((w.alloc (.cells #[.func (.func K') #[] cs'] aZ)).alloc (.cells #[.nilIface,.pointer p] bD)) (.cells #[aA (w.heap.size+1)] aV (0,0)):=⟨hu,q8.os,q8.tape,q8.output⟩;have s1:=bP q1;have s2:=bP q2;have k1:=(KZ.refl B w).push q1;have k2:=k1.push q2;have k3:=k2.push q3;have m1:=hM.push q1;have d8:tS sa sc (.pointer p):=hS
   have m2:RM B mb (sa++[w.heap.size+1]) (m.with RV.none sc).2 ((w.alloc (.cells #[.func (.func K') #[] cs'] aZ)).alloc (.cells #[.nilIface,.pointer p] bD)):=by
    have:=m1.with (v:=RV.none) (x:=.nilIface) (inr ⟨rfl,rfl⟩) d8 q2;rw[s1]at this;exact this
   have m3:=m2.push q3;have Jm:(m.with RV.none sc).1=sa.length+1:=by show m.scopes.length+1=_;rw[hM.slen]
   have Xb:tS (sa++[w.heap.size+1]) (m.with RV.none sc).1 (aA (w.heap.size+1)):=by
    rw[Jm];exact inr ⟨_,by omega,by simp,rfl⟩
   have Vb:lF B mb (sa++[w.heap.size+1]) u ow k (.func (.func K') #[] cs'):=hK.app k3 _;have o1:u.heap[w.heap.size]?=some (.cells #[.func (.func K') #[] cs'] aZ (0,0)):=(aS q3 (by omega)).trans ((aS q2 (by omega)).trans (bT q1))
   have o3:u.heap[w.heap.size+1+1]?=some (.cells #[aA (w.heap.size+1)] aV (0,0)):=by
    have:=bT q3;rw[s2,s1]at this;exact this
   have Ml:lF B mb (sa++[w.heap.size+1]) u ow (⟨3,[a2],[],(m.with RV.none sc).1,[],[]⟩::k) (tQ 188 [w.heap.size+1+1,b2,w.heap.size]):=
    ⟨[y],[],aA (w.heap.size+1),.func (.func K') #[] cs',ow,⟨⟨d,Qp.kept k3.kr⟩,trivial⟩,trivial,Xb,Vb,inl ⟨rfl,188,[(aV,aA (w.heap.size+1)),(aW,y),(aZ,.func (.func K') #[] cs')],(by unfold Fp;exact if_neg (show ¬m.scopes.length+1=0 by omega)),aF.rec1,_,rfl,o3,iH,k3.kr.box e2 cO,cO,o1,eC,trivial⟩⟩
   obtain⟨K2,cs2,Md,Mt,Jq⟩:=hE _ _ u a _ _ (.func (.func Ka) #[] csa) _ _ ow m3 ⟨d,ha.kept k3.kr⟩ Xb Ml Lj;cases Md;exact cJ k3.kr Jq
  ·
   rename_i x y z hop;have hop:op=8:=hop;subst hop;obtain⟨a,a2,a3,rfl,ha,Qp,ha3⟩:=hx.three;obtain⟨b1,b2,b3,rfl,e1,e2,e3⟩:=hb.three;have Lj:=bV hr (m':=m) (s':=ev a sc (⟨4,[a2,a3],[],sc,[],[]⟩::k)) rfl;have hT:=NG B w p (.func (.func K') #[] cs')
   have Ml:lF B mb sa _ ow (⟨4,[a2,a3],[],sc,[],[]⟩::k) (tQ 235 [b2,w.heap.size,w.heap.size+1,b3]):=
    ⟨[y,z],[],.pointer p,.func (.func K') #[] cs',ow,⟨⟨d,Qp.kept hT.kr.kr⟩,⟨d,ha3.kept hT.kr.kr⟩,trivial⟩,trivial,hS,hK.stay hT.kr,inl ⟨rfl,_,_,rfl,aF.CR,_,rfl,(hT.old _ (aB e2)).trans e2,cO,hT.sc,iH,hT.nx,eC,(hT.old _ (aB e3)).trans e3,cO,trivial⟩⟩
   obtain⟨K2,cs2,Md,Mt,Jq⟩:=hE sa m _ a sc _ x _ _ ow (hT.rm hM) ⟨d,ha.kept hT.kr.kr⟩ hS Ml Lj;subst Md;exact RY ((aP e1 0).trans rfl) Mt (cJ hT.kr.kr Jq)
  ·
   rename_i x y hop;have hop:op=9:=hop;subst hop;obtain⟨a,a2,rfl,ha,Qp⟩:=hx.two;obtain⟨b1,b2,rfl,e1,e2⟩:=hb.two;have Lj:=bV hr (m':=m) (s':=ev a sc (⟨5,[a2],[],sc,[],[]⟩::k)) rfl;have hT:=NG B w p (.func (.func K') #[] cs')
   have Ml:lF B mb sa _ ow (⟨5,[a2],[],sc,[],[]⟩::k) (tQ 127 [b2,w.heap.size,w.heap.size+1]):=
    ⟨[y],[],.pointer p,.func (.func K') #[] cs',ow,⟨⟨d,Qp.kept hT.kr.kr⟩,trivial⟩,trivial,hS,hK.stay hT.kr,inl ⟨rfl,_,_,rfl,aF.seq1,_,rfl,(hT.old _ (aB e2)).trans e2,cO,hT.sc,iH,hT.nx,eC,trivial⟩⟩
   obtain⟨K2,cs2,Md,Mt,Jq⟩:=hE sa m _ a sc _ x _ _ ow (hT.rm hM) ⟨d,ha.kept hT.kr.kr⟩ hS Ml Lj;subst Md;exact Gp ((aP e1 0).trans rfl) Mt (cJ hT.kr.kr Jq)
  ·
   rename_i x y hop;have hop:op=11:=hop;subst hop;obtain⟨a,a2,rfl,ha,Qp⟩:=hx.two;obtain⟨b1,b2,b3,rfl,e1,e2,e3⟩:=hb.three;have Lj:=bV hr (m':=m) (s':=ev a sc (⟨9,[a2],[],sc,[],[]⟩::k)) rfl;have hT:=NG B w p (.func (.func K') #[] cs')
   have Ml:lF B mb sa _ ow (⟨9,[a2],[],sc,[],[]⟩::k) (tQ 242 [b2,w.heap.size,w.heap.size+1,b3]):=
    ⟨[y],[],.pointer p,.func (.func K') #[] cs',ow,⟨⟨d,Qp.kept hT.kr.kr⟩,trivial⟩,trivial,hS,hK.stay hT.kr,inl ⟨rfl,_,_,rfl,aF.DX,_,rfl,(hT.old _ (aB e2)).trans e2,cO,hT.sc,iH,hT.nx,eC,(hT.old _ (aB e3)).trans e3,wT,trivial⟩⟩
   obtain⟨K2,cs2,Md,Mt,Jq⟩:=hE sa m _ a sc _ x _ _ ow (hT.rm hM) ⟨d,ha.kept hT.kr.kr⟩ hS Ml Lj;subst Md;exact Ec ((aP e1 0).trans rfl) Mt (cJ hT.kr.kr Jq)
  ·
   rename_i x y hop;have hop:op=13:=hop;subst hop;obtain⟨a,a2,rfl,ha,Qp⟩:=hx.two;obtain⟨b1,b2,b3,rfl,e1,e2,e3⟩:=hb.three;have Lj:=bV hr (m':=m) (s':=ev a sc (⟨0,[a2],[],sc,[],[]⟩::k)) rfl;have hT:=NG B w p (.func (.func K') #[] cs')
   have Ml:lF B mb sa _ ow (⟨0,[a2],[],sc,[],[]⟩::k) (tQ 232 [b2,w.heap.size,b3,w.heap.size+1]):=
    ⟨[y],[],.pointer p,.func (.func K') #[] cs',ow,⟨⟨d,Qp.kept hT.kr.kr⟩,trivial⟩,trivial,hS,hK.stay hT.kr,inl ⟨rfl,_,_,rfl,aF.CY,_,rfl,(hT.old _ (aB e2)).trans e2,cO,hT.sc,iH,(hT.old _ (aB e3)).trans e3,IW,hT.nx,eC,trivial⟩⟩
   obtain⟨K2,cs2,Md,Mt,Jq⟩:=hE sa m _ a sc _ x _ _ ow (hT.rm hM) ⟨d,ha.kept hT.kr.kr⟩ hS Ml Lj;subst Md;exact YD ((aP e1 0).trans rfl) Mt (cJ hT.kr.kr Jq)
 ·
  have hop:op=14:=hop;subst hop;refine⟨_,_,rfl,Wg,?_⟩;obtain⟨b1,rfl,e1⟩:=hb.one
  cases xs with
  |nil=>
   obtain rfl:ps=[]:=hx.nil;have Lj:=bV hr (m':=m) (s':=St.go (RV.data nm []) k) rfl;obtain⟨V4,lw,rfl,I1⟩:=hw;obtain⟨c1,rfl,f1⟩:=I1.one;refine RT ((aP e1 0).trans rfl) V4 (RX ((aP f1 0).trans rfl) Tq fun u hu=>?_);have hk:KZ B w u:=(KZ.refl B w).push hu;obtain⟨K2,cs2,Vu,_,Jq⟩:=hG sa m u (RV.data nm []) k _ _ ow (hM.push hu) (VM.data (l:=[]) (xs:=[]) (bT hu) trivial (inl ⟨rfl,rfl⟩)) (hK.stay hk) Lj;cases Vu;exact cJ hk.kr Jq
  |cons x r=>
   obtain⟨a,rs,rfl,ha,Yw⟩:∃a rs,ps=a::rs/\pB mb w d a x/\Each (pB mb w d) rs r:=by
    cases ps with
    |nil=>exact hx.elim
    |cons a rs=>exact⟨a,rs,rfl,hx.1,hx.2⟩
   have Lj:=bV hr (m':=m) (s':=ev a sc (⟨11,rs,[],sc,[],nm⟩::k)) rfl;obtain⟨u,Qc,V4,lw,rfl,I1⟩:=hw;obtain⟨c1,c2,rfl,f1,f2⟩:=I1.two;obtain⟨Ka,csa,rfl,I5⟩:=ha.form;have hT:=SJ B w p (.slice none 0 0) (.func (.func K') #[] cs')
   have Ml:lF B mb sa _ ow (⟨11,rs,[],sc,[],nm⟩::k) (tQ 229 [c2,w.heap.size,w.heap.size+1,w.heap.size+1+1]):=
    ⟨r,[],.pointer p,.func (.func K') #[] cs',ow,(Yw.imp fun _ _ h=>⟨d,h.kept hT.kr.kr⟩),trivial,hS,hK.stay hT.kr,inr (inr ⟨rfl,by simp at Jm ⊢;omega,u,.slice none 0 0,Qc.kept hT.kr.kr,inl ⟨rfl,rfl,rfl⟩,aF.CV,_,rfl,(hT.old _ (aB f2)).trans f2,PG,hT.sc,iH,hT.vs,wS,hT.nx,eC,trivial⟩)⟩
   obtain⟨K2,cs2,Md,Mt,Jq⟩:=hE sa m _ a sc _ _ _ _ ow (hT.rm hM) ⟨d,ha.kept hT.kr.kr⟩ hS Ml Lj;cases Md;exact RT ((aP e1 0).trans rfl) V4 (RU ((aP f1 0).trans rfl) I5 (cJ hT.kr.kr Jq))
 ·
  have hop:op=15:=hop;subst hop;refine⟨_,_,rfl,Wg,?_⟩;obtain⟨b1,b2,rfl,e1,e2⟩:=hb.two
  obtain⟨a,rs,rfl,ha,Yw⟩:∃a rs,ps=a::rs/\pB mb w d a x/\Each (pB mb w d) rs r:=by
   cases ps with
   |nil=>exact hx.elim
   |cons a rs=>exact⟨a,rs,rfl,hx.1,hx.2⟩
  have Lj:=bV hr (m':=m) (s':=ev a sc (⟨12,rs,pts,sc,[],[]⟩::k)) rfl;have hT:=NG B w p (.func (.func K') #[] cs');obtain⟨Ka,csa,rfl,I5⟩:=ha.form
  have Ml:lF B mb sa _ ow (⟨12,rs,pts,sc,[],[]⟩::k) (tQ 176 [b2,w.heap.size,w.heap.size+1]):=
   ⟨r,[],.pointer p,.func (.func K') #[] cs',ow,(Yw.imp fun _ _ h=>⟨d,h.kept hT.kr.kr⟩),trivial,hS,hK.stay hT.kr,inr (inl ⟨rfl,rfl,wv,hw.kept hT.kr.kr,aF.CZ,_,rfl,(hT.old _ (aB e2)).trans e2,VL,hT.sc,iH,hT.nx,eC,trivial⟩)⟩
  obtain⟨K2,cs2,Md,Mt,Jq⟩:=hE sa m _ a sc _ _ _ _ ow (hT.rm hM) ⟨d,ha.kept hT.kr.kr⟩ hS Ml Lj;cases Md;exact XY ((aP e1 0).trans rfl) I5 (cJ hT.kr.kr Jq)
end
end Go.Proofs.YthakgdfmbknakaaGreatDoor
