import Derived.Test.YtbkiipiocpnnnaaGreatDoorC43
set_option linter.all false
set_option maxHeartbeats 40000000
set_option maxRecDepth 100000
open Go.Proofs.Tryz
open Classical (choice)
open Or (inl inr)
open Nat (le_refl zero_le lt_of_lt_of_le)
open List (length_cons append_assoc cons_append length_map map_cons)
namespace Go.Proofs.YtbkiipiocpnnnaaGreatDoor
section
open Go.RowKit
theorem types_factsC{D:Toks->Option Tr}(hD:DOk D)(txt:ByteArray)(hC:∀nd∈declsOf D txt.data.toList,nd.k≠18/\NoCM nd)(w:World)(hs:txt.size<=maxLen) :
  Calls prog 7 #[.string txt] w fun e u=>
   (∃place er:Nat,e=.returned (.tuple #[.pointer none,.int .i64 place,.int .i64 er])/\er≠0/\TyA D txt.data.toList w (.returned (.tuple #[.slice none 0 0,.int .i64 place,.int .i64 er])) u) \/
   (∃pb a m c,e=.returned (.tuple #[ptrV pb,.int .i64 0,.int .i64 0])/\u.cell? ⟨pb,1,none⟩=some (.slice a m c)/\m<=9223372036854775807/\∃LD:Nat->Value->World->Prop,Hid (LD 0 (.slice none 0 0) u) /\
    (∀k v u,LD k v u->k<m->∃g tx bt,a=some ⟨g,0,none⟩/\u.cell? ⟨g,k*2,none⟩=some (.string tx)/\u.cell? ⟨g,k*2+1,none⟩=some (ptrV bt)/\g<u.heap.size/\tx.size<=100000000 /\
     Calls prog 8 #[ptrV bt] (u.alloc (.cells #[.string tx,ptrV bt] tyBg)).drew fun e u1=>∃sx,e=.returned (.string sx)/\sx.size<=100000000000/\(u1.cell? ⟨u.heap.size,0,none⟩=some (.string tx)/\u1.cell? ⟨u.heap.size,1,none⟩=some (ptrV bt)) /\
      ((u1.alloc (.cells #[.string (tx++⟨#[32,58,32]⟩++sx)] tyStr)).cell? ⟨u.heap.size,0,none⟩=some (.string tx)/\(u1.alloc (.cells #[.string (tx++⟨#[32,58,32]⟩++sx)] tyStr)).cell? ⟨u.heap.size,1,none⟩=some (ptrV bt)) /\
      ∃v' u2,(Builtin.append_ #[22,22] 22 #[v,.slice (some ⟨u1.heap.size,0,none⟩) 1 1]).run prog (u1.alloc (.cells #[.string (tx++⟨#[32,58,32]⟩++sx)] tyStr))=.ok v' u2/\(u2.cell? ⟨u.heap.size,0,none⟩=some (.string tx)/\u2.cell? ⟨u.heap.size,1,none⟩=some (ptrV bt))/\Hid (LD (k+1) v' u2)) /\
    ∀v u,LD m v u->TyA D txt.data.toList w (.returned (.tuple #[v,.int .i64 0,.int .i64 0])) u):=by
 refine((Read_ofC hD txt hC w hs knownAhead_any).mono fun _ _ h=>h.1).mono ?_
 rintro e u⟨hbw,⟨hne,rfl⟩|⟨h0,hf,⟨hne,rfl⟩|⟨hz,pb,ad,rk,tb,dv,bv,rfl,hps,hlo⟩⟩⟩
 ·refine inl ⟨_,_,rfl,hne,hbw,fun h=>absurd h hne,.slice none 0 0,?_,?_⟩
  ·unfold typesA;rw[if_pos hne]
  ·unfold typesA;rw[if_pos hne];exact World.ownsRow_nil _ _ _ _
 ·refine inl ⟨_,_,rfl,hne,hbw,fun _=>hf,.slice none 0 0,?_,?_⟩
  ·unfold typesA;rw[if_neg (by simp[h0]),if_pos hne]
  ·unfold typesA;rw[if_neg (by simp[h0]),if_pos hne];exact World.ownsRow_nil _ _ _ _
 ·have hT:=txt_ok hf hz hps
  have h2:=(arOf_ok hf).arrow
  have hn:(readD 0 ahead (declsOf D txt.data.toList)).2.binds.length<=100000:=by
   have h1:=(readD_binds (declsOf D txt.data.toList) 0 ahead).1
   have h3:=progAD_len D txt.data.toList
   have h4:(declsOf D txt.data.toList).length<=100000:=by unfold declsOf;rw[length_map];omega
   have h5:ahead.binds.length=0:=rfl
   omega
  have hA:typesA D txt.data.toList=(typeLines (readD 0 ahead (declsOf D txt.data.toList)).2,0,0):=by
   unfold typesA;rw[if_neg (by simp[h0]),if_neg (by rw[hz];simp)]
  generalize (readD 0 ahead (declsOf D txt.data.toList)).2=p at *
  generalize arOf (declsOf D txt.data.toList)=ar at *
  obtain⟨a,m,c,hbv,hm⟩:∃a m c,bv=.slice a m c/\m=p.binds.length:=by
   rcases ownsRow_forms hps.row with⟨h,h0⟩|⟨g,cap,h⟩
   ·exact⟨none,0,0,h,h0.symm⟩
   ·exact⟨_,_,_,h,rfl⟩
  refine inr ⟨pb,a,m,c,rfl,?_,by omega,fun k v u=>TyL ar ad rk p bv w k v u,hide ⟨hps.sto,hps.row,World.ownsRow_nil _ _ _ _,hbw⟩,fun k v u h hk=>round_facts h hlo hT h2 (by omega) hn hbv,fun v u h=>⟨h.bw,fun _=>hf,v,?_,?_⟩⟩
  ·rw[<- hbv];simp[World.cell?,hps.prog]
  ·rw[hA];rfl
  ·rw[hA]
   have hl:(typeLines p).length=m:=by unfold typeLines;rw[length_map];exact hm.symm
   have:=h.ln
   rw[List.take_of_length_le (by omega)]at this
   rw[hl]
   exact this
theorem kilnTypes_anyC{D:Toks->Option Tr}(hD:DOk D)(txt:ByteArray)(hC:∀nd∈declsOf D txt.data.toList,nd.k≠18/\NoCM nd)(w:World)(hs:txt.size<=maxLen):Calls prog 4 #[.string txt] w (TyA D txt.data.toList w):=by
 have hfx:=types_factsC hD txt hC w hs
 have HF:=hide hfx
 clear hfx hs hD hC
 generalize TyA D txt.data.toList w=Q at *
 unfold ptrV at *
 go_enter func4,ntmps4
 go_wp2_with fail
 refine(HF.out).mono ?_;rintro e u (⟨place,er,rfl,hne,hq⟩|⟨pb,a,m,c,rfl,c1,hm,LD,HL,hs,he⟩)
 ·have e0:((er:Int) != 0)=true:=by simp only[bne_iff_ne,ne_eq];omega
  have e1:¬(er:Int)=0:=by omega
  have HQ:=hide hq
  clear hq HF
  go_wp2
  exact⟨rfl,_,(by simp[results,results4,go_sem]),HQ.out⟩
 ·have HS:=hide hs
  have HE:=hide he
  have e0:((0:Int) != 0)=false:=by decide
  clear hs he HF
  go_wp2_with fail
  go_loopg [8,26] m (fun gk v8 v26 wr=>∃k,v26=.int .i64 (k:Nat)/\k+gk=m/\Hid (LD k v8 wr))
  case atStart=>exact⟨0,rfl,by omega,HL⟩
  case round=>
   clear HL
   obtain⟨k,rfl,hk,HL⟩:=hrel
   by_cases hlt:k<m
   ·obtain⟨g,tx,bt,rfl,f1,f2,f3,f4,hc⟩:=HS.out _ _ _ HL.out hlt
    have hlt3:(k:Int)<(m:Int):=by omega
    have HC:=hide hc
    have z1:tx.size+3<=9223372036854775807:=by omega
    obtain⟨c1a,c2a⟩:=cells_bg wr (.string tx) (.pointer (some ⟨bt,0,none⟩))
    clear hc HS HE HL
    go_wp2_with fail
    go_region_held_law (fun w'=>w'.cell? ⟨wr.heap.size,0,none⟩=some (.string tx)/\w'.cell? ⟨wr.heap.size,1,none⟩=some (.pointer (some ⟨bt,0,none⟩))) (first|with_reducible exact⟨c1a,c2a⟩|with_reducible exact HD1.out|with_reducible exact HD2.out)
     (first|(go_at_call 8;refine(HC.out).mono ?_;rintro e u1⟨sx,rfl,z2,⟨c1a,c2a⟩,hd1,v2,u2,hrun,hd2,HL⟩;have HD1:=hide hd1;have HD2:=hide hd2;have z3:tx.size+3+sx.size<=9223372036854775807:=(by omega);clear hd1 hd2 HC)|(refine step_append_run rfl _ _ _ rfl (by simp[Act.eval,Act.put]) (by simp[Act.eval,Act.put]) hrun ?_))
    all_goals
     go_wp2_with fail
     go_roundg (m-(k+1))
     case rel=>exact⟨k+1,by simp,by omega,HL⟩
     case measure=>omega
   ·have hkm:k=m:=by omega
    subst hkm
    have hlt3:¬(k:Int)<(k:Int):=by omega
    have HQ:=hide (HE.out _ _ HL.out)
    clear HS HE HL
    go_wp2
    exact⟨rfl,_,(by simp[results,results4,go_sem]),HQ.out⟩
end
section
open Go.RowKit
def Up(D:Toks->Option Tr):Prop:=∀ts t n,G.decl n ts=some t->D ts=some t
theorem up_L:Up (choice lf).decl:=fun ts t n h=>(((choice lf).decl_Lim ts).iff t).2 ⟨n,h⟩
theorem progD_up{D:Toks->Option Tr}(hU:Up D){F:Nat}:∀(n:Nat)(T:Toks)(acc:List Tr),(progD (G.decl F) n T acc).2.2=0->progD D n T acc=progD (G.decl F) n T acc:=by
 intro n
 induction n with
 |zero=>intro T acc _;rfl
 |succ n ih=>
  intro T acc h
  rw[progD]at h
  rw[progD,progD]
  split at h
  ·rename_i h0;rw[if_pos h0,if_pos h0]
  ·rename_i h0
   rw[if_neg h0,if_neg h0]
   split at h
   ·simp at h
   ·rename_i h1
    rw[if_neg h1,if_neg h1]
    cases hd:G.decl F (T.take (stopAt T))with
    |none=>rw[hd]at h;simp at h
    |some t=>
     rw[hd]at h
     rw[hU _ _ _ hd]
     exact ih _ _ h
theorem progAD_up{D:Toks->Option Tr}(hU:Up D){F:Nat}{l:List UInt8}(h:(progAD (G.decl F) l).2.2=0):progAD D l=progAD (G.decl F) l:=by
 unfold progAD at h ⊢
 split at h
 ·rename_i h0;rw[if_pos h0,if_pos h0];exact progD_up hU _ _ _ h
 ·rename_i h0;rw[if_neg h0,if_neg h0]
theorem declsOf_up{D:Toks->Option Tr}(hU:Up D){F:Nat}{l:List UInt8}(h:(progAD (G.decl F) l).2.2=0):declsOf D l=declsOf (G.decl F) l:=by unfold declsOf;rw[progAD_up hU h]
theorem typesA_up{D:Toks->Option Tr}(hU:Up D){F:Nat}{l:List UInt8}(h:(progAD (G.decl F) l).2.2=0):typesA D l=typesA (G.decl F) l:=by unfold typesA;rw[progAD_up hU h,declsOf_up hU h]
def cellsL:List UInt8:=[108,101,116,32,115,117,109,32,61,32,114,101,102,32,48,32,46,32,108,101,116,32,97,100,100,32,110,32,61,32,115,117,109,32,58,61,32,33,115,117,109,32,43,32,110,32,59,32,112,117,116,32,40,33,115,117,109,41,32,46,10,108,101,116,32,114,101,99,32,103,111,32,117,32,61,32,108,101,116,32,99,32,61,32,103,101,116,32,40,41,32,105,110,32,105,102,32,99,32,60,32,48,32,116,104,101,110,32,112,117,116,32,48,32,101,108,115,101,32,40,97,100,100,32,99,32,59,32,103,111,32,40,41,41,32,46,32,100,111,32,103,111,32,40,41,32,46]
theorem cells_reads:(progAD (G.decl 200) cellsL).2.2=0:=by decide +kernel
theorem cells_types{D:Toks->Option Tr}(hU:Up D):typesA D cellsL=([[115,117,109,32,58,32,114,101,102,32,105,110,116],[97,100,100,32,58,32,105,110,116,32,45,62,32,117,110,105,116],[103,111,32,58,32,117,110,105,116,32,45,62,32,117,110,105,116]],0,0):=by
 rw[typesA_up hU cells_reads]
 decide +kernel
theorem cells_plain{D:Toks->Option Tr}(hU:Up D):∀nd∈declsOf D cellsL,nd.k≠18/\NoCM nd:=by
 rw[declsOf_up hU cells_reads]
 have h:((declsOf (G.decl 200) cellsL).all fun nd=>(nd.k != 18) && nd.all.all fun x=>(x.k != 14) && (x.k != 15) && (x.k != 16))=true:=by decide +kernel
 intro nd hnd
 have h1:=List.all_eq_true.1 h nd hnd
 simp only[Bool.and_eq_true,bne_iff_ne,ne_eq]at h1
 refine⟨h1.1,fun x hx=>?_⟩
 have h2:=List.all_eq_true.1 h1.2 x hx
 simp only[Bool.and_eq_true,bne_iff_ne,ne_eq]at h2
 exact⟨h2.1.1,h2.1.2,h2.2⟩
end
section
def Runs(m:Mach)(s:St)(m':Mach)(s':St):Prop:=∃n,∀k,runR (n+k) m s=runR k m' s'
theorem Runs.refl(m:Mach)(s:St):Runs m s m s:=⟨0,fun k=>by rw[Nat.zero_add]⟩
theorem Runs.trans{a b c:Mach}{x y z:St}(h:Runs a x b y)(k:Runs b y c z):Runs a x c z:=by
 obtain⟨n,hn⟩:=h
 obtain⟨l,hl⟩:=k
 exact⟨n+l,fun q=>by rw[Nat.add_assoc,hn,hl]⟩
theorem Runs.step{m m' m2:Mach}{s s' s2:St}(h:stepR m s=.inr (m',s'))(k:Runs m' s' m2 s2):Runs m s m2 s2:=by
 obtain⟨n,hn⟩:=k
 refine⟨n+1,fun q=>?_⟩
 rw[show n+1+q=(n+q)+1 by omega,runR,h]
 exact hn q
theorem Runs.ends{m m':Mach}{s s':St}{e:Nat}(h:Runs m s m' s')(he:stepR m' s'=.inl e):∃n,∀k,runR (n+k) m s=some (e,m'):=by
 obtain⟨n,hn⟩:=h
 refine⟨n+1,fun k=>?_⟩
 rw[show n+1+k=n+(k+1) by omega,hn,runR,he]
def ScAt(m:Mach)(sc:Nat)(v:RV)(outer:Nat):Prop:=m.scopes[sc-1]?=some (v,outer)
theorem ScAt.out0{m:Mach}{sc outer:Nat}{v:RV}(h:ScAt m sc v outer)(h0:sc≠0):m.out 0 sc=v:=by
 unfold ScAt at h;rw[Mach.out,if_neg h0,h];rfl
theorem ScAt.out{m:Mach}{sc outer k:Nat}{v:RV}(h:ScAt m sc v outer)(h0:sc≠0):m.out (k+1) sc=m.out k outer:=by
 unfold ScAt at h;rw[Mach.out,if_neg h0,h];rfl
theorem step_var{m:Mach}{sc i:Nat}{nm:Nm}{k:List Fr}{v:RV}(h:m.out i sc=v)(hv:(v.tag==10)=false:=by rfl):stepR m (St.ev ⟨3,i,nm,[],[]⟩ sc k)=.inr (m,St.go v k):=by
 subst h
 show (if (m.out i sc).tag=10 then _ else _)=_
 rw[if_neg (by simpa using hv)];rfl
theorem step_call{I O:Nm}{M D:Nat}{S:List (RV×Nat)}{C:List RV}{f v:RV}{k:List Fr}(h:D≠M):stepR ⟨I,O,M,D,S,C⟩ (St.go v (⟨1,[],[],0,[f],[]⟩::k))=call ⟨I,O,M,D+1,S,C⟩ f v k:=by
 show (if D=M then _ else _)=_
 rw[if_neg h];rfl
theorem wrap64_of{n:Int}(h1:-9223372036854775808<=n)(h2:n<9223372036854775808):wrap64 n=n:=by
 unfold wrap64;omega
theorem at_last(S:List (RV×Nat))(x:RV×Nat):(S++[x])[S.length+1-1]?=some x:=by
 rw[Nat.add_sub_cancel];simp
end
section
namespace Cells
def sumN:Nm:=[115,117,109]
def addN:Nm:=[97,100,100]
def goN:Nm:=[103,111]
def nN:Nm:=[110]
def cN:Nm:=[99]
def uN:Nm:=[117]
def vr(k:Int)(nm:Nm):Cd:=⟨3,k,nm,[],[]⟩
def nm0:Cd:=⟨0,0,[48],[],[]⟩
def un0:Cd:=⟨2,0,[40,41],[],[]⟩
def app(a b:Cd):Cd:=⟨13,0,[],[a,b],[]⟩
def addB:Cd:=⟨9,0,[],[⟨10,0,[],[vr 1 sumN,⟨11,0,[43],[⟨12,0,[],[vr 1 sumN],[]⟩,vr 0 nN],[]⟩],[]⟩,app (vr 4 putN) ⟨12,0,[],[vr 1 sumN],[]⟩],[]⟩
def goB:Cd:=⟨6,0,cN,[app (vr 5 getN) un0,⟨8,0,[],[⟨11,0,[60],[vr 0 cN,nm0],[]⟩,app (vr 7 putN) nm0,⟨9,0,[],[app (vr 3 addN) (vr 0 cN),app (vr 2 goN) un0],[]⟩],[]⟩],[]⟩
def whole:Cd:=⟨6,0,sumN,[app (vr 0 refN) nm0,⟨6,0,addN,[⟨5,0,nN,[addB],[]⟩,⟨7,0,goN,[⟨5,0,uN,[goB],[]⟩,⟨9,0,[],[app (vr 0 goN) un0,⟨2,0,[],[],[]⟩],[]⟩],[]⟩],[]⟩],[]⟩
def base:List (RV×Nat):=[(RV.put,0),(RV.get,1),(RV.ref,2),(RV.cell 0,3),(RV.fn addB 4,4),(RV.fn goB 6,5)]
def lat:Fr:=⟨13,[],[],0,[],[]⟩
theorem out_base(I O:Nm)(M D:Nat)(X:List (RV×Nat))(C:List RV) :
  Mach.out ⟨I,O,M,D,base++X,C⟩ 0 6=RV.fn goB 6/\Mach.out ⟨I,O,M,D,base++X,C⟩ 1 6=RV.fn addB 4/\Mach.out ⟨I,O,M,D,base++X,C⟩ 4 6=RV.get/\Mach.out ⟨I,O,M,D,base++X,C⟩ 5 6=RV.put /\
  Mach.out ⟨I,O,M,D,base++X,C⟩ 0 4=RV.cell 0/\Mach.out ⟨I,O,M,D,base++X,C⟩ 3 4=RV.put:=⟨rfl,rfl,rfl,rfl,rfl,rfl⟩
theorem out_up{I O:Nm}{M D:Nat}{S:List (RV×Nat)}{C:List RV}{s o k:Nat}{v:RV}(h:S[s-1]?=some (v,o))(h0:s≠0:=by first|exact Nat.succ_ne_zero _|assumption):Mach.out ⟨I,O,M,D,S,C⟩ (k+1) s=Mach.out ⟨I,O,M,D,S,C⟩ k o:=ScAt.out (m:=⟨I,O,M,D,S,C⟩) h h0
theorem out_here{I O:Nm}{M D:Nat}{S:List (RV×Nat)}{C:List RV}{s o:Nat}{v:RV}(h:S[s-1]?=some (v,o))(h0:s≠0:=by first|exact Nat.succ_ne_zero _|assumption):Mach.out ⟨I,O,M,D,S,C⟩ 0 s=v:=ScAt.out0 (m:=⟨I,O,M,D,S,C⟩) h h0
theorem keep{S:List (RV×Nat)}{x:RV×Nat}{s:Nat}{y:RV×Nat}(h:S[s-1]?=some y):(S++[x])[s-1]?=some y:=by
 rw[List.getElem?_append_left (List.getElem?_eq_some_iff.1 h).1];exact h
theorem byte_low(T:Nat):(((T:Int)) % 256).toNat=T % 256:=by omega
theorem round{I O:Nm}{c:UInt8}{D T:Nat}{X:List (RV×Nat)}{s:Nat}{k:List Fr}(hD:D+4<=4000)(hT:T+255<9223372036854775808)(hs:(base++X)[s-1]?=some (RV.unit,6))(h0:s≠0) :
  ∃X' s',(base++X')[s'-1]?=some (RV.unit,6)/\s'≠0/\Runs ⟨c::I,O,4000,D,base++X,[RV.num T]⟩ (St.ev goB s k) ⟨I,O++[UInt8.ofNat ((T+c.toNat) % 256)],4000,D+4,base++X',[RV.num ((T+c.toNat:Nat))]⟩ (St.ev goB s' (lat::k)):=by
 have hc:c.toNat<256:=c.toNat_lt
 have b0:=fun I O D C=>out_base I O 4000 D X C
 refine⟨X++[(RV.num c.toNat,s)]++[(RV.num c.toNat,4)]++[(RV.unit,6)],(base++(X++[(RV.num c.toNat,s)]++[(RV.num c.toNat,4)])).length+1,?_,by omega,?_⟩
 ·rw[<- append_assoc];exact at_last _ _
 ·have hs1:(base++X++[(RV.num c.toNat,s)])[(base++X).length+1-1]?=some (RV.num c.toNat,s):=at_last _ _
  have hs0:=keep (x:=(RV.num c.toNat,s)) hs
  have hs2:(base++X++[(RV.num c.toNat,s)]++[(RV.num c.toNat,4)])[(base++X++[(RV.num c.toNat,s)]).length+1-1]?=some (RV.num c.toNat,4):=at_last _ _
  have hs1':=keep (x:=(RV.num c.toNat,4)) hs1
  have hs0':=keep (x:=(RV.num c.toNat,4)) hs0
  have ha:base++X++[(RV.num c.toNat,s)]=base++(X++[(RV.num c.toNat,s)]):=append_assoc ..
  have hb:base++X++[(RV.num c.toNat,s)]++[(RV.num c.toNat,4)]=base++(X++[(RV.num c.toNat,s)]++[(RV.num c.toNat,4)]):=by rw[ha,append_assoc]
  generalize hS1:base++X++[(RV.num c.toNat,s)]=S1 at *
  generalize hS2:S1++[(RV.num c.toNat,4)]=S2 at *
  have b1:=fun I O D C=>out_base I O 4000 D (X++[(RV.num c.toNat,s)]) C
  have b2:=fun I O D C=>out_base I O 4000 D (X++[(RV.num c.toNat,s)]++[(RV.num c.toNat,4)]) C
  rw[<- ha]at b1
  rw[<- hb]at b2
  refine Runs.step rfl ?_
  refine Runs.step rfl ?_
  refine Runs.step (step_var (v:=RV.get) ((out_up hs).trans (b0 _ _ _ _).2.2.1)) ?_
  refine Runs.step rfl ?_
  refine Runs.step rfl ?_
  refine Runs.step (step_call (by omega)) ?_
  refine Runs.step rfl ?_
  show Runs ⟨I,O,4000,D+1,base++X++[(RV.num c.toNat,s)],[RV.num T]⟩ (St.ev _ ((base++X).length+1) k) _ _
  rw[hS1]
  refine Runs.step rfl ?_
  refine Runs.step rfl ?_
  refine Runs.step (step_var (v:=RV.num c.toNat) (out_here hs1)) ?_
  refine Runs.step rfl ?_
  refine Runs.step rfl ?_
  refine Runs.step rfl ?_
  have hlt:calcR [60] (RV.num c.toNat).n (RV.num 0).n=RV.bool false:=by
   show RV.bool (decide ((c.toNat:Int)<0))=_
   rw[show decide ((c.toNat:Int)<0)=false by simp]
  show Runs ⟨I,O,4000,D+1,S1,[RV.num T]⟩ (St.go (calcR [60] (RV.num c.toNat).n (RV.num 0).n) _) _ _
  rw[hlt]
  refine Runs.step rfl ?_
  refine Runs.step rfl ?_
  refine Runs.step rfl ?_
  refine Runs.step (step_var (v:=RV.fn addB 4) ((out_up hs1).trans ((out_up hs0).trans (b1 _ _ _ _).2.1))) ?_
  refine Runs.step rfl ?_
  refine Runs.step (step_var (v:=RV.num c.toNat) (out_here hs1)) ?_
  refine Runs.step (step_call (by omega)) ?_
  show Runs ⟨I,O,4000,D+1+1,S1++[(RV.num c.toNat,4)],[RV.num T]⟩ (St.ev addB (S1.length+1) (lat::_)) _ _
  rw[hS2]
  have v23:∀I O D C,Mach.out ⟨I,O,4000,D,S2,C⟩ 1 (S1.length+1)=RV.cell 0:=fun I O D C=>(out_up hs2).trans (b2 _ _ _ _).2.2.2.2.1
  refine Runs.step rfl ?_
  refine Runs.step rfl ?_
  refine Runs.step (step_var (v23 _ _ _ _)) ?_
  refine Runs.step rfl ?_
  refine Runs.step rfl ?_
  refine Runs.step rfl ?_
  refine Runs.step (step_var (v23 _ _ _ _)) ?_
  refine Runs.step rfl ?_
  refine Runs.step rfl ?_
  refine Runs.step (step_var (v:=RV.num c.toNat) (out_here hs2)) ?_
  refine Runs.step rfl ?_
  have hadd:calcR [43] (RV.num (T:Int)).n (RV.num c.toNat).n=RV.num ((T+c.toNat:Nat):Int):=by
   show RV.num (wrap64 ((T:Int)+c.toNat))=_
   rw[wrap64_of (by omega) (by omega)];rfl
  show Runs ⟨I,O,4000,D+1+1,S2,[RV.num T]⟩ (St.go (calcR [43] (RV.num (T:Int)).n (RV.num c.toNat).n) _) _ _
  rw[hadd]
  refine Runs.step rfl ?_
  show Runs ⟨I,O,4000,D+1+1,S2,[RV.num ((T+c.toNat:Nat):Int)]⟩ (St.go RV.unit _) _ _
  refine Runs.step rfl ?_
  refine Runs.step rfl ?_
  refine Runs.step (step_var (v:=RV.put) ((out_up hs2).trans (b2 _ _ _ _).2.2.2.2.2)) ?_
  refine Runs.step rfl ?_
  refine Runs.step rfl ?_
  refine Runs.step (step_var (v23 _ _ _ _)) ?_
  refine Runs.step rfl ?_
  refine Runs.step (step_call (by omega)) ?_
  show Runs ⟨I,O++[UInt8.ofNat ((((T+c.toNat:Nat):Int)) % 256).toNat],4000,D+1+1+1,S2,[RV.num ((T+c.toNat:Nat):Int)]⟩ (St.go RV.unit _) _ _
  rw[byte_low]
  refine Runs.step rfl ?_
  refine Runs.step rfl ?_
  refine Runs.step rfl ?_
  refine Runs.step (step_var (v:=RV.fn goB 6) ((out_up hs1').trans ((out_up hs0').trans (b2 _ _ _ _).1))) ?_
  refine Runs.step rfl ?_
  refine Runs.step rfl ?_
  refine Runs.step (step_call (by omega)) ?_
  have hfin:base++(X++[(RV.num c.toNat,s)]++[(RV.num c.toNat,4)]++[(RV.unit,6)])=S2++[(RV.unit,6)]:=by rw[hb,<- append_assoc]
  rw[hfin,<- hb]
  exact Runs.refl _ _
theorem last{O:Nm}{D:Nat}{C:List RV}{X:List (RV×Nat)}{s:Nat}{k:List Fr}(hD:D+2<=4000)(hs:(base++X)[s-1]?=some (RV.unit,6))(h0:s≠0) :
  ∃X',Runs ⟨[],O,4000,D,base++X,C⟩ (St.ev goB s k) ⟨[],O++[0],4000,D+2,base++X',C⟩ (St.go RV.unit k):=by
 have b0:=fun I O D C=>out_base I O 4000 D X C
 have hs1:(base++X++[(RV.num (-1),s)])[(base++X).length+1-1]?=some (RV.num (-1),s):=at_last _ _
 have hs0:=keep (x:=(RV.num (-1),s)) hs
 have ha:base++X++[(RV.num (-1),s)]=base++(X++[(RV.num (-1),s)]):=append_assoc ..
 refine⟨X++[(RV.num (-1),s)],?_⟩
 have b1:=fun I O D C=>out_base I O 4000 D (X++[(RV.num (-1),s)]) C
 rw[<- ha]at b1 ⊢
 generalize hS1:base++X++[(RV.num (-1),s)]=S1 at *
 refine Runs.step rfl ?_
 refine Runs.step rfl ?_
 refine Runs.step (step_var (v:=RV.get) ((out_up hs).trans (b0 _ _ _ _).2.2.1)) ?_
 refine Runs.step rfl ?_
 refine Runs.step rfl ?_
 refine Runs.step (step_call (by omega)) ?_
 refine Runs.step rfl ?_
 show Runs ⟨[],O,4000,D+1,base++X++[(RV.num (-1),s)],C⟩ (St.ev _ ((base++X).length+1) k) _ _
 rw[hS1]
 refine Runs.step rfl ?_
 refine Runs.step rfl ?_
 refine Runs.step (step_var (v:=RV.num (-1)) (out_here hs1)) ?_
 refine Runs.step rfl ?_
 refine Runs.step rfl ?_
 refine Runs.step rfl ?_
 refine Runs.step rfl ?_
 refine Runs.step rfl ?_
 refine Runs.step (step_var (v:=RV.put) ((out_up hs1).trans ((out_up hs0).trans (b1 _ _ _ _).2.2.2.1))) ?_
 refine Runs.step rfl ?_
 refine Runs.step rfl ?_
 refine Runs.step (step_call (by omega)) ?_
 exact Runs.refl _ _
def sums:Nat->Nm->Nm
 |_,[]=>[]
 |T,c::r=>UInt8.ofNat ((T+c.toNat) % 256)::sums (T+c.toNat) r
theorem loop:∀(I O:Nm) (D T:Nat) (X:List (RV×Nat)) (s:Nat) (k:List Fr),D+4*I.length+2<=4000->T+255*I.length+255<9223372036854775808->(base++X)[s-1]?=some (RV.unit,6)->s≠0 ->
  ∃X' C,Runs ⟨I,O,4000,D,base++X,[RV.num T]⟩ (St.ev goB s k) ⟨[],O++sums T I++[0],4000,D+4*I.length+2,base++X',C⟩ (St.go RV.unit (List.replicate I.length lat++k)):=by
 intro I
 induction I with
 |nil=>
  intro O D T X s k hD hT hs h0
  obtain⟨X',h⟩:=last (O:=O) (D:=D) (C:=[RV.num T]) (k:=k) (by simpa using hD) hs h0
  exact⟨X',_,by simpa [sums]using h⟩
 |cons c r ih=>
  intro O D T X s k hD hT hs h0
  rw[length_cons]at hD hT
  have hc:c.toNat<256:=c.toNat_lt
  obtain⟨X1,s1,h1,h10,h2⟩:=round (I:=r) (O:=O) (c:=c) (D:=D) (T:=T) (k:=k) (by omega) (by omega) hs h0
  obtain⟨X2,C,h3⟩:=ih (O++[UInt8.ofNat ((T+c.toNat) % 256)]) (D+4) (T+c.toNat) X1 s1 (lat::k) (by omega) (by omega) h1 h10
  refine⟨X2,C,?_⟩
  have e1:O++[UInt8.ofNat ((T+c.toNat) % 256)]++sums (T+c.toNat) r++[0]=O++sums T (c::r)++[0]:=by rw[sums];simp
  have e2:D+4+4*r.length+2=D+4*(c::r).length+2:=by rw[length_cons];omega
  have e3:List.replicate r.length lat++lat::k=List.replicate (c::r).length lat++k:=by
   rw[length_cons,List.replicate_succ',append_assoc];rfl
  rw[e1,e2,e3]at h3
  exact h2.trans h3
theorem lats{m:Mach}{v:RV}{k:List Fr}:∀n,Runs m (St.go v (List.replicate n lat++k)) m (St.go v k):=by
 intro n
 induction n with
 |zero=>exact Runs.refl _ _
 |succ n ih=>rw[List.replicate_succ,cons_append];exact Runs.step rfl ih
theorem run(I:Nm)(h:I.length<=200):∃n m,(∀k,runR (n+k) (startM I 4000) (St.ev whole 3 [])=some (0,m))/\m.output=sums 0 I++[0]/\m.done=4*I.length+4:=by
 obtain⟨X,C,hl⟩:=loop I [] 2 0 [(RV.unit,6)] 7 [lat,⟨5,[⟨2,0,[],[],[]⟩],[],6,[],[]⟩] (by omega) (by omega) rfl (by decide)
 have h1:Runs (startM I 4000) (St.ev whole 3 []) ⟨I,[],4000,2,base++[(RV.unit,6)],[RV.num (0:Nat)]⟩ (St.ev goB 7 [lat,⟨5,[⟨2,0,[],[],[]⟩],[],6,[],[]⟩]):=by
  refine Runs.step rfl ?_
  refine Runs.step rfl ?_
  refine Runs.step (step_var (v:=RV.ref) rfl) ?_
  refine Runs.step rfl ?_
  refine Runs.step rfl ?_
  refine Runs.step (step_call (by decide)) ?_
  refine Runs.step rfl ?_
  refine Runs.step rfl ?_
  refine Runs.step rfl ?_
  refine Runs.step rfl ?_
  refine Runs.step rfl ?_
  refine Runs.step rfl ?_
  refine Runs.step rfl ?_
  refine Runs.step rfl ?_
  refine Runs.step rfl ?_
  refine Runs.step (step_var (v:=RV.fn goB 6) rfl) ?_
  refine Runs.step rfl ?_
  refine Runs.step rfl ?_
  refine Runs.step (step_call (show (1:Nat)≠4000 by decide)) ?_
  exact Runs.refl _ _
 have h2:=(h1.trans hl).trans ((lats I.length).trans (Runs.step rfl (Runs.step rfl (Runs.step rfl (Runs.refl _ _)))))
 obtain⟨n,hn⟩:=h2.ends rfl
 exact⟨n,_,hn,rfl,by show 2+4*I.length+2=_;omega⟩
end Cells
end
section
def cdEq:Nat->Cd->Cd->Bool
 |0,_,_=>false
 |n+1,a,b=>a.op==b.op && a.n==b.n && a.nm==b.nm && a.pts.isEmpty && b.pts.isEmpty && a.ps.length==b.ps.length && (a.ps.zip b.ps).all fun p=>cdEq n p.1 p.2
theorem cdEq_eq:∀(n:Nat)(a b:Cd),cdEq n a b=true->a=b:=by
 intro n
 induction n with
 |zero=>intro a b h;cases h
 |succ n ih=>
  intro a b h
  obtain⟨a1,a2,a3,a4,a5⟩:=a
  obtain⟨b1,b2,b3,b4,b5⟩:=b
  simp only[cdEq,Bool.and_eq_true,beq_iff_eq,List.isEmpty_iff]at h
  obtain⟨⟨⟨⟨⟨⟨rfl,rfl⟩,rfl⟩,rfl⟩,rfl⟩,hl⟩,hz⟩:=h
  have:a4=b4:=by
   refine List.ext_getElem hl fun i h1 h2=>?_
   have:=List.all_eq_true.1 hz (a4[i],b4[i]) (List.mem_iff_getElem.2 ⟨i,by simp;omega,by simp⟩)
   exact ih _ _ this
  rw[this]
theorem cells_code{D:Toks->Option Tr}(hU:Up D):cdProg [refN,getN,putN] (declsOf D cellsL)=Cells.whole:=by
 rw[declsOf_up hU cells_reads]
 exact cdEq_eq 40 _ _ (by decide +kernel)
end
section
open Go.RowKit
theorem cells_readD{D:Toks->Option Tr}(hU:Up D):(readD 0 ahead (declsOf D cellsL)).1=(0,0):=by
 rw[declsOf_up hU cells_reads]
 decide +kernel
theorem cells_okP{D:Toks->Option Tr}(hU:Up D):okP [refN,getN,putN] (declsOf D cellsL)=true:=by
 rw[declsOf_up hU cells_reads]
 decide +kernel
theorem cells_some{D:Toks->Option Tr}(hU:Up D):declsOf D cellsL≠[]/\(declsOf D cellsL).length<=100000:=by
 rw[declsOf_up hU cells_reads]
 decide +kernel
theorem fxProg:Fixed tyProg:=by unfold Fixed;decide
theorem run_cells{D:Toks->Option Tr}(hD:DOk D)(hU:Up D)(I:Nm)(hI:I.length<=200)(w:World):∃dn:Int,Calls prog 6 #[.string (bs cellsL),.string (bs I),.int .i64 ((4000:Nat):Int)] w fun e w'=>e=.returned (.tuple #[.agg #[.string (bs (Cells.sums 0 I++[0])),.int .i64 0,.int .i64 dn],.int .i64 0,.int .i64 0])/\Below w.heap.size w w':=by
 obtain⟨N,m,hrun,hout,hdone⟩:=Cells.run I hI
 have hrun:=hrun 0
 rw[Nat.add_zero]at hrun
 have hdl:(bs cellsL).data.toList=cellsL:=by simp[bs]
 refine⟨m.done,Run_of (n:=4000) (by omega) fun v=>?_⟩
 refine(Read_ofC hD (bs cellsL) (by rw[hdl];exact cells_plain hU) v (by decide +kernel) knownAhead_any).mono ?_
 rw[hdl]
 rintro e u⟨⟨hbw,hA⟩,hP⟩
 rcases hA with⟨hne,_⟩|⟨h0,hf,⟨hne,_⟩|⟨hz,pb,ad,rk,tb,dv,bv,rfl,hps,hlo⟩⟩
 ·exact absurd (by rw[progAD_up hU cells_reads];exact cells_reads) hne
 ·rw[cells_readD hU]at hne;exact absurd rfl hne
 ·refine⟨pb,rfl,hbw,fun u2 hu2=>?_⟩
  obtain⟨dv',bv',tb',bl,g1,g2,g3⟩:=hP pb rfl
  have hk:∀(k:Nat)(c:Array Value)(t:TypeId)(f:Nat×Nat),u.heap[k]?=some (.cells c t f)->u2.heap[k]?=u.heap[k]?:=fun k c t f hc=>hu2.block k (lt_of_heap hc) id
  have p2:=(hk _ _ _ _ g1).trans g1
  have hlen:=g3.len
  have hne:=(cells_some hU).1
  obtain⟨g,cap,hdv⟩:∃g cap,dv'=.slice (some ⟨g,0,none⟩) bl.length cap:=by
   rcases ownsRow_forms g2 with⟨_,h⟩|h
   ·exact absurd (List.length_eq_zero_iff.1 (by rw[<- hlen];exact h)) hne
   ·exact h
  subst hdv
  rw[<- hout]
  refine resultOf_of fxProg p2 (fun u3 mb hu3 hlow hmb=>?_)
  have hk3:∀(k:Nat)(c:Array Value)(t:TypeId)(f:Nat×Nat),u.heap[k]?=some (.cells c t f)->u3.heap[k]?=u.heap[k]?:=fun k c t f hc=>(hu3.block k (lt_of_lt_of_le (lt_of_heap hc) hu2.size) id).trans (hk k c t f hc)
  refine Work_any (B:=u2.heap.size) hlow (steps:=4000) (I:=I) (out:=m) (l:=declsOf D cellsL) (N:=N) hmb (by omega) (by omega) (inr ⟨g,0,cap,by rw[hlen],hne,?_⟩) (cells_okP hU) (by show runR N (startM I 4000) (St.ev (cdProg [refN,getN,putN] (declsOf D cellsL)) 3 [])=_;rw[cells_code hU];exact hrun)
  have g2':=ownsRow_kept g2 (w':=u3) fun k c f _ hc=>hk3 k c _ f hc
  have g3':NMem.NMems u3 (declsOf D cellsL) bl:=g3.kept (fun k c f hc=>hk3 k c _ f hc) (fun k c f hc=>hk3 k c _ f hc)
  rcases g2'.2 with⟨e,_⟩|⟨g',cap',cur,e,_,hgg,hnc,_,hcs,htk⟩
  ·cases e
  ·have:g=g'/\cap=cap':=by simp at e;exact e
   obtain⟨rfl,rfl⟩:=this
   refine⟨⟨cur,hgg,fun j nd hj=>?_⟩,by rw[<- hlen];exact hnc,(cells_some hU).2⟩
   obtain⟨b,hb,hnm⟩:=g3'.at hj
   refine⟨b,?_,hnm⟩
   have hjl:=(List.getElem?_eq_some_iff.1 hb).1
   have h8:(bl.map ptrV)[j]?=some (ptrV b):=by rw[List.getElem?_map,hb];rfl
   rw[<- htk,List.getElem?_take_of_lt (by omega)]at h8
   rw[Nat.zero_add]
   simpa using h8
end
section
open Go.RowKit
theorem keepSame_yes(toks:List (List UInt8))(v1 v2:Value)(b1 b2:Nat)(w:World)(hn:toks.length<=100000)
  (h1:w.ownsRow b1 9 1 v1 toks.length (toks.map strV)) (h2:w.ownsRow b2 9 1 v2 toks.length (toks.map strV)) :
  Calls prog 5 #[v1,v2] w fun e w'=>e=.returned (.bool true)/\∃nq,w'=w.drewN nq:=by
 by_cases h0:toks.length=0
 ·have hv:∀{v:Value}{b:Nat},w.ownsRow b 9 1 v toks.length (toks.map strV)->∃a c,v=.slice a 0 c:=by
   intro v b h
   rcases ownsRow_forms h with⟨rfl,_⟩|⟨g,cap,rfl⟩
   ·exact⟨_,_,rfl⟩
   ·rw[h0];exact⟨_,_,rfl⟩
  obtain⟨a1,c1,rfl⟩:=hv h1
  obtain⟨a2,c2,rfl⟩:=hv h2
  clear h1 h2 hv
  go_enter func5,ntmps5
  go_wp2
  refine wp_loop_rounds 1 ?_
  rw[rounds_succ]
  go_wp2
  go_ret
  exact⟨rfl,0,rfl⟩
 ·obtain⟨g1,c1,rfl⟩:∃g cap,v1=.slice (some ⟨g,0,none⟩) toks.length cap:=by
   rcases ownsRow_forms h1 with⟨_,h⟩|h
   ·exact absurd h h0
   ·exact h
  obtain⟨g2,c2,rfl⟩:∃g cap,v2=.slice (some ⟨g,0,none⟩) toks.length cap:=by
   rcases ownsRow_forms h2 with⟨_,h⟩|h
   ·exact absurd h h0
   ·exact h
  have hq1:∀k,k<toks.length->w.cell? ⟨g1,k,none⟩=some (strV (toks.getD k [])):=fun k hk=>by
   rw[h1.cellAt k (by omega),List.getElem?_map,List.getElem?_eq_getElem hk,List.getD_eq_getElem?_getD,List.getElem?_eq_getElem hk];rfl
  have hq2:∀k,k<toks.length->w.cell? ⟨g2,k,none⟩=some (strV (toks.getD k [])):=fun k hk=>by
   rw[h2.cellAt k (by omega),List.getElem?_map,List.getElem?_eq_getElem hk,List.getD_eq_getElem?_getD,List.getElem?_eq_getElem hk];rfl
  have HQ1:=hide hq1
  have HQ2:=hide hq2
  clear hq1 hq2 h1 h2
  generalize toks.length=n at *
  have hne:((n:Int) != (n:Int))=false:=by simp
  go_enter func5,ntmps5
  go_wp2
  go_loopw [5] (fun i wr=>∃k:Nat,k<=n/\i=.int .i64 k/\∃nq,wr=w.drewN nq) (fun i _=>n-(intOf i).toNat)
  case atStart=>exact⟨0,zero_le _,rfl,0,rfl⟩
  case round=>
   obtain⟨k,hk,rfl,nq,rfl⟩:=hrel
   by_cases hlt:k<n
   ·have e1:=HQ1.out k hlt
    have e2:=HQ2.out k hlt
    unfold strV at e1 e2
    generalize bs (toks.getD k [])=bk at *
    have hlt2:(k:Int)<(n:Int):=by omega
    have hbb:(bk.toList != bk.toList)=false:=by simp
    go_wp2_with fail
    go_quiet (fail)
    go_wp2
    exact⟨⟨k+1,by omega,by go_num,_,rfl⟩,by simp[intOf];omega⟩
   ·go_wp2
    go_ret
    exact⟨rfl,nq,rfl⟩
end
section
open Go.RowKit
def cellsB:ByteArray:=⟨#[108,101,116,32,115,117,109,32,61,32,114,101,102,32,48,32,46,32,108,101,116,32,97,100,100,32,110,32,61,32,115,117,109,32,58,61,32,33,115,117,109,32,43,32,110,32,59,32,112,117,116,32,40,33,115,117,109,41,32,46,10,108,101,116,32,114,101,99,32,103,111,32,117,32,61,32,108,101,116,32,99,32,61,32,103,101,116,32,40,41,32,105,110,32,105,102,32,99,32,60,32,48,32,116,104,101,110,32,112,117,116,32,48,32,101,108,115,101,32,40,97,100,100,32,99,32,59,32,103,111,32,40,41,41,32,46,32,100,111,32,103,111,32,40,41,32,46]⟩
theorem conv_one(n:Nat)(w:World):(convert 31 9 (.slice (some ⟨w.heap.size,0,none⟩) 1 1)).run prog (w.alloc (.cells #[.int .u8 ((n:Int) % 256)] tyRB))=.ok (.string (bs [UInt8.ofNat (n % 256)])) (w.alloc (.cells #[.int .u8 ((n:Int) % 256)] tyRB)):=by
 have h:=World.ownsRow_lit (base:=0) (e:=tyRB) (size:=1) w #[.int .u8 ((n:Int) % 256)] 1 (zero_le _) (by decide) rfl
 have e:[UInt8.ofNat (n % 256)].map (fun c=>Value.int .u8 c.toNat)=[.int .u8 ((n:Int) % 256)]:=by
  have:(UInt8.ofNat (n % 256)).toNat=n % 256:=by rw[UInt8.toNat_ofNat'];omega
  simp only[map_cons,List.map_nil,this]
  congr 2
 refine conv_row (B:=0) (l:=[UInt8.ofNat (n % 256)]) ?_
 rw[e]
 exact h
def tot:List UInt8->Nat
 |[]=>0
 |c::r=>c.toNat+tot r
theorem tot_snoc(l:List UInt8)(c:UInt8):tot (l++[c])=tot l+c.toNat:=by
 induction l with
 |nil=>simp[tot]
 |cons a r ih=>rw[cons_append,tot,tot,ih];omega
theorem sums_snoc(l:List UInt8)(c:UInt8):∀T,Cells.sums T (l++[c])=Cells.sums T l++[UInt8.ofNat ((T+tot l+c.toNat) % 256)]:=by
 induction l with
 |nil=>intro T;simp[Cells.sums,tot]
 |cons a r ih=>intro T;rw[cons_append,Cells.sums,Cells.sums,ih,tot,cons_append,Nat.add_assoc T]
theorem take_byte{I:Nm}{sv:ByteArray}(h:bs I=sv){k:Nat}(hk:k<sv.size):I.take (k+1)=I.take k++[sv[k]]:=by
 subst h
 have hk':k<I.length:=by simpa [bs,ByteArray.size]using hk
 rw[List.take_add_one,List.getElem?_eq_getElem hk']
 rfl
def LpC(w:World)(rb:Nat)(so:ByteArray)(wr:World):Prop:=Below w.heap.size w wr/\rb<wr.heap.size/\wr.cell? ⟨rb,0,none⟩=some (.string so)/\wr.cell? ⟨rb,1,none⟩=some (.int .i64 0)
theorem LpC.start{w w4:World}{so:ByteArray}{dn:Int}{t:TypeId}(hb:Below w.heap.size w w4):LpC w w4.heap.size so (w4.alloc (.cells #[.string so,.int .i64 0,.int .i64 dn] t)):=by
 have h:(w4.alloc (.cells #[.string so,.int .i64 0,.int .i64 dn] t)).heap[w4.heap.size]?=some (.cells #[.string so,.int .i64 0,.int .i64 dn] t (0,0)):=by simp only[alloc_heap,if_pos]
 exact⟨hb.alloc hb.size _,by simp,(cell_of h 0).trans rfl,(cell_of h 1).trans rfl⟩
theorem LpC.alloc{w wr:World}{rb:Nat}{so:ByteArray}(h:LpC w rb so wr)(o:Obj):LpC w rb so (wr.alloc o):=
 ⟨h.1.alloc h.1.size _,by simp;have:=h.2.1;omega,cell_up h.2.2.1,cell_up h.2.2.2⟩
theorem walkCells_of(hconv:∀(n:Nat)(w:World),(convert 31 9 (.slice (some ⟨w.heap.size,0,none⟩) 1 1)).run prog (w.alloc (.cells #[.int .u8 ((n:Int) % 256)] tyRB))=.ok (.string (bs [UInt8.ofNat (n % 256)])) (w.alloc (.cells #[.int .u8 ((n:Int) % 256)] tyRB)))
  (hT:∀wx,Calls prog 4 #[.string cellsB] wx fun e w1=>Below wx.heap.size wx w1/\∃v,e=.returned (.tuple #[v,.int .i64 0,.int .i64 0])/\Hid (w1.ownsRow wx.heap.size 9 1 v 3 ([[115,117,109,32,58,32,114,101,102,32,105,110,116],[97,100,100,32,58,32,105,110,116,32,45,62,32,117,110,105,116],[103,111,32,58,32,117,110,105,116,32,45,62,32,117,110,105,116]].map strV)))
  (hR:∀(I:Nm),I.length<=200->∀wx,∃dn:Int,Calls prog 6 #[.string cellsB,.string (bs I),.int .i64 4000] wx fun e w'=>e=.returned (.tuple #[.agg #[.string (bs (Cells.sums 0 I++[0])),.int .i64 0,.int .i64 dn],.int .i64 0,.int .i64 0])/\Below wx.heap.size wx w')
  (inp:ByteArray) (hs:inp.size<=maxLen) (w:World) :
  Calls prog 3 #[.string inp] w fun e w'=>e=.returned (.bool true)/\Below w.heap.size w w':=by
 have HT:=hide hT
 have HR:=hide hR
 have HV:=hide hconv
 clear hT hR hconv
 unfold maxLen at hs
 unfold cellsB at HT HR
 have hcut:∀S:ByteArray,S.size<=200->∃I:Nm,S=bs I/\I.length<=200/\S.size=I.length:=fun S h=>⟨S.data.toList,by simp[bs],by simpa using h,by simp⟩
 go_enter func3,ntmps3
 by_cases hb:200<inp.size
 case' pos=>
  have hb1:(200:Int)<(inp.size:Int):=by omega
  have hb2:(200:Int)<=(inp.size:Int):=by omega
  have hb3:(inp.extract 0 200).size<=200:=by simp[ByteArray.size_extract];omega
  go_wp2_with fail
  generalize inp.extract 0 200=S at *
  obtain⟨I,rfl,hIl,hIs⟩:=hcut S hb3
 case' neg=>
  have hb1:¬(200:Int)<(inp.size:Int):=by omega
  go_wp2_with fail
  obtain⟨I,rfl,hIl,hIs⟩:=hcut inp (by omega)
 all_goals
  refine(HT.out _).mono ?_
  rintro e w1⟨hbel1,v1,rfl,HO1⟩
  clear hcut
  go_wp2_with fail
  have hownA:=HO1.out.alloc (.cells #[.string ⟨#[115,117,109,32,58,32,114,101,102,32,105,110,116]⟩,.string ⟨#[97,100,100,32,58,32,105,110,116,32,45,62,32,117,110,105,116]⟩,.string ⟨#[103,111,32,58,32,117,110,105,116,32,45,62,32,117,110,105,116]⟩] 9)
  have hownB:=World.ownsRow_lit (base:=w1.heap.size) (e:=9) (size:=1) w1 #[.string ⟨#[115,117,109,32,58,32,114,101,102,32,105,110,116]⟩,.string ⟨#[97,100,100,32,58,32,105,110,116,32,45,62,32,117,110,105,116]⟩,.string ⟨#[103,111,32,58,32,117,110,105,116,32,45,62,32,117,110,105,116]⟩] 3 (le_refl _) (by decide) rfl
  have hbel2:Below w.heap.size w (w1.alloc (.cells #[.string ⟨#[115,117,109,32,58,32,114,101,102,32,105,110,116]⟩,.string ⟨#[97,100,100,32,58,32,105,110,116,32,45,62,32,117,110,105,116]⟩,.string ⟨#[103,111,32,58,32,117,110,105,116,32,45,62,32,117,110,105,116]⟩] 9)):=hbel1.alloc hbel1.size _
  refine(keepSame_yes [[115,117,109,32,58,32,114,101,102,32,105,110,116],[97,100,100,32,58,32,105,110,116,32,45,62,32,117,110,105,116],[103,111,32,58,32,117,110,105,116,32,45,62,32,117,110,105,116]] _ _ _ _ _ (by decide) hownA hownB).mono ?_
  rintro e w3⟨rfl,nq,hw3⟩
  have hbel3:Below w.heap.size w w3:=by rw[hw3];exact below_drewN hbel2 nq
  have hsz3:=hbel3.size
  clear hw3 HO1 hbel1 hownA hownB hbel2 HT
  obtain⟨dn,hrun⟩:=HR.out I hIl w3
  have HRun:=hide hrun
  have HB3:=hide hbel3
  clear hrun HR hbel3
  go_wp2_with fail
  refine(HRun.out).mono ?_
  rintro e w4⟨rfl,hbel4⟩
  have HB4:Hid (Below w.heap.size w w4):=HB3.out.trans (hbel4.mono hsz3)
  clear HRun HB3 hbel4
  go_wp2_with fail
  have hrel0:LpC w w4.heap.size (bs (Cells.sums 0 I++[0])) (w4.alloc (.cells #[.string (bs (Cells.sums 0 I++[0])),.int .i64 0,.int .i64 dn] 28)):=LpC.start HB4.out
  have HL0:=hide hrel0
  have HZ:=hide (show bs (Cells.sums 0 I++[0])=bs (Cells.sums 0 I)++⟨#[0]⟩ by rw[show (⟨#[0]⟩:ByteArray)=bs [0]from rfl,bs_app])
  clear hrel0 HB4
  generalize bs (Cells.sums 0 I++[0])=so at *
  generalize w4.heap.size=rb at *
  generalize hsv:bs I=sv at *
  have HSV:=hide hsv
  clear hsv
  go_loopg [10,11,12] I.length (fun gk st nn i wr=>∃(k:Nat) (S:ByteArray) (T:Nat),k+gk=I.length/\i=.int .i64 (k:Nat)/\st=.string S/\S.size=k/\nn=.int .i64 (T:Nat)/\T<=255*k/\Hid (S=bs (Cells.sums 0 (I.take k))/\T=tot (I.take k))/\Hid (LpC w rb so wr))
  case atStart=>exact⟨0,_,0,by omega,rfl,rfl,rfl,rfl,le_refl _,hide ⟨rfl,rfl⟩,HL0⟩
  case round=>
   clear HL0
   obtain⟨k,S,T,hk,rfl,rfl,hSz,rfl,hT,HS,HL⟩:=hrel
   by_cases hlt:k<I.length
   ·have hlt1:(k:Int)<(sv.size:Int):=by omega
    have hlt2:k<sv.size:=by omega
    have hc:=(sv[k]).toNat_lt
    have hcv:=HV.out (T+sv[k].toNat) wr
    rw[Int.natCast_add]at hcv
    have hXs:(bs [UInt8.ofNat ((T+sv[k].toNat) % 256)]).size=1:=rfl
    have HX:=hide (show bs (Cells.sums 0 (I.take (k+1)))=bs (Cells.sums 0 (I.take k))++bs [UInt8.ofNat ((T+sv[k].toNat) % 256)]/\tot (I.take (k+1))=T+sv[k].toNat by
     rw[take_byte HSV.out hlt2,sums_snoc,tot_snoc,<- bs_app,Nat.zero_add,<- HS.out.2];exact⟨rfl,rfl⟩)
    clear HV HSV
    generalize bs [UInt8.ofNat ((T+sv[k].toNat) % 256)]=X at *
    have hadd:S.size+X.size<=9223372036854775807:=by omega
    go_wp2_with fail
    go_roundg (I.length-(k+1))
    case rel=>exact⟨k+1,S++X,T+sv[k].toNat,by omega,by go_num,rfl,by rw[ByteArray.size_append];omega,by rw[Int.natCast_add],by omega,hide ⟨by rw[HX.out.1,HS.out.1],HX.out.2.symm⟩,hide (HL.out.alloc _)⟩
    case measure=>omega
   ·have hlt1:¬(k:Int)<(sv.size:Int):=by omega
    obtain⟨hb,hrl,c0,c1⟩:=HL.out
    have heq:(so.toList==(S++⟨#[0]⟩).toList)=true:=by rw[HZ.out,HS.out.1,List.take_of_length_le (by omega)];simp
    have HB:=hide hb
    clear HZ HS HL HSV HV hb
    go_wp2_with fail
    refine bodyPost_ret (v:=.bool true) (by simp[results,results3,go_sem,heq]) rfl ⟨rfl,HB.out⟩
theorem walkCells(inp:ByteArray)(hs:inp.size<=maxLen)(w:World) :
  Calls prog 3 #[.string inp] w fun e w'=>e=.returned (.bool true)/\Below w.heap.size w w':=by
 refine walkCells_of conv_one (fun wx=>?_) (fun I hI wx=>run_cells dok up_L I hI wx) inp hs w
 refine(kilnTypes_anyC dok (bs cellsL) (by rw[bs_data];exact cells_plain up_L) wx (by decide +kernel)).mono fun e w1 ⟨h1,_,v,h2,h3⟩=>?_
 rw[bs_data,cells_types up_L]at h2 h3
 exact⟨h1,v,h2,hide h3⟩
end
end Go.Proofs.YtbkiipiocpnnnaaGreatDoor
