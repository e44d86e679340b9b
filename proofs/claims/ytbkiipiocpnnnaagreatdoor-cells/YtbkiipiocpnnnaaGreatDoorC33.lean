import Derived.Test.YtbkiipiocpnnnaaGreatDoorC32
set_option linter.all false
set_option maxHeartbeats 40000000
set_option maxRecDepth 100000
open Go.Proofs.Tryz
open Or (inl inr)
open Option (bind_eq_some_iff)
open Nat (le_trans zero_le)
open List (append_nil length_append length_cons mem_cons_self mem_cons_of_mem mem_append mem_singleton cons_append mem_cons)
namespace Go.Proofs.YtbkiipiocpnnnaaGreatDoor
open Go.RowKit
def Cls(c:Nat)(k:Int)(cs:List Nat):Prop:=
 (c<=1/\(k=0\/k=1\/k=2\/k=3)/\cs=[])\/(c=1/\k=4/\cs=[])\/(c=0/\(k=5\/k=12)/\cs=[0])\/(c=0/\(k=6\/k=7\/k=9\/k=10\/k=11\/k=13)/\cs=[0,0])\/(c=0/\k=8/\cs=[0,0,0]) \/
 (c<=1/\k=14/\∃n,cs=List.replicate n c)\/(c=0/\k=15/\∃n,cs=0::List.replicate n 6)\/(c=6/\k=16/\cs=[1,0])\/(c=4/\(k=17\/k=6\/k=7)/\cs=[0])\/(c=4/\k=18/\∃n m,cs=List.replicate n 5++List.replicate m 3) \/
 (c=5/\k=19/\cs=[])\/(c=3/\k=20/\∃n,cs=List.replicate n 2)\/(c=2/\k=21/\cs=[])\/(c=2/\k=22/\∃n,cs=List.replicate n 2)\/(c=2/\k=23/\cs=[2,2])
theorem KindOf.cls{c:Nat}{is name:List UInt8}{k:Int}{txt:List UInt8}{cs:List Nat}(h:KindOf c is name k txt cs):Cls c k cs:=by
 refine h (fun c _ _ k _ cs=>Cls c k cs) ?_ ?_ ?_ ?_ ?_ ?_ ?_ ?_ ?_ ?_ ?_ ?_ ?_ ?_ ?_ ?_ ?_ ?_ ?_ ?_ ?_ ?_ ?_ ?_ ?_ ?_
 ·intro c hc x;exact inl ⟨hc,inl rfl,rfl⟩
 ·intro c hc x _;exact inl ⟨hc,inr (inl rfl),rfl⟩
 ·intro c hc;exact inl ⟨hc,inr (inr (inl rfl)),rfl⟩
 ·intro c hc x;exact inl ⟨hc,inr (inr (inr rfl)),rfl⟩
 ·exact inr (inl ⟨rfl,rfl,rfl⟩)
 ·intro x;simp[Cls]
 ·intro x;simp[Cls]
 ·intro x;simp[Cls]
 ·simp[Cls]
 ·simp[Cls]
 ·simp[Cls]
 ·intro x _;simp[Cls]
 ·simp[Cls]
 ·simp[Cls]
 ·intro c hc x n;exact inr (inr (inr (inr (inr (inl ⟨hc,rfl,n,rfl⟩)))))
 ·intro n;exact inr (inr (inr (inr (inr (inr (inl ⟨rfl,rfl,n,rfl⟩))))))
 ·simp[Cls]
 ·simp[Cls]
 ·intro x n m;exact inr (inr (inr (inr (inr (inr (inr (inr (inr (inl ⟨rfl,rfl,n,m,rfl⟩)))))))))
 ·intro x;simp[Cls]
 ·intro x n;exact inr (inr (inr (inr (inr (inr (inr (inr (inr (inr (inr (inl ⟨rfl,rfl,n,rfl⟩)))))))))))
 ·intro x;simp[Cls]
 ·intro x n;exact inr (inr (inr (inr (inr (inr (inr (inr (inr (inr (inr (inr (inr (inl ⟨rfl,rfl,n,rfl⟩)))))))))))))
 ·simp[Cls]
 ·intro x;simp[Cls]
 ·intro x;simp[Cls]
theorem Sh.cls{c k:Nat}{txt:Nm}{ps:List Nd}(h:Sh c (.mk k txt ps)):∃cs,Cls c k cs/\Sh.Shs cs ps:=by
 obtain⟨is,name,cs,h1,h2⟩:=h.inv
 exact⟨cs,h1.cls,h2⟩
theorem Shs.nil_inv{ps:List Nd}(h:Sh.Shs [] ps):ps=[]:=by cases ps with
 |nil=>rfl
 |cons=>simp[Sh.Shs]at h
theorem Shs.cons_inv{c:Nat}{cs:List Nat}{ps:List Nd}(h:Sh.Shs (c::cs) ps):∃p r,ps=p::r/\Sh c p/\Sh.Shs cs r:=by cases ps with
 |nil=>simp[Sh.Shs]at h
 |cons p r=>rw[Sh.Shs]at h;exact⟨p,r,rfl,h.1,h.2⟩
theorem Shs.all_of{c:Nat}:∀{n:Nat}{ps:List Nd},Sh.Shs (List.replicate n c) ps->∀p∈ps,Sh c p:=by
 intro n
 induction n with
 |zero=>intro ps h p hp;rw[Shs.nil_inv h]at hp;cases hp
 |succ n ih=>
  intro ps h p hp
  rw[List.replicate_succ]at h
  obtain⟨q,r,rfl,h1,h2⟩:=Shs.cons_inv h
  rcases mem_cons.1 hp with rfl|hp
  ·exact h1
  ·exact ih h2 p hp
theorem Shs.split:∀{a b:List Nat}{ps:List Nd},Sh.Shs (a++b) ps->∃p q,ps=p++q/\Sh.Shs a p/\Sh.Shs b q:=by
 intro a
 induction a with
 |nil=>intro b ps h;exact⟨[],ps,rfl,by rw[Sh.Shs];trivial,h⟩
 |cons c a ih=>
  intro b ps h
  rw[cons_append]at h
  obtain⟨p,r,rfl,h1,h2⟩:=Shs.cons_inv h
  obtain⟨p',q,rfl,h3,h4⟩:=ih h2
  exact⟨p::p',q,rfl,by rw[Sh.Shs];exact⟨h1,h3⟩,h4⟩
theorem mss_mem{p:Nd}:∀{ps:List Nd},p∈ps->p.ms<=Nd.ms.mss ps:=by
 intro ps
 induction ps with
 |nil=>intro h;cases h
 |cons q r ih=>
  intro h
  rw[Nd.ms.mss]
  rcases mem_cons.1 h with rfl|h
  ·omega
  ·have:=ih h;omega
theorem ms_eq(k:Nat)(txt:Nm)(ps:List Nd):(Nd.mk k txt ps).ms=1+txt.length+Nd.ms.mss ps:=by rw[Nd.ms]
theorem ms_pos(nd:Nd):1<=nd.ms:=by cases nd;rw[ms_eq];omega
theorem mss_len:∀ps:List Nd,ps.length<=Nd.ms.mss ps:=by
 intro ps
 induction ps with
 |nil=>exact zero_le _
 |cons q r ih=>rw[Nd.ms.mss,length_cons];have:=ms_pos q;omega
theorem ms_big(nd:Nd):nd.all.length<=nd.ms/\nd.sz<=nd.ms/\nd.ht<=nd.ms/\∀x∈nd.all,x.txt.length<=nd.ms/\x.ps.length<=nd.ms:=
 Nd.rec (motive_1:=fun nd=>nd.all.length<=nd.ms/\nd.sz<=nd.ms/\nd.ht<=nd.ms/\∀x∈nd.all,x.txt.length<=nd.ms/\x.ps.length<=nd.ms)
  (motive_2:=fun ps=>(Nd.all.alls ps).length<=Nd.ms.mss ps/\Nd.sz.szs ps<=Nd.ms.mss ps/\Nd.ht.hts ps<=Nd.ms.mss ps/\∀x∈Nd.all.alls ps,x.txt.length<=Nd.ms.mss ps/\x.ps.length<=Nd.ms.mss ps)
  (fun k txt ps ih=>by
   obtain⟨h1,h2,h3,h4⟩:=ih
   have hl:=mss_len ps
   rw[ms_eq,Nd.all_eq,Nd.ht_eq,Nd.sz,length_cons]
   refine⟨by omega,by omega,by omega,fun x hx=>?_⟩
   rcases mem_cons.1 hx with rfl|hx
   ·dsimp only;omega
   ·have:=h4 x hx;omega)
  (by simp[Nd.all.alls,Nd.sz.szs,Nd.ht.hts,Nd.ms.mss])
  (fun p r hp hr=>by
   obtain⟨h1,h2,h3,h4⟩:=hp
   obtain⟨q1,q2,q3,q4⟩:=hr
   rw[Nd.all.alls,Nd.sz.szs,Nd.ht.hts,Nd.ms.mss,length_append]
   refine⟨by omega,by omega,by omega,fun x hx=>?_⟩
   rcases mem_append.1 hx with hx|hx
   ·have:=h4 x hx;omega
   ·have:=q4 x hx;omega) nd
theorem Sh.kind{c:Nat}{nd:Nd}(h:Sh c nd):(c=0->nd.k<=15)/\(c=6->nd.k=16)/\(c=5->nd.k=19)/\(c=3->nd.k=20):=by
 obtain⟨k,txt,ps⟩:=nd
 obtain⟨cs,hc,_⟩:=h.cls
 show (c=0->k<=15)/\(c=6->k=16)/\(c=5->k=19)/\(c=3->k=20)
 unfold Cls at hc
 omega
theorem shape_mk{c k:Nat}{txt:Nm}{ps:List Nd}(h:Sh c (.mk k txt ps))(hc:c=0\/c=1\/c=6):shapeOk k ps/\∃cs,Sh.Shs cs ps/\∀d∈cs,d=0\/d=1\/d=6:=by
 obtain⟨cs,hk,hs⟩:=h.cls
 rcases hk with⟨h0,h1,rfl⟩|⟨h0,h1,rfl⟩|⟨h0,h1,rfl⟩|⟨h0,h1,rfl⟩|⟨h0,h1,rfl⟩|⟨h0,h1,n,rfl⟩|⟨h0,h1,n,rfl⟩|⟨h0,h1,rfl⟩|⟨h0,h1,rfl⟩|⟨h0,h1,n,m,rfl⟩|⟨h0,h1,rfl⟩|⟨h0,h1,n,rfl⟩|⟨h0,h1,rfl⟩|⟨h0,h1,n,rfl⟩|⟨h0,h1,rfl⟩
 ·refine⟨?_,[],hs,by simp⟩
  have:k=0\/k=1\/k=2\/k=3:=by omega
  rcases this with rfl|rfl|rfl|rfl<;>trivial
 ·refine⟨?_,[],hs,by simp⟩
  have:k=4:=by omega
  subst this;trivial
 ·refine⟨?_,[0],hs,by simp⟩
  obtain⟨a,r,rfl,_,h2⟩:=Shs.cons_inv hs
  have:=Shs.nil_inv h2
  subst this
  have:k=5\/k=12:=by omega
  rcases this with rfl|rfl<;>rfl
 ·refine⟨?_,[0,0],hs,by simp⟩
  obtain⟨a,r,rfl,_,h2⟩:=Shs.cons_inv hs
  obtain⟨b,r,rfl,_,h2⟩:=Shs.cons_inv h2
  have:=Shs.nil_inv h2
  subst this
  have:k=6\/k=7\/k=9\/k=10\/k=11\/k=13:=by omega
  rcases this with rfl|rfl|rfl|rfl|rfl|rfl<;>rfl
 ·refine⟨?_,[0,0,0],hs,by simp⟩
  obtain⟨a,r,rfl,_,h2⟩:=Shs.cons_inv hs
  obtain⟨b,r,rfl,_,h2⟩:=Shs.cons_inv h2
  obtain⟨d,r,rfl,_,h2⟩:=Shs.cons_inv h2
  have:=Shs.nil_inv h2
  subst this
  have:k=8:=by omega
  subst this;rfl
 ·refine⟨?_,_,hs,fun d hd=>by rw[(List.mem_replicate.1 hd).2];omega⟩
  have:k=14:=by omega
  subst this;trivial
 ·refine⟨?_,_,hs,fun d hd=>?_⟩
  ·obtain⟨a,r,rfl,h2,h3⟩:=Shs.cons_inv hs
   have:k=15:=by omega
   subst this
   refine⟨a,r,rfl,?_,fun x hx=>(Shs.all_of h3 x hx).kind.2.1 rfl⟩
   have:=h2.kind.1 rfl
   omega
  ·rcases mem_cons.1 hd with rfl|hd
   ·exact inl rfl
   ·rw[(List.mem_replicate.1 hd).2];exact inr (inr rfl)
 ·refine⟨?_,[1,0],hs,by simp⟩
  obtain⟨a,r,rfl,_,h2⟩:=Shs.cons_inv hs
  obtain⟨b,r,rfl,_,h2⟩:=Shs.cons_inv h2
  have:=Shs.nil_inv h2
  subst this
  have:k=16:=by omega
  subst this;rfl
 all_goals (exfalso;omega)
theorem Sh.shapes(nd:Nd):∀c,Sh c nd->(c=0\/c=1\/c=6)->∀x∈nd.all,shapeOk x.k x.ps:=
 Nd.rec (motive_1:=fun nd=>∀c,Sh c nd->(c=0\/c=1\/c=6)->∀x∈nd.all,shapeOk x.k x.ps)
  (motive_2:=fun ps=>∀cs,Sh.Shs cs ps->(∀d∈cs,d=0\/d=1\/d=6)->∀x∈Nd.all.alls ps,shapeOk x.k x.ps)
  (fun k txt ps ih c h hc x hx=>by
   obtain⟨h1,cs,h2,h3⟩:=shape_mk h hc
   rw[Nd.all_eq]at hx
   rcases mem_cons.1 hx with rfl|hx
   ·exact h1
   ·exact ih cs h2 h3 x hx)
  (fun cs h hc x hx=>by rw[Nd.all.alls]at hx;cases hx)
  (fun p r ihp ihr cs h hc x hx=>by
   rw[Nd.all.alls]at hx
   cases cs with
   |nil=>cases Shs.nil_inv h
   |cons c cs=>
    rw[Sh.Shs]at h
    rcases mem_append.1 hx with hx|hx
    ·exact ihp c h.1 (hc c mem_cons_self) x hx
    ·exact ihr cs h.2 (fun d hd=>hc d (mem_cons_of_mem _ hd)) x hx) nd
theorem Sh.wf{nd:Nd}(h:Sh 0 nd)(hm:nd.ms<=1000000):WfN nd:=fun x hx=>by
 obtain⟨_,_,_,h4⟩:=ms_big nd
 have:=h4 x hx
 exact⟨Sh.shapes nd 0 h (inl rfl) x hx,by omega,by omega⟩
theorem Sh.pats(nd:Nd):Sh 1 nd->∀x∈nd.all,(x.k<=4\/x.k=14)/\(x.k≠14->x.ps=[]):=
 Nd.rec (motive_1:=fun nd=>Sh 1 nd->∀x∈nd.all,(x.k<=4\/x.k=14)/\(x.k≠14->x.ps=[]))
  (motive_2:=fun ps=>(∀p∈ps,Sh 1 p)->∀x∈Nd.all.alls ps,(x.k<=4\/x.k=14)/\(x.k≠14->x.ps=[]))
  (fun k txt ps ih h x hx=>by
   obtain⟨cs,hk,hs⟩:=h.cls
   rw[Nd.all_eq]at hx
   have h1:((k<=4)/\ps=[])\/(k=14/\∀p∈ps,Sh 1 p):=by
    rcases hk with⟨h0,h1,rfl⟩|⟨h0,h1,rfl⟩|⟨h0,h1,rfl⟩|⟨h0,h1,rfl⟩|⟨h0,h1,rfl⟩|⟨h0,h1,n,rfl⟩|⟨h0,h1,n,rfl⟩|⟨h0,h1,rfl⟩|⟨h0,h1,rfl⟩|⟨h0,h1,n,m,rfl⟩|⟨h0,h1,rfl⟩|⟨h0,h1,n,rfl⟩|⟨h0,h1,rfl⟩|⟨h0,h1,n,rfl⟩|⟨h0,h1,rfl⟩
    ·exact inl ⟨by omega,Shs.nil_inv hs⟩
    ·exact inl ⟨by omega,Shs.nil_inv hs⟩
    ·cases h0
    ·cases h0
    ·cases h0
    ·exact inr ⟨by omega,Shs.all_of hs⟩
    all_goals (exfalso;omega)
   rcases mem_cons.1 hx with rfl|hx
   ·rcases h1 with⟨h2,h3⟩|⟨h2,_⟩
    ·exact⟨inl h2,fun _=>h3⟩
    ·exact⟨inr h2,fun e=>absurd h2 e⟩
   ·rcases h1 with⟨_,rfl⟩|⟨_,h3⟩
    ·rw[Nd.all.alls]at hx;cases hx
    ·exact ih h3 x hx)
  (fun h x hx=>by rw[Nd.all.alls]at hx;cases hx)
  (fun p r ihp ihr h x hx=>by
   rw[Nd.all.alls]at hx
   rcases mem_append.1 hx with hx|hx
   ·exact ihp (h p mem_cons_self) x hx
   ·exact ihr (fun q hq=>h q (mem_cons_of_mem _ hq)) x hx) nd
theorem Sh.pt{nd:Nd}(h:Sh 1 nd)(hm:nd.ms<=1000000):PtSh nd:=fun x hx=>by
 obtain⟨_,_,_,h4⟩:=ms_big nd
 have:=h4 x hx
 obtain⟨q1,q2⟩:=Sh.pats nd h x hx
 exact⟨by omega,by omega,q1,q2⟩
theorem Sh.xsh:∀(m:Nat)(nd:Nd),Sh 0 nd->nd.ms<=1000000->XSh m nd:=by
 intro m
 induction m with
 |zero=>intro nd _ _;rw[XSh];trivial
 |succ m ih=>
  intro nd h hm
  obtain⟨k,txt,ps⟩:=nd
  obtain⟨cs,hk,hs⟩:=h.cls
  have hms:=hm
  rw[ms_eq]at hms
  have hl:=mss_len ps
  have hp:∀p∈ps,p.ms<=1000000:=fun p hp=>by have:=mss_mem hp;omega
  have ht:txt.length<=100000000/\ps.length<=1000000:=by omega
  rcases hk with⟨h0,h1,rfl⟩|⟨h0,h1,rfl⟩|⟨h0,h1,rfl⟩|⟨h0,h1,rfl⟩|⟨h0,h1,rfl⟩|⟨h0,h1,n,rfl⟩|⟨h0,h1,n,rfl⟩|⟨h0,h1,rfl⟩|⟨h0,h1,rfl⟩|⟨h0,h1,n,m',rfl⟩|⟨h0,h1,rfl⟩|⟨h0,h1,n,rfl⟩|⟨h0,h1,rfl⟩|⟨h0,h1,n,rfl⟩|⟨h0,h1,rfl⟩
  ·have:k=0\/k=1\/k=2\/k=3:=by omega
   rcases this with rfl|rfl|rfl|rfl<;>(rw[XSh];exact⟨ht.1,ht.2,trivial⟩)
  ·cases h0
  ·obtain⟨a,r,rfl,ha,h2⟩:=Shs.cons_inv hs
   have:=Shs.nil_inv h2
   subst this
   have hxa:=ih a ha (hp a (by simp))
   have:k=5\/k=12:=by omega
   rcases this with rfl|rfl<;>(rw[XSh];exact⟨ht.1,ht.2,hxa⟩)
  ·obtain⟨a,r,rfl,ha,h2⟩:=Shs.cons_inv hs
   obtain⟨b,r,rfl,hb,h2⟩:=Shs.cons_inv h2
   have:=Shs.nil_inv h2
   subst this
   have hxa:=ih a ha (hp a (by simp))
   have hxb:=ih b hb (hp b (by simp))
   have:k=6\/k=7\/k=9\/k=10\/k=11\/k=13:=by omega
   rcases this with rfl|rfl|rfl|rfl|rfl|rfl<;>(rw[XSh];exact⟨ht.1,ht.2,hxa,hxb⟩)
  ·obtain⟨a,r,rfl,ha,h2⟩:=Shs.cons_inv hs
   obtain⟨b,r,rfl,hb,h2⟩:=Shs.cons_inv h2
   obtain⟨d,r,rfl,hd,h2⟩:=Shs.cons_inv h2
   have:=Shs.nil_inv h2
   subst this
   have:k=8:=by omega
   subst this
   rw[XSh]
   exact⟨ht.1,ht.2,ih a ha (hp a (by simp)),ih b hb (hp b (by simp)),ih d hd (hp d (by simp))⟩
  ·have:k=14:=by omega
   subst this
   rw[XSh]
   exact⟨ht.1,ht.2,fun p hpm=>ih p (Shs.all_of hs p hpm) (hp p hpm)⟩
  ·obtain⟨a,r,rfl,ha,h2⟩:=Shs.cons_inv hs
   have:k=15:=by omega
   subst this
   rw[XSh]
   refine⟨ht.1,ht.2,ih a ha (hp a (by simp)),ha.kind.1 rfl,fun x hx=>?_⟩
   have hsx:=Shs.all_of h2 x hx
   have hxm:=hp x (mem_cons_of_mem _ hx)
   obtain⟨k',t',ps'⟩:=x
   obtain⟨cs',hk',hs'⟩:=hsx.cls
   rcases hk' with⟨g0,g1,rfl⟩|⟨g0,g1,rfl⟩|⟨g0,g1,rfl⟩|⟨g0,g1,rfl⟩|⟨g0,g1,rfl⟩|⟨g0,g1,n',rfl⟩|⟨g0,g1,n',rfl⟩|⟨g0,g1,rfl⟩|⟨g0,g1,rfl⟩|⟨g0,g1,n',m',rfl⟩|⟨g0,g1,rfl⟩|⟨g0,g1,n',rfl⟩|⟨g0,g1,rfl⟩|⟨g0,g1,n',rfl⟩|⟨g0,g1,rfl⟩
   case inr.inr.inr.inr.inr.inr.inr.inl=>
    obtain⟨p,r',rfl,hsp,q2⟩:=Shs.cons_inv hs'
    obtain⟨e,r',rfl,hse,q2⟩:=Shs.cons_inv q2
    have:=Shs.nil_inv q2
    subst this
    have:k'=16:=by omega
    subst this
    rw[ms_eq]at hxm
    have e1:=mss_mem (p:=p) (ps:=[p,e]) (by simp)
    have e2:=mss_mem (p:=e) (ps:=[p,e]) (by simp)
    exact⟨t',p,e,rfl,hsp.pt (by omega),ih e hse (by omega)⟩
   all_goals (exfalso;omega)
  all_goals (exfalso;omega)
theorem Sh.types(nd:Nd):Sh 2 nd->∀x∈nd.all,x.k=21\/x.k=22\/(x.k=23/\x.ps.length=2):=
 Nd.rec (motive_1:=fun nd=>Sh 2 nd->∀x∈nd.all,x.k=21\/x.k=22\/(x.k=23/\x.ps.length=2))
  (motive_2:=fun ps=>(∀p∈ps,Sh 2 p)->∀x∈Nd.all.alls ps,x.k=21\/x.k=22\/(x.k=23/\x.ps.length=2))
  (fun k txt ps ih h x hx=>by
   obtain⟨cs,hk,hs⟩:=h.cls
   rw[Nd.all_eq]at hx
   have h1:(k=21\/k=22\/(k=23/\ps.length=2))/\∀p∈ps,Sh 2 p:=by
    rcases hk with⟨h0,h1,rfl⟩|⟨h0,h1,rfl⟩|⟨h0,h1,rfl⟩|⟨h0,h1,rfl⟩|⟨h0,h1,rfl⟩|⟨h0,h1,n,rfl⟩|⟨h0,h1,n,rfl⟩|⟨h0,h1,rfl⟩|⟨h0,h1,rfl⟩|⟨h0,h1,n,m,rfl⟩|⟨h0,h1,rfl⟩|⟨h0,h1,n,rfl⟩|⟨h0,h1,rfl⟩|⟨h0,h1,n,rfl⟩|⟨h0,h1,rfl⟩
    case inr.inr.inr.inr.inr.inr.inr.inr.inr.inr.inr.inr.inl=>exact⟨inl (by omega),by rw[Shs.nil_inv hs];simp⟩
    case inr.inr.inr.inr.inr.inr.inr.inr.inr.inr.inr.inr.inr.inl=>exact⟨inr (inl (by omega)),Shs.all_of hs⟩
    case inr.inr.inr.inr.inr.inr.inr.inr.inr.inr.inr.inr.inr.inr=>
     obtain⟨a,r,rfl,ha,h2⟩:=Shs.cons_inv hs
     obtain⟨b,r,rfl,hb,h2⟩:=Shs.cons_inv h2
     have:=Shs.nil_inv h2
     subst this
     refine⟨inr (inr ⟨by omega,rfl⟩),fun p hp=>?_⟩
     simp only[mem_cons,List.not_mem_nil,or_false]at hp
     rcases hp with rfl|rfl
     ·exact ha
     ·exact hb
    all_goals (exfalso;omega)
   rcases mem_cons.1 hx with rfl|hx
   ·exact h1.1
   ·exact ih h1.2 x hx)
  (fun h x hx=>by rw[Nd.all.alls]at hx;cases hx)
  (fun p r ihp ihr h x hx=>by
   rw[Nd.all.alls]at hx
   rcases mem_append.1 hx with hx|hx
   ·exact ihp (h p mem_cons_self) x hx
   ·exact ihr (fun q hq=>h q (mem_cons_of_mem _ hq)) x hx) nd
theorem kd22{c:Nat}{is name:Nm}(h:(kdOf c is name).1=22):is=K.named_/\(kdOf c is name).2=name:=by
 by_cases h2:c=2
 ·subst h2
  by_cases g1:is=K.var_
  ·rw[show kdOf 2 is name=(21,name.drop 1) by simp[kdOf,g1]]at h;cases h
  ·by_cases g2:is=K.named_
   ·exact⟨g2,by simp[kdOf,g1,g2,show ¬K.named_=K.var_ by decide]⟩
   ·rw[show kdOf 2 is name=(23,[]) by simp[kdOf,g1,g2]]at h;cases h
 ·exfalso
  unfold kdOf at h
  by_cases h6:c=6
  ·rw[if_pos h6]at h;cases h
  rw[if_neg h6]at h
  by_cases h5:c=5
  ·rw[if_pos h5]at h;cases h
  rw[if_neg h5]at h
  by_cases h3:c=3
  ·rw[if_pos h3]at h;cases h
  rw[if_neg h3,if_neg h2]at h
  by_cases h4:c=4
  ·rw[if_pos h4]at h
   by_cases g1:is=K.do_
   ·rw[if_pos g1]at h;cases h
   rw[if_neg g1]at h
   by_cases g2:is=K.type_
   ·rw[if_pos g2]at h;cases h
   rw[if_neg g2]at h
   by_cases g3:is=K.let_
   ·rw[if_pos g3]at h;cases h
   rw[if_neg g3]at h;cases h
  rw[if_neg h4]at h
  by_cases g:is=K.num_
  ·rw[if_pos g]at h;cases h
  rw[if_neg g]at h
  clear g
  by_cases g:is=K.const_
  ·rw[if_pos g]at h
   by_cases u1:name=K.under_
   ·rw[if_pos u1]at h;cases h
   rw[if_neg u1]at h
   by_cases u2:name=K.unit_
   ·rw[if_pos u2]at h;cases h
   rw[if_neg u2]at h;cases h
  rw[if_neg g]at h
  clear g
  by_cases g:is=K.var_
  ·rw[if_pos g]at h;cases h
  rw[if_neg g]at h
  clear g
  by_cases g:is=K.fun_
  ·rw[if_pos g]at h;cases h
  rw[if_neg g]at h
  clear g
  by_cases g:is=K.let_
  ·rw[if_pos g]at h;cases h
  rw[if_neg g]at h
  clear g
  by_cases g:is=K.rec_
  ·rw[if_pos g]at h;cases h
  rw[if_neg g]at h
  clear g
  by_cases g:is=K.if_
  ·rw[if_pos g]at h;cases h
  rw[if_neg g]at h
  clear g
  by_cases g:is=K.seq_
  ·rw[if_pos g]at h;cases h
  rw[if_neg g]at h
  clear g
  by_cases g:is=K.setN_
  ·rw[if_pos g]at h;cases h
  rw[if_neg g]at h
  clear g
  by_cases g:is=K.bang_
  ·rw[if_pos g]at h;cases h
  rw[if_neg g]at h
  clear g
  by_cases g:is=K.app_
  ·rw[if_pos g]at h;cases h
  rw[if_neg g]at h
  clear g
  by_cases g:is=K.con_
  ·rw[if_pos g]at h;cases h
  rw[if_neg g]at h
  clear g
  by_cases g:is=K.match_
  ·rw[if_pos g]at h;cases h
  rw[if_neg g]at h
  clear g
  cases h
theorem kd18{is name:Nm}(h:(kdOf 4 is name).1=18):is=K.type_/\(kdOf 4 is name).2=name:=by
 unfold kdOf at h ⊢
 simp only[show ¬(4:Nat)=6 by decide,show ¬(4:Nat)=5 by decide,show ¬(4:Nat)=3 by decide,show ¬(4:Nat)=2 by decide,if_false,if_true]at h ⊢
 split at h
 ·cases h
 ·rename_i h1
  split at h
  ·rename_i h2
   rw[if_neg h1,if_pos h2]
   exact⟨h2,rfl⟩
  ·split at h<;>cases h
theorem nd_full(t:Tr):∀c,t.full->∀x∈(ndOf c t).all,x.k=22->x.txt≠[]:=
 Tr.rec (motive_1:=fun t=>∀c,t.full->∀x∈(ndOf c t).all,x.k=22->x.txt≠[])
  (motive_2:=fun ts=>∀c is i,Tr.full.fulls ts->∀x∈Nd.all.alls (ndOf.nds c is i ts),x.k=22->x.txt≠[])
  (fun is name ts ih c h x hx hk=>by
   rw[Tr.full]at h
   rw[ndOf_mk,Nd.all_eq]at hx
   rcases mem_cons.1 hx with rfl|hx
   ·obtain⟨h1,h2⟩:=kd22 hk
    show (kdOf c is name).2≠[]
    rw[h2];exact h.1 h1
   ·exact ih c is 0 h.2 x hx hk)
  (fun c is i h x hx=>by rw[ndOf.nds,Nd.all.alls]at hx;cases hx)
  (fun t r iht ihr c is i h x hx hk=>by
   rw[Tr.full.fulls]at h
   rw[ndOf.nds,Nd.all.alls]at hx
   rcases mem_append.1 hx with hx|hx
   ·exact iht _ h.1 x hx hk
   ·exact ihr c is (i+1) h.2 x hx hk) t
theorem nds_full{ts:List Tr}{c:Nat}{is:Nm}{i:Nat}(h:Tr.full.fulls ts):∀x∈Nd.all.alls (ndOf.nds c is i ts),x.k=22->x.txt≠[]:=by
 induction ts generalizing i with
 |nil=>intro x hx;rw[ndOf.nds,Nd.all.alls]at hx;cases hx
 |cons t r ih=>
  intro x hx hk
  rw[Tr.full.fulls]at h
  rw[ndOf.nds,Nd.all.alls]at hx
  rcases mem_append.1 hx with hx|hx
  ·exact nd_full t _ h.1 x hx hk
  ·exact ih h.2 x hx hk
structure DeclFine(nd:Nd):Prop where
 ok:DeclOk nd.k nd.txt nd.ps
 full:DeclFull nd
 ne:nd.k=18->nd.txt≠arrowN
 val:nd.k≠18->∃a r,nd.ps=a::r/\(∀m,XSh m a)/\a.ht<=900000/\a.sz<=100000000
 typ:nd.k=18->(∀x∈only 19 nd.ps,okS x.txt)/\∀v∈only 20 nd.ps,∀q∈v.ps,∀x∈q.all,(x.k=21/\okS x.txt)\/(x.k=22/\x.txt≠[])\/(x.k=23/\x.ps.length=2)
theorem decl_fine{t:Tr}(hs:Sh 4 (ndOf 4 t))(hms:(ndOf 4 t).ms<=800000)(hd:t.dfull):DeclFine (ndOf 4 t):=by
 have hbig:=ms_big (ndOf 4 t)
 have hfull:(ndOf 4 t).k=18->(ndOf 4 t).txt≠[]/\(ndOf 4 t).txt≠[45,62]/\∀x∈Nd.all.alls (ndOf 4 t).ps,x.k=22->x.txt≠[]:=by
  obtain⟨is,name,ts⟩:=t
  rw[ndOf_mk]
  intro hk
  obtain⟨h1,h2⟩:=kd18 hk
  obtain⟨d1,d2,d3⟩:=hd h1
  show (kdOf 4 is name).2≠[]/\(kdOf 4 is name).2≠[45,62]/\_
  rw[h2]
  exact⟨d1,d2,nds_full d3⟩
 generalize ndOf 4 t=nd at *
 obtain⟨k,txt,ps⟩:=nd
 obtain⟨cs,hk,hss⟩:=hs.cls
 have hm:=hms
 rw[ms_eq]at hm
 have hpl:=mss_len ps
 have hcase:((k=17\/k=6\/k=7)/\∃a,ps=[a]/\Sh 0 a)\/(k=18/\∃l v,ps=l++v/\(∀x∈l,Sh 5 x)/\∀x∈v,Sh 3 x):=by
  rcases hk with⟨h0,h1,rfl⟩|⟨h0,h1,rfl⟩|⟨h0,h1,rfl⟩|⟨h0,h1,rfl⟩|⟨h0,h1,rfl⟩|⟨h0,h1,n,rfl⟩|⟨h0,h1,n,rfl⟩|⟨h0,h1,rfl⟩|⟨h0,h1,rfl⟩|⟨h0,h1,n,m,rfl⟩|⟨h0,h1,rfl⟩|⟨h0,h1,n,rfl⟩|⟨h0,h1,rfl⟩|⟨h0,h1,n,rfl⟩|⟨h0,h1,rfl⟩
  case inr.inr.inr.inr.inr.inr.inr.inr.inl=>
   obtain⟨a,r,rfl,ha,h2⟩:=Shs.cons_inv hss
   have:=Shs.nil_inv h2
   subst this
   exact inl ⟨by omega,a,rfl,ha⟩
  case inr.inr.inr.inr.inr.inr.inr.inr.inr.inl=>
   obtain⟨l,v,rfl,h2,h3⟩:=Shs.split hss
   exact inr ⟨by omega,l,v,rfl,Shs.all_of h2,Shs.all_of h3⟩
  all_goals (exfalso;omega)
 have htx:txt.length<=100000000:=by omega
 rcases hcase with⟨hk3,a,rfl,ha⟩|⟨rfl,l,v,rfl,hl,hv⟩
 ·have ham:a.ms<=800000:=by have:=mss_mem (p:=a) (ps:=[a]) (by simp);omega
  obtain⟨b1,b2,b3,b4⟩:=ms_big a
  have hn18:k≠18:=by omega
  refine⟨⟨by show k=17\/k=6\/k=7\/k=18;omega,htx,fun _=>⟨a,[],rfl,ha.wf (by omega),by omega⟩,fun e=>absurd e hn18⟩,fun e=>absurd e hn18,fun e=>absurd e hn18,fun _=>⟨a,[],rfl,fun m=>ha.xsh m a (by omega),by omega,by omega⟩,fun e=>absurd e hn18⟩
 ·have h19:∀x∈l,x.k=19:=fun x hx=>(hl x hx).kind.2.2.1 rfl
  have h20:∀x∈v,x.k=20:=fun x hx=>(hv x hx).kind.2.2.2 rfl
  obtain⟨_,f1,f2⟩:=hfull rfl
  have hall:∀x∈(Nd.mk 18 txt (l++v)).all,x.txt.length<=100000000:=fun x hx=>by have:=(hbig.2.2.2 x hx).1;omega
  have hself:∀x:Nd,x∈x.all:=fun x=>by cases x;rw[Nd.all_eq];exact mem_cons_self
  have hpall:∀p∈l++v,∀x∈p.all,x∈(Nd.mk 18 txt (l++v)).all:=fun p hp x hx=>by rw[Nd.all_eq];exact mem_cons_of_mem _ (alls_mem hp x hx)
  have hov:∀x∈only 20 (l++v),x∈v:=fun x hx=>by
   obtain⟨h1,h2⟩:=List.mem_filter.1 hx
   have h2:x.k=20:=by simpa using h2
   rcases mem_append.1 h1 with h1|h1
   ·have:=h19 x h1;omega
   ·exact h1
  have hparts:∀x∈v,∀q∈x.ps,Sh 2 q:=fun x hx q hq=>by
   have hsx:=hv x hx
   obtain⟨xk,xt,xps⟩:=x
   obtain⟨cs',hk',hs'⟩:=hsx.cls
   rcases hk' with⟨h0,h1,rfl⟩|⟨h0,h1,rfl⟩|⟨h0,h1,rfl⟩|⟨h0,h1,rfl⟩|⟨h0,h1,rfl⟩|⟨h0,h1,n,rfl⟩|⟨h0,h1,n,rfl⟩|⟨h0,h1,rfl⟩|⟨h0,h1,rfl⟩|⟨h0,h1,n,m,rfl⟩|⟨h0,h1,rfl⟩|⟨h0,h1,n,rfl⟩|⟨h0,h1,rfl⟩|⟨h0,h1,n,rfl⟩|⟨h0,h1,rfl⟩
   case inr.inr.inr.inr.inr.inr.inr.inr.inr.inr.inr.inl=>exact Shs.all_of hs' q hq
   all_goals (exfalso;omega)
  have hin:∀x∈v,∀q∈x.ps,∀y∈q.all,y∈Nd.all.alls (l++v):=fun x hx q hq y hy=>alls_mem (mem_append.2 (inr hx)) y (by
   obtain⟨xk,xt,xps⟩:=x
   rw[Nd.all_eq];exact mem_cons_of_mem _ (alls_mem hq y hy))
  have hin2:∀x∈v,∀q∈x.ps,∀y∈q.all,y∈(Nd.mk 18 txt (l++v)).all:=fun x hx q hq y hy=>by rw[Nd.all_eq];exact mem_cons_of_mem _ (hin x hx q hq y hy)
  refine⟨⟨inr (inr (inr rfl)),htx,fun e=>absurd rfl e,fun _=>⟨hall,by show (l++v).length<=1000000;omega,fun p hp=>?_⟩⟩,fun _=>⟨(hfull rfl).1,fun x hx q hq y hy h21 h23=>?_⟩,fun _=>f1,fun e=>absurd rfl e,fun _=>⟨fun x hx=>?_,fun x hx q hq y hy=>?_⟩⟩
  ·rcases mem_append.1 hp with hp|hp
   ·have:=h19 p hp;omega
   ·have:=h20 p hp;omega
  ·rcases mem_append.1 hx with hx|hx
   ·have hsx:=hl x hx
    obtain⟨xk,xt,xps⟩:=x
    obtain⟨cs',hk',hs'⟩:=hsx.cls
    exfalso
    rcases hk' with⟨h0,h1,rfl⟩|⟨h0,h1,rfl⟩|⟨h0,h1,rfl⟩|⟨h0,h1,rfl⟩|⟨h0,h1,rfl⟩|⟨h0,h1,n,rfl⟩|⟨h0,h1,n,rfl⟩|⟨h0,h1,rfl⟩|⟨h0,h1,rfl⟩|⟨h0,h1,n,m,rfl⟩|⟨h0,h1,rfl⟩|⟨h0,h1,n,rfl⟩|⟨h0,h1,rfl⟩|⟨h0,h1,n,rfl⟩|⟨h0,h1,rfl⟩
    case inr.inr.inr.inr.inr.inr.inr.inr.inr.inr.inl=>
     have:=Shs.nil_inv hs'
     subst this
     cases hq
    all_goals omega
   ·rcases Sh.types q (hparts x hx q hq) y hy with h|h|h
    ·exact absurd h h21
    ·exact f2 y (hin x hx q hq y hy) h
    ·exact absurd h.1 h23
  ·exact hall x (hpall x (List.mem_filter.1 hx).1 x (hself x))
  ·have hxv:=hov x hx
   rcases Sh.types q (hparts x hxv q hq) y hy with h|h|h
   ·exact inl ⟨h,hall y (hin2 x hxv q hq y hy)⟩
   ·exact inr (inl ⟨h,f2 y (hin x hxv q hq y hy) h⟩)
   ·exact inr (inr h)
structure EsOk(ar:Nm->Nat)(ρ:Env)(l:List Nd):Prop where
 a:EnvA ar ρ
 b:EnvB ar ρ
 k:TypesKnown ρ l
theorem lkErr_zero{s:Lk}(h:lkErr s=0):s.fine:=by
 obtain⟨a,b⟩:=s
 unfold lkErr at h
 cases a<;>cases b<;>simp at h
 exact⟨rfl,rfl⟩
theorem arOf_ok{l:List Nd}(h:∀d∈l,DeclFine d):ArOk (arOf l):=by
 refine⟨fun nm=>?_,rfl,rfl,rfl,rfl,rfl⟩
 unfold arOf
 split
 ·omega
 ·split
  ·omega
  ·split
   ·omega
   ·split
    ·rename_i d hd
     have hm:=List.mem_of_find?_eq_some hd
     have hk:=List.find?_some hd
     simp only[Bool.and_eq_true,beq_iff_eq]at hk
     have:=((h d hm).ok.typ hk.1).2.1
     exact le_trans (List.length_filter_le _ _) this
    ·omega
theorem EsOk.step{a b:List Nd}{nd:Nd}{p p':PS}(hf:DeclFine nd)(h:EsOk (arOf (a++nd::b)) p.env a)(hd:declare p nd=(0,p')):EsOk (arOf (a++nd::b)) p'.env (a++[nd]):=by
 unfold declare at hd
 simp only at hd
 split at hd
 ·rename_i he
  exact absurd (Prod.mk.inj hd).1 he
 ·rename_i he
  have he:lkErr (lkD p.env nd ⟨false,false⟩)=0:=by simpa using he
  have hfn:=lkErr_zero he
  split at hd
  ·rename_i hk
   cases hd
   obtain⟨k,txt,ps⟩:=nd
   have hk:k=18:=hk
   subst hk
   rw[lkD_type]at hfn
   obtain⟨_,h1,h2,_,h4⟩:=lkType_fine hfn
   have har:arOf (a++.mk 18 txt ps::b) txt=(only 19 ps).length:=arOf_here (d:=.mk 18 txt ps) rfl h1 h.k (hf.ne rfl)
   have hA:=declareType_envA (ps:=ps) h.a hfn har
   obtain⟨t1,t2⟩:=hf.typ rfl
   refine⟨hA,⟨fun c m hm=>?_,fun x m hm=>?_⟩,?_,?_⟩
   ·have hva:=hA.con c m hm
    unfold declareType at hm
    rcases declareType_get _ _ m hm with⟨v,hv,rfl⟩|hm2
    ·refine⟨hva,rfl,(hf.full rfl).1,fun x hx=>?_,fun q hq x hx=>?_⟩
     ·obtain⟨y,hy,rfl⟩:=List.mem_map.1 hx
      exact t1 y hy
     ·obtain⟨h5,h6⟩:=h4 v hv q hq x hx
      rcases t2 v hv q hq x hx with⟨g1,g2⟩|⟨g1,g2⟩|⟨g1,g2⟩
      ·exact inl ⟨g1,g2,h5 g1⟩
      ·refine inr (inl ⟨by omega,by omega,g2,?_,by omega⟩)
       exact(hva.parts q hq x hx).2 g1
      ·exact inr (inr ⟨g1,g2⟩)
    ·rw[get_cons_ne (by simp)]at hm2
     exact h.b.con c m hm2
   ·unfold declareType at hm
    rw[declareType_var,get_cons_ne (by simp)]at hm
    exact h.b.var x m hm
   ·intro nm hnm
    unfold declareType
    rw[declareType_type,Env.get]
    split
    ·rfl
    ·exact h.k.1 nm hnm
   ·intro d hdm hdk
    unfold declareType
    rw[declareType_type,Env.get]
    split
    ·rfl
    ·rename_i hne
     rcases mem_append.1 hdm with hdm|hdm
     ·exact h.k.2 d hdm hdk
     ·rw[mem_singleton.1 hdm]at hne
      exact absurd rfl hne
  ·rename_i hk
   split at hd
   ·cases hd
   ·rename_i t s hdt
    have hknow:∀(x:Nm)(m:Mg)(q:Nm),Env.get (((0,x),m)::p.env) (2,q)=p.env.get (2,q):=fun x m q=>get_cons_ne (by simp)
    have hT:∀d∈a++[nd],d.k=18->(p.env.get (2,d.txt)).isSome=true:=fun d hdm hdk=>by
     rcases mem_append.1 hdm with hdm|hdm
     ·exact h.k.2 d hdm hdk
     ·rw[mem_singleton.1 hdm]at hdk
      exact absurd hdk hk
    split at hd
    ·cases hd
     exact⟨h.a,h.b,h.k.1,hT⟩
    ·cases hd
     refine⟨⟨fun nm m hm=>?_,fun c m hm=>?_⟩,h.b.bind _ _,fun nm hnm=>?_,fun d hdm hdk=>?_⟩
     ·rw[hknow]at hm;exact h.a.type nm m hm
     ·rw[get_cons_ne (by simp)]at hm;exact h.a.con c m hm
     ·rw[hknow];exact h.k.1 nm hnm
     ·rw[hknow];exact hT d hdm hdk
theorem ahead_es(l:List Nd):EsOk (arOf l) ahead.env []:=by
 have hget:∀x m,ahead.env.get x=some m->(x=(0,[112,117,116])/\m=Mg.var 3)\/(x=(0,[103,101,116])/\m=Mg.var 6)\/(x=(0,refN)/\m=Mg.var 8)\/(x=(2,intN)/\m=Mg.type 0)\/(x=(2,boolN)/\m=Mg.type 0)\/(x=(2,unitN)/\m=Mg.type 0)\/(x=(2,refN)/\m=Mg.type 1):=by
  intro x m hx
  simp only[ahead,Env.get]at hx
  repeat (split at hx;· rename_i e;cases hx;simp[e])
  cases hx
 refine⟨⟨fun nm m hm=>?_,fun c m hm=>?_⟩,⟨fun c m hm=>?_,fun x m hm=>?_⟩,fun nm hnm=>?_,fun d hd=>?_⟩
 ·rcases hget _ _ hm with⟨e,rfl⟩|⟨e,rfl⟩|⟨e,rfl⟩|⟨e,rfl⟩|⟨e,rfl⟩|⟨e,rfl⟩|⟨e,rfl⟩
  ·cases e
  ·cases e
  ·cases e
  ·cases e;rfl
  ·cases e;rfl
  ·cases e;rfl
  ·cases e;rfl
 ·rcases hget _ _ hm with⟨e,rfl⟩|⟨e,rfl⟩|⟨e,rfl⟩|⟨e,rfl⟩|⟨e,rfl⟩|⟨e,rfl⟩|⟨e,rfl⟩<;>cases e
 ·rcases hget _ _ hm with⟨e,rfl⟩|⟨e,rfl⟩|⟨e,rfl⟩|⟨e,rfl⟩|⟨e,rfl⟩|⟨e,rfl⟩|⟨e,rfl⟩<;>cases e
 ·rcases hget _ _ hm with⟨e,rfl⟩|⟨e,rfl⟩|⟨e,rfl⟩|⟨e,rfl⟩|⟨e,rfl⟩|⟨e,rfl⟩|⟨e,rfl⟩
  ·exact⟨_,rfl⟩
  ·exact⟨_,rfl⟩
  ·exact⟨_,rfl⟩
  ·cases e
  ·cases e
  ·cases e
  ·cases e
 ·rcases hnm with rfl|rfl|rfl|rfl<;>decide
 ·cases hd
section
variable {ar:Nm->Nat}{ad:List Nat}{Y:Nat->Prop}{rk:Nat->Nat}{σ:TS}{ρ:Env}{tb yb d:Nat}{gv:Value}{w w':World}{nb:Nat}{txt:Nm}
theorem do_chain{k g cap ba:Nat}{bl:List Nat}{oa:Option TS}(h0:ar unitN=0)(h:YM ar ad Y rk σ ρ tb yb d gv w)(hp:PtAt nb k txt g cap (ba::bl) w)
  (hA:∀u,Kn (Dm ad tb yb gv) w u->YM ar (ad++[w.heap.size]) Y rk (σ.named unitN []).2 ρ tb yb d gv u->Calls prog 94 #[ptrV yb,ptrV ba,adV (ad++[w.heap.size]) σ.nodes.length] u (AnEx ar (ad++[w.heap.size]) Y ρ tb yb d gv oa u)) :
  ∀u,Kn (fun _=>False) w u->u.heap.size=w.heap.size->First nb k txt g cap bl.length ba u/\Calls prog 28 #[] u fun e u1=>e=.returned (ptrV w.heap.size)/\First nb k txt g cap bl.length ba u1/\Calls prog 94 #[ptrV yb,ptrV ba,ptrV w.heap.size] u1 fun e u2=>
   (e=noTy/\AnTy ar ad Y ρ tb yb d gv (oa.map fun s=>s.named unitN []) w noTy u2)\/(e=.returned (.tuple #[])/\First nb k txt g cap bl.length ba u2/\Calls prog 28 #[] u2 fun e u3=>∃b,e=.returned (ptrV b)/\AnTy ar ad Y ρ tb yb d gv (oa.map fun s=>s.named unitN []) w (.returned (ptrV b)) u3):=by
 have hcl:∀u,Kn (Dm ad tb yb gv) w u->First nb k txt g cap bl.length ba u:=fun u hu=>(h.pt hu hp).first
 intro u hu hs
 refine⟨hcl _ (hu.wide fun _ _ h=>h.elim),(unitN_any u).mono ?_⟩
 rintro e u1⟨rfl,rfl⟩
 obtain⟨h1,hb1⟩:=h.plainAt h0 hu hs
 refine⟨by rw[hs],hcl _ hb1.kn,?_⟩
 have hc:=hA _ hb1.kn h1
 rw[h.new1]at hc
 refine hc.mono fun e u2 ha=>?_
 rcases AnEx.go hb1 ha (o:=oa.map fun s=>s.named unitN []) (fun e=>by rw[e];rfl)with⟨q1,q2⟩|⟨σ1,l1,rk1,gv1,q1,q2,q4,q5,q6,q7⟩
 ·exact inl ⟨q1,q2⟩
 ·refine inr ⟨q2,hcl _ q5.kn,(unitN_any u2).mono ?_⟩
  rintro e u3⟨rfl,rfl⟩
  obtain⟨h7,hb7⟩:=q4.plainAt h0 (Kn.refl _ u2) rfl
  refine⟨_,rfl,AnTy.behind q5 ?_⟩
  rw[q1]
  exact AnTy.newOne q4 h7 (by simp[TS.named,TS.new])
theorem declaration_do{g cap ba:Nat}{bl:List Nat}{oa:Option TS}(h0:ar unitN=0)(h:YM ar ad Y rk σ ρ tb yb d gv w)(hp:PtAt nb 17 txt g cap (ba::bl) w)
  (hA:∀u,Kn (Dm ad tb yb gv) w u->YM ar (ad++[w.heap.size]) Y rk (σ.named unitN []).2 ρ tb yb d gv u->Calls prog 94 #[ptrV yb,ptrV ba,adV (ad++[w.heap.size]) σ.nodes.length] u (AnEx ar (ad++[w.heap.size]) Y ρ tb yb d gv oa u)) :
  Calls prog 62 #[ptrV yb,ptrV nb] w (AnTy ar ad Y ρ tb yb d gv (oa.map fun s=>s.named unitN []) w):=by
 have hc0:=do_chain h0 h hp hA w.drew (Kn.drewF w) rfl
 obtain⟨ck,_,_,_⟩:=hp.cells
 have HCH:=hide hc0
 clear hc0 h0 h hp hA
 generalize AnTy ar ad Y ρ tb yb d gv (oa.map fun s=>s.named unitN []) w=Q at *
 generalize bl.length=pn at *
 generalize bs txt=tx at *
 unfold noTy noTypeV First ptrV at *
 go_enter func62,ntmps62
 go_wp2_with fail
 obtain⟨⟨_,_,c1a,c2a⟩,hu⟩:=HCH.out
 have HU:=hide hu
 clear hu HCH
 go_region_held2 (fun w'=>w'.cell? ⟨nb,2,none⟩=some (.slice (some ⟨g,0,none⟩) (pn+1) cap)/\w'.cell? ⟨g,0,none⟩=some (.pointer (some ⟨ba,0,none⟩))) (exact⟨c1a,c2a⟩) (first|(go_at_call 28;refine(HU.out).mono ?_;rintro e u1⟨rfl,⟨_,_,c1a,c2a⟩,hc⟩;have HC:=hide hc;clear hc)|(go_at_call 94;refine(HC.out).mono ?_;rintro e u2 (⟨rfl,hp⟩|⟨rfl,⟨_,_,c1a,c2a⟩,hc⟩);(focus (exact⟨rfl,hp⟩));have HE:=hide hc;clear hc))
 all_goals
  go_wp2_with fail
  refine(HE.out).mono ?_;rintro e u3⟨b,rfl,hq⟩
  have HG:=hide hq
  clear hq HE
  go_wp2
  exact HG.out
def valO(iv:Bool)(ob:Option (Nat×TS)):Option (Nat×TS):=ob.bind fun r=>if iv || !r.2.hasLetters r.1 then some r else none
theorem val_chain{k g cap ba n:Nat}{bl:List Nat}{a:Nd}{o:Option (Nat×TS)}(h:YM ar ad Y rk σ ρ tb yb d gv w)(hp:PtAt nb k txt g cap (ba::bl) w)(hn:a.ht<n)(hN:NMem w a ba)
  (hA:Calls prog 95 #[ptrV yb,ptrV nb] w (AnTy ar ad Y ρ tb yb d gv (boundO d o) w)) :
  Calls prog 95 #[ptrV yb,ptrV nb] w fun e u2=>(e=noTy/\AnTy ar ad Y ρ tb yb d gv (valO (isValue n a) (boundO d o)) w noTy u2)\/∃b,e=.returned (ptrV b)/\∀u,Kn (fun _=>False) u2 u->First nb k txt g cap bl.length ba u/\Calls prog 96 #[ptrV ba] u (fun e u'=>e=.returned (.bool (isValue n a))/\u'=u) /\
   Calls prog 97 #[ptrV b] u (fun e u3=>∃v,e=.returned (.bool v)/\First nb k txt g cap bl.length ba u3/\((isValue n a || !v)=false->AnTy ar ad Y ρ tb yb d gv (valO (isValue n a) (boundO d o)) w noTy u3)/\((isValue n a || !v)=true->AnTy ar ad Y ρ tb yb d gv (valO (isValue n a) (boundO d o)) w (.returned (ptrV b)) u3)) /\
   (isValue n a=true->AnTy ar ad Y ρ tb yb d gv (valO (isValue n a) (boundO d o)) w (.returned (ptrV b)) u):=by
 have hcl:∀u,Kn (Dm ad tb yb gv) w u->First nb k txt g cap bl.length ba u:=fun u hu=>(h.pt hu hp).first
 refine hA.mono fun e u2 ha=>?_
 rcases AnTy.go (Bt.refl ad tb yb gv w) (show AnTy ar (ad++[]) Y ρ tb yb d gv (boundO d o) w e u2 by rw[append_nil];exact ha) (o:=valO (isValue n a) (boundO d o)) (fun e=>by rw[e];rfl)with⟨q1,q2⟩|⟨t,σ1,l1,rk1,gv1,q1,q2,q3,q4,q5,_,_⟩
 ·exact inl ⟨q1,q2⟩
 have hfit:σ1.fits t=true:=by
  unfold boundO at q1
  obtain⟨r,hr,hq⟩:=bind_eq_some_iff.1 q1
  split at hq
  ·rename_i hf
   cases hq
   have:=(opened_alike (r.2.pre r.1) r.2 d).fits r.1
   exact this.trans hf
  ·cases hq
 refine inr ⟨_,q2,fun u hu=>?_⟩
 have q5u:Bt ad tb yb gv w l1 gv1 u:=⟨q5.kn.trans (hu.wide fun _ _ h=>h.elim),q5.new,q5.giv⟩
 have hyu:=q4.stays hu
 refine⟨hcl _ q5u.kn,isValue_any n a ba hn (h.tree q5u.kn hN),(HasLetters_any hyu.sto q3 hfit).mono ?_,fun hv=>?_⟩
 ·rintro e u3⟨rfl,r2,r3⟩
  have hb3:=q5u.store r3 (l2:=[]) (by simp)
  rw[append_nil]at hb3
  have hy3:=hyu.step (l:=[]) r3 (by rw[append_nil];exact r2) rfl
  rw[append_nil]at hy3
  refine⟨_,rfl,hcl _ hb3.kn,fun hv=>AnTy.panic (by unfold valO;rw[q1,Option.bind_some];simp only[hv];rfl) hb3.kn hy3.raw,fun hv=>AnTy.ok (by unfold valO;rw[q1,Option.bind_some];simp only[hv];rfl) q3 hy3 hb3⟩
 ·exact AnTy.ok (by unfold valO;rw[q1,Option.bind_some];simp only[hv,Bool.true_or];rfl) q3 hyu q5u
theorem declaration_val{k g cap ba n:Nat}{bl:List Nat}{a:Nd}{o:Option (Nat×TS)}(hk:k≠17)(hk2:k<100)(h:YM ar ad Y rk σ ρ tb yb d gv w)(hp:PtAt nb k txt g cap (ba::bl) w)(hn:a.ht<n)(hN:NMem w a ba)
  (hA:Calls prog 95 #[ptrV yb,ptrV nb] w (AnTy ar ad Y ρ tb yb d gv (boundO d o) w)) :
  Calls prog 62 #[ptrV yb,ptrV nb] w (AnTy ar ad Y ρ tb yb d gv (valO (isValue n a) (boundO d o)) w):=by
 have hc0:=val_chain h hp hn hN hA
 obtain⟨ck,_,_,_⟩:=hp.cells
 have hk3:¬(k:Int)=17:=by omega
 have HCH:=hide hc0
 have HN:=hide need_any
 have HDR:=hide (fun u:World=>Kn.refl (fun _=>False) u)
 clear hc0 h hp hA hN hn
 generalize AnTy ar ad Y ρ tb yb d gv (valO (isValue n a) (boundO d o)) w=Q at *
 generalize isValue n a=iv at *
 generalize bl.length=pn at *
 generalize bs txt=tx at *
 unfold noTy noTypeV First ptrV at *
 go_enter func62,ntmps62
 go_wp2_with fail
 refine(HCH.out).mono ?_;rintro e u2 (⟨rfl,hp⟩|⟨b,rfl,hu⟩)
 ·exact⟨rfl,hp⟩
 obtain⟨⟨_,_,c1a,c2a⟩,hv,hl,hy⟩:=hu u2 (HDR.out u2)
 have HV:=hide hv
 have HL:=hide hl
 have HY:=hide hy
 clear hu hv hl hy HCH
 go_wp2_with fail
 refine(HV.out).mono ?_;rintro e u3⟨rfl,rfl⟩
 clear HV
 cases iv with
 |true=>
  have HG:=hide (HY.out rfl)
  clear HL HY
  go_wp2_with fail
  refine(HN.out _ _).mono ?_;rintro e u6⟨rfl,⟨hv,rfl⟩|⟨hv,rfl⟩⟩
  ·cases hv
  ·go_wp2
   exact HG.out
 |false=>
  go_wp2_with fail
  refine(HL.out).mono ?_;rintro e u4⟨v,rfl,_,hno,hyes⟩
  have HNO:=hide hno
  have HYES:=hide hyes
  clear hno hyes HL HY
  go_wp2_with fail
  refine(HN.out _ _).mono ?_;rintro e u6⟨rfl,⟨hv,rfl⟩|⟨hv,rfl⟩⟩
  ·exact⟨rfl,HNO.out (by simpa using hv)⟩
  ·have HG:=hide (HYES.out (by simpa using hv))
   go_wp2
   exact HG.out
end
end Go.Proofs.YtbkiipiocpnnnaaGreatDoor
