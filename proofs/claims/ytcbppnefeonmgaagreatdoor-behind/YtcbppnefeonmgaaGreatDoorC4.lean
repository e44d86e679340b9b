import Derived.Test.YtcbppnefeonmgaaGreatDoorC3
set_option linter.all false
set_option maxHeartbeats 40000000
set_option maxRecDepth 100000
open Or (inl inr)
open Nat (le_refl le_trans)
open List (mem_cons_self mem_cons_of_mem mem_append mem_singleton mem_cons)
namespace Go.Proofs.YtcbppnefeonmgaaGreatDoor
section
abbrev Nm:=List UInt8
structure Nd where
 k:Nat
 txt:Nm
 ps:List Nd
def Nd.all:Nd->List Nd
 |.mk k txt ps=>.mk k txt ps::alls ps
 where
 alls:List Nd->List Nd
  |[]=>[]
  |p::r=>p.all++alls r
def Nd.ht:Nd->Nat
 |.mk _ _ ps=>hts ps+1
 where
 hts:List Nd->Nat
  |[]=>0
  |p::r=>max p.ht (hts r)
theorem Nd.ht_eq(k:Nat)(txt:Nm)(ps:List Nd):(Nd.mk k txt ps).ht=Nd.ht.hts ps+1:=by rw[Nd.ht]
theorem Nd.ht_le{p:Nd}:∀{ps:List Nd},p∈ps->p.ht<=Nd.ht.hts ps:=by
 intro ps
 induction ps with
 |nil=>intro h;cases h
 |cons q r ih=>
  intro h
  rw[Nd.ht.hts]
  rcases mem_cons.1 h with rfl|h
  ·exact Nat.le_max_left _ _
  ·exact le_trans (ih h) (Nat.le_max_right _ _)
theorem Nd.ht_lt{k:Nat}{txt:Nm}{ps:List Nd}{p:Nd}{n:Nat}(h:p∈ps)(hn:(Nd.mk k txt ps).ht<n+1):p.ht<n:=by
 rw[Nd.ht_eq]at hn
 have:=Nd.ht_le h
 omega
structure Vr where
 data:Nm
 letters:List Nm
 parts:List Nd
 sibs:Nat
structure Mg where
 scheme:Option Nat
 vr:Vr
 letters:Nat
def Vr.zero:Vr:=⟨[],[],[],0⟩
def Mg.zero:Mg:=⟨none,Vr.zero,0⟩
def Mg.var(t:Nat):Mg:=⟨some t,Vr.zero,0⟩
def Mg.type(n:Nat):Mg:=⟨none,Vr.zero,n⟩
def Mg.con(v:Vr):Mg:=⟨none,v,0⟩
abbrev Ky:=Nat×Nm
abbrev Env:=List (Ky×Mg)
def Env.get:Env->Ky->Option Mg
 |[],_=>none
 |(y,m)::r,x=>if x=y then some m else Env.get r x
structure Lk where
 wn:Bool
 wc:Bool
def Lk.name(s:Lk)(b:Bool):Lk:=⟨s.wn || b,s.wc⟩
def lkParts(ρ:Env)(key:Ky)(cnt:Mg->Nat)(np:Nat)(s:Lk):Lk:=
 ⟨s.wn || (ρ.get key).isNone,s.wc || decide (np≠cnt ((ρ.get key).getD Mg.zero))⟩
def lkCon(ρ:Env)(nd:Nd)(s:Lk):Lk:=lkParts ρ (1,nd.txt) (fun m=>m.vr.parts.length) nd.ps.length s
def varsOf(p:Nd):List Nm:=(p.all.filter (fun n=>n.k==3)).map Nd.txt
def bindAll(ρ:Env)(vs:List Nm)(m:Mg):Env:=vs.foldl (fun ρ v=>(((0,v),m)::ρ:Env)) ρ
def hasTwice(l:List Nm):Bool:=!decide l.Nodup
def lkE:Nat->Env->Nd->Lk->Lk
 |0,_,_,s=>s
 |n+1,ρ,.mk k txt ps,s=>
  match k,ps with
  |3,_=>s.name (ρ.get (0,txt)).isNone
  |5,[a]=>lkE n (((0,txt),Mg.zero)::ρ) a s
  |6,[a,b]=>lkE n (((0,txt),Mg.zero)::ρ) b (lkE n ρ a s)
  |7,[a,b]=>lkE n (((0,txt),Mg.zero)::ρ) b (lkE n (((0,txt),Mg.zero)::ρ) a s)
  |16,[p,e]=>lkE n (bindAll ρ (varsOf p) Mg.zero) e (((p.all.filter (fun n=>n.k==14)).foldl (fun s n=>lkCon ρ n s) s).name (hasTwice (varsOf p)))
  |14,ps=>ps.foldl (fun s p=>lkE n ρ p s) (lkCon ρ (.mk 14 txt ps) s)
  |_,ps=>ps.foldl (fun s p=>lkE n ρ p s) s
def lkW(ρ:Env)(letters:List Nm)(l:List Nd)(s:Lk):Lk:=
 l.foldl (fun s n=>if n.k=21 then s.name (!letters.contains n.txt)else if n.k=22 then lkParts ρ (2,n.txt) Mg.letters n.ps.length s else s) s
def only(k:Nat)(ps:List Nd):List Nd:=ps.filter (fun n=>n.k==k)
def lkType(ρ:Env)(txt:Nm)(ps:List Nd)(s:Lk):Lk:=
 let ls:=(only 19 ps).map Nd.txt
 let vs:=only 20 ps
 let cs:=vs.map Nd.txt
 let s1:=s.name ((ρ.get (2,txt)).isSome || hasTwice ls || hasTwice cs)
 let s2:=cs.foldl (fun s c=>s.name (ρ.get (1,c)).isSome) s1
 vs.foldl (fun s v=>v.ps.foldl (fun s p=>lkW (((2,txt),Mg.type ls.length)::ρ) ls p.all s) s) s2
def lkD(ρ:Env):Nd->Lk->Lk
 |.mk k txt ps,s=>
  match k,ps with
  |18,ps=>lkType ρ txt ps s
  |7,a::_=>lkE (a.ht+1) (((0,txt),Mg.zero)::ρ) a s
  |_,a::_=>lkE (a.ht+1) ρ a s
  |_,[]=>s
def lkErr(s:Lk):Nat:=if s.wn then 4 else if s.wc then 5 else 0
abbrev openD:Nat:=9223372036854775807
structure TN where
 name:Nm
 parts:List Nat
 depth:Nat
structure TS where
 nodes:List TN
 fnd:List (Nat×Nat)
 given:List Nat
def rootL:List (Nat×Nat)->Nat->Nat
 |[],i=>i
 |(t,o)::r,i=>if rootL r i=t then o else rootL r i
def TS.root(σ:TS)(i:Nat):Nat:=rootL σ.fnd i
def TS.node(σ:TS)(i:Nat):TN:=(σ.nodes[i]?).getD ⟨[],[],0⟩
def TS.isLetter(σ:TS)(i:Nat):Bool:=(σ.node i).name==[]
def TS.depth(σ:TS)(i:Nat):Nat:=(σ.node i).depth
def TS.new(σ:TS)(t:TN):Nat×TS:=(σ.nodes.length,{ σ with nodes:=σ.nodes++[t] })
def TS.named(σ:TS)(nm:Nm)(ps:List Nat):Nat×TS:=σ.new ⟨nm,ps,0⟩
def TS.letter(σ:TS)(d:Nat):Nat×TS:=σ.new ⟨[],[],d⟩
def TS.setDepth(σ:TS)(i d:Nat):TS:={ σ with nodes:=σ.nodes.modify i (fun t=>{ t with depth:=d }) }
def TS.give(σ:TS)(i:Nat):TS:={ σ with given:=σ.given++[i] }
def arrowN:Nm:=[45,62]
def intN:Nm:=[105,110,116]
def boolN:Nm:=[98,111,111,108]
def unitN:Nm:=[117,110,105,116]
def refN:Nm:=[114,101,102]
def wk(σ:TS)(T:List Nat->Nat->Bool):Nat->List Nat->Nat->Option (List Nat×Bool)
 |0,_,_=>none
 |n+1,acc,i=>if T acc (σ.root i)then wkL (wk σ T n) (acc++[σ.root i]) (σ.node (σ.root i)).parts else some (acc++[σ.root i],false)
 where
 wkL (g:List Nat->Nat->Option (List Nat×Bool)) (acc:List Nat):List Nat->Option (List Nat×Bool)
  |[]=>some (acc,true)
  |p::ps=>
   match g acc p with
   |some (acc',true)=>wkL g acc' ps
   |x=>x
abbrev maxSize:Nat:=200
abbrev wkFuel:Nat:=202
def fitsT(acc:List Nat)(_:Nat):Bool:=decide (acc.length+1<=maxSize)
def TS.fits(σ:TS)(i:Nat):Bool:=(wk σ fitsT wkFuel [] i).any Prod.snd
def TS.hasLetters(σ:TS)(i:Nat):Bool:=!(wk σ (fun _ j=>!σ.isLetter j) wkFuel [] i).any Prod.snd
def TS.pre(σ:TS)(i:Nat):List Nat:=((wk σ (fun _ _=>true) wkFuel [] i).getD ([],true)).1
def TS.openAll(σ:TS)(d i:Nat):TS:=
 (σ.pre i).foldl (fun s j=>if s.isLetter j && decide (d<s.depth j)then s.setDepth j openD else s) σ
def TS.standFor(σ:TS)(t o:Nat):Option TS:=
 if σ.fits o && (wk σ (fun _ j=>j != t) wkFuel [] o).any Prod.snd then
  let s:=(σ.pre o).foldl (fun s j=>if s.isLetter j then s.setDepth j (min (s.depth j) (s.depth t))else s) σ
  some { s with fnd:=(t,o)::s.fnd }
 else none
def un:Nat->TS->Nat->Nat->Nat->Option (TS×Nat)
 |0,_,_,_,_=>none
 |n+1,σ,pl,a,b=>
  if σ.root a=σ.root b then some (σ,pl+1)
  else if maxSize<pl+1 then none
  else if σ.isLetter (σ.root a)then(σ.standFor (σ.root a) (σ.root b)).map (·,pl+1)
  else if σ.isLetter (σ.root b)then(σ.standFor (σ.root b) (σ.root a)).map (·,pl+1)
  else if (σ.node (σ.root a)).name=(σ.node (σ.root b)).name then unL (un n) σ (pl+1) (σ.node (σ.root a)).parts (σ.node (σ.root b)).parts
  else none
 where
 unL (g:TS->Nat->Nat->Nat->Option (TS×Nat)) (σ:TS) (pl:Nat):List Nat->List Nat->Option (TS×Nat)
  |a::az,b::bs=>
   match g σ pl a b with
   |some (σ',pl')=>unL g σ' pl' az bs
   |none=>none
  |_,_=>some (σ,pl)
def TS.unify(σ:TS)(a b:Nat):Option TS:=(un wkFuel σ 0 a b).map Prod.fst
def inst(d:Nat):Nat->TS->List (Nat×Nat)->Nat->Option (Nat×TS×List (Nat×Nat))
 |0,_,_,_=>none
 |n+1,σ,m,i=>
  if σ.isLetter (σ.root i)then
   if σ.depth (σ.root i)≠openD then some (σ.root i,σ,m)
   else match m.lookup (σ.root i)with
    |some j=>some (j,σ,m)
    |none=>some (σ.nodes.length,(σ.letter d).2,m++[(σ.root i,σ.nodes.length)])
  else
   match instL (inst d n) σ m (σ.node (σ.root i)).parts with
   |some (js,σ',m')=>some (σ'.nodes.length,(σ'.named (σ.node (σ.root i)).name js).2,m')
   |none=>none
 where
 instL (g:TS->List (Nat×Nat)->Nat->Option (Nat×TS×List (Nat×Nat))) (σ:TS) (m:List (Nat×Nat)):List Nat->Option (List Nat×TS×List (Nat×Nat))
  |[]=>some ([],σ,m)
  |p::ps=>
   match g σ m p with
   |none=>none
   |some (j,σ',m')=>
    match instL g σ' m' ps with
    |none=>none
    |some (js,σ'',m'')=>some (j::js,σ'',m'')
def TS.inst(σ:TS)(d i:Nat):Option (Nat×TS):=(Go.Proofs.YtcbppnefeonmgaaGreatDoor.inst d wkFuel σ [] i).map fun r=>(r.1,r.2.1)
def plainN(k:Nat):Nm:=if k=0 then intN else if k=1 then boolN else unitN
def isValue:Nat->Nd->Bool
 |0,_=>false
 |n+1,.mk k _ ps=>decide (k<=3) || decide (k=5) || (decide (k=14) && ps.all (isValue n))
def written:Nat->List (Nm×Nat)->Nd->TS->Nat×TS
 |0,_,_,σ=>σ.named boolN []
 |n+1,ch,.mk k txt ps,σ=>
  if k=21 then(match ch.lookup txt with|some j=>(j,σ)|none=>σ.named boolN [])
  else
   let r:=writtenL (written n ch) ps σ
   if k=23 then
    match r.1 with
    |[a,b]=>r.2.named arrowN [a,b]
    |_=>r.2.named boolN []
   else r.2.named txt r.1
 where
 writtenL (g:Nd->TS->Nat×TS):List Nd->TS->List Nat×TS
  |[],σ=>([],σ)
  |p::r,σ=>
   let x:=g p σ
   let y:=writtenL g r x.2
   (x.1::y.1,y.2)
def lettersFor(d:Nat):List Nm->TS->List (Nm×Nat)×TS
 |[],σ=>([],σ)
 |l::r,σ=>
  let y:=lettersFor d r (σ.letter d).2
  ((l,σ.nodes.length)::y.1,y.2)
def conT{S:Type}(get:S->TS)(put:S->TS->S)(ρ:Env)(d:Nat)(txt:Nm)(ps:List Nd)(ex:Nd->Nat->S->Option S)(s:S):Option (Nat×S):=
 match ρ.get (1,txt)with
 |none=>none
 |some m=>
  let ls:=lettersFor d m.vr.letters (get s)
  match go ex ls.1 (ps.zip m.vr.parts) (put s ls.2)with
  |some s'=>
   let r:=(get s').named m.vr.data (ls.1.map Prod.snd)
   some (r.1,put s' r.2)
  |none=>none
 where
 go (ex:Nd->Nat->S->Option S) (ch:List (Nm×Nat)):List (Nd×Nd)->S->Option S
  |[],s=>some s
  |(p,q)::r,s=>
   let x:=written (q.ht+1) ch q (get s)
   match ex p x.1 (put s x.2)with
   |some s'=>go ex ch r s'
   |none=>none
def patT(ρ:Env)(d:Nat):Nat->Nd->TS×List (Nm×Nat)->Option (Nat×(TS×List (Nm×Nat)))
 |0,_,_=>none
 |n+1,.mk k txt ps,s=>
  if k=4 then some (s.1.nodes.length,((s.1.letter d).2,s.2))
  else if k=3 then some (s.1.nodes.length,((s.1.letter d).2,s.2++[(txt,s.1.nodes.length)]))
  else if k=14 then conT Prod.fst (fun s σ=>(σ,s.2)) ρ d txt ps (patX (patT ρ d n)) s
  else some (s.1.nodes.length,((s.1.named (plainN k) []).2,s.2))
 where
 patX (g:Nd->TS×List (Nm×Nat)->Option (Nat×(TS×List (Nm×Nat)))) (p:Nd) (want:Nat) (s:TS×List (Nm×Nat)):Option (TS×List (Nm×Nat)):=
  match g p s with
  |some (t,s')=>((s'.1.give t).unify t want).map (·,s'.2)
  |none=>none
def patE(ρ:Env)(d:Nat)(p:Nd)(want:Nat)(s:TS×List (Nm×Nat)):Option (TS×List (Nm×Nat)):=patT.patX (patT ρ d (p.ht+1)) p want s
def bindTs(ρ:Env)(vs:List (Nm×Nat)):Env:=vs.foldl (fun ρ v=>(((0,v.1),Mg.var v.2)::ρ:Env)) ρ
def exX(g:Env->Nat->Nd->TS->Option (Nat×TS))(ρ:Env)(d:Nat)(p:Nd)(want:Nat)(σ:TS):Option TS:=
 match g ρ d p σ with
 |some (t,σ')=>σ'.unify t want
 |none=>none
def boundT(g:Env->Nat->Nd->TS->Option (Nat×TS))(ρ:Env)(d:Nat)(isRec:Bool)(txt:Nm)(a:Nd)(σ:TS):Option (Nat×TS):=
 let d':=if isValue (a.ht+1) a then d+1 else d
 let r:=if isRec then
   match g (((0,txt),Mg.var σ.nodes.length)::ρ) d' a (σ.letter d').2 with
   |some (t,σ')=>(σ'.unify σ.nodes.length t).map fun s=>(σ.nodes.length,s)
   |none=>none
  else g ρ d' a σ
 match r with
 |some (t,σ')=>if σ'.fits t then some (t,σ'.openAll d t)else none
 |none=>none
def rowsT(g:Env->Nat->Nd->TS->Option (Nat×TS))(ρ:Env)(d subj ans:Nat):List Nd->TS->Option TS
 |[],σ=>some σ
 |.mk _ _ [p,e]::r,σ=>
  match patE ρ d p subj (σ,[])with
  |some (σ',vs)=>
   match exX g (bindTs ρ vs) d e ans σ' with
   |some σ''=>rowsT g ρ d subj ans r σ''
   |none=>none
  |none=>none
 |_::_,_=>none
def formT(g:Env->Nat->Nd->TS->Option (Nat×TS))(ρ:Env)(d:Nat):Nd->TS->Option (Nat×TS)
 |.mk k txt ps,σ=>
  match k,ps with
  |0,_=>some (σ.named intN [])
  |1,_=>some (σ.named boolN [])
  |2,_=>some (σ.named unitN [])
  |3,_=>
   match ((ρ.get (0,txt)).getD Mg.zero).scheme with
   |some t=>if σ.fits t then σ.inst d t else none
   |none=>none
  |14,ps=>conT id (fun _ σ=>σ) ρ d txt ps (exX g ρ d) σ
  |5,[a]=>
   match g (((0,txt),Mg.var σ.nodes.length)::ρ) d a (σ.letter d).2 with
   |some (t,σ')=>some (σ'.named arrowN [σ.nodes.length,t])
   |none=>none
  |13,[a,b]=>
   match g ρ d a σ with
   |some (f,σ1)=>
    match g ρ d b σ1 with
    |some (x,σ2)=>
     let y:=σ2.nodes.length
     let r:=(σ2.letter d).2.named arrowN [x,y]
     (r.2.unify f r.1).map fun s=>(y,s)
    |none=>none
   |none=>none
  |6,[a,b]=>
   match boundT g ρ d false txt a σ with
   |some (t,σ')=>g (((0,txt),Mg.var t)::ρ) d b σ'
   |none=>none
  |7,[a,b]=>
   match boundT g ρ d true txt a σ with
   |some (t,σ')=>g (((0,txt),Mg.var t)::ρ) d b σ'
   |none=>none
  |8,[c,a,b]=>
   match exX g ρ d c σ.nodes.length (σ.named boolN []).2 with
   |some σ1=>
    match g ρ d a σ1 with
    |some (t,σ2)=>(exX g ρ d b t σ2).map fun s=>(t,s)
    |none=>none
   |none=>none
  |9,[a,b]=>
   match exX g ρ d a σ.nodes.length (σ.named unitN []).2 with
   |some σ1=>g ρ d b σ1
   |none=>none
  |10,[a,b]=>
   match g ρ d a σ with
   |some (c,σ1)=>
    match g ρ d b σ1 with
    |some (v,σ2)=>
     match (σ2.named refN [v]).2.unify c σ2.nodes.length with
     |some σ3=>some (σ3.named unitN [])
     |none=>none
    |none=>none
   |none=>none
  |12,[a]=>
   (exX g ρ d a (σ.nodes.length+1) ((σ.letter d).2.named refN [σ.nodes.length]).2).map fun s=>(σ.nodes.length,s)
  |15,a::rows=>
   match g ρ d a σ with
   |some (t,σ1)=>(rowsT g ρ d t σ1.nodes.length (only 16 rows) (σ1.letter d).2).map fun s=>(σ1.nodes.length,s)
   |none=>none
  |_,[a,b]=>
   match exX g ρ d a σ.nodes.length (σ.named intN []).2 with
   |some σ1=>
    match exX g ρ d b σ1.nodes.length (σ1.named intN []).2 with
    |some σ2=>some (σ2.named (if txt=[61]\/txt=[60]then boolN else intN) [])
    |none=>none
   |none=>none
  |_,_=>none
def exT:Nat->Env->Nat->Nd->TS->Option (Nat×TS)
 |0,_,_,_,_=>none
 |n+1,ρ,d,nd,σ=>
  match formT (exT n) ρ d nd σ with
  |some (t,σ')=>some (t,σ'.give t)
  |none=>none
def declT(ρ:Env):Nd->TS->Option (Nat×TS)
 |.mk k txt ps,σ=>
  match ps with
  |a::_=>
   let r:=if k=17 then
     (exX (exT (a.ht+1)) ρ 0 a σ.nodes.length (σ.named unitN []).2).map fun s=>(s.nodes.length,(s.named unitN []).2)
    else
     match boundT (exT (a.ht+1)) ρ 0 (k==7) txt a σ with
     |some (t,s)=>if isValue (a.ht+1) a || !s.hasLetters t then some (t,s)else none
     |none=>none
   match r with
   |some (t,s)=>if s.given.all s.fits then some (t,{ s with given:=[] })else none
   |none=>none
  |[]=>none
structure PS where
 env:Env
 sto:TS
 binds:List (Nm×Nat)
def declareType(ρ:Env)(txt:Nm)(ps:List Nd):Env:=
 (only 20 ps).foldl (fun ρ v=>(((1,v.txt),Mg.con ⟨txt,(only 19 ps).map Nd.txt,v.ps,(only 20 ps).length⟩)::ρ:Env)) (((2,txt),Mg.type ((only 19 ps).map Nd.txt).length)::ρ)
def declare(p:PS)(nd:Nd):Nat×PS:=
 let e:=lkErr (lkD p.env nd ⟨false,false⟩)
 if e≠0 then(e,p)
 else if nd.k=18 then(0,{ p with env:=declareType p.env nd.txt nd.ps })
 else
  match declT p.env nd p.sto with
  |none=>(6,p)
  |some (t,s)=>
   if nd.k=17 then(0,{ p with sto:=s })
   else(0,⟨((0,nd.txt),Mg.var t)::p.env,s,p.binds++[(nd.txt,t)]⟩)
def ahead:PS:=
 let σ:TS:=⟨[⟨[],[],openD⟩,⟨intN,[],0⟩,⟨unitN,[],0⟩,⟨arrowN,[1,2],0⟩,⟨unitN,[],0⟩,⟨intN,[],0⟩,⟨arrowN,[4,5],0⟩,⟨refN,[0],0⟩,⟨arrowN,[0,7],0⟩],[],[]⟩
 ⟨[((0,[112,117,116]),Mg.var 3),((0,[103,101,116]),Mg.var 6),((0,refN),Mg.var 8),((2,intN),Mg.type 0),((2,boolN),Mg.type 0),((2,unitN),Mg.type 0),((2,refN),Mg.type 1)],σ,[]⟩
def readD(i:Nat)(p:PS):List Nd->(Nat×Nat)×PS
 |[]=>((0,0),p)
 |nd::r=>
  let x:=declare p nd
  if x.1≠0 then((i,x.1),x.2)else readD (i+1) x.2 r
end
section
def FndOk(σ:TS):List (Nat×Nat)->Prop
 |[]=>True
 |(t,o)::r=>rootL r t=t/\rootL r o=o/\t≠o/\t<σ.nodes.length/\o<σ.nodes.length/\σ.isLetter t=true/\FndOk σ r
theorem rootL_root{σ:TS}:∀{l:List (Nat×Nat)},FndOk σ l->∀i,rootL l (rootL l i)=rootL l i:=by
 intro l
 induction l with
 |nil=>intro _ i;rfl
 |cons x r ih=>
  obtain⟨t,o⟩:=x
  intro h i
  obtain⟨h1,h2,h3,_,_,_,h7⟩:=h
  simp only[rootL]
  by_cases hi:rootL r i=t
  ·simp only[if_pos hi]
   rw[h2,if_neg (Ne.symm h3)]
  ·simp only[if_neg hi]
   rw[ih h7 i,if_neg hi]
theorem rootL_lt{σ:TS}:∀{l:List (Nat×Nat)},FndOk σ l->∀{i},i<σ.nodes.length->rootL l i<σ.nodes.length:=by
 intro l
 induction l with
 |nil=>intro _ i hi;exact hi
 |cons x r ih=>
  obtain⟨t,o⟩:=x
  intro h i hi
  obtain⟨_,_,_,_,h5,_,h7⟩:=h
  simp only[rootL]
  split
  ·exact h5
  ·exact ih h7 hi
structure TS.Rg(σ:TS):Prop where
 fnd:FndOk σ σ.fnd
 parts:∀(i:Nat),i<σ.nodes.length->∀p∈(σ.node i).parts,p<σ.nodes.length
structure TS.Ok(ar:Nm->Nat)(σ:TS):Prop where
 fnd:FndOk σ σ.fnd
 parts:∀(i:Nat)(tn:TN),σ.nodes[i]?=some tn->(∀p∈tn.parts,p<σ.nodes.length)/\(tn.name=[]->tn.parts=[])/\(tn.name≠[]->tn.parts.length=ar tn.name)
 given:∀g∈σ.given,g<σ.nodes.length
variable {ar:Nm->Nat}{σ:TS}
theorem TS.Ok.root_root(h:σ.Ok ar)(i:Nat):σ.root (σ.root i)=σ.root i:=rootL_root h.fnd i
theorem TS.Ok.root_lt(h:σ.Ok ar){i:Nat}(hi:i<σ.nodes.length):σ.root i<σ.nodes.length:=rootL_lt h.fnd hi
theorem TS.node_of{i:Nat}{tn:TN}(h:σ.nodes[i]?=some tn):σ.node i=tn:=by unfold TS.node;rw[h];rfl
theorem TS.node_some{i:Nat}(h:i<σ.nodes.length):σ.nodes[i]?=some (σ.node i):=by
 unfold TS.node;rw[List.getElem?_eq_getElem h];rfl
theorem TS.Ok.part_lt(h:σ.Ok ar){i p:Nat}(hi:i<σ.nodes.length)(hp:p∈(σ.node i).parts):p<σ.nodes.length:=
 (h.parts i _ (TS.node_some hi)).1 p hp
theorem TS.Ok.rg(h:σ.Ok ar):σ.Rg:=⟨h.fnd,fun _ hi _ hp=>h.part_lt hi hp⟩
theorem TS.Rg.root_root(h:σ.Rg)(i:Nat):σ.root (σ.root i)=σ.root i:=rootL_root h.fnd i
theorem TS.Rg.root_lt(h:σ.Rg){i:Nat}(hi:i<σ.nodes.length):σ.root i<σ.nodes.length:=rootL_lt h.fnd hi
theorem TS.Rg.part_lt(h:σ.Rg){i p:Nat}(hi:i<σ.nodes.length)(hp:p∈(σ.node i).parts):p<σ.nodes.length:=h.parts i hi p hp
structure Alike(σ τ:TS):Prop where
 len:τ.nodes.length=σ.nodes.length
 fnd:τ.fnd=σ.fnd
 given:τ.given=σ.given
 name:∀i,(τ.node i).name=(σ.node i).name
 parts:∀i,(τ.node i).parts=(σ.node i).parts
theorem Alike.refl(σ:TS):Alike σ σ:=⟨rfl,rfl,rfl,fun _=>rfl,fun _=>rfl⟩
theorem Alike.trans{a b c:TS}(h:Alike a b)(k:Alike b c):Alike a c:=
 ⟨k.len.trans h.len,k.fnd.trans h.fnd,k.given.trans h.given,fun i=>(k.name i).trans (h.name i),fun i=>(k.parts i).trans (h.parts i)⟩
theorem Alike.root{a b:TS}(h:Alike a b)(i:Nat):b.root i=a.root i:=by unfold TS.root;rw[h.fnd]
theorem Alike.isLetter{a b:TS}(h:Alike a b)(i:Nat):b.isLetter i=a.isLetter i:=by unfold TS.isLetter;rw[h.name]
theorem TS.setDepth_node(σ:TS)(i d j:Nat):(σ.setDepth i d).node j=if j=i/\i<σ.nodes.length then { σ.node j with depth:=d }else σ.node j:=by
 unfold TS.setDepth TS.node
 simp only[List.getElem?_modify]
 by_cases hj:i=j
 ·subst hj
  by_cases hl:i<σ.nodes.length
  ·rw[if_pos ⟨rfl,hl⟩,List.getElem?_eq_getElem hl];simp
  ·rw[if_neg (fun h=>hl h.2),List.getElem?_eq_none (by omega)];simp
 ·rw[if_neg (fun h=>hj h.1.symm)];simp[hj]
theorem Alike.setDepth(σ:TS)(i d:Nat):Alike σ (σ.setDepth i d) where
 len:=by simp[TS.setDepth]
 fnd:=rfl
 given:=rfl
 name j:=by rw[TS.setDepth_node];split<;>rfl
 parts j:=by rw[TS.setDepth_node];split<;>rfl
theorem TS.setDepth_depth(σ:TS)(i d j:Nat):(σ.setDepth i d).depth j=if j=i/\i<σ.nodes.length then d else σ.depth j:=by
 unfold TS.depth;rw[TS.setDepth_node];split<;>rfl
theorem FndOk.alike{σ τ:TS}(h:Alike σ τ):∀{l:List (Nat×Nat)},FndOk σ l->FndOk τ l:=by
 intro l
 induction l with
 |nil=>intro _;trivial
 |cons x r ih=>
  obtain⟨t,o⟩:=x
  intro ⟨h1,h2,h3,h4,h5,h6,h7⟩
  exact⟨h1,h2,h3,by rw[h.len];exact h4,by rw[h.len];exact h5,by rw[h.isLetter];exact h6,ih h7⟩
theorem TS.Ok.alike{τ:TS}(h:σ.Ok ar)(k:Alike σ τ):τ.Ok ar where
 fnd:=by rw[k.fnd];exact h.fnd.alike k
 parts i tn hi:=by
  have hl:i<σ.nodes.length:=by rw[<- k.len];exact(List.getElem?_eq_some_iff.1 hi).1
  have e1:=TS.node_of hi
  have:=h.parts i _ (TS.node_some hl)
  rw[<- k.name i,<- k.parts i,e1]at this
  rw[k.len];exact this
 given g hg:=by rw[k.len];rw[k.given]at hg;exact h.given g hg
theorem wk_alike{σ τ:TS}(h:Alike σ τ)(T:List Nat->Nat->Bool):∀n acc i,wk τ T n acc i=wk σ T n acc i:=by
 intro n
 induction n with
 |zero=>intro acc i;rfl
 |succ n ih=>
  intro acc i
  have:wk τ T n=wk σ T n:=funext fun a=>funext fun j=>ih a j
  rw[wk,wk,h.root,h.parts,this]
theorem Alike.fits{σ τ:TS}(h:Alike σ τ)(i:Nat):τ.fits i=σ.fits i:=by unfold TS.fits;rw[wk_alike h]
theorem Alike.pre{σ τ:TS}(h:Alike σ τ)(i:Nat):τ.pre i=σ.pre i:=by unfold TS.pre;rw[wk_alike h]
theorem wkL_some{g g':List Nat->Nat->Option (List Nat×Bool)}:∀{ps:List Nat}{acc acc':List Nat},wk.wkL g acc ps=some (acc',true)->(∀p∈ps,∀a a',g a p=some (a',true)->∀b,∃x,g' b p=some x)->∀b,∃x,wk.wkL g' b ps=some x:=by
 intro ps
 induction ps with
 |nil=>intro acc acc' _ _ b;exact⟨_,rfl⟩
 |cons p r ih=>
  intro acc acc' h hp b
  rw[wk.wkL]at h
  cases hg:g acc p with
  |none=>rw[hg]at h;cases h
  |some x=>
   obtain⟨a1,b1⟩:=x
   rw[hg]at h
   cases b1 with
   |false=>cases h
   |true=>
    obtain⟨⟨a2,b2⟩,h2⟩:=hp p (mem_cons_self ..) _ _ hg b
    rw[wk.wkL,h2]
    cases b2 with
    |false=>exact⟨_,rfl⟩
    |true=>exact ih h (fun q hq=>hp q (mem_cons_of_mem _ hq)) a2
theorem wk_some{σ:TS}{T T':List Nat->Nat->Bool}:∀{n:Nat}{acc acc':List Nat}{i:Nat},wk σ T n acc i=some (acc',true)->∀b,∃x,wk σ T' n b i=some x:=by
 intro n
 induction n with
 |zero=>intro acc acc' i h;cases h
 |succ n ih=>
  intro acc acc' i h b
  rw[wk]at h ⊢
  split at h
  ·split
   ·exact wkL_some h (fun p _ a a' hg b=>ih hg b) _
   ·exact⟨_,rfl⟩
  ·cases h
theorem TS.fits_end{σ:TS}{i:Nat}(h:σ.fits i=true)(T:List Nat->Nat->Bool):∃acc b,wk σ T wkFuel [] i=some (acc,b):=by
 unfold TS.fits at h
 cases hw:wk σ fitsT wkFuel [] i with
 |none=>rw[hw]at h;cases h
 |some x=>
  obtain⟨a,b⟩:=x
  rw[hw]at h
  simp at h
  subst h
  obtain⟨⟨c,d⟩,hx⟩:=wk_some (T':=T) hw []
  exact⟨c,d,hx⟩
theorem wkL_count{g:List Nat->Nat->Option (List Nat×Bool)}{m:Nat}(hg:∀acc p,m<=acc.length->∃acc' b,g acc p=some (acc',b)/\acc.length<=acc'.length):∀(ps:List Nat)(acc:List Nat),m<=acc.length->∃acc' b,wk.wkL g acc ps=some (acc',b)/\acc.length<=acc'.length:=by
 intro ps
 induction ps with
 |nil=>intro acc _;exact⟨acc,true,rfl,le_refl _⟩
 |cons p r ih=>
  intro acc h
  obtain⟨a1,b1,h1,h2⟩:=hg acc p h
  rw[wk.wkL,h1]
  cases b1 with
  |false=>exact⟨a1,false,rfl,h2⟩
  |true=>
   obtain⟨a2,b2,h3,h4⟩:=ih a1 (by omega)
   exact⟨a2,b2,h3,by omega⟩
theorem wk_count{σ:TS}:∀(n:Nat)(acc:List Nat)(i:Nat),1<=n->maxSize+1<=acc.length+n->∃acc' b,wk σ fitsT n acc i=some (acc',b)/\acc.length<=acc'.length:=by
 intro n
 induction n with
 |zero=>intro acc i h;omega
 |succ n ih=>
  intro acc i _ h
  rw[wk]
  by_cases hT:fitsT acc (σ.root i)=true
  ·rw[if_pos hT]
   have hlen:acc.length+1<=maxSize:=by simpa [fitsT]using hT
   obtain⟨a,b,h1,h2⟩:=wkL_count (g:=wk σ fitsT n) (m:=acc.length+1) (fun c p hc=>ih c p (by omega) (by omega)) (σ.node (σ.root i)).parts (acc++[σ.root i]) (by simp)
   exact⟨a,b,h1,by simp at h2;omega⟩
  ·rw[if_neg hT]
   exact⟨_,_,rfl,by simp⟩
theorem TS.fits_wk(σ:TS)(i:Nat):∃acc,wk σ fitsT wkFuel [] i=some (acc,σ.fits i):=by
 obtain⟨a,b,h,_⟩:=wk_count (σ:=σ) wkFuel [] i (by decide) (by decide)
 refine⟨a,?_⟩
 unfold TS.fits
 rw[h]
 cases b<;>rfl
theorem wkL_true{g g':List Nat->Nat->Option (List Nat×Bool)}:∀{ps:List Nat}{acc acc':List Nat},wk.wkL g acc ps=some (acc',true)->(∀p∈ps,∀a a',g a p=some (a',true)->g' a p=some (a',true))->wk.wkL g' acc ps=some (acc',true):=by
 intro ps
 induction ps with
 |nil=>intro acc acc' h _;exact h
 |cons p r ih=>
  intro acc acc' h hp
  rw[wk.wkL]at h ⊢
  cases hg:g acc p with
  |none=>rw[hg]at h;cases h
  |some x=>
   obtain⟨a1,b1⟩:=x
   rw[hg]at h
   cases b1 with
   |false=>cases h
   |true=>
    rw[hp p (mem_cons_self ..) _ _ hg]
    exact ih h fun q hq=>hp q (mem_cons_of_mem _ hq)
theorem wk_true{σ:TS}{T:List Nat->Nat->Bool}:∀{n:Nat}{acc acc':List Nat}{i:Nat},wk σ T n acc i=some (acc',true)->wk σ (fun _ _=>true) n acc i=some (acc',true):=by
 intro n
 induction n with
 |zero=>intro acc acc' i h;cases h
 |succ n ih=>
  intro acc acc' i h
  rw[wk]at h ⊢
  split at h
  ·rw[if_pos rfl];exact wkL_true h fun p _ a a' hg=>ih hg
  ·cases h
theorem TS.fits_pre{σ:TS}{i:Nat}(h:σ.fits i=true):wk σ (fun _ _=>true) wkFuel [] i=some (σ.pre i,true):=by
 obtain⟨a,ha⟩:=σ.fits_wk i
 rw[h]at ha
 have:=wk_true ha
 unfold TS.pre
 rw[this];rfl
theorem wkL_mem{σ:TS}{g:List Nat->Nat->Option (List Nat×Bool)}:∀{ps:List Nat}{acc acc':List Nat}{b:Bool},wk.wkL g acc ps=some (acc',b)->(∀p∈ps,∀a a' b,g a p=some (a',b)->∀x∈a',x∈a\/(x<σ.nodes.length/\σ.root x=x))->∀x∈acc',x∈acc\/(x<σ.nodes.length/\σ.root x=x):=by
 intro ps
 induction ps with
 |nil=>intro acc acc' b h _ x hx;rw[wk.wkL]at h;cases h;exact inl hx
 |cons p r ih=>
  intro acc acc' b h hp x hx
  rw[wk.wkL]at h
  cases hg:g acc p with
  |none=>rw[hg]at h;cases h
  |some y=>
   obtain⟨a1,b1⟩:=y
   rw[hg]at h
   have h1:=hp p (mem_cons_self ..) _ _ _ hg
   cases b1 with
   |false=>cases h;exact h1 x hx
   |true=>
    rcases ih h (fun q hq=>hp q (mem_cons_of_mem _ hq)) x hx with h2|h2
    ·exact h1 x h2
    ·exact inr h2
theorem wk_mem{T:List Nat->Nat->Bool}(hok:σ.Rg):∀{n:Nat}{acc acc':List Nat}{i:Nat}{b:Bool},i<σ.nodes.length->wk σ T n acc i=some (acc',b)->∀x∈acc',x∈acc\/(x<σ.nodes.length/\σ.root x=x):=by
 intro n
 induction n with
 |zero=>intro acc acc' i b _ h;cases h
 |succ n ih=>
  intro acc acc' i b hi h x hx
  have hr:=hok.root_lt hi
  rw[wk]at h
  split at h
  ·rcases wkL_mem (σ:=σ) h (fun p hp a a' b hg=>ih (hok.part_lt hr hp) hg) x hx with h2|h2
   ·rcases mem_append.1 h2 with h3|h3
    ·exact inl h3
    ·rw[mem_singleton.1 h3];exact inr ⟨hr,hok.root_root i⟩
   ·exact inr h2
  ·cases h
   rcases mem_append.1 hx with h3|h3
   ·exact inl h3
   ·rw[mem_singleton.1 h3];exact inr ⟨hr,hok.root_root i⟩
theorem TS.Rg.pre_mem(hok:σ.Rg){i:Nat}(hi:i<σ.nodes.length)(hf:σ.fits i=true):∀x∈σ.pre i,x<σ.nodes.length/\σ.root x=x:=fun x hx=>by
 rcases wk_mem hok hi (TS.fits_pre hf) x hx with h|h
 ·cases h
 ·exact h
end
section
variable {ar:Nm->Nat}{σ:TS}
theorem TS.new_node(σ:TS)(t:TN)(i:Nat):(σ.new t).2.node i=if i=σ.nodes.length then t else σ.node i:=by
 unfold TS.new TS.node
 simp only
 by_cases hi:i=σ.nodes.length
 ·subst hi;simp
 ·rw[if_neg hi]
  by_cases hl:i<σ.nodes.length
  ·rw[List.getElem?_append_left hl]
  ·rw[List.getElem?_eq_none (by simp;omega),List.getElem?_eq_none (by omega)]
theorem TS.new_len(σ:TS)(t:TN):(σ.new t).2.nodes.length=σ.nodes.length+1:=by simp[TS.new]
theorem rootL_out{σ:TS}:∀{l:List (Nat×Nat)},FndOk σ l->∀{i},σ.nodes.length<=i->rootL l i=i:=by
 intro l
 induction l with
 |nil=>intro _ i _;rfl
 |cons x r ih=>
  obtain⟨t,o⟩:=x
  intro ⟨_,_,_,h4,_,_,h7⟩ i hi
  simp only[rootL]
  rw[ih h7 hi,if_neg (by omega)]
theorem FndOk.grow{σ τ:TS}(hlen:σ.nodes.length<=τ.nodes.length)(hlet:∀i,i<σ.nodes.length->τ.isLetter i=σ.isLetter i):∀{l:List (Nat×Nat)},FndOk σ l->FndOk τ l:=by
 intro l
 induction l with
 |nil=>intro _;trivial
 |cons x r ih=>
  obtain⟨t,o⟩:=x
  intro ⟨h1,h2,h3,h4,h5,h6,h7⟩
  exact⟨h1,h2,h3,by omega,by omega,by rw[hlet t h4];exact h6,ih h7⟩
theorem TS.Ok.new(h:σ.Ok ar){t:TN}(hp:∀p∈t.parts,p<σ.nodes.length)(h0:t.name=[]->t.parts=[])(ha:t.name≠[]->t.parts.length=ar t.name):(σ.new t).2.Ok ar where
 fnd:=FndOk.grow (by simp[TS.new]) (fun i hi=>by unfold TS.isLetter;rw[TS.new_node,if_neg (by omega)]) h.fnd
 parts i tn hi:=by
  rw[TS.new_len]
  have hn:=TS.node_of hi
  rw[TS.new_node]at hn
  have hlt:i<σ.nodes.length+1:=by rw[<- TS.new_len];exact(List.getElem?_eq_some_iff.1 hi).1
  by_cases he:i=σ.nodes.length
  ·rw[if_pos he]at hn
   subst hn
   exact⟨fun p hp'=>Nat.lt_succ_of_lt (hp p hp'),h0,ha⟩
  ·rw[if_neg he]at hn
   have:=h.parts i _ (TS.node_some (by omega))
   rw[hn]at this
   exact⟨fun p hp'=>Nat.lt_succ_of_lt (this.1 p hp'),this.2⟩
 given g hg:=by rw[TS.new_len];exact Nat.lt_succ_of_lt (h.given g hg)
theorem TS.Rg.new(h:σ.Rg){t:TN}(hp:∀p∈t.parts,p<σ.nodes.length):(σ.new t).2.Rg where
 fnd:=FndOk.grow (by simp[TS.new]) (fun i hi=>by unfold TS.isLetter;rw[TS.new_node,if_neg (by omega)]) h.fnd
 parts i hi p hp':=by
  rw[TS.new_len]at hi ⊢
  rw[TS.new_node]at hp'
  split at hp'
  ·exact Nat.lt_succ_of_lt (hp p hp')
  ·exact Nat.lt_succ_of_lt (h.part_lt (by omega) hp')
theorem TS.Rg.alike{τ:TS}(h:σ.Rg)(k:Alike σ τ):τ.Rg where
 fnd:=by rw[k.fnd];exact h.fnd.alike k
 parts i hi p hp:=by rw[k.len]at hi ⊢;rw[k.parts]at hp;exact h.part_lt hi hp
theorem TS.Ok.give(h:σ.Ok ar){i:Nat}(hi:i<σ.nodes.length):(σ.give i).Ok ar where
 fnd:=FndOk.grow (σ:=σ) (τ:=σ.give i) (le_refl _) (fun _ _=>rfl) h.fnd
 parts:=h.parts
 given g hg:=by
  rcases mem_append.1 hg with h1|h1
  ·exact h.given g h1
  ·rw[mem_singleton.1 h1];exact hi
def lower(σ:TS)(t:Nat)(l:List Nat):TS:=l.foldl (fun s j=>if s.isLetter j then s.setDepth j (min (s.depth j) (s.depth t))else s) σ
theorem lower_alike:∀(l:List Nat)(σ:TS)(t:Nat),Alike σ (lower σ t l):=by
 intro l
 induction l with
 |nil=>intro σ t;exact Alike.refl _
 |cons j r ih=>
  intro σ t
  unfold lower
  rw[List.foldl_cons]
  split
  ·exact(Alike.setDepth _ _ _).trans (ih _ _)
  ·exact ih _ _
theorem lower_snoc(σ:TS)(t:Nat)(l:List Nat)(j:Nat):lower σ t (l++[j])=if (lower σ t l).isLetter j then(lower σ t l).setDepth j (min ((lower σ t l).depth j) ((lower σ t l).depth t))else lower σ t l:=by
 unfold lower
 rw[List.foldl_append];rfl
def opened(σ:TS)(d:Nat)(l:List Nat):TS:=l.foldl (fun s j=>if s.isLetter j && decide (d<s.depth j)then s.setDepth j openD else s) σ
theorem opened_alike:∀(l:List Nat)(σ:TS)(d:Nat),Alike σ (opened σ d l):=by
 intro l
 induction l with
 |nil=>intro σ t;exact Alike.refl _
 |cons j r ih=>
  intro σ t
  unfold opened
  rw[List.foldl_cons]
  split
  ·exact(Alike.setDepth _ _ _).trans (ih _ _)
  ·exact ih _ _
theorem opened_snoc(σ:TS)(d:Nat)(l:List Nat)(j:Nat):opened σ d (l++[j])=if (opened σ d l).isLetter j && decide (d<(opened σ d l).depth j)then(opened σ d l).setDepth j openD else opened σ d l:=by
 unfold opened
 rw[List.foldl_append];rfl
theorem TS.openAll_eq(σ:TS)(d i:Nat):σ.openAll d i=opened σ d (σ.pre i):=rfl
def TS.found(σ:TS)(t o:Nat):TS:={ σ with fnd:=(t,o)::σ.fnd }
theorem TS.Ok.found(h:σ.Ok ar){t o:Nat}(ht:t<σ.nodes.length)(ho:o<σ.nodes.length)(hl:σ.isLetter t=true)(h1:σ.root t=t)(h2:σ.root o=o)(hne:t≠o):(σ.found t o).Ok ar where
 fnd:=⟨h1,h2,hne,ht,ho,hl,FndOk.grow (σ:=σ) (τ:=σ.found t o) (le_refl _) (fun _ _=>rfl) h.fnd⟩
 parts:=h.parts
 given:=h.given
theorem TS.Rg.found(h:σ.Rg){t o:Nat}(ht:t<σ.nodes.length)(ho:o<σ.nodes.length)(hl:σ.isLetter t=true)(h1:σ.root t=t)(h2:σ.root o=o)(hne:t≠o):(σ.found t o).Rg where
 fnd:=⟨h1,h2,hne,ht,ho,hl,FndOk.grow (σ:=σ) (τ:=σ.found t o) (le_refl _) (fun _ _=>rfl) h.fnd⟩
 parts:=h.parts
theorem TS.Rg.give(h:σ.Rg)(i:Nat):(σ.give i).Rg:=⟨FndOk.grow (σ:=σ) (τ:=σ.give i) (le_refl _) (fun _ _=>rfl) h.fnd,h.parts⟩
theorem TS.found_root(σ:TS)(t o i:Nat):(σ.found t o).root i=if σ.root i=t then o else σ.root i:=rfl
theorem TS.standFor_eq(σ:TS)(t o:Nat):σ.standFor t o=if σ.fits o && (wk σ (fun _ j=>j != t) wkFuel [] o).any Prod.snd then some ((lower σ t (σ.pre o)).found t o)else none:=by
 unfold TS.standFor
 split
 ·have h:=lower_alike (σ.pre o) σ t
  unfold lower at h
  simp only[TS.found,lower]
 ·rfl
end
end Go.Proofs.YtcbppnefeonmgaaGreatDoor
