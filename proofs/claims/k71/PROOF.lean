import PyProof.Rows.All
import Wide.All
import OpenK.AllK
import Wide.FinOn
import PySem.Challenge.RW_haulbell_k71_no_crews
import Lean
import PyProof.EqAt
import PyProof.EqKinds
import PyProof.TupleCall
import PyProof.EnumStmt
import PyProof.NeKinds
import PyProof.ExcAttrAll.ValueError
import PyProof.ExcInit
import PyProof.StationsW
import PyProof.NsDelKeeps
import PyProof.InstStoreFacts
import PyProof.ZipIter
import PyProof.IsiBase
import PyProof.AttrMiss
import KE.KDictOf
import KE.KDictList
import PyProof.InstEq
import PyProof.Rows.Range3
import PyProof.EnumMake
import PyProof.StrWalks
import PyProof.DictWalks
import PyProof.Rows.StrWeight2
import PyProof.StrCalls2
import PyProof.Rows.StrFacts2
import KE.KEqDict
import KE.KTab
import KE.KTabLook
import KE.KIntText
import PyProof.SliceStr
import PyProof.StrOps2
import KE.LcSums
open PySem.W renaming behindTheImports→ac
open PySem renaming wpAny_bind→ad,wpAny_pure→am,wpAny_field→ap,wpAny_holding→bd,wpAny_truthy_bool→bi,starEach→bm,sizeLine→bn,wpAny_Call_Name_kw→bv
open List renaming length_map→ce,length_append→ci,mem_of_getElem?→cr,length_take→db,mem_cons_of_mem→dl,map_append→dL,length_singleton→f8,size_toArray→ge,mem_append_right→gt,getElem?_map→ii,length_drop→im,append_assoc→io,getElem?_eq_getElem→jp,mem_cons_self→le,mem_cons→lf
open Bool renaming and_eq_true→li
open Option renaming map_eq_some_iff→lv
open Nat renaming lt_of_lt_of_le→mo,le_of_ble_eq_true→nb,ne_of_lt→nw,le_refl→pc
open Int renaming toNat_natCast→pi,eq_ofNat_of_zero_le→re
open List renaming replicate→sn,getElem?_eq_some_iff→sw
open PySem.Heap renaming get?_push_of_some→sK,lt_size→tz,get?_push_size→ul
set_option linter.all false
set_option maxRecDepth 100000
set_option Elab.async false
set_option compiler.extract_closed false
theorem My.kleA {a b k:Nat}(h:a<=k)(e:Nat.ble (b+1) a=true):b<=k-1:=Nat.le_sub_one_of_lt (mo (nb e) h)
theorem My.kleB {a b k:Nat}(h:a<=k)(e:Nat.ble b a=true):b<=k:=Nat.le_trans (nb e) h
set_option hygiene false
local macro_rules| `(tactic|sleep $n:num)=>`(tactic|((conv at h=>lhs;whnf);iterate $n (split at h;rotate_left;cases h)))
set_option hygiene true
local macro_rules|`(command|abbrev $i:declId $s:optDeclSig $v:declVal)=>`(command|noncomputable def $i:declId $s:optDeclSig $v:declVal)
local macro_rules|`(command|def $i:declId $b:bracketedBinder* :$t $v:declVal)=>`(command|theorem $i:declId $b:bracketedBinder* :$t $v:declVal)
local macro_rules|`(nofun)=>`(by first|exact My.kleA (by assumption) (by rfl)|exact My.kleB (by assumption) (by rfl)|lia|omega)
local macro_rules|`(tactic|omega)=>`(tactic|lia)
noncomputable abbrev My.pr:PySem.Program:=PySem.Challenge.rw_haulbell_k71_no_crews.row.prog
open PySem PySem.W in
set_option maxHeartbeats 0 in
def My.EK:PySem.Challenge.rw_haulbell_k71_no_crews.wellSaid=true:=by
  rewrite [Fast.te9446332074065402090]
  kernel_rfl
namespace L2
open PySem PySem.Spec
abbrev inClass (s:Stmt)(j:Nat):Stmt:=match s with
  | .ClassDef _ _ _ body _ _ _ _ _ _ _=>body.getD j (.Pass ⟨0,0,0,0⟩)
  |_=>.Pass ⟨0,0,0,0⟩
abbrev qO (s:Stmt):Arguments:=match s with
  | .FunctionDef _ a _ _ _ _ _ _ _ _=>a
  |_=>{ posonlyargs:=[],args:=[],vararg:=none,kwonlyargs:=[],kw_defaults:=[],kwarg:=none,defaults:=[] }
abbrev qB (s:Stmt):List Stmt:=match s with
  | .FunctionDef _ _ b _ _ _ _ _ _ _=>b
  |_=>[]
abbrev mj (s:Stmt):Scope:=match s with
  | .FunctionDef _ _ _ _ _ _ sc _ _ _=>sc
  |_=>{ kind:=.function,names:=[],isGenerator:=false,isCoroutine:=false }
end L2
namespace My
open PySem L2 PySem.W
abbrev top (i:Nat):Stmt:=PySem.Challenge.pw_haulbell_k71_no_crews.main.body.getD i (.Pass ⟨0,0,0,0⟩)
abbrev tq (i j:Nat):Stmt:=inClass (top i) j
/-- the top's run on a tree -/
abbrev jB (tb:String->Option Builtin)(p:Program)(w:World)(m:Nat)(ann:Option Value):Nat->SharedT->Thread->Option SharedT
  |0,_,_=>none
  |n+1,s,t=>match through t with
    |true=>some s
    |false=>match stepOk m ann t with
      |false=>none
      |true=>match stepT (denote tb) p w s t with
        |some r=>jB tb p w m ann n r.1 r.2
        |none=>none
def pL {tb:String->Option Builtin}{p:Program}{w:World}{m:Nat}{ann:Option Value}:∀ {n:Nat}{s s':SharedT}{t:Thread},jB tb p w m ann n s t=some s'->topRun tb p w m ann n s.abs t=some s'.abs
  |0,_,_,_,h=>by cases h
  |n+1,s,s',t,h=>by
    unfold jB at h;unfold topRun;cases a:through t
    · rw[a]at h;dsimp only at h⊢
      cases b:stepOk m ann t
      · rw[b]at h;cases h
      · rw[b]at h;dsimp only at h⊢
        cases c:stepT (denote tb) p w s t with
        |none=>rw[c]at h;cases h
        |some r=>rw[c]at h;rw[stepT_spec c];exact pL h
    · rw[a]at h;cases h;rfl
abbrev DS:Nat->BT->List Obj->BT
  |_,t,[]=>t
  |n,t,o::os=>DS (n+1) (t.ins n o) os
abbrev wK (P:Params):BT:=DS 0 .nil (boot_heap P).objs.toList
abbrev Fh (P:Params)(os:OsState):SharedT:=⟨wK P,11,(boot_heap P).life,Array.mk [],boot_drawn,boot_toks,os⟩
def rH {p q:Program}{loose:List Str}{Xt:Shared->Bool}{α:Type}{Yf:Shared->α}{Ya:World->α}{N:Nat}(e:opening p=plainProg p.main.scope.names)(hN:Nat.ble 600 N=true)(f:∀ s,fenceModules? p s=some s)
    (h0:∀ P,absHeap (wK P) 11 (boot_heap P).life=boot_heap P) (h1:∀ P,((boot_heap P).isNs mainGlobals,(boot_heap P).objs.size,(boot_heap P).nsMap mainGlobals "__annotations__")=(true,11,some (.ref 6)))
    (run:∀ (w:World) (os:OsState),(jB treeTable p w 11 (some (.ref 6)) N (Fh w.params os) (topStub p)).map (λs=>(staticsOk (importedModules p.main.body) (boot_heap w.params) s.abs.heap&&namesBound p s.abs.heap&&gensDone s.abs&&laidKept (boot_heap w.params) s.abs.heap,
      openSeen q loose (importedModules p.main.body) Xt true s.abs,Yf s.abs))=some (true,openGood q loose,Ya w)):LeftO p q loose Xt Yf Ya N:=λw=>by
  obtain⟨⟨hp,gs,d,k,os⟩,e1,e2⟩:=lv.mp (boot_open e hN f w);obtain⟨rfl,rfl,rfl,rfl⟩:hp=boot_heap w.params/\gs=Array.mk []/\d=boot_drawn/\k=boot_toks:=by simpa using e2
  obtain⟨z1,z2,z3⟩:_/\_/\_:=by simpa only [Prod.mk.injEq] using h1 w.params
  obtain⟨s,r,l⟩:=lv.mp (run w os);obtain⟨l1,l2,l3⟩:_/\_/\_:=by simpa only [Prod.mk.injEq] using l
  have r1:=pL r;have a0:(Fh w.params os).abs=⟨boot_heap w.params,Array.mk [],boot_drawn,boot_toks,os⟩:=by
    show(⟨absHeap (wK w.params) 11 (boot_heap w.params).life,Array.mk [],boot_drawn,boot_toks,os⟩:Shared)=_;rw[h0]
  rw[a0]at r1;unfold openEnds;rw[e1];have t:topFrom treeTable p w N ⟨boot_heap w.params,Array.mk [],boot_drawn,boot_toks,os⟩=some s.abs:=by
    unfold topFrom;dsimp only;rw[z1,z2,z3,r1];show(match staticsOk (importedModules p.main.body) (boot_heap w.params) s.abs.heap&&namesBound p s.abs.heap&&gensDone s.abs&&laidKept (boot_heap w.params) s.abs.heap with|true=>some s.abs|false=>none)=some s.abs;rw[l1]
  show(topFrom treeTable p w N _).map _=_;rw[t];exact congrArg some (Prod.ext l2 l3)
abbrev E6:List Addr:=2::3::30::31::47::48::50::51::66::67::69::70::85::86::88::89::104::105::107::108::123::124::126::127::142::143::145::146::161::162::164::165::180::181::183::184::192::193::199::200::201::207::208::214::215::223::229::230::248::249::255::256::258::259::272::273::283::284::290::291::299::305::306::347::348::366::367::373::374::376::377::387::388::394::395::408::409::415::416::422::423::443::444::450::451::457::458::471::472::474::475::485::486::492::493::499::500::504::505::511::512::518::519::525::526::537::538::544::545::551::552::579::580::593::594::603::604::614::615::621::622::630::636::637::650::651::653::654::669::670::676::677::679::680::697::698::704::705::707::708::720::726::727::733::734::736::737::761::762::764::765::787::788::790::791::799::800::806::807::813::814::818::819::825::826::832::833::839::840::846::847::853::854::860::861::865::866::872::873::879::880::886::887::893::894::898::899::903::904::[]
abbrev FO:List Addr:=48::67::86::105::124::143::162::181::193::200::208::215::230::249::256::284::291::306::348::367::374::388::395::409::416::423::444::451::458::472::486::493::500::505::512::519::526::538::545::552::580::594::615::622::637::651::670::677::698::705::727::734::762::788::800::807::814::819::826::833::840::847::854::861::866::873::880::887::894::899::904::[]
abbrev GQ:List Addr:=[31,51,70,89,108,127,146,165,184,259,273,377,475,604,654,680,708,737,765,791]
abbrev runK (tb:String->Option Builtin)(p:Program)(w:World)(m:Nat)(ann:Option Value):Nat->SharedT->Thread->Option (SharedT×Thread)
  |0,s,t=>some (s,t)
  |n+1,s,t=>match through t with
    |true=>none
    |false=>match stepOk m ann t with
      |false=>none
      |true=>match stepT (denote tb) p w s t with
        |some r=>runK tb p w m ann n r.1 r.2
        |none=>none
def dQ {tb:String->Option Builtin}{p:Program}{w:World}{m:Nat}{ann:Option Value}{k:Nat}:∀ {n:Nat}{s:SharedT}{t:Thread}{r:SharedT×Thread},runK tb p w m ann n s t=some r->jB tb p w m ann (n+k) s t=jB tb p w m ann k r.1 r.2
  |0,s,t,r,h=>by
    rw[Nat.zero_add];cases h
    rfl
  |n+1,s,t,r,h=>by
    rw[Nat.succ_add];unfold runK at h;conv=>lhs;unfold jB
    cases a:through t
    · rw[a]at h;dsimp only at h⊢
      cases b:stepOk m ann t
      · rw[b]at h;cases h
      · rw[b]at h;dsimp only at h⊢
        cases c:stepT (denote tb) p w s t with
        |none=>rw[c]at h;cases h
        |some r=>rw[c]at h;exact dQ h
    · rw[a]at h;cases h
abbrev kT (x y:Str)(s:Stmt):Obj:=⟨.none,none,.func { name:=x,qualname:=y,params:=qO s,body:=.stmts (qB s),scope:=mj s,globals:=builtinsNs,closure:=[],defaults:=.none,kwdefaults:=.none },#[]⟩
abbrev bo (P:Params)(i:Nat):Obj:=(boot_heap P).objs.toList.getD i ⟨.none,none,.plain,#[]⟩
abbrev gC (p:Program):Env:={ scope:=p.main.scope,locals:=mainNs,globals:=mainNs,cells:=[],code:=.ref 13,frame:=some 14 }
abbrev GG:Frame:=.ret (λx=>Sem.bind (match x with| .ok f=>Sem.pure f| .error e=>Sem.raise e) (λ_=>ret .none)) none false [] (.builtin "claim.caller" {}) default []
abbrev ye (p:Program)(X:List Stmt):Sem Fin:=Sem.bind (Sem.onRaise (execs X (gC p)) (leaving (gC p))) (λa=>Sem.pure (Fin.done a))
abbrev pd (p:Program)(X:List Stmt)(q:Pos):Thread:=⟨ye p X,.body (ac p) (gC p),q,[GG]⟩
def vt {tb:String->Option Builtin}{p:Program}(h:blockStart (ac p) (gC p)=Sem.pure ()):denote tb (.body (ac p) (gC p))=ye p (ac p):=by
  show Sem.bind (blockStart (ac p) (gC p)) (λ_=>ye p (ac p))=_;rw[h]
  rfl
abbrev o0:Obj:=⟨.type "tuple",none,.seq #[] 0,#[]⟩
abbrev oN:Obj:=⟨.none,none,.fields #[],#[]⟩
abbrev oL:List Str->Nat->List Value
  | [],_=>[]
  |x::r,t=>.str x t::oL r (t+1)
abbrev oS (l:List Str)(t:Nat):Obj:=⟨.type "tuple",none,.seq (Array.mk (oL l t)) 0,#[]⟩
abbrev GU (l:List (Int×Nat)):Array Value:=(l.flatMap λp=>[.int p.1 0,.int 0 0,.ref p.2]).toArray
abbrev GD:List (Int×Nat):=[(1,20),(5,27),(7,40),(12,59),(18,78),(24,97),(29,116),(34,135),(39,154),(44,173),(51,192),(53,199),(57,207),(59,214),(67,221),(90,269),(94,283),(100,290),(103,297),(144,387),(150,394)]
abbrev Hn:List (Int×Nat):=GD++[(152,401),(197,485),(203,492),(212,499),(214,504),(218,511),(220,518),(231,525),(233,532),(273,614),(275,621),(277,628),(294,662),(301,690),(309,718),(319,747),(326,773),(334,799),(340,806),(356,813),(365,818),(373,825),(375,832),(386,839),(395,846),(405,853),(414,860),(421,865),(439,872),(447,879),(457,886),(469,893),(481,898)]
abbrev oI (l c a:Nat):Obj:=⟨.none,none,.fields #[.int l 0,.int c 0,.ref a],#[]⟩
abbrev oK (x:Str)(t l r:Nat):Obj:=⟨.type "code",none,.fields #[.str x t,.str x (t+1),.str "/claim/cut.py" (t+2),.int l 0,.int 0 0,.int 0 0,.int 0 0,.int 0 0,.ref r,.bool false,.int 181 0,.ref (r+1),.none,.none,.none,.none,.int (t+3:Nat) 0,.int l 0,.str "/claim/cut.py" (t+4)],#[]⟩
abbrev oC (x y:Str)(t l n r u:Nat):Obj:=⟨.type "code",none,.fields #[.str x t,.str y (t+1),.str "/claim/cut.py" (t+2),.int l 0,.int n 0,.int 0 0,.int 0 0,.int 3 0,.ref r,.bool true,.int 181 0,.ref (r+1),.none,.ref (r+2),.ref (r+3),.ref (r+4),.int u 0,.int l 0,.str "/claim/cut.py" (u+1)],#[]⟩
abbrev oF (x y:Str)(s:Stmt)(m:Str)(t c:Nat)(d:Value:=.none):Obj:=⟨.type "function",none,.func (fnOf x y (qO s) (qB s) (mj s) d .none .none (.str m t) none (.ref c) .none),#[]⟩
abbrev oR (a b:Nat)(m:Str)(t:Nat):Obj:=⟨.type "frame",none,.plain,#[some (.ref a),some (.ref 3),some (.ref b),none,some (.str m t),none,some (.ref 0)]⟩
abbrev oX (x:Str)(b m:List Value)(n:Addr)(s:List Value)(r t u:Nat)(w:String):Obj:=⟨.type "type",none,.cls ⟨x,b,m,n,x,true,[],s,false,none,false⟩,#[some (.ref r),none,some (.str x t),some (.str x u),some (.builtin w),some (.bool true)]⟩
abbrev oU (a:Addr):Obj:=⟨.type "super",none,.fields #[.ref a,.ref a,.ref a],#[]⟩
abbrev oJ (a:Addr):Obj:=⟨.type "builtin_function_or_method",none,.fields #[.builtin "object.__init_subclass__",.ref a],#[]⟩
abbrev oP:Obj:=⟨.type "builtin_function_or_method",none,.fields #[.builtin "type.__prepare__",.type "type"],#[]⟩
abbrev oQ (a:Addr):Obj:=⟨.type "tuple",none,.seq #[.ref a] 0,#[]⟩
abbrev fG (x y:Str)(s:Stmt)(m:Str)(mt:Nat)(l:List Str)(t ln n a:Nat)(r:List Obj):List Obj:=o0::oN::oS l (t+3)::o0::kT x y s::oC x y t ln n a (t+3+l.length)::oF x y s m mt (a+5)::r
abbrev oW:List (Nat×Obj)->List Obj->List Obj
  | [],l=>l
  |x::r,l=>(oW r l).set x.1 x.2
abbrev eV (x:Str)(t:Tok)(v:Value)(P:Params):DictEntry:=⟨PyData.keyHash P x,.str x t,v⟩
abbrev eM (t:Nat)(m:Str)(u:Nat):Params->DictEntry:=eV "__module__" t (.str m u)
abbrev eQ (t:Nat)(m:Str)(u:Nat):Params->DictEntry:=eV "__qualname__" t (.str m u)
abbrev eF (t l u:Nat):Params->DictEntry:=eV "__firstlineno__" t (.int l u)
abbrev eS (t a:Nat):Params->DictEntry:=eV "__static_attributes__" t (.ref a)
abbrev eN (t:Nat):Params->DictEntry:=eV "__doc__" t .none
abbrev eR (x:Str)(t a:Nat):Params->DictEntry:=eV x t (.ref a)
abbrev oD (P:Params)(es:List (Params->DictEntry))(n:Nat):Obj:=⟨.type "dict",none,.dict (Array.mk (es.map λf=>f P)) n,#[]⟩
abbrev Hs (P:Params):List Obj:=
bo P 0::
bo P 1::
bo P 2::
bo P 3::
bo P 4::
bo P 5::
bo P 6::
bo P 7::
bo P 8::
bo P 9::
bo P 10::
o0::
oN::
oK "<module>" 182 1 11::
oR 13 3 "__main__" 164::[]
abbrev Hy (x y:Str)(t l n r:Nat):Obj:=⟨.type "code",none,.fields #[.str x t,.str y (t+1),.str "/claim/cut.py" (t+2),.int l 0,.int n 0,.int 0 0,.int 0 0,.int 3 0,.ref r,.bool true,.int 181 0,.ref (r+1),.none,.none,.none,.ref (r+2),.int (t+3:Nat) 0,.int l 0,.str "/claim/cut.py" (t+4)],#[]⟩
abbrev oG (x b:String)(v:Value)(a t:Nat):Obj:=⟨.type "getset_descriptor",none,.fields #[.str (Str.ofString x) t,.ref a,.builtin b,v],#[]⟩
@[reducible]def Mt:Type:=Str×Str×List Str×Nat×Nat×List (Obj×Nat)
abbrev zK (a t:Nat)(s:Stmt)(m:Str×Nat)(x y:Str)(l:List Str)(ln n:Nat)(d:Value):List Obj:=match l with
  | []=>o0::oN::kT x y s::Hy x y t ln n a::oF x y s m.1 m.2 (a+3) d::[]
  |_=>o0::oN::oS l (t+3)::o0::kT x y s::oC x y t ln n a (t+3+l.length)::oF x y s m.1 m.2 (a+5) d::[]
abbrev GS (a t:Nat)(s:Stmt)(m:Str×Nat)(q:Mt):List Obj:=match q.2.2.2.2.2 with
  | []=>zK a t s m q.1 q.2.1 q.2.2.1 q.2.2.2.1 q.2.2.2.2.1 .none
  |d::_=>d.1::zK (a+1) (t+d.2) s m q.1 q.2.1 q.2.2.1 q.2.2.2.1 q.2.2.2.2.1 (.ref a)
abbrev Ae (q:Mt)(a:Nat):Nat:=match q.2.2.1 with
  | []=>a+5+q.2.2.2.2.2.length
  |_=>a+7+q.2.2.2.2.2.length
abbrev Dz (q:Mt)(t:Nat):Nat:=match q.2.2.2.2.2 with
  | []=>t+6+q.2.2.1.length
  |d::_=>t+d.2+6+q.2.2.1.length
abbrev GP (i:Nat)(m:Str×Nat):Nat->List Mt->Nat->Nat->(List Obj->Nat->Nat->List Obj)
  |_,[],_,_=>λr _ _=>r
  |j,q::l,a,t=>λr x y=>GS a t (inClass (top i) j) m q++GP i m (j+1) l (Ae q a) (Dz q t) r x y
abbrev GO:List Mt->Nat->Nat
  | [],a=>a
  |q::l,a=>GO l (Ae q a)
abbrev Gv:List Mt->Nat->Nat
  | [],a=>a
  |q::l,a=>Gv l (Dz q a)
abbrev Gw:List Mt->Nat->Nat->List (Params->DictEntry)->List (Params->DictEntry)
  | [],_,_,r=>r
  |q::l,a,t,r=>eR q.1 (Dz q t-1) (Ae q a-1)::Gw l (Ae q a) (Dz q t) r
abbrev Gy:List Mt->Nat->List Value
  | [],_=>[]
  |q::l,a=>.int q.2.2.2.1 0::.int 4 0::.ref (Ae q a-2)::Gy l (Ae q a)
@[reducible]def It:Type:=(Params->List Obj)×List (Params->DictEntry)×List Value
abbrev iF (a t i:Nat)(m:Str×Nat)(x:Str)(l:List Str)(ln n:Nat)(d:List (Obj×Nat):=[]):It:=(λ_=>GS a t (top i) m (x,x,l,ln,n,d),eR x (Dz (x,x,l,ln,n,d) t-1) (Ae (x,x,l,ln,n,d) a-1)::[],.int ln 0::.int 0 0::.ref (Ae (x,x,l,ln,n,d) a-2)::[])
abbrev iR (o:Params->List Obj):It:=(o,[],[])
abbrev iE (x:Str)(t:Nat)(v:Value):It:=(λ_=>[],[eV x t v],[])
abbrev iC (a T i:Nat)(m:Str×Nat)(x:Str)(ln:Nat)(ms:List Mt)(st:List Str)(sub:List Value:=[]) (br:Nat:=0) (mro:List Value:=[]) (w:String:=""):It:=
  let b:=GO ms (a+7)
  let s:=Gv ms (T+12)
  let e:=s+st.length
  let h (z:List (Params->DictEntry)):=eF (T+11) ln (T+10)::Gw ms (a+7) (T+12) (eS e b::z)
  let o (y:List (Params->DictEntry)) (z k:Obj) (n:Nat) (r:List Obj) (P:Params):List Obj:=z::oP::oD P (eM (T+7) m.1 m.2::eQ (T+9) x (T+8)::h []) (4+ms.length)::o0::⟨.none,none,.fields (Array.mk (Gy ms (a+7))),#[]⟩::oK x (T+2) ln (a+3)::oR (a+5) (a+2) m.1 m.2::GP i m 0 ms (a+7) (T+12) ((match st with| []=>o0|_=>oS st s)::oD P (eM (T+7) m.1 m.2::h y) n::k::r) 0 0
  match br with
  |0=>(o [eR "__dict__" (e+2) (b+3),eR "__weakref__" (e+4) (b+4),eN (e+5)] o0 ⟨.type "type",none,.cls ⟨x,[.type "object"],[.ref (b+2),.type "object"],b+1,x,true,[],sub,false,none,false⟩,#[none,none,some (.str x T),some (.str x (T+8)),some (.builtin "object.__new__"),some (.bool true)]⟩ 4 [oG "__dict__" "function.__dict__" (.builtin "function.__dict__#set") (b+2) (e+1),oG "__weakref__" "ExceptionGroup.__weakref__" .none (b+2) (e+3),oU (b+2),oJ (b+2)],eR x (e+7) (b+2)::[],.int ln 0::.int 0 0::.ref (a+5)::[])
  |_=>(o [eN (e+1)] (oQ br) (oX x [.ref br] (.ref (b+2)::.ref br::mro) (b+1) sub a T (T+8) w) 2 [oU (b+2),oJ (b+2)],eR x (e+3) (b+2)::[],.int ln 0::.int 0 0::.ref (a+5)::[])
abbrev FN (P:Params)(nm:Str)(nt n:Nat)(l:List It):List Obj:=bo P 0::bo P 1::bo P 2::oD P (eV "__name__" 165 (.str nm nt)::eN 166::eV "__package__" 167 .none::eV "__loader__" 168 (.builtin "__main__.__loader__#opaque")::eV "__spec__" 169 .none::eR "__annotations__" 170 6::eR "__builtins__" 171 4::eV "__file__" 173 (.str "/claim/cut.py" 172)::eV "__cached__" 174 .none::l.flatMap (·.2.1)) n::bo P 4::bo P 5::bo P 6::bo P 7::bo P 8::bo P 9::bo P 10::o0::⟨.none,none,.fields (Array.mk (l.flatMap (·.2.2))),#[]⟩::oK "<module>" 182 1 11::oR 13 3 "__main__" 164::l.flatMap (·.1 P)
abbrev G9:Str×Nat:=("__main__",164)
abbrev Av:Str×Nat:=("haulbell.errors",194)
abbrev GB:Str×Nat:=("haulbell.wholes",418)
abbrev F9:Str×Nat:=("haulbell.boxes",436)
abbrev Hx:Str×Nat:=("haulbell.deeds",534)
abbrev Gm:Str×Nat:=("haulbell.machine",556)
abbrev FX:Str×Nat:=("haulbell.store",687)
abbrev GX:Str×Nat:=("haulbell.stretches",813)
abbrev E5:Str×Nat:=("haulbell.parts",835)
abbrev GA:Str×Nat:=("haulbell.crew",874)
abbrev Bm:Str×Nat:=("haulbell.hops",991)
abbrev AH:Str×Nat:=("haulbell.items",1053)
abbrev Ep:Str×Nat:=("haulbell.longs",1169)
abbrev dz:Str×Nat:=("law_haulbell_k71_no_crews",1235)
abbrev zR (a T i:Nat)(m:Str×Nat)(x:Str)(ln:Nat)(ms:List Mt)(st:List Str)(sub:List Value:=[]):It:=iC a T i m x ln ms st sub 31 [.type "ValueError",.type "Exception",.type "BaseException",.type "object"] "ValueError.__new__"
abbrev Gf (a T i:Nat)(m:Str×Nat)(x:Str)(ln:Nat)(ms:List Mt)(st:List Str)(sub:List Value:=[]):It:=iC a T i m x ln ms st sub 273 [.type "object"] "object.__new__"
abbrev CV:List It:=
iF 15 187 0 G9 "_wall" ["k"] 1 1::
iE "HaulError" 213 (.ref 31)::
iR (λP=>[⟨.type "tuple",none,.seq #[.type "ValueError"] 0,#[]⟩,oP,oD P [eM 203 "haulbell.errors" 194,eQ 205 "HaulError" 204,eF 207 5 206,eS 208 29] 4,o0,oN,oK "HaulError" 198 5 25,oR 27 24 "haulbell.errors" 194,o0,oD P [eM 203 "haulbell.errors" 194,eF 207 5 206,eS 208 29,eR "__weakref__" 210 32,eN 211] 3,oX "HaulError" [.type "ValueError"] [.ref 31,.type "ValueError",.type "Exception",.type "BaseException",.type "object"] 30 [.ref 51,.ref 70,.ref 89,.ref 108,.ref 127,.ref 146,.ref 165,.ref 184] 22 196 204 "ValueError.__new__",⟨.type "getset_descriptor",none,.fields #[.str "__weakref__" 209,.ref 31,.builtin "ExceptionGroup.__weakref__",.none],#[]⟩,oU 31,oJ 31])::
zR 35 214 3 Av "NoStore" 7 [("__init__","NoStore.__init__",["self","at"],9,2,[])] ["at"]::
zR 54 239 4 Av "Stop" 12 [("__init__","Stop.__init__",["self","deed","cell"],14,3,[])] ["cell","deed"]::
zR 73 266 5 Av "NoFit" 18 [("__init__","NoFit.__init__",["self","box","number"],20,3,[])] ["box","number"]::
zR 92 293 6 Av "NoDeed" 24 [("__init__","NoDeed.__init__",["self","word"],26,2,[])] ["word"]::
zR 111 318 7 Av "NoRows" 29 [("__init__","NoRows.__init__",["self","at"],31,2,[])] ["at"]::
zR 130 343 8 Av "NoPlace" 34 [("__init__","NoPlace.__init__",["self","at"],36,2,[])] ["at"]::
zR 149 368 9 Av "NoPart" 39 [("__init__","NoPart.__init__",["self","at"],41,2,[])] ["at"]::
zR 168 393 10 Av "NoMember" 44 [("__init__","NoMember.__init__",["self","k"],46,2,[])] ["k"]::
iE "BOUND" 421 (.int 1000000000 420)::
iF 187 422 13 GB "is_whole" ["thing"] 51 1::
iF 194 429 14 GB "is_content" ["thing"] 53 1::
iE "NAMES" 444 (.ref 201)::
iR (λ_=>[oS ["here","there","left","way","sign","met"] 438])::
iF 202 445 17 F9 "is_number" ["thing"] 57 1::
iF 209 452 18 F9 "fits" ["box","thing"] 59 2::
iC 216 460 19 F9 "Boxes" 67 [("__init__","Boxes.__init__",["self","here","there","left","way","sign","met","handed","box","number"],69,7,[(⟨.type "tuple",none,.seq #[.int 0 472,.int 0 473,.int 0 474,.int 1 475,.int 0 476,.int 0 477] 0,#[]⟩,6)]),("holds","Boxes.holds",["self","box"],76,2,[]),("give","Boxes.give",["self","box","number"],79,3,[]),("told","Boxes.told",[],82,1,[]),("copied","Boxes.copied",["self","other"],85,1,[])] ["numbers"]::
iC 264 536 0 Hx "Deed" 90 [] [] [.ref 654,.ref 765,.ref 791]::
iE "MOST_ROWS" 559 (.int 24 558)::
iF 278 560 24 Gm "check_rows" ["rows","at","thing"] 94 1::
iF 285 569 25 Gm "check_place" ["at","many"] 100 2::
iC 292 577 26 Gm "Machine" 103 [("__init__","Machine.__init__",["self","rows","store","boxes","at"],105,5,[(⟨.type "tuple",none,.seq #[.int 0 589] 0,#[]⟩,1)]),("ended","Machine.ended",["self"],113,1,[]),("step_on","Machine.step_on",["self","store"],116,2,[]),("step","Machine.step",["self"],119,1,[]),("run","Machine.run",["self","most"],122,2,[]),("why","Machine.why",["self"],125,1,[]),("state","Machine.state",["self"],128,1,[]),("leaves","Machine.leaves",["self"],131,1,[]),("leave","Machine.leave",["self","low","behind","word"],134,4,[]),("rows","Machine.rows",[],137,1,[]),("copied","Machine.copied",["self"],140,1,[])] ["at","boxes","deeds","store"]::
iE "MOST_CELLS" 690 (.int 60 689)::
iF 382 691 29 FX "check_cells" ["cells","at","thing"] 144 1::
iF 389 700 30 FX "is_within" ["low","behind","size"] 150 3::[]
abbrev ir:List It:=
iC 396 709 31 FX "Store" 152 [("__init__","Store.__init__",["self","cells"],154,2,[]),("size","Store.size",["self"],159,1,[]),("told","Store.told",["self"],162,1,[]),("leaves","Store.leaves",["self"],165,1,[]),("leave","Store.leave",["self","low","behind","word"],168,4,[]),("may","Store.may",["self","deed","cell"],171,3,[]),("look","Store.look",["self","cell"],178,2,[]),("put","Store.put",["self","cell","content"],183,3,[]),("restore","Store.restore",["self","cell","content"],188,3,[]),("copied","Store.copied",["self","other"],191,1,[])] ["contents","permits"]::
iF 480 815 33 GX "shared" ["one","other","low","behind"] 197 2::
iF 487 825 34 GX "apart" ["stretches","place","stretch","earlier"] 203 1::
iE "MOST_MEMBERS" 838 (.int 4 837)::
iE "THINGS_OF_A_MEMBER" 840 (.int 4 839)::
iF 494 841 38 E5 "is_member" ["thing"] 212 1::
iF 501 848 39 E5 "are_members" [] 214 1::
iF 506 854 40 E5 "is_part" ["part","size"] 218 2::
iF 513 862 41 E5 "parts_of" ["members","size","parts","at","member","part"] 220 2::
iF 520 876 43 GA "machine_on" ["cells","part","member"] 231 3::
iC 527 885 44 GA "Crew" 233 [("__init__","Crew.__init__",[],235,3,[]),("check_member","Crew.check_member",["self","k"],240,2,[]),("machine_of","Crew.machine_of",["self","k"],244,2,[]),("step","Crew.step",["self","k"],248,2,[]),("run","Crew.run",["self","k","most"],251,3,[]),("why","Crew.why",["self","k"],254,2,[]),("state","Crew.state",["self","k"],257,2,[]),("go","Crew.go",["self","order"],260,2,[]),("floor","Crew.floor",["self","cells","part","machine"],263,1,[]),("leave","Crew.leave",["self","low","behind","word"],269,4,[])] ["ground","machines","parts"]::
iE "MOST_HOPPED" 994 (.int 24 993)::
iF 609 995 47 Bm "is_many" ["thing"] 273 1::
iF 616 1002 48 Bm "is_on" ["thing"] 275 1::
Gf 623 1009 49 Bm "Hop" 277 [("__init__","Hop.__init__",["self","many","on"],279,3,[(⟨.type "tuple",none,.seq #[.none] 0,#[]⟩,0)]),("step","Hop.step",["self","boxes","store"],285,3,[]),("words","Hop.words",["self","told"],288,1,[])] ["many","on"]::
iC 657 1055 51 AH "Do" 294 [("__init__","Do.__init__",["self","name"],296,2,[]),("told","Do.told",["self"],299,1,[])] ["called"]::
iC 685 1091 52 AH "Times" 301 [("__init__","Times.__init__",["self","many","block"],303,3,[]),("told","Times.told",["self"],307,1,[])] ["block","many"]::
iC 713 1129 53 AH "When" 309 [("__init__","When.__init__",["self","on","block","other"],311,4,[(⟨.type "tuple",none,.seq #[.none] 0,#[]⟩,0)]),("told","When.told",["self"],316,1,[])] ["block","on","other"]::
Gf 742 1171 55 Ep "Copy" 319 [("step","Copy.step",["self","boxes","store"],321,3,[]),("words","Copy.words",["self"],324,1,[])] []::
Gf 768 1203 56 Ep "Turn" 326 [("step","Turn.step",["self","boxes","store"],328,3,[]),("words","Turn.words",["self"],331,1,[])] []::
iF 794 1237 58 dz "_law_hand" ["_law_script","_law_cells_here","_law_fold","_law_cell"] 334 1::
iF 801 1247 59 dz "_law_draw" ["_law_hand_here","_law_many","_law_rest","_law_cell","_law_one","_law_two"] 340 2::
iF 808 1259 60 dz "_law_content" ["_law_hand_here","_law_way"] 356 1::
iF 815 1267 61 dz "_law_cells" [] 365 2::
iF 820 1273 62 dz "_law_whole" ["_law_thing"] 373 1::
iF 827 1280 63 dz "_law_odd" ["_law_hand_here","_law_low","_law_high","_law_way"] 375 3::
iF 834 1290 64 dz "_law_parts" ["_law_hand_here","_law_size","_law_parts_here","_law_low","_law_k","_law_behind"] 386 2::
iF 841 1302 65 dz "_law_told" ["_law_cells_here","_law_members","_law_crew","e","_law_some","_law_others"] 395 2::
iF 848 1314 66 dz "_law_no_part" ["_law_size","_law_members","_law_k","_law_low","_law_behind","_law_other"] 405 2::
iF 855 1326 67 dz "_law_rows_wrong" ["_law_rows","_law_at"] 414 1::
iF 862 1334 68 dz "_law_due" [] 421 2::
iF 867 1340 69 dz "_law_bad_cells" ["_law_hand_here","_law_cells_here","_law_way","_law_found","_law_turn"] 439 2::
iF 874 1351 70 dz "_law_bad_members" ["_law_hand_here","_law_members","_law_way","_law_many","_law_found","_law_k","_law_one"] 447 2::
iF 881 1364 71 dz "_law_bad_part" ["_law_hand_here","_law_size","_law_members","_law_found","_law_k","_law_low","_law_behind","_law_rows","_law_boxes","_law_other","_law_way","_law_odd_here","_law_at","_law_some","_law_pair"] 457 3::
iF 888 1385 72 dz "_law_bad_rows" ["_law_hand_here","_law_members","_law_found","_law_k","_law_low","_law_behind","_law_rows","_law_boxes","_law_odd_here","_law_some"] 469 2::
iF 895 1401 73 dz "_law_copied" [] 481 1::[]
abbrev GZ (P:Params):List Obj:=oW [(12,⟨.none,none,.fields (GU GD),#[]⟩),(273,⟨.type "type",none,.cls ⟨"Deed",[.type "object"],[.ref 273,.type "object"],272,"Deed",true,[],[],false,none,false⟩,#[none,none,some (.str "Deed" 536),some (.str "Deed" 544),some (.builtin "object.__new__"),some (.bool true)]⟩)] (FN P "haulbell.store" 687 34 CV)
abbrev G7 (P:Params):List Obj:=oW [(12,⟨.none,none,.fields (GU Hn),#[]⟩)] (FN P "law_haulbell_k71_no_crews" 1235 70 (CV++ir))
abbrev S0 (P:Params)(os:OsState):SharedT:=⟨DS 0 .nil (Hs P),15,(boot_heap P).life,Array.mk [],boot_drawn,187,os⟩
abbrev q0:Pos:=⟨0,0,0,0⟩
abbrev S1 (P:Params)(os:OsState):SharedT:=⟨DS 0 .nil (GZ P),396,(boot_heap P).life,Array.mk [],boot_drawn,709,os⟩
abbrev q1:Pos:=⟨150,0,151,78⟩
abbrev S2 (P:Params)(os:OsState):SharedT:=⟨DS 0 .nil (G7 P),900,(boot_heap P).life,Array.mk [],boot_drawn,1407,os⟩
abbrev q2:Pos:=⟨481,0,486,21⟩
abbrev Hv (P:Params):List Obj:=FN P "law_haulbell_k71_no_crews" 1235 71 (CV++ir++[iF 900 1407 74 dz "law" [] 487 1])
abbrev K0 (P:Params):PySem.W.Frag:=E6.map λa=>(a,(Hv P).getD a oN)
abbrev lJ (p:Program):Program:=PySem.W.view p [74]
abbrev vB:List Str:="_wall"::"HaulError"::"NoStore"::"Stop"::"NoFit"::"NoDeed"::"NoRows"::"NoPlace"::"NoPart"::"NoMember"::"BOUND"::"is_whole"::"is_content"::"NAMES"::"is_number"::"fits"::"Boxes"::"Deed"::"MOST_ROWS"::"check_rows"::"check_place"::"Machine"::"MOST_CELLS"::"check_cells"::"is_within"::"Store"::"shared"::"apart"::"MOST_MEMBERS"::"THINGS_OF_A_MEMBER"::"is_member"::"are_members"::"is_part"::"parts_of"::"machine_on"::"Crew"::"MOST_HOPPED"::"is_many"::"is_on"::"Hop"::"Do"::"Times"::"When"::"Copy"::"Turn"::"_law_hand"::"_law_draw"::"_law_content"::"_law_cells"::"_law_whole"::"_law_odd"::"_law_parts"::"_law_told"::"_law_no_part"::"_law_rows_wrong"::"_law_due"::"_law_bad_cells"::"_law_bad_members"::"_law_bad_part"::"_law_bad_rows"::"_law_copied"::[]
end My
open PySem PySem.W in
set_option maxHeartbeats 0 in
def My.Cn (w:World)(os:OsState):My.runK treeTable My.pr w 11 (some (.ref 6)) 12 (My.Fh w.params os) (topStub My.pr)=some (My.S0 w.params os,⟨denote treeTable (.body (ac My.pr) (My.gC My.pr)),.body (ac My.pr) (My.gC My.pr),default,[My.GG]⟩):=by
  delta My.pr;rewrite[Fast.te2368527892694137696,Fast.te14364793385576792824]
  kernel_rfl
open PySem PySem.W in
set_option maxHeartbeats 0 in
def My.CY (w:World)(os:OsState)(B:List Stmt):My.runK treeTable My.pr w 11 (some (.ref 6)) 3610 (My.S0 w.params os) (My.pd My.pr (((ac My.pr).drop 0).take 31++B) My.q0)=some (My.S1 w.params os,My.pd My.pr B My.q1):=by
  delta My.pr;rewrite[Fast.te2368527892694137696,Fast.te14364793385576792824]
  kernel_rfl
open PySem PySem.W in
set_option maxHeartbeats 0 in
def My.Bv (w:World)(os:OsState)(B:List Stmt):My.runK treeTable My.pr w 11 (some (.ref 6)) 3535 (My.S1 w.params os) (My.pd My.pr (((ac My.pr).drop 31).take 43++B) My.q1)=some (My.S2 w.params os,My.pd My.pr B My.q2):=by
  delta My.pr;rewrite[Fast.te2368527892694137696,Fast.te14364793385576792824]
  kernel_rfl
open PySem PySem.W in
set_option maxHeartbeats 0 in
def My.DZ:LeftO My.pr (My.lJ My.pr) My.vB (λs=>xlAt (My.lJ My.pr) [] s&&recOk PySem.Challenge.rw_haulbell_k71_no_crews.row.records s) (λs=>My.E6.map s.heap.get?) (λw=>(My.K0 w.params).map λp=>some p.2) 14468:=by
  refine My.rH (by kernel_rfl) rfl (λ_=>by kernel_rfl) (λ_=>by kernel_rfl) (λ_=>by kernel_rfl) λw os=>?_
  have d:denote treeTable (.body (ac My.pr) (My.gC My.pr))=My.ye My.pr (ac My.pr):=My.vt (by kernel_rfl);have e:My.jB treeTable My.pr w 11 (some (.ref 6)) (12+(3610+(3535+(7311)))) (My.Fh w.params os) (topStub My.pr)=My.jB treeTable My.pr w 11 (some (.ref 6)) 7311 (My.S2 w.params os) (My.pd My.pr ((ac My.pr).drop 74) My.q2):=by
    rw[My.dQ (My.Cn w os)];dsimp only;rw[d];show My.jB treeTable My.pr w 11 (some (.ref 6)) _ (My.S0 w.params os) (My.pd My.pr ((ac My.pr).drop 0) My.q0)=_;rw[show(ac My.pr).drop 0=((ac My.pr).drop 0).take 31++(ac My.pr).drop 31 from by
      rw[show(ac My.pr).drop 31=((ac My.pr).drop 0).drop 31 by rw[List.drop_drop],List.take_append_drop],My.dQ (My.CY w os _)]
    rw[show(ac My.pr).drop 31=((ac My.pr).drop 31).take 43++(ac My.pr).drop 74 from by
      rw[show(ac My.pr).drop 74=((ac My.pr).drop 31).drop 43 by rw[List.drop_drop],List.take_append_drop],My.dQ (My.Bv w os _)]
  rw[show(14468:Nat)=12+(3610+(3535+(7311))) from rfl,e]
  delta My.pr;rewrite[Fast.te4187177175401517315,Fast.te5923862056798008813,Fast.te2368527892694137696,Fast.te14364793385576792824]
  kernel_rfl
set_option Elab.async false
open List(mem_range filterMap_cons mem_cons_self mem_cons_of_mem mem_cons mem_append mem_append_left getElem?_set_self getElem?_set_ne mem_append_right size_toArray any_eq_false length_cons map_cons length_map append_nil nodup_cons of_mem_zip length_take getElem?_append_right getElem?_append_left getElem?_map take_sublist mem_of_getElem? length_append length_replicate length_drop length_set all_cons any_cons replicate_succ flatten_cons append_assoc foldl_cons length_singleton nil_append find?_cons forIn_cons forIn_nil getElem?_eq_getElem drop_zero take_length lookup_cons take_of_length_le not_mem_nil set_comm all_eq_true length_eq_zero_iff zip_cons_cons zip_append mem_of_mem_drop take_append_drop mem_of_mem_take isEmpty_iff drop_length mem_singleton take_succ map_replicate getElem?_take map_append getElem?_of_mem map_drop map_take getElem?_set)
@[reducible]def HK:Type:=Option PySem.Value->PySem.Shared->Prop
@[reducible]def HL:Type:=Unit->PySem.Shared->Prop
@[reducible]def HM:Type:=PySem.Value->PySem.Shared->Prop
@[reducible]def HN:Type:=List (PySem.Addr×PySem.Obj)
@[reducible]def HP:Type:=PySem.Str->Option PySem.Value
namespace L2
open PySem PySem.Spec PyProof.Rows
@[reducible]def Key:=Sum Int Str
abbrev jE:Key->Value->Bool
 | .inl k,v=>Value.isInt k v
 | .inr x,v=>Value.isStrOf x v
abbrev F3 (w:World):Key->Int
 | .inl k=>hashInt k
 | .inr x=>hashStr w x
def aC:∀ {k:Key}{v:Value},jE k v=true->(∃ i t,k=Sum.inl i/\v=Value.int i t)\/(∃ x t,k=Sum.inr x/\v=Value.str x t)
 | .inl i,v,h=>by
  obtain⟨t,e⟩:=Value.isInt_shape (k:=i) (v:=v) h;exact .inl ⟨i,t,rfl,e⟩
 | .inr x,v,h=>by
  obtain⟨t,e⟩:=Value.isStrOf_shape (x:=x) (v:=v) h;exact .inr ⟨x,t,rfl,e⟩
def rG (i:Int)(t:Tok):jE (.inl i) (.int i t)=true:=by simp[jE,Value.isInt]
def rD (x:Str)(t:Tok):jE (.inr x) (.str x t)=true:=by simp[jE,Value.isStrOf]
def BX (a b:Int):decide ((Sum.inl a:Key)=Sum.inl b)=(a ==b):=by
 by_cases e:a=b
 .subst e;simp
 .have h:¬ (Sum.inl a:Key)=Sum.inl b:=λq=>e (Sum.inl.inj q)
  rw[decide_eq_false h];exact(beq_eq_false_iff_ne.mpr e).symm
def BI (a b:Str):decide ((Sum.inr a:Key)=Sum.inr b)=decide (a=b):=by
 by_cases e:a=b
 .subst e;simp
 .have h:¬ (Sum.inr a:Key)=Sum.inr b:=λq=>e (Sum.inr.inj q)
  rw[decide_eq_false h,decide_eq_false e]
def A0 (a:Int)(b:Str):decide ((Sum.inl a:Key)=Sum.inr b)=false:=decide_eq_false (λq=>nomatch q)
def BW (a:Str)(b:Int):decide ((Sum.inr a:Key)=Sum.inl b)=false:=decide_eq_false (λq=>nomatch q)
abbrev aF (prog:Program)(w:World):PySem.KeyKind prog w Key where
 is:=jE
 hash:=F3 w
 inj:=λv a b ha hb=>by
  rcases aC ha with⟨i,t,rfl,rfl⟩|⟨x,t,rfl,rfl⟩
  .rcases aC hb with⟨j,u,rfl,e⟩|⟨y,u,rfl,e⟩
   .injection e with e1 _;rw[e1]
   .exact nomatch e
  .rcases aC hb with⟨j,u,rfl,e⟩|⟨y,u,rfl,e⟩
   .exact nomatch e
   .injection e with e1 _;rw[e1]
 byValue:=λk v h=>by
  rcases aC h with⟨i,t,rfl,rfl⟩|⟨x,t,rfl,rfl⟩<;>rfl
 pyHash:=λhv h=>by
  rcases aC hv with⟨i,t,rfl,rfl⟩|⟨x,t,rfl,rfl⟩
  .exact wpAny_pyHash_int h
  .exact wpAny_pyHash_str h
 eqBool:=λhu hv h=>by
  rcases aC hu with⟨i,t,rfl,rfl⟩|⟨x,t,rfl,rfl⟩
  .rcases aC hv with⟨j,u,rfl,rfl⟩|⟨y,u,rfl,rfl⟩
   .rw[BX]at h;exact wpAny_eqBool_int h
   .rw[A0]at h;exact SeqAt.EqAt.int_str i t y u _ _ _ _ h
  .rcases aC hv with⟨j,u,rfl,rfl⟩|⟨y,u,rfl,rfl⟩
   .rw[BW]at h;exact SeqAt.EqAt.str_int x t j u _ _ _ _ h
   .rw[BI]at h;exact wpAny_eqBool_str h
 «strs»:=λk x t v h=>by
  rcases aC h with⟨i,u,rfl,e⟩|⟨y,u,rfl,e⟩
  .exact nomatch e
  .injection e with e1 _
   subst e1;cases v<;>rfl
def mx (prog:Program)(w:World)(i:Int)(t:Tok):(aF prog w).is (.inl i) (.int i t)=true:=rG i t
def lG (prog:Program)(w:World)(x:Str)(t:Tok):(aF prog w).is (.inr x) (.str x t)=true:=rD x t
inductive V where
 |non|bl (b:Bool)|int (i:Int)|str (x:Str)|byt (b:Array UInt8)|flt (b:UInt64)|ref (a:Addr)|ty (n:String)
 deriving DecidableEq
abbrev RelV:V->Value->Prop
 | .non,u=>u=Value.none
 | .bl b,u=>u=Value.bool b
 | .int i,u=>∃ t,u=Value.int i t
 | .str x,u=>∃ t,u=Value.str x t
 | .byt b,u=>∃ t,u=Value.bytes b t
 | .flt b,u=>∃ t,u=Value.float b t
 | .ref a,u=>u=Value.ref a
 | .ty n,u=>u=Value.type n
@[reducible]def Vals:List V->List Value->Prop:=Paired RelV
variable {xs:List V}{us:List Value}
def Vals.length (r:Vals xs us):xs.length=us.length:=Paired.length r
def Vals.get:∀ {xs:List V}{us:List Value}{i:Nat}{x:V},Vals xs us->xs[i]? =some x->∃ u,us[i]? =some u/\RelV x u
 |_,_,_,_,.nil,e=>by simp at e
 |_,_,0,_,.cons r _,e=>by simp at e;subst e;exact⟨_,rfl,r⟩
 |_,_,i+1,x,.cons _ t,e=>by
  obtain⟨u,h1,h2⟩:=Vals.get (i:=i) (x:=x) t (by simpa using e);exact⟨u,by simpa using h1,h2⟩
variable {u:Value}
def Vals.set {x:V}(r:RelV x u):∀ {xs:List V}{us:List Value}(i:Nat),Vals xs us->Vals (xs.set i x) (us.set i u)
 |_,_,_,.nil=>.nil
 |_,_,0,.cons _ t=>.cons r t
 |_,_,i+1,.cons q t=>.cons q (Vals.set r i t)
def Vals.append:∀ {xs ys:List V}{us ws:List Value},Vals xs us->Vals ys ws->Vals (xs++ys) (us++ws)
 |_,_,_,_,.nil,s=>s
 |_,_,_,_,.cons r t,s=>.cons r (Vals.append t s)
def Vals.take:∀ {xs:List V}{us:List Value}(n:Nat),Vals xs us->Vals (xs.take n) (us.take n)
 |_,_,0,_=>.nil
 |_,_,_+1,.nil=>.nil
 |_,_,n+1,.cons r t=>.cons r (Vals.take n t)
def Vals.drop:∀ {xs:List V}{us:List Value}(n:Nat),Vals xs us->Vals (xs.drop n) (us.drop n)
 |_,_,0,r=>r
 |_,_,_+1,.nil=>.nil
 |_,_,n+1,.cons _ t=>Vals.drop n t
abbrev cO:Option V->Option Value->Prop
 |some v,some u=>RelV v u
 |none,none=>True
 |_,_=>False
abbrev KV {κ:Type}:List (κ×V)->List (κ×Value)->Prop:=Paired λ(p:κ×V) (q:κ×Value)=>p.1=q.1/\RelV p.2 q.2
abbrev kV:Key->V
 | .inl i=>.int i
 | .inr x=>.str x
inductive HO where
  |lst (xs:List V)
  |tup (xs:List V)
  |dK (kvs:List (Key×V))|dT (kvs:List (List Key×V))
  |set (S:Int->Bool) (n:Nat)
  |ins (C dx:Addr) (fs:List (Str×V))
  |own (x:Addr)
  |exc (C:Addr) (dx:Option Addr) (fs:List (Str×V)) (fr:Bool)
  |xd (fs:List (Str×V))
  |met (f x:Addr)
  |rng (lo hi:Int)
  |gO (o:Obj) (u:HO)
  |tbl (ps:Array Value)
  |ext (φ:Heap->Prop)
@[reducible]def Hp:=Addr->Option HO
abbrev upd (H:Hp)(a:Addr)(o:HO):Hp:=λb=>if b=a then some o else H b
variable {H:Hp}{a:Addr}{o:HO}
def aq:upd H a o a=some o:=by unfold upd;rw[if_pos rfl]
variable {b:Addr}
def af (h:b≠a):upd H a o b=H b:=by unfold upd;rw[if_neg h]
def yA {u:HO}:upd (upd H a o) a u=upd H a u:=by
 funext b;unfold upd;split<;>rfl
def D8 {u:HO}(h:H a=some o)(h':H b=some u)(d:o≠u):a≠b:=by
 intro e;subst e;rw[h]at h';exact d (Option.some.inj h')
def aI (h:H a=some o)(h':H b=none):a≠b:=by
 intro e;subst e;rw[h]at h';cases h'
section
variable (P:Program) (w:World)
abbrev av (H:Hp)(h:Heap)(a:Addr):HO->Prop
 | .lst xs=>xs.length<=bn/\∃ (its:List Value) (n:Nat),Vals xs its/\h.get? a=some { cls:=.type "list",data:=.seq its.toArray n }
 | .tup xs=>xs.length<=bn/\∃ its:List Value,Vals xs its/\IsTup h a its.toArray
 | .dK kvs=>kvs.length<=bn/\(a ==sysModules)=false/\∃ vs,KV kvs vs/\h.DictOf (aF P w) a vs
 | .dT kvs=>kvs.length<=bn/\(a ==sysModules)=false/\∃ xs:List (List Key×Addr×Value),
   Paired (λ(p:List Key×V) (q:List Key×Addr×Value)=>p.1=q.1/\H q.2.1=some (.tup (p.1.map kV))/\RelV p.2 q.2.2) kvs xs/\
   ∃ o es ep,h.get? a=some o/\o.ExactDict/\o.data=.dict es ep/\es.toList=xs.map (entryOfKey (tupleKind (aF P w)))/\(xs.map (·.1)).Nodup
 | .set S n=>h.SetOf (intKind P w) a S n
 | .ins C dx fs=>H dx=some (.own a)/\fs.length<=1000/\dx≠a/\h.get? a=some (W.instObj C dx)/\
   ∃ mA,h.Ns1 dx mA/\(∀ f,cO (fs.lookup f) (mA f))/\PySem.Within mA (fs.map (·.1))
 | .exc C dx fs fr=>(∃ vs,h.get? a=some { cls:=.ref C,dict:=dx,data:=.fields vs }/\vs.size=6/\(fr=true->vs[1]? =some Value.none)/\vs[2]? =some Value.none)/\
   ((dx=none/\fs=[])\/∃ d,dx=some d/\H d=some (.own a)/\fs.length<=1000/\d≠a/\∃ mA,h.Ns1 d mA/\(∀ f,cO (fs.lookup f) (mA f))/\PySem.Within mA (fs.map (·.1)))
 | .own _=>∃ o,h.get? a=some o
 | .xd fs=>∃ mA,h.Ns1 a mA/\∀ f,cO (fs.lookup f) (mA f)
 | .rng lo hi=>∃ t u v,h.get? a=some { cls:=.type "range",data:=.fields #[.int lo t,.int hi u,.int 1 v] }
 | .gO o u=>h.get? a=some o/\av H h a u
 | .tbl ps=>h.get? a=some { cls:=.none,data:=.fields ps }
 | .met f x=>h.get? a=some (W.methodObj (.ref f) (.ref x))
 | .ext φ=>φ h/\(∃ o,h.get? a=some o)/\∀ h1 h2:Heap,φ h1->(∀ o,h1.get? a=some o->h2.get? a=some o)->φ h2
abbrev eK (H:Hp)(h:Heap):Prop:=∀ a o,H a=some o->av P w H h a o
end
section
variable {P:Program}{w:World}{H H':Hp}{h h':Heap}{a:Addr}{o:HO}
def av.lt (x:av P w H h a o):a<h.objs.size:=by
 cases o with
 |lst xs=>obtain⟨_,_,_,_,e⟩:=x;exact tz e
 |tup xs=>obtain⟨_,_,_,p⟩:=x;exact p.lt
 |dK kvs=>obtain⟨_,_,_,_,o,_,_,e,_⟩:=x;exact tz e
 |dT kvs=>obtain⟨_,_,_,_,o,_,_,e,_⟩:=x;exact tz e
 |set S n=>obtain⟨o,_,_,_,e,_⟩:=x;exact tz e
 |ins C dx fs=>obtain⟨_,_,_,e,_⟩:=x;exact tz e
 |exc C dx fs fr=>obtain⟨⟨_,e,_⟩,_⟩:=x;exact tz e
 |own y=>obtain⟨_,e⟩:=x;exact tz e
 |xd fs=>obtain⟨_,⟨_,_,_,e,_⟩,_⟩:=x;exact tz e
 |rng lo hi=>obtain⟨_,_,_,e⟩:=x;exact tz e
 |gO ob u=>obtain⟨e,_⟩:=x;exact tz e
 |tbl ps=>exact tz (show h.get? a=some _ from x)
 |met f y=>exact tz (show h.get? a=some _ from x)
 |ext φ=>obtain⟨_,⟨_,e⟩,_⟩:=x;exact tz e
def Paired.AV {α β:Type}{F G:α->β->Prop}:∀ {l₁:List α}{l₂:List β},Paired F l₁ l₂->(∀ a b,F a b->G a b)->Paired G l₁ l₂
 |_,_,.nil,_=>.nil
 |_,_,.cons r t,f=>.cons (f _ _ r) (Paired.AV t f)
def av.de (x:av P w H h a o)(k:∀ b u,(b=a\/H b=some (.own a))->h.get? b=some u->h'.get? b=some u)
  (ho:∀ b,H b=some (.own a)->H' b=some (.own a)) (ht:∀ b xs,H b=some (.tup xs)->H' b=some (.tup xs)):av P w H' h' a o:=by
 induction o with
 |lst xs=>obtain⟨z,its,n,r,e⟩:=x;exact⟨z,its,n,r,k _ _ (.inl rfl) e⟩
 |tup xs=>obtain⟨z,its,r,ob,e,c⟩:=x;exact⟨z,its,r,ob,k _ _ (.inl rfl) e,c⟩
 |dK kvs=>obtain⟨z,y,vs,r,ob,es,ep,e,c⟩:=x;exact⟨z,y,vs,r,ob,es,ep,k _ _ (.inl rfl) e,c⟩
 |dT kvs=>
  obtain⟨z,y,xs,r,ob,es,ep,e,c⟩:=x;exact⟨z,y,xs,Paired.AV r λp q z=>⟨z.1,ht _ _ z.2.1,z.2.2⟩,ob,es,ep,k _ _ (.inl rfl) e,c⟩
 |set S n=>obtain⟨ob,es,ep,t,e,c⟩:=x;exact⟨ob,es,ep,t,k _ _ (.inl rfl) e,c⟩
 |ins C dx fs=>
  obtain⟨d,z,ne,e,mA,⟨od,es,ep,e2,c⟩,r⟩:=x;exact⟨ho _ d,z,ne,k _ _ (.inl rfl) e,mA,⟨od,es,ep,k _ _ (.inr d) e2,c⟩,r⟩
 |exc C dx fs fr=>
  obtain⟨⟨vs,e,z⟩,q⟩:=x;refine⟨⟨vs,k _ _ (.inl rfl) e,z⟩,?_⟩;rcases q with q|⟨d,ed,d1,z1,ne,mA,⟨od,es,ep,e2,c⟩,r⟩
  .exact .inl q
  .exact .inr ⟨d,ed,ho _ d1,z1,ne,mA,⟨od,es,ep,k _ _ (.inr d1) e2,c⟩,r⟩
 |own y=>obtain⟨ob,e⟩:=x;exact⟨ob,k _ _ (.inl rfl) e⟩
 |xd fs=>obtain⟨mA,⟨od,es,ep,e,c⟩,r⟩:=x;exact⟨mA,⟨od,es,ep,k _ _ (.inl rfl) e,c⟩,r⟩
 |rng lo hi=>obtain⟨t,u,v,e⟩:=x;exact⟨t,u,v,k _ _ (.inl rfl) e⟩
 |gO ob u ih=>obtain⟨e,q⟩:=x;exact⟨k _ _ (.inl rfl) e,ih q⟩
 |tbl ps=>
  have e:h.get? a=some { cls:=.none,data:=.fields ps }:=x;show h'.get? a=some { cls:=.none,data:=.fields ps };exact k a _ (.inl rfl) e
 |met f y=>
  have e:h.get? a=some (W.methodObj (.ref f) (.ref y)):=x;show h'.get? a=some (W.methodObj (.ref f) (.ref y));exact k a _ (.inl rfl) e
 |ext φ=>obtain⟨p,⟨o,e⟩,st⟩:=x;exact⟨st _ _ p λo q=>k _ _ (.inl rfl) q,⟨o,k _ _ (.inl rfl) e⟩,st⟩
def eK.lt (x:eK P w H h)(e:H a=some o):a<h.objs.size:=(x a o e).lt
def eK.fresh (x:eK P w H h)(e:h.objs.size<=a):H a=none:=by
 cases q:H a with
 |none=>rfl
 |some u=>exact absurd (mo (x.lt q) e) (Nat.lt_irrefl _)
def eK.kept (x:eK P w H h)(k:∀ b u,h.get? b=some u->h'.get? b=some u):eK P w H h':=λa o e=>
 (x a o e).de (λb u _ q=>k b u q) (λ_ q=>q) λ_ _ q=>q
def eK.laid (x:eK P w H h)(k:∀ b u,h.get? b=some u->h'.get? b=some u) (hp:h.objs.size<=a) (new:av P w (upd H a o) h' a o):eK P w (upd H a o) h':=λb u e=>by
 have hn:=x.fresh hp
 by_cases hb:b=a
 .subst hb;rw[aq]at e;cases e;exact new
 .rw[af hb]at e;exact(x b u e).de (λc v _ q=>k c v q) (λc q=>by rw[af (aI q hn)];exact q) λc xs q=>by rw[af (aI q hn)];exact q
end
abbrev Rd (H:Hp)(a:Addr)(u:HO):Prop:=H a=some u\/∃ o,H a=some (.gO o u)
variable {P:Program}{w:World}{h:Heap}
def Rd.ok {u:HO}(r:Rd H a u)(x:eK P w H h):av P w H h a u:=by
 rcases r with r|⟨o,r⟩
 .exact x a u r
 .obtain⟨_,q⟩:=x a _ r;exact q
abbrev C5:Option HO->Prop
 |some (.lst _)=>True
 |some (.dK _)=>True
 |some (.dT _)=>True
 |some (.set _ _)=>True
 |some (.ins _ _ _)=>True
 |some (.exc _ _ _ fr)=>fr=true
 |some (.ext _)=>True
 |_=>False
abbrev Fix:HO->Prop
 | .gO _ _=>True
 | .exc _ _ _ fr=>fr=false
 |_=>False
def Fix.G6 {u:HO}(f:Fix u):¬ C5 (some u):=by
 cases u<;>first|exact f.elim|exact λz=>z.elim|exact λz=>Bool.noConfusion (z.symm.trans f)
section
variable {P:Program}{w:World}{H:Hp}{h h':Heap}{x e:Addr}{o':HO}
def eK.write (ok:eK P w H h)(mu:C5 (H x))(he:e=x\/H e=some (.own x))(k:∀ b u,b≠e->h.get? b=some u->h'.get? b=some u) (heo:∃ u,h'.get? e=some u)
  (new:av P w (upd H x o') h' x o'):eK P w (upd H x o') h':=λb u q=>by
 have nown:∀ c y,H c=some (.own y)->c≠x:=λc y r z=>by subst z;rw[r]at mu;exact mu
 have ntup:∀ c xs,H c=some (.tup xs)->c≠x:=λc xs r z=>by subst z;rw[r]at mu;exact mu
 by_cases hb:b=x
 .subst hb;rw[aq]at q;cases q;exact new
 .rw[af hb]at q
  by_cases hbe:b=e
  .have q':H b=some (.own x):=by
    rcases he with z|z
    .exact absurd (hbe.trans z) hb
    .rw[hbe];exact z
   rw[q]at q';cases q';obtain⟨v,hv⟩:=heo;exact⟨v,by rw[hbe];exact hv⟩
  .refine(ok b u q).de (λc v hc r=>k c v ?_ r) (λc r=>by rw[af (nown c b r)];exact r) λc xs r=>by rw[af (ntup c xs r)];exact r
   rcases hc with rfl|hc
   .exact hbe
   .rintro rfl;rcases he with z|z
    .exact nown c b hc z
    .rw[hc]at z;cases z;exact hb rfl
end
structure Un (fs ex:List Addr) (H H':Hp) (h h':Heap):Prop where
 keep:∀ b o,h.get? b=some o->H b=none->b ∉ fs->b ∉ ex->h'.get? b=some o
 slot:∀ b o,h.get? b=some o->H b=none->b ∈ fs->b ∉ ex->∃ sl,h'.get? b=some { o with slots:=sl }
 free:∀ b o,h.get? b=some o->H b=none->b ∉ ex->H' b=none
 there:∀ b o,h.get? b=some o->b ∉ ex->∃ o',h'.get? b=some o'
 tups:∀ b xs,H b=some (.tup xs)->H' b=some (.tup xs)
 frzs:∀ b u,Fix u->H b=some u->H' b=some u
 tbls:∀ b ps,H b=some (.tbl ps)->∃ more,H' b=some (.tbl (ps++more))
section
variable {fs fs' ex ex':List Addr}{H H1 H2:Hp}{h h1 h2 h':Heap}{a x e:Addr}{o:HO}
def Un.any (u:Un fs ex H H1 h h1){ob:Obj}(q:h.get? b=some ob)(n:H b=none)(hx:b ∉ ex):∃ sl,h1.get? b=some { ob with slots:=sl }:=by
 by_cases hb:b ∈ fs
 .exact u.slot b ob q n hb hx
 .exact⟨ob.slots,u.keep b ob q n hb hx⟩
def Un.kept (k:∀ b u,h.get? b=some u->h'.get? b=some u):Un fs ex H H h h':=
 ⟨λb ob q _ _ _=>k b ob q,λb ob q _ _ _=>⟨ob.slots,k b ob q⟩,λ_ _ _ n _=>n,λb ob q _=>⟨ob,k b ob q⟩,λ_ _ q=>q,λ_ _ _ q=>q,λ_ ps q=>⟨#[],by rw[q];simp⟩⟩
def Un.refl:Un fs ex H H h h:=Un.kept λ_ _ q=>q
def Un.laid (k:∀ b u,h.get? b=some u->h'.get? b=some u) (hp:h.objs.size<=a) (hn:H a=none):Un fs ex H (upd H a o) h h' where
 keep:=λb u q _ _ _=>k b u q
 slot:=λb u q _ _ _=>⟨u.slots,k b u q⟩
 free:=λb u q n _=>by rw[af (nw (mo (tz q) hp))];exact n
 there:=λb u q _=>⟨u,k b u q⟩
 tups:=λb xs q=>by rw[af (aI q hn)];exact q
 frzs:=λb u xs q=>by rw[af (aI q hn)];exact q
 tbls:=λb ps q=>⟨#[],by rw[af (aI q hn),q];simp⟩
def Un.write (mu:C5 (H x))(he:e=x\/H e=some (.own x))(k:∀ b u,b≠e->h.get? b=some u->h'.get? b=some u) (heo:∃ u,h'.get? e=some u):Un fs ex H (upd H x o) h h':=by
 have hx:∀ b,H b=none->b≠x:=λb n z=>by subst z;rw[n]at mu;exact mu
 have hb:∀ b,H b=none->b≠e:=λb n z=>by
  subst z;rcases he with r|r
  .exact hx b n r
  .rw[n]at r;cases r
 have hm:∀ b u,H b=some u->¬ C5 (some u)->b≠x:=λb u q nm z=>by subst z;rw[q]at mu;exact nm mu
 refine⟨λb u q n _ _=>k b u (hb b n) q,λb u q n _ _=>⟨u.slots,k b u (hb b n) q⟩,λb u q n _=>by rw[af (hx b n)];exact n,λb u q _=>?_,
  λb xs q=>by rw[af (hm b _ q λz=>z)];exact q,λb u xs q=>by rw[af (hm b _ q xs.G6)];exact q,λb ps q=>⟨#[],by rw[af (hm b _ q λz=>z),q];simp⟩⟩
 by_cases hbe:b=e
 .subst hbe;exact heo
 .exact⟨u,k b u hbe q⟩
end
abbrev AE (h:Heap)(H:Hp):List Addr:=(List.range h.objs.size).filter λa=>(H a).isSome
abbrev lz (h:Heap)(H:Hp):Heap:=W.hideAll h (AE h H)
def rE (h:Heap)(H:Hp):(lz h H).objs.size=h.objs.size:=W.hideAll_size _ _
def uO {o:Obj}(e:h.get? b=some o)(n:H b=none):(lz h H).get? b=some o:=
 W.hideAll_get _ e λhm=>by
  have q:(H b).isSome=true:=(List.mem_filter.mp hm).2;rw[n]at q;simp at q
def yg {o:Obj}(e:(lz h H).get? b=some o):h.get? b=some o/\H b=none:=by
 have e':h.get? b=some o:=W.of_hideAll (AE h H) e;refine⟨e',?_⟩;cases q:H b with
 |none=>rfl
 |some x=>
  have hm:b ∈ AE h H:=List.mem_filter.mpr ⟨mem_range.mpr (tz e'),by simp[q]⟩;have z:(lz h H).get? b=none:=W.hideAll_none (AE h H) hm;rw[z]at e;cases e
structure Mod (K:W.Frag) (mg:HP) (base:Heap):Prop where
 kin:K.In base
 glob:base.Ns mainGlobals mg
 blt:∃ mb,base.Ns builtinsNs mb/\∀ x:Str,x≠"__name__"->mb x=bootBuiltins x
 nolimit:base.NoLimit
/-- the context:a def's body (or a comprehension's block) running. base:fixed through the whole law;s₀,H₀:the entry;outer:the frames whose slots others may change (a def's callers);stack:all frames that run;
  ex:iterators that were made ahead of the entry and are walked here (a comprehension's);fn:the names whose cells were made at the entry (a def:all;a comprehension's block:its own);calm:not within an except aN;pn:Y that every state bears;xe:what is wanted of an exception that leaves the code -/
structure Cx where
 prog:Program
 w:World
 K:W.Frag
 mg:Str->Option Value
 base:Heap
 A:Around
 N:List Str
 s₀:Shared
 H₀:Hp
 env:Env
 outer:List Env
 stack:List Env
 ex:List Addr
 fn:Str->Bool
 calm:Bool
 pn:List (Addr×Obj)
 xe:Value->Shared->Prop
abbrev kc (l:List Env):List Addr:=l.filterMap (·.frame)
noncomputable abbrev Cx.fs (X:Cx):List Addr:=kc X.outer
abbrev Fb (sc:Scope)(x:Str):Prop:=sc.names.lookup x=some .local\/sc.names.lookup x=some .cell\/sc.names.lookup x=some .free
abbrev Loc (sc:Scope)(x:Str):Prop:=sc.names.lookup x=some .local\/sc.names.lookup x=some .cell
abbrev Look (env:Env)(h:Heap)(m:HP)(x:Str)(u:Value):Prop:=
 (env.kindOf x=some .local/\m x=some u)\/((env.kindOf x=some .cell\/env.kindOf x=some .free)/\∃ c,env.cells.lookup x=some c/\h.IsCell c (some u))
structure Cx.Ok (X:Cx):Prop where
 mod:Mod X.K X.mg X.base
 kind:X.env.scope.kind=.function
 glob:X.env.globals=mainGlobals
 blt:X.env.builtins=builtinsNs
 above:X.s₀.heap.objs.size<=X.env.locals
 inj:∀ x y c,X.env.cells.lookup x=some c->X.env.cells.lookup y=some c->x=y
 has:∀ x,(X.env.kindOf x=some .cell\/X.env.kindOf x=some .free)->∃ c,X.env.cells.lookup x=some c
 cab:∀ x c,X.fn x=true->X.env.cells.lookup x=some c->X.s₀.heap.objs.size<=c
 hd:X.calm=true->X.A.handled=none
 frames:X.A.frames=some X.stack
 stk:X.stack=X.outer\/(X.stack=X.env::X.outer/\X.env.frame=some X.env.locals)
 exf:∀ b ∈ X.ex,b≠X.env.locals/\∀ x c,X.env.cells.lookup x=some c->c≠b
 bs:∀ b o,X.base.get? b=some o->X.s₀.heap.get? b=some o/\X.H₀ b=none
 bsz:X.base.objs.size<=X.s₀.heap.objs.size
 noex:∀ b o,X.base.get? b=some o->b ∉ X.ex
 exfs:∀ b ∈ X.ex,b ∉ X.fs
 gA:X.s₀.heap.FunFrames X.base X.outer
 frf:∀ b ∈ X.fs,X.H₀ b=none
structure Inv (X:Cx) (Y:HN) (U:List (Option V)) (H:Hp) (s:Shared):Prop where
 ok:X.Ok
 os:s.os=X.s₀.os
 bare:AllBare s.gens
 base:Un X.fs X.ex X.H₀ H X.s₀.heap s.heap
 loc:∃ m,s.heap.Ns X.env.locals m/\∀ (i:Nat) (x:Str) (v:V),X.N[i]? =some x->U[i]? =some (some v)->Fb X.env.scope x->∃ u,RelV v u/\Look X.env s.heap m x u
 cell:∀ x c,X.env.cells.lookup x=some c->∃ v,s.heap.IsCell c v
 free:H X.env.locals=none
 freeC:∀ x c,X.env.cells.lookup x=some c->H c=none
 pin:∀ p ∈ X.pn++Y,s.heap.get? p.1=some p.2/\H p.1=none/\p.1≠X.env.locals/\p.1 ∉ X.fs/\∀ v,p.2.data≠.cell v
 hok:eK X.prog X.w H s.heap
 len:U.length=X.N.length
variable {x:Str}{g':Array GenState}{ch:List Addr}{i:Nat}{M:Model}{A:Around}{E:HM}{v:V}
section
variable {X:Cx}{Y:HN}{U:List (Option V)}{H H':Hp}{s:Shared}{h':Heap}
def Cx.Ok.Fm (ok:X.Ok){o:Obj}(e:X.base.get? b=some o):b ∉ X.fs:=λhb=>by
 have:=(ok.gA.mem hb).1;rw[e]at this;cases this
def Inv.bs (I:Inv X Y U H s):∀ b o,X.base.get? b=some o->s.heap.get? b=some o/\H b=none:=λb o e=>
 ⟨I.base.keep b o (I.ok.bs b o e).1 (I.ok.bs b o e).2 (I.ok.Fm e) (I.ok.noex b o e),I.base.free b o (I.ok.bs b o e).1 (I.ok.bs b o e).2 (I.ok.noex b o e)⟩
def Inv.bk (I:Inv X Y U H s):∀ b o,X.base.get? b=some o->s.heap.get? b=some o:=λb o e=>(I.bs b o e).1
def Inv.mod (I:Inv X Y U H s):Mod X.K X.mg X.base:=I.ok.mod
def Inv.bK (I:Inv X Y U H s):X.K.In s.heap:=I.ok.mod.kin.keeps I.bk
def Inv.lt (I:Inv X Y U H s):X.env.locals<s.heap.objs.size:=let⟨_,hn,_⟩:=I.loc;hn.lt
def Inv.sz (I:Inv X Y U H s):X.s₀.heap.objs.size<=s.heap.objs.size:=Nat.le_trans I.ok.above (Nat.le_of_lt I.lt)
def Inv.F7 (I:Inv X Y U H s)(h:s.heap.objs.size<=a):a ∉ X.fs:=λhb=>by
 obtain⟨_,o,ho,_⟩:=I.ok.gA.mem hb;exact absurd (mo (tz ho) (Nat.le_trans I.sz h)) (Nat.lt_irrefl _)
def Inv.tS (I:Inv X Y U H s):∀ x c,X.env.cells.lookup x=some c->c≠X.env.locals:=λx c e z=>by
 obtain⟨v,o,ho,hd⟩:=I.cell x c e;obtain⟨m,⟨o',es,ep,ho',hd',_⟩,_⟩:=I.loc;rw[z,ho']at ho;cases ho;rw[hd']at hd;cases hd
def Inv.gA (I:Inv X Y U H s):s.heap.FunFrames X.base X.outer:=by
 have all:∀ (l:List Env),(∀ b ∈ kc l,b ∈ X.fs)->X.s₀.heap.FunFrames X.base l->s.heap.FunFrames X.base l:=by
  intro l
  induction l with
  |nil=>intro _ _;trivial
  |cons env r ih=>
   intro hs hl;obtain⟨hk,⟨L,o,hf,hn,ho,hd⟩,hr⟩:=hl;have hL:L ∈ X.fs:=hs L (by unfold kc;rw[filterMap_cons,hf];exact le);obtain⟨sl,e⟩:=I.base.slot L o ho (I.ok.frf L hL) hL λz=>I.ok.exfs L z hL
   exact⟨hk,⟨L,_,hf,hn,e,hd⟩,ih (λb hb=>hs b (by unfold kc;rw[filterMap_cons,hf];exact dl _ hb)) hr⟩
 exact all X.outer (λ_ hb=>hb) I.ok.gA
def Inv.stack (I:Inv X Y U H s):s.heap.FunFrames X.base X.stack:=by
 rcases I.ok.stk with e|⟨e,hf⟩
 .rw[e];exact I.gA
 .rw[e];obtain⟨m,hn,_⟩:=I.loc;refine .cons (by rw[I.ok.kind];decide) hf hn ?_ I.gA;exact Heap.get?_none_of_le (Nat.le_trans I.ok.bsz I.ok.above)
def Inv.gG (I:Inv X Y U H s):∀ b ∈ kc X.stack,b ∈ X.env.locals::X.fs:=λb hb=>by
 rcases I.ok.stk with e|⟨e,hf⟩
 .rw[e]at hb;exact dl _ hb
 .rw[e]at hb;unfold kc at hb;rw[filterMap_cons,hf]at hb;exact hb
def Inv.kR (I:Inv X Y U H s):∀ b ∈ kc X.stack,H b=none:=λb hb=>by
 rcases lf.mp (I.gG b hb) with e|hb
 .rw[e];exact I.free
 .obtain⟨_,o,ho,_⟩:=I.ok.gA.mem hb;exact I.base.free b o ho (I.ok.frf b hb) λz=>I.ok.exfs b z hb
def Inv.step {t':Nat}{d':Drawn}(I:Inv X Y U H s)
  (hch:∀ b ∈ ch,(b ∈ X.ex\/X.s₀.heap.objs.size<=b)/\b≠X.env.locals/\(∀ x c,X.env.cells.lookup x=some c->c≠b)/\∀ p ∈ X.pn++Y,p.1≠b)
  (keep:∀ b o,b≠X.env.locals->b ∉ X.fs->b ∉ ch->s.heap.get? b=some o->H b=none->h'.get? b=some o)
  (slot:∀ b o,b≠X.env.locals->b ∈ X.fs->b ∉ ch->s.heap.get? b=some o->H b=none->∃ sl,h'.get? b=some { o with slots:=sl }) (free:∀ b o,b ∉ ch->s.heap.get? b=some o->H b=none->H' b=none)
  (there:∀ b o,b ∉ ch->s.heap.get? b=some o->∃ o',h'.get? b=some o')
  (tups:∀ b xs,H b=some (.tup xs)->H' b=some (.tup xs)) (frzs:∀ b u,Fix u->H b=some u->H' b=some u) (tbls:∀ b ps,H b=some (.tbl ps)->∃ more,H' b=some (.tbl (ps++more)))
  (ns:∀ m,s.heap.Ns X.env.locals m->h'.Ns X.env.locals m) (hok:eK X.prog X.w H' h') (hg:AllBare g'):
  Inv X Y U H' { s with heap:=h',gens:=g',drawn:=d',toks:=t' }:=by
 have neL:∀ b o,X.s₀.heap.get? b=some o->b≠X.env.locals:=λb o e=>nw (mo (tz e) I.ok.above)
 have neC:∀ b o,X.s₀.heap.get? b=some o->b ∉ X.ex->b ∉ ch:=λb o e hx hb=>by
  rcases(hch b hb).1 with z|z
  .exact hx z
  .exact absurd (mo (tz e) z) (Nat.lt_irrefl _)
 have cellK:∀ x c,X.env.cells.lookup x=some c->∀ v,s.heap.IsCell c v->h'.IsCell c v:=λx c e v ⟨o,ho,hd⟩=>by
  have nch:c ∉ ch:=λz=>(hch c z).2.2.1 x c e rfl
  by_cases hc:c ∈ X.fs
  .obtain⟨sl,q⟩:=slot c o (I.tS x c e) hc nch ho (I.freeC x c e);exact⟨_,q,hd⟩
  .exact⟨o,keep c o (I.tS x c e) hc nch ho (I.freeC x c e),hd⟩
 refine⟨I.ok,I.os,hg,⟨λb o e n hb hx=>?_,λb o e n hb hx=>?_,λb o e n hx=>?_,λb o e hx=>?_,λb xs e=>tups b xs (I.base.tups b xs e),λb o xs e=>frzs b o xs (I.base.frzs b o xs e),λb ps e=>?_⟩,?_,λx c e=>?_,?_,λx c e=>?_,λp hp=>?_,hok,I.len⟩
 .exact keep b o (neL b o e) hb (neC b o e hx) (I.base.keep b o e n hb hx) (I.base.free b o e n hx)
 .obtain⟨sl,e1⟩:=I.base.slot b o e n hb hx;obtain⟨sl',e2⟩:=slot b _ (neL b o e) hb (neC b o e hx) e1 (I.base.free b o e n hx);exact⟨sl',e2⟩
 .obtain⟨o',e1⟩:=I.base.there b o e hx;exact free b o' (neC b o e hx) e1 (I.base.free b o e n hx)
 .obtain⟨o',e1⟩:=I.base.there b o e hx;exact there b o' (neC b o e hx) e1
 .obtain⟨m1,e1⟩:=I.base.tbls b ps e;obtain⟨m2,e2⟩:=tbls b _ e1;exact⟨m1++m2,by rw[e2,Array.append_assoc]⟩
 .obtain⟨m,hn,hl⟩:=I.loc;refine⟨m,ns m hn,λi x v e1 e2 e3=>?_⟩;obtain⟨u,r,l⟩:=hl i x v e1 e2 e3;refine⟨u,r,?_⟩;rcases l with l|⟨k,c,e,z⟩
  .exact .inl l
  .exact .inr ⟨k,c,e,cellK x c e _ z⟩
 .obtain⟨v,z⟩:=I.cell x c e;exact⟨v,cellK x c e v z⟩
 .obtain⟨m,⟨o,_,_,ho,_⟩,_⟩:=I.loc;exact free _ o (λz=>(hch _ z).2.1 rfl) ho I.free
 .obtain⟨v,o,ho,hd⟩:=I.cell x c e;exact free c o (λz=>(hch c z).2.2.1 x c e rfl) ho (I.freeC x c e)
 .obtain⟨e,n,ne,nf,d⟩:=I.pin p hp;have nch:p.1 ∉ ch:=λz=>(hch p.1 z).2.2.2 p hp rfl
  exact⟨keep p.1 p.2 ne nf nch e n,free p.1 p.2 nch e n,ne,nf,d⟩
def Inv.un {t':Nat}(I:Inv X Y U H s)(u:Un X.fs [] H H' s.heap h')(hok:eK X.prog X.w H' h'):Inv X Y U H' { s with heap:=h',toks:=t' }:=by
 obtain⟨m,⟨o,es,ep,ho,r⟩,_⟩:=id I.loc;obtain⟨sl,hL⟩:=u.any ho I.free (by simp);exact I.step (g':=s.gens) (d':=s.drawn) (ch:=[]) (λ_ z=>nomatch z) (λb o _ hb _ e n=>u.keep b o e n hb (by simp)) (λb o _ hb _ e n=>u.slot b o e n hb (by simp)) (λb o _ e n=>u.free b o e n (by simp)) (λb o _ e=>u.there b o e (by simp)) u.tups u.frzs u.tbls (λm' hm=>by
  obtain⟨o',es',ep',ho',r'⟩:=hm;rw[ho]at ho';cases ho';exact⟨_,es',ep',hL,r'⟩) hok I.bare
def Inv.call {t':Nat}{d':Drawn}(I:Inv X Y U H s)(u:Un (kc X.stack) ch H H' s.heap h')(hok:eK X.prog X.w H' h')(hg:AllBare g')
  (hch:∀ b ∈ ch,(b ∈ X.ex\/X.s₀.heap.objs.size<=b)/\b≠X.env.locals/\(∀ x c,X.env.cells.lookup x=some c->c≠b)/\∀ p ∈ X.pn++Y,p.1≠b):
  Inv X Y U H' { s with heap:=h',gens:=g',drawn:=d',toks:=t' }:=by
 obtain⟨m,⟨o,es,ep,ho,r⟩,_⟩:=id I.loc;obtain⟨sl,hL⟩:=u.any ho I.free λz=>(hch _ z).2.1 rfl
 exact I.step (ch:=ch) hch (λb o hL hb hc e n=>u.keep b o e n (λz=>(lf.mp (I.gG b z)).elim hL hb) hc) (λb o _ _ hc e n=>u.any e n hc) (λb o hc e n=>u.free b o e n hc) (λb o hc e=>u.there b o e hc) u.tups u.frzs u.tbls (λm' hm=>by
  obtain⟨o',es',ep',ho',r'⟩:=hm;rw[ho]at ho';cases ho';exact⟨_,es',ep',hL,r'⟩) hok hg
def Inv.turned {t':Nat}{it:Addr}(I:Inv X Y U H s)(k:∀ b o,b≠it->s.heap.get? b=some o->h'.get? b=some o) (hn:H it=none) (hL:it≠X.env.locals)
  (h1:it ∈ X.ex\/X.s₀.heap.objs.size<=it) (h2:∀ x c,X.env.cells.lookup x=some c->c≠it) (h3:∀ p ∈ X.pn++Y,p.1≠it):Inv X Y U H { s with heap:=h',toks:=t' }:=by
 have nit:∀ b u,H b=some u->b≠it:=λb u e z=>by rw[z,hn]at e;cases e
 refine I.step (g':=s.gens) (d':=s.drawn) (ch:=[it]) (λb hb=>?_) (λb o _ _ hc e _=>k b o (λz=>hc (by simp[z])) e) (λb o _ _ hc e _=>⟨o.slots,k b o (λz=>hc (by simp[z])) e⟩) (λ_ _ _ _ n=>n)
  (λb o hc e=>⟨o,k b o (λz=>hc (by simp[z])) e⟩) (λ_ _ e=>e) (λ_ _ _ e=>e) (λb ps e=>⟨#[],by rw[e];simp⟩) (λm hm=>?_) (λb u e=>?_) I.bare
 .have e:b=it:=by simpa using hb
  subst e;exact⟨h1,hL,h2,h3⟩
 .obtain⟨o,es,ep,ho,r⟩:=hm;exact⟨o,es,ep,k _ o (Ne.symm hL) ho,r⟩
 .refine(I.hok b u e).de (λc v hc q=>k c v ?_ q) (λ_ q=>q) λ_ _ q=>q
  rcases hc with z|z
  .rw[z];exact nit b u e
  .exact nit c _ z
def Inv.tok (I:Inv X Y U H s)(t:Nat):Inv X Y U H { s with toks:=t }:=I.un (h':=s.heap) (t':=t) Un.refl I.hok
def Inv.kept {t':Nat}(I:Inv X Y U H s)(k:∀ b u,s.heap.get? b=some u->h'.get? b=some u):Inv X Y U H { s with heap:=h',toks:=t' }:=I.un (Un.kept k) (I.hok.kept k)
def Inv.laid {t':Nat}(I:Inv X Y U H s)(k:∀ b u,s.heap.get? b=some u->h'.get? b=some u) (hp:s.heap.objs.size<=a) (new:av X.prog X.w (upd H a o) h' a o):
  Inv X Y U (upd H a o) { s with heap:=h',toks:=t' }:=I.un (Un.laid k hp (I.hok.fresh hp)) (I.hok.laid k hp new)
def Inv.write {x e:Addr}{t':Nat}(I:Inv X Y U H s)(mu:C5 (H x))(he:e=x\/H e=some (.own x))(k:∀ b u,b≠e->s.heap.get? b=some u->h'.get? b=some u) (heo:∃ u,h'.get? e=some u)
  (new:av X.prog X.w (upd H x o) h' x o):Inv X Y U (upd H x o) { s with heap:=h',toks:=t' }:=I.un (Un.write mu he k heo) (I.hok.write mu he k heo new)
def Inv.kI {pins':HN}(I:Inv X Y U H s)(h:∀ p ∈ pins',s.heap.get? p.1=some p.2/\H p.1=none/\p.1≠X.env.locals/\p.1 ∉ X.fs/\∀ v,p.2.data≠.cell v):Inv X pins' U H s:=
 ⟨I.ok,I.os,I.bare,I.base,I.loc,I.cell,I.free,I.freeC,λp hp=>(mem_append.mp hp).elim (λz=>I.pin p (mem_append_left _ z)) (h p),I.hok,I.len⟩
def iN {N:List Str}(hN:N.Nodup){j:Nat}(a:N[i]? =some x)(b:N[j]? =some x):i=j:=by
 obtain⟨h1,e1⟩:=sw.mp a;obtain⟨h2,e2⟩:=sw.mp b;exact(List.getElem_inj hN).mp (e1.trans e2.symm)
variable {Q:HL}
def jF (I:Inv X Y U H s)(hN:X.N.Nodup)(hi:X.N[i]? =some x)(hx:Loc X.env.scope x)(r:RelV v u)
  (h:∀ s',Inv X Y (U.set i (some v)) H s'->(∃ a,Heap.SameBut a s.heap s'.heap/\(a=X.env.locals\/X.env.cells.lookup x=some a))->Q () s') (hf:X.fn x=true\/X.env.scope.names.lookup x=some .local:=by first|exact .inl rfl|exact .inr rfl|assumption):wpAny M A (storeName X.env x u) Q E s:=by
 obtain⟨m,hn,hl⟩:=id I.loc;have hcls:(X.env.scope.kind ==.class||(X.env.scope.kind ==.module&&X.env.locals != X.env.globals))=false:=by rw[I.ok.kind];rfl
 have hiσ:i<U.length:=by rw[I.len];exact(sw.mp hi).1
 have tS:=I.tS;have tracked:∀ {a:Addr}{h':Heap},(∃ o,s.heap.get? a=some o/\H a=none)->Heap.SameBut a s.heap h'->eK X.prog X.w H h':=λ{a h'} ha hs b ob e=>by
  obtain⟨_,_,hfree⟩:=ha;refine(I.hok b ob e).de (λc w' hc q=>(hs.2 c ?_).trans q) (λ_ q=>q) λ_ _ q=>q
  rintro rfl;rcases hc with rfl|hc
  .rw[hfree]at e;cases e
  .rw[hfree]at hc;cases hc
 rcases hx with hk|hk
 .refine wpAny_storeName_local hk hn (λh' hn' hs=>?_) hcls;obtain⟨oL,_,_,hoL,_⟩:=id hn;refine h _ ⟨I.ok,I.os,I.bare,⟨λb o e n hb hx=>?_,λb o e n hb hx=>?_,I.base.free,λb o e hx=>?_,I.base.tups,I.base.frzs,I.base.tbls⟩,⟨_,hn',λj y v' e1 e2 e3=>?_⟩,λy c e=>?_,I.free,I.freeC,λp hp=>?_,tracked ⟨oL,hoL,I.free⟩ hs,by simpa using I.len⟩ ⟨_,hs,.inl rfl⟩
  .exact(hs.2 b (nw (mo (tz e) I.ok.above))).trans (I.base.keep b o e n hb hx)
  .obtain⟨sl,e1⟩:=I.base.slot b o e n hb hx;exact⟨sl,(hs.2 b (nw (mo (tz e) I.ok.above))).trans e1⟩
  .obtain⟨o',e1⟩:=I.base.there b o e hx;exact⟨o',(hs.2 b (nw (mo (tz e) I.ok.above))).trans e1⟩
  .by_cases hj:j=i
   .subst hj;rw[hi]at e1;cases e1;rw[getElem?_set_self hiσ]at e2;cases e2;exact⟨u,r,.inl ⟨hk,by simp⟩⟩
   .rw[getElem?_set_ne (Ne.symm hj)]at e2;obtain⟨u',r',q⟩:=hl j y v' e1 e2 e3;refine⟨u',r',?_⟩;rcases q with⟨k,e⟩|⟨k,c,e,z⟩
    .refine .inl ⟨k,?_⟩;have:y≠x:=λe=>hj (iN hN e1 (e▸hi))
     simp[this,e]
    .exact .inr ⟨k,c,e,z.sameBut hs (tS y c e)⟩
  .obtain⟨w',z⟩:=I.cell y c e;exact⟨w',z.sameBut hs (tS y c e)⟩
  .obtain⟨e,n,ne,nf,d⟩:=I.pin p hp;exact⟨(hs.2 p.1 ne).trans e,n,ne,nf,d⟩
 .have hfn:X.fn x=true:=by
   rcases hf with z|z
   .exact z
   .rw[z]at hk;cases hk
  obtain⟨c,hc⟩:=I.ok.has x (.inl hk);obtain⟨w',z⟩:=I.cell x c hc;refine wpAny_storeName_cell I.ok.kind hk hc z (λh' hc' hs=>?_);obtain⟨oc,hoc,hocd⟩:=id z;refine h { s with heap:=h' } ⟨I.ok,I.os,I.bare,⟨λb o e n hb hx=>?_,λb o e n hb hx=>?_,I.base.free,λb o e hx=>?_,I.base.tups,I.base.frzs,I.base.tbls⟩,⟨m,hn.sameBut hs (Ne.symm (tS x c hc)),λj y v' e1 e2 e3=>?_⟩,λy c' e=>?_,I.free,I.freeC,λp hp=>?_,tracked ⟨oc,hoc,I.freeC x c hc⟩ hs,by simpa using I.len⟩ ⟨c,hs,.inr hc⟩
  .exact(hs.2 b (nw (mo (tz e) (I.ok.cab x c hfn hc)))).trans (I.base.keep b o e n hb hx)
  .obtain⟨sl,e1⟩:=I.base.slot b o e n hb hx;exact⟨sl,(hs.2 b (nw (mo (tz e) (I.ok.cab x c hfn hc)))).trans e1⟩
  .obtain⟨o',e1⟩:=I.base.there b o e hx;exact⟨o',(hs.2 b (nw (mo (tz e) (I.ok.cab x c hfn hc)))).trans e1⟩
  .by_cases hj:j=i
   .subst hj;rw[hi]at e1;cases e1;rw[getElem?_set_self hiσ]at e2;cases e2;exact⟨u,r,.inr ⟨.inl hk,c,hc,hc'⟩⟩
   .rw[getElem?_set_ne (Ne.symm hj)]at e2;obtain⟨u',r',q⟩:=hl j y v' e1 e2 e3;refine⟨u',r',?_⟩;rcases q with q|⟨k,c',e,z'⟩
    .exact .inl q
    .refine .inr ⟨k,c',e,z'.sameBut hs ?_⟩;rintro rfl;exact hj (iN hN e1 (I.ok.inj _ _ _ e hc▸hi))
  .by_cases hcc:c'=c
   .subst hcc;exact⟨_,hc'⟩
   .obtain⟨w2,z2⟩:=I.cell y c' e;exact⟨w2,z2.sameBut hs hcc⟩
  .obtain⟨e,n,ne,nf,d⟩:=I.pin p hp;refine⟨(hs.2 p.1 ?_).trans e,n,ne,nf,d⟩;intro q;rw[q,hoc]at e;have q':oc=p.2:=Option.some.inj e;exact d w' (by rw[<-q'];exact hocd)
def bt (I:Inv X Y U H s)(hN:X.N.Nodup)(hi:X.N[i]? =some x)(hx:Loc X.env.scope x)(r:RelV v u)
  (h:∀ s',Inv X Y (U.set i (some v)) H s'->Q () s') (hf:X.fn x=true\/X.env.scope.names.lookup x=some .local:=by first|exact .inl rfl|exact .inr rfl|assumption):wpAny M A (storeName X.env x u) Q E s:=
 jF I hN hi hx r (λs' I' _=>h s' I') hf
def Inv.qC {s':Shared}(I:Inv X Y U H s)(ho:s'.os=s.os)(u:Un (kc X.stack) ch H H' s.heap s'.heap)(hok:eK X.prog X.w H' s'.heap)(hg:AllBare s'.gens)
  (hch:∀ b ∈ ch,(b ∈ X.ex\/X.s₀.heap.objs.size<=b)/\b≠X.env.locals/\(∀ x c,X.env.cells.lookup x=some c->c≠b)/\∀ p ∈ X.pn++Y,p.1≠b):Inv X Y U H' s':=by
 obtain⟨h',g',d',t',o'⟩:=s';have e:o'=s.os:=ho;subst e;exact I.call (g':=g') (t':=t') (d':=d') u hok hg hch
end
@[reducible]def XK:=Addr->Hp->Prop
@[reducible]def St:=List (Option V)
@[reducible]def VK:=V->Hp->Prop
@[reducible]def TE:=St->Hp->VK->Prop
@[reducible]def TT:=St->Hp->(Bool->Hp->Prop)->Prop
@[reducible]def TA:=St->Hp->(List V->Hp->Prop)->Prop
structure Ends where
 nx:St->Hp->Prop
 rt:VK
 bk:St->Hp->Prop:=λ_ _=>False
 ct:St->Hp->Prop:=λ_ _=>False
@[reducible]def TS:=Ends->St->Hp->Prop
abbrev EP (X:Cx)(Y:HN)(U:St)(Q:VK)(u:Value)(s':Shared):Prop:=∃ v H',Inv X Y U H' s'/\RelV v u/\Q v H'
abbrev TP (X:Cx)(Y:HN)(U:St)(Q:Bool->Hp->Prop)(b:Bool)(s':Shared):Prop:=∃ H',Inv X Y U H' s'/\Q b H'
abbrev AP (X:Cx)(Y:HN)(U:St)(Q:List V->Hp->Prop)(us:List Value)(s':Shared):Prop:=∃ vs H',Inv X Y U H' s'/\Vals vs us/\Q vs H'
abbrev SP (X:Cx)(Y:HN)(D:Ends)(f:Flow)(s':Shared):Prop:=
 match f with
 | .next=>∃ σ' H',Inv X Y σ' H' s'/\D.nx σ' H'
 | .brk=>∃ σ' H',Inv X Y σ' H' s'/\D.bk σ' H'
 | .cont=>∃ σ' H',Inv X Y σ' H' s'/\D.ct σ' H'
 | .ret u=>∃ v σ' H',Inv X Y σ' H' s'/\RelV v u/\D.rt v H'
abbrev PE (X:Cx)(e:Expr)(t:TE):Prop:=
 ∀ (Y:HN) (s:Shared) (U:St) (H:Hp) (Q:VK),Inv X Y U H s->t U H Q->wpAny (model X.prog X.w) X.A (eval e X.env) (EP X Y U Q) X.xe s
abbrev PT (X:Cx)(e:Expr)(t:TT):Prop:=
 ∀ (Y:HN) (s:Shared) (U:St) (H:Hp) (Q:Bool->Hp->Prop),Inv X Y U H s->t U H Q->wpAny (model X.prog X.w) X.A (isTrue e X.env (eval e X.env)) (TP X Y U Q) X.xe s
abbrev PW (X:Cx)(e:Expr)(t:TT):Prop:=
 ∀ (whole:Sem Value) (Y:HN) (s:Shared) (U:St) (H:Hp) (Q:Bool->Hp->Prop),Inv X Y U H s->t U H Q->wpAny (model X.prog X.w) X.A (isTrue e X.env whole) (TP X Y U Q) X.xe s
variable {e:Expr}
def PW.pt {X:Cx}{t:TT}(h:PW X e t):PT X e t:=h _
abbrev PA (X:Cx)(es:List Expr)(t:TA):Prop:=
 ∀ (pos:Pos) (Y:HN) (s:Shared) (U:St) (H:Hp) (Q:List V->Hp->Prop),Inv X Y U H s->t U H Q->wpAny (model X.prog X.w) X.A (spliced (backTo pos (bm es X.env))) (AP X Y U Q) X.xe s
abbrev PS (X:Cx)(st:Stmt)(t:TS):Prop:=
 ∀ (Y:HN) (s:Shared) (U:St) (H:Hp) (D:Ends),Inv X Y U H s->t D U H->wpAny (model X.prog X.w) X.A (exec st X.env) (SP X Y D) X.xe s
abbrev zP (X:Cx)(st:List Stmt)(t:TS):Prop:=
 ∀ (Y:HN) (s:Shared) (U:St) (H:Hp) (D:Ends),Inv X Y U H s->t D U H->wpAny (model X.prog X.w) X.A (execs st X.env) (SP X Y D) X.xe s
variable {s:Shared}
def au {α:Type}{t:Sem α}{Q Q':α->Shared->Prop}(h:wpAny M A t Q E s)(hQ:∀ a s,Q a s->Q' a s):wpAny M A t Q' E s:=wpAny_mono h hQ λ_ _ x=>x
variable {Q:HM}{Y:HN}{U:St}
section
variable {X:Cx}
abbrev Fz (i:Nat):TE:=λU H Q=>∃ v,U[i]? =some (some v)/\Q v H
abbrev tC (v:V):TE:=λ_ H Q=>Q v H
def AW {pos:Pos}(hN:X.N[i]? =some x)(hv:Fb X.env.scope x)(hd:(x ==("__debug__":Str))=false:=by decide) (hcd:(x ==("__classdict__":Str))=false:=by decide):PE X (.Name x pos) (Fz i):=by
 intro Y s U H Q I h;obtain⟨v,e,h⟩:=h;obtain⟨m,hn,hl⟩:=I.loc;obtain⟨u,r,l⟩:=hl i x v hN e hv;have fin:EP X Y U Q u s:=⟨v,H,I,r,h⟩;rcases l with⟨hk,hm⟩|⟨hk,c,hc,hcell⟩
 .exact wpAny_Name (wpAny_loadName_local I.ok.kind hk hn hm fin) hd
 .rcases hk with hk|hk
  .exact wpAny_Name (wpAny_loadName_cell I.ok.kind hk hc hcell fin) hd
  .exact wpAny_Name (wpAny_loadName_free I.ok.kind hk hc hcell fin hcd) hd
def B4 {i j pos}:PE X (.Constant (.int i) j pos) (tC (.int i)):=λ_ _ _ H _ I h=>wpAny_Constant_int ⟨.int i,H,I.tok _,⟨_,rfl⟩,h⟩
def EU {b j pos}:PE X (.Constant (.bool b) j pos) (tC (.bl b)):=λ_ _ _ H _ I h=>Constant_bool ⟨.bl b,H,I,rfl,h⟩
def A3 {j pos}:PE X (.Constant .none j pos) (tC .non):=λ_ _ _ H _ I h=>Constant_none ⟨.non,H,I,rfl,h⟩
def vN {x j pos}:PE X (.Constant (.str x) j pos) (tC (.str x)):=λ_ _ _ H _ I h=>Calls.Constant_str ⟨.str x,H,I.tok _,⟨_,rfl⟩,h⟩
abbrev Gl (X:Cx)(x:Str):Prop:=X.env.kindOf x=some .globalImplicit
def bz {pos:Pos}(I:Inv X Y U H s)(hg:Gl X x)(hm:X.mg x=some u)(h:Q u s)
  (hd:(x ==("__debug__":Str))=false:=by decide):wpAny (model X.prog X.w) X.A (eval (.Name x pos) X.env) Q E s:=
 Calls.Name_function_global I.ok.kind hg (Calls.loadGlobal_global (by rw[I.ok.glob];exact I.mod.glob.keeps I.bk) hm h) hd
def dA {pos:Pos}(I:Inv X Y U H s)(hg:Gl X x)(hm:X.mg x=none)(hv:bootBuiltins x=some u)(h:Q u s)
  (hn:x≠"__name__":=by decide) (hd:(x ==("__debug__":Str))=false:=by decide):wpAny (model X.prog X.w) X.A (eval (.Name x pos) X.env) Q E s:=by
 obtain⟨mb,h1,h2⟩:=I.mod.blt;exact Calls.Name_function_global I.ok.kind hg (Calls.loadGlobal_builtin (by rw[I.ok.glob];exact I.mod.glob.keeps I.bk) hm (by rw[I.ok.blt];exact h1.keeps I.bk) ((h2 x hn).trans hv) h) hd
def km {pos:Pos}(hg:Gl X x)(hm:X.mg x=some u)(r:RelV v u)(hd:(x ==("__debug__":Str))=false:=by decide):PE X (.Name x pos) (tC v):=
 λ_ _ _ H _ I h=>bz I hg hm ⟨v,H,I,r,h⟩ hd
def zy {pos:Pos}(hg:Gl X x)(hm:X.mg x=none)(hv:bootBuiltins x=some u)(r:RelV v u)(hn:x≠"__name__":=by decide) (hd:(x ==("__debug__":Str))=false:=by decide):PE X (.Name x pos) (tC v):=
 λ_ _ _ H _ I h=>dA I hg hm hv ⟨v,H,I,r,h⟩ hn hd
variable {a b:Expr}{ta tb:TE}{pos:Pos}
variable {tA tB':TT}{rest:List Expr}
abbrev Gn (t u:TT):TT:=λU H Q=>t U H λc H1=>if c=true then u U H1 Q else Q false H1
abbrev G4 (t u:TT):TT:=λU H Q=>t U H λc H1=>if c=true then Q true H1 else u U H1 Q
abbrev Gh (t:TT):TT:=λU H Q=>t U H λc H1=>Q (!c) H1
def y9 (ha:PT X a tA):PW X (.BoolOp .And [a] pos) tA:=by
 intro wh Y s U H Q I h;refine isTrue_and (au (ha Y s U H Q I h) λc s1 e=>?_);cases c with
 |true=>exact isTrue_and_nil e
 |false=>exact e
def Bc (ha:PT X a tA):PW X (.BoolOp .Or [a] pos) tA:=by
 intro wh Y s U H Q I h;refine isTrue_or (au (ha Y s U H Q I h) λc s1 e=>?_);cases c with
 |false=>exact isTrue_or_nil e
 |true=>exact e
def AU (ha:PT X a tA)(hb:PW X (.BoolOp .And (b::rest) pos) tB'):PW X (.BoolOp .And (a::b::rest) pos) (Gn tA tB'):=by
 intro wh Y s U H Q I h;refine isTrue_and (au (ha Y s U H _ I h) λc s1 ⟨H1,I1,q1⟩=>?_);cases c with
 |true=>exact hb wh Y s1 U H1 Q I1 q1
 |false=>exact⟨H1,I1,q1⟩
def D3 (ha:PT X a tA)(hb:PW X (.BoolOp .Or (b::rest) pos) tB'):PW X (.BoolOp .Or (a::b::rest) pos) (G4 tA tB'):=by
 intro wh Y s U H Q I h;refine isTrue_or (au (ha Y s U H _ I h) λc s1 ⟨H1,I1,q1⟩=>?_);cases c with
 |true=>exact⟨H1,I1,q1⟩
 |false=>exact hb wh Y s1 U H1 Q I1 q1
def Ck (ha:PT X a tA):PT X (.UnaryOp .Not a pos) (Gh tA):=by
 intro Y s U H Q I h;exact isTrue_not (ha Y s U H (λc H1=>Q (!c) H1) I h)
abbrev DU (ta tb:TE):TE:=λU H Q=>ta U H λx H1=>∃ c,x=.bl c/\if c=true then tb U H1 Q else Q (.bl false) H1
abbrev Fj (ta tb:TE):TE:=λU H Q=>ta U H λx H1=>∃ c,x=.bl c/\if c=true then Q (.bl true) H1 else tb U H1 Q
abbrev Es (ta:TE):TE:=λU H Q=>ta U H λx H1=>∃ c,x=.bl c/\Q (.bl (!c)) H1
def uM {op}{t:TE}(h:PE X a t):PE X (.BoolOp op [a] pos) t:=λY s U H Q I hw=>BoolOp_one (h Y s U H Q I hw)
def Cw (ha:PE X a ta)(hb:PE X (.BoolOp .And (b::rest) pos) tb):PE X (.BoolOp .And (a::b::rest) pos) (DU ta tb):=by
 intro Y s U H Q I h;refine BoolOp_and (au (ha Y s U H _ I h) λv s1 ⟨x,H1,I1,r1,q1⟩=>?_);obtain⟨c,rfl,q1⟩:=q1;cases r1;refine bi ?_;cases c with
 |true=>exact hb Y s1 U H1 Q I1 q1
 |false=>exact⟨.bl false,H1,I1,rfl,q1⟩
def EA (ha:PE X a ta)(hb:PE X (.BoolOp .Or (b::rest) pos) tb):PE X (.BoolOp .Or (a::b::rest) pos) (Fj ta tb):=by
 intro Y s U H Q I h;refine BoolOp_or (au (ha Y s U H _ I h) λv s1 ⟨x,H1,I1,r1,q1⟩=>?_);obtain⟨c,rfl,q1⟩:=q1;cases r1;refine bi ?_;cases c with
 |false=>exact hb Y s1 U H1 Q I1 q1
 |true=>exact⟨.bl true,H1,I1,rfl,q1⟩
def BB (ha:PE X a ta):PE X (.UnaryOp .Not a pos) (Es ta):=by
 intro Y s U H Q I h;refine UnaryOp_ (au (ha Y s U H _ I h) λv s1 ⟨x,H1,I1,r1,q1⟩=>?_);obtain⟨c,rfl,q1⟩:=q1;cases r1;exact not_of (bi ⟨.bl (!c),H1,I1,rfl,q1⟩)
abbrev G5 (t:TT)(ta tb:TE):TE:=λU H Q=>t U H λc H1=>if c=true then ta U H1 Q else tb U H1 Q
def tP {c:Expr}(hc:PT X c tA)(ha:PE X a ta)(hb:PE X b tb):PE X (.IfExp c a b pos) (G5 tA ta tb):=by
 intro Y s U H Q I h;refine wpAny_IfExp (au (hc Y s U H _ I h) λd s1 ⟨H1,I1,q1⟩=>?_);cases d with
 |true=>exact ha Y s1 U H1 Q I1 q1
 |false=>exact hb Y s1 U H1 Q I1 q1
end
abbrev aL (K:W.Frag)(H:Hp)(a:Addr)(xs:List V):Prop:=
 Rd H a (.lst xs)\/
  ∃ (o:Obj) (its:Array Value) (n:Nat),K.lookup a=some o/\o.cls=.type "list"/\o.dict=none/\o.data=.seq its n/\its.size<=bn/\Vals xs its.toList
abbrev aY (K:W.Frag)(H:Hp)(a:Addr)(xs:List V):Prop:=
 Rd H a (.tup xs)\/
  ∃ (o:Obj) (its:Array Value) (n:Nat),K.lookup a=some o/\o.cls=.type "tuple"/\o.data=.seq its n/\its.size<=bn/\Vals xs its.toList
abbrev uI:Value->Option V
 | .none=>some .non
 | .bool b=>some (.bl b)
 | .int i _=>some (.int i)
 | .str x _=>some (.str x)
 | .bytes b _=>some (.byt b)
 | .float b _=>some (.flt b)
 | .ref a=>some (.ref a)
 | .type n=>some (.ty n)
 |_=>none
def RelV.abs {x:V}(r:RelV x u):uI u=some x:=by
 cases x with
 |non=>cases r;rfl
 |bl _=>cases r;rfl
 |int _=>obtain⟨t,rfl⟩:=r;rfl
 |str _=>obtain⟨t,rfl⟩:=r;rfl
 |byt _=>obtain⟨t,rfl⟩:=r;rfl
 |flt _=>obtain⟨t,rfl⟩:=r;rfl
 |ref _=>cases r;rfl
 |ty _=>cases r;rfl
def RelV.inj {x y:V}(r:RelV x u)(q:RelV y u):x=y:=Option.some.inj (r.abs.symm.trans q.abs)
def Vals.inj:∀ {xs ys:List V}{us:List Value},Vals xs us->Vals ys us->xs=ys
 |_,_,_,.nil,.nil=>rfl
 |_,_,_,.cons r t,.cons r' t'=>by rw[r.inj r',Vals.inj t t']
variable {K:W.Frag}
section
variable {X:Cx}{Y:HN}{U:St}{H:Hp}{s:Shared}{a:Addr}{xs ys:List V}
def aL.of (h:H a=some (.lst xs)):aL K H a xs:=.inl (.inl h)
def aY.of (h:H a=some (.tup xs)):aY K H a xs:=.inl (.inl h)
def Inv.list (I:Inv X Y U H s)(h:aL X.K H a xs):∃ its:List Value,Vals xs its/\PlainL s.heap a its.toArray/\xs.length<=bn:=by
 rcases h with h|⟨o,its,n,hk,hc,hd,hs,hz,r⟩
 .obtain⟨z,its,n,r,e⟩:=h.ok I.hok;exact⟨its,r,⟨_,n,e,rfl,rfl,rfl⟩,z⟩
 .refine⟨its.toList,r,⟨o,n,I.bK a o hk,hc,hd,by simpa using hs⟩,?_⟩;have e:=r.length;simp only[Array.length_toList]at e
  omega
def Inv.tuple (I:Inv X Y U H s)(h:aY X.K H a xs):∃ its:List Value,Vals xs its/\IsTup s.heap a its.toArray/\xs.length<=bn:=by
 rcases h with h|⟨o,its,n,hk,hc,hs,hz,r⟩
 .obtain⟨z,its,r,p⟩:=h.ok I.hok;exact⟨its,r,p,z⟩
 .refine⟨its.toList,r,⟨o,I.bK a o hk,hc,n,by simpa using hs⟩,?_⟩;have e:=r.length;simp only[Array.length_toList]at e
  omega
def Inv.di (I:Inv X Y U H s)(h:aL X.K H a xs)(h':aL X.K H a ys):xs=ys:=by
 obtain⟨its,r,⟨o,n,e,_,_,d⟩,_⟩:=I.list h;obtain⟨its',r',⟨o',n',e',_,_,d'⟩,_⟩:=I.list h';rw[e]at e';cases e';rw[d]at d'
 injection d' with d1 _
 have:its=its':=by simpa using congrArg Array.toList d1
 subst this;exact r.inj r'
def Inv.dU (I:Inv X Y U H s)(h:aY X.K H a xs)(h':aY X.K H a ys):xs=ys:=by
 obtain⟨its,r,⟨o,e,_,n,d⟩,_⟩:=I.tuple h;obtain⟨its',r',⟨o',e',_,n',d'⟩,_⟩:=I.tuple h';rw[e]at e';cases e';rw[d]at d'
 injection d' with d1 _
 have:its=its':=by simpa using congrArg Array.toList d1
 subst this;exact r.inj r'
end
section
variable {X:Cx}{Y:HN}{U:St}{H:Hp}{s:Shared}{E:HM}
end
section
variable {X:Cx}{st:Stmt}{rest:List Stmt}{t u:TS}{e:Expr}{te:TE}{pos:Pos}
abbrev DB:TS:=λD U H=>D.nx U H
abbrev FA (t u:TS):TS:=λD U H=>t { D with nx:=u D } U H
def xK:zP X [] DB:=λ_ _ U H _ I h=>wpAny_execs_nil ⟨U,H,I,h⟩
def tY (h1:PS X st t)(h2:zP X rest u):zP X (st::rest) (FA t u):=by
 intro Y s U H D I h;refine wpAny_execs_cons (au (h1 Y s U H { D with nx:=u D } I h) λf s1 q=>?_);cases f with
 |next=>
  obtain⟨σ',H',I',q⟩:=q;exact h2 Y s1 σ' H' D I' q
 |ret v=>exact q
 |brk=>exact q
 |cont=>exact q
def Inv.quiet (I:Inv X Y U H s):interactive X.env=false:=by simp[interactive,I.ok.kind]
abbrev Dj (te:TE):TS:=λD U H=>te U H λ_ H1=>D.nx U H1
def wY (he:PE X e te)(hs:swapsWith e none pos.line X.env=pure false:=by rfl):PS X (.Expr e pos) (Dj te):=by
 intro Y s U H D I h;exact wpAny_Expr_any (au (he Y s U H _ I h) λv s1 ⟨x,H1,I1,r1,q1⟩=>⟨U,H1,I1,q1⟩) I.quiet hs
abbrev Gb (te:TE):TS:=λD U H=>te U H D.rt
def A1 (he:PE X e te):PS X (.Return (some e) pos) (Gb te):=by
 intro Y s U H D I h;exact wpAny_Return_some (au (he Y s U H _ I h) λv s1 ⟨x,H1,I1,r1,q1⟩=>⟨x,U,H1,I1,r1,q1⟩)
abbrev F5 (c:TT)(t u:TS):TS:=λD U H=>c U H λb H1=>if b=true then t D U H1 else u D U H1
def Ei {c:Expr}{a b:List Stmt}{tc:TT}(hc:PT X c tc)(ha:zP X a t)(hb:zP X b u):PS X (.If c a b pos) (F5 tc t u):=by
 intro Y s U H D I h;refine wpAny_If (au (hc Y s U H _ I h) λd s1 ⟨H1,I1,q1⟩=>?_);cases d with
 |true=>exact ha Y s1 U H1 D I1 q1
 |false=>exact hb Y s1 U H1 D I1 q1
end
@[reducible]def TG:=V->St->Hp->(St->Hp->Prop)->Prop
@[reducible]def w9:=List V->St->Hp->(St->Hp->Prop)->Prop
abbrev PG (X:Cx)(target:Expr)(t:TG):Prop:=
 ∀ (Y:HN) (s:Shared) (U:St) (H:Hp) (v:V) (u:Value) (Q:St->Hp->Prop),Inv X Y U H s->RelV v u->t v U H Q->
  wpAny (model X.prog X.w) X.A (assign target X.env u) (λ_ s'=>∃ σ' H',Inv X Y σ' H' s'/\Q σ' H') X.xe s
abbrev BV (X:Cx)(ts:List Expr)(t:w9):Prop:=
 ∀ (Y:HN) (s:Shared) (U:St) (H:Hp) (vs:List V) (us:List Value) (Q:St->Hp->Prop),Inv X Y U H s->Vals vs us->t vs U H Q->
  wpAny (model X.prog X.w) X.A (assignInOrder ((assignEach ts X.env).map (·.2)) us) (λ_ s'=>∃ σ' H',Inv X Y σ' H' s'/\Q σ' H') X.xe s
@[reducible]def rX:=V->V->V->Hp->(Hp->Prop)->Prop
abbrev xt (X:Cx)(t:rX):Prop:=
 ∀ (Y:HN) (s:Shared) (U:St) (H:Hp) (o i v:V) (ov iv u:Value) (Q:Hp->Prop),Inv X Y U H s->RelV o ov->RelV i iv->RelV v u->t o i v H Q->
  wpAny (model X.prog X.w) X.A (setItem ov iv u) (λ_ s'=>∃ H',Inv X Y U H' s'/\Q H') X.xe s
@[reducible]def Fd:=V->V->Hp->VK->Prop
abbrev Fe (X:Cx)(op:Operator)(t:Fd):Prop:=
 ∀ (Y:HN) (s:Shared) (U:St) (H:Hp) (x y:V) (v u:Value) (Q:VK),Inv X Y U H s->RelV x v->RelV y u->t x y H Q->
  wpAny (model X.prog X.w) X.A (inplaceOp op v u) (EP X Y U Q) X.xe s
variable {es:List Expr}{k:Nat}{tg:Expr}{te:TE}
section
variable {X:Cx}{pos:Pos}
abbrev fh (i:Nat):TG:=λv U H Q=>Q (U.set i (some v)) H
def fH (hN:X.N.Nodup)(hi:X.N[i]? =some x)(hx:Loc X.env.scope x)(hf:X.fn x=true\/X.env.scope.names.lookup x=some .local:=by first|exact .inl rfl|exact .inr rfl|assumption):PG X (.Name x pos) (fh i):=by
 intro Y s U H v u Q I r h;exact wpAny_assign_Name (bt I hN hi hx r (λs' I'=>⟨_,H,I',h⟩) hf)
abbrev FG:w9:=λvs U H Q=>vs=[]/\Q U H
abbrev Dh (t:TG)(u:w9):w9:=λvs U H Q=>∃ v r,vs=v::r/\t v U H λσ' H'=>u r σ' H' Q
def kS:BV X [] FG:=by
 intro Y s U H vs us Q I r h;obtain⟨e,h⟩:=h;subst e;cases r;exact assignInOrder_nil ⟨U,H,I,h⟩
def fB {t:TG}{u:w9}(h1:PG X e t)(h2:BV X es u)
  (hs:(assignEach (e::es) X.env).map (·.2)=assign e X.env::(assignEach es X.env).map (·.2):=by rfl):BV X (e::es) (Dh t u):=by
 intro Y s U H vs us Q I r h;obtain⟨v,vr,e1,h⟩:=h;subst e1;cases r with
 |cons r rr=>
  rw[hs];refine assignInOrder_cons (au (h1 Y s U H _ _ _ I r h) λ_ s1 ⟨σ1,H1,I1,q1⟩=>?_);exact h2 Y s1 σ1 H1 _ _ Q I1 rr q1
abbrev zD (K:W.Frag)(n:Nat)(t:w9):TG:=λv U H Q=>∃ a xs,v=.ref a/\aY K H a xs/\xs.length=n/\t xs U H Q
def kD {t:w9}{n:Nat}(hc:X.calm=true)(h:BV X es t)
  (hn:(assignEach es X.env).length=n:=by rfl) (hst:(assignEach es X.env).findIdx? (·.1)=none:=by rfl):PG X (.Tuple es k pos) (zD X.K n t):=by
 intro Y s U H v u Q I r hw;obtain⟨a,xs,e1,hq,hl,hw⟩:=hw;subst e1;cases r;obtain⟨its,rv,ht,hz⟩:=I.tuple hq;refine assign_Tuple_tuple (I.ok.hd hc) ht (by simp[hn,<-hl,rv.length]) hst λh' hx=>?_
 have I1:Inv X Y U H { s with heap:=h' }:=I.kept (t':=s.toks) λb o e=>hx b o (nw (tz e)) e
 exact h Y _ U H xs _ Q I1 (by simpa using rv) hw
abbrev FQ (to ti:TE)(t:rX):TG:=λv U H Q=>to U H λo H1=>ti U H1 λi H2=>t o i v H2 λH3=>Q U H3
def Bk {o i:Expr}{to ti:TE}{t:rX}(ho:PE X o to)(hi:PE X i ti)(hs:xt X t)
  (ha:∀ v,assign (.Subscript o i pos) X.env v=(do
   let ov <-holding [v] (eval o X.env)
   let iv <-holding [v,ov] (eval i X.env)
   standAt pos
   holding [v,ov,iv] (setItem ov iv v)
   release [v,ov,iv] []):=by intro _;rfl):PG X (.Subscript o i pos) (FQ to ti t):=by
 intro Y s U H v u Q I r h;rw[ha];refine ad (bd (au (ho Y s U H _ I h) λov s1 ⟨x,H1,I1,r1,q1⟩=>?_));refine ad (bd (au (hi Y s1 U H1 _ I1 q1) λiv s2 ⟨y,H2,I2,r2,q2⟩=>?_));refine ad (wpAny_standAt (ad (bd (au (hs Y s2 U H2 x y v ov iv u _ I2 r1 r2 r q2) λ_ s3 ⟨H3,I3,q3⟩=>?_))));exact wpAny_release ⟨U,H3,I3,q3⟩
abbrev DE (te:TE)(g:TG):TS:=λD U H=>te U H λx H1=>g x U H1 D.nx
def uH {g:TG}(he:PE X e te)(hg:PG X tg g)(hs:swapsWithSole [tg] e pos.line X.env=pure false:=by rfl) (hw:swappedStores [tg] e X.env=pure none:=by rfl)
  (h1:(assignEach [tg] X.env).map (·.2)=[assign tg X.env]:=by rfl):PS X (.Assign [tg] e pos) (DE te g):=by
 intro Y s U H D I h;refine wpAny_Assign_stores (au (he Y s U H _ I h) λv s1 ⟨x,H1,I1,r1,q1⟩=>?_) hs hw;rw[h1];exact au (hg Y s1 U H1 x v _ I1 r1 q1) λ_ s2 q=>q
def uN {pos':Pos}(hN:X.N.Nodup)(hi:X.N[i]? =some x)(hx:Loc X.env.scope x)(he:PE X e te)(hs:swapsWith e (some (.Name x pos')) pos.line X.env=pure false:=by rfl) (hf:X.fn x=true\/X.env.scope.names.lookup x=some .local:=by first|exact .inl rfl|exact .inr rfl|assumption):
  PS X (.Assign [.Name x pos'] e pos) (DE te (fh i)):=by
 intro Y s U H D I h;refine wpAny_Assign_Name (au (he Y s U H _ I h) λv s1 ⟨y,H1,I1,r1,q1⟩=>?_) hs;exact bt I1 hN hi hx r1 (λs2 I2=>⟨_,H1,I2,q1⟩) hf
abbrev EL (to ti te:TE)(tget:V->V->Hp->VK->Prop)(tip:Fd)(tset:rX):TS:=λD U H=>to U H λo H1=>ti U H1 λi H2=>tget o i H2 λx H3=>te U H3 λy H4=>tip x y H4 λz H5=>tset o i z H5 λH6=>D.nx U H6
abbrev Cu (X:Cx)(t:V->V->Hp->VK->Prop):Prop:=
 ∀ (Y:HN) (s:Shared) (U:St) (H:Hp) (o i:V) (ov iv:Value) (Q:VK),Inv X Y U H s->RelV o ov->RelV i iv->t o i H Q->
  wpAny (model X.prog X.w) X.A (getItem ov iv) (EP X Y U Q) X.xe s
def xY {o i:Expr}{to ti:TE}{tget:V->V->Hp->VK->Prop}{tip:Fd}{tset:rX}{op:Operator}{tpos:Pos}(ho:PE X o to)(hi:PE X i ti)(hg:Cu X tget)(he:PE X e te)(hp:Fe X op tip)(hs:xt X tset)
  (ha:∀ ov iv new,augStore i ov iv new=(do holding [new,ov,iv] (setItem ov iv new);release [new,ov,iv] [];pure .next):=by intros;rfl):PS X (.AugAssign (.Subscript o i tpos) op e pos) (EL to ti te tget tip tset):=by
 intro Y s U H D I h;refine wpAny_AugAssign_SubscriptAny (au (ho Y s U H _ I h) λov s1 ⟨x1,H1,I1,r1,q1⟩=>?_) ha;refine au (hi Y s1 U H1 _ I1 q1) λiv s2 ⟨x2,H2,I2,r2,q2⟩=>?_
 refine au (hg Y s2 U H2 x1 x2 ov iv _ I2 r1 r2 q2) λold s3 ⟨x3,H3,I3,r3,q3⟩=>?_
 refine au (he Y s3 U H3 _ I3 q3) λv s4 ⟨x4,H4,I4,r4,q4⟩=>?_
 refine au (hp Y s4 U H4 x3 x4 old v _ I4 r3 r4 q4) λnew s5 ⟨x5,H5,I5,r5,q5⟩=>?_
 exact au (hs Y s5 U H5 x1 x2 x5 ov iv new _ I5 r1 r2 r5 q5) λ_ s6 ⟨H6,I6,q6⟩=>⟨U,H6,I6,q6⟩
abbrev GV (f:Int->Int->Int):Fd:=λx y H Q=>∃ i j,x=.int i/\y=.int j/\Q (.int (f i j)) H
def Cd:Fe X .Add (GV λi j=>i+j):=by
 intro Y s U H x y v u Q I r1 r2 h;obtain⟨i,j,e1,e2,q⟩:=h;subst e1;subst e2;obtain⟨t,rfl⟩:=r1;obtain⟨t',rfl⟩:=r2;exact iadd_int ⟨.int _,H,I.tok _,⟨_,rfl⟩,q⟩
def A6:Fe X .Sub (GV λi j=>i-j):=by
 intro Y s U H x y v u Q I r1 r2 h;obtain⟨i,j,e1,e2,q⟩:=h;subst e1;subst e2;obtain⟨t,rfl⟩:=r1;obtain⟨t',rfl⟩:=r2;exact isub_int ⟨.int _,H,I.tok _,⟨_,rfl⟩,q⟩
end
section
variable {X:Cx}{pos:Pos}
end
structure It where
 go:Nat->Hp->Prop
 yld:Nat->Hp->V->Hp->Prop
 stop:Nat->Hp->Prop
abbrev fu (X:Cx)(Y:HN)(H:Hp)(b:Addr):Prop:=
 H b=none/\b≠X.env.locals/\b ∉ X.fs/\(b ∈ X.ex\/X.s₀.heap.objs.size<=b)/\(∀ x c,X.env.cells.lookup x=some c->c≠b)/\∀ p ∈ X.pn++Y,p.1≠b
def Inv.nK {X:Cx}{H':Hp}(I:Inv X Y U H s)(hb:s.heap.objs.size<=b)(hn:H' b=none):fu X Y H' b:=by
 refine⟨hn,Nat.ne_of_gt (mo I.lt hb),I.F7 hb,.inr (Nat.le_trans I.sz hb),λx c e z=>?_,λp hp z=>?_⟩
 .obtain⟨v,q⟩:=I.cell x c e;exact absurd (mo q.lt (by rw[z];exact hb)) (Nat.lt_irrefl _)
 .exact absurd (mo (tz (I.pin p hp).1) (by rw[z];exact hb)) (Nat.lt_irrefl _)
noncomputable abbrev Calm (X:Cx):Prop:=X.calm=true
abbrev et (X:Cx):Prop:=∃ e C dx fs,X.A.handled=some (.ref e)/\X.H₀ e=some (.exc C dx fs false)
structure Turn (P:Program) (w:World) (K:W.Frag) (ok:Cx->Prop) (tg:Expr) (J:It) (fp:List Addr) (it:Addr) (tn:Nat->Heap->Prop):Prop where
 mem:it ∈ fp
 obj:∀ i h,tn i h->∀ b ∈ fp,∃ o,h.get? b=some o/\∀ v,o.data≠.cell v
 keep:∀ i h h',tn i h->(∀ b ∈ fp,∀ o,h.get? b=some o->h'.get? b=some o)->tn i h'
 item:∀ (X:Cx),X.prog=P->X.w=w->X.K=K->ok X->∀ (i:Nat) (Y:HN) (s:Shared) (U:St) (H:Hp) (E:HM),Inv X Y U H s->(∀ b ∈ fp,fu X Y H b)->tn i s.heap->J.go i H->
  wpAny (model P w) X.A (pyNext (.ref it)) (λr s1=>∃ u,r=some u/\
   wpAny (model P w) X.A (letOwnedTupleGo tg (.ref it) u) (λ_ s2=>∃ x H',Inv X Y U H' s2/\RelV x u/\J.yld i H x H'/\tn (i+1) s2.heap/\∀ b ∈ fp,H' b=none) E s1) E s
 done:∀ (X:Cx),X.prog=P->X.w=w->X.K=K->ok X->∀ (i:Nat) (Y:HN) (s:Shared) (U:St) (H:Hp) (E:HM),Inv X Y U H s->(∀ b ∈ fp,fu X Y H b)->tn i s.heap->J.stop i H->
  wpAny (model P w) X.A (pyNext (.ref it)) (λr s1=>r=none/\Inv X Y U H s1) E s
 self:∀ (A:Around) (i:Nat) (s:Shared) (Q:HM) (E:HM),tn i s.heap->Q (.ref it) s->wpAny (model P w) A (pyIter (.ref it)) Q E s
@[reducible]def TI:=St->Hp->(It->Hp->Prop)->Prop
abbrev AJ (ok:Cx->Prop)(X:Cx)(Y:HN)(U:St)(tg:Expr)(R:It->Hp->Prop)(itv:Value)(s2:Shared):Prop:=
 ∃ (it:Addr) (fp:List Addr) (tn:Nat->Heap->Prop) (J:It) (H':Hp),itv=.ref it/\Inv X Y U H' s2/\Turn X.prog X.w X.K ok tg J fp it tn/\tn 0 s2.heap/\(∀ b ∈ fp,fu X Y H' b)/\R J H'
abbrev zI (ok:Cx->Prop)(X:Cx)(tg iter:Expr)(wi:TI):Prop:=
 ∀ (Y:HN) (s:Shared) (U:St) (H:Hp) (R:It->Hp->Prop),Inv X Y U H s->wi U H R->
  wpAny (model X.prog X.w) X.A (eval iter X.env) (λv s1=>wpAny (model X.prog X.w) X.A (pyIter v) (AJ ok X Y U tg R) X.xe s1) X.xe s
noncomputable abbrev E8 (X:Cx)(Y:HN)(U:St)(tg:Expr)(R:It->Hp->Prop)(itv:Value)(s2:Shared):Prop:=AJ Calm X Y U tg R itv s2
noncomputable abbrev PI (X:Cx)(tg iter:Expr)(wi:TI):Prop:=zI Calm X tg iter wi
def lH {it:Addr}{o:Obj}{n:String}{vs:Array Value}{Q:HL}(ho:s.heap.get? it=some o)(hc:o.cls=.type n)(hd:o.data=.fields vs)
  (hn:["enumerate","zip","dict_itemiterator","dict_reverseitemiterator","odict_iterator","itertools.zip_longest","itertools.pairwise"].contains n=false) (hQ:Q () s):wpAny M A (letOwnedTupleGo tg (.ref it) u) Q E s:=by
 unfold letOwnedTupleGo;cases tg<;>first
  |exact am hQ
  |(cases u<;>first
    |exact am hQ
    |(refine ad (wpAny_load ho ?_)
      rw[hc,hd];show wpAny M A (if(["enumerate","zip","dict_itemiterator","dict_reverseitemiterator","odict_iterator","itertools.zip_longest","itertools.pairwise"].contains n&&vs[0]? ==some (rawInt _))=true then _ else _) Q E s;rw[if_neg (by intro h;rw[hn,Bool.false_and]at h;cases h)];exact am hQ))
abbrev De (K:W.Frag)(a:Addr):It:=
 ⟨λi H=>∃ xs x,aL K H a xs/\xs[i]? =some x,λi H x H'=>H'=H/\∀ xs,aL K H a xs->xs[i]? =some x,λi H=>∃ xs,aL K H a xs/\xs.length<=i⟩
abbrev rB (K:W.Frag)(a:Addr):It:=
 ⟨λi H=>∃ xs x,aY K H a xs/\xs[i]? =some x,λi H x H'=>H'=H/\∀ xs,aY K H a xs->xs[i]? =some x,λi H=>∃ xs,aY K H a xs/\xs.length<=i⟩
abbrev Dc (lo:Int)(n:Nat):It:=⟨λi _=>i<n,λi H x H'=>H'=H/\x=.int (lo+i),λi _=>n<=i⟩
def rN (a it:Addr):Turn P w K Calm tg (De K a) [it] it (λi h=>h.IsListIter it a i) where
 mem:=by simp
 obj:=λi h st b hb=>by
  have e:b=it:=by simpa using hb
  subst e;obtain⟨o,e,c,d⟩:=st;exact⟨o,e,λv z=>by rw[d]at z;cases z⟩
 keep:=λi h h' st k=>st.at λo e=>k it (by simp) o e
 item:=by
  intro X hP hw hK hc i Y s U H E I hf st hg;subst hP hw hK;obtain⟨xs,x,hq,hx⟩:=hg;obtain⟨its,rv,p,hz⟩:=I.list hq;obtain⟨u,hu,ru⟩:=rv.get hx;obtain⟨f0,f1,f2,f3,f4,f5⟩:=hf it (by simp);refine wpAny_pyNext_list_item st p.isList (x:=u) (by simpa using hu) λh' st' sb=>?_
  have I1:Inv X Y U H { s with heap:=h' }:=I.turned (t':=s.toks) (λb o hb e=>(sb.2 b hb).trans e) f0 f1 f3 f4 f5;obtain⟨o,e,c,d⟩:=id st';exact⟨u,rfl,lH (s:={ s with heap:=h' }) e c d (by decide) ⟨x,H,I1,ru,⟨rfl,λys hy=>by rw[I.di hy hq];exact hx⟩,st',λb hb=>(hf b hb).1⟩⟩
 done:=by
  intro X hP hw hK hc i Y s U H E I hf st hg;subst hP hw hK;obtain⟨xs,hq,hx⟩:=hg;obtain⟨its,rv,p,hz⟩:=I.list hq;obtain⟨f0,f1,f2,f3,f4,f5⟩:=hf it (by simp);have hl:=rv.length;exact wpAny_pyNext_list_end (I.ok.hd hc) st p.isList (by simp;omega) λh' eb=>⟨rfl,I.turned (t':=s.toks) (λb o hb e=>eb b o hb e) f0 f1 f3 f4 f5⟩
 self:=λ_ _ _ _ _ st h=>wpAny_pyIter_listiter st h
def cg (a it:Addr):Turn P w K Calm tg (rB K a) [it] it (λi h=>h.IsTupleIter it a i) where
 mem:=by simp
 obj:=λi h st b hb=>by
  have e:b=it:=by simpa using hb
  subst e;obtain⟨o,e,c,d⟩:=st;exact⟨o,e,λv z=>by rw[d]at z;cases z⟩
 keep:=λi h h' st k=>st.at λo e=>k it (by simp) o e
 item:=by
  intro X hP hw hK hc i Y s U H E I hf st hg;subst hP hw hK;obtain⟨xs,x,hq,hx⟩:=hg;obtain⟨its,rv,p,hz⟩:=I.tuple hq;obtain⟨u,hu,ru⟩:=rv.get hx;obtain⟨f0,f1,f2,f3,f4,f5⟩:=hf it (by simp);refine wpAny_pyNext_tuple_item st (show s.heap.IsTuple a its.toArray from p) (x:=u) (by simpa using hu) λh' st' sb=>?_
  have I1:Inv X Y U H { s with heap:=h' }:=I.turned (t':=s.toks) (λb o hb e=>(sb.2 b hb).trans e) f0 f1 f3 f4 f5;obtain⟨o,e,c,d⟩:=id st';exact⟨u,rfl,lH (s:={ s with heap:=h' }) e c d (by decide) ⟨x,H,I1,ru,⟨rfl,λys hy=>by rw[I.dU hy hq];exact hx⟩,st',λb hb=>(hf b hb).1⟩⟩
 done:=by
  intro X hP hw hK hc i Y s U H E I hf st hg;subst hP hw hK;obtain⟨xs,hq,hx⟩:=hg;obtain⟨its,rv,p,hz⟩:=I.tuple hq;obtain⟨f0,f1,f2,f3,f4,f5⟩:=hf it (by simp);have hl:=rv.length;exact wpAny_pyNext_tuple_end (I.ok.hd hc) st (show s.heap.IsTuple a its.toArray from p) (by simp;omega) λh' eb=>⟨rfl,I.turned (t':=s.toks) (λb o hb e=>eb b o hb e) f0 f1 f3 f4 f5⟩
 self:=λ_ _ _ _ _ st h=>wpAny_pyIter_tupleiter st h
def nG (it:Addr)(lo:Int)(n:Nat):Turn P w K Calm tg (Dc lo n) [it] it (λi h=>IsRangeIter h it (lo+(i:Nat)*1) ((n:Int)-(i:Nat)) 1) where
 mem:=by simp
 obj:=λi h st b hb=>by
  have e:b=it:=by simpa using hb
  subst e;exact⟨_,st,λv z=>by
   have z':Data.fields _=Data.cell v:=z;cases z'⟩
 keep:=λi h h' st k=>k it (by simp) _ st
 item:=by
  intro X hP hw hK hc i Y s U H E I hf st hg;subst hP hw hK;obtain⟨f0,f1,f2,f3,f4,f5⟩:=hf it (by simp);have W:=Walks.range (prog:=X.prog) (w:=X.w) (I.ok.hd hc) it lo 1 n;refine W.item i s _ _ hg st λv h' tk hv st' kk=>?_
  obtain⟨t,rfl⟩:=hv;have I1:Inv X Y U H { s with heap:=h',toks:=tk }:=I.turned (λb o hb e=>kk b o (by simpa using hb) e) f0 f1 f3 f4 f5;refine⟨_,rfl,lH (s:={ s with heap:=h',toks:=tk }) (n:="range_iterator") st' rfl rfl (by decide) ⟨.int (lo+i),H,I1,⟨t,?_⟩,⟨rfl,rfl⟩,st',λb hb=>(hf b hb).1⟩⟩;rw[Int.mul_one]
 done:=by
  intro X hP hw hK hc i Y s U H E I hf st hg;subst hP hw hK;obtain⟨f0,f1,f2,f3,f4,f5⟩:=hf it (by simp);exact wpAny_pyNext_range_end (I.ok.hd hc) st (by have:n<=i:=hg;omega) λh' eb=>⟨rfl,I.turned (t':=s.toks) (λb o hb e=>eb b o hb e) f0 f1 f3 f4 f5⟩
 self:=λ_ _ _ _ _ st h=>wpAny_pyIter_rangeiter st h
variable {pos:Pos}{fp:List Addr}{body:List Stmt}
section
variable {X:Cx}{tg:Expr}
def vR {R:It->Hp->Prop}{lo hi:Int}{t u v:Tok}{tk:Nat}(I:Inv X Y U H s)(h1: -(2 ^ 62)<=lo)(h2:lo<2 ^ 62)(h3: -(2 ^ 62)<=hi)(h4:hi<2 ^ 62)
  (q:R (Dc lo (hi-lo).toNat) H):wpAny (model X.prog X.w) X.A (pyIter (.ref s.heap.objs.size)) (E8 X Y U tg R) E { s with heap:=s.heap.push { cls:=.type "range",data:=.fields #[.int lo t,.int hi u,.int 1 v] },toks:=tk }:=by
 refine wpAny_pyIter_range (IsRange.new ..) (small_one h1 h2 h3 h4) ?_;have I1:Inv X Y U H { s with heap:=s.heap.push { cls:=.type "range",data:=.fields #[.int lo t,.int hi u,.int 1 v] },toks:=tk }:=I.kept λb o e=>sK _ e
 refine⟨(s.heap.push { cls:=.type "range",data:=.fields #[.int lo t,.int hi u,.int 1 v] }).objs.size,[(s.heap.push { cls:=.type "range",data:=.fields #[.int lo t,.int hi u,.int 1 v] }).objs.size],_,_,H,rfl,
  I1.kept (t':=tk) λb o e=>sK _ e,nG _ lo (hi-lo).toNat,?_,λb hb=>?_,q⟩
 .have e1:lo+((0:Nat):Int)*1=lo:=by simp
  have e2:(((hi-lo).toNat:Nat):Int)-((0:Nat):Int)=Builtin.Range.rangeSize lo hi 1:=by rw[rangeSize_one];split<;>omega
  show IsRangeIter _ _ (lo+((0:Nat):Int)*1) ((((hi-lo).toNat:Nat):Int)-((0:Nat):Int)) 1;rw[e1,e2];exact ul _ rfl
 .have e:b=(s.heap.push { cls:=.type "range",data:=.fields #[.int lo t,.int hi u,.int 1 v] }).objs.size:=by simpa using hb
  subst e;exact I1.nK (pc _) (I1.hok.fresh (pc _))
abbrev EJ (ta:TA):TI:=λU H R=>ta U H λvs H1=>∃ j:Int,vs=[.int j]/\ -(2 ^ 62)<=j/\j<2 ^ 62/\R (Dc 0 j.toNat) H1
def sD {a:Expr}{ta:TA}{p:Pos}(hg:Gl X "range") (hm:X.mg "range"=none) (ha:PA X [a] ta) (hs:bm [a] X.env=[(false,eval a X.env)]:=by rfl):PI X tg (.Call (.Name "range" p) [a] [] pos) (EJ ta):=by
 intro Y s U H R I h;refine Call_ (dA I hg hm boot_range (PyProof.Rows.callWith_type1 (au (ha pos Y s U H _ I h) λus s1 ⟨vs,H1,I1,r1,q1⟩=>?_) hs rfl));obtain⟨j,e,q1,q2,q⟩:=q1;subst e;cases r1 with
 |cons r rr=>
  cases rr;obtain⟨t,rfl⟩:=r;exact call_range_1 (vR I1 nofun nofun q1 q2 (by simpa using q))
abbrev FW (wi:TI)(g:TG)(tb:TS):TS:=λD U H=>wi U H λJ H1=>∃ W:Nat->Nat->St->Hp->Prop,(∃ m,W 0 m U H1)/\∀ i m U H,W i m U H->
 (J.stop i H/\D.nx U H)\/(J.go i H/\∃ N:St->Hp->Prop,(∀ σ' H',N σ' H'->∃ m',m'<m/\W (i+1) m' σ' H')/\∀ x H',J.yld i H x H'->g x U H' λσ2 H2=>tb { D with nx:=N,ct:=N,bk:=D.nx } σ2 H2)
abbrev kE (fp:List Addr)(h:Heap):List (Addr×Obj):=fp.filterMap λb=>(h.get? b).map λo=>(b,o)
def bL {o:Obj}(hb:b ∈ fp)(e:h.get? b=some o):(b,o) ∈ kE fp h:=List.mem_filterMap.mpr ⟨b,hb,by rw[e];rfl⟩
def rm {p:Addr×Obj}(hp:p ∈ kE fp h):p.1 ∈ fp/\h.get? p.1=some p.2:=by
 obtain⟨b,hb,e⟩:=List.mem_filterMap.mp hp;cases q:h.get? b with
 |none=>rw[q]at e;cases e
 |some o=>
  rw[q]at e;have e':(b,o)=p:=Option.some.inj e;subst e';exact⟨hb,q⟩
def Inv.pinned (I:Inv X Y U H s)(hf:∀ b ∈ fp,fu X Y H b) (ho:∀ b ∈ fp,∃ o,s.heap.get? b=some o/\∀ v,o.data≠.cell v):Inv X (Y++kE fp s.heap) U H s:=
 I.kI λp hp=>(mem_append.mp hp).elim (λz=>I.pin p (gt _ z)) λz=>by
  obtain⟨hb,e⟩:=rm z;obtain⟨f0,f1,f2,_⟩:=hf p.1 hb;obtain⟨o,e',d⟩:=ho p.1 hb;rw[e]at e';cases e';exact⟨e,f0,f1,f2,d⟩
def Inv.dM {pl:HN}(I:Inv X (Y++pl) U H s):Inv X Y U H s:=I.kI λp hp=>I.pin p (gt _ (mem_append_left _ hp))
def Cm {iter:Expr}{wi:TI}{g:TG}{tb:TS}(hp:PassesOwn (model X.prog X.w) X.A X.env X.xe)(hc:X.calm=true)(hi:PI X tg iter wi)(hg:PG X tg g)(hb:zP X body tb)
  (hs:∀ x,foldedSetIterable iter X.env x=pure x:=by intro _;rfl):PS X (.For tg iter body [] pos) (FW wi g tb):=by
 intro Y s U H D I h;refine wpAny_For (au (hi Y s U H _ I h) λv s1 h1=>au h1 λitv s2 h2=>?_) hs;obtain⟨it,fp,tn,J,H2,e,I2,T,jN,f2,W,⟨m0,w0⟩,turn⟩:=h2;subst e;have stat:∀ {H':Hp},(∀ b ∈ fp,H' b=none)->∀ b ∈ fp,fu X Y H' b:=λhn b hb=>⟨hn b hb,(f2 b hb).2⟩
 refine codeAny_forLoop_any (λn s'=>∃ i σ' H',Inv X Y σ' H' s'/\tn i s'.heap/\(∀ b ∈ fp,H' b=none)/\W i n σ' H') ?_ m0 ⟨0,U,H2,I2,jN,λb hb=>(f2 b hb).1,w0⟩;rintro n s3 ⟨i,σ3,H3,I3,zX,fr3,w3⟩;rcases turn i n σ3 H3 w3 with⟨stop,qn⟩|⟨go,N,hN,step⟩
 .refine wpAny_passesOwn hp (au (T.done X rfl rfl rfl hc i Y s3 σ3 H3 X.xe I3 (stat fr3) zX stop) λr s4 ⟨hr,I4⟩=>?_);subst hr;exact wpAny_execs_nil ⟨σ3,H3,I4,qn⟩
 .refine wpAny_passesOwn hp (au (T.item X rfl rfl rfl hc i Y s3 σ3 H3 X.xe I3 (stat fr3) zX go) λr s4 ⟨u,hr,h4⟩=>?_);subst hr;refine wpAny_passesOwn hp (au h4 λ_ s5 ⟨x,H5,I5,r5,y5,st5,fr5⟩=>?_);have I5':=I5.pinned (stat fr5) (T.obj _ _ st5);refine wpAny_passesOwn hp (au (hg _ s5 σ3 H5 x u _ I5' r5 (step x H5 y5)) λ_ s6 ⟨σ6,H6,I6,q6⟩=>?_);refine wpAny_passesOwn hp (au (hb _ s6 σ6 H6 _ I6 q6) λf s7 q7=>?_);have again:∀ {σ7:St}{H7:Hp},Inv X (Y++kE fp s5.heap) σ7 H7 s7->N σ7 H7->∃ m,m<n/\∃ i σ' H',Inv X Y σ' H' s7/\tn i s7.heap/\(∀ b ∈ fp,H' b=none)/\W i m σ' H':=λ{σ7 H7} I7 n7=>by
   obtain⟨m',hm,w7⟩:=hN σ7 H7 n7;refine⟨m',hm,i+1,σ7,H7,I7.dM,T.keep _ _ _ st5 λb hb o e=>(I7.pin (b,o) (gt _ (gt _ (bL hb e)))).1,λb hb=>?_,w7⟩;obtain⟨o,e,d⟩:=T.obj _ _ st5 b hb;exact(I7.pin (b,o) (gt _ (gt _ (bL hb e)))).2.1
  cases f with
  |next=>obtain⟨σ7,H7,I7,n7⟩:=q7;exact again I7 n7
  |cont=>obtain⟨σ7,H7,I7,n7⟩:=q7;exact again I7 n7
  |brk=>obtain⟨σ7,H7,I7,q7⟩:=q7;exact⟨σ7,H7,I7.dM,q7⟩
  |ret v=>obtain⟨x7,σ7,H7,I7,r7,q7⟩:=q7;exact⟨x7,σ7,H7,I7.dM,r7,q7⟩
end
@[reducible]def R2:=V->V->Hp->VK->Prop
abbrev bR (X:Cx)(f:Value->Value->Sem Value)(r:R2):Prop:=
 ∀ (Y:HN) (s:Shared) (U:St) (H:Hp) (x y:V) (v u:Value) (Q:VK),Inv X Y U H s->RelV x v->RelV y u->r x y H Q->
  wpAny (model X.prog X.w) X.A (f v u) (EP X Y U Q) X.xe s
abbrev Fg (X:Cx)(f:Value->Sem Value)(r:V->Hp->VK->Prop):Prop:=
 ∀ (Y:HN) (s:Shared) (U:St) (H:Hp) (x:V) (v:Value) (Q:VK),Inv X Y U H s->RelV x v->r x H Q->
  wpAny (model X.prog X.w) X.A (f v) (EP X Y U Q) X.xe s
abbrev cp (X:Cx)(f:Value)(r:List V->Hp->VK->Prop):Prop:=
 ∀ (Y:HN) (s:Shared) (U:St) (H:Hp) (xs:List V) (us:List Value) (Q:VK),Inv X Y U H s->Vals xs us->r xs H Q->
  wpAny (model X.prog X.w) X.A (call f us) (EP X Y U Q) X.xe s
abbrev Fs (X:Cx)(r:V->Hp->(Bool->Hp->Prop)->Prop):Prop:=
 ∀ (Y:HN) (s:Shared) (U:St) (H:Hp) (x:V) (v:Value) (Q:Bool->Hp->Prop),Inv X Y U H s->RelV x v->r x H Q->
  wpAny (model X.prog X.w) X.A (truthy v) (TP X Y U Q) X.xe s
abbrev E4 (r:R2)(ta tb:TE):TE:=λU H Q=>ta U H λx H1=>tb U H1 λy H2=>r x y H2 Q
abbrev HI (r:V->Hp->VK->Prop)(ta:TE):TE:=λU H Q=>ta U H λx H1=>r x H1 Q
abbrev rI (C:Int->Int->Prop)(g:Int->Int->V):R2:=λx y H Q=>∃ i j,x=.int i/\y=.int j/\C i j/\Q (g i j) H
abbrev yc (g:Int->Int->V):R2:=λx y H Q=>∃ i j,x=.int i/\y=.int j/\Q (g i j) H
abbrev rU (g:Int->V):V->Hp->VK->Prop:=λx H Q=>∃ i,x=.int i/\Q (g i) H
variable {f:Value->Value->Sem Value}{r:R2}{g:Int->Int->Int}
section
variable {X:Cx}{a b c:Expr}{ta tb tc:TE}{pos:Pos}
def CT (ha:PE X a ta)(hb:PE X b tb){R:V->V->Hp->Prop}(I:Inv X Y U H s)
  (h:ta U H λx H1=>tb U H1 λy H2=>R x y H2)
  (hf:∀ v u s2 x y H2,Inv X Y U H2 s2->RelV x v->RelV y u->R x y H2->wpAny (model X.prog X.w) X.A (f v u) Q X.xe s2):
  wpAny (model X.prog X.w) X.A (eval a X.env) (λv s₁=>wpAny (model X.prog X.w) X.A (eval b X.env) (λu s₂=>wpAny (model X.prog X.w) X.A (f v u) Q X.xe s₂) X.xe s₁) X.xe s:=by
 refine au (ha Y s U H _ I h) λv s1 ⟨x,H1,I1,r1,q1⟩=>?_
 refine au (hb Y s1 U H1 _ I1 q1) λu s2 ⟨y,H2,I2,r2,q2⟩=>?_
 exact hf v u s2 x y H2 I2 r1 r2 q2
def EX {op:Operator}(ho:bR X (binaryOp op) r)(ha:PE X a ta)(hb:PE X b tb):PE X (.BinOp a op b pos) (E4 r ta tb):=by
 intro Y s U H Q I h;exact wpAny_BinOp (CT ha hb I h λv u s2 x y H2 I2 rx ry q=>ho Y s2 U H2 x y v u Q I2 rx ry q)
def D4 {op:UnaryOp}{r:V->Hp->VK->Prop}(ho:Fg X (unaryOp op) r)(ha:PE X a ta):PE X (.UnaryOp op a pos) (HI r ta):=by
 intro Y s U H Q I h;exact UnaryOp_ (au (ha Y s U H _ I h) λv s1 ⟨x,H1,I1,r1,q1⟩=>ho Y s1 U H1 x v Q I1 r1 q1)
def EZ {C:Int->Int->Prop}
  (rule:∀ (i j:Int) (t u:Tok) (s:Shared) (Q:HM) (E:HM),C i j->Q (.int (g i j) s.toks) { s with toks:=s.toks+1 }->wpAny (model X.prog X.w) X.A (f (.int i t) (.int j u)) Q E s):
  bR X f (rI C λi j=>.int (g i j)):=by
 intro Y s U H x y v u Q I rx ry h;obtain⟨i,j,rfl,rfl,hc,q⟩:=h;obtain⟨t,rfl⟩:=rx;obtain⟨t',rfl⟩:=ry;exact rule i j t t' s _ _ hc ⟨.int (g i j),H,I.tok _,⟨_,rfl⟩,q⟩
def Ey 
  (rule:∀ (i j:Int) (t u:Tok) (s:Shared) (Q:HM) (E:HM),Q (.int (g i j) s.toks) { s with toks:=s.toks+1 }->wpAny (model X.prog X.w) X.A (f (.int i t) (.int j u)) Q E s):
  bR X f (yc λi j=>.int (g i j)):=by
 intro Y s U H x y v u Q I rx ry h;obtain⟨i,j,rfl,rfl,q⟩:=h;obtain⟨t,rfl⟩:=rx;obtain⟨t',rfl⟩:=ry;exact rule i j t t' s _ _ ⟨.int (g i j),H,I.tok _,⟨_,rfl⟩,q⟩
def yJ {g:Int->Int->Bool}
  (rule:∀ (i j:Int) (t u:Tok) (s:Shared) (Q:HM) (E:HM),Q (.bool (g i j)) s->wpAny (model X.prog X.w) X.A (f (.int i t) (.int j u)) Q E s):
  bR X f (yc λi j=>.bl (g i j)):=by
 intro Y s U H x y v u Q I rx ry h;obtain⟨i,j,rfl,rfl,q⟩:=h;obtain⟨t,rfl⟩:=rx;obtain⟨t',rfl⟩:=ry;exact rule i j t t' s _ _ ⟨.bl (g i j),H,I,rfl,q⟩
abbrev FD (i j:Int):Prop:=0<j/\j<1073741824
abbrev yU (i j:Int):Prop:=0<=j/\j<=1000000/\i.natAbs<2 ^ 64
abbrev rJ (i j:Int):Prop:=(-(2 ^ 64)<i/\i<2 ^ 64)\/(-(2 ^ 64)<j/\j<2 ^ 64)
def rJ.ok {i j:Int}(h:rJ i j):IntMulOk i j:=by
 rcases h with⟨h1,h2⟩|⟨h1,h2⟩
 .exact .of_left (intBits_le_64 h1 h2)
 .exact .of_right (intBits_le_64 h1 h2)
def Bl:bR X (binaryOp .Add) (yc λi j=>.int (i+j)):=Ey λ_ _ _ _ _ _ _ q=>add_int q
def Bj:bR X (binaryOp .Sub) (yc λi j=>.int (i-j)):=Ey λ_ _ _ _ _ _ _ q=>sub_int q
def BO:bR X (binaryOp .Mult) (rI rJ λi j=>.int (i*j)):=EZ λ_ _ _ _ _ _ _ hc q=>mul_int q hc.ok
def xg:bR X (binaryOp .FloorDiv) (rI FD λi j=>.int (i / j)):=EZ λi j _ _ _ _ _ hc q=>by
 have h1:(0:Int)<j:=hc.1;have h2:j<1073741824:=hc.2;exact floordiv_int nofun (by rw[Int.fdiv_eq_ediv_of_nonneg i nofun];exact q) (.inl (PyProof.noPylong_small nofun))
def CD:bR X (binaryOp .Mod) (rI (λ_ j=>0<j) λi j=>.int (i % j)):=EZ λi j _ _ _ _ _ hc q=>by
 have h1:(0:Int)<j:=hc;exact mod_int' nofun (by rw[Int.fmod_eq_emod_of_nonneg i nofun];exact q)
def Bn:bR X (binaryOp .Pow) (rI yU λi j=>.int (i ^ j.toNat)):=EZ λ_ _ _ _ _ _ _ hc q=>pow_int_small hc.1 hc.2.1 hc.2.2 q
def G2 {f:Value->Sem Value}{g:Int->Int}
  (rule:∀ (i:Int) (t:Tok) (s:Shared) (Q:HM) (E:HM),Q (.int (g i) s.toks) { s with toks:=s.toks+1 }->wpAny (model X.prog X.w) X.A (f (.int i t)) Q E s):
  Fg X f (rU λi=>.int (g i)):=by
 intro Y s U H x v Q I rx h;obtain⟨i,rfl,q⟩:=h;obtain⟨t,rfl⟩:=rx;exact rule i t s _ _ ⟨.int (g i),H,I.tok _,⟨_,rfl⟩,q⟩
def Bh:Fg X (unaryOp .USub) (rU λi=>.int (-i)):=G2 λ_ _ _ _ _ q=>neg_int q
end
variable {op:CmpOp}
section
variable {X:Cx}{a b c:Expr}{ta tb tc:TE}{pos:Pos}
def wm {Q:VK}{k k':Bool}(I:Inv X Y U H s)(q:Q (.bl k) H)(e:k=k'):EP X Y U Q (.bool k') s:=by
 subst e;exact⟨.bl k,H,I,rfl,q⟩
def Ds:bR X (compareOp .Lt) (yc λi j=>.bl (decide (i<j))):=yJ λ_ _ _ _ _ _ _ q=>lt_int q
def Eb:bR X (compareOp .LtE) (yc λi j=>.bl (decide (i<=j))):=yJ λ_ _ _ _ _ _ _ q=>le_int q
def DP:bR X (compareOp .Gt) (yc λi j=>.bl (decide (j<i))):=yJ λ_ _ _ _ _ _ _ q=>gt_int q
def Df:bR X (compareOp .GtE) (yc λi j=>.bl (decide (j<=i))):=yJ λ_ _ _ _ _ _ _ q=>ge_int q
def Bz:bR X (compareOp .Is) (λx y H Q=>y=.non/\Q (.bl (decide (x=.non))) H):=by
 intro Y s U H x y v u Q I rx ry h;obtain⟨rfl,q⟩:=h;cases ry;refine is_none_gen (wm I q ?_);cases x<;>first
  |(cases rx;rfl)
  |(obtain⟨t,rfl⟩:=rx;rfl)
def yH:bR X (compareOp .IsNot) (λx y H Q=>y=.non/\Q (.bl (!decide (x=.non))) H):=by
 intro Y s U H x y v u Q I rx ry h;obtain⟨rfl,q⟩:=h;cases ry;refine isnot_none_gen (wm I q ?_);cases x<;>first
  |(cases rx;rfl)
  |(obtain⟨t,rfl⟩:=rx;rfl)
def yF (ho:bR X (compareOp op) r)(ha:PE X a ta)(hb:PE X b tb)(hm:behindInMarks op b=false):PE X (.Compare a [op] [b] pos) (E4 r ta tb):=by
 intro Y s U H Q I h;exact wpAny_Compare1 (CT ha hb I h λv u s2 x y H2 I2 rx ry q=>ho Y s2 U H2 x y v u Q I2 rx ry q) hm
abbrev uk (t:TE):TT:=λU H Q=>t U H λx H'=>∃ k,x=.bl k/\Q k H'
def wX (ho:bR X (compareOp op) r)(ha:PE X a ta)(hb:PE X b tb)(hm:behindInMarks op b=false):PT X (.Compare a [op] [b] pos) (uk (E4 r ta tb)):=by
 intro Y s U H Q I h;refine wpAny_isTrue_Compare1 (au (ha Y s U H _ I h) λv s1 ⟨x,H1,I1,r1,q1⟩=>au (hb Y s1 U H1 _ I1 q1) λu s2 ⟨y,H2,I2,r2,q2⟩=>
  au (ho Y s2 U H2 x y v u _ I2 r1 r2 q2) λc s3 ⟨z,H3,I3,r3,k,e,q3⟩=>?_) hm
 subst e;cases r3;exact bi ⟨H3,I3,q3⟩
abbrev vi (r r':R2)(ta tb tc:TE):TE:=λU H Q=>ta U H λx H1=>tb U H1 λy H2=>r x y H2 λz H3=>∃ k,z=.bl k/\
 (if k=true then tc U H3 λw' H4=>r' y w' H4 Q else Q (.bl false) H3)
def tK {op':CmpOp}{r':R2}(ho:bR X (compareOp op) r)(ho':bR X (compareOp op') r')(ha:PE X a ta)(hb:PE X b tb)(hc:PE X c tc)
  (hm:lastMarks [op,op'] [b,c]=false:=by with_unfolding_all rfl):PE X (.Compare a [op,op'] [b,c] pos) (vi r r' ta tb tc):=by
 intro Y s U H Q I h;refine Compare_chain (au (ha Y s U H _ I h) λv s1 ⟨x,H1,I1,r1,q1⟩=>chain_link (au (hb Y s1 U H1 _ I1 q1) λu s2 ⟨y,H2,I2,r2,q2⟩=>
  au (ho Y s2 U H2 x y v u _ I2 r1 r2 q2) λd s3 ⟨z,H3,I3,r3,k,e,q3⟩=>?_)) hm
 subst e;cases r3;refine bi ?_;cases k with
 |false=>exact ite_ff ⟨.bl false,H3,I3,rfl,q3⟩
 |true=>exact ite_tt (chain_last (au (hc Y s3 U H3 _ I3 q3) λw' s4 ⟨z',H4,I4,r4,q4⟩=>ho' Y s4 U H4 y z' u w' Q I4 r2 r4 q4))
def vz {op':CmpOp}{r':R2}(ho:bR X (compareOp op) r)(ho':bR X (compareOp op') r')(ha:PE X a ta)(hb:PE X b tb)(hc:PE X c tc)
  (hm:lastMarks [op,op'] [b,c]=false:=by with_unfolding_all rfl):PT X (.Compare a [op,op'] [b,c] pos) (uk (vi r r' ta tb tc)):=by
 intro Y s U H Q I h;refine isTrue_chain (au (ha Y s U H _ I h) λv s1 ⟨x,H1,I1,r1,q1⟩=>test_link (au (hb Y s1 U H1 _ I1 q1) λu s2 ⟨y,H2,I2,r2,q2⟩=>
  au (ho Y s2 U H2 x y v u _ I2 r1 r2 q2) λd s3 ⟨z,H3,I3,r3,k,e,q3⟩=>?_)) hm
 subst e;cases r3;refine bi ?_;cases k with
 |false=>
  obtain⟨k',e',q'⟩:=q3;cases e';exact ite_ff ⟨H3,I3,q'⟩
 |true=>
  refine ite_tt (test_last (au (hc Y s3 U H3 _ I3 q3) λw' s4 ⟨z',H4,I4,r4,q4⟩=>au (ho' Y s4 U H4 y z' u w' _ I4 r2 r4 q4) λd' s5 ⟨z2,H5,I5,r5,k2,e2,q5⟩=>?_));subst e2;cases r5;exact bi ⟨H5,I5,q5⟩
abbrev xD (K:W.Frag)(x:V)(H:Hp)(k:Bool):Prop:=
 match x with
 | .non=>k=false
 | .bl b=>k=b
 | .int i=>k=(i != 0)
 | .str y=>y.length<=bn/\k=((y.length:Int) != 0)
 | .byt y=>y.size<=bn/\k=((y.size:Int) != 0)
 | .ref p=>(∃ xs,aL K H p xs/\k= !xs.isEmpty)\/(∃ xs,aY K H p xs/\k= !xs.isEmpty)\/∃ kvs,H p=some (.dK kvs)/\k= !kvs.isEmpty
 |_=>False
def oM {κ:Type}{kvs:List (κ×V)}{vs:List (κ×Value)}(r:KV kvs vs):(!vs.isEmpty)= !kvs.isEmpty:=by
 cases r<;>rfl
def iy {its:List Value}(r:Vals xs its):(!its.toArray.isEmpty)= !xs.isEmpty:=by
 cases r<;>simp
def eB:(bn:Nat)<2 ^ 63:=by rw[sizeLine_eq];decide
def AN:Fs X (λx H Q=>∃ k,xD X.K x H k/\Q k H):=by
 intro Y s U H x v Q I rx h;obtain⟨k,e,q⟩:=h;have hl:=eB;have hs:bn=16777216:=sizeLine_eq;cases x with
 |non=>
  cases rx;have e':k=false:=e;subst e';exact truthy_none ⟨H,I,q⟩
 |bl b=>
  cases rx;have e':k=b:=e;subst e';exact bi ⟨H,I,q⟩
 |int i=>
  obtain⟨t,rfl⟩:=rx;have e':k=(i != 0):=e;subst e';exact PySem.P.truthy_int ⟨H,I,q⟩
 |str y=>
  obtain⟨t,rfl⟩:=rx;obtain⟨hy,e'⟩:y.length<=bn/\k=((y.length:Int) != 0):=e;subst e';exact PySem.P.truthy_str nofun ⟨H,I.tok _,q⟩
 |byt y=>
  obtain⟨t,rfl⟩:=rx;obtain⟨hy,e'⟩:y.size<=bn/\k=((y.size:Int) != 0):=e;subst e';exact W.truthy_bytes nofun ⟨H,I.tok _,q⟩
 |ref p=>
  cases rx;have e':(∃ xs,aL X.K H p xs/\k= !xs.isEmpty)\/(∃ xs,aY X.K H p xs/\k= !xs.isEmpty)\/∃ kvs,H p=some (.dK kvs)/\k= !kvs.isEmpty:=e;rcases e' with⟨xs,hx,e'⟩|⟨xs,hx,e'⟩|⟨kvs,hx,e'⟩
  .subst e';obtain⟨its,r,pl,hz⟩:=I.list hx;have hlen:=r.length;exact wpAny_truthy_list pl.isList (by simp only[ge];omega) ⟨H,I.tok _,by rw[iy r];exact q⟩
  .subst e';obtain⟨its,r,pl,hz⟩:=I.tuple hx;have hlen:=r.length;exact truthy_tuple pl (by simp only[ge];omega) ⟨H,I.tok _,by rw[iy r];exact q⟩
  .subst e';obtain⟨hz,hS,vs,r,m⟩:kvs.length<=bn/\(p ==sysModules)=false/\∃ vs,KV kvs vs/\s.heap.DictOf (aF X.prog X.w) p vs:=I.hok p _ hx;have hlen:kvs.length=vs.length:=Paired.length r;exact wpAny_truthy_dict hS m nofun ⟨H,I.tok _,by rw[oM r];exact q⟩
 |_=>exact(show False from e).elim
def vY (ha:PE X a ta)(he:∀ whole,isTrue a X.env whole=(do let v <-whole;standAt a.pos;holding [v] (truthy v))):
  PT X a (λU H Q=>ta U H λx H'=>∃ k,xD X.K x H' k/\Q k H'):=by
 intro Y s U H Q I h;exact isTrue_plain (au (ha Y s U H _ I h) λv s1 ⟨x,H1,I1,r1,q1⟩=>AN Y s1 U H1 x v Q I1 r1 q1) (he _)
def nJ:bR X (binaryOp .Add) (λx y H Q=>∃ i j,x=.str i/\y=.str j/\i.length+j.length<=bn/\Q (.str (i++j)) H):=by
 intro Y s U H x y v u Q I rx ry h;obtain⟨i,j,rfl,rfl,hz,q⟩:=h;obtain⟨t,rfl⟩:=rx;obtain⟨t',rfl⟩:=ry;exact add_str (λt' tk=>⟨.str (i++j),H,I.tok _,⟨_,rfl⟩,q⟩) hz
def vals1 {x:V}(r:Vals [x] us):∃ u,us=[u]/\RelV x u:=by
 cases r with
 |cons r1 r2=>cases r2;exact⟨_,rfl,r1⟩
def vals2 {x y:V}(r:Vals [x,y] us):∃ u w',us=[u,w']/\RelV x u/\RelV y w':=by
 cases r with
 |cons r1 r2=>
  cases r2 with
  |cons r3 r4=>cases r4;exact⟨_,_,rfl,r1,r3⟩
def sL (hc:X.calm=true):cp X (.builtin "max") (λxs H Q=>∃ i j,xs=[.int i,.int j]/\Q (.int (if j>i then j else i)) H):=by
 intro Y s U H xs us Q I r h;obtain⟨i,j,rfl,q⟩:=h;obtain⟨u,w',rfl,⟨t,rfl⟩,⟨t',rfl⟩⟩:=vals2 r;refine max_two_ints (I.ok.hd hc) λh' tk k=>⟨_,H,I.kept k,?_,q⟩
 by_cases hj:j>i
 .rw[if_pos hj,if_pos hj];exact⟨_,rfl⟩
 .rw[if_neg hj,if_neg hj];exact⟨_,rfl⟩
def rk (hc:X.calm=true):cp X (.builtin "min") (λxs H Q=>∃ i j,xs=[.int i,.int j]/\Q (.int (if j<i then j else i)) H):=by
 intro Y s U H xs us Q I r h;obtain⟨i,j,rfl,q⟩:=h;obtain⟨u,w',rfl,⟨t,rfl⟩,⟨t',rfl⟩⟩:=vals2 r;refine min_two_ints (I.ok.hd hc) λh' tk k=>⟨_,H,I.kept k,?_,q⟩
 by_cases hj:j<i
 .rw[if_pos hj,if_pos hj];exact⟨_,rfl⟩
 .rw[if_neg hj,if_neg hj];exact⟨_,rfl⟩
def kA:cp X (.type "str") (λxs H Q=>∃ i,xs=[.int i]/\i.natAbs.log2<1920/\Q (.str (toString i)) H):=by
 intro Y s U H xs us Q I r h;obtain⟨i,rfl,hz,q⟩:=h;obtain⟨u,rfl,t,rfl⟩:=vals1 r;exact PySem.P.str_of_int hz ⟨.str _,H,I.tok _,⟨_,rfl⟩,q⟩
abbrev Dy (K:W.Frag)(x:V)(H:Hp)(n:Nat):Prop:=
 match x with
 | .str y=>y.length<=bn/\n=y.length
 | .byt y=>y.size<=bn/\n=y.size
 | .ref p=>(∃ xs,aL K H p xs/\n=xs.length)\/∃ xs,aY K H p xs/\n=xs.length
 |_=>False
def wa:cp X (.builtin "len") (λxs H Q=>∃ x n,xs=[x]/\Dy X.K x H n/\Q (.int n) H):=by
 intro Y s U H xs us Q I r h;obtain⟨x,n,rfl,e,q⟩:=h;obtain⟨u,rfl,rx⟩:=vals1 r;have hl:=eB;have hs:bn=16777216:=sizeLine_eq;cases x with
 |str y=>
  obtain⟨t,rfl⟩:=rx;obtain⟨hy,e'⟩:y.length<=bn/\n=y.length:=e;subst e';exact len_str nofun ⟨.int _,H,I.tok _,⟨_,rfl⟩,q⟩
 |byt y=>
  obtain⟨t,rfl⟩:=rx;obtain⟨hy,e'⟩:y.size<=bn/\n=y.size:=e;subst e';exact W.len_bytes nofun ⟨.int _,H,I.tok _,⟨_,rfl⟩,q⟩
 |ref p=>
  cases rx;have e':(∃ xs,aL X.K H p xs/\n=xs.length)\/∃ xs,aY X.K H p xs/\n=xs.length:=e;rcases e' with⟨xs,hx,e'⟩|⟨xs,hx,e'⟩
  .subst e';obtain⟨its,r',pl,hz⟩:=I.list hx;have hlen:=r'.length;exact Calls.call_len_list pl.isList (by simp only[ge];omega) ⟨.int xs.length,H,I.tok _,⟨_,by simp only[ge];rw[hlen]⟩,q⟩
  .subst e';obtain⟨its,r',pl,hz⟩:=I.tuple hx;have hlen:=r'.length;exact len_tuple pl (by simp only[ge];omega) ⟨.int xs.length,H,I.tok _,⟨_,by simp only[ge];rw[hlen]⟩,q⟩
 |_=>exact(show False from e).elim
end
structure oB (h:Heap) (x dx C:Addr) (mA:HP):Prop where
 obj:h.get? x=some (W.instObj C dx)
 ns:h.Ns1 dx mA
 ne:dx≠x
variable {mA:HP}
def gg {dx:Addr}(n:h.Ns1 dx mA):∃ od,h.get? dx=some od/\∀ name,W.lookIn name od=some (mA name):=by
 obtain⟨o,es,ep,ho,hd,hk,_,hm⟩:=n;refine⟨o,ho,λname=>?_⟩;have e:=hm name;unfold nsFind findBy at e;rw[<-Array.find?_toList]at e;unfold W.lookIn;rw[hd];dsimp only
 split
 .rename_i y q;rw[q]at e;exact congrArg some e
 .rename_i q;rw[q]at e;have a:es.toList.any (·.refKey)=false:=by
   rw[any_eq_false];intro y hy;obtain⟨z,t,hkey⟩:=hk y (Array.mem_toList_iff.mp hy);simp[DictEntry.refKey,hkey]
  have a':¬ es.toList.any (·.refKey)=true:=by rw[a];exact Bool.false_ne_true
  rw[if_neg a'];exact congrArg some e
variable {C:Addr}
def oB.look {x dx:Addr}(I:oB h x dx C mA):∃ od,W.InstAt h x (W.instObj C dx) C (some od)/\∀ name,W.lookIn name od=some (mA name):=
 let⟨od,ho,hl⟩:=gg I.ns
 ⟨od,⟨I.obj,rfl,rfl,ho⟩,hl⟩
variable {pl:Sem Bool}{kw:List (Str×Value)}
section
variable {prog:Program}{w:World}{A:Around}{E:HM}{s:Shared}{K:W.Frag}{x dx C f:Addr}{mA:HP}{name:Str}{v:Value}
def get_map {expr:Bool}(X:K.In s.heap)(I:oB s.heap x dx C mA)(hg:W.plainGet K C name=true)(hh:W.hasDictIn K C=true)
  (ha:W.findIn K (.ref C) name=some none) (hv:mA name=some v) (hv':W.handedIn v=true) (h:Q v { s with toks:=s.toks+1 }):
  wpAny (model prog w) A (getAttr (.ref x) name expr) Q E s:=by
 obtain⟨od,J,hl⟩:=I.look;exact W.get_value X J (W.plainGet_of hg).1 (W.findObj_own hh ha rfl (by rw[hl,hv])) hv' h
def ug {Q:Value×List Value->Shared->Prop}(X:K.In s.heap)(I:oB s.heap x dx C mA)(hg:W.plainGet K C name=true)
  (hf:W.findIn K (.ref C) name=some (some (.ref f))) (ht:W.isFn K (.ref f)=true) (hv:mA name=none) (h:Q (.ref f,[.ref x]) s):
  wpAny (model prog w) A (getMethod (.ref x) name pl) Q E s:=by
 obtain⟨od,J,hl⟩:=I.look;exact W.method_fn X J (W.plainGet_of hg).1 (W.plainGet_of hg).2 hf (beq_iff_eq.mp ht) (by show(W.lookIn name od).map (·.isSome)=some false;rw[hl,hv];rfl) h
def yR {ns:List Str}{Q:HL}(X:K.In s.heap)(I:oB s.heap x dx C mA)
  (hs:W.findIn K (.ref C) "__setattr__"=some (some (.builtin "object.__setattr__"))) (hp:W.plainOver K C=true) (ht:W.takerIn K C name=some none) (hh:W.hasDictIn K C=true)
  (hw:PySem.Within mA ns) (hsz:ns.length<=bn)
  (h:∀ h',oB h' x dx C (λy=>if y=name then some v else mA y)->Heap.SameBut dx s.heap h'->Q () { s with heap:=h',toks:=s.toks+2 }):
  wpAny (model prog w) A (setAttr (.ref x) name v) Q E s:=by
 obtain⟨od,J,hl⟩:=I.look;refine W.set_plain X J hs (W.osa_open (s:={ s with toks:=s.toks+1 }) (r:=none) X J hp ht λb=>?_);obtain⟨cd,hc,hd'⟩:=W.any_some hh;have hx:s.heap.get? x=some ⟨.ref C,some dx,.plain,#[]⟩:=I.obj;refine ad (am (ad (ad (wpAny_loadPart hx (ad (W.Looks.here (s:={ s with toks:=s.toks+1 }) (W.looks_clsIn X hc) ?_))))));rw[hd'];refine am (a:=some dx) (ad (am (ad ?_)));refine wpAny_nsSet1 (s:={ s with toks:=s.toks+1 }) I.ns λh' hn2 hs2=>?_
 obtain⟨oD,esD,epD,hoD,hdD,hcD⟩:=hn2.count (PySem.Within.cons name v hw);refine ad (wpAny_lookBehind hoD (by rw[hdD];exact pastItsLine_dict (Nat.le_trans hcD (by rw[length_cons];omega))) ?_);exact am (h _ ⟨(hs2.2 _ (Ne.symm I.ne)).trans I.obj,hn2,I.ne⟩ hs2)
def tH {R:Result->Shared->Prop}{vs:List Value}(X:K.In s.heap)(hm:W.makesIn K C=true)
  (hi:W.findIn K (.ref C) "__init__"=some (some (.ref f))) (hf:W.typeIn K (.ref f)=some (.type "function"))
  (h:codeAny (model prog w) (A.under (.builtin "type.__call__" ⟨.ref C::vs,kw⟩)) (.call (.ref f) ⟨.ref (s.heap.objs.size+1)::vs,kw⟩) (W.InitBack (s.heap.objs.size+1) R)
   { s with heap:=(s.heap.push W.emptyDict).push (W.instObj C s.heap.objs.size) }):
  codeAny (model prog w) A (.call (.ref C) ⟨vs,kw⟩) R s:=by
 obtain⟨hh,g,d,t,os⟩:=s;exact W.make_core (W.makes_of X hm) (W.looks_findIn X hi) (λself=>W.bind_fn X self hf) (.inl rfl) h
end
abbrev cF (f:Str)(v:V):List (Str×V)->List (Str×V)
 | []=>[(f,v)]
 |(g,x)::r=>if g=f then(g,v)::r else(g,x)::cF f v r
def dG (f g:Str)(v:V):∀ fs:List (Str×V),(cF f v fs).lookup g=if g=f then some v else fs.lookup g
 | []=>by
  show List.lookup g [(f,v)]=_
  by_cases h:g=f
  .have hb:(g ==f)=true:=beq_iff_eq.mpr h;simp only[List.lookup,hb,if_pos h]
  .have hb:(g ==f)=false:=beq_eq_false_iff_ne.mpr h;simp only[List.lookup,hb,if_neg h]
 |(k,x)::r=>by
  have ih:=dG f g v r;rw[show cF f v ((k,x)::r)=(if k=f then(k,v)::r else(k,x)::cF f v r) from rfl]
  by_cases hk:k=f
  .rw[if_pos hk]
   by_cases h:g=k
   .have hb:(g ==k)=true:=beq_iff_eq.mpr h;simp only[List.lookup,hb,if_pos (h.trans hk)]
   .have hb:(g ==k)=false:=beq_eq_false_iff_ne.mpr h;simp only[List.lookup,hb,if_neg (λe:g=f=>h (e.trans hk.symm))]
  .rw[if_neg hk]
   by_cases h:g=k
   .have hb:(g ==k)=true:=beq_iff_eq.mpr h;simp only[List.lookup,hb,if_neg (λe:g=f=>hk (h.symm.trans e))]
   .have hb:(g ==k)=false:=beq_eq_false_iff_ne.mpr h;simp only[List.lookup,hb];exact ih
def cQ (f:Str)(v:V):∀ fs:List (Str×V),f ∈ (cF f v fs).map (·.1)/\∀ g,g ∈ fs.map (·.1)->g ∈ (cF f v fs).map (·.1)
 | []=>⟨by simp[cF],λg h=>by simp at h⟩
 |(k,x)::r=>by
  obtain⟨i1,i2⟩:=cQ f v r;rw[show cF f v ((k,x)::r)=(if k=f then(k,v)::r else(k,x)::cF f v r) from rfl]
  by_cases hk:k=f
  .rw[if_pos hk];subst hk;exact⟨by simp,λg h=>by simpa using h⟩
  .rw[if_neg hk];refine⟨?_,λg h=>?_⟩
   .rw[map_cons];exact dl _ i1
   .rw[map_cons]at h⊢;rcases lf.mp h with e|e
    .exact lf.mpr (.inl e)
    .exact dl _ (i2 g e)
def dv (f:Str)(v:V):∀ fs:List (Str×V),(cF f v fs).length<=fs.length+1
 | []=>by simp[cF]
 |(k,x)::r=>by
  have ih:=dv f v r;rw[show cF f v ((k,x)::r)=(if k=f then(k,v)::r else(k,x)::cF f v r) from rfl]
  by_cases hk:k=f
  .rw[if_pos hk,length_cons,length_cons];omega
  .rw[if_neg hk,length_cons,length_cons];omega
def cO.some_of {o:Option Value}(r:cO (some v) o):∃ u,o=some u/\RelV v u:=by
 cases o with
 |none=>exact(show False from r).elim
 |some u=>exact⟨u,rfl,r⟩
def cO.none_of {o:Option Value}(r:cO none o):o=none:=by
 cases o with
 |none=>rfl
 |some u=>exact(show False from r).elim
def j4 (r:RelV v u):W.handedIn u=true:=by
 cases v with
 |non=>cases(show u=Value.none from r);rfl
 |bl b=>cases(show u=Value.bool b from r);rfl
 |int i=>obtain⟨t,e⟩:=(show ∃ t,u=Value.int i t from r);cases e;rfl
 |str x=>obtain⟨t,e⟩:=(show ∃ t,u=Value.str x t from r);cases e;rfl
 |byt b=>obtain⟨t,e⟩:=(show ∃ t,u=Value.bytes b t from r);cases e;rfl
 |flt b=>obtain⟨t,e⟩:=(show ∃ t,u=Value.float b t from r);cases e;rfl
 |ref a=>cases(show u=Value.ref a from r);rfl
 |ty n=>cases(show u=Value.type n from r);rfl
section
variable {P:Program}{w:World}{H H':Hp}{h h':Heap}{a C dx:Addr}{fs fs':List (Str×V)}
def dN (hok:eK P w H h)(e:H a=some (.ins C dx fs)):∃ mA,oB h a dx C mA/\(∀ f,cO (fs.lookup f) (mA f))/\PySem.Within mA (fs.map (·.1))/\fs.length<=1000/\H dx=some (.own a):=by
 obtain⟨d,z,ne,ob,mA,n,r,q⟩:=(show av P w H h a (.ins C dx fs) from hok a _ e);exact⟨mA,⟨ob,n,ne⟩,r,q,z,d⟩
end
structure xF (K:W.Frag) (C:Addr):Prop where
 pg:W.plainGet K C Str.empty=true
 hd:W.hasDictIn K C=true
 po:W.plainOver K C=true
 sa:W.findIn K (.ref C) "__setattr__"=some (some (.builtin "object.__setattr__"))
def xF.get (c:xF K C)(f:Str):W.plainGet K C f=true:=c.pg
abbrev dJ (K:W.Frag)(C:Addr)(f:Str):Prop:=W.findIn K (.ref C) f=some none
def dJ.DA {f:Str}(n:dJ K C f):W.takerIn K C f=some none:=by
 unfold W.takerIn;rw[show W.findIn K (.ref C) f=some none from n]
 rfl
structure Meth (K:W.Frag) (C:Addr) (m:Str) (f:Addr):Prop where
 at_:W.findIn K (.ref C) m=some (some (.ref f))
 fn:W.isFn K (.ref f)=true
 kp:W.keepIn K (.ref f)=true
section
variable {X:Cx}{Y:HN}{U:St}{H:Hp}{s:Shared}{a C dx:Addr}{fs:List (Str×V)}{f:Str}{v:V}{A:Around}{E:HM}
def nQ {b:Bool}(I:Inv X Y U H s)(e:H a=some (.ins C dx fs))(c:xF X.K C)(n:dJ X.K C f)(l:fs.lookup f=some v)
  (h:∀ u s',Inv X Y U H s'->RelV v u->Q u s'):wpAny (model X.prog X.w) A (getAttr (.ref a) f b) Q E s:=by
 obtain⟨mA,O,r,_,_,_⟩:=dN I.hok e;obtain⟨u,hu,ru⟩:=cO.some_of (v:=v) (o:=mA f) (by rw[<-l];exact r f);exact get_map I.bK O (c.get f) c.hd n hu (j4 ru) (h u _ (I.tok _) ru)
def oy {m:Str}{g:Addr}{Q:Value×List Value->Shared->Prop}(I:Inv X Y U H s)(e:H a=some (.ins C dx fs))(c:xF X.K C)(k:Meth X.K C m g)(l:fs.lookup m=none)
  (h:Q (.ref g,[.ref a]) s):wpAny (model X.prog X.w) A (getMethod (.ref a) m pl) Q E s:=by
 obtain⟨mA,O,r,_,_,_⟩:=dN I.hok e;have hn:mA m=none:=cO.none_of (by rw[<-l];exact r m);exact ug I.bK O (c.get m) k.at_ k.fn hn h
def nZ {y:V}{Q:HL}(I:Inv X Y U H s)(e:H a=some (.ins C dx fs))(c:xF X.K C)(n:dJ X.K C f)(hl:fs.length<1000)(ry:RelV y u)
  (h:∀ s',Inv X Y U (upd H a (.ins C dx (cF f y fs))) s'->Q () s'):wpAny (model X.prog X.w) A (setAttr (.ref a) f u) Q E s:=by
 obtain⟨mA,O,r,wi,_,ho⟩:=dN I.hok e;have hz:(fs.map (·.1)).length<=bn:=by rw[ce,sizeLine_eq];omega
 refine yR I.bK O c.sa c.po n.DA c.hd wi hz λh' O' sb=>h _ ?_
 have hd:∃ o,h'.get? dx=some o:=let⟨o,_,_,e',_⟩:=O'.ns;⟨o,e'⟩;refine I.write (x:=a) (e:=dx) (by rw[e];exact True.intro) (.inr ho) (λb q hb z=>(sb.2 b hb).trans z) hd ?_;refine⟨by rw[af O.ne];exact ho,?_,O.ne,O'.obj,_,O'.ns,λg=>?_,λg hg=>?_⟩
 .have:=dv f y fs;omega
 .show cO ((cF f y fs).lookup g) (if g=f then some u else mA g);rw[dG]
  by_cases q:g=f
  .rw[if_pos q,if_pos q];exact ry
  .rw[if_neg q,if_neg q];exact r g
 .by_cases q:g=f
  .rw[q];exact(cQ f y fs).1
  .refine(cQ f y fs).2 g (wi g λz=>hg ?_);show(if g=f then some u else mA g)=none;rw[if_neg q];exact z
def Inv.made (I:Inv X Y U H s):Inv X Y U (upd (upd H s.heap.objs.size (.own (s.heap.objs.size+1))) (s.heap.objs.size+1) (.ins C s.heap.objs.size []))
  { s with heap:=(s.heap.push W.emptyDict).push (W.instObj C s.heap.objs.size) }:=by
 have e1:(s.heap.push W.emptyDict).get? s.heap.objs.size=some W.emptyDict:=ul s.heap rfl;have e2:((s.heap.push W.emptyDict).push (W.instObj C s.heap.objs.size)).get? (s.heap.objs.size+1)=some (W.instObj C s.heap.objs.size):=by
  have:=ul (s.heap.push W.emptyDict) (o:=W.instObj C s.heap.objs.size) rfl
  rwa [Heap.size_push]at this
 have e3:(s.heap.push W.emptyDict).Ns s.heap.objs.size (λ_=>none):=⟨W.emptyDict,#[],_,e1,rfl,(λe he=>absurd he (by simp)),λ_=>rfl⟩;have I1:=I.laid (a:=s.heap.objs.size) (o:=.own (s.heap.objs.size+1)) (h':=s.heap.push W.emptyDict) (t':=s.toks) (λb u q=>sK _ q) (pc _) ⟨_,e1⟩;refine I1.laid (a:=s.heap.objs.size+1) (o:=.ins C s.heap.objs.size []) (t':=s.toks) (λb u q=>sK _ q) (Nat.le_of_eq (Heap.size_push _ _)) ?_;have ne:s.heap.objs.size≠s.heap.objs.size+1:=nw (Nat.lt_succ_self _);refine⟨by rw[af ne,aq],Nat.zero_le _,ne,e2,λ_=>none,(Heap.Ns1.of_empty e3).at λo q=>sK _ q,λ_=>True.intro,λy hy=>absurd rfl hy⟩
def yI {prog:Program}{env:Env}(hb:attributeBase e f env (eval e env)=eval e env)
  (h:wpAny (model prog w) A (eval e env) (λo s₁=>wpAny (model prog w) A (getAttr o f true) Q E s₁) E s):wpAny (model prog w) A (eval (.Attribute e f pos) env) Q E s:=
 Attribute_any_ h (by rw[arm_eval_Attribute,hb])
end
section
variable {X:Cx}{o e value:Expr}{f:Str}{pos pos' tpos:Pos}{ta tv:TE}
end
section
variable {X:Cx}{Y:HN}{U:St}{H:Hp}{s:Shared}{A:Around}{E:HM}{Q:HM}{c:Value}{b:Bool}
inductive fg (K:W.Frag) (H:Hp):V->Value->Prop where
 |non:fg K H .non (.type "NoneType")
 |bl (x:Bool):fg K H (.bl x) (.type "bool")
 |int (i:Int):fg K H (.int i) (.type "int")
 |str (x:Str):fg K H (.str x) (.type "str")
 |flt (x:UInt64):fg K H (.flt x) (.type "float")
 |lst {a:Addr}{xs:List V}(e:H a=some (.lst xs)):fg K H (.ref a) (.type "list")
 |gO {a:Addr}{o:Obj}{xs:List V}(e:H a=some (.gO o (.lst xs))):fg K H (.ref a) (.type "list")
 |tup {a:Addr}{xs:List V}(e:H a=some (.tup xs)):fg K H (.ref a) (.type "tuple")
 |dK {a:Addr}{kvs:List (Key×V)}(e:Rd H a (.dK kvs)):fg K H (.ref a) (.type "dict")
 |dT {a:Addr}{kvs:List (List Key×V)}(e:H a=some (.dT kvs)):fg K H (.ref a) (.type "dict")
 |ins {a C dx:Addr}{fs:List (Str×V)}(e:H a=some (.ins C dx fs)) (cl:xF K C) (ha:W.findIn K (.ref C) "__class__"=some (some (.builtin "object.__class__")))
   (hn:W.specialIn K (.builtin "object.__class__") "__get__"=some (some (.builtin "getset_descriptor.__get__"))) (htk:W.takesIn K (.builtin "object.__class__")=some true)
   (hm:W.mroIn K C (.type "object")=some true):fg K H (.ref a) (.ref C)
def gJ {x:V}{t:Value}(I:Inv X Y U H s)(rx:RelV x u)(ty:fg X.K H x t)(e:W.kitOne X.K t c=some b)(h:∀ tk,Q (.bool b) { s with toks:=tk }):
  wpAny (model X.prog X.w) A (call (.builtin "isinstance") [u,c]) Q E s:=by
 cases ty with
 |non=>cases(show u=Value.none from rx);exact W.kia_one W.kitx_none I.bK True.intro e (λz=>nomatch z) h
 |bl y=>cases(show u=Value.bool y from rx);exact W.kia_one W.kitx_bool I.bK True.intro e (λz=>nomatch z) h
 |int i=>obtain⟨t,q⟩:=(show ∃ t,u=Value.int i t from rx);cases q;exact W.kia_one W.kitx_int I.bK True.intro e (λz=>nomatch z) h
 |str y=>obtain⟨t,q⟩:=(show ∃ t,u=Value.str y t from rx);cases q;exact W.kia_one W.kitx_str I.bK True.intro e (λz=>nomatch z) h
 |flt y=>obtain⟨t,q⟩:=(show ∃ t,u=Value.float y t from rx);cases q;exact W.kia_one W.kitx_float I.bK True.intro e (λz=>nomatch z) h
 | @lst a xs ea=>
  cases(show u=Value.ref a from rx);obtain⟨_,_,n,_,h1⟩:=(show av X.prog X.w H s.heap a (.lst xs) from I.hok a _ ea);exact W.kia_one W.kitx_list I.bK ⟨_,h1,rfl⟩ e (λz=>nomatch z) h
 | @gO a ob xs ea=>
  cases(show u=Value.ref a from rx);obtain⟨_,_,_,n,_,h1⟩:=(show av X.prog X.w H s.heap a (.gO ob (.lst xs)) from I.hok a _ ea);exact W.kia_one W.kitx_list I.bK ⟨_,h1,rfl⟩ e (λz=>nomatch z) h
 | @tup a xs ea=>
  cases(show u=Value.ref a from rx);obtain⟨_,_,_,p⟩:=(show av X.prog X.w H s.heap a (.tup xs) from I.hok a _ ea);obtain⟨o,h1,h2,_⟩:=p;exact W.kia_one W.kitx_tuple I.bK ⟨o,h1,h2⟩ e (λz=>nomatch z) h
 | @dK a kvs ea=>
  cases(show u=Value.ref a from rx);obtain⟨_,_,vs,_,p⟩:=(show av X.prog X.w H s.heap a (.dK kvs) from ea.ok I.hok);obtain⟨o,es,ep,h1,h2,_⟩:=p;exact W.kia_one W.kitx_dict I.bK ⟨o,h1,h2.1⟩ e (λz=>nomatch z) h
 | @dT a kvs ea=>
  cases(show u=Value.ref a from rx);obtain⟨_,_,xs,_,o,es,ep,h1,h2,_⟩:=(show av X.prog X.w H s.heap a (.dT kvs) from I.hok a _ ea);exact W.kia_one W.kitx_dict I.bK ⟨o,h1,h2.1⟩ e (λz=>nomatch z) h
 | @ins a C dx fs ea cl ha hn htk hm=>
  cases(show u=Value.ref a from rx);obtain⟨mA,O,_⟩:=dN I.hok ea;obtain⟨od,J,_⟩:=O.look;exact W.kia_one (W.kitx_own (cl.get _) cl.hd ha hn htk hm) I.bK J e (λz=>nomatch z) h
end
abbrev tD (c:Bool)(h:Option Value)(H:Hp):Prop:=match c with
 |true=>h=none
 |false=>∃ e C dx fs,h=some (.ref e)/\H e=some (.exc C dx fs false)
structure bJ (k:Nat) (A:Around):Prop where
 dp:A.depth+3*k+5<recursionLimit
 un:A.units+16*k+200<cLine
def bJ.mono {j:Nat}(r:bJ k A)(h:j<=k):bJ j A:=⟨by have:=r.dp;omega,by have:=r.un;omega⟩
def bJ.deeper (r:bJ (k+1) A)(env:Env):bJ k (A.deeper env):=
 ⟨by have:=r.dp;show A.depth+1+3*k+5<_;omega,by have:=r.un;show A.units+3+16*k+200<_;omega⟩
def oq:(A.under (.builtin "type.__call__" ⟨.ref C::us,kw⟩)).depth=A.depth+1:=by
 first|rfl|simp[Around.under,Code.weight,Code.isCreation,Code.isGuard,Code.isCaller,Code.frames,Code.isFrame,guardIds]
def nY:(A.under (.builtin "type.__call__" ⟨.ref C::us,kw⟩)).units=A.units+1:=by
 first|rfl|simp[Around.under,Code.cUnits,Code.frames,Code.isFrame]
def bJ.make (r:bJ (k+1) A)(C:Addr)(us:List Value)(kw:List (Str×Value)):bJ k (A.under (.builtin "type.__call__" ⟨.ref C::us,kw⟩)):=
 ⟨by have:=r.dp;rw[oq];omega,by have:=r.un;rw[nY];omega⟩
def bJ.depth (r:bJ k A):A.depth<recursionLimit:=by have:=r.dp;omega
abbrev yf:TA:=λ_ H Q=>Q [] H
abbrev Az (ta:TE)(tr:TA):TA:=λU H Q=>ta U H λx H1=>tr U H1 λxs H2=>Q (x::xs) H2
section
variable {X:Cx}{e:Expr}{es:List Expr}{te:TE}{t:TA}{pos:Pos}
def cZ:PA X [] yf:=λ_ _ _ _ H Q I h=>Calls.spliced_nil ⟨[],H,I,.nil,h⟩
def xI (ha:PE X e te)(hr:PA X es t)(hs:bm (e::es) X.env=(false,eval e X.env)::bm es X.env:=by rfl):PA X (e::es) (Az te t):=by
 intro pos Y s U H Q I h;rw[hs];show wpAny _ _ (spliced ((false,eval e X.env)::backTo pos (bm es X.env))) _ _ s;refine Calls.spliced_cons (au (ha Y s U H _ I h) λu s1 ⟨x,H1,I1,r1,q1⟩=>?_);exact au (hr pos Y s1 U H1 _ I1 q1) λus s2 ⟨xs,H2,I2,r2,q2⟩=>⟨x::xs,H2,I2,.cons r1 r2,q2⟩
abbrev FJ (t:TA):TE:=λU H Q=>t U H λxs H1=>xs.length<=bn/\∀ p,H1 p=none->Q (.ref p) (upd H1 p (.tup xs))
abbrev FC (t:TA):TE:=λU H Q=>t U H λxs H1=>xs.length<=bn/\∀ p,H1 p=none->Q (.ref p) (upd H1 p (.lst xs))
def uf {x1} (h:PA X es t):PE X (.Tuple es x1 pos) (FJ t):=by
 intro Y s U H Q I hq;refine wpAny_Tuple_spliced (au (h pos Y s U H _ I hq) λus s1 ⟨xs,H1,I1,r,z,q⟩=>⟨by rw[<-r.length];exact z,?_⟩);have hf:H1 s1.heap.objs.size=none:=I1.hok.fresh (pc _);refine⟨.ref s1.heap.objs.size,upd H1 s1.heap.objs.size (.tup xs),I1.laid (t':=s1.toks) (λb u e=>sK _ e) (pc _) ?_,rfl,q _ hf⟩;exact⟨z,us,r,⟨_,ul _ rfl,rfl,_,rfl⟩⟩
def Cz (h:PA X es t):PE X (.List es pos) (FC t):=by
 intro Y s U H Q I hq;refine wpAny_List_spliced (au (h pos Y s U H _ I hq) λus s1 ⟨xs,H1,I1,r,z,q⟩=>⟨by rw[<-r.length];exact z,?_⟩);have hf:H1 s1.heap.objs.size=none:=I1.hok.fresh (pc _);refine⟨.ref s1.heap.objs.size,upd H1 s1.heap.objs.size (.lst xs),I1.laid (t':=s1.toks) (λb u e=>sK _ e) (pc _) ?_,rfl,q _ hf⟩;exact⟨z,us,0,r,ul _ rfl⟩
end
@[reducible]def Sp:=List V->Hp->VK->XK->Prop
@[reducible]def qL:=List Env->Hp->Shared->XK->Value->Shared->Prop
structure oH (P:Program) (w:World) (K:W.Frag) (mg:HP) (base:Heap) (A:Around) (outer:List Env) (s:Shared) (H:Hp):Prop where
 frames:A.frames=some outer
 mod:Mod K mg base
 bs:∀ b o,base.get? b=some o->s.heap.get? b=some o/\H b=none
 bsz:base.objs.size<=s.heap.objs.size
 gA:s.heap.FunFrames base outer
 frf:∀ b ∈ kc outer,H b=none
 hok:eK P w H s.heap
 bare:AllBare s.gens
abbrev CE (outer:List Env)(P:Program)(w:World)(H:Hp)(s:Shared)(Q:VK)(u:Value)(s':Shared):Prop:=
 ∃ v H',s'.os=s.os/\AllBare s'.gens/\Un (kc outer) [] H H' s.heap s'.heap/\eK P w H' s'.heap/\RelV v u/\Q v H'
abbrev CR (CX:qL)(outer:List Env)(P:Program)(w:World)(H:Hp)(s:Shared)(Q:VK)(E:XK)(r:Result)(s':Shared):Prop:=
 match r with
 | .ok (.ret u)=>CE outer P w H s Q u s'
 | .ok _=>False
 | .error e=>CX outer H s E e s'
structure cS (c:Bool) (P:Program) (w:World) (K:W.Frag) (mg:HP) (base:Heap) (CX:qL) (k:Nat) (f:Addr) (fd:FuncData) (ps:List Str) (sp:Sp):Prop where
 len:∀ vs H Q E,sp vs H Q E->vs.length=ps.length
 run:∀ (A:Around) (outer:List Env) (s:Shared) (H:Hp) (args:Args) (us:List Value) (vs:List V) (Q:VK) (E:XK),bJ k A->tD c A.handled H->oH P w K mg base A outer s H->BindsTo s fd args (ps.zip us)->Vals vs us->sp vs H Q E->
  codeAny (model P w) A (.call (.ref f) args) (CR CX outer P w H s Q E) s
variable {c:Bool}{mg:HP}{base:Heap}{CX:qL}{fd:FuncData}{ps:List Str}
def cS.imp {f:Addr}{sp sp':Sp}(F:cS c P w K mg base CX k f fd ps sp)
  (h:∀ vs H Q E,sp' vs H Q E->sp vs H Q E):cS c P w K mg base CX k f fd ps sp':=
 ⟨λvs H Q E q=>F.len vs H Q E (h _ _ _ _ q),λA outer s H args us vs Q E hr hh he hb hv hs=>F.run A outer s H args us vs Q E hr hh he hb hv (h _ _ _ _ hs)⟩
variable {outer:List Env}
def oH.make (e:oH P w K mg base A outer s H)(C:Addr)(us:List Value)(kw:List (Str×Value)):
  oH P w K mg base (A.under (.builtin "type.__call__" ⟨.ref C::us,kw⟩)) outer s H:=⟨by first|exact e.frames|(simpa[Around.under,Code.envs,Code.isFrame,pushEnvs] using e.frames),e.mod,e.bs,e.bsz,e.gA,e.frf,e.hok,e.bare⟩
section
variable {X:Cx}{Y:HN}{U:St}{H:Hp}{s s':Shared}
def Inv.gC (I:Inv X Y U H s):oH X.prog X.w X.K X.mg X.base X.A X.stack s H:=
 ⟨I.ok.frames,I.ok.mod,I.bs,Nat.le_trans I.ok.bsz I.sz,I.stack,I.kR,I.hok,I.bare⟩
def Inv.after {Q:VK}(I:Inv X Y U H s)(h:CE X.stack X.prog X.w H s Q u s'):EP X Y U Q u s':=by
 obtain⟨v,H',os,bare,un,hok,r,q⟩:=h;obtain⟨hh,g,d,t,os'⟩:=s';obtain rfl:os'=s.os:=os;exact⟨v,H',I.call (h':=hh) (g':=g) (d':=d) (t':=t) (ch:=[]) un hok bare (λb z=>absurd z (by simp)),r,q⟩
end
abbrev AD (sp:Sp)(dvs:List V)(E:St->XK)(t:TA):TE:=λU H Q=>t U H λvs H1=>sp (vs++dvs) H1 Q (E U)
abbrev zT (C:Addr)(sp:Sp)(dvs:List V)(E:St->XK)(t:TA):TE:=λU H Q=>t U H λvs H1=>∀ x dx,H1 x=none->H1 dx=none->dx≠x->
 sp (.ref x::(vs++dvs)) (upd (upd H1 dx (.own x)) x (.ins C dx [])) (λv H2=>v=.non/\Q (.ref x) H2) (E U)
abbrev Binds (K:W.Frag)(fd:FuncData)(ps:List Str)(ds:List Value):Prop:=
 ∀ (s:Shared) (us:List Value),K.In s.heap->(us++ds).length=ps.length->BindsTo s fd ⟨us,[]⟩ (ps.zip (us++ds))
def Binds.all (h:∀ us:List Value,us.length=ps.length->bindArgs fd ⟨us,[]⟩=pure (ps.zip us)):Binds K fd ps []:=λs us _ hl=>by
 rw[append_nil]at hl⊢;exact .of_eq (h us hl)
abbrev Passes (CX:qL)(X:Cx)(E:St->XK):Prop:=∀ (Y:HN) (U:St) (H:Hp) (s:Shared) (e:Value) (s':Shared),Inv X Y U H s->CX X.stack H s (E U) e s'->X.xe e s'
variable {vs:List V}
section
variable {c:Bool}{X:Cx}{CX:qL}{k:Nat}{f C:Addr}{fd:FuncData}{ps:List Str}{sp:Sp}{dvs:List V}{ds:List Value}{E:St->XK}{x m:Str}{p pos apos:Pos}{e o:Expr}{es:List Expr}{ta:TE}{t:TA}
def ke {Q:VK}(F:cS c X.prog X.w X.K X.mg X.base CX k f fd ps sp)(hh:∀ {Y:HN}{U:St}{H:Hp}{s:Shared}{vs:List V}{Q:VK}{E:XK},Inv X Y U H s->sp vs H Q E->tD c X.A.handled H) (hr:bJ k X.A) (hb:Binds X.K fd ps ds) (hd:Vals dvs ds) (hx:Passes CX X E)
  (I:Inv X Y U H s) (r:Vals vs us) (h:sp (vs++dvs) H Q (E U)):wpAny (model X.prog X.w) X.A (call (.ref f) us) (EP X Y U Q) X.xe s:=by
 have r2:Vals (vs++dvs) (us++ds):=r.append hd;have hl:(us++ds).length=ps.length:=by rw[<-r2.length];exact F.len _ _ _ _ h
 refine wpAny_call (codeAny_mono (F.run X.A X.stack s H ⟨us,[]⟩ (us++ds) (vs++dvs) Q (E U) hr (hh I h) I.gC (hb s us I.bK hl) r2 h) λr s' hq=>?_);cases r with
 |error e=>exact hx Y U H s e s' I hq
 |ok fl=>
  cases fl with
  |ret u=>exact I.after hq
  |next=>exact False.elim hq
  |brk=>exact False.elim hq
  |cont=>exact False.elim hq
def xN (F:cS c X.prog X.w X.K X.mg X.base CX k f fd ps sp)(hh:∀ {Y:HN}{U:St}{H:Hp}{s:Shared}{vs:List V}{Q:VK}{E:XK},Inv X Y U H s->sp vs H Q E->tD c X.A.handled H) (hr:bJ k X.A) (hg:Gl X x) (hm:X.mg x=some (.ref f)) (hk:W.keepIn X.K (.ref f)=true) (hb:Binds X.K fd ps ds) (hd:Vals dvs ds) (hx:Passes CX X E)
  (ha:PA X (e::es) t) (hdb:(x ==("__debug__":Str))=false:=by decide) (he:bm (e::es) X.env=(false,eval e X.env)::bm es X.env:=by rfl) (hpl:(backTo pos (bm es X.env)).any (·.1)=false:=by rfl):
  PE X (.Call (.Name x p) (e::es) [] pos) (AD sp dvs E t):=by
 intro Y s U H Q I h;refine bv (bz I hg hm ?_ hdb);refine W.callWith_K (h₀:=X.base) I.ok.mod.kin hk (au (ha pos Y s U H _ I h) λus s1 ⟨vs,H1,I1,r,q⟩=>⟨I1.bK,?_⟩) he hpl;exact ke F hh hr hb hd hx I1 r q
def tV (F:cS c X.prog X.w X.K X.mg X.base CX k f fd ps sp)(hh:∀ {Y:HN}{U:St}{H:Hp}{s:Shared}{vs:List V}{Q:VK}{E:XK},Inv X Y U H s->sp vs H Q E->tD c X.A.handled H) (hr:bJ k X.A) (hg:Gl X x) (hm:X.mg x=some (.ref f)) (hk:W.keepIn X.K (.ref f)=true) (hb:Binds X.K fd ps ds) (hd:Vals dvs ds) (hx:Passes CX X E)
  (hdb:(x ==("__debug__":Str))=false:=by decide):PE X (.Call (.Name x p) [] [] pos) (AD sp dvs E yf):=by
 intro Y s U H Q I h;refine bv (bz I hg hm ?_ hdb);exact W.callWith_K0 I.bK hk (ke (us:=[]) F hh hr hb hd hx I .nil h)
structure Mk (K:W.Frag) (C f:Addr):Prop where
 makes:W.makesIn K C=true
 init:W.findIn K (.ref C) "__init__"=some (some (.ref f))
 fn:W.isFn K (.ref f)=true
 kp:W.keepIn K (.ref C)=true
def lQ {Q:VK}(M:Mk X.K C f)(F:cS c X.prog X.w X.K X.mg X.base CX k f fd ps sp)(hh:∀ {Y:HN}{U:St}{H:Hp}{s:Shared}{vs:List V}{Q:VK}{E:XK},Inv X Y U H s->sp vs H Q E->tD c X.A.handled H) (hr:bJ (k+1) X.A) (hb:Binds X.K fd ps ds) (hd:Vals dvs ds)
  (hx:Passes CX X E) (I:Inv X Y U H s) (r:Vals vs us)
  (h:∀ x dx,H x=none->H dx=none->dx≠x->sp (.ref x::(vs++dvs)) (upd (upd H dx (.own x)) x (.ins C dx [])) (λv H2=>v=.non/\Q (.ref x) H2) (E U)):
  wpAny (model X.prog X.w) X.A (call (.ref C) us) (EP X Y U Q) X.xe s:=by
 have hq:=h (s.heap.objs.size+1) s.heap.objs.size (I.hok.fresh (Nat.le_succ _)) (I.hok.fresh (pc _)) (nw (Nat.lt_succ_self _));have I2:=Inv.made (C:=C) I;have r2:Vals (V.ref (s.heap.objs.size+1)::(vs++dvs)) (Value.ref (s.heap.objs.size+1)::(us++ds)):=.cons rfl (r.append hd);have hl:(Value.ref (s.heap.objs.size+1)::us++ds).length=ps.length:=by
  have e:=r2.length;rw[F.len _ _ _ _ hq]at e;exact e.symm
 refine wpAny_call (tH (f:=f) I.bK M.makes M.init (beq_iff_eq.mp M.fn) (codeAny_mono (F.run _ X.stack _ _ ⟨Value.ref (s.heap.objs.size+1)::us,[]⟩ (Value.ref (s.heap.objs.size+1)::(us++ds)) _ _ (E U) (hr.make C us []) (hh I2 hq)
  (I2.gC.make C us []) (hb _ (Value.ref (s.heap.objs.size+1)::us) I2.bK hl) r2 hq) λr s' hq'=>?_))
 cases r with
 |error e=>exact hx Y U _ _ e s' I2 hq'
 |ok fl=>
  cases fl with
  |ret u=>
   obtain⟨v,H',I3,rv,ev,q3⟩:=I2.after hq';subst ev;exact⟨rv,⟨V.ref (s.heap.objs.size+1),H',I3,rfl,q3⟩⟩
  |next=>exact False.elim hq'
  |brk=>exact False.elim hq'
  |cont=>exact False.elim hq'
def yV (M:Mk X.K C f)(F:cS c X.prog X.w X.K X.mg X.base CX k f fd ps sp)(hh:∀ {Y:HN}{U:St}{H:Hp}{s:Shared}{vs:List V}{Q:VK}{E:XK},Inv X Y U H s->sp vs H Q E->tD c X.A.handled H) (hr:bJ (k+1) X.A) (hg:Gl X x) (hm:X.mg x=some (.ref C)) (hb:Binds X.K fd ps ds) (hd:Vals dvs ds) (hx:Passes CX X E)
  (ha:PA X (e::es) t) (hdb:(x ==("__debug__":Str))=false:=by decide) (he:bm (e::es) X.env=(false,eval e X.env)::bm es X.env:=by rfl) (hpl:(backTo pos (bm es X.env)).any (·.1)=false:=by rfl):
  PE X (.Call (.Name x p) (e::es) [] pos) (zT C sp dvs E t):=by
 intro Y s U H Q I h;refine bv (bz I hg hm ?_ hdb);refine W.callWith_K (h₀:=X.base) I.ok.mod.kin M.kp (au (ha pos Y s U H _ I h) λus s1 ⟨vs,H1,I1,r,q⟩=>⟨I1.bK,?_⟩) he hpl;exact lQ M F hh hr hb hd hx I1 r q
def ve (M:Mk X.K C f)(F:cS c X.prog X.w X.K X.mg X.base CX k f fd ps sp)(hh:∀ {Y:HN}{U:St}{H:Hp}{s:Shared}{vs:List V}{Q:VK}{E:XK},Inv X Y U H s->sp vs H Q E->tD c X.A.handled H) (hr:bJ (k+1) X.A) (hg:Gl X x) (hm:X.mg x=some (.ref C)) (hb:Binds X.K fd ps ds) (hd:Vals dvs ds) (hx:Passes CX X E)
  (hdb:(x ==("__debug__":Str))=false:=by decide):PE X (.Call (.Name x p) [] [] pos) (zT C sp dvs E yf):=by
 intro Y s U H Q I h;refine bv (bz I hg hm ?_ hdb);exact W.callWith_K0 I.bK M.kp (lQ (us:=[]) M F hh hr hb hd hx I .nil h)
end
section
variable {X:Cx}{CX:qL}{k:Nat}{f C:Addr}{fd:FuncData}{ps ks:List Str}{sp:Sp}{E:St->XK}{x m:Str}{p pos apos kpos:Pos}{e o:Expr}{es:List Expr}{kws:List Keyword}{te ta:TE}{t tk:TA}{nm:Option Str}
variable {g:List Value->List Value->List Value}{gV:List V->List V->List V}
end
structure ip (N P:List Str) (sc:Scope):Prop where
 kind:sc.kind=.function
 co:sc.isCoroutine=false
 gen:sc.isGenerator=false
 nd:N.Nodup
 pre:N.take P.length=P
 par:∀ x ∈ P,sc.names.lookup x=some .local\/sc.names.lookup x=some .cell
 nofree:∀ y ∈ sc.names,y.2≠.free
def jJ {kindOf:Str->Option NameKind}{x:Str}:∀ {binds:List (Str×Value)}{m:HP},(∀ v,(x,v) ∉ binds)->bindL kindOf binds m x=m x
 | [],_,_=>rfl
 |(n,v)::r,m,h=>by
  unfold bindL;rw[jJ λw hw=>h w (dl _ hw)]
  split
  .have:x≠n:=by rintro rfl;exact h v le
   simp[this]
  .rfl
def jU {kindOf:Str->Option NameKind}{x:Str}:∀ {binds:List (Str×Value)}{m:HP},(∀ v,(x,v) ∉ binds)->bindC kindOf binds m x=m x
 | [],_,_=>rfl
 |(n,v)::r,m,h=>by
  unfold bindC;rw[jU λw hw=>h w (dl _ hw)]
  split
  .rfl
  .have:x≠n:=by rintro rfl;exact h v le
   simp[this]
def jS {kindOf:Str->Option NameKind}{x:Str}{v:Value}:∀ {P:List Str}{vs:List Value}{i:Nat}{m:HP},P.Nodup->P[i]? =some x->vs[i]? =some v->kindOf x=some .local->
  bindL kindOf (P.zip vs) m x=some v
 | [],_,_,_,_,h,_,_=>by simp at h
 |_::_,[],_,_,_,_,h,_=>by simp at h
 |p::P,w::vs,0,m,nd,h1,h2,hk=>by
  simp at h1 h2;subst h1;subst h2;show bindL kindOf ((p,w)::P.zip vs) m p=_;unfold bindL;rw[jJ λv hv=>(nodup_cons.mp nd).1 (of_mem_zip hv).1,if_pos hk];simp
 |p::P,w::vs,i+1,m,nd,h1,h2,hk=>by
  show bindL kindOf ((p,w)::P.zip vs) m x=_;unfold bindL;exact jS (i:=i) (nodup_cons.mp nd).2 (by simpa using h1) (by simpa using h2) hk
def j0 {kindOf:Str->Option NameKind}{x:Str}{v:Value}:∀ {P:List Str}{vs:List Value}{i:Nat}{m:HP},P.Nodup->P[i]? =some x->vs[i]? =some v->kindOf x≠some .local->
  bindC kindOf (P.zip vs) m x=some v
 | [],_,_,_,_,h,_,_=>by simp at h
 |_::_,[],_,_,_,_,h,_=>by simp at h
 |p::P,w::vs,0,m,nd,h1,h2,hk=>by
  simp at h1 h2;subst h1;subst h2;show bindC kindOf ((p,w)::P.zip vs) m p=_;unfold bindC;rw[jU λv hv=>(nodup_cons.mp nd).1 (of_mem_zip hv).1,if_neg hk];simp
 |p::P,w::vs,i+1,m,nd,h1,h2,hk=>by
  show bindC kindOf ((p,w)::P.zip vs) m x=_;unfold bindC;exact j0 (i:=i) (nodup_cons.mp nd).2 (by simpa using h1) (by simpa using h2) hk
abbrev start (N:List Str)(vs:List V):St:=vs.map some++sn (N.length-vs.length) none
abbrev rz (c:Bool)(CX:qL)(P:Program)(w:World)(K:W.Frag)(mg:HP)(base:Heap)(N:List Str)(qual:Str)(scope:Scope)(f:Addr)(cd:Value)(A:Around)(outer:List Env)(s:Shared)(H:Hp)(E:XK):Cx where
 prog:=P
 w:=w
 K:=K
 mg:=mg
 base:=base
 A:=A.deeper (envOfC qual scope s.heap.objs.size f cd)
 N:=N
 s₀:=s
 H₀:=H
 env:=envOfC qual scope s.heap.objs.size f cd
 outer:=outer
 stack:=envOfC qual scope s.heap.objs.size f cd::outer
 ex:=[]
 calm:=c
 fn:=λ_=>true
 pn:=[]
 xe:=λe s'=>wpAny (model P w) (A.deeper (envOfC qual scope s.heap.objs.size f cd)) (leaving (envOfC qual scope s.heap.objs.size f cd) e) (λ_ s''=>CX outer H s E e s'') (λe' s''=>CX outer H s E e' s'') s'
def mJ {sc:Scope}{n:Nat}(h:sc.names.lookup x=some .cell):∃ c,(cellsFrom n sc.names []).lookup x=some c:=by
 have q:=W.cellsFrom_some sc.names n [] (.inl h);exact Option.isSome_iff_exists.mp q
variable {scope:Scope}
def rh {N:List Str}{qual:Str}{f:Addr}{cd:Value}{s1:Shared}{E:XK}
  (S:ip N ps scope) (hd:c=true->A.handled=none) (e0:oH P w K mg base A outer s H) (hl:vs.length=ps.length) (r:Vals vs us)
  (x:InCallC s s.heap.objs.size (bindL (envOfC qual scope s.heap.objs.size f cd).kindOf (ps.zip us) λ_=>none) (cellsFrom (s.heap.objs.size+1) scope.names []) (bindC (envOfC qual scope s.heap.objs.size f cd).kindOf (ps.zip us) λ_=>none) s1):
  Inv (rz c CX P w K mg base N qual scope f cd A outer s H E) [] (start N vs) H s1:=by
 have hpl:ps.length<=N.length:=by have:=congrArg List.length S.pre;rw[db]at this;omega
 obtain⟨h1,tk,rfl,hk⟩:=x.done;have noA:∀ b:Addr,b ∉ (rz c CX P w K mg base N qual scope f cd A outer s H E).ex:=λb z=>absurd (show b ∈ ([]:List Addr) from z) (by simp)
 refine⟨⟨e0.mod,S.kind,rfl,rfl,pc _,λy z c h1 h2=>?_,λy hy=>?_,λy c _ h=>?_,hd,Around.frames_deeper e0.frames,.inr ⟨rfl,rfl⟩,λb z=>absurd z (noA b),e0.bs,e0.bsz,λb _ _=>noA b,λb z=>absurd z (noA b),e0.gA,e0.frf⟩,
  rfl,e0.bare,Un.kept hk,⟨_,x.toInCall.ns,λi y v h1 h2 h3=>?_⟩,λy c h=>⟨_,x.cell y c h⟩,e0.hok.fresh (pc _),λy c h=>?_,λp hp=>absurd (show p ∈ ([]:HN) from hp) (by simp),e0.hok.kept hk,?_⟩
 .exact name_of_addr x.apart (PySem.mem_of_lookup h1) (PySem.mem_of_lookup h2)
 .have hy:scope.names.lookup y=some .cell\/scope.names.lookup y=some .free:=hy;rcases hy with hy|hy
  .exact mJ hy
  .exact absurd rfl (S.nofree _ (PySem.mem_of_lookup hy))
 .exact Nat.le_of_lt (x.above y c (PySem.mem_of_lookup h))
 .have hi:i<vs.length:=by
   unfold start at h2
   by_cases hi:i<vs.length
   .exact hi
   .rw[getElem?_append_right (by simpa using hi)]at h2;rw[List.getElem?_replicate]at h2
    split at h2<;>cases h2
  have ha:vs[i]? =some v:=by
   unfold start at h2;rw[getElem?_append_left (by simpa using hi),ii]at h2;cases e:vs[i]? with
   |none=>rw[e]at h2;cases h2
   |some a=>rw[e]at h2;cases h2;rfl
  obtain⟨u,hu,rv⟩:=r.get ha;have hp:ps[i]? =some y:=by
   rw[<-S.pre,List.getElem?_take_of_lt nofun];exact h1
  have ndP:ps.Nodup:=by rw[<-S.pre];exact S.nd.sublist (take_sublist _ _)
  refine⟨u,rv,?_⟩;rcases S.par y (cr hp) with k|k
  .exact .inl ⟨k,jS ndP hp hu k⟩
  .obtain⟨c,e⟩:=mJ (n:=s.heap.objs.size+1) k;refine .inr ⟨.inl k,c,e,?_⟩;have q:=x.cell y c e;rw[j0 ndP hp hu (by show scope.names.lookup y≠_;rw[k];decide)]at q;exact q
 .exact e0.hok.fresh (Nat.le_of_lt (x.above y c (PySem.mem_of_lookup h)))
 .unfold start;show _=N.length;rw[ci,ce,length_replicate]
  omega
def Dn {f:Addr}{name qual:Str}{params:Arguments}{dV kV doc pm cdv ct oc:Value}{an od:Option Addr}
  {osl:Array (Option Value)}{N:List Str}{sp:Sp}(lk:K.lookup f=some ⟨oc,od,.func (W.fnOf name qual params body scope dV kV doc pm an cdv ct),osl⟩) (hcd:W.codeIn K cdv qual=true) (S:ip N ps scope)
  (len:∀ vs H Q E,sp vs H Q E->vs.length=ps.length)
  (hbody:∀ (A:Around) (outer:List Env) (s:Shared) (H:Hp) (vs:List V) (Q:VK) (E:XK),bJ k (A.deeper (envOfC qual scope s.heap.objs.size f cdv))->tD c A.handled H->sp vs H Q E->
   ∃ t,zP (rz c CX P w K mg base N qual scope f cdv A outer s H E) body t/\t { nx:=λ_ H'=>Q .non H',rt:=Q } (start N vs) H):
  cS c P w K mg base CX (k+1) f (W.fnOf name qual params body scope dV kV doc pm an cdv ct) ps sp:=by
 refine⟨len,λA outer s H args us vs Q E hr hh e0 hb r hsp=>?_⟩;have hl:=len _ _ _ _ hsp;have KX:K.In s.heap:=e0.mod.kin.keeps λb o e=>(e0.bs b o e).1
 have lim:s.heap.NoLimit:=e0.mod.nolimit.keeps λb o e=>(e0.bs b o e).1
 have hkind:∀ y ∈ ps.zip us,scope.names.lookup y.1=some .local\/(scope.names.lookup y.1=some .cell/\((cellsFrom (s.heap.objs.size+1) scope.names []).lookup y.1).isSome=true):=λ⟨n,v⟩ hy=>by
  rcases S.par n (of_mem_zip hy).1 with q|q
  .exact .inl q
  .exact .inr ⟨q,W.cellsFrom_some _ _ _ (.inl q)⟩
 refine codeAny_call_function hr.depth (KX _ _ lk) rfl S.co S.gen rfl (W.codeRec_of KX hcd) (hb _ _ _ _ ?_);refine wpAny_newFunctionEnv_cells S.kind hkind λenv he s1 x=>?_
 subst he;refine⟨lim.keeps x.toInCall.keep,codeAny_func ?_⟩;obtain⟨t,ht,hq⟩:=hbody A outer s H vs Q E (hr.deeper _) hh hsp;have I:Inv (rz c CX P w K mg base N qual scope f cdv A outer s H E) [] (start N vs) H s1:=rh S (λz=>by subst z;exact hh) e0 hl r x;refine wpAny_mono (ht [] s1 (start N vs) H _ I hq) (λfl s' hs=>?_) λe s' hs=>hs
 have fin:∀ {σ':St}{H':Hp}{v:V}{u:Value},Inv (rz c CX P w K mg base N qual scope f cdv A outer s H E) [] σ' H' s'->RelV v u->Q v H'->CE outer P w H s Q u s':=
  λ{σ' H' v u} J rv q=>⟨v,H',J.os,J.bare,J.base,J.hok,rv,q⟩
 cases fl with
 |ret u=>
  obtain⟨v,σ',H',J,rv,q⟩:=hs;exact fin J rv q
 |next=>
  obtain⟨σ',H',J,q⟩:=hs;exact fin (v:=V.non) (u:=Value.none) J rfl q
 |brk=>
  obtain⟨_,_,_,q⟩:=hs;exact False.elim q
 |cont=>
  obtain⟨_,_,_,q⟩:=hs;exact False.elim q
section
variable {X:Cx}{x:Str}{p pos:Pos}{e:Expr}{es:List Expr}{t:TA}{id T:String}{r:List V->Hp->VK->Prop}
abbrev GI (r:List V->Hp->VK->Prop)(t:TA):TE:=λU H Q=>t U H λvs H1=>r vs H1 Q
def iO (hc:cp X (.builtin id) r)(hg:Gl X x)(hm:X.mg x=none)(hv:bootBuiltins x=some (.builtin id))(ha:PA X (e::es) t)(hn:x≠"__name__":=by decide) (hdb:(x ==("__debug__":Str))=false:=by decide)
  (he:bm (e::es) X.env=(false,eval e X.env)::bm es X.env:=by rfl) (hpl:(backTo pos (bm es X.env)).any (·.1)=false:=by rfl):PE X (.Call (.Name x p) (e::es) [] pos) (GI r t):=by
 intro Y s U H Q I h;refine bv (dA I hg hm hv ?_ hn hdb);exact PyProof.Rows.callWith_builtin1 (au (ha pos Y s U H _ I h) λus s1 ⟨vs,H1,I1,r1,q1⟩=>hc Y s1 U H1 vs us Q I1 r1 q1) he hpl
def sk (hc:cp X (.type T) r)(hg:Gl X x)(hm:X.mg x=none)(hv:bootBuiltins x=some (.type T))(ha:PA X (e::es) t)(hn:x≠"__name__":=by decide) (hdb:(x ==("__debug__":Str))=false:=by decide)
  (he:bm (e::es) X.env=(false,eval e X.env)::bm es X.env:=by rfl) (hpl:(backTo pos (bm es X.env)).any (·.1)=false:=by rfl):PE X (.Call (.Name x p) (e::es) [] pos) (GI r t):=by
 intro Y s U H Q I h;refine bv (dA I hg hm hv ?_ hn hdb);exact PyProof.Rows.callWith_type1 (au (ha pos Y s U H _ I h) λus s1 ⟨vs,H1,I1,r1,q1⟩=>hc Y s1 U H1 vs us Q I1 r1 q1) he hpl
end
end L2
namespace HT
open PySem PyProof.Rows
section
open PySem.SeqAt
open PySem.AutoSeq1 (wpAny_loadPart')
open PySem.MeetsSeq PySem.MeetsSeq2 PySem.MeetsSeq3
end
variable {Q:HM}
section
variable {prog:Program}{w:World}{A:Around}{E:HM}{s:Shared}
def yt {t b:Addr}{vs ws:List Value}(ht:IsTup s.heap t vs.toArray)(hb:IsTup s.heap b ws.toArray)(hv:vs≠[])
  (h1:ws=[]->Q (.ref t) s) (h2:ws≠[]->Q (.ref s.heap.objs.size) { s with heap:=s.heap.push { cls:=.type "tuple",data:=.seq (vs++ws).toArray } })
  (hsz:vs.length+ws.length<=bn):wpAny (model prog w) A (binaryOp .Add (.ref t) (.ref b)) Q E s:=by
 obtain⟨⟨cls,dd,data,sl⟩,ho,hc,n,hd⟩:=id ht;obtain⟨⟨cls2,dd2,data2,sl2⟩,ho2,hc2,n2,hd2⟩:=id hb;simp only at hc hd hc2 hd2;subst hc hd hc2 hd2;have e:vs.toArray++ws.toArray=(vs++ws).toArray:=by simp
 by_cases hw:ws=[]
 .exact concat_meets ⟨_,ho,rfl⟩ ⟨_,ho2,rfl⟩ noFill_tuple_add seq_tuple_add PySem.F.slot_tuple_add PySem.F.entry_tuple_add (PySem.F.args_tuple_add_2 _ _)
   (tuple_addW1 t b vs.toArray ws.toArray n n2 dd dd2 sl sl2 (by simpa using hv) (by simp[hw])) ⟨ho,ho2,h1 hw⟩
 .refine concat_meets ⟨_,ho,rfl⟩ ⟨_,ho2,rfl⟩ noFill_tuple_add seq_tuple_add PySem.F.slot_tuple_add PySem.F.entry_tuple_add (PySem.F.args_tuple_add_2 _ _)
   (tuple_addW2 t b vs.toArray ws.toArray n n2 dd dd2 sl sl2 (by simpa using hv) (by simpa using hw) (by rw[ge,ge];exact hsz)) ⟨ho,ho2,?_⟩
  rw[e];exact h2 hw
abbrev bD (n d:Nat):Option Int->Nat
 |none=>d
 |some v=>if v<0 then(v+(n:Int)).toNat else min v.toNat n
def CS (n d:Nat)(hd:d<=n)(o:Option Int):bD n d o<=n:=by
 cases o with
 |none=>exact hd
 |some v=>
  show(if v<0 then(v+(n:Int)).toNat else min v.toNat n)<=n
  by_cases hv:v<0
  .rw[if_pos hv];omega
  .rw[if_neg hv];exact Nat.min_le_right _ _
def qK (v:Int)(n d:Nat):(if v<0 then max (v+(n:Int)) 0 else min v (n:Int))=((bD n d (some v):Nat):Int):=by
 show(if v<0 then max (v+(n:Int)) 0 else min v (n:Int))=(((if v<0 then(v+(n:Int)).toNat else min v.toNat n):Nat):Int)
 by_cases hv:v<0
 .simp only[if_pos hv];omega
 .simp only[if_neg hv];omega
def oo (lo hi:Option Int)(n:Nat):Builtin.Slice.sliceAdjust lo hi 1 (n:Int)=(((bD n 0 lo:Nat):Int),((bD n n hi:Nat):Int)):=by
 have h1:¬ ((1:Int)<0):=by omega
 unfold Builtin.Slice.sliceAdjust;simp only[h1,if_false];refine Prod.ext ?_ ?_
 .cases lo with
  |none=>rfl
  |some v=>exact qK v n 0
 .cases hi with
  |none=>rfl
  |some v=>exact qK v n n
def nI (i j:Nat):Builtin.Slice.slicePlaces (i:Int) (j:Int) 1=j-i:=by
 unfold Builtin.Slice.slicePlaces;have h1:(1:Int)>0:=by omega
 simp only[h1,if_true,Int.ediv_one]
 split<;>omega
def iH {v:Value}{o:Option Int}{Q:Option Int->Shared->Prop}(p:IsPart v o)(h:Q o s):wpAny (model prog w) A (Builtin.Slice.slicePartIndex v) Q E s:=by
 cases p with
 |none=>exact slicePart_none h
 |int i t=>exact slicePart_int h
def gx {sl:Addr}{vl vu:Value}{lo hi:Option Int}{n:Nat}{Q:Int×Int×Nat->Shared->Prop}(hs:s.heap.IsSliceOf sl vl vu .none)(pl:IsPart vl lo)(pu:IsPart vu hi)
  (h:Q (((bD n 0 lo:Nat):Int),1,bD n n hi-bD n 0 lo) s):wpAny (model prog w) A (Builtin.Slice.sliceApplied (.ref sl) (pure (n:Int))) Q E s:=by
 obtain⟨os,hos,hcs,hds⟩:=id hs;unfold Builtin.Slice.sliceApplied Builtin.Slice.sliceFields;refine ad (ad (ap hos hds (x:=vl) rfl (ad (ap hos hds (x:=vu) rfl (ad (ap hos hds (x:=.none) rfl (am ?_)))))));refine ad (slicePart_none ?_);show wpAny _ _ (if((1:Int) ==0)=true then _ else _) _ _ s;rw[if_neg (by decide)];refine ad (iH pl (ad (iH pu (ad (am ?_)))));show wpAny _ _ (match Builtin.Slice.sliceAdjust lo hi 1 (n:Int) with|(lo,hi)=>pure (lo,(1:Int),Builtin.Slice.slicePlaces lo hi 1)) _ _ s;rw[oo lo hi n];show wpAny _ _ (pure (((bD n 0 lo:Nat):Int),(1:Int),Builtin.Slice.slicePlaces ((bD n 0 lo:Nat):Int) ((bD n n hi:Nat):Int) 1)) _ _ s;rw[nI];exact am h
def wu (xs:Array Value)(i k:Nat):((List.range k).filterMap λ(m:Nat)=>xs[((i:Int)+(m:Int)*1).toNat]?).toArray=((xs.toList.drop i).take k).toArray:=by
 have e:(λ(m:Nat)=>xs[((i:Int)+(m:Int)*1).toNat]?)=λm=>xs[i+m]? :=by
  funext m
  have:((i:Int)+(m:Int)*1).toNat=i+m:=by omega
  rw[this]
 rw[e];have:=pick_run xs i k;rw[List.filterMap_map]at this;have e2:((λx=>xs[x]?)∘λx=>i+x)=λm=>xs[i+m]? :=rfl
 rw[e2]at this;rw[this]
def fP {t sl:Addr}{items:Array Value}{vl vu:Value}{lo hi:Option Int}(ht:IsTup s.heap t items)(hs:s.heap.IsSliceOf sl vl vu .none)(pl:IsPart vl lo)(pu:IsPart vu hi)
  (hw:¬ (bD items.size 0 lo=0/\bD items.size items.size hi=items.size))
  (h:Q (.ref s.heap.objs.size) { s with heap:=s.heap.push { cls:=.type "tuple",data:=.seq ((items.toList.drop (bD items.size 0 lo)).take (bD items.size items.size hi-bD items.size 0 lo)).toArray } })
  (hsz:items.size<=bn):wpAny (model prog w) A (getItem (.ref t) (.ref sl)) Q E s:=by
 have htake:sizeOk (.seq ((items.toList.drop (bD items.size 0 lo)).take (bD items.size items.size hi-bD items.size 0 lo)).toArray):=by
  show((items.toList.drop (bD items.size 0 lo)).take (bD items.size items.size hi-bD items.size 0 lo)).toArray.size<=bn;rw[ge,db,im,Array.length_toList]
  omega
 have hj:bD items.size items.size hi<=items.size:=CS _ _ (pc _) hi;obtain⟨os,hos,hcs,hds⟩:=id hs;have hTs:s.TypeIs (.ref sl) "slice":=⟨os,hos,hcs⟩;unfold getItem
 try with_reducible refine bd ?_
 first|refine ad (am ?_)|skip
 refine ad (wpAny_sequenceKey ht.typeIs (by decide) ?_);refine ad (wpAny_callSpecial?_slot (name:=Str.ofString "__getitem__") ht.typeIs PyProof.Rows.slot_tuple_getitem
  (wpAny_call_entry PyProof.Rows.slot_tuple_getitem ht.typeIs entry_tuple_getitem ?_ (args_tuple_getitem _ _)))
 show wpAny _ _ (Builtin.Tuple.tupleItemsOf (.ref t) >>= _) _ _ s;refine ad (tupleItemsOf_ ht ?_);refine ad (wpAny_typeOf hTs ?_);rw[if_pos (by decide)];refine ad (gx hs pl pu ?_);have hno:¬ ((((bD items.size 0 lo:Nat):Int) ==0&&(1:Int) ==1&&(bD items.size items.size hi-bD items.size 0 lo) ==items.size)=true):=by
  intro q;rw[li,li]at q;have q1:((bD items.size 0 lo:Nat):Int)=0:=eq_of_beq q.1.1;have q2:bD items.size items.size hi-bD items.size 0 lo=items.size:=eq_of_beq q.2;exact hw ⟨by omega,by omega⟩
 show wpAny _ _ (if(((bD items.size 0 lo:Nat):Int) ==0&&(1:Int) ==1&&(bD items.size items.size hi-bD items.size 0 lo) ==items.size)=true then _ else _) _ _ s;rw[if_neg hno,wu]
 first
  |exact ad (m:=Builtin.Tuple.tupleExact _) (wpAny_newObj_type (am ⟨_,rfl,am h⟩) htake)
  |exact ad (m:=Builtin.Tuple.tupleExact _) (wpAny_newObj_type (ad (am (am ⟨_,rfl,am h⟩))) htake)
  |exact ad (ad (m:=Builtin.Tuple.tupleExact _) (wpAny_newObj_type (am (am ⟨_,rfl,am h⟩)) htake))
  |exact ad (ad (m:=Builtin.Tuple.tupleExact _) (wpAny_newObj_type (am ⟨_,rfl,am h⟩) htake))
end
end HT
namespace L2
open PySem PySem.Spec PyProof.Rows
@[reducible]def TO:=St->Hp->(Option Int->Hp->Prop)->Prop
abbrev PO (X:Cx)(e:Option Expr)(t:TO):Prop:=
 ∀ (Y:HN) (s:Shared) (U:St) (H:Hp) (Q:Option Int->Hp->Prop),Inv X Y U H s->t U H Q->
  wpAny (model X.prog X.w) X.A (evalPart e X.env) (λu s'=>∃ o H',Inv X Y U H' s'/\IsPart u o/\Q o H') X.xe s
abbrev xX:TO:=λ_ H Q=>Q none H
abbrev Dx (t:TE):TO:=λU H Q=>t U H λx H1=>∃ i,x=.int i/\Q (some i) H1
variable {us:List Value}
section
variable {X:Cx}{e:Expr}{te:TE}{lo hi:Option Expr}{tl th:TO}{pos p2:Pos}
def yq:PO X none xX:=by
 intro Y s U H Q I h;rw[evalPart_none];exact am ⟨none,H,I,.none,h⟩
def yB (h:PE X e te):PO X (some e) (Dx te):=by
 intro Y s U H Q I hw;rw[evalPart_some];refine au (h Y s U H _ I hw) λu s1 ⟨x,H1,I1,r1,q1⟩=>?_
 obtain⟨i,rfl,q⟩:=q1;obtain⟨t,rfl⟩:=r1;exact⟨some i,H1,I1,.int i t,q⟩
abbrev DG (X:Cx)(r:V->Option Int->Option Int->Hp->VK->Prop):Prop:=
 ∀ (Y:HN) (s:Shared) (U:St) (H:Hp) (x:V) (v vl vu:Value) (lo hi:Option Int) (sl:Addr) (Q:VK),Inv X Y U H s->RelV x v->s.heap.IsSliceOf sl vl vu .none->IsPart vl lo->IsPart vu hi->r x lo hi H Q->
  ∃ T id,typeLookup (.type T) "__getitem__"=pure (some (.builtin id))/\s.TypeIs v T/\wpAny (model X.prog X.w) X.A (getItem v (.ref sl)) (EP X Y U Q) X.xe s
abbrev Hz (r:V->Option Int->Option Int->Hp->VK->Prop)(te:TE)(tl th:TO):TE:=λU H Q=>te U H λx H1=>tl U H1 λl H2=>th U H2 λu H3=>r x l u H3 Q
def uz {r:V->Option Int->Option Int->Hp->VK->Prop}(hr:DG X r)(he:PE X e te)(hl:PO X lo tl)(hu:PO X hi th):PE X (.Subscript e (.Slice lo hi none p2) pos) (Hz r te tl th):=by
 intro Y s U H Q I h;refine Subscript_ (au (he Y s U H _ I h) λv s1 ⟨x,H1,I1,r1,q1⟩=>?_);refine wpAny_Slice (au (hl Y s1 U H1 _ I1 q1) λvl s2 ⟨l,H2,I2,pl,q2⟩=>au (hu Y s2 U H2 _ I2 q2) λvu s3 ⟨u,H3,I3,pu,q3⟩=>?_);rw[evalPart_none];refine am ?_;have I4:Inv X Y U H3 { s3 with heap:=s3.heap.push { cls:=.type "slice",data:=.fields #[vl,vu,.none] } }:=I3.kept (t':=s3.toks) λb ob q=>sK _ q
 obtain⟨T,id,hT,ht,hg⟩:=hr Y { s3 with heap:=s3.heap.push { cls:=.type "slice",data:=.fields #[vl,vu,.none] } } U H3 x v vl vu l u s3.heap.objs.size Q I4 r1 (Heap.IsSliceOf.new ..) pl pu q3;show wpAny (model X.prog X.w) X.A (subscriptTail e (.Slice lo hi none p2) v (.ref s3.heap.objs.size)) (EP X Y U Q) X.xe { s3 with heap:=s3.heap.push { cls:=.type "slice",data:=.fields #[vl,vu,.none] } };exact tail_any (ops:=[.ref s3.heap.objs.size,v]) ht hT hg (by with_unfolding_all rfl)
abbrev aZ (xs:List V)(lo hi:Option Int):List V:=(xs.drop (HT.bD xs.length 0 lo)).take (HT.bD xs.length xs.length hi-HT.bD xs.length 0 lo)
def gN (xs:List V)(lo hi:Option Int):(aZ xs lo hi).length<=xs.length:=by
 unfold aZ;rw[db,im]
 omega
abbrev Ew (K:W.Frag):V->Option Int->Option Int->Hp->VK->Prop:=λx lo hi H Q=>∃ a xs,x=.ref a/\aY K H a xs/\
 ¬ (HT.bD xs.length 0 lo=0/\HT.bD xs.length xs.length hi=xs.length)/\∀ p,H p=none->Q (.ref p) (upd H p (.tup (aZ xs lo hi)))
def Co:DG X (Ew X.K):=by
 intro Y s U H x v vl vu lo hi sl Q I rx hs pl pu h;obtain⟨a,xs,rfl,hx,hw,q⟩:=h;cases rx;obtain⟨its,r,ht,hz⟩:=I.tuple hx;have hlen:its.toArray.size=xs.length:=by rw[ge];exact r.length.symm
 refine⟨"tuple",_,PyProof.Rows.slot_tuple_getitem.lookup,ht.typeIs,?_⟩;refine HT.fP ht hs pl pu (by rw[hlen];exact hw) ?_ (by rw[hlen];exact hz);rw[hlen];refine⟨.ref s.heap.objs.size,_,I.laid (t':=s.toks) (o:=.tup (aZ xs lo hi)) (λb ob q=>sK _ q) (pc _) ?_,rfl,q _ (I.hok.fresh (pc _))⟩;exact⟨Nat.le_trans (gN xs lo hi) hz,_,(r.drop (HT.bD xs.length 0 lo)).take (HT.bD xs.length xs.length hi-HT.bD xs.length 0 lo),IsTup.new _ _⟩
abbrev zV (K:W.Frag):R2:=λx y H Q=>∃ a b xs ys,x=.ref a/\y=.ref b/\aY K H a xs/\aY K H b ys/\xs≠[]/\xs.length+ys.length<=bn/\
 (ys=[]->Q (.ref a) H)/\(ys≠[]->∀ p,H p=none->Q (.ref p) (upd H p (.tup (xs++ys))))
def Vals.kU {xs:List V}(r:Vals xs us):us=[] ↔ xs=[]:=by
 cases r with
 |nil=>simp
 |cons _ _=>simp
def xJ:bR X (binaryOp .Add) (zV X.K):=by
 intro Y s U H x y v u Q I rx ry h;obtain⟨a,b,xs,ys,rfl,rfl,ha,hb,hx,hz,q1,q2⟩:=h;cases rx;cases ry;obtain⟨its,r1,p1,_⟩:=I.tuple ha;obtain⟨ir,r2,p2,_⟩:=I.tuple hb;refine HT.yt p1 p2 (λz=>hx (r1.kU.mp z)) (λz=>⟨.ref a,H,I,rfl,q1 (r2.kU.mp z)⟩) (λz=>?_) (by rw[<-r1.length,<-r2.length];exact hz);refine⟨.ref s.heap.objs.size,_,I.laid (t':=s.toks) (o:=.tup (xs++ys)) (λb ob q=>sK _ q) (pc _) ?_,rfl,q2 (λw=>z (r2.kU.mpr w)) _ (I.hok.fresh (pc _))⟩;exact⟨by rw[ci];exact hz,_,r1.append r2,IsTup.new _ _⟩
end
abbrev tm (n:Nat)(i:Int):Option Nat:=if 0<=i then(if i<n then some i.toNat else none) else if -(n:Int)<=i then some (i+n).toNat else none
variable {α:Type}
abbrev jw (xs:List α)(i:Int):Option α:=(tm xs.length i).bind λj=>xs[j]?
variable {n:Nat}
def p9 {i:Int}{j:Nat}(h:tm n i=some j):seqIndex? i n=some j/\j<n/\ -(n:Int)<=i/\i<n:=by
 unfold tm at h
 by_cases h0:0<=i
 .rw[if_pos h0]at h
  by_cases h1:i<n
  .rw[if_pos h1]at h;have e:i.toNat=j:=Option.some.inj h;exact⟨by rw[seqIndex_of h0 h1,e],by omega,by omega,h1⟩
  .rw[if_neg h1]at h;cases h
 .rw[if_neg h0]at h
  by_cases h1: -(n:Int)<=i
  .rw[if_pos h1]at h;have e:(i+n).toNat=j:=Option.some.inj h;exact⟨by rw[seqIndex_neg nofun h1,e],by omega,h1,by omega⟩
  .rw[if_neg h1]at h;cases h
def fN {xs:List α}{i:Int}{v:α}(h:jw xs i=some v):∃ j,seqIndex? i xs.length=some j/\xs[j]? =some v/\j<xs.length/\ -(xs.length:Int)<=i/\i<xs.length:=by
 unfold jw at h;cases e:tm xs.length i with
 |none=>rw[e]at h;cases h
 |some j=>
  rw[e]at h;obtain⟨h1,h2,h3,h4⟩:=p9 e;exact⟨j,h1,h,h2,h3,h4⟩
def kC {xs:List α}{j:Nat}{v:α}(h:xs[j]? =some v):jw xs (j:Int)=some v:=by
 have hj:j<xs.length:=(sw.mp h).1;have e:tm xs.length (j:Int)=some j:=by
  unfold tm;rw[if_pos nofun,if_pos nofun];simp
 unfold jw;rw[e];exact h
abbrev qA (b:Expr):Prop:=∀ o i,subscripted b false o i=operate [o,i] (getItem o i)
abbrev EG (X:Cx)(r:R2):Prop:=
 ∀ (value slice:Expr) (Y:HN) (s:Shared) (U:St) (H:Hp) (x y:V) (v u:Value) (Q:VK),Inv X Y U H s->RelV x v->RelV y u->r x y H Q->
  subscripted slice false v u=operate [v,u] (getItem v u)->wpAny (model X.prog X.w) X.A (subscriptTail value slice v u) (EP X Y U Q) X.xe s
abbrev C0 (X:Cx)(id:String)(r:V->List V->Hp->VK->Prop):Prop:=
 ∀ (Y:HN) (s:Shared) (U:St) (H:Hp) (x:V) (xs:List V) (v:Value) (us:List Value) (Q:VK),Inv X Y U H s->RelV x v->Vals xs us->r x xs H Q->
  wpAny (model X.prog X.w) X.A (call (.builtin id) (v::us)) (EP X Y U Q) X.xe s
variable {Y:HN}{U:St}{H:Hp}{s:Shared}{y:V}{u:Value}
section
variable {X:Cx}{a b:Expr}{ta tb:TE}{pos:Pos}
def Dq {r:R2}(hr:EG X r)(ha:PE X a ta)(hb:PE X b tb)(hs:qA b):PE X (.Subscript a b pos) (E4 r ta tb):=by
 intro Y s U H Q I h;exact Subscript_ (CT ha hb I h λv u s2 x y H2 I2 rx ry q=>hr a b Y s2 U H2 x y v u Q I2 rx ry q (hs _ _))
abbrev F6 (K:W.Frag):R2:=λx y H Q=>∃ p xs i v,x=.ref p/\y=.int i/\aL K H p xs/\jw xs i=some v/\Q v H
abbrev Ga (K:W.Frag):R2:=λx y H Q=>∃ p xs i v,x=.ref p/\y=.int i/\aY K H p xs/\jw xs i=some v/\Q v H
def zp:EG X (F6 X.K):=by
 intro value slice Y s U H x y v u Q I rx ry h hs;obtain⟨p,xs,i,z,rfl,rfl,hq,he,q⟩:=h;cases rx;obtain⟨t,rfl⟩:=ry;obtain⟨its,r,pl,hz⟩:=I.list hq;obtain⟨j,h1,h2,h3,h4,h5⟩:=fN he;obtain⟨w,ew,rw'⟩:=r.get h2;have hl:=r.length;have hn:=eB;have fin:EP X Y U Q w s:=⟨z,H,I,rw',q⟩
 by_cases h0:0<=i
 .have hj:i.toNat=j:=by
   rw[seqIndex_of h0 h5]at h1;exact Option.some.inj h1
  exact item_listR pl.isList h0 nofun (by rw[hj];simpa using ew) fin hs
 .have hj:(i+(its.toArray.size:Int)).toNat=j:=by
   rw[seqIndex_neg nofun h4]at h1;rw[ge,<-hl];exact Option.some.inj h1
  exact subscriptTail_builtinR (x:=w) pl.isList.typeIs slot_list_getitem.lookup
   (wpAny_getItem_list_neg (Q:=λr s'=>r=w/\EP X Y U Q r s') pl.isList nofun (by rw[ge]<;>omega) nofun (by rw[hj];simpa using ew) ⟨rfl,fin⟩) hs
def BA:EG X (Ga X.K):=by
 intro value slice Y s U H x y v u Q I rx ry h hs;obtain⟨p,xs,i,z,rfl,rfl,hq,he,q⟩:=h;cases rx;obtain⟨t,rfl⟩:=ry;obtain⟨its,r,pl,hz⟩:=I.tuple hq;obtain⟨j,h1,h2,h3,h4,h5⟩:=fN he;obtain⟨w,ew,rw'⟩:=r.get h2;have hl:=r.length;have hn:=eB;have fin:EP X Y U Q w s:=⟨z,H,I,rw',q⟩;exact subscriptTail_builtinR (x:=w) pl.typeIs slot_tuple_getitem.lookup
  (getItem_tuple (j:=j) (Q:=λr s'=>r=w/\EP X Y U Q r s') pl nofun nofun (by rw[ge,<-hl];exact h1) (by simpa using ew) ⟨rfl,fin⟩) hs
def nR (its:List Value)(n j:Nat)(u:Value):Obj.mapSeq (·.setIfInBounds j u) { cls:=.type "list",data:=.seq its.toArray n }={ cls:=.type "list",data:=.seq (its.set j u).toArray n }:=by
 simp[Obj.mapSeq]
def Inv.lst {Y:HN}{U:St}{H:Hp}{s:Shared}{p:Addr}{xs:List V}(I:Inv X Y U H s)(h:H p=some (.lst xs)):
  ∃ (its:List Value) (n:Nat),Vals xs its/\s.heap.get? p=some { cls:=.type "list",data:=.seq its.toArray n }/\xs.length<=bn:=by
 obtain⟨z,its,n,r,e⟩:=I.hok p _ h;exact⟨its,n,r,e,z⟩
def Inv.AI {p:Addr}{xs ys:List V}{its its':List Value}{n':Nat}{f:Obj->Obj}(I:Inv X Y U H s)(h:H p=some (.lst xs))
  (ho:s.heap.get? p=some { cls:=.type "list",data:=.seq its.toArray n }) (hf:f { cls:=.type "list",data:=.seq its.toArray n }={ cls:=.type "list",data:=.seq its'.toArray n' }) (r:Vals ys its') (hz:ys.length<=bn) (t:Nat):
  Inv X Y U (upd H p (.lst ys)) { s with heap:=s.heap.update p f,toks:=t }:=by
 have e:(s.heap.update p f).get? p=some { cls:=.type "list",data:=.seq its'.toArray n' }:=by
  rw[Heap.get?_update_self f ho (by rw[hf]<;>rfl),hf]
 refine I.write (x:=p) (e:=p) (by rw[h];trivial) (.inl rfl) (λb u hb q=>(Heap.get?_update_other _ _ (Ne.symm hb)).trans q) ⟨_,e⟩ ?_;exact⟨hz,its',n',r,e⟩
abbrev EW:V->V->V->Hp->(Hp->Prop)->Prop:=λo i v H Q=>∃ p xs k j,o=.ref p/\i=.int k/\H p=some (.lst xs)/\tm xs.length k=some j/\Q (upd H p (.lst (xs.set j v)))
def set_list:xt X EW:=by
 intro Y s U H o i v ov iv u Q I ro ri rv h;obtain⟨p,xs,k,j,rfl,rfl,hp,hj,q⟩:=h;cases ro;obtain⟨t,rfl⟩:=ri;obtain⟨its,n,r,ho,hz⟩:=I.lst hp;obtain⟨h1,h2,h3,h4⟩:=p9 hj;have hl:=r.length;have hn:=eB;have I':Inv X Y U (upd H p (.lst (xs.set j v))) { s with heap:=s.heap.update p (Obj.mapSeq (·.setIfInBounds j u)) }:=
  I.AI hp ho (nR its n j u) (r.set rv j) (by rw[length_set];exact hz) s.toks
 by_cases h0:0<=k
 .have hk:k.toNat=j:=by
   rw[seqIndex_of h0 h4]at h1;exact Option.some.inj h1
  exact W.ki_setAt ho h0 nofun (by rw[ge,<-hl];exact h4) (by rw[hk];exact⟨_,I',q⟩)
 .have hk:(k+(its.toArray.size:Int)).toNat=j:=by
   rw[seqIndex_neg nofun h3]at h1;rw[ge,<-hl];exact Option.some.inj h1
  exact W.ki_setBack ho nofun (by rw[ge,<-hl];exact h3) nofun (by rw[hk];exact⟨_,I',q⟩)
def kF (lo hi:Option Int)(n:Nat):(sliceBounds lo hi none n).1=((HT.bD n 0 lo:Nat):Int)/\(sliceBounds lo hi none n).2.1=((HT.bD n n hi:Nat):Int)/\(sliceBounds lo hi none n).2.2=1:=by
 refine⟨?_,?_,rfl⟩
 .cases lo with
  |none=>simp[sliceBounds,HT.bD]
  |some i=>
   simp only[sliceBounds,HT.bD,Option.getD_none,show(1:Int)>0 by decide,if_true]
   by_cases h:i<0
   .simp only[h,if_true]<;>omega
   .simp only[h,if_false]<;>omega
 .cases hi with
  |none=>simp[sliceBounds,HT.bD]
  |some i=>
   simp only[sliceBounds,HT.bD,Option.getD_none,show(1:Int)>0 by decide,if_true]
   by_cases h:i<0
   .simp only[h,if_true]<;>omega
   .simp only[h,if_false]<;>omega
def jq (its:List Value)(lo hi:Option Int):slicePick its.toArray lo hi none=((its.drop (HT.bD its.length 0 lo)).take (HT.bD its.length its.length hi-HT.bD its.length 0 lo)).toArray:=by
 obtain⟨h1,h2,h3⟩:=kF lo hi its.toArray.size;unfold slicePick;rw[h1,h2,h3];simp only[sliceRange_one,pick_run,ge]<;>rfl
abbrev Fp (K:W.Frag):V->Option Int->Option Int->Hp->VK->Prop:=λx lo hi H Q=>∃ a xs,x=.ref a/\aL K H a xs/\∀ p,H p=none->Q (.ref p) (upd H p (.lst (aZ xs lo hi)))
def zB:DG X (Fp X.K):=by
 intro Y s U H x v vl vu lo hi sl Q I rx hs pl pu h;obtain⟨a,xs,rfl,hx,q⟩:=h;cases rx;obtain⟨its,r,ht,hz⟩:=I.list hx;have hlen:=r.length;refine⟨"list",_,slot_list_getitem.lookup,ht.isList.typeIs,?_⟩;refine wpAny_getItem_list_slice ht.isList hs pl pu .none (by simp) ?_ (by rw[ge]<;>omega);rw[jq,<-hlen];refine⟨.ref s.heap.objs.size,_,I.laid (t':=s.toks) (o:=.lst (aZ xs lo hi)) (λb ob q=>sK _ q) (pc _) ?_,rfl,q _ (I.hok.fresh (pc _))⟩;exact⟨Nat.le_trans (gN xs lo hi) hz,_,0,(r.drop (HT.bD xs.length 0 lo)).take (HT.bD xs.length xs.length hi-HT.bD xs.length 0 lo),ul _ rfl⟩
abbrev ai:V->Bool
 | .non=>true
 | .bl _=>true
 | .int _=>true
 | .str _=>true
 |_=>false
abbrev gf:V->V->Bool
 | .non,.non=>true
 | .bl a,.bl b=>a ==b
 | .bl a,.int b=>(if a then 1 else 0) ==b
 | .int a,.bl b=>a ==(if b then 1 else 0)
 | .int a,.int b=>a ==b
 | .str a,.str b=>a ==b
 |_,_=>false
def nV {A:Around}{x:V}{v:Value}(ry:RelV y u)(rx:RelV x v)(fy:ai y=true)(fx:ai x=true):SeqAt.EqAt A s u v (gf y x):=by
 cases y with
 |non=>
  cases ry;cases x with
  |non=>cases rx;exact SeqAt.EqAt.same _
  |bl b=>cases rx;exact SeqAt.EqAt.none_bool b
  |int b=>obtain⟨t,rfl⟩:=rx;exact SeqAt.EqAt.none_int b t
  |str b=>obtain⟨t,rfl⟩:=rx;exact SeqAt.EqAt.none_str b t
  |_=>exact absurd (show false=true from fx) Bool.false_ne_true
 |bl a=>
  cases ry;cases x with
  |non=>cases rx;exact SeqAt.EqAt.bool_none a
  |bl b=>cases rx;exact SeqAt.EqAt.bool_bool a b
  |int b=>obtain⟨t,rfl⟩:=rx;exact SeqAt.EqAt.bool_int a b t
  |str b=>obtain⟨t,rfl⟩:=rx;exact SeqAt.EqAt.bool_str a b t
  |_=>exact absurd (show false=true from fx) Bool.false_ne_true
 |int a=>
  obtain⟨t',rfl⟩:=ry;cases x with
  |non=>cases rx;exact SeqAt.EqAt.int_none a t'
  |bl b=>cases rx;exact SeqAt.EqAt.int_bool a t' b
  |int b=>obtain⟨t,rfl⟩:=rx;exact SeqAt.EqAt.int_int a t' b t
  |str b=>obtain⟨t,rfl⟩:=rx;exact SeqAt.EqAt.int_str a t' b t
  |_=>exact absurd (show false=true from fx) Bool.false_ne_true
 |str a=>
  obtain⟨t',rfl⟩:=ry;cases x with
  |non=>cases rx;exact SeqAt.EqAt.str_none a t'
  |bl b=>cases rx;exact SeqAt.EqAt.str_bool a t' b
  |int b=>obtain⟨t,rfl⟩:=rx;exact SeqAt.EqAt.str_int a t' b t
  |str b=>obtain⟨t,rfl⟩:=rx;exact SeqAt.EqAt.str_str a t' b t
  |_=>exact absurd (show false=true from fx) Bool.false_ne_true
 |_=>exact absurd (show false=true from fy) Bool.false_ne_true
abbrev xH (x:V)(u:Value):Bool:=match u with
 | .none=>gf .non x
 | .bool b=>gf (.bl b) x
 | .int i _=>gf (.int i) x
 | .str z _=>gf (.str z) x
 |_=>false
def vP {x:V}(r:RelV y u)(f:ai y=true):xH x u=gf y x:=by
 cases y with
 |non=>cases r;rfl
 |bl b=>cases r;rfl
 |int i=>obtain⟨t,rfl⟩:=r;rfl
 |str z=>obtain⟨t,rfl⟩:=r;rfl
 |_=>exact absurd (show false=true from f) Bool.false_ne_true
def kj {x:V}:∀ {xs:List V}{us:List Value},Vals xs us->xs.all ai=true->us.any (xH x)=xs.any λy=>gf y x
 |_,_,.nil,_=>rfl
 |y::xs,u::us,.cons r t,f=>by
  rw[all_cons,li]at f;rw[any_cons,any_cons,vP r f.1,kj t f.2]
def jc {A:Around}{s:Shared}{x:V}{v:Value}(rx:RelV x v)(fx:ai x=true):∀ {xs:List V}{us:List Value},Vals xs us->xs.all ai=true->∀ u ∈ us,SeqAt.EqAt A s u v (xH x u)
 |_,_,.nil,_=>λu hu=>by cases hu
 |y::xs,u::us,.cons r t,f=>λu' hu=>by
  rw[all_cons,li]at f;rcases lf.mp hu with rfl|hu
  .rw[vP r f.1];exact nV r rx f.1 fx
  .exact jc rx fx t f.2 u' hu
abbrev BZ (x:V)(xs:List V):Bool:=xs.any λy=>gf y x
abbrev HG (K:W.Frag)(neg:Bool):R2:=λx y H Q=>∃ p xs,y=.ref p/\(aL K H p xs\/aY K H p xs)/\ai x=true/\xs.all ai=true/\Q (.bl (if neg then !BZ x xs else BZ x xs)) H
def sW:bR X (compareOp .In) (HG X.K false):=by
 intro Y s U H x y v u Q I rx ry h;obtain⟨p,xs,rfl,hq,fx,fs,q⟩:=h;cases ry;rcases hq with hq|hq
 .obtain⟨its,r,pl,hz⟩:=I.list hq;refine SeqAt.in_listAt (xH x) pl.isList (λw hw=>jc rx fx r fs w (by simpa using hw)) ⟨.bl _,H,I,rfl,?_⟩;rw[show its.toArray.any (xH x)=its.any (xH x) by simp,kj r fs];exact q
 .obtain⟨its,r,pl,hz⟩:=I.tuple hq;refine SeqAt.in_tupleAt (xH x) pl (λw hw=>jc rx fx r fs w (by simpa using hw)) ⟨.bl _,H,I,rfl,?_⟩;rw[show its.toArray.any (xH x)=its.any (xH x) by simp,kj r fs];exact q
def j7:cp X (.type "list") (λxs H Q=>∃ p ys,xs=[.ref p]/\(aL X.K H p ys\/aY X.K H p ys)/\∀ l,H l=none->Q (.ref l) (upd H l (.lst ys))):=by
 intro Y s U H xs us Q I r h;obtain⟨p,ys,rfl,hq,q⟩:=h;obtain⟨u,rfl,rx⟩:=vals1 r;cases rx;have fin:∀ (its:List Value),Vals ys its->ys.length<=bn->∀ (h':Heap) (c':Nat),(∀ b o',s.heap.get? b=some o'->h'.get? b=some o')->
   h'.get? s.heap.objs.size=some { cls:=.type "list",dict:=none,data:=.seq its.toArray c',slots:=#[] }->EP X Y U Q (.ref s.heap.objs.size) { s with heap:=h' }:=λits r' hz h' c' kp e=>
  ⟨.ref s.heap.objs.size,_,I.laid (t':=s.toks) kp (pc _) (show av X.prog X.w _ h' _ (.lst ys) from⟨hz,its,c',r',e⟩),rfl,q _ (I.hok.fresh (pc _))⟩
 rcases hq with hq|hq
 .obtain⟨its,r',pl,hz⟩:=I.list hq;have hlen:=r'.length;obtain⟨o,ho,hc,n,hd⟩:=pl.isList;exact call_list_seq p (.inl rfl) ho hc hd (λh' c' kp e=>fin its r' hz h' c' kp e) (by simp only[ge]<;>omega)
 .obtain⟨its,r',pl,hz⟩:=I.tuple hq;have hlen:=r'.length;obtain⟨o,ho,hc,n,hd⟩:=pl;exact call_list_seq p (.inr rfl) ho hc hd (λh' c' kp e=>fin its r' hz h' c' kp e) (by simp only[ge]<;>omega)
def jm:cp X (.type "tuple") (λxs H Q=>∃ p ys,xs=[.ref p]/\((aL X.K H p ys/\∀ l,H l=none->Q (.ref l) (upd H l (.tup ys)))\/(aY X.K H p ys/\Q (.ref p) H))):=by
 intro Y s U H xs us Q I r h;obtain⟨p,ys,rfl,h⟩:=h;obtain⟨u,rfl,rx⟩:=vals1 r;cases rx;rcases h with⟨hq,q⟩|⟨hq,q⟩
 .obtain⟨its,r',pl,hz⟩:=I.list hq;have hlen:=r'.length;refine call_tuple_list pl.isList (λh' kp=>?_) (by simp only[ge]<;>omega);have I1:Inv X Y U H { s with heap:=h' }:=I.kept (t':=s.toks) kp;have I2:Inv X Y U (upd H h'.objs.size (.tup ys)) { s with heap:=h'.push { cls:=.type "tuple",data:=.seq its.toArray } }:=
   I1.laid (t':=s.toks) (λb o e=>sK _ e) (pc _) (show av X.prog X.w _ _ _ (.tup ys) from⟨hz,its,r',IsTup.new _ _⟩)
  exact⟨.ref h'.objs.size,_,I2,rfl,q _ (I1.hok.fresh (pc _))⟩
 .obtain⟨its,r',pl,hz⟩:=I.tuple hq;exact call_tuple_same pl ⟨.ref p,H,I,rfl,q⟩
abbrev Fx (K:W.Frag)(T:String)(x:V)(H:Hp):Prop:=match x with
 | .str _=>T="str"
 | .int _=>T="int"
 | .ref p=>(T="list"/\∃ xs,aL K H p xs)\/(T="tuple"/\∃ o,K.lookup p=some o/\o.cls=.type "tuple"/\o.dict=none)\/
   (T="dict"/\((∃ kvs,H p=some (.dK kvs))\/∃ kvs,H p=some (.dT kvs)))\/(T="set"/\∃ S n,H p=some (.set S n))
 |_=>False
def vO {T:String}{x:V}{v:Value}(I:Inv X Y U H s)(r:RelV x v)(ty:Fx X.K T x H):
  s.TypeIs v T/\∀ a,v=.ref a->∃ ob,s.heap.get? a=some ob/\ob.dict=none:=by
 cases x with
 |str z=>
  obtain⟨t,rfl⟩:=r;cases(show T="str" from ty);exact⟨typeIs_str s z t,λ_ e=>nomatch e⟩
 |int i=>
  obtain⟨t,rfl⟩:=r;cases(show T="int" from ty);exact⟨typeIs_int s i t,λ_ e=>nomatch e⟩
 |ref p=>
  cases r;rcases ty with⟨rfl,xs,hq⟩|⟨rfl,o,hk,hc,hd⟩|⟨rfl,hk⟩|⟨rfl,S,n,hk⟩
  .obtain⟨its,_,pl,_⟩:=I.list hq;refine⟨pl.isList.typeIs,λa e=>?_⟩;cases e;obtain⟨o,n,e,c,hd,_⟩:=pl;exact⟨o,e,hd⟩
  .refine⟨⟨o,I.bK p o hk,hc⟩,λa e=>?_⟩;cases e;exact⟨o,I.bK _ o hk,hd⟩
  .have z:∃ o,s.heap.get? p=some o/\o.ExactDict:=by
    rcases hk with⟨kvs,hk⟩|⟨kvs,hk⟩
    .obtain⟨_,_,_,_,o,_,_,e,ex,_⟩:=I.hok p _ hk;exact⟨o,e,ex⟩
    .obtain⟨_,_,_,_,o,_,_,e,ex,_⟩:=I.hok p _ hk;exact⟨o,e,ex⟩
   obtain⟨o,e,ex⟩:=z;refine⟨⟨o,e,ex.1⟩,λa e2=>?_⟩;cases e2;exact⟨o,e,ex.2.1⟩
  .obtain⟨o,_,_,_,e,ex,_⟩:=I.hok p _ hk;refine⟨⟨o,e,ex.1⟩,λa e2=>?_⟩;cases e2;exact⟨o,e,ex.2.1⟩
 |_=>exact False.elim ty
abbrev FH (K:W.Frag)(T:String)(r:V->List V->Hp->VK->Prop)(to:TE):TE:=λU H Q=>to U H λx H1=>Fx K T x H1/\r x [] H1 Q
abbrev HE (K:W.Frag)(T:String)(r:V->List V->Hp->VK->Prop)(to:TE)(t:TA):TE:=λU H Q=>to U H λx H1=>Fx K T x H1/\t U H1 λxs H2=>r x xs H2 Q
variable {o e:Expr}{es:List Expr}{to:TE}{t:TA}{name:Str}{apos cpos:Pos}{T id:String}{r:V->List V->Hp->VK->Prop}
def AO (pa:PlainAttrs T)(slot:Slot T name id)(hty:typeOf (.builtin id)=pure (.type "method_descriptor")) (hm:C0 X id r) (ho:PE X o to)
  (hbase:attributeBase o name X.env (eval o X.env)=eval o X.env:=by rfl) (hline:(apos.endLine ==cpos.line)=true:=by rfl):PE X (.Call (.Attribute o name apos) [] [] cpos) (FH X.K T r to):=by
 intro Y s U H Q I h;refine wpAny_Call_method0_late hbase hline (au (ho Y s U H _ I h) λv s1 ⟨x,H1,I1,r1,ty,q1⟩=>?_);obtain⟨h1,h2⟩:=vO I1 r1 ty;exact⟨T,id,pa,slot,hty,h1,h2,Calls.callWith_builtin rfl (PySem.evalArgs_none (hm Y s1 U H1 x [] v [] Q I1 r1 .nil q1))⟩
def An (pa:PlainAttrs T)(slot:Slot T name id)(hty:typeOf (.builtin id)=pure (.type "method_descriptor")) (hm:C0 X id r) (ho:PE X o to) (ha:PA X (e::es) t)
  (hbase:attributeBase o name X.env (eval o X.env)=eval o X.env:=by rfl)
  (hfew:((backTo cpos (bm (e::es) X.env)).all (λx=>!x.1)&&(backToKw cpos (keywordEach [] X.env)).all (λx=>x.1.isSome)
   &&decide ((e::es).length+([]:List Keyword).length+(if([]:List Keyword).isEmpty then 0 else 1)<30))=true:=by rfl)
  (hline:(apos.endLine ==cpos.line)=true:=by rfl) (hs:bm (e::es) X.env=(false,eval e X.env)::bm es X.env:=by rfl) (hplain:(backTo cpos (bm es X.env)).any (·.1)=false:=by rfl):
  PE X (.Call (.Attribute o name apos) (e::es) [] cpos) (HE X.K T r to t):=by
 intro Y s U H Q I h;refine wpAny_Call_method_late hbase hfew hline rfl (au (ho Y s U H _ I h) λv s1 ⟨x,H1,I1,r1,ty,q1⟩=>?_);obtain⟨h1,h2⟩:=vO I1 r1 ty;refine⟨T,id,pa,slot,hty,h1,h2,?_⟩;have hA:=ha cpos Y s1 U H1 _ I1 q1;rw[hs]at hA⊢;refine Calls.callWith_builtin (by show(false||(backTo cpos (bm es X.env)).any (·.1))=false;rw[hplain]<;>rfl) (Calls.evalArgs_plain ?_);exact au hA λus s2 ⟨vs,H2,I2,r2,q2⟩=>hm Y s2 U H2 x vs v us Q I2 r1 r2 q2
/- xs.append(e),list.index on a module's tuple .. are C0 facts of 06m -/
end
abbrev FU (X:Cx)(id:String)(r:V->List V->Hp->VK->Prop):Prop:=
 ∀ (Y:HN) (s:Shared) (U:St) (H:Hp) (x:V) (xs:List V) (v:Value) (us:List Value) (Q:VK),Inv X Y U H s->RelV x v->Vals xs us->r x xs H Q->
  wpAny (model X.prog X.w) X.A (call (.builtin id) (v::us)) (EP X Y U Q) X.xe s
def Vals.one:∀ {x:V}{us:List Value},Vals [x] us->∃ u,us=[u]/\RelV x u
 |_,_,.cons r .nil=>⟨_,rfl,r⟩
def Vals.zero:∀ {us:List Value},Vals [] us->us=[]
 |_,.nil=>rfl
def Vals.reverse {xs:List V}(h:Vals xs us):Vals xs.reverse us.reverse:=by
 induction h with
 |nil=>exact .nil
 |cons r t ih=>rw[List.reverse_cons,List.reverse_cons];exact Vals.append ih (.cons r .nil)
def Vals.rep {xs:List V}(h:Vals xs us):∀ k:Nat,Vals (sn k xs).flatten (sn k us).flatten
 |0=>.nil
 |k+1=>by
  rw[replicate_succ,replicate_succ,flatten_cons,flatten_cons];exact Vals.append h (Vals.rep h k)
def foldl_rep (its:List Value):∀ (k:Nat) (acc:List Value),
  List.foldl (λx1 x2=>x1++x2) acc.toArray (sn k its.toArray)=(acc++(sn k its).flatten).toArray
 |0,acc=>by simp
 |k+1,acc=>by
  have e:acc.toArray++its.toArray=(acc++its).toArray:=by simp
  have e2:(acc++its)++(sn k its).flatten=acc++(sn (k+1) its).flatten:=by
   rw[replicate_succ,flatten_cons,io]
  rw[<-e2,<-foldl_rep its k (acc++its),<-e,replicate_succ,foldl_cons]
section
variable {X:Cx}{Y:HN}{U:St}{H:Hp}{s:Shared}{l b:Addr}{xs ys zs:List V}
def Inv.AF {its its':List Value}{f:Array Value->Array Value}{t':Nat}(I:Inv X Y U H s)(hH:H l=some (.lst xs))
  (e:s.heap.get? l=some { cls:=.type "list",data:=.seq its.toArray n }) (hf:f its.toArray=its'.toArray) (hv:Vals ys its') (hz:ys.length<=bn):
  Inv X Y U (upd H l (.lst ys)) { s with heap:=s.heap.update l (Obj.mapSeq f),toks:=t' }:=by
 have q:=PySem.IsL.update e f;rw[hf]at q;refine I.write (x:=l) (e:=l) (by rw[hH];exact trivial) (.inl rfl) (λb' u hb hu=>(Heap.get?_update_other s.heap (Obj.mapSeq f) (Ne.symm hb)).trans hu) ⟨_,q⟩ ?_;exact⟨hz,its',_,hv,q⟩
def Inv.Dp {its:List Value}{t':Nat}(I:Inv X Y U H s)(hv:Vals ys its)(hz:ys.length<=bn):
  Inv X Y U (upd H s.heap.objs.size (.lst ys)) { s with heap:=s.heap.push { cls:=.type "list",data:=.seq its.toArray },toks:=t' }:=
 I.laid (λ_ _ q=>sK _ q) (pc _) ⟨hz,its,0,hv,ul _ rfl⟩
def Inv.fresh (I:Inv X Y U H s):H s.heap.objs.size=none:=I.hok.fresh (pc _)
def Inv.ju (I:Inv X Y U H s)(hH:H l=some (.lst xs)):xs.length<=bn/\∃ (its:List Value) (n:Nat),Vals xs its/\xs.length=its.length/\s.heap.get? l=some { cls:=.type "list",data:=.seq its.toArray n }:=by
 obtain⟨z,its,n,r,e⟩:=I.hok l _ hH;exact⟨z,its,n,r,r.length,e⟩
def ng (h:n<=bn):Builtin.List.listTooLong n=false:=by
 unfold Builtin.List.listTooLong;exact decide_eq_false nofun
end
section
variable {X:Cx}
abbrev zv:V->List V->Hp->VK->Prop:=λx vs H Q=>∃ l xs y,x=.ref l/\vs=[y]/\H l=some (.lst xs)/\xs.length<bn/\Q .non (upd H l (.lst (xs++[y])))
def gF:FU X "list.append" zv:=by
 intro Y s U H x vs v us Q I rx rv h;obtain⟨l,xs,y,rfl,rfl,hH,hz,q⟩:=h;cases rx;obtain⟨u,rfl,ru⟩:=rv.one;obtain⟨z,its,n,r,hl,e⟩:=I.ju hH;refine call_meets F.slot_list_append ⟨_,e,rfl⟩ F.entry_list_append (F.args_list_append_2 _ _) (PySem.list_append l its.toArray n u (by rw[ge];omega)) ⟨e,?_⟩;refine⟨.non,_,I.AF (its':=its++[u]) hH e (by simp) (r.append (.cons ru .nil)) ?_,rfl,q⟩;rw[ci,f8]
 omega
abbrev yX:V->List V->Hp->VK->Prop:=λx vs H Q=>∃ l b xs zs,x=.ref l/\vs=[.ref b]/\H l=some (.lst xs)/\H b=some (.lst zs)/\xs.length+zs.length<=bn/\Q .non (upd H l (.lst (xs++zs)))
def sF:FU X "list.extend" yX:=by
 intro Y s U H x vs v us Q I rx rv h;obtain⟨l,b,xs,zs,rfl,rfl,hH,hB,hz,q⟩:=h;cases rx;obtain⟨u,rfl,ru⟩:=rv.one;cases ru;obtain⟨z,its,n,r,hl,e⟩:=I.ju hH;obtain⟨z2,ir,n2,r2,hl2,e2⟩:=I.ju hB;have hsz:its.toArray.size+ir.toArray.size<=bn:=by rw[ge,ge];omega
 have hlong:¬ (!its.toArray.isEmpty&&Builtin.List.listTooLong (its.toArray.size+ir.toArray.size))=true:=by
  rw[ng hsz,Bool.and_false];exact Bool.false_ne_true
 refine call_meets F.slot_list_extend ⟨_,e,rfl⟩ F.entry_list_extend (F.args_list_extend_2 _ _)
  (AutoSeq1.list_extend_list_list_0 l its.toArray n b ir.toArray n2 hlong (by rw[ge];omega) nofun) ⟨e,e2,?_⟩
 refine⟨.non,_,I.AF (its':=its++ir) hH e (by simp) (r.append r2) ?_,rfl,q⟩;rw[ci]
 omega
abbrev Gg:R2:=λx y H Q=>∃ l b xs zs,x=.ref l/\y=.ref b/\H l=some (.lst xs)/\H b=some (.lst zs)/\xs.length+zs.length<=bn/\∀ p,H p=none->Q (.ref p) (upd H p (.lst (xs++zs)))
def BF:bR X (binaryOp .Add) Gg:=by
 intro Y s U H x y v u Q I rx ry h;obtain⟨l,b,xs,zs,rfl,rfl,hH,hB,hz,q⟩:=h;cases rx;cases ry;obtain⟨z,its,n,r,hl,e⟩:=I.ju hH;obtain⟨z2,ir,n2,r2,hl2,e2⟩:=I.ju hB;refine PySem.P.add_list e e2 ?_ (by rw[ge,ge];omega);have ea:its.toArray++ir.toArray=(its++ir).toArray:=by simp
 rw[ea];exact⟨.ref _,_,I.Dp (t':=s.toks) (r.append r2) (by rw[ci];omega),rfl,q _ I.fresh⟩
abbrev FY:R2:=λx y H Q=>∃ l k xs,x=.ref l/\y=.int k/\H l=some (.lst xs)/\ -(2 ^ 63)<=k/\k<2 ^ 63/\xs.length*k.toNat<=bn/\
 ∀ p,H p=none->Q (.ref p) (upd H p (.lst (sn k.toNat xs).flatten))
def len_rep (xs:List α)(k:Nat):(sn k xs).flatten.length=k*xs.length:=by
 induction k with
 |zero=>simp
 |succ k ih=>rw[replicate_succ,flatten_cons,ci,ih,Nat.succ_mul,Nat.add_comm]
def AX:bR X (binaryOp .Mult) FY:=by
 intro Y s U H x y v u Q I rx ry h;obtain⟨l,k,xs,rfl,rfl,hH,h1,h2,hz,q⟩:=h;cases rx;obtain⟨t,rfl⟩:=ry;obtain⟨z,its,n,r,hl,e⟩:=I.ju hH;have hlen:its.toArray.size*k.toNat<=bn:=by rw[ge,<-hl];exact hz
 have hcap:¬ its.toArray.size*k.toNat>(2 ^ 63-1) / 8:=by
  have:(bn:Nat)<=(2 ^ 63-1) / 8:=by decide
  omega
 have hfit:¬ (!Builtin.List.listFitsIndex k)=true:=by
  rw[fitsIndex_both h1 h2];exact Bool.false_ne_true
 have hlong:¬ Builtin.List.listTooLong (its.toArray.size*k.toNat)=true:=by
  rw[ng hlen];exact Bool.false_ne_true
 have hnew:List.foldl (λx1 x2=>x1++x2) #[] (sn (if its.toArray.isEmpty=true then 0 else k.toNat) its.toArray)=(sn k.toNat its).flatten.toArray:=by
  have f0:∀ m:Nat,List.foldl (λx1 x2=>x1++x2) #[] (sn m its.toArray)=(sn m its).flatten.toArray:=λm=>by
   have:=foldl_rep its m [];rw[nil_append]at this;exact this
  rw[f0];cases its with
  |nil=>simp
  |cons a r'=>rw[if_neg (by simp)]
 refine wpAny_binaryOp_repeat_ref (T:="list") (U:="int") (by decide) ⟨_,e,rfl⟩ (λs'=>typeIs_int s' k t) noFill_list_mul F.fills_int_mul F.slot_int_rmul repeat_list F.slot_int_index.lookup
  (call_meets F.slot_int_rmul (typeIs_int s k t) F.entry_int_rmul (F.args_int_rmul_2 _ _) (int___rmul___int_list k t l its.toArray n)
   ⟨e,rfl,⟨_,e,rfl⟩,call_meets F.slot_list_mul ⟨_,e,rfl⟩ F.entry_list_mul (F.args_list_mul_2 _ _) (AutoListH.list___mul___list_int_3 l its.toArray n k t hfit hcap hlong) ⟨e,?_⟩⟩)
 rw[hnew];exact⟨.ref _,_,I.Dp (t':=s.toks) (r.rep k.toNat) (by rw[len_rep,Nat.mul_comm];exact hz),rfl,q _ I.fresh⟩
end
section
variable {prog:Program}{w:World}{A:Around}{E:HM}{s:Shared}
set_option maxRecDepth 100000 in
end
section
variable {X:Cx}
end
variable {o:Option V}
section
variable {κ:Type} [DecidableEq κ]
abbrev gW (kvs:List (κ×V))(k:κ):Option V:=(kvs.find? λkv=>decide (kv.1=k)).map (·.2)
abbrev putK (kvs:List (κ×V))(k:κ)(v:V):List (κ×V):=
 if(kvs.any λkv=>decide (kv.1=k))=true then kvs.map (λkv=>if kv.1=k then(kv.1,v) else kv) else kvs++[(k,v)]
def iX {p:κ×V}{r:List (κ×V)}{k:κ}(e:p.1=k):gW (p::r) k=some p.2:=by simp[gW,find?_cons,e]
def je {p:κ×V}{r:List (κ×V)}{k:κ}(e:¬ p.1=k):gW (p::r) k=gW r k:=by simp[gW,find?_cons,e]
def l9 (k:κ):∀ kvs:List (κ×V),(kvs.any λkv=>decide (kv.1=k))=(gW kvs k).isSome
 | []=>rfl
 |p::r=>by
  rw[any_cons]
  by_cases e:p.1=k
  .simp only[iX e,decide_eq_true e,Bool.true_or,Option.isSome_some]
  .rw[je e,decide_eq_false e,Bool.false_or];exact l9 k r
def gL (kvs:List (κ×V))(k:κ)(v:V):(putK kvs k v).length<=kvs.length+1:=by
 unfold putK
 split
 .rw[ce];omega
 .rw[ci,length_cons,List.length_nil];omega
def cO.rK {u:Option Value}(r:cO o u):o.isSome=u.isSome:=by
 cases o with
 |none=>cases u with
  |none=>rfl
  |some _=>exact(show False from r).elim
 |some _=>cases u with
  |none=>exact(show False from r).elim
  |some _=>rfl
def KV.val {kvs:List (κ×V)}{vs:List (κ×Value)}(r:KV kvs vs)(k:κ):cO (gW kvs k) (valueAt vs k):=by
 unfold KV at r
 induction r with
 |nil=>exact True.intro
 | @cons p q ps qs h t ih=>
  obtain⟨h1,h2⟩:=h
  by_cases e:p.1=k
  .have e':q.1=k:=h1.symm.trans e;have b:valueAt (q::qs) k=some q.2:=by simp[valueAt,find?_cons,e']
   rw[iX e,b];exact h2
  .have e':¬ q.1=k:=λz=>e (h1.trans z)
   have b:valueAt (q::qs) k=valueAt qs k:=by simp[valueAt,find?_cons,e']
   rw[je e,b];exact ih
def KV.any {kvs:List (κ×V)}{vs:List (κ×Value)}(r:KV kvs vs)(k:κ):(kvs.any λkv=>decide (kv.1=k))=vs.any λkv=>decide (kv.1=k):=by
 unfold KV at r
 induction r with
 |nil=>rfl
 |cons h t ih=>rw[any_cons,any_cons,ih,h.1]
def KV.CA {kvs:List (κ×V)}{vs:List (κ×Value)}(r:KV kvs vs)(k:κ)(ry:RelV y u):
  KV (kvs.map λkv=>if kv.1=k then(kv.1,y) else kv) (vs.map λkv=>if kv.1=k then(kv.1,u) else kv):=by
 unfold KV at r⊢
 induction r with
 |nil=>exact .nil
 | @cons p q ps qs h t ih=>
  rw[map_cons,map_cons];refine .cons ?_ ih;obtain⟨h1,h2⟩:=h
  by_cases e:p.1=k
  .rw[if_pos e,if_pos (h1.symm.trans e)];exact⟨h1,ry⟩
  .rw[if_neg e,if_neg (λz=>e (h1.trans z))];exact⟨h1,h2⟩
def KV.put {kvs:List (κ×V)}{vs:List (κ×Value)}(r:KV kvs vs)(k:κ)(ry:RelV y u):KV (putK kvs k y) (stored vs k u):=by
 unfold putK stored;rw[r.any k]
 by_cases e:(vs.any λkv=>decide (kv.1=k))=true
 .rw[if_pos e,if_pos e];exact r.CA k ry
 .rw[if_neg e,if_neg e];exact Paired.snoc r ⟨rfl,ry⟩
def KV.length {kvs:List (κ×V)}{vs:List (κ×Value)}(r:KV kvs vs):kvs.length=vs.length:=Paired.length r
end
variable {P:Program}{w:World}
def pN {k:Key}(r:RelV (kV k) u):(aF P w).is k u=true:=by
 cases k with
 |inl i=>obtain⟨t,e⟩:=(show ∃ t,u=Value.int i t from r);subst e;exact mx P w i t
 |inr x=>obtain⟨t,e⟩:=(show ∃ t,u=Value.str x t from r);subst e;exact lG P w x t
def j3 {P:Program}{w:World}:∀ {ks:List Key}{us:List Value},Vals (ks.map kV) us->ItemsAre (aF P w) ks us
 | [],_,r=>by rw[List.map_nil]at r;cases r;exact .nil
 |k::ks,_,r=>by
  rw[map_cons]at r;cases r with
  |cons h t=>exact .cons (pN h) (j3 t)
@[reducible]def KT (H:Hp):List (List Key×V)->List (List Key×Addr×Value)->Prop:=Paired λp q=>p.1=q.1/\H q.2.1=some (.tup (p.1.map kV))/\RelV p.2 q.2.2
variable {xs:List (List Key×Addr×Value)}{kvs:List (List Key×V)}
def KT.val (r:KT H kvs xs)(k:List Key):cO (gW kvs k) ((atKey xs k).map (·.2)):=by
 induction r with
 |nil=>exact True.intro
 | @cons p q ps qs h t ih=>
  obtain⟨h1,_,h2⟩:=h
  by_cases e:p.1=k
  .have e':q.1=k:=h1.symm.trans e;have b:atKey (q::qs) k=some q.2:=by simp[atKey,find?_cons,e']
   rw[iX e,b];exact h2
  .have e':¬ q.1=k:=λz=>e (h1.trans z)
   have b:atKey (q::qs) k=atKey qs k:=by simp[atKey,find?_cons,e']
   rw[je e,b];exact ih
def KT.CA (r:KT H kvs xs)(k:List Key)(ry:RelV y u):
  KT H (kvs.map λkv=>if kv.1=k then(kv.1,y) else kv) (xs.map (putAt k u)):=by
 induction r with
 |nil=>exact .nil
 | @cons p q ps qs h t ih=>
  rw[map_cons,map_cons];refine .cons ?_ ih;obtain⟨h1,h2,h3⟩:=h;unfold putAt
  by_cases e:p.1=k
  .rw[if_pos e,if_pos (h1.symm.trans e)];exact⟨h1,h2,ry⟩
  .rw[if_neg e,if_neg (λz=>e (h1.trans z))];exact⟨h1,h2,h3⟩
def KT.put (r:KT H kvs xs)(k:List Key){b:Addr}(hb:H b=some (.tup (k.map kV)))(ry:RelV y u):
  KT H (putK kvs k y) (storedH xs k b u):=by
 have e:(kvs.any λkv=>decide (kv.1=k))=(atKey xs k).isSome:=by
  rw[l9,(r.val k).rK,Option.isSome_map]
 unfold putK storedH;rw[e]
 by_cases q:(atKey xs k).isSome=true
 .rw[if_pos q,if_pos q];exact r.CA k ry
 .rw[if_neg q,if_neg q];exact Paired.snoc r ⟨rfl,hb,ry⟩
variable {H':Hp}
def KT.keeps (r:KT H kvs xs)(ht:∀ b ys,H b=some (.tup ys)->H' b=some (.tup ys)):KT H' kvs xs:=
 Paired.AV r λ_ _ z=>⟨z.1,ht _ _ z.2.1,z.2.2⟩
section
variable {P:Program}{w:World}{H:Hp}{h:Heap}{a:Addr}
def zO {u:HO}(ok:eK P w H h)(e:Rd H a u):av P w H h a u:=e.ok ok
def jd {kvs:List (Key×V)}(ok:eK P w H h)(e:Rd H a (.dK kvs)):kvs.length<=bn/\(a ==sysModules)=false/\∃ vs,KV kvs vs/\h.DictOf (aF P w) a vs:=
 show av P w H h a (.dK kvs) from zO ok e
def Ee {kvs:List (Key×V)}(ok:eK P w H h)(e:H a=some (.dK kvs)):kvs.length<=bn/\(a ==sysModules)=false/\∃ vs,KV kvs vs/\h.DictOf (aF P w) a vs:=jd ok (.inl e)
def o7 {ks:List Key}(ok:eK P w H h)(e:H a=some (.tup (ks.map kV))):(tupleKind (aF P w)).is h ks a:=by
 obtain⟨_,its,r,o,h1,h2,n,h3⟩:=(show av P w H h a (.tup (ks.map kV)) from ok a _ e);exact⟨o,its.toArray,n,h1,h2,h3,by simpa using j3 r⟩
def uA (ok:eK P w H h)(e:Rd H a (.dT kvs)):kvs.length<=bn/\(a ==sysModules)=false/\
  ∃ xs,KT H kvs xs/\h.DictOfH (tupleKind (aF P w)) a xs:=by
 obtain⟨z,y,xs,r,o,es,ep,h1,h2,h3,h4,h5⟩:=(show av P w H h a (.dT kvs) from zO ok e);refine⟨z,y,xs,r,o,es,ep,h1,h2,h3,h4,λx hx=>?_,h5⟩;have all:∀ {l:List (List Key×V)}{m:List (List Key×Addr×Value)},KT H l m->∀ x ∈ m,(tupleKind (aF P w)).is h x.1 x.2.1:=by
  intro l m q
  induction q with
  |nil=>intro x hx;exact nomatch hx
  | @cons p q ps qs hq t ih=>
   intro x hx;rcases lf.mp hx with e|hx
   .subst e;exact o7 ok (by rw[<-hq.1];exact hq.2.1)
   .exact ih x hx
 exact all r x hx
def EM (ok:eK P w H h)(e:H a=some (.dT kvs)):kvs.length<=bn/\(a ==sysModules)=false/\
  ∃ xs,KT H kvs xs/\h.DictOfH (tupleKind (aF P w)) a xs:=uA ok (.inl e)
end
abbrev AS (H:Hp)(a:Addr)(y:V)(r:Option V):Prop:=
 (∃ kvs k,Rd H a (.dK kvs)/\y=kV k/\r=gW kvs k)\/∃ kvs k b,Rd H a (.dT kvs)/\y=.ref b/\H b=some (.tup (k.map kV))/\r=gW kvs k
abbrev En (H:Hp)(a:Addr)(y v:V)(H':Hp):Prop:=
 (∃ kvs k,H a=some (.dK kvs)/\y=kV k/\kvs.length<bn/\H'=upd H a (.dK (putK kvs k v)))\/
 ∃ kvs k b,H a=some (.dT kvs)/\y=.ref b/\H b=some (.tup (k.map kV))/\kvs.length<bn/\H'=upd H a (.dT (putK kvs k v))
section
variable {X:Cx}{Y:HN}{U:St}{H:Hp}{s:Shared}{a:Addr}{y v:V}{u r:Value}{o:Option V}{A:Around}{E:HM}
def Inv.big (I:Inv X Y U H s):sysModules<s.heap.objs.size:=by
 have h:mainGlobals<s.heap.objs.size:=(I.mod.glob.keeps I.bk).lt;exact Nat.lt_trans (by decide) h
def sV {Q:HM}(hu:A.units+1<cLine)(I:Inv X Y U H s)(g:AS H a y (some v))(ry:RelV y u)(h:∀ w' s',Inv X Y U H s'->RelV v w'->Q w' s'):
  wpAny (model X.prog X.w) A (getItem (.ref a) u) Q E s:=by
 rcases g with⟨kvs,k,e,ey,l⟩|⟨kvs,k,b,e,ey,eb,l⟩
 .subst ey;obtain⟨z,hd,vs,rel,dd⟩:=jd I.hok e;obtain⟨w',hw,rw'⟩:=cO.some_of (v:=v) (o:=valueAt vs k) (by rw[l];exact rel.val k);exact wpAny_getItem_of (pN ry) dd.mapOf hw (h w' _ (I.tok _) rw')
 .subst ey;cases(show u=Value.ref b from ry);obtain⟨z,hd,xs,rel,dd⟩:=uA I.hok e;obtain⟨w',hw,rw'⟩:=cO.some_of (v:=v) (o:=(atKey xs k).map (·.2)) (by rw[l];exact rel.val k);obtain⟨p,hp,hp2⟩:=lv.mp hw;refine wpAny_getItem_heap (tupleKind_room_in1 hu) (o7 I.hok eb) dd hp ?_;rw[hp2];exact h w' _ (I.tok _) rw'
def qv {h':Heap}{t':Nat}{ob:HO}(I:Inv X Y U H s)(mu:C5 (H a))(hs:Heap.SameBut a s.heap h')(he:∃ q,h'.get? a=some q) (new:av X.prog X.w (upd H a ob) h' a ob):
  Inv X Y U (upd H a ob) { s with heap:=h',toks:=t' }:=
 I.write (x:=a) (e:=a) mu (.inl rfl) (λb q hb z=>(hs.2 b hb).trans z) he new
def uj {h':Heap}{kvs:List (Key×V)}{vs:List (Key×Value)}(z:kvs.length<=bn)(hd:(a ==sysModules)=false)(rel:KV kvs vs)(dd:h'.DictOf (aF P w) a vs):
  av P w H' h' a (.dK kvs):=⟨z,hd,vs,rel,dd⟩
def sG {Q:HL}(hu:A.units+1<cLine)(I:Inv X Y U H s)(g:En H a y v H')(ry:RelV y u)(rv:RelV v r)(h:∀ s',Inv X Y U H' s'->Q () s'):
  wpAny (model X.prog X.w) A (setItem (.ref a) u r) Q E s:=by
 rcases g with⟨kvs,k,e,ey,l,eH⟩|⟨kvs,k,b,e,ey,eb,l,eH⟩
 .subst ey eH;obtain⟨z,hd,vs,rel,dd⟩:=Ee I.hok e;have hz:vs.length<=bn:=by rw[<-rel.length];exact z
  have hl:(putK kvs k v).length<=bn:=by have:=gL kvs k v;omega
  refine wpAny_setItem_pairs (hsz:=hz) (pN ry) dd λh' dd' hs=>h _ ?_
  have he:∃ q,h'.get? a=some q:=let⟨q,_,_,hq,_⟩:=dd';⟨q,hq⟩;exact qv I (by rw[e];exact True.intro) hs he (uj hl hd (rel.put k rv) dd')
 .subst ey eH;cases(show u=Value.ref b from ry);obtain⟨z,hd,xs,rel,dd⟩:=EM I.hok e;have hz:xs.length<=bn:=by rw[<-Paired.length rel];exact z
  have hl:(putK kvs k v).length<=bn:=by have:=gL kvs k v;omega
  refine wpAny_setItem_heap (hsz:=hz) (tupleKind_room_in1 hu) (o7 I.hok eb) dd λh' dd' hs=>h _ ?_
  obtain⟨q,es,ep,hq,h2,h3,h4,_,h5⟩:=dd';refine qv I (by rw[e];exact True.intro) hs ⟨q,hq⟩ ⟨hl,hd,_,(rel.put k eb rv).keeps λc ys ec=>?_,q,es,ep,hq,h2,h3,h4,h5⟩;rw[af (D8 ec e (λz=>nomatch z))];exact ec
end
section
variable {X:Cx}{Y:HN}{U:St}{H:Hp}{s:Shared}{a:Addr}{kvs:List (Key×V)}{k:Key}{u:Value}{A:Around}{E:HM}
end
def mf {X:Cx}{a:Addr}(I:Inv X Y U H s)(g:AS H a y o):s.TypeIs (.ref a) "dict":=by
 rcases g with⟨kvs,k,e,_,_⟩|⟨kvs,k,b,e,_,_,_⟩
 .obtain⟨_,_,vs,_,dd⟩:=jd I.hok e;exact dd.typeIs
 .obtain⟨_,_,xs,_,dd⟩:=uA I.hok e;exact dd.typeIs
section
variable {X:Cx}{o i e value:Expr}{pos pos' tpos:Pos}{td ty tv:TE}
end
def uc (h:Heap)(hb:sysModules<h.objs.size):av P w H (h.push { cls:=.type "dict",data:=.dict #[] }) h.objs.size (.dK []):=
 ⟨Nat.zero_le _,beq_eq_false_iff_ne.mpr (Ne.symm (nw hb)),[],.nil,Heap.DictOf.new h⟩
abbrev BM:TE:=λ_ H Q=>∀ p,H p=none->Q (.ref p) (upd H p (.dK []))
section
variable {X:Cx}{pos:Pos}
def uq:PE X (.Dict [] [] pos) BM:=λY s U H Q I h=>
 wpAny_Dict_empty ⟨.ref s.heap.objs.size,_,I.laid (a:=s.heap.objs.size) (o:=.dK []) (t':=s.toks) (λ_ _ q=>sK _ q) (pc _) (uc s.heap I.big),rfl,h _ (I.hok.fresh (pc _))⟩
end
section
variable {X:Cx}{Y:HN}{U:St}{H:Hp}{s:Shared}{a:Addr}{y d:V}{u r:Value}{o:Option V}{A:Around}{E:HM}
end
section
variable {X:Cx}{o e f:Expr}{apos cpos:Pos}{td ty tx:TE}
end
section
variable {X:Cx}{Y:HN}{U:St}{H:Hp}{s:Shared}{a:Addr}{kvs:List (Key×V)}{A:Around}{E:HM}
end
section
variable {X:Cx}{Y:HN}{U:St}{H:Hp}{s:Shared}{a:Addr}{y:V}{u:Value}{A:Around}{E:HM}
end
end L2
namespace Att
open PySem PySem.W PySem.Calls PyProof.Rows
variable {P:Params}
def g8 {h:Heap}:∀ (ns:List Int) (vs:List Value),WellAll P h vs (ns.map WData.int)->IntsAre vs ns:=by
 intro ns
 induction ns with
 |nil=>
  intro vs w;rw[List.map_nil]at w;cases w;exact .nil
 |cons n ns ih=>
  intro vs w;rw[map_cons]at w;cases w with
  |cons a b=>
   cases a;exact .cons _ _ (ih _ b)
variable {l:OpenLaw}
def rS {n:Nat}(hn:l.most=some n){h:Heap}{args:List WData}{vals:List Value}
  (hpre:l.row.toRowW.claim.pre args=true) (hwl:WellAll P h vals args):
  ∃ a vs ns,vals=[Value.ref a]/\args=[WData.list (ns.map WData.int)]/\h.get? a=some { cls:=.type "list",data:=.seq vs.toArray }/\IntsAre vs ns/\ns.length<=n:=by
 have hsh:WShape.hasAll [] args [.list .int]=true:=(pre_splitW hpre).1;have hc:l.pre.holds [] { args:=args }=true:=(pre_splitW hpre).2;obtain⟨d,r,rfl,h1,h2⟩:=hasAllW_cons hsh;obtain rfl:=hasAllW_nil h2;obtain⟨xs,rfl,h3⟩:=hasW_list h1;obtain⟨ns,rfl⟩:=items_int h3;have hlen:ns.length<=n:=by
  unfold OpenLaw.pre at hc;have h4:(WTm.not (.lt (.lit (.int (n:Int))) (.len (.arg 0)))).holds [] { args:=[.list (ns.map .int)] }=true:=by
   have h4:=(holds_andW hc).1;rw[hn]at h4;exact h4
  have h5:=condW_of h4 (w_not (w_lt w_lit (w_len_list (w_arg rfl))));rw[ce]at h5;refine Nat.le_of_not_lt λq=>?_
  have q':(n:Int)<((ns.length:Nat):Int):=by omega
  first
   |(rw[decide_eq_true q']at h5;exact absurd h5 (by decide))
   |(simp at h5;omega)
 cases hwl with
 |cons w1 w2=>
  cases w2;cases w1 with
  |list ho hall=>exact⟨_,_,ns,rfl,rfl,ho,g8 ns _ hall,hlen⟩
def rR (l:OpenLaw)(args:List WData):l.row.toRowW.claim.post args (.bool true) args=true:=
 postW_of (r:=l.row.toRowW) (X:=(true ==true))
  (show WShape.has [] (.bool true) .bool=true by first|rfl|decide|simp[WShape.has,WShape.arms,WShape.armsAll])
  (show(WTm.eq .res (.lit (.bool true))).value [] { args:=args,res:=some (.bool true),after:=args }=some (.bool (true ==true)) from w_eq_bool (w_res rfl) w_lit) rfl
def m8 {n:Nat}{q:Program}{loose:List Str}{XP:(Str->Option Value)->Heap->Prop}{YP:World->Heap->Prop}{d:DefRec}
  (hn:l.most=some n) (hdf:d.params.defaults=[])
  (call:∀ (w:World) (s₀ s₁:Shared) (mg mb:HP) (fa:Addr) (o:Obj) (pm cd doc:Value) (a:Addr) (vs:List Value) (ns:List Int),
   Ground q loose [] XP w s₀ mg mb s₁.heap->YP w s₁.heap->
   s₁.heap.get? fa=some o->o.data=.func (docDef d.name d.params d.body d.scope pm cd doc)->s₁.heap.CodeRec cd d.name->mg d.name=some (.ref fa)->
   s₁.heap.get? a=some { cls:=.type "list",data:=.seq vs.toArray }->IntsAre vs ns->ns.length<=n->s₁.gens=#[]->
   codeAny (model l.prog w) callerA (.call (.ref fa) ⟨[.ref a],[]⟩) (λr s'=>r=.ok (.ret (.bool true))/\OldK s₁.heap s'.heap/\s'.os=s₁.os/\AllBare s'.gens) s₁):
  WalkO q loose XP YP l.row.toRowW d [] (λf vs=>PySem.call f vs):=by
 intro w s₀ s₁ mg mb G Y fa o pm cd doc dV kV ho hd hcd hD hmg hg args vals as hpre hlay hrd hwl hlo;obtain rfl:dV=.none:=Dflts.none hD hdf;obtain rfl:kV=.none:=Dflts.noKw hD;obtain⟨a,vs,ns,rfl,rfl,hobj,hints,hlen⟩:=rS hn hpre hwl;refine enter_call (codeAny_mono (call w s₀ s₁ mg mb fa o pm cd doc a vs ns G Y ho (fd_plain hd) hcd hmg hobj hints hlen hg) λr s' hq=>?_);obtain⟨rfl,h2,h3,h4⟩:=hq;exact⟨.inl ⟨.bool true,.bool true,[],rfl,λ_=>rfl,.bool true,rR l _,λ_=>⟨List.Pairwise.nil,λ_ hm=>(nomatch hm)⟩⟩,h2,h3,h4⟩
section
variable {prog:Program}{w:World}{A:Around}{E:HM}{s:Shared}{K:Frag}
end
end Att
namespace L2
open PySem PySem.Spec PyProof.Rows
def j5:∀ {vs:List Value}{ns:List Int},IntsAre vs ns->Vals (ns.map V.int) vs
 |_,_,.nil=>.nil
 |_,_,.cons n t h=>.cons ⟨t,rfl⟩ (j5 h)
abbrev Cg (H:Hp):Prop:=∀ b,H b=none\/∃ o xs,H b=some (.gO o (.lst xs))
def vT {P:Program}{w:World}{K:W.Frag}{mg mb:HP}{CX:qL}{k:Nat}{fa a:Addr}{fd:FuncData}{x:Str}{sp:Sp}{s₁:Shared}{vs:List Value}{ns:List Int}
  (KX:K.In s₁.heap) (hns:s₁.heap.Ns mainGlobals mg) (hb:s₁.heap.Ns builtinsNs mb) (hbb:∀ x:Str,x≠"__name__"->mb x=bootBuiltins x) (hlim:s₁.heap.NoLimit) (hg:s₁.gens=#[])
  (ha:s₁.heap.get? a=some { cls:=.type "list",data:=.seq vs.toArray }) (hi:IntsAre vs ns) (hl:ns.length<=bn) (hr:bJ k callerA)
  (F:∀ base:Heap,K.In base->base.Ns mainGlobals mg->cS true P w K mg base CX k fa fd [x] sp) (hbind:∀ (s:Shared) (u:Value),BindsTo s fd ⟨[u],[]⟩ [(x,u)])
  (hsp:∀ H:Hp,Cg H->aL K H a (ns.map V.int)->sp [.ref a] H (λv _=>v=.bl true) λ_ _=>False)
  (hCX:∀ H e s',CX [] H s₁ (λ_ _=>False) e s'->False):
  codeAny (model P w) callerA (.call (.ref fa) ⟨[.ref a],[]⟩) (λr s'=>r=.ok (.ret (.bool true))/\OldK s₁.heap s'.heap/\s'.os=s₁.os/\AllBare s'.gens) s₁:=by
 have rv:=j5 hi;have lenV:=hi.length;have core:∀ H:Hp,Cg H->aL K H a (ns.map V.int)->eK P w H s₁.heap->(∀ b,H b≠none->b=a)->(H a≠none->K.lookup a=none)->
   codeAny (model P w) callerA (.call (.ref fa) ⟨[.ref a],[]⟩) (λr s'=>r=.ok (.ret (.bool true))/\OldK s₁.heap s'.heap/\s'.os=s₁.os/\AllBare s'.gens) s₁:=by
  intro H hO hS hok hA hK;have base_of:∀ {b:Addr}{o:Obj},s₁.heap.get? b=some o->H b=none->(lz s₁.heap H).get? b=some o:=λe n=>uO e n
  have noA:∀ {b:Addr}{o:Obj}{es:Array DictEntry}{ep:Nat},s₁.heap.get? b=some o->o.data=.dict es ep->H b=none:=λ{b o es ep} e d=>by
   cases q:H b with
   |none=>rfl
   |some u=>
    have e':b=a:=hA b (by rw[q];simp);subst e';rw[ha]at e;cases e;have d':Data.seq vs.toArray _=Data.dict es ep:=d;cases d'
  have nsK:∀ {b:Addr}{m:HP},s₁.heap.Ns b m->(lz s₁.heap H).Ns b m:=λ{b m} ⟨o,es,ep,e,d,r⟩=>⟨o,es,ep,base_of e (noA e d),d,r⟩
  have hKb:K.In (lz s₁.heap H):=λb o e=>base_of (KX b o e) (by
   cases q:H b with
   |none=>rfl
   |some u=>
    have e':b=a:=hA b (by rw[q];simp);subst e';rw[hK (by rw[q];simp)]at e;cases e)
  have hM:Mod K mg (lz s₁.heap H):=⟨hKb,nsK hns,⟨mb,nsK hb,hbb⟩,let⟨mc,h1,h2⟩:=hlim;⟨mc,nsK h1,h2⟩⟩;have e0:oH P w K mg (lz s₁.heap H) callerA [] s₁ H:=⟨rfl,hM,λb o e=>yg e,Nat.le_of_eq (rE _ _),trivial,λb hb=>absurd (show b ∈ ([]:List Addr) from hb) (by simp),hok,.of_eq hg⟩;refine codeAny_mono ((F _ hKb (nsK hns)).run callerA [] s₁ H ⟨[.ref a],[]⟩ [.ref a] [.ref a] _ _ hr rfl e0 (hbind s₁ (.ref a)) (.cons rfl .nil) (hsp H hO hS)) λr s' h=>?_
  cases r with
  |error e=>exact(hCX H e s' h).elim
  |ok fl=>
   cases fl with
   |next=>exact False.elim h
   |brk=>exact False.elim h
   |cont=>exact False.elim h
   |ret u=>
    obtain⟨v,H',os,bare,un,hok',r',q⟩:=h;have q':v=.bl true:=q;subst q';obtain rfl:u=Value.bool true:=r';refine⟨rfl,OldK.of_keep λb o e=>?_,os,bare⟩;cases q:H b with
    |none=>exact un.keep b o e q (by intro z;exact absurd (show b ∈ ([]:List Addr) from z) (by simp)) (by simp)
    |some u=>
     rcases hO b with z|⟨ob,xs,z⟩
     .rw[q]at z;cases z
     .have z2:=un.frzs b (.gO ob _) True.intro z;obtain⟨e1,_⟩:=hok b _ z;obtain⟨e2,_⟩:=hok' b _ z2;rw[e]at e1;cases e1;exact e2
 cases hk:K.lookup a with
 |some o=>
  have e:=KX a o hk;rw[ha]at e;cases e;refine core (λ_=>none) (λ_=>.inl rfl) (.inr ⟨_,vs.toArray,_,hk,rfl,rfl,rfl,by rw[ge,lenV];exact hl,by simpa using rv⟩) (λb u z=>by have z':(none:Option HO)=some u:=z;cases z') (λb z=>absurd rfl z) λz=>absurd rfl z
 |none=>
  refine core (λb=>if b=a then some (.gO { cls:=.type "list",data:=.seq vs.toArray } (.lst (ns.map V.int))) else none) (λb=>?_) (.inl (.inr ⟨{ cls:=.type "list",data:=.seq vs.toArray },if_pos rfl⟩)) (λb u z=>?_) (λb z=>?_) λ_=>hk
  .by_cases hb:b=a
   .exact .inr ⟨_,_,if_pos hb⟩
   .exact .inl (if_neg hb)
  .by_cases hb:b=a
   .have z':=(if_pos hb).symm.trans z;cases z';subst hb;exact⟨ha,by rw[ce];exact hl,vs,_,rv,ha⟩
   .have z':=(if_neg hb).symm.trans z;cases z'
  .by_cases hb:b=a
   .exact hb
   .exact absurd (if_neg hb) z
def yn {l:W.OpenLaw}{n k:Nat}{q:Program}{loose:List Str}{XP:(Str->Option Value)->Heap->Prop}{YP:World->Heap->Prop}{d:DefRec}{K:Params->W.Frag}{CX:World->qL}{sp:World->Sp}{x:Str}
  (hn:l.most=some n) (hn2:n<=bn) (hdf:d.params.defaults=[]) (hr:bJ k callerA)
  (hY:∀ (w:World) (h:Heap),YP w h->(K w.params).In h)
  (F:∀ (w:World) (mg:HP) (fa:Addr) (h:Heap),(K w.params).In h->h.Ns mainGlobals mg->mg d.name=some (.ref fa)->
   ∃ fd:FuncData,(∀ (s:Shared) (u:Value),BindsTo s fd ⟨[u],[]⟩ [(x,u)])/\
    ∀ base:Heap,(K w.params).In base->base.Ns mainGlobals mg->cS true l.prog w (K w.params) mg base (CX w) k fa fd [x] (sp w))
  (hsp:∀ (w:World) (H:Hp) (a:Addr) (ns:List Int),ns.length<=n->Cg H->aL (K w.params) H a (ns.map V.int)->sp w [.ref a] H (λv _=>v=.bl true) λ_ _=>False)
  (hCX:∀ (w:World) (H:Hp) (s:Shared) (e:Value) (s':Shared),CX w [] H s (λ_ _=>False) e s'->False):
  W.WalkO q loose XP YP l.row.toRowW d [] (λf vs=>PySem.call f vs):=by
 refine Att.m8 hn hdf λw s₀ s₁ mg mb fa o pm cd doc a vs ns G Y ho hd hcd hmg hobj hints hlen hg=>?_
 have KX:=hY w _ Y;obtain⟨fd,hb,hF⟩:=F w mg fa _ KX G.T.g hmg;exact vT KX G.T.g G.T.b G.T.builtins G.T.nolimit hg hobj hints (Nat.le_trans hlen hn2) hr hF hb (λH hO hS=>hsp w H a ns hlen hO hS) λH e s'=>hCX w H s₁ e s'
section
variable {P:Program}{w:World}{K:W.Frag}{mg:HP}{base:Heap}
end
def cL {n:Nat}(h:n<=1000):n<bn:=Nat.lt_of_le_of_lt h (by decide)
section
variable {X:Cx}
end
end L2
namespace L2
open PySem PySem.Spec PySem.W PyProof.Rows PySem.Builtin PySem.Builtin.ObjectAttr
variable {rs:List Addr}
section
variable {prog:Program}{w:World}{A:Around}{E:HM}{s:Shared}{K:W.Frag}{x C:Addr}{ox od:Obj}{name:Str}{expr:Bool}{v:Value}{Q:HM}
def lW:builtinKind "BaseException.__getattribute__"=some .slot:=by decide+kernel
def jY:splitId "BaseException.__getattribute__"=some ("BaseException","__getattribute__"):=by decide+kernel
def yN (X:K.In s.heap)(I:W.InstAt s.heap x ox C (some od))(hga:W.findIn K (.ref C) "__getattribute__"=some (some (.builtin "BaseException.__getattribute__"))) (hgn:W.findIn K (.ref C) "__getattr__"=some none)
  (hb:W.mroIn K C (.type "BaseException")=some true) (hf:W.findObj K C (some od) name=some (.value v)) (hh:W.handedIn v=true) (h:Q v { s with toks:=s.toks+1 }):
  wpAny (model prog w) A (getAttr (.ref x) name expr) Q E s:=by
 obtain⟨hp,g,d,t,os⟩:=s;have L0:=I.type (M:=model prog w);have L1:=looks_findIn (M:=model prog w) X hga;have L2':=looks_findIn (M:=model prog w) X hgn;have L3:=looks_find (M:=model prog w) X I hf;have L4:Looks (model prog w) hp (isInstance (.ref x) (.type "BaseException")) true:=I.type.andThen (looks_mroIn X hb);unfold getAttr getAttrBy;refine ad (wpAny_mkText (bd (ad (L0.at (ad (L1.at ?_))))));have e1:(Value.builtin "BaseException.__getattribute__" ==Value.builtin "object.__getattribute__")=false:=by decide+kernel
 dsimp only;rw[e1,Bool.and_false];show wpAny _ _ (getAttrByItsOwn _ _ _ _ _ _) _ _ _;unfold getAttrByItsOwn hookBefore;refine ad (L2'.at ?_);refine ad (wpAny_attempt (bd ?_));have e2:(expr&&onTheHeap (Value.builtin "BaseException.__getattribute__"))=false:=by cases expr<;>rfl
 unfold callGetattribute;rw[e2];show wpAny _ _ (boundAndCalled _ _ _) _ _ _;unfold boundAndCalled;rw[PySem.F.attr_ValueError.ga.bind];refine ad (am (wpAny_call (codeAny_call_builtin PySem.F.attr_ValueError.ga.plain PySem.F.entry_bexc_ga ?_)));refine @check_slot (model prog w) _ _ _ "BaseException.__getattribute__" "BaseException" "__getattribute__" (.ref x) [.str name t] [] _ lW jY L4 (PySem.F.args_bexc_ga (.ref x) (.str name t)) ?_;unfold Builtin.«object.__getattribute__»;refine ad (am (ad (am (ad (L0.at (ad (L3.at ?_)))))));refine am ?_;show wpAny _ _ (handedOut v) _ _ _;rw[handedOut_of hh];exact am h
abbrev vD:Value->Bool
 | .ref _=>true
 |_=>false
abbrev bP:List Value:=[.type "ValueError",.type "Exception",.type "BaseException",.type "object"]
abbrev cU (l:List Value):Bool:=l.dropWhile vD ==bP
def c5:∀ {l:List Value},cU l=true->∃ rs:List Addr,l=rs.map Value.ref++bP
 | [],e=>by cases e
 |c::r,e=>by
  by_cases h:vD c=true
  .have e':cU r=true:=by
    unfold cU at e⊢;rw[List.dropWhile_cons_of_pos h]at e;exact e
   obtain⟨rs,q⟩:=c5 e';cases c with
   |ref a=>exact⟨a::rs,by rw[q];rfl⟩
   |_=>cases h
  .unfold cU at e;rw[List.dropWhile_cons_of_neg h]at e;exact⟨[],beq_iff_eq.mp e⟩
def i4 (self:Value):∀ rs:List Addr,refuseLoop self "__setattr__" (rs.map Value.ref++bP)=pure ()
 | []=>PySem.F.store_ValueError.passes self
 |a::r=>by rw[map_cons,List.cons_append,refuseLoop_ref];exact i4 self r
structure cu (K:W.Frag) (C:Addr):Prop where
 mt:W.typeIn K (.ref C)=some (.type "type")
 ov:(W.clsIn K C).any (λcd=>cU cd.mro)=true
 hd:W.hasDictIn K C=true
 ga:W.findIn K (.ref C) "__getattribute__"=some (some (.builtin "BaseException.__getattribute__"))
 gn:W.findIn K (.ref C) "__getattr__"=some none
 sa:W.findIn K (.ref C) "__setattr__"=some (some (.builtin "object.__setattr__"))
def cu.mro (c:cu K C):∃ (cd:ClassData) (rs:List Addr),W.clsIn K C=some cd/\cd.mro=rs.map Value.ref++bP:=by
 obtain⟨cd,h1,h2⟩:=W.any_some c.ov;obtain⟨rs,h3⟩:=c5 h2;exact⟨cd,rs,h1,h3⟩
def nA (h:bP.contains v=true):(rs.map Value.ref++bP).contains v=true:=by
 rw[List.contains_eq_mem,decide_eq_true_eq]at h⊢;exact gt _ h
def qb:(rs.map Value.ref++bP).isEmpty=false:=by cases rs<;>rfl
def cu.sub (c:cu K C)(h:bP.contains v=true):W.mroIn K C v=some true:=by
 obtain⟨cd,rs,h1,h2⟩:=c.mro;unfold W.mroIn;rw[h1,Option.bind_some,h2,if_neg (by rw[qb];decide),nA h]
variable {R:Result->Shared->Prop}
def mQ {tk:Tok}{odo:Option Obj}(X:K.In s.heap)(I:W.InstAt s.heap x ox C odo)(c:cu K C)(ht:W.findIn K (.ref C) name=some none)
  (h:wpAny (model prog w) A.in1 (storeInOwnDict (.ref x) (.ref C) (.str name tk) name v false)
   (λfin s'=>match fin with| .done f=>R (.ok f) s'| .again c'=>c'.quiet=true/\codeAny (model prog w) A c' R s') (λe s'=>R (.error e) s') s):
  codeAny (model prog w) A (.call (.builtin "object.__setattr__") ⟨[.ref x,.str name tk,v],[]⟩) R s:=by
 have SF:=PySem.F.store_object;obtain⟨cd,rs,hc,hm⟩:=c.mro;have sub:Looks (model prog w) s.heap (isInstance (.ref x) (.type "object")) true:=I.type.andThen (looks_mroIn X (c.sub (by decide+kernel)));refine codeAny_call_builtin SF.slot.plain SF.entry (@check_slot (model prog w) _ _ s "object.__setattr__" "object" "__setattr__" (.ref x) [.str name tk,v] [] _ SF.kind SF.split sub (SF.args (.ref x) (.str name tk) v) ?_);have hl:Looks (model prog w) s.heap (mroOf (.ref C)) cd.mro:=(looks_clsIn X hc).andThen .now;rw[osa_eq,refuse_eq];refine ad (ad (I.type.here (ad (hl.here ?_))));rw[hm,i4];refine am (ad (I.type.here (ad ((looks_findIn X ht).here (ad (am ?_))))));exact h
end
variable {Q:HM}{u:Value}
section
variable {X:Cx}{Y:HN}{U:St}{H:Hp}{s:Shared}{a C dx:Addr}{fs:List (Str×V)}{f:Str}{v:V}{A:Around}{E:HM}{fr:Bool}
def su {b:Bool}(I:Inv X Y U H s)(e:H a=some (.exc C (some dx) fs fr))(c:cu X.K C)(n:dJ X.K C f)(l:fs.lookup f=some v)
  (h:∀ u s',Inv X Y U H s'->RelV v u->Q u s'):wpAny (model X.prog X.w) A (getAttr (.ref a) f b) Q E s:=by
 obtain⟨⟨vs,ho,_⟩,z⟩:=I.hok a _ e;rcases z with⟨z,_⟩|⟨d,ed,_,_,_,mA,hn,r,_⟩
 .cases z
 cases ed;obtain⟨u,hu,ru⟩:=cO.some_of (v:=v) (o:=mA f) (by rw[<-l];exact r f);obtain⟨od,hod,hl⟩:=gg hn;refine yN (ox:={ cls:=.ref C,dict:=some dx,data:=.fields vs }) (od:=od) I.bK ⟨ho,rfl,rfl,hod⟩ c.ga c.gn (c.sub (by decide+kernel)) (W.findObj_own c.hd n rfl (by rw[hl,hu])) (j4 ru) (h u _ (I.tok _) ru)
def oY {y:V}{Q:HL}(I:Inv X Y U H s)(e:H a=some (.exc C (some dx) fs true))(c:cu X.K C)(n:dJ X.K C f)(hl:fs.length<1000)(ry:RelV y u)
  (h:∀ s',Inv X Y U (upd H a (.exc C (some dx) (cF f y fs) true)) s'->Q () s'):wpAny (model X.prog X.w) A (setAttr (.ref a) f u) Q E s:=by
 obtain⟨⟨vs,ho,zz⟩,z⟩:=id (I.hok a _ e);rcases z with⟨z,_⟩|⟨d,ed,hown,_,hne,mA,hn,r,wi⟩
 .cases z
 cases ed;obtain⟨od,hod,hlk⟩:=gg hn;have hz:(fs.map (·.1)).length<=bn:=by rw[ce,sizeLine_eq];omega
 have J:W.InstAt s.heap a { cls:=.ref C,dict:=some dx,data:=.fields vs } C (some od):=⟨ho,rfl,rfl,hod⟩;refine W.set_plain I.bK J c.sa (mQ (s:={ s with toks:=s.toks+1 }) I.bK J c n ?_);obtain⟨cd,hc,hd'⟩:=W.any_some c.hd;refine ad (am (ad (ad (wpAny_loadPart ho (ad (W.Looks.here (s:={ s with toks:=s.toks+1 }) (W.looks_clsIn I.bK hc) ?_))))));rw[hd'];refine am (a:=some dx) (ad (am (ad ?_)));refine wpAny_nsSet1 (s:={ s with toks:=s.toks+1 }) hn λh' hn2 hs2=>?_
 obtain⟨oD,esD,epD,hoD,hdD,hcD⟩:=hn2.count (PySem.Within.cons f u wi);refine ad (wpAny_lookBehind hoD (by rw[hdD];exact pastItsLine_dict (Nat.le_trans hcD (by rw[length_cons];omega))) ?_);refine am (h _ ?_);refine I.write (x:=a) (e:=dx) (by rw[e];exact rfl) (.inr hown) (λb q hb z=>(hs2.2 b hb).trans z) ⟨oD,hoD⟩ ?_;refine⟨⟨vs,(hs2.2 _ (Ne.symm hne)).trans ho,zz⟩,.inr ⟨dx,rfl,by rw[af hne];exact hown,?_,hne,_,hn2,λg=>?_,λg hg=>?_⟩⟩
 .have:=dv f y fs;omega
 .show cO ((cF f y fs).lookup g) (if g=f then some u else mA g);rw[dG]
  by_cases q:g=f
  .rw[if_pos q,if_pos q];exact ry
  .rw[if_neg q,if_neg q];exact r g
 .by_cases q:g=f
  .rw[q];exact(cQ f y fs).1
  .refine(cQ f y fs).2 g (wi g λz=>hg ?_);show(if g=f then some u else mA g)=none;rw[if_neg q];exact z
def n9 {y:V}{Q:HL}(I:Inv X Y U H s)(e:H a=some (.exc C none fs true))(c:cu X.K C)(n:dJ X.K C f)(ry:RelV y u)
  (h:∀ d s',H d=none->Inv X Y U (upd (upd H d (.own a)) a (.exc C (some d) [(f,y)] true)) s'->Q () s'):wpAny (model X.prog X.w) A (setAttr (.ref a) f u) Q E s:=by
 obtain⟨⟨vs,ho,zz⟩,z⟩:=id (I.hok a _ e);have hfs:fs=[]:=by
  rcases z with⟨_,z⟩|⟨d,ed,_⟩
  .exact z
  .cases ed
 subst hfs;have J:W.InstAt s.heap a { cls:=.ref C,dict:=none,data:=.fields vs } C none:=⟨ho,rfl,rfl,True.intro⟩;refine W.set_plain I.bK J c.sa (mQ (s:={ s with toks:=s.toks+1 }) I.bK J c n ?_);obtain⟨cd,hc,hd'⟩:=W.any_some c.hd;refine ad (am (ad (ad (wpAny_loadPart ho (ad (W.Looks.here (s:={ s with toks:=s.toks+1 }) (W.looks_clsIn I.bK hc) ?_))))));rw[hd'];have hlt:=tz ho;have hxs:a≠s.heap.objs.size:=nw hlt;have ho1:(s.heap.push { cls:=.type "dict",data:=.dict #[] }).get? a=some { cls:=.ref C,dict:=none,data:=.fields vs }:=sK _ ho;refine ad (wpAny_alloc' ?_);refine ad (wpAny_update' ho1 ?_);refine am ?_;have hgd:((s.heap.push { cls:=.type "dict",data:=.dict #[] }).update a λo=>{ o with dict:=some s.heap.objs.size }).get? s.heap.objs.size=some { cls:=.type "dict",data:=.dict #[] }:=
  (Heap.get?_update_ne _ _ _ _ hxs.symm).trans (Heap.get?_push_at rfl rfl)
 have hga:((s.heap.push { cls:=.type "dict",data:=.dict #[] }).update a λo=>{ o with dict:=some s.heap.objs.size }).get? a=some { cls:=.ref C,dict:=some s.heap.objs.size,data:=.fields vs }:=
  Heap.get?_update_self _ ho1 rfl
 have hnd:((s.heap.push { cls:=.type "dict",data:=.dict #[] }).update a λo=>{ o with dict:=some s.heap.objs.size }).Ns s.heap.objs.size (λ_=>none):=
  ⟨_,#[],_,hgd,rfl,λe he=>absurd he (by simp),λ_=>rfl⟩
 show wpAny _ _ (storeInDict s.heap.objs.size (.str f _) f u) _ _ _;unfold storeInDict newKeyGuard;refine ad (am (ad (wpAny_nsSet1 (Heap.Ns1.of_empty hnd) λh' hn2 hs2=>?_)));obtain⟨oD,esD,epD,hoD,hdD,hcD⟩:=hn2.count (PySem.Within.cons f u PySem.Within.nil);refine ad (wpAny_lookBehind hoD (by rw[hdD];exact pastItsLine_dict (Nat.le_trans hcD (by rw[length_cons,List.length_nil,sizeLine_eq];omega))) ?_);have hd0:H s.heap.objs.size=none:=I.hok.fresh (pc _);refine am (h s.heap.objs.size _ hd0 ?_);have e':upd H s.heap.objs.size (.own a) a=some (.exc C none [] true):=by rw[af hxs];exact e
 have I1:Inv X Y U (upd H s.heap.objs.size (.own a)) { s with heap:=s.heap.push { cls:=.type "dict",data:=.dict #[] },toks:=s.toks+1 }:=
  I.laid (a:=s.heap.objs.size) (o:=.own a) (t':=s.toks+1) (λb u q=>sK _ q) (pc _) ⟨_,ul s.heap rfl⟩
 have I2:=I1.write (x:=a) (e:=a) (o:=.exc C (some s.heap.objs.size) [] true) (t':=s.toks+1) (h':=(s.heap.push { cls:=.type "dict",data:=.dict #[] }).update a λo=>{ o with dict:=some s.heap.objs.size })
  (by rw[e'];exact rfl) (.inl rfl) (λb q hb z=>(Heap.get?_update_ne _ _ _ _ hb).trans z) ⟨_,hga⟩
  ⟨⟨vs,hga,zz⟩,.inr ⟨_,rfl,by rw[af hxs.symm,aq],Nat.zero_le _,hxs.symm,_,Heap.Ns1.of_empty hnd,λ_=>True.intro,λy hy=>absurd rfl hy⟩⟩
 have ga':h'.get? a=some { cls:=.ref C,dict:=some s.heap.objs.size,data:=.fields vs }:=(hs2.2 a hxs).trans hga;have I3:=I2.write (x:=a) (e:=s.heap.objs.size) (o:=.exc C (some s.heap.objs.size) [(f,y)] true) (t':=s.toks+1+1) (h':=h') (by rw[aq];exact rfl) (.inr (by rw[af hxs.symm,aq]))
  (λb q hb z=>(hs2.2 b hb).trans z) ⟨oD,hoD⟩
  ⟨⟨vs,ga',zz⟩,.inr ⟨_,rfl,by rw[af hxs.symm,af hxs.symm,aq],by show 1<=1000;decide,hxs.symm,_,hn2,λg=>?_,λg hg=>?_⟩⟩
 .rw[yA]at I3;exact I3
 .show cO (List.lookup g [(f,y)]) (if g=f then some u else none)
  by_cases q:g=f
  .have hb:(g ==f)=true:=beq_iff_eq.mpr q;simp only[List.lookup,hb,if_pos q];exact ry
  .have hb:(g ==f)=false:=beq_eq_false_iff_ne.mpr q;simp only[List.lookup,hb,if_neg q];exact True.intro
 .by_cases q:g=f
  .rw[q];simp
  .exact absurd (show(if g=f then some u else none)=none by rw[if_neg q]) hg
end
section
variable {X:Cx}{Y:HN}{U:St}{H:Hp}{s:Shared}{a C:Addr}{dx:Option Addr}{fs:List (Str×V)}{f:Str}{v:V}{A:Around}{E:HM}{fr:Bool}
def Inv.fields {vs':Array Value}{h':Heap}{t':Nat}(I:Inv X Y U H s)(e:H a=some (.exc C dx fs fr))(hs:vs'.size=6)(h1:(fr=true->vs'[1]? =some Value.none)/\vs'[2]? =some Value.none)
  (ha:h'.get? a=some { cls:=.ref C,dict:=dx,data:=.fields vs' }) (k:∀ b u,b≠a->s.heap.get? b=some u->h'.get? b=some u):Inv X Y U H { s with heap:=h',toks:=t' }:=by
 have na:∀ {b:Addr},H b=none->b≠a:=λn z=>by rw[z,e]at n;cases n
 refine I.step (g':=s.gens) (d':=s.drawn) (ch:=[]) (λ_ z=>nomatch z) (λb o _ _ _ q n=>k b o (na n) q) (λb o _ _ _ q n=>⟨o.slots,k b o (na n) q⟩) (λ_ _ _ _ n=>n) (λb o _ q=>?_) (λ_ _ q=>q) (λ_ _ _ q=>q) (λb ps q=>⟨#[],by rw[q];simp⟩) (λm hm=>?_) (λb u hb=>?_) I.bare
 .by_cases hb:b=a
  .rw[hb];exact⟨_,ha⟩
  .exact⟨o,k b o hb q⟩
 .obtain⟨o,es,ep,ho,r⟩:=hm;exact⟨o,es,ep,k _ o (na I.free) ho,r⟩
 .by_cases hba:b=a
  .subst hba;rw[e]at hb;cases hb;obtain⟨_,z⟩:=id (I.hok b _ e);refine⟨⟨vs',ha,hs,h1⟩,?_⟩;rcases z with z|⟨d,ed,d1,z1,ne,mA,⟨od,es,ep,e2,c⟩,r⟩
   .exact .inl z
   .exact .inr ⟨d,ed,d1,z1,ne,mA,⟨od,es,ep,k _ _ ne e2,c⟩,r⟩
  .refine(I.hok b u hb).de (λc v hc q=>k c v ?_ q) (λ_ q=>q) λ_ _ q=>q
   rcases hc with z|z
   .rw[z];exact hba
   .intro y;rw[y,e]at z;cases z
def iB {R:Result->Shared->Prop}(I:Inv X Y U H s)(e:H a=some (.exc C dx fs fr))(c:cu X.K C)
  (h:∀ s',Inv X Y U H s'->R (.ok (.ret .none)) s'):codeAny (model X.prog X.w) A (.call (.builtin "ValueError.__init__") ⟨[.ref a,u],[]⟩) R s:=by
 have F:=PySem.F.excCall_ValueError;obtain⟨⟨vs,ho,hsz,h1⟩,z⟩:=id (I.hok a _ e);have L4:Looks (model X.prog X.w) s.heap (isInstance (.ref a) (.type "ValueError")) true:=(show Looks (model X.prog X.w) s.heap (typeOf (.ref a)) (.ref C) from(Looks.ld ho).andThen .now).andThen (looks_mroIn I.bK (c.sub (by decide+kernel)));refine codeAny_call_builtin F.init.plain F.initEntry ?_;simp only[checkBuiltinCall,F.initKind,F.initSplit,F.initRow];refine ad (L4.here ?_);simp only[Bool.not_true,Bool.false_eq_true,if_false];have hshort:("ValueError" != "*")=true:=by decide
 have h0:∃ a0,vs[0]? =some a0:=⟨_,Array.getElem?_eq_getElem nofun⟩;obtain⟨a0,h0⟩:=h0;obtain⟨hp,g,d,t,os⟩:=s;unfold Bind.checkArgs;have hn:Looks (model X.prog X.w) hp (typeOf (.ref a)) (.ref C):=(Looks.ld ho).andThen .now;obtain⟨cd,rs,hcl,_⟩:=c.mro;obtain⟨oc,od,sl,hC⟩:∃ oc od sl,hp.get? C=some ⟨oc,od,.cls cd,sl⟩:=by
  unfold W.clsIn at hcl
  split at hcl
  .rename_i ho';cases hcl;exact⟨_,_,_,I.bK _ _ ho'⟩
  .cases hcl
 repeat(first|with_reducible refine wpAny_load hC ?_|wp_step)
 rw[h0];have ho1:(hp.push { cls:=.type "tuple",data:=.seq #[u] }).get? a=some { cls:=.ref C,dict:=dx,data:=.fields vs }:=sK _ ho;have hq:=Heap.get?_update_self (Obj.mapFields (·.setIfInBounds 0 (.ref hp.objs.size))) ho1 (Obj.isFreed_of_fields (Obj.data_mapFields rfl _));have fin:R (.ok (.ret Value.none)) ⟨(hp.push { cls:=.type "tuple",data:=.seq #[u] }).update a (Obj.mapFields (·.setIfInBounds 0 (.ref hp.objs.size))),g,d,t,os⟩:=by
  refine h _ (I.fields (vs':=vs.setIfInBounds 0 (.ref hp.objs.size)) (t':=t) e (by simpa using hsz) ⟨λz=>?_,?_⟩ hq λb q hb z'=>?_)
  .rw[Array.getElem?_setIfInBounds_ne (by decide)];exact h1.1 z
  .rw[Array.getElem?_setIfInBounds_ne (by decide)];exact h1.2
  .exact(Heap.get?_update_ne _ _ _ _ hb).trans (sK _ z')
 refine am (ad (wpAny_setField ho1 rfl nofun ?_));cases a0<;>first|exact am (am fin)|exact wpAny_letGo (am fin)
def nS (I:Inv X Y U H s)(e:H a=some (.exc C dx fs fr))(c:cu X.K C)
  (h:∀ s',Inv X Y U H s'->Q .none s'):wpAny (model X.prog X.w) A (call (.builtin "ValueError.__init__") [.ref a,u]) Q E s:=wpAny_call (iB I e c h)
end
abbrev bT (K:W.Frag)(C:Addr):Bool:=match K.lookup C with
 |some ⟨_,_,.cls cd,sl⟩=>!cd.abstract&& !cd.hasDel&&(sl.toList[4]?).join ==some (.builtin "ValueError.__new__")&&cU cd.mro&&cd.mro.contains (.ref C)&&
   W.specialIn K (.ref C) "__call__" ==some (some (.builtin "type.__call__"))&&W.instIn K (.ref C) (.type "type") ==some true
 |_=>false
structure wz (M:Model) (h:Heap) (C:Addr):Prop where
 obj:∃ oc od cd sl,h.get? C=some ⟨oc,od,.cls cd,sl⟩/\cd.abstract=false/\cd.hasDel=false/\cd.mro.isEmpty=false
 made:W.Looks M h (Bind.madeBy (.ref C)) (some "ValueError.__new__")
 base:W.Looks M h (Bind.staticBase (.ref C)) (.ref C)
 self:W.Looks M h (isSubtype (.ref C) (.ref C)) true
 top:W.Looks M h (isSubtype (.ref C) (.type "ValueError")) true
 no1:W.Looks M h (isSubtype (.ref C) (.type "AttributeError")) false
 no2:W.Looks M h (isSubtype (.ref C) (.type "NameError")) false
 call:W.Looks M h (specialOf (.ref C) "__call__") (some (.builtin "type.__call__"))
 typ:W.Looks M h (isInstance (.ref C) (.type "type")) true
def qi {n:String}(h:bP.contains (.type n)=false):(rs.map Value.ref++bP).contains (.type n)=false:=by
 induction rs with
 |nil=>exact h
 |cons a r ih=>rw[map_cons,List.cons_append,List.contains_cons,ih];rfl
def jL {K:W.Frag}{M:Model}{h:Heap}(X:K.In h){C:Addr}(e:bT K C=true):wz M h C:=by
 unfold bT at e
 split at e
 .rename_i oc od cd sl ho;simp only[li,Bool.not_eq_true',beq_iff_eq]at e;obtain⟨⟨⟨⟨⟨⟨e1,e2⟩,e3⟩,e4⟩,e5⟩,e7⟩,e8⟩:=e;obtain⟨rs,em⟩:=c5 e4;have hc:W.clsIn K C=some cd:=by unfold W.clsIn;rw[ho]
  have hm:Looks M h (mroOf (.ref C)) cd.mro:=(looks_clsIn X hc).andThen .now;have ne:cd.mro.isEmpty=false:=by rw[em];exact qb
  obtain⟨c,l,hl⟩:∃ c l,cd.mro=c::l:=by
   cases q:cd.mro with
   |nil=>rw[q]at ne;cases ne
   |cons c l=>exact⟨c,l,rfl⟩
  have made:Looks M h (Bind.madeBy (.ref C)) (some "ValueError.__new__"):=by
   intro A Q E s k q;unfold Bind.madeBy;refine ad (hm A _ E s k ?_);rw[hl,forIn_cons];refine ad (ad (ad (ad (wpAny_loadPart (k _ _ (X _ _ ho)) (am ?_)))));dsimp only;rw[<-Array.getElem?_toList,e3];exact am (am (am q))
  have mro:∀ {v b},cd.mro.contains v=b->W.mroIn K C v=some b:=λ{v b} q=>by
   unfold W.mroIn;rw[hc,Option.bind_some,if_neg (by rw[ne];decide),q]
  refine⟨⟨oc,od,cd,sl,X _ _ ho,e1,e2,ne⟩,made,?_,looks_mroIn X (mro e5),looks_mroIn X (mro (by rw[em];exact nA (by decide+kernel))),looks_mroIn X (mro (by rw[em];exact qi (by decide+kernel))),looks_mroIn X (mro (by rw[em];exact qi (by decide+kernel))),looks_specialIn X e7,looks_instIn X e8⟩;intro A Q E s k q;unfold Bind.staticBase;refine ad (hm A _ E s k ?_);rw[hl,forIn_cons];exact ad (ad (ad (made A _ E s k (am (am (am q))))))
 .cases e
variable {rest:List Value}
section
variable {prog:Program}{w:World}{A:Around}{K:W.Frag}{C:Addr}{R:Result->Shared->Prop}{h:Heap}{g:Array GenState}{d:Drawn}{t:Nat}{os:OsState}
def Ay (Y:wz (model prog w) h C)(hz:rest.length<=bn)
  (hq:R (.ok (.ret (.ref (h.objs.size+1)))) ⟨(h.push { cls:=.type "tuple",data:=.seq rest.toArray }).push { cls:=.ref C,data:=.fields #[.ref h.objs.size,.none,.none,.none,.bool false,.none] },g,d,t,os⟩):
  codeAny (model prog w) A (.call (.builtin "ValueError.__new__") ⟨.ref C::rest,[]⟩) R ⟨h,g,d,t,os⟩:=by
 obtain⟨⟨oc,od,cd,sl,hC,e1,e2,e4⟩,made,base,self,top,no1,no2,call,typ⟩:=Y;have F:=PySem.F.excBase_ValueError;have here:Looks (model prog w) h (Bind.madeHere "BaseException.__new__" (.ref C)) ():=base.andThen (made.andThen (Looks.of_pure (by simp only[Option.map_some,F.canon,bne_self_eq_false,Bool.false_eq_true,if_false])));refine codeAny_call_builtin_code (Code.quiet_builtin _ F.quiet) ?_;simp only[checkBuiltinCall,F.newKind,F.newSplit,F.newRow]
 repeat(first|simp only[bne_self_eq_false,Bool.false_eq_true,if_false]|lk)
 refine codeAny_builtinAt F.entry ?_;unfold Builtin.«BaseException.__new__»;refine PySem.wpAt_bind ?_;show PySem.wpAt _ _ _ (stack >>= _) _ _ _;refine PySem.wpAt_bind (PySem.wpAt_stack λp below=>PySem.wpAt_of_wpAny ?_);have hends:=F.ends
 wp_walk
 refine PySem.wpAt_of_wpAny ?_;rw[F.owner]
 repeat(first|simp only[Bool.not_true,Bool.false_eq_true,if_false]|lk)
 rw[if_neg (show ¬ (rest.toArray.size>bn) by rw[ge];omega)];unfold newObjAsIs;refine ad (wpAny_alloc (am (ad ?_)));show wpAny _ _ (newObjAsIs _ _ _) _ _ _;unfold newObjAsIs classHasDel;refine ad (wpAny_alloc (ad (ad (wpAny_load (sK _ (sK _ hC)) (am ?_)))));rw[e2];refine am (am ?_);show R _ _;rw[Heap.size_push];exact hq
def A9 {fI:Addr}(X:K.In h)(hz:rest.length<=bn)(hm:bT K C=true)(hi:W.findIn K (.ref C) "__init__"=some (some (.ref fI))) (hf:W.typeIn K (.ref fI)=some (.type "function"))
  (hq:codeAny (model prog w) (A.under (.builtin "type.__call__" ⟨.ref C::rest,[]⟩)) (.call (.ref fI) ⟨.ref (h.objs.size+1)::rest,[]⟩) (InitBack (h.objs.size+1) R)
   ⟨(h.push { cls:=.type "tuple",data:=.seq rest.toArray }).push { cls:=.ref C,data:=.fields #[.ref h.objs.size,.none,.none,.none,.bool false,.none] },g,d,t,os⟩):
  codeAny (model prog w) A (.call (.ref C) ⟨rest,[]⟩) R ⟨h,g,d,t,os⟩:=by
 have Y:=jL (M:=model prog w) X hm;have Y':=Y;obtain⟨⟨oc,od,cd,sl,hC,e1,e2,e4⟩,made,base,self,top,no1,no2,call,typ⟩:=Y;refine codeAny_of_tree ?_;show wpAny _ _ (callAny (.ref C) _) _ _ _;refine nd_load hC ?_;show wpAny _ _ (callAny.viaDunder (.ref C) _) _ _ _;unfold callAny.viaDunder;refine ad (call.at ?_);dsimp only;rw[tc_bind];refine ad (am (ad (am ?_)));refine am (a:=Fin.again (.call (.builtin "type.__call__") ⟨.ref C::rest,[]⟩)) (And.intro rfl ?_);refine codeAny_call_builtin_at (Code.quiet_builtin _ (by decide+kernel)) entry_typeCall (check_slot tc_kind tc_split typ (tc_args _ _ _) ?_);unfold Builtin.«type.__call__»;have hmr:Looks (model prog w) h (mroOf (.ref C)) cd.mro:=((Looks.ld (part:=none) hC).andThen .now).andThen .now
 repeat(first|simp only[e4,Bool.false_eq_true,if_false]|with_reducible refine wpAny_call ?_|lk)
 refine Ay Y' hz ?_;have k:∀ b o,h.get? b=some o->((h.push { cls:=.type "tuple",data:=.seq rest.toArray }).push { cls:=.ref C,data:=.fields #[.ref h.objs.size,.none,.none,.none,.bool false,.none] }).get? b=some o:=λb o e=>sK _ (sK _ e)
 have hx:((h.push { cls:=.type "tuple",data:=.seq rest.toArray }).push { cls:=.ref C,data:=.fields #[.ref h.objs.size,.none,.none,.none,.bool false,.none] }).get? (h.objs.size+1)=some { cls:=.ref C,data:=.fields #[.ref h.objs.size,.none,.none,.none,.bool false,.none] }:=by heap_get
 have t1:Looks (model prog w) ((h.push { cls:=.type "tuple",data:=.seq rest.toArray }).push { cls:=.ref C,data:=.fields #[.ref h.objs.size,.none,.none,.none,.bool false,.none] }) (typeOf (.ref (h.objs.size+1))) (.ref C):=(Looks.ld hx).andThen .now;have s1:=self.keeps k;have i1:=(looks_findIn (M:=model prog w) X hi).keeps k;have b1:=(bind_fn (M:=model prog w) X (.ref (h.objs.size+1)) hf).keeps k;unfold isInstance callSpecial? specialOf
 repeat(first|with_reducible refine wpAny_call ?_|lk)
 refine codeAny_mono hq λr s' z=>?_
 rcases r with e|(v|_|_|_)<;>first|exact z|exact z.elim|skip
 obtain⟨rfl,z⟩:=z;exact am (am z)
def xG (X:K.In h)(hz:rest.length<=bn)(hm:bT K C=true)(hi:W.findIn K (.ref C) "__init__"=some (some (.builtin "ValueError.__init__")))
  (hq:codeAny (model prog w) (A.under (.builtin "type.__call__" ⟨.ref C::rest,[]⟩)) (.call (.builtin "ValueError.__init__") ⟨.ref (h.objs.size+1)::rest,[]⟩) (InitBack (h.objs.size+1) R)
   ⟨(h.push { cls:=.type "tuple",data:=.seq rest.toArray }).push { cls:=.ref C,data:=.fields #[.ref h.objs.size,.none,.none,.none,.bool false,.none] },g,d,t,os⟩):
  codeAny (model prog w) A (.call (.ref C) ⟨rest,[]⟩) R ⟨h,g,d,t,os⟩:=by
 have Y:=jL (M:=model prog w) X hm;have Y':=Y;obtain⟨⟨oc,od,cd,sl,hC,e1,e2,e4⟩,made,base,self,top,no1,no2,call,typ⟩:=Y;refine codeAny_of_tree ?_;show wpAny _ _ (callAny (.ref C) _) _ _ _;refine nd_load hC ?_;show wpAny _ _ (callAny.viaDunder (.ref C) _) _ _ _;unfold callAny.viaDunder;refine ad (call.at ?_);dsimp only;rw[tc_bind];refine ad (am (ad (am ?_)));refine am (a:=Fin.again (.call (.builtin "type.__call__") ⟨.ref C::rest,[]⟩)) (And.intro rfl ?_);refine codeAny_call_builtin_at (Code.quiet_builtin _ (by decide+kernel)) entry_typeCall (check_slot tc_kind tc_split typ (tc_args _ _ _) ?_);unfold Builtin.«type.__call__»;have hmr:Looks (model prog w) h (mroOf (.ref C)) cd.mro:=((Looks.ld (part:=none) hC).andThen .now).andThen .now
 repeat(first|simp only[e4,Bool.false_eq_true,if_false]|with_reducible refine wpAny_call ?_|lk)
 refine Ay Y' hz ?_;have k:∀ b o,h.get? b=some o->((h.push { cls:=.type "tuple",data:=.seq rest.toArray }).push { cls:=.ref C,data:=.fields #[.ref h.objs.size,.none,.none,.none,.bool false,.none] }).get? b=some o:=λb o e=>sK _ (sK _ e)
 have hx:((h.push { cls:=.type "tuple",data:=.seq rest.toArray }).push { cls:=.ref C,data:=.fields #[.ref h.objs.size,.none,.none,.none,.bool false,.none] }).get? (h.objs.size+1)=some { cls:=.ref C,data:=.fields #[.ref h.objs.size,.none,.none,.none,.bool false,.none] }:=by heap_get
 have t1:Looks (model prog w) ((h.push { cls:=.type "tuple",data:=.seq rest.toArray }).push { cls:=.ref C,data:=.fields #[.ref h.objs.size,.none,.none,.none,.bool false,.none] }) (typeOf (.ref (h.objs.size+1))) (.ref C):=(Looks.ld hx).andThen .now;have s1:=self.keeps k;have i1:=(looks_findIn (M:=model prog w) X hi).keeps k;have b1:Looks (model prog w) ((h.push { cls:=.type "tuple",data:=.seq rest.toArray }).push { cls:=.ref C,data:=.fields #[.ref h.objs.size,.none,.none,.none,.bool false,.none] }) (bindSpecial (.builtin "ValueError.__init__") (.ref (h.objs.size+1))) (.builtin "ValueError.__init__",[.ref (h.objs.size+1)]):=Looks.of_pure (PySem.F.excCall_ValueError.init.bind _);unfold isInstance callSpecial? specialOf
 repeat(first|with_reducible refine wpAny_call ?_|lk)
 refine codeAny_mono hq λr s' z=>?_
 rcases r with e|(v|_|_|_)<;>first|exact z|exact z.elim|skip
 obtain⟨rfl,z⟩:=z;exact am (am z)
end
end L2
namespace L2
open PySem PySem.Spec PySem.W PyProof.Rows
abbrev bj (e:Addr)(h h':Heap):Prop:=∀ oe vs,h.get? e=some oe->oe.data=.fields vs->∃ vs',h'.get? e=some { oe with data:=.fields vs' }/\vs'.size=vs.size/\vs'[2]? =vs[2]?
abbrev Ce (as:List Addr)(h h':Heap):Prop:=∀ b o,b ∉ as->h.get? b=some o->h'.get? b=some o
abbrev rV (h:Heap)(e T:Addr)(fl:Value):Prop:=∃ oe vs oT ts,h.get? e=some oe/\oe.data=.fields vs/\vs[1]? =some (.ref T)/\T≠e/\h.get? T=some oT/\oT.data=.fields ts/\ts[3]? =some fl
def bj.trans {e:Addr}{h h1 h2:Heap}(a:bj e h h1)(b:bj e h1 h2):bj e h h2:=λoe vs x y=>by
 obtain⟨vs1,x1,z1⟩:=a oe vs x y;obtain⟨vs2,x2,z2⟩:=b _ vs1 x1 rfl;exact⟨vs2,x2,z2.1.trans z1.1,z2.2.trans z1.2⟩
def bj.same {e:Addr}{h h':Heap}(k:h'.get? e=h.get? e):bj e h h':=λoe vs x y=>⟨vs,by rw[k,x,<-y],rfl,rfl⟩
variable {Q:HL}
section
variable {M:Model}{A:Around}{E:HM}{s:Shared}{base:Heap}{env:Env}{outer:List Env}{L e:Addr}
def jD {oe:Obj}{vs:Array Value}{head:Value}{hadNext:Bool}(hfr:A.frames=some (env::outer))(hl:s.heap.FunFrames base (env::outer))(hf:env.frame=some L)
  (he:s.heap.get? e=some oe) (hd:oe.data=.fields vs) (hsz:1<vs.size)
  (q:∀ h' T,s.heap.objs.size<=T->rV h' e T (rawInt L)->bj e s.heap h'->(∀ b o,b≠e->s.heap.get? b=some o->∃ sl,h'.get? b=some { o with slots:=sl })->Ce (e::kc (env::outer)) s.heap h'->Q () { s with heap:=h' }):
  wpAny M A (do let a <-frameOf env;let pl <-entryPlaceOf L hadNext;let b <-EntryCells.newEntry head a .none (rawInt L) .none pl;setField (.ref e) 1 b) Q E s:=by
 have hne:e ∉ kc (env::outer):=λhm=>by
  obtain⟨_,o,ho,hnf⟩:=hl.mem hm;rw[he]at ho;cases ho;exact hnf vs hd
 refine ad (wpAny_frameOf_fun hfr hl hf λh1 s1=>ad (wpAny_entryPlaceOf λpl hpl=>?_));unfold EntryCells.newEntry newFields;refine ad (wpAny_newObj_type ?_ (hpl.sizeOk5 _ _ _ _ _));have e1:h1.get? e=some oe:=(s1.2.1 e hne).trans he;have e2:=sK (h:=h1) { cls:=.type "traceback",dict:=none,data:=.fields ([head,.ref L,.none,rawInt L,.none]++(if pl.isEmpty then sn 6 Value.none else pl)).toArray } e1;have hTe:h1.objs.size≠e:=Nat.ne_of_gt (tz e1);have d3:=Obj.data_mapFields hd (·.setIfInBounds 1 (Value.ref h1.objs.size));have e3:=Heap.get?_update_self (Obj.mapFields (·.setIfInBounds 1 (Value.ref h1.objs.size))) e2 (Obj.isFreed_of_fields d3);have t3:=(Heap.get?_update_other (h1.push { cls:=.type "traceback",dict:=none,data:=.fields ([head,.ref L,.none,rawInt L,.none]++(if pl.isEmpty then sn 6 Value.none else pl)).toArray })
  (Obj.mapFields (·.setIfInBounds 1 (Value.ref h1.objs.size))) (Ne.symm hTe)).trans (ul h1 rfl)
 have keep:∀ b o,b≠e->h1.get? b=some o->((h1.push { cls:=.type "traceback",dict:=none,data:=.fields ([head,.ref L,.none,rawInt L,.none]++(if pl.isEmpty then sn 6 Value.none else pl)).toArray }).update e (Obj.mapFields (·.setIfInBounds 1 (Value.ref h1.objs.size)))).get? b=some o:=
  λb o hb hq=>(Heap.get?_update_other _ _ (Ne.symm hb)).trans (sK _ hq)
 refine wpAny_setField e2 hd hsz (q _ h1.objs.size ?_ ?_ ?_ (λb o hb ho=>?_) λb o hb ho=>?_)
 .rw[s1.1];exact pc _
 .refine⟨_,_,_,_,e3,d3,by simp[hsz],hTe,t3,rfl,?_⟩
  first|(simp;done)|(rcases hpl with rfl|⟨_,_,_,_,_,_,_,rfl⟩<;>simp)
 .intro oe' vs' x y;rw[he]at x;cases x;rw[hd]at y;cases y;refine⟨vs.setIfInBounds 1 (.ref h1.objs.size),?_,by simp,Array.getElem?_setIfInBounds_ne (by decide)⟩;rw[e3];obtain⟨c0,d0,dt,sl0⟩:=oe;cases hd
  rfl
 .obtain⟨sl,z⟩:=s1.2.2 b o ho;exact⟨sl,keep b _ hb z⟩
 .exact keep b o (λz=>hb (by rw[z];exact le)) ((s1.2.1 b λz=>hb (dl _ z)).trans ho)
abbrev tL (n₀:Nat)(ps:HN)(H:Hp)(h:Heap)(e:Addr):Prop:=(∃ oe vs,h.get? e=some oe/\oe.data=.fields vs/\vs[1]? =some Value.none)\/∃ T,n₀<=T/\H T=none/\(∀ p ∈ ps,p.1≠T)/\∃ fl,rV h e T fl
def zt {n₀:Nat}{ps:HN}{H:Hp}(hfr:A.frames=some (env::outer))(hl:s.heap.FunFrames base (env::outer))(hf:env.frame=some L)(sf:(∃ oe vs,s.heap.get? e=some oe/\oe.data=.fields vs/\vs[1]? =some Value.none)\/∃ T,n₀<=T/\H T=none/\(∀ p ∈ ps,p.1≠T)/\∃ fl,(fl ==rawInt L)=false/\rV s.heap e T fl) (h0:n₀<=s.heap.objs.size) (hps:∀ p ∈ ps,p.1<s.heap.objs.size)
  (q:∀ h' T T0,s.heap.objs.size<=T->n₀<=T0->(H T0=none\/s.heap.objs.size<=T0)->(∀ p ∈ ps,p.1≠T0)->(∀ o,s.heap.get? T0=some o->∃ ts,o.data=.fields ts)->rV h' e T (rawInt L)->bj e s.heap h'->h'.FunFrames base (env::outer)->(∀ b o,b≠e->b≠T0->s.heap.get? b=some o->∃ sl,h'.get? b=some { o with slots:=sl })->Ce (e::T0::kc (env::outer)) s.heap h'->(∀ b o,s.heap.get? b=some o->∃ o',h'.get? b=some o')->Q () { s with heap:=h' }):
  wpAny M A (noteFrame (.ref e) env) Q E s:=by
 have fun_of:∀ {h':Heap}{as:List Addr},(∀ b ∈ as,∀ o,s.heap.get? b=some o->∃ vs,o.data=.fields vs)->(∀ b o,b ∉ as->s.heap.get? b=some o->∃ sl,h'.get? b=some { o with slots:=sl })->h'.FunFrames base (env::outer):=
  λ{h' as} ha k=>hl.of_keeps λb o ho hnf=>by
   by_cases hb:b ∈ as
   .obtain⟨vs,z⟩:=ha b hb o ho;exact absurd z (hnf vs)
   .obtain⟨sl,z⟩:=k b o hb ho;exact⟨_,z,rfl⟩
 unfold noteFrame;simp only[hf];rcases sf with⟨oe,vs,he,hd,h1⟩|⟨T0,hT0,hH0,hp0,fl,hfl,oe,vs,oT,ts,he,hd,h1,hTe,hT,hdT,h3⟩
 .skip
  refine ad (ap he hd h1 ?_);rw[if_neg (by decide)];refine jD hfr hl hf he hd (Array.getElem?_eq_some_iff.mp h1).1 λh' T hT st fo sl sy=>?_
  refine q h' T s.heap.objs.size hT h0 (.inr (pc _)) (λp hp=>nw (hps p hp)) (λo z=>absurd (tz z) (Nat.lt_irrefl _)) st fo ?_ (λb o hb _ ho=>sl b o hb ho) (λb o hb ho=>sy b o (λz=>hb ?_) ho) λb o ho=>?_
  .refine fun_of (as:=[e]) (λb hb o ho=>?_) λb o hb ho=>sl b o (by simpa using hb) ho
   obtain rfl:b=e:=by simpa using hb
   rw[he]at ho;cases ho;exact⟨vs,hd⟩
  .rcases lf.mp z with z|z
   .exact lf.mpr (.inl z)
   .exact dl _ (dl _ z)
  .by_cases hb:b=e
   .subst hb;rw[he]at ho;cases ho;obtain⟨vs',z,_⟩:=fo _ _ he hd;exact⟨_,z⟩
   .obtain⟨sl',z⟩:=sl b o hb ho;exact⟨_,z⟩
 .refine ad (ap he hd h1 ?_);rw[if_pos (show(Value.ref T0 != Value.none)=true from by simp)];refine ad (ap hT hdT h3 ?_);rw[if_neg (by rw[hfl];exact Bool.false_ne_true)];refine ad (wpAny_setField hT hdT (Array.getElem?_eq_some_iff.mp h3).1 ?_);have other:∀ b,b≠T0->(s.heap.update T0 (Obj.mapFields (·.setIfInBounds 3 Value.none))).get? b=s.heap.get? b:=λb hb=>Heap.get?_update_other _ _ (Ne.symm hb)
  have self':=Heap.get?_update_self (Obj.mapFields (·.setIfInBounds 3 Value.none)) hT (Obj.isFreed_of_fields (Obj.data_mapFields hdT _));have rec':∀ b o,s.heap.get? b=some o->(∀ vs,o.data≠.fields vs)->b≠T0:=λb o hb hnf z=>by
   rw[z,hT]at hb;cases hb;exact hnf ts hdT
  refine jD (base:=base) hfr (hl.of_keeps λb o hb hnf=>⟨o,(other b (rec' b o hb hnf)).trans hb,rfl⟩) hf ((other e (Ne.symm hTe)).trans he) hd (Array.getElem?_eq_some_iff.mp h1).1 λh' T hTn st fo sl sy=>?_
  have hTn':s.heap.objs.size<=T:=by
   have z:(s.heap.update T0 (Obj.mapFields (·.setIfInBounds 3 Value.none))).objs.size<=T:=hTn
   rwa [Heap.size_after_update]at z
  refine q h' T T0 hTn' hT0 (.inl hH0) hp0 (λo z=>by rw[hT]at z;cases z;exact⟨ts,hdT⟩) st (bj.trans (bj.same (other e (Ne.symm hTe))) fo) ?_ (λb o hb hb0 ho=>sl b o hb ((other b hb0).trans ho)) (λb o hb ho=>?_) λb o ho=>?_
  .refine fun_of (as:=[e,T0]) (λb hb o ho=>?_) λb o hb ho=>sl b o (λz=>hb (by simp[z])) ((other b λz=>hb (by simp[z])).trans ho)
   rcases lf.mp hb with hb|hb
   .subst hb;rw[he]at ho;cases ho;exact⟨vs,hd⟩
   .obtain rfl:b=T0:=by simpa using hb
    rw[hT]at ho;cases ho;exact⟨ts,hdT⟩
  .have n1:b≠e:=λz=>hb (by simp[z])
   have n2:b≠T0:=λz=>hb (by simp[z])
   refine sy b o (λz=>hb ?_) ((other b n2).trans ho);rcases lf.mp z with z|z
   .exact lf.mpr (.inl z)
   .exact dl _ (dl _ z)
  .by_cases hb:b=e
   .subst hb;obtain⟨vs',z,_⟩:=fo _ _ ((other b (Ne.symm hTe)).trans he) hd;exact⟨_,z⟩
   .by_cases hb0:b=T0
    .subst hb0;obtain⟨sl',z⟩:=sl b _ hb self';exact⟨_,z⟩
    .obtain⟨sl',z⟩:=sl b o hb ((other b hb0).trans ho);exact⟨_,z⟩
def pQ {T:Addr}{fl:Value}(st:rV s.heap e T fl)
  (q:∀ h',rV h' e T .none->(∀ b,b≠T->h'.get? b=s.heap.get? b)->(∃ o,s.heap.get? T=some o)->(∃ o,h'.get? T=some o)->(∃ oT ts,h'.get? T=some oT/\oT.data=.fields ts)->Q () { s with heap:=h' }):wpAny M A (setFlight (.ref e) none) Q E s:=by
 obtain⟨oe,vs,oT,ts,he,hd,h1,hTe,hT,hdT,h3⟩:=st;have hz:3<ts.size:=(Array.getElem?_eq_some_iff.mp h3).1;have other:∀ b,b≠T->(s.heap.update T (Obj.mapFields (·.setIfInBounds 3 ((none:Option Addr).elim Value.none λf=>rawInt f)))).get? b=s.heap.get? b:=λb hb=>Heap.get?_update_other _ _ (Ne.symm hb)
 have self':=Heap.get?_update_self (Obj.mapFields (·.setIfInBounds 3 ((none:Option Addr).elim Value.none λf=>rawInt f))) hT (Obj.isFreed_of_fields (Obj.data_mapFields hdT _));unfold setFlight;refine ad (ap he hd h1 ?_);rw[if_pos (show(Value.ref T != Value.none)=true from by simp)];refine wpAny_setField hT hdT hz (q _ ⟨oe,vs,_,_,(other e (Ne.symm hTe)).trans he,hd,h1,hTe,self',Obj.data_mapFields hdT _,by simp[hz]⟩ other ⟨_,hT⟩ ⟨_,self'⟩ ⟨_,_,self',Obj.data_mapFields hdT _⟩)
end
variable {A:Around}
section
variable {X:Cx}{U:St}{H:Hp}{s:Shared}{e C:Addr}{dx:Option Addr}{fs:List (Str×V)}{h':Heap}
def Inv.ou {Y:HN}(I:Inv X Y U H s):Inv X [] U H s:=I.kI λ_ z=>absurd z (by simp)
def Inv.DC {T0:Addr}{as:List Addr}(I:Inv X [] U H s)(hpn:∀ p ∈ X.pn,p.1≠T0) (he:H e=some (.exc C dx fs false)) (has:as=kc X.stack)
  (hT:X.s₀.heap.objs.size<=T0) (hT0:H T0=none\/s.heap.objs.size<=T0) (hTd:∀ o,s.heap.get? T0=some o->∃ ts,o.data=.fields ts)
  (fo:bj e s.heap h') (sl:∀ b o,b≠e->b≠T0->s.heap.get? b=some o->∃ sl,h'.get? b=some { o with slots:=sl }) (sy:Ce (e::T0::as) s.heap h') (th:∀ b o,s.heap.get? b=some o->∃ o',h'.get? b=some o'):
  Inv X [] U H { s with heap:=h' }:=by
 subst has;obtain⟨⟨vs,ho,hsz,_,h2⟩,z⟩:=id (I.hok e _ he);have hH0:H T0=none:=by
  rcases hT0 with z|z
  .exact z
  .exact I.hok.fresh z
 have nT:∀ {b:Addr}{o:Obj},s.heap.get? b=some o->(∀ vs,o.data≠.fields vs)->b≠T0:=λ{b o} hb hn z=>by
  subst z;obtain⟨ts,q⟩:=hTd _ hb;exact hn ts q
 have de:∀ b o,H b=none->b≠T0->b ∉ kc X.stack->s.heap.get? b=some o->h'.get? b=some o:=λb o hb h0 hf hq=>sy b o (λm=>by
  rcases lf.mp m with m|m
  .rw[m,he]at hb;cases hb
  .rcases lf.mp m with m|m
   .exact h0 m
   .exact hf m) hq
 have AE:∀ a u,H a=some u->a≠e->∀ o,s.heap.get? a=some o->h'.get? a=some o:=λa u ha ne o hq=>sy a o (λm=>by
  rcases lf.mp m with m|m
  .exact ne m
  .rcases lf.mp m with m|m
   .rw[m,hH0]at ha;cases ha
   .rw[I.kR a m]at ha;cases ha) hq
 refine I.step (g':=s.gens) (t':=s.toks) (d':=s.drawn) (ch:=[T0]) (h':=h') (λb hb=>?_) (λb o hL hfs hch hq hn=>?_) (λb o hL hfs hch hq hn=>?_) (λb o _ _ hn=>hn) (λb o _ hq=>th b o hq) (λ_ _ q=>q) (λ_ _ _ q=>q) (λb ps q=>⟨#[],by rw[q];simp⟩) (λm hm=>?_) (λa u ha=>?_) I.bare
 .obtain rfl:b=T0:=by simpa using hb
  refine⟨.inr hT,?_,λx c hc z=>?_,λp hp=>hpn p (by simpa using hp)⟩
  .obtain⟨m,⟨o,es,ep,ho',hd,_⟩,_⟩:=I.loc;intro z;exact nT ho' (λvs q=>by rw[hd]at q;cases q) z.symm
  .obtain⟨v,o,ho',hd⟩:=I.cell x c hc;exact nT ho' (λvs q=>by rw[hd]at q;cases q) z
 .refine de b o hn (by simpa using hch) (λm=>?_) hq;rcases lf.mp (I.gG b m) with z|z
  .exact hL z
  .exact hfs z
 .exact sl b o (λz=>by rw[z,he]at hn;cases hn) (by simpa using hch) hq
 .obtain⟨o,es,ep,ho',hd,r⟩:=hm;have n1:X.env.locals≠e:=λz=>by have:=I.free;rw[z,he]at this;cases this
  obtain⟨sl',q⟩:=sl _ o n1 (nT ho' λvs q=>by rw[hd]at q;cases q) ho';exact⟨_,es,ep,q,hd,r⟩
 .by_cases hae:a=e
  .subst hae;rw[he]at ha;cases ha;obtain⟨vs',q,hz,hz2⟩:=fo _ vs ho rfl;refine⟨⟨vs',q,hz.trans hsz,(λy=>by cases y),hz2.trans h2⟩,?_⟩;rcases z with z|⟨d,ed,d1,z1,ne,mA,⟨od,es,ep,e2,c⟩,r⟩
   .exact .inl z
   .exact .inr ⟨d,ed,d1,z1,ne,mA,⟨od,es,ep,AE d _ d1 ne _ e2,c⟩,r⟩
  .refine(I.hok a u ha).de (λb o hb hq=>?_) (λ_ q=>q) λ_ _ q=>q
   rcases hb with hb|hb
   .subst hb;exact AE b u ha hae o hq
   .refine AE b _ hb (λz=>?_) o hq;rw[z,he]at hb;cases hb
abbrev uZ (P:Program)(w:World):qL:=λouter H s E u s'=>∃ (e:Addr) (H':Hp) (C:Addr) (dx:Option Addr) (fs:List (Str×V)) (T:Addr),u=.ref e/\s'.os=s.os/\AllBare s'.gens/\Un (kc outer) [] H H' s.heap s'.heap/\eK P w H' s'.heap/\
 H' e=some (.exc C dx fs false)/\s.heap.objs.size<=T/\H' T=none/\rV s'.heap e T .none/\E e H'
abbrev CU (X:Cx)(E:St->XK):Prop:=∀ (U:St) (H:Hp) (s:Shared) (e C:Addr) (dx:Option Addr) (fs:List (Str×V)),Inv X [] U H s->tL X.s₀.heap.objs.size X.pn H s.heap e->H e=some (.exc C dx fs false)->E U e H->X.xe (.ref e) s
def cP {E:St->XK}(x:CU X E):Passes (uZ X.prog X.w) X E:=by
 intro Y U H s u s' I h;obtain⟨e,H',C,dx,fs,T,rfl,os,bare,un,hok,he,hT,hT0,st,q⟩:=h;have J:Inv X [] U H' s':=Inv.qC (ch:=[]) I.ou os un hok bare (λb z=>absurd z (by simp));exact x U H' s' e C dx fs J (.inr ⟨T,Nat.le_trans I.sz hT,hT0,λp hp=>nw (mo (tz (I.pin p (mem_append_left _ hp)).1) hT),_,st⟩) he q
def kB {x:Value}{e1 e2:Env}(h:e1.frame=e2.frame):noteFrame x e1=noteFrame x e2:=by
 unfold noteFrame PySem.frameOf;rw[h]
def Inv.uC {T:Addr}{oT:Obj}{ts:Array Value}(I:Inv X [] U H s)(hT:s.heap.get? T=some oT)(hd:oT.data=.fields ts):T≠X.env.locals/\∀ x c,X.env.cells.lookup x=some c->c≠T:=by
 refine⟨λz=>?_,λx c hc z=>?_⟩
 .obtain⟨m,⟨o,es,ep,ho',hd',_⟩,_⟩:=I.loc;rw[<-z,hT]at ho';cases ho';rw[hd]at hd';cases hd'
 .obtain⟨v,o,ho',hd'⟩:=I.cell x c hc;rw[z,hT]at ho';cases ho';rw[hd]at hd';cases hd'
def mN {M:Model}{E':HM}{env e0:Env}{o0:List Env}{L:Addr}(I:Inv X [] U H s)(hs:X.stack=e0::o0)(hf0:e0.frame=some L)(hf:env.frame=some L)(sf:tL X.s₀.heap.objs.size X.pn H s.heap e)(he:H e=some (.exc C dx fs false))
  (q:∀ h' T,Inv X [] U H { s with heap:=h' }->X.s₀.heap.objs.size<=T->H T=none->(∀ p ∈ X.pn,p.1≠T)->rV h' e T (rawInt L)->Q () { s with heap:=h' }):
  wpAny M X.A (noteFrame (.ref e) env) Q E' s:=by
 rw[kB (e1:=env) (e2:=e0) (hf.trans hf0.symm)];have hl:s.heap.FunFrames X.base (e0::o0):=hs▸I.stack;have go:((∃ oe vs,s.heap.get? e=some oe/\oe.data=.fields vs/\vs[1]? =some Value.none)\/∃ T,X.s₀.heap.objs.size<=T/\H T=none/\(∀ p ∈ X.pn,p.1≠T)/\∃ fl,(fl ==rawInt L)=false/\rV s.heap e T fl)->wpAny M X.A (noteFrame (.ref e) e0) Q E' s:=λsf=>by
  refine zt (by rw[<-hs];exact I.ok.frames) hl hf0 sf I.sz (λp hp=>tz (I.pin p (mem_append_left _ hp)).1) λh1 T T0 hT hT0 hH0 hp0 hTd st fo fF sl sy th=>?_
  exact q h1 T (I.DC (T0:=T0) (as:=kc (e0::o0)) (h':=h1) hp0 he (by rw[hs]) hT0 hH0 hTd fo sl sy th) (Nat.le_trans I.sz hT) (I.hok.fresh hT) (λp hp=>nw (mo (tz (I.pin p (mem_append_left _ hp)).1) hT)) st
 rcases sf with sf|⟨T,hT,hH,hp,fl,st⟩
 .exact go (.inl sf)
 .cases hfl:(fl ==rawInt L) with
  |false=>exact go (.inr ⟨T,hT,hH,hp,fl,hfl,st⟩)
  |true=>
   obtain rfl:fl=rawInt L:=eq_of_beq hfl;obtain⟨oe,vs,oT,ts,he',hd,h1,hTe,hoT,hdT,h3⟩:=id st;exact wpAny_noteFrame_inFlight hf0 he' hd h1 hoT hdT h3 (q s.heap T I hT hH hp st)
def jO {M:Model}{E E':HM}{Q:Shared->Prop}(I:Inv X [] U H s)(hs:X.stack=X.env::X.outer)(hf:X.env.frame=some X.env.locals)(sf:tL X.s₀.heap.objs.size X.pn H s.heap e)(he:H e=some (.exc C dx fs false))
  (q:∀ s' T,Inv X [] U H s'->s'.os=s.os->X.s₀.heap.objs.size<=T->H T=none->(∀ p ∈ X.pn,p.1≠T)->rV s'.heap e T .none->Q s'):
  wpAny M X.A (noteFrame (.ref e) X.env) (λ_ s1=>wpAny M X.A (setFlight (.ref e) none) (λ_ s2=>Q s2) E s1) E' s:=by
 refine mN I hs hf hf sf he λh1 T I1 hT hHT hpT st=>?_
 obtain⟨_,_,oT,ts,_,_,_,_,hoT,hdT,_⟩:=id st;obtain⟨n1,n2⟩:=I1.uC hoT hdT;refine pQ (s:={ s with heap:=h1 }) st λh2 jN oth _ th2 rec2=>?_
 exact q _ T (Inv.turned (s:={ s with heap:=h1 }) (it:=T) (h':=h2) (t':=s.toks) I1 (λb o hb hq=>(oth b hb).trans hq) hHT n1 (.inr hT) n2 λp hp=>hpT p (by simpa using hp)) rfl hT hHT hpT jN
def sR {c:Bool}{P:Program}{w:World}{K:W.Frag}{mg:HP}{base:Heap}{N:List Str}{qual:Str}{scope:Scope}{f:Addr}{cd:Value}{outer:List Env}{E:XK}:
  CU (rz c (uZ P w) P w K mg base N qual scope f cd A outer s H E) (λ_=>E):=by
 intro σ' H' s' e C dx fs I sf he q;show wpAny _ _ (do noteFrame (.ref e) _;setFlight (.ref e) none) _ _ s';refine ad (jO I rfl rfl sf he λs2 T J os hT hH _ st=>?_);exact⟨e,H',C,dx,fs,T,rfl,J.os,J.bare,J.base,J.hok,he,hT,hH,st,q⟩
end
structure E9 (K:W.Frag) (C f:Addr):Prop where
 mks:bT K C=true
 init:W.findIn K (.ref C) "__init__"=some (some (.ref f))
 fn:W.isFn K (.ref f)=true
 kp:W.keepIn K (.ref C)=true
variable {us:List Value}{vs:List V}
section
variable {X:Cx}{Y:HN}{U:St}{H:Hp}{s:Shared}{C f:Addr}
def Inv.zG (us:List Value)(I:Inv X Y U H s):Inv X Y U (upd H (s.heap.objs.size+1) (.exc C none [] true))
  { s with heap:=(s.heap.push { cls:=.type "tuple",data:=.seq us.toArray }).push { cls:=.ref C,data:=.fields #[.ref s.heap.objs.size,.none,.none,.none,.bool false,.none] } }:=by
 have I1:=I.kept (h':=s.heap.push { cls:=.type "tuple",data:=.seq us.toArray }) (t':=s.toks) λb u q=>sK _ q
 refine Inv.laid (s:={ s with heap:=s.heap.push { cls:=.type "tuple",data:=.seq us.toArray } }) (a:=s.heap.objs.size+1) (o:=.exc C none [] true) (t':=s.toks) I1 (λb u q=>sK _ q) (Nat.le_of_eq (Heap.size_push _ _)) ?_;refine⟨⟨#[.ref s.heap.objs.size,.none,.none,.none,.bool false,.none],?_,rfl,λ_=>rfl,rfl⟩,.inl ⟨rfl,rfl⟩⟩;have:=ul (s.heap.push { cls:=.type "tuple",data:=.seq us.toArray }) (o:={ cls:=.ref C,data:=.fields #[.ref s.heap.objs.size,.none,.none,.none,.bool false,.none] }) rfl
 rwa [Heap.size_push]at this
variable {c:Bool}{CX:qL}{k:Nat}{fd:FuncData}{ps:List Str}{sp:Sp}{dvs:List V}{ds:List Value}{E:St->XK}{x m:Str}{p pos apos:Pos}{e o:Expr}{es:List Expr}{ta:TE}{t:TA}
abbrev wo (C:Addr)(sp:Sp)(dvs:List V)(E:St->XK)(t:TA):TE:=λU H Q=>t U H λvs H1=>vs.length<=1000/\∀ x,H1 x=none->sp (.ref x::(vs++dvs)) (upd H1 x (.exc C none [] true)) (λv H2=>v=.non/\Q (.ref x) H2) (E U)
def jH {Q:VK}(M:E9 X.K C f)(F:cS c X.prog X.w X.K X.mg X.base CX k f fd ps sp)(hh:∀ {Y:HN}{U:St}{H:Hp}{s:Shared}{vs:List V}{Q:VK}{E:XK},Inv X Y U H s->sp vs H Q E->tD c X.A.handled H) (hr:bJ (k+1) X.A) (hb:Binds X.K fd ps ds) (hd:Vals dvs ds)
  (hx:Passes CX X E) (hz:us.length<=bn) (I:Inv X Y U H s) (r:Vals vs us)
  (h:∀ x,H x=none->sp (.ref x::(vs++dvs)) (upd H x (.exc C none [] true)) (λv H2=>v=.non/\Q (.ref x) H2) (E U)):
  wpAny (model X.prog X.w) X.A (call (.ref C) us) (EP X Y U Q) X.xe s:=by
 have hq:=h (s.heap.objs.size+1) (I.hok.fresh (Nat.le_succ _));have I2:=Inv.zG (C:=C) us I;have r2:Vals (V.ref (s.heap.objs.size+1)::(vs++dvs)) (Value.ref (s.heap.objs.size+1)::(us++ds)):=.cons rfl (r.append hd);have hl:(Value.ref (s.heap.objs.size+1)::us++ds).length=ps.length:=by
  have e:=r2.length;rw[F.len _ _ _ _ hq]at e;exact e.symm
 obtain⟨hp,g,d,tk,os⟩:=s;refine wpAny_call (A9 (fI:=f) I.bK hz M.mks M.init (beq_iff_eq.mp M.fn) (codeAny_mono (F.run _ X.stack _ _ ⟨Value.ref (hp.objs.size+1)::us,[]⟩ (Value.ref (hp.objs.size+1)::(us++ds)) _ _ (E U) (hr.make C us []) (hh I2 hq)
  (I2.gC.make C us []) (hb _ (Value.ref (hp.objs.size+1)::us) I2.bK hl) r2 hq) λr s' hq'=>?_))
 cases r with
 |error e=>exact hx Y U _ _ e s' I2 hq'
 |ok fl=>
  cases fl with
  |ret u=>
   obtain⟨v,H',J,rv,ev,q⟩:=I2.after hq';subst ev;obtain rfl:u=Value.none:=rv;exact⟨rfl,.ref _,H',J,rfl,q⟩
  |next=>exact False.elim hq'
  |brk=>exact False.elim hq'
  |cont=>exact False.elim hq'
def tQ (M:E9 X.K C f)(F:cS c X.prog X.w X.K X.mg X.base CX k f fd ps sp)(hh:∀ {Y:HN}{U:St}{H:Hp}{s:Shared}{vs:List V}{Q:VK}{E:XK},Inv X Y U H s->sp vs H Q E->tD c X.A.handled H) (hr:bJ (k+1) X.A) (hg:Gl X x) (hm:X.mg x=some (.ref C)) (hb:Binds X.K fd ps ds) (hd:Vals dvs ds) (hx:Passes CX X E)
  (ha:PA X (e::es) t) (hdb:(x ==("__debug__":Str))=false:=by decide) (he:bm (e::es) X.env=(false,eval e X.env)::bm es X.env:=by rfl) (hpl:(backTo pos (bm es X.env)).any (·.1)=false:=by rfl):
  PE X (.Call (.Name x p) (e::es) [] pos) (wo C sp dvs E t):=by
 intro Y s U H Q I h;refine bv (bz I hg hm ?_ hdb);refine W.callWith_K (h₀:=X.base) I.ok.mod.kin M.kp (au (ha pos Y s U H _ I h) λus s1 ⟨vs,H1,I1,r,z,q⟩=>⟨I1.bK,?_⟩) he hpl;exact jH M F hh hr hb hd hx (by rw[nil_append,<-r.length];exact Nat.le_of_lt (cL z)) I1 r q
structure Ca (K:W.Frag) (C:Addr):Prop where
 mks:bT K C=true
 init:W.findIn K (.ref C) "__init__"=some (some (.builtin "ValueError.__init__"))
 kp:W.keepIn K (.ref C)=true
 cls:cu K C
abbrev w6 (C:Addr)(t:TA):TE:=λU H Q=>t U H λvs H1=>vs.length=1/\∀ x,H1 x=none->Q (.ref x) (upd H1 x (.exc C none [] true))
def o9 {Q:VK}(M:Ca X.K C)(I:Inv X Y U H s)(r:Vals vs us)(h1:vs.length=1)(h:∀ x,H x=none->Q (.ref x) (upd H x (.exc C none [] true))):
  wpAny (model X.prog X.w) X.A (call (.ref C) us) (EP X Y U Q) X.xe s:=by
 have hq:=h (s.heap.objs.size+1) (I.hok.fresh (Nat.le_succ _));have I2:=Inv.zG (C:=C) us I;obtain⟨u,rfl⟩:∃ u,us=[u]:=by
  have e:=r.length;rw[h1]at e
  match us,e with
  | [u],_=>exact⟨u,rfl⟩
 obtain⟨hh,g,d,tk,os⟩:=s;refine wpAny_call (xG I.bK (by rw[sizeLine_eq];exact nb rfl) M.mks M.init (iB (C:=C) (dx:=none) (fs:=[]) (fr:=true) I2 aq M.cls λs' J=>?_));exact⟨rfl,.ref _,_,J,rfl,hq⟩
def vw (M:Ca X.K C)(hg:Gl X x)(hm:X.mg x=some (.ref C))(ha:PA X (e::es) t)(hdb:(x ==("__debug__":Str))=false:=by decide) (he:bm (e::es) X.env=(false,eval e X.env)::bm es X.env:=by rfl) (hpl:(backTo pos (bm es X.env)).any (·.1)=false:=by rfl):
  PE X (.Call (.Name x p) (e::es) [] pos) (w6 C t):=by
 intro Y s U H Q I h;refine bv (bz I hg hm ?_ hdb);refine W.callWith_K (h₀:=X.base) I.ok.mod.kin M.kp (au (ha pos Y s U H _ I h) λus s1 ⟨vs,H1,I1,r,z,q⟩=>⟨I1.bK,?_⟩) he hpl;exact o9 M I1 r z q
structure GL (K:W.Frag) (B:Addr):Prop where
 ga:W.specialIn K (.ref B) "__getattribute__"=some (some (.builtin "type.__getattribute__"))
 rd:W.readsIn K B (.type "type")=true
 fi:W.findCls K (.ref B) (.type "type") "__init__"=some (.val (.builtin "ValueError.__init__"))
abbrev Fw (K:W.Frag)(t:TA):TE:=λU H Q=>t U H λvs H1=>∃ a C dx fs fr v,vs=[.ref a,v]/\H1 a=some (.exc C dx fs fr)/\cu K C/\Q .non H1
def Bw {B:Addr}{pl:Sem Bool}{np:Pos}(b:GL X.K B)(hg:Gl X x)(hm:X.mg x=some (.ref B))(ha:PA X (e::es) t)(hdb:(x ==("__debug__":Str))=false:=by decide)
  (hst:bm (e::es) X.env=(false,eval e X.env)::bm es X.env:=by rfl) (hpl:(backTo pos (bm es X.env)).any (·.1)=false:=by rfl)
  (ht:eval (.Call (.Attribute (.Name x np) "__init__" apos) (e::es) [] pos) X.env=(do
   let ov <-eval (.Name x np) X.env
   standAt apos.atName
   let(f,first) <-holding [ov] (getMethod ov "__init__" pl)
   callWith pos f first (backTo pos (bm (e::es) X.env)) (backToKw pos (keywordEach [] X.env))):=by rfl):
  PE X (.Call (.Attribute (.Name x np) "__init__" apos) (e::es) [] pos) (Fw X.K t):=by
 intro Y s U H Q I h;refine W.methodCall_KW (pl:=pl) (bz I hg hm ?_ hdb) ht;refine W.method_cls I.bK b.ga (W.cls_value I.bK b.rd b.fi (by decide+kernel) ?_);refine PyProof.Rows.callWith_builtin1 (au (ha pos Y _ U H _ (I.tok _) h) λus s1 ⟨vs,H1,I1,r,a,C,dx,fs,fr,v,ev,ea,c,q⟩=>?_) hst hpl;subst ev;cases r with
 |cons r1 r2=>
  cases r2 with
  |cons r3 r4=>
   cases r4;cases r1;exact nS I1 ea c λs' J=>⟨.non,H1,J,rfl,q⟩
structure HC (K:W.Frag) (C f:Addr):Prop where
 ga:W.specialIn K (.ref C) "__getattribute__"=some (some (.builtin "type.__getattribute__"))
 rd:W.readsIn K C (.type "type")=true
 fi:W.findCls K (.ref C) (.type "type") "__init__"=some (.val (.ref f))
 kp:W.keepIn K (.ref f)=true
end
section
open PySem.Builtin PySem.Builtin.ObjectAttr
variable {prog:Program}{w:World}{A:Around}{E:HM}{s:Shared}{K:W.Frag}{x C:Addr}{ox:Obj}{odo:Option Obj}
structure wg (K:W.Frag) (C:Addr):Prop where
 ha:W.findIn K (.ref C) "__class__"=some (some (.builtin "object.__class__"))
 hn:W.specialIn K (.builtin "object.__class__") "__get__"=some (some (.builtin "getset_descriptor.__get__"))
 htk:W.takesIn K (.builtin "object.__class__")=some true
def xp {Q:HK}(X:K.In s.heap)(I:W.InstAt s.heap x ox C odo)(c:cu K C)(z:wg K C)(hfo:W.findObj K C odo "__class__"=some (.bind (.builtin "getset_descriptor.__get__") (.builtin "object.__class__")))
  (h:Q (some (.ref C)) { s with toks:=s.toks+1 }):wpAny (model prog w) A (getAttr? (.ref x) "__class__") Q E s:=by
 obtain⟨hp,g,d,t,os⟩:=s;have L0:=I.type (M:=model prog w);have L1:=looks_findIn (M:=model prog w) X c.ga;have L2':=looks_findIn (M:=model prog w) X c.gn;have L3:=looks_find (M:=model prog w) X I hfo;have L4:Looks (model prog w) hp (isInstance (.ref x) (.type "BaseException")) true:=I.type.andThen (looks_mroIn X (c.sub (by decide+kernel)));unfold getAttr? getAttrBy? getAttrBy;refine ad (wpAny_mkText (ad (wpAny_attempt (bd (ad (L0.at (ad (L1.at ?_))))))));have e1:(Value.builtin "BaseException.__getattribute__" ==Value.builtin "object.__getattribute__")=false:=by decide+kernel
 dsimp only;rw[e1,Bool.and_false];show wpAny _ _ (getAttrByItsOwn _ _ _ _ _ _) _ _ _;unfold getAttrByItsOwn hookBefore;refine ad (L2'.at ?_);refine ad (wpAny_attempt (bd ?_));unfold callGetattribute;show wpAny _ _ (boundAndCalled _ _ _) _ _ _;unfold boundAndCalled;rw[PySem.F.attr_ValueError.ga.bind];refine ad (am (wpAny_call (codeAny_call_builtin PySem.F.attr_ValueError.ga.plain PySem.F.entry_bexc_ga ?_)));refine @check_slot (model prog w) _ _ _ "BaseException.__getattribute__" "BaseException" "__getattribute__" (.ref x) [.str "__class__" t] [] _ lW jY L4 (PySem.F.args_bexc_ga (.ref x) (.str "__class__" t)) ?_;unfold Builtin.«object.__getattribute__»;refine ad (am (ad (am (ad (L0.at (ad (L3.at ?_)))))));show wpAny _ _ (holding [_] (call _ [_,.ref x,.ref C]) >>= ret) _ _ _;refine ad (bd (wpAny_call (class_get (s:=⟨hp,g,d,t+1,os⟩) (ox:=ox) (od:=odo) X I (c.sub (by decide+kernel)) ?_)));refine am ?_;show wpAny _ _ (handedOut (.ref C)) _ _ _;exact handed_on rfl (am h)
def uX (c:cu K C)(z:wg K C):W.findObj K C odo "__class__"=some (.bind (.builtin "getset_descriptor.__get__") (.builtin "object.__class__")):=by
 obtain⟨cd,hc,_⟩:=W.any_some c.hd;unfold W.findObj;rw[hc,Option.bind_some,z.ha,Option.bind_some];simp[z.hn,z.htk]
def lY (c:cu K C)(z:wg K C):W.KitX K (.ref x) (.ref C) (λh=>W.InstAt h x ox C odo) where
 ty:=λ_ _ _ I=>I.type
 it:=λ_ _ X _=>by
  obtain⟨cdD,hcD,_⟩:=W.any_some c.hd;unfold W.clsIn at hcD
  split at hcD
  .rename_i c' d' cd' sl' ho;intro A' Q' E' s' k q;unfold isType loadHead;exact ad (wpAny_loadPart (k _ _ (X _ _ ho)) (am q))
  .cases hcD
 ne:=λh tp dd its n sl X htp=>by
  obtain⟨cdD,hcD,_⟩:=W.any_some c.hd;refine Bool.eq_false_iff.mpr λq=>?_
  have e:C=tp:=Value.ref.inj (beq_iff_eq.mp q);subst e;unfold W.clsIn at hcD
  split at hcD
  .rename_i c' d' cd' sl' ho;have z:=(X _ _ ho).symm.trans htp;cases z
  .cases hcD
 ca:=λX I k=>xp X I c z (uX c z) k
end
section
variable {X:Cx}{Y:HN}{U:St}{H:Hp}{s:Shared}{a C:Addr}{dx:Option Addr}{fs:List (Str×V)}{fr:Bool}
def mW (I:Inv X Y U H s)(e:H a=some (.exc C dx fs fr)):∃ ox odo,W.InstAt s.heap a ox C odo:=by
 obtain⟨⟨vs,ho,_⟩,z⟩:=id (I.hok a _ e);rcases z with⟨rfl,_⟩|⟨d,rfl,_,_,_,mA,⟨od,es,ep,hod,_⟩,_⟩
 .exact⟨_,none,ho,rfl,rfl,True.intro⟩
 .exact⟨_,some od,ho,rfl,rfl,hod⟩
def we {E:HM}{Q:HM}{cv:Value}{b:Bool}(I:Inv X Y U H s)(e:H a=some (.exc C dx fs fr))(c:cu X.K C)(z:wg X.K C)(k:W.kitOne X.K (.ref C) cv=some b)
  (h:∀ tk,Q (.bool b) { s with toks:=tk }):wpAny (model X.prog X.w) A (call (.builtin "isinstance") [.ref a,cv]) Q E s:=by
 obtain⟨ox,odo,J⟩:=mW I e;exact W.kia_one (lY (ox:=ox) (odo:=odo) c z) I.bK J k (λz=>nomatch z) h
end
end L2
namespace L2
open PySem PySem.Spec PySem.W PyProof.Rows
variable {dx:Option Addr}
section
variable {X:Cx}{f:Str}{o value ex:Expr}{ta tv te:TE}{pos pos':Pos}{E:St->XK}
def oZ {h:Heap}{a:Addr}{C:Addr}{vs:Array Value}{M:Model}(ho:h.get? a=some { cls:=.ref C,dict:=dx,data:=.fields vs }):W.Looks M h (isType (.ref a)) false:=by
 intro A Q E s k q;unfold isType loadHead;exact ad (wpAny_loadPart (k _ _ ho) (am q))
abbrev Bb (K:W.Frag)(E:St->XK)(te:TE):TS:=λD U H=>te U H λv H1=>∃ a C dx fs,v=.ref a/\H1 a=some (.exc C dx fs true)/\cu K C/\E U a (upd H1 a (.exc C dx fs false))
def uQ (hx:CU X E)(hc:X.calm=true)(he:PE X ex te):PS X (.Raise (some ex) none pos) (Bb X.K E te):=by
 intro Y s U H D I h;rw[arm_exec_Raise];simp only[evalOpt,Option.map];refine ad (wpAny_standAt ?_);unfold raiseStmt;refine ad (ad (au (he Y s U H _ I h) λu s1 ⟨y,H1,I1,ry,a,C,dx,fs,ey,ea,c,q⟩=>ad (wpAny_standAt (am ?_))));subst ey;obtain rfl:u=Value.ref a:=ry;obtain⟨⟨vs,ho,hsz,h1,h2⟩,z⟩:=id (I1.hok a _ ea);have h1':=h1 rfl;have hq:X.xe (.ref a) s1:=by
  have J:Inv X [] U (upd H1 a (.exc C dx fs false)) s1:=by
   have J1:=I1.ou.write (x:=a) (e:=a) (o:=.exc C dx fs false) (t':=s1.toks) (h':=s1.heap) (by rw[ea];exact rfl) (.inl rfl) (λ_ _ _ q=>q) ⟨_,ho⟩ ?_
   .exact J1
   .refine⟨⟨vs,ho,hsz,(λy=>by cases y),h2⟩,?_⟩;rcases z with z|⟨d,ed,d1,z1,ne,r⟩
    .exact .inl z
    .exact .inr ⟨d,ed,by rw[af ne];exact d1,z1,ne,r⟩
  exact hx U _ s1 a C dx fs J (.inl ⟨_,vs,ho,rfl,h1'⟩) aq q
 obtain⟨hp,g,d,tk,os⟩:=s1;have L0:Looks (model X.prog X.w) hp (typeOf (.ref a)) (.ref C):=(Looks.ld ho).andThen .now;have L1:Looks (model X.prog X.w) hp (isType (.ref a)) false:=oZ ho;have L2':Looks (model X.prog X.w) hp (isInstance (.ref a) (.type "BaseException")) true:=L0.andThen (looks_mroIn I1.bK (c.sub (by decide+kernel)));have L5:Looks (model X.prog X.w) hp (typeOf (.ref C)) (.type "type"):=looks_typeIn I1.bK c.mt;have tt:(Value.type "type" ==Value.type "type")=true:=by decide
 repeat(first|simp only[Bool.false_eq_true,if_false,if_true,tt]|lk)
 rw[h1'];refine am ?_;rw[if_neg (by decide)];exact am (wpAny_raiseNew_none (I1.ok.hd hc) hq)
end
@[reducible]def Cx.aN (X:Cx) (e:Value):Cx:={ X with A:=X.A.mark (some e),calm:=false,xe:=λ_ _=>False }
variable {xe:HM}{ps:HN}{D:Ends}
section
variable {X:Cx}{Y:HN}{U:St}{H:Hp}{s:Shared}
def Cx.Ok.aN (ok:X.Ok)(e:Value):(X.aN e).Ok:=
 ⟨ok.mod,ok.kind,ok.glob,ok.blt,ok.above,ok.inj,ok.has,ok.cab,(λz=>by cases z),ok.frames,ok.stk,ok.exf,ok.bs,ok.bsz,ok.noex,ok.exfs,ok.gA,ok.frf⟩
def Inv.aN (I:Inv X Y U H s)(e:Value):Inv (X.aN e) Y U H s:=⟨I.ok.aN e,I.os,I.bare,I.base,I.loc,I.cell,I.free,I.freeC,I.pin,I.hok,I.len⟩
def Inv.ie {e:Value}(ok:X.Ok)(I:Inv (X.aN e) Y U H s):Inv X Y U H s:=⟨ok,I.os,I.bare,I.base,I.loc,I.cell,I.free,I.freeC,I.pin,I.hok,I.len⟩
def dX {M:Model}{A:Around}{E:HM}{Q:HL}{i:Nat}{n:Str}{pos:Pos}(I:Inv X Y U H s)(hN:X.N.Nodup)(hi:X.N[i]? =some n)(hn:X.env.scope.names.lookup n=some .local)
  (h:∀ s',Inv X Y (U.set i none) H s'->Q () s'):wpAny M A (do bindName X.env n .none;unbindBehindTheSuite X.env n pos) Q E s:=by
 have hcls:(X.env.scope.kind ==.class||(X.env.scope.kind ==.module&&X.env.locals != X.env.globals))=false:=by rw[I.ok.kind];rfl
 refine ad (wpAny_bindName (bt I hN hi (.inl hn) (v:=.non) rfl (λs1 I1=>?_) (.inr hn)));obtain⟨m,hm,hl⟩:=I1.loc;unfold unbindBehindTheSuite;refine wpAny_onRaise ?_;unfold unbindName;refine ad (wpAny_point (ad ?_));unfold deleteName;have hk:X.env.kindOf n=some .local:=hn;have hiσ:i<U.length:=by rw[I.len];exact(sw.mp hi).1
 have hmn:(m n).isSome=true:=by
  obtain⟨u,_,l⟩:=hl i n .non hi (by rw[getElem?_set_self hiσ]) (.inl hn);rcases l with⟨_,q⟩|⟨q,_⟩
  .rw[q];rfl
  .rcases q with q|q<;>(rw[hk]at q;cases q)
 simp only[hk,hcls];rw[if_neg (by decide)];refine ad (wpAny_nsDel_keeps hm λh2 v hn2 hs2=>?_);rw[hmn];simp only[if_true,Bool.not_true,Bool.false_eq_true,if_false];refine am (wpAny_point (h { s1 with heap:=h2 } ?_));obtain⟨oL,esL,epL,hoL,_⟩:=id hm;have tS:=I1.tS;refine⟨I1.ok,I1.os,I1.bare,⟨λb o e n hb hx=>?_,λb o e n hb hx=>?_,I1.base.free,λb o e hx=>?_,I1.base.tups,I1.base.frzs,I1.base.tbls⟩,⟨_,hn2,λj y v' e1 e2 e3=>?_⟩,λy c e=>?_,I1.free,I1.freeC,λp hp=>?_,λa u ha=>?_,by rw[length_set];exact I.len⟩
 .exact(hs2.2 b (nw (mo (tz e) I1.ok.above))).trans (I1.base.keep b o e n hb hx)
 .obtain⟨sl,q⟩:=I1.base.slot b o e n hb hx;exact⟨sl,(hs2.2 b (nw (mo (tz e) I1.ok.above))).trans q⟩
 .obtain⟨o',q⟩:=I1.base.there b o e hx;exact⟨o',(hs2.2 b (nw (mo (tz e) I1.ok.above))).trans q⟩
 .have hj:j≠i:=λz=>by rw[z,getElem?_set_self hiσ]at e2;cases e2
  rw[getElem?_set_ne (Ne.symm hj)]at e2;obtain⟨u,r,q⟩:=hl j y v' e1 (by rw[getElem?_set_ne (Ne.symm hj)];exact e2) e3;refine⟨u,r,?_⟩;rcases q with⟨k,e⟩|⟨k,c,e,z⟩
  .refine .inl ⟨k,?_⟩;have ny:y≠n:=λz=>hj (iN hN e1 (z▸hi))
   show(if y=n then v else m y)=some u;rw[if_neg ny];exact e
  .exact .inr ⟨k,c,e,z.sameBut hs2 (tS y c e)⟩
 .obtain⟨w',z⟩:=I1.cell y c e;exact⟨w',z.sameBut hs2 (tS y c e)⟩
 .obtain⟨e,n,ne,nf,d⟩:=I1.pin p hp;exact⟨(hs2.2 p.1 ne).trans e,n,ne,nf,d⟩
 .refine(I1.hok a u ha).de (λb o hb hq=>(hs2.2 b ?_).trans hq) (λ_ q=>q) λ_ _ q=>q
  rintro rfl;rcases hb with hb|hb
  .rw[<-hb,I1.free]at ha;cases ha
  .rw[I1.free]at hb;cases hb
@[reducible]def Cx.eG (X:Cx) (Y:HN) (xe:HM):Cx:={ X with pn:=X.pn++Y,xe:=xe }
def Cx.Ok.eG (ok:X.Ok)(Y:HN)(xe:HM):(X.eG Y xe).Ok:=
 ⟨ok.mod,ok.kind,ok.glob,ok.blt,ok.above,ok.inj,ok.has,ok.cab,ok.hd,ok.frames,ok.stk,ok.exf,ok.bs,ok.bsz,ok.noex,ok.exfs,ok.gA,ok.frf⟩
def Inv.eG (I:Inv X Y U H s)(xe:HM):Inv (X.eG Y xe) [] U H s:=
 ⟨I.ok.eG Y xe,I.os,I.bare,I.base,I.loc,I.cell,I.free,I.freeC,λp hp=>I.pin p (by simpa using hp),I.hok,I.len⟩
def Inv.eU (ok:X.Ok)(I:Inv (X.eG Y xe) ps U H s):Inv X Y U H s:=
 ⟨ok,I.os,I.bare,I.base,I.loc,I.cell,I.free,I.freeC,λp hp=>I.pin p (mem_append_left _ hp),I.hok,I.len⟩
def SP.eU {f:Flow}(ok:X.Ok)(h:SP (X.eG Y xe) ps D f s):SP X Y D f s:=by
 cases f with
 |next=>obtain⟨σ',H',I,q⟩:=h;exact⟨σ',H',I.eU ok,q⟩
 |brk=>obtain⟨σ',H',I,q⟩:=h;exact⟨σ',H',I.eU ok,q⟩
 |cont=>obtain⟨σ',H',I,q⟩:=h;exact⟨σ',H',I.eU ok,q⟩
 |ret u=>obtain⟨v,σ',H',I,r,q⟩:=h;exact⟨v,σ',H',I.eU ok,r,q⟩
def CB {body:List Stmt}{h0:ExceptHandler}{hs:List ExceptHandler}{pos:Pos}{E':St->XK}(I:Inv X Y U H s)(hstk:X.stack=X.env::X.outer)(hfr:X.env.frame=some X.env.locals)
  (hb:∀ xe,CU (X.eG Y xe) E'->PassesOwn (model X.prog X.w) X.A X.env xe->wpAny (model X.prog X.w) X.A (execs body X.env) (SP (X.eG Y xe) [] D) xe s)
  (hh:∀ (U:St) (H:Hp) (s:Shared) (e C:Addr) (dx:Option Addr) (fs:List (Str×V)) (T:Addr),Inv X Y U H s->H e=some (.exc C dx fs false)->X.s₀.heap.objs.size<=T->H T=none->(∀ p ∈ X.pn++Y,p.1≠T)->rV s.heap e T .none->E' U e H->
   wpAny (model X.prog X.w) X.A (handleBy (.ref e) X.env (h0::hs)) (SP X Y D) X.xe s):
  wpAny (model X.prog X.w) X.A (exec (.Try body (h0::hs) [] [] pos) X.env) (SP X Y D) X.xe s:=by
 refine wpAny_Try_except (wpAny_mono (hb (λu s1=>wpAny (model X.prog X.w) X.A (noteFrame u X.env) (λ_ s2=>wpAny (model X.prog X.w) X.A (setFlight u none) (λ_ s3=>wpAny (model X.prog X.w) X.A (handleBy u X.env (h0::hs)) (SP X Y D) X.xe s3) X.xe s2) X.xe s1) ?_ PassesOwn.looking) (λf s1 h1=>?_) λ_ _ z=>z)
 .intro σ' H' s' e C dx fs J sf he q;exact jO (X:=X.eG Y _) J hstk hfr sf he λs2 T J2 _ hT hH hp st=>hh σ' H' s2 e C dx fs T (J2.eU I.ok) he hT hH hp st q
 .have h2:=SP.eU I.ok h1;cases f with
  |next=>exact wpAny_execs_nil h2
  |brk=>exact h2
  |cont=>exact h2
  |ret u=>exact h2
def mq {n x:Str}{np hpos:Pos}{b0:Stmt}{aN:List Stmt}{rest:List ExceptHandler}{i:Nat}{e C Ch T:Addr}{fs:List (Str×V)}{b:Bool}(I:Inv X Y U H s)(he:H e=some (.exc C dx fs false))
  (hT:X.s₀.heap.objs.size<=T) (hH:H T=none) (hp:∀ p ∈ X.pn++Y,p.1≠T) (st:rV s.heap e T .none) (c:cu X.K C) (ch:cu X.K Ch) (hsub:W.mroIn X.K C (.ref Ch)=some b) (hg:Gl X x) (hm:X.mg x=some (.ref Ch))
  (hN:X.N.Nodup) (hi:X.N[i]? =some n) (hn:X.env.scope.names.lookup n=some .local) (hdb:(x ==("__debug__":Str))=false)
  (yes:b=true->∀ s2,Inv (X.aN (.ref e)) Y (U.set i (some (.ref e))) H s2->wpAny (model X.prog X.w) (X.A.mark (some (.ref e))) (execs (b0::aN) X.env)
   (SP (X.aN (.ref e)) Y { nx:=λσ' H'=>D.nx (σ'.set i none) H',rt:=D.rt,bk:=λσ' H'=>D.bk (σ'.set i none) H',ct:=λσ' H'=>D.ct (σ'.set i none) H' }) (λ_ _=>False) s2)
  (no:b=false->wpAny (model X.prog X.w) X.A (handleBy (.ref e) X.env rest) (SP X Y D) X.xe s):
  wpAny (model X.prog X.w) X.A (handleBy (.ref e) X.env (.ExceptHandler (some (.Name x np)) (some n) (b0::aN) hpos::rest)) (SP X Y D) X.xe s:=by
 have I':=I.aN (.ref e);refine wpAny_handleBy_cons (codeAny_handlers_test (bz (X:=X.aN (.ref e)) I' hg hm ?_ hdb)) (by intro q;cases q);obtain⟨⟨vs,ho,hsz,h1⟩,z⟩:=id (I.hok e _ he);have L0:Looks (model X.prog X.w) s.heap (typeOf (.ref e)) (.ref C):=(Looks.ld ho).andThen .now;have L1:Looks (model X.prog X.w) s.heap (typeOf (.ref Ch)) (.type "type"):=looks_typeIn I.bK ch.mt;have L2':Looks (model X.prog X.w) s.heap (isInstance (.ref Ch) (.type "tuple")) false:=L1.andThen (Looks.of_pure tc_notTuple);have L3:Looks (model X.prog X.w) s.heap (isType (.ref Ch)) true:=by
  obtain⟨cd,rs,hcl,_⟩:=ch.mro;unfold W.clsIn at hcl
  split at hcl
  .rename_i ho';intro A' Q' E' s' k q;unfold isType loadHead;exact ad (wpAny_loadPart (k _ _ (I.bK _ _ ho')) (am q))
  .cases hcl
 have L4:Looks (model X.prog X.w) s.heap (isSubtype (.ref Ch) (.type "BaseException")) true:=looks_mroIn I.bK (ch.sub (by decide+kernel));have L5:Looks (model X.prog X.w) s.heap (isSubtype (.ref C) (.ref Ch)) b:=looks_mroIn I.bK hsub;have L6:Looks (model X.prog X.w) s.heap (isExcClass (.ref Ch)) true:=by
  unfold isExcClass;exact L3.andThen L4
 unfold excMatches;refine ad (L2'.here ?_);rw[if_neg (by decide)];refine ad (am ?_);simp only[forIn_cons,forIn_nil];refine ad (ad (ad (L6.here ?_)));rw[if_neg (by decide)];refine am ?_;refine am ?_;refine ad (L0.here ?_);refine ad (ad (ad (L5.here ?_)));cases b with
 |false=>
  rw[if_neg (by decide)];refine am ?_;refine am ?_;refine am ?_;exact no rfl
 |true=>
  rw[if_pos rfl];refine am ?_;refine am ?_;refine am ?_;refine codeAny_handlers_suite_as (pQ st λh2 jN oth _ th2 _=>?_);have I2:Inv X Y U H { s with heap:=h2 }:=by
   refine Inv.turned (it:=T) (h':=h2) (t':=s.toks) I (λb o hb hq=>(oth b hb).trans hq) hH ?_ (.inr hT) (λy cc hc z=>?_) hp
   .intro z;obtain⟨m,⟨o,es,ep,ho',hd,_⟩,_⟩:=I.loc;obtain⟨_,_,oT,ts,_,_,_,_,hT2,hd2,_⟩:=st;rw[z,ho']at hT2;cases hT2;rw[hd]at hd2;cases hd2
   .obtain⟨v,o,ho',hd⟩:=I.cell y cc hc;obtain⟨_,_,oT,ts,_,_,_,_,hT2,hd2,_⟩:=st;rw[<-z,ho']at hT2;cases hT2;rw[hd]at hd2;cases hd2
  refine bt (X:=X.aN (.ref e)) (I2.aN (.ref e)) hN hi (.inl hn) (v:=.ref e) rfl (λs3 I3=>?_) (.inr hn);refine wpAny_mono (yes rfl s3 I3) (λf s4 h4=>?_) λ_ _ z=>z.elim
  cases f with
  |next=>
   obtain⟨σ',H',J,q⟩:=h4;exact dX (J.ie I.ok) hN hi hn λs5 J5=>⟨_,H',J5,q⟩
  |brk=>
   obtain⟨σ',H',J,q⟩:=h4;exact dX (J.ie I.ok) hN hi hn λs5 J5=>⟨_,H',J5,q⟩
  |cont=>
   obtain⟨σ',H',J,q⟩:=h4;exact dX (J.ie I.ok) hN hi hn λs5 J5=>⟨_,H',J5,q⟩
  |ret u=>
   obtain⟨v,σ',H',J,r,q⟩:=h4;exact dX (J.ie I.ok) hN hi hn λs5 J5=>⟨v,_,H',J5,r,q⟩
end
end L2
namespace L2
open PySem PySem.Spec PyProof.Rows
def wj:bootBuiltins "isinstance"=some (.builtin "isinstance"):=by decide+kernel
section
variable {X:Cx}
abbrev EH (K:W.Frag):V->V->Hp->VK->Prop:=λx y H Q=>∃ p xs i v,x=.ref p/\y=.int i/\aL K H p xs/\0<=i/\xs[i.toNat]? =some v/\Q v H
def tE:Cu X (EH X.K):=by
 intro Y s U H o i ov iv Q I ro ri h;obtain⟨p,xs,k,z,rfl,rfl,hq,h0,he,q⟩:=h;cases ro;obtain⟨t,rfl⟩:=ri;obtain⟨its,r,pl,hz⟩:=I.list hq;obtain⟨w,ew,rw'⟩:=r.get he;have hl:k.toNat<xs.length:=(sw.mp he).1;have hn:=eB;exact wpAny_getItem_list pl.isList h0 nofun (by simpa using ew) ⟨z,H,I,rw',q⟩
def hX {xs:List V}{us:List Value}(r:Vals xs us){j:Nat}(h:j<us.toArray.size):∃ x,xs[j]? =some x/\RelV x (us.toArray[j]):=by
 have hl:=r.length;have hj:j<us.length:=by simpa using h
 have e:xs[j]? =some xs[j]:=jp nofun;obtain⟨u,h1,h2⟩:=r.get e;refine⟨_,e,?_⟩;rw[jp hj]at h1;cases h1;simpa using h2
end
section
variable {U:St}{H:Hp}{Q:VK}{D:Ends}{K:W.Frag}
abbrev qQ (x:V)(H:Hp)(R:Bool->Hp->Prop):Prop:=∃ k,x=.bl k/\R k H
def aS {α:Type}{xs:List α}{i:Int}(h0:0<=i)(h1:i<xs.length):∃ v,jw xs i=some v/\v ∈ xs:=by
 obtain⟨n,rfl⟩:=re h0;have hn:n<xs.length:=by omega
 exact⟨xs[n],kC (jp hn),List.getElem_mem hn⟩
end
section
variable {K:W.Frag}{g:TG}{tb:TS}{D:Ends}{U:St}{H:Hp}{tl:TE}{ta:TA}
end
def fits {n:Nat}(h:n<=1000):n<=bn:=Nat.le_of_lt (cL h)
section
variable {X:Cx}{H:Hp}{Q:VK}
end
section
variable {K:W.Frag}
end
section
variable {H H':Hp}{h c p:Addr}{m n:Int}{o:HO}
end
def EF (ns:List Int)(h:ns.length<=63):aZ (ns.map V.int) none (some 63)=ns.map V.int:=by
 have e1:HT.bD (ns.map V.int).length 0 none=0:=rfl;have e2:HT.bD (ns.map V.int).length (ns.map V.int).length (some 63)=(ns.map V.int).length:=by
  show(if(63:Int)<0 then((63:Int)+((ns.map V.int).length:Int)).toNat else min (63:Int).toNat (ns.map V.int).length)=(ns.map V.int).length;rw[if_neg (by decide),ce];show min 63 ns.length=ns.length
  omega
 unfold aZ;rw[e1,e2,drop_zero,Nat.sub_zero,take_length]
variable {ns:List Int}
def nO {i:Nat}{x:V}(h:(ns.map V.int)[i]? =some x):∃ z,x=V.int z:=by
 rw[ii]at h;cases e:ns[i]? with
 |none=>rw[e]at h;cases h
 |some z=>rw[e]at h;exact⟨z,(Option.some.inj h).symm⟩
def vn {i:Int}(h0:0<=i)(h1:i<ns.length):∃ z,jw (ns.map V.int) i=some (.int z):=by
 obtain⟨v,a,m⟩:=aS (xs:=ns.map V.int) h0 (by rw[ce];exact h1);obtain⟨z,_,rfl⟩:=List.mem_map.mp m;exact⟨z,a⟩
section
variable {H:Hp}{Q:VK}
end
section
variable {X:Cx}
end
abbrev Cb (X:Cx)(scope:Scope)(cl:List (Str×Addr))(N:List Str)(s:Shared)(H:Hp)(fp:List Addr)(xe:HM):Cx:=
 { X with N:=N,s₀:=s,H₀:=H,env:=compEnvC scope cl s.heap.objs.size X.env,outer:=X.stack,stack:=X.stack,ex:=fp,fn:=λ_=>false,xe:=xe }
abbrev G1 (X:Cx)(E:XK)(u:Value)(s':Shared):Prop:=∃ (σ':St) (H':Hp) (e C:Addr) (dx:Option Addr) (fs:List (Str×V)),u=.ref e/\Inv X [] σ' H' s'/\tL X.s₀.heap.objs.size X.pn H' s'.heap e/\H' e=some (.exc C dx fs false)/\E e H'
abbrev dh (X:Cx)(scope:Scope)(cl:List (Str×Addr))(N:List Str)(s:Shared)(H:Hp)(fp:List Addr)(E:XK):Cx:=Cb X scope cl N s H fp (G1 (Cb X scope cl N s H fp λ_ _=>False) E)
variable {X:Cx}{scope:Scope}{cl:List (Str×Addr)}{s:Shared}{H:Hp}{fp:List Addr}{E:XK}
def qa {N:List Str}:CU (dh X scope cl N s H fp E) (λ_=>E):=λσ' H' s' e C dx fs I sf he q=>
 ⟨σ',H',e,C,dx,fs,rfl,⟨⟨I.ok.mod,I.ok.kind,I.ok.glob,I.ok.blt,I.ok.above,I.ok.inj,I.ok.has,I.ok.cab,I.ok.hd,I.ok.frames,I.ok.stk,I.ok.exf,I.ok.bs,I.ok.bsz,I.ok.noex,I.ok.exfs,I.ok.gA,I.ok.frf⟩,I.os,I.bare,I.base,I.loc,I.cell,I.free,I.freeC,I.pin,I.hok,I.len⟩,sf,he,q⟩
structure aW (X:Cx) (scope:Scope) (cl:List (Str×Addr)) (xs:List Str) (fr:List Str) (sel:List Nat):Prop where
 clos:closureFor scope X.env=pure cl
 sub:∀ y c,cl.lookup y=some c->X.env.cells.lookup y=some c
 has:∀ y,((relabel scope X.env).names.lookup y=some .cell\/(relabel scope X.env).names.lookup y=some .free)->∃ c,cl.lookup y=some c
 kind:scope.kind=.function
 nocell:∀ y ∈ scope.names,y.2≠.cell
 names:∀ y ∈ scope.names,y.2=.local->scope.names.lookup y.1=some .local
 own:∀ x ∈ xs,scope.names.lookup x=some .local
 len:sel.length=fr.length
 out:∀ (j:Nat) (y:Str),fr[j]? =some y->∃ i,sel[j]? =some i/\X.N[i]? =some y/\X.env.scope.names.lookup y=some .cell/\(relabel scope X.env).names.lookup y=some .cell
 nd:(xs++fr).Nodup
abbrev dD (U:St)(sel:List Nat):St:=sel.map λi=>U.getD i none
abbrev LC (te:TE)(J:It)(σ₀:St)(H1:Hp)(Q:VK):Prop:=∀ D,H1 D=none->∃ W:Nat->Nat->St->Hp->Prop,(∃ m,W 0 m σ₀ (upd H1 D (.lst [])))/\∀ i m σ' H',W i m σ' H'->
 (J.stop i H'/\Q (.ref D) H')\/(J.go i H'/\∃ N:St->Hp->Prop,(∀ σ2 H2,N σ2 H2->∃ m',m'<m/\W (i+1) m' σ2 H2)/\
  ∀ x H'',J.yld i H' x H''->te (σ'.set 0 (some x)) H'' λv H3=>∃ zs,H3 D=some (.lst zs)/\zs.length<bn/\N (σ'.set 0 (some x)) (upd H3 D (.lst (zs++[v]))))
abbrev gate (env:Env):List Expr->Sem Bool
 | []=>pure true
 |c::_=>isTrue c env (eval c env)
variable {ifs:List Expr}{pos:Pos}
def ql {M:Model}{A:Around}{elt target iter:Expr}{it acc:Value}{env:Env}{Q:PySem.Fin->Shared->Prop}{E:HM}(hi:ifs.length<=1)
  (h:wpAny M A (pyNext it) (λr s1=>match r with
   |none=>Q (.done .next) s1
   |some v=>wpAny M A (letOwnedTupleGo target it v) (λ_ s2=>wpAny M A (assign target env v) (λ_ s3=>wpAny M A (gate env ifs) (λok s4=>
    (ok=true->wpAny M A (eval elt env) (λx s5=>wpAny M A (call (.builtin "list.append") [acc,x]) (λ_ s6=>wpAny M A (again (.compLoop (.ListComp elt [⟨target,iter,ifs,0⟩] scope pos) 0 it acc env)) Q E s6) E s5) E s4)/\
    (ok=false->wpAny M A (again (.compLoop (.ListComp elt [⟨target,iter,ifs,0⟩] scope pos) 0 it acc env)) Q E s4)) E s3) E s2) E s1) E s):
  wpAny M A (compTurn (.ListComp elt [⟨target,iter,ifs,0⟩] scope pos) 0 it acc env) Q E s:=by
 have key:∀ {g:Sem Bool}{K:Sem PySem.Fin}{s:Shared},wpAny M A g (λok s4=>
    (ok=true->wpAny M A (eval elt env) (λx s5=>wpAny M A (call (.builtin "list.append") [acc,x]) (λ_ s6=>wpAny M A K Q E s6) E s5) E s4)/\
    (ok=false->wpAny M A K Q E s4)) E s->wpAny M A (g >>= λok=>if ok=true then(eval elt env >>= λx=>call (.builtin "list.append") [acc,x] >>= λ_=>pure ()) >>= λ_=>K else K) Q E s:=λ{g K s} h=>by
  refine ad (wpAny_mono h (λok s4 h4=>?_) λ_ _ e=>e);cases ok with
  |false=>exact h4.2 rfl
  |true=>exact ad (ad (wpAny_mono (h4.1 rfl) (λx s5 h5=>ad (wpAny_mono h5 (λ_ s6 h6=>am h6) λ_ _ e=>e)) λ_ _ e=>e))
 match ifs,hi with
 | [],_=>
  rw[compTurn_list1];refine ad (wpAny_standAt (ad (wpAny_mono h (λr s1 h1=>?_) λ_ _ e=>e)));cases r with
  |none=>exact am h1
  |some v=>
   refine ad (wpAny_mono h1 (λ_ s2 h2=>ad (wpAny_mono h2 (λ_ s3 h3=>?_) λ_ _ e=>e)) λ_ _ e=>e);exact key (g:=pure true) h3
 | [c],_=>
  unfold compTurn;simp only[List.getElem?_cons_zero,List.getElem?_cons_succ,List.getElem?_nil];dsimp only[forIn,List.forIn',List.forIn'.loop,forIn'];rw[if_neg (by decide),if_neg (by decide)];refine ad (wpAny_standAt (ad (wpAny_mono h (λr s1 h1=>?_) λ_ _ e=>e)));cases r with
  |none=>exact am h1
  |some v=>
   refine ad (wpAny_mono h1 (λ_ s2 h2=>ad (wpAny_mono h2 (λ_ s3 h3=>?_) λ_ _ e=>e)) λ_ _ e=>e);refine key ?_;rw[if_pos rfl];refine ad (ad (wpAny_mono h3 (λok s4 h4=>am ?_) λ_ _ e=>e));exact am h4
abbrev LCg (tg:TG)(tc:TT)(te:TE)(J:It)(σ₀:St)(H1:Hp)(Q:VK):Prop:=∀ D,H1 D=none->∃ W:Nat->Nat->St->Hp->Prop,(∃ m,W 0 m σ₀ (upd H1 D (.lst [])))/\∀ i m σ' H',W i m σ' H'->
 (J.stop i H'/\Q (.ref D) H')\/(J.go i H'/\∃ N:St->Hp->Prop,(∀ σ2 H2,N σ2 H2->∃ m',m'<m/\W (i+1) m' σ2 H2)/\
  ∀ x H'',J.yld i H' x H''->tg x σ' H'' λσ2 H2=>tc σ2 H2 λb H3=>(b=true->te σ2 H3 λv H4=>∃ zs,H4 D=some (.lst zs)/\zs.length<bn/\N σ2 (upd H4 D (.lst (zs++[v]))))/\(b=false->N σ2 H3))
abbrev yes:TT:=λ_ H Q=>Q true H
variable {te:TE}
def LC.g {J:It}{σ₀:St}{H1:Hp}{Q:VK}(h:LC te J σ₀ H1 Q):LCg (fh 0) yes te J σ₀ H1 Q:=λD hD=>by
 obtain⟨W,w0,turn⟩:=h D hD;refine⟨W,w0,λi m σ' H' w=>?_⟩;rcases turn i m σ' H' w with z|⟨go,N,hN,step⟩
 .exact .inl z
 .exact .inr ⟨go,N,hN,λx H'' y=>⟨λ_=>step x H'' y,λe=>nomatch e⟩⟩
abbrev E7 (X:Cx)(ifs:List Expr)(tc:TT):Prop:=ifs.length<=1/\∀ (Y:HN) (s:Shared) (U:St) (H:Hp) (Q:Bool->Hp->Prop),Inv X Y U H s->tc U H Q->wpAny (model X.prog X.w) X.A (gate X.env ifs) (TP X Y U Q) X.xe s
def hU:E7 X [] yes:=⟨Nat.zero_le _,λY s U H Q I q=>am ⟨H,I,q⟩⟩
def xf {c:Expr}{tc:TT}(h:PT X c tc):E7 X [c] tc:=⟨pc _,h⟩
abbrev lX (xs:List Str):St:=xs.map λ_=>none
abbrev GJ (wi:TI)(te:TE)(sel:List Nat):TE:=λU H Q=>wi U H λJ H1=>LC te J (none::dD U sel) H1 Q
abbrev EV (wi:TI)(tg:TG)(tc:TT)(te:TE)(xs:List Str)(sel:List Nat):TE:=λU H Q=>wi U H λJ H1=>LCg tg tc te J (lX xs++dD U sel) H1 Q
variable {xs fr:List Str}{sel:List Nat}{Y:HN}{U:St}{ok:Cx->Prop}
section
variable {X:Cx}
def Un.sameBut {fs ex:List Addr}{H':Hp}{h h1 h2:Heap}{C:Addr}(u:Un fs ex H H' h h1)(hs:Heap.SameBut C h1 h2)(hC:h.objs.size<=C):Un fs ex H H' h h2:=by
 have ne:∀ b o,h.get? b=some o->b≠C:=λb o e=>nw (mo (tz e) hC)
 refine⟨λb o e n hb hx=>(hs.2 b (ne b o e)).trans (u.keep b o e n hb hx),λb o e n hb hx=>?_,u.free,λb o e hx=>?_,u.tups,u.frzs,u.tbls⟩
 .obtain⟨sl,q⟩:=u.slot b o e n hb hx;exact⟨sl,(hs.2 b (ne b o e)).trans q⟩
 .obtain⟨o',q⟩:=u.there b o e hx;exact⟨o',(hs.2 b (ne b o e)).trans q⟩
def nh {h':Heap}{tk:Nat}{m':HP}
  (S:aW X scope cl xs fr sel) (I:Inv X Y U H s) (f2:∀ b ∈ fp,fu X Y H b) (fo:∀ b ∈ fp,b<s.heap.objs.size) (hns:h'.Ns s.heap.objs.size m') (keep:∀ b o,s.heap.get? b=some o->h'.get? b=some o):
  Inv (dh X scope cl (xs++fr) s H fp E) Y (lX xs++dD U sel) H { s with heap:=h',toks:=tk }:=by
 have stk:∀ b,b≠X.env.locals->b ∉ X.fs->b ∉ kc X.stack:=λb h1 h2 hb=>(lf.mp (I.gG b hb)).elim h1 h2
 refine⟨⟨I.ok.mod,S.kind,I.ok.glob,I.ok.blt,pc _,λy z c h1 h2=>I.ok.inj y z c (S.sub y c h1) (S.sub z c h2),λy hy=>S.has y hy,(λy c h=>nomatch h),I.ok.hd,I.ok.frames,.inl rfl,λb hb=>⟨nw (fo b hb),λy c h=>(f2 b hb).2.2.2.2.1 y c (S.sub y c h)⟩,I.bs,
  Nat.le_trans I.ok.bsz I.sz,λb o e hb=>?_,λb hb=>stk b (f2 b hb).2.1 (f2 b hb).2.2.1,I.stack,I.kR⟩,
  rfl,I.bare,Un.kept keep,⟨m',hns,λi y v e1 e2 e3=>?_⟩,λy c h=>?_,I.hok.fresh (pc _),λy c h=>I.freeC y c (S.sub y c h),λp hp=>?_,I.hok.kept keep,?_⟩
 .rcases(f2 b hb).2.2.2.1 with z|z
  .exact I.ok.noex b o e z
  .exact absurd (mo (mo (tz e) I.ok.bsz) z) (Nat.lt_irrefl _)
 .have hln:(lX xs).length=xs.length:=ce ..
  by_cases hlt:i<xs.length
  .rw[getElem?_append_left (by rw[hln];exact hlt)]at e2;unfold lX at e2;rw[ii,jp hlt]at e2;cases e2
  .obtain⟨j,rfl⟩:∃ j,i=xs.length+j:=⟨i-xs.length,by omega⟩;have e1':fr[j]? =some y:=by
    have e1:(xs++fr)[xs.length+j]? =some y:=e1;rw[getElem?_append_right nofun,show xs.length+j-xs.length=j by omega]at e1;exact e1
   obtain⟨i,hi,hN,k1,k2⟩:=S.out j y e1';have e2':(dD U sel)[j]? =some (some v):=by
    rw[getElem?_append_right (by rw[hln];omega),hln,show xs.length+j-xs.length=j by omega]at e2;exact e2
   have e4:U[i]? =some (some v):=by
    unfold dD at e2';rw[ii,hi]at e2';have e5:U.getD i none=some v:=Option.some.inj e2';rw[List.getD_eq_getElem?_getD]at e5;cases e6:U[i]? with
    |none=>rw[e6]at e5;cases e5
    |some z=>rw[e6]at e5;exact congrArg some e5
   obtain⟨m,hn,hl⟩:=I.loc;obtain⟨u,r,l⟩:=hl i y v hN e4 (.inr (.inl k1));refine⟨u,r,.inr ⟨.inl k2,?_⟩⟩;rcases l with⟨hk,_⟩|⟨_,c,hc,o,ho,hd⟩
   .have hk':X.env.scope.names.lookup y=some .local:=hk;rw[k1]at hk';cases hk'
   .obtain⟨c',hc'⟩:=S.has y (.inl k2);have:=(S.sub y c' hc').symm.trans hc;cases this;exact⟨c,hc',o,keep c o ho,hd⟩
 .obtain⟨v,o,ho,hd⟩:=I.cell y c (S.sub y c h);exact⟨v,o,keep c o ho,hd⟩
 .obtain⟨e,n,ne,nf,d⟩:=I.pin p hp;exact⟨keep p.1 p.2 e,n,nw (tz e),stk p.1 ne nf,d⟩
 .show(lX xs++dD U sel).length=(xs++fr).length;unfold dD lX;simp[S.len]
structure jT (X:Cx) (U:St) (E:XK):Prop where
 xok:∀ (H:Hp) (s:Shared) (e C:Addr) (dx:Option Addr) (fs:List (Str×V)),Inv X [] U H s->tL X.s₀.heap.objs.size X.pn H s.heap e->H e=some (.exc C dx fs false)->E e H->X.xe (.ref e) s
 stk:∃ e0 o0 L,X.stack=e0::o0/\e0.frame=some L/\X.env.frame=some L
abbrev GF (X:Cx)(U:St)(e:Expr)(t:TE):Prop:=∀ (Y:HN) (s:Shared) (H:Hp) (Q:VK),Inv X Y U H s->t U H Q->wpAny (model X.prog X.w) X.A (eval e X.env) (EP X Y U Q) X.xe s
def qy {s3:Shared}{H3:Hp}{D:Addr}{use:Option (Value->Sem Unit)}{P:HM}(hx:jT X U E)
  (I3:Inv X Y U H3 s3) (f3:∀ b ∈ fp,fu X Y H3 b) (u:Value) (s':Shared) (h:(dh X scope cl (xs++fr) s3 H3 fp E).xe u s'):
  notedBy (model X.prog X.w) X.A (compEnvC scope cl s3.heap.objs.size X.env) (λx s2=>compPost (model X.prog X.w) X.A X.xe use P (.ref D) s3.heap.objs.size (.error x) s2) u s':=by
 obtain⟨σ',H',e,C,dx,fs,rfl,I,sf,he,q⟩:=h;obtain⟨e0,o0,L,hs,hf0,hf⟩:=hx.stk;refine mN (X:=Cb X scope cl (xs++fr) s3 H3 fp λ_ _=>False) (env:=compEnvC scope cl s3.heap.objs.size X.env) I hs hf0 hf sf he λh1 T I1 hT hH hp st=>?_
 obtain⟨m,hn,_⟩:=I1.loc;refine⟨m,hn,λh2 hs2 cenv _=>?_⟩;have fC:H' s3.heap.objs.size=none:=I1.free;have J:Inv X [] U H' { s' with heap:=h2 }:=by
  refine I3.ou.qC (ch:=fp) I1.os (I1.base.sameBut hs2 (pc _)) (λb ob eb=>?_) I1.bare λb hb=>⟨(f3 b hb).2.2.2.1,(f3 b hb).2.1,(f3 b hb).2.2.2.2.1,λp hp=>(f3 b hb).2.2.2.2.2 p (by simpa using .inl (by simpa using hp))⟩
  refine(I1.hok b ob eb).de (λc w' hc' q'=>(hs2.2 c ?_).trans q') (λ_ q'=>q') λ_ _ q'=>q'
  intro z;rcases hc' with z2|z2
  .rw[z2]at z;rw[z,fC]at eb;cases eb
  .rw[z,fC]at z2;cases z2
 obtain⟨oe,vs,oT,ts,he1,hd1,h11,hTe,hoT,hdT,h3⟩:=id st;obtain⟨n1,n2⟩:=I1.uC hoT hdT;have neC:e≠s3.heap.objs.size:=λz=>by rw[z,fC]at he;cases he
 have e2:=(hs2.2 e neC).trans he1;have t2:=(hs2.2 T n1).trans hoT;have hz:3<ts.size:=(Array.getElem?_eq_some_iff.mp h3).1;unfold PySem.passOn;refine ad (ap e2 hd1 h11 ?_);rw[if_neg (show ¬ ((Value.ref T ==Value.none)=true) from by simp)];have fly:wpAny (model X.prog X.w) X.A (setFlight (.ref e) cenv.frame) (λ_ s3=>wpAny (model X.prog X.w) X.A (throw (Value.ref e):Sem Value) (λ_ _=>False) X.xe s3) X.xe { s' with heap:=h2 }:=by
  unfold setFlight;refine ad (ap e2 hd1 h11 ?_);rw[if_pos (show(Value.ref T != Value.none)=true from by simp)];refine wpAny_setField t2 hdT hz (wpAny_throw ?_);have other:∀ b,b≠T->(h2.update T (Obj.mapFields (·.setIfInBounds 3 (cenv.frame.elim Value.none λf=>rawInt f)))).get? b=h2.get? b:=λb hb=>Heap.get?_update_other _ _ (Ne.symm hb)
  have self':=Heap.get?_update_self (Obj.mapFields (·.setIfInBounds 3 (cenv.frame.elim Value.none λf=>rawInt f))) t2 (Obj.isFreed_of_fields (Obj.data_mapFields hdT _));obtain⟨k1,k2⟩:=J.uC t2 hdT;have hT':X.s₀.heap.objs.size<=T:=Nat.le_trans I3.sz hT;refine hx.xok H' _ e C dx fs (J.turned (it:=T) (t':=s'.toks) (λb o hb hq=>(other b hb).trans hq) hH k1 (.inr hT') k2 λp hpp=>hp p (show p ∈ X.pn by simpa using hpp)) (.inr ⟨T,hT',hH,hp,_,⟨oe,vs,_,_,(other e (Ne.symm hTe)).trans e2,hd1,h11,hTe,self',Obj.data_mapFields hdT _,by simp[hz];rfl⟩⟩) he q
 first
  |exact ad fly
  |exact ad (am (ad fly))
def jW {elt iter tgt:Expr}{wi:TI}{tg:TG}{tc:TT}(hc:∀ {Y:HN}{U:St}{H:Hp}{s:Shared}{fp:List Addr},Inv X Y U H s->ok (dh X scope cl (xs++fr) s H fp E)) (hx:jT X U E) (S:aW X scope cl xs fr sel) (hi:zI ok X tgt iter wi)
  (hg:∀ (s:Shared) (H:Hp) (fp:List Addr),PG (dh X scope cl (xs++fr) s H fp E) tgt tg) (ht:∀ (s:Shared) (H:Hp) (fp:List Addr),E7 (dh X scope cl (xs++fr) s H fp E) ifs tc)
  (he:∀ (s:Shared) (H:Hp) (fp:List Addr),PE (dh X scope cl (xs++fr) s H fp E) elt te) (hs:∀ x,foldedSetIterable iter X.env x=pure x):GF X U (.ListComp elt [⟨tgt,iter,ifs,0⟩] scope pos) (EV wi tg tc te xs sel):=by
 intro Y s H Q I h;rw[eval_ListComp];refine wpAny_comprehension_free (use:=none) rfl hs S.clos S.kind S.names ?_;refine au (hi Y s U H _ I h) λv s1 h1=>au h1 λitv s2 h2=>?_
 obtain⟨it,fp,tn,J,H2,e,I2,T,jN,f2,h2⟩:=h2;subst e;refine wpAny_newObj_type ?_;have hD:H2 s2.heap.objs.size=none:=I2.hok.fresh (pc _);have I3:Inv X Y U (upd H2 s2.heap.objs.size (.lst [])) { s2 with heap:=s2.heap.push { cls:=.type "list",dict:=none,data:=.seq ([]:List Value).toArray } }:=
  I2.laid (t':=s2.toks) (λb u e=>sK _ e) (pc _) ⟨Nat.zero_le _,[],0,.nil,ul _ rfl⟩
 have fo2:∀ b ∈ fp,b<s2.heap.objs.size:=λb hb=>by
  obtain⟨o,ho,_⟩:=T.obj _ _ jN b hb;exact tz ho
 have f3:∀ b ∈ fp,fu X Y (upd H2 s2.heap.objs.size (.lst [])) b:=λb hb=>⟨by rw[af (nw (fo2 b hb))];exact(f2 b hb).1,(f2 b hb).2⟩
 have zX:tn 0 (s2.heap.push { cls:=.type "list",dict:=none,data:=.seq ([]:List Value).toArray }):=T.keep _ _ _ jN λb hb o e=>sK _ e
 have fo3:∀ b ∈ fp,b<(s2.heap.push { cls:=.type "list",dict:=none,data:=.seq ([]:List Value).toArray }).objs.size:=λb hb=>by
  rw[Heap.size_push];exact Nat.lt_succ_of_lt (fo2 b hb)
 obtain⟨W,⟨m0,w0⟩,turn⟩:=h2 _ hD;generalize s2.heap.objs.size=D at*;generalize hs3:({ s2 with heap:=s2.heap.push { cls:=.type "list",dict:=none,data:=.seq ([]:List Value).toArray } }:Shared)=s3 at*;have st3':tn 0 s3.heap:=by rw[<-hs3];exact zX
 have fo3':∀ b ∈ fp,b<s3.heap.objs.size:=by rw[<-hs3];exact fo3
 refine wpAny_newFunctionEnv S.nocell (by intro y hy;simp at hy) (λh' hns hsb=>?_) S.kind;have keep:∀ b o,s3.heap.get? b=some o->h'.get? b=some o:=λb o e=>(hsb.2 b (nw (tz e))).trans (sK _ e)
 have I4:=nh (E:=E) (tk:=s3.toks+([]:List (Str×Value)).length) S I3 f3 fo3' hns keep;have st4:tn 0 h':=T.keep _ _ _ st3' λb hb o e=>keep b o e
 have stat:∀ {H':Hp},(∀ b ∈ fp,H' b=none)->∀ b ∈ fp,fu (dh X scope cl (xs++fr) s3 (upd H2 D (.lst [])) fp E) Y H' b:=λ{H'} hn b hb=>
  ⟨hn b hb,nw (fo3' b hb),λz=>(lf.mp (I3.gG b z)).elim (f3 b hb).2.1 (f3 b hb).2.2.1,.inl hb,λy c hy=>(f3 b hb).2.2.2.2.1 y c (S.sub y c hy),λp hp=>(f3 b hb).2.2.2.2.2 p hp⟩
 have loop:codeAny (model X.prog X.w) X.A (.compLoop (.ListComp elt [⟨tgt,iter,ifs,0⟩] scope pos) 0 (.ref it) (.ref D) (compEnvC scope cl s3.heap.objs.size X.env))
   (compPost (model X.prog X.w) X.A X.xe none (EP X Y U Q) (.ref D) s3.heap.objs.size) { s3 with heap:=h',toks:=s3.toks+([]:List (Str×Value)).length }:=by
  refine codeAny_loop rfl (λn s'=>∃ i σ' H',Inv (dh X scope cl (xs++fr) s3 (upd H2 D (.lst [])) fp E) Y σ' H' s'/\tn i s'.heap/\(∀ b ∈ fp,H' b=none)/\W i n σ' H') (λn s5 hI=>?_) m0 ⟨0,_,_,I4,st4,λb hb=>(f3 b hb).1,w0⟩;show wpAny _ _ ((compTurn (.ListComp elt [⟨tgt,iter,ifs,0⟩] scope pos) 0 (.ref it) (.ref D) (compEnvC scope cl s3.heap.objs.size X.env)).onRaise (λx=>do noteFrame x (compEnvC scope cl s3.heap.objs.size X.env);theTreesLotGoes x)) _ _ s5;refine wpAny_noted ?_;refine ql (ht s3 (upd H2 D (.lst [])) fp).1 ?_;have bad:=qy (scope:=scope) (cl:=cl) (xs:=xs) (fr:=fr) (P:=EP X Y U Q) (use:=none) (D:=D) hx I3 f3;obtain⟨i,σ5,H5,I5,st5,fr5,w5⟩:=hI;rcases turn i n σ5 H5 w5 with⟨stop,q⟩|⟨go,Nn,hN,step⟩
  .refine au (T.done (dh X scope cl (xs++fr) s3 (upd H2 D (.lst [])) fp E) rfl rfl rfl (hc I3) i _ s5 σ5 H5 _ I5 (stat fr5) st5 stop) λr s6 ⟨hr,I6⟩=>?_
   subst hr;obtain⟨m,hn,_⟩:=I6.loc;refine⟨m,hn,λh'' hs''=>⟨.ref D,H5,I3.qC (ch:=fp) I6.os (I6.base.sameBut hs'' (pc _)) (λb ob e=>?_) I6.bare λb hb=>⟨(f3 b hb).2.2.2.1,(f3 b hb).2.1,(f3 b hb).2.2.2.2.1,(f3 b hb).2.2.2.2.2⟩,rfl,q⟩⟩;refine(I6.hok b ob e).de (λc w' hc' q'=>(hs''.2 c ?_).trans q') (λ_ q'=>q') λ_ _ q'=>q'
   have fC:H5 s3.heap.objs.size=none:=I6.free;intro z;rcases hc' with z2|z2
   .rw[z2]at z;rw[z,fC]at e;cases e
   .rw[z,fC]at z2;cases z2
  .have fin:∀ {σ8:St}{H10:Hp}{s10:Shared},Inv (dh X scope cl (xs++fr) s3 (upd H2 D (.lst [])) fp E) Y σ8 H10 s10/\tn (i+1) s10.heap/\(∀ b ∈ fp,H10 b=none)->Nn σ8 H10->∃ m',m'<n/\∃ i σ' H',Inv (dh X scope cl (xs++fr) s3 (upd H2 D (.lst [])) fp E) Y σ' H' s10/\tn i s10.heap/\(∀ b ∈ fp,H' b=none)/\W i m' σ' H':=λ⟨I,t,f⟩ nn=>by
    obtain⟨m',hm,w10⟩:=hN _ _ nn;exact⟨m',hm,i+1,_,_,I,t,f,w10⟩
   refine au (T.item (dh X scope cl (xs++fr) s3 (upd H2 D (.lst [])) fp E) rfl rfl rfl (hc I3) i _ s5 σ5 H5 _ I5 (stat fr5) st5 go) λr s6 ⟨u,hr,h6⟩=>?_
   subst hr;refine au h6 λ_ s7 ⟨xv,H7,I7,r7,y7,st7,fr7⟩=>?_
   have I7':=I7.pinned (stat fr7) (T.obj _ _ st7);refine wpAny_mono (hg s3 _ fp _ s7 σ5 H7 xv u _ I7' r7 (step xv _ y7)) (λ_ s8 ⟨σ8,H8,I8,q8⟩=>?_) bad;refine wpAny_mono ((ht s3 _ fp).2 _ s8 σ8 H8 _ I8 q8) (λok s9 ⟨H9,I9,q9⟩=>?_) bad;have back:∀ {H10:Hp}{s10:Shared},Inv (dh X scope cl (xs++fr) s3 (upd H2 D (.lst [])) fp E) _ σ8 H10 s10->Inv (dh X scope cl (xs++fr) s3 (upd H2 D (.lst [])) fp E) Y σ8 H10 s10/\tn (i+1) s10.heap/\(∀ b ∈ fp,H10 b=none):=λ{H10 s10} I10=>⟨I10.dM,T.keep _ _ _ st7 λb hb o e=>(I10.pin (b,o) (gt _ (gt _ (bL hb e)))).1,λb hb=>by
    obtain⟨o,e,d⟩:=T.obj _ _ st7 b hb;exact(I10.pin (b,o) (gt _ (gt _ (bL hb e)))).2.1⟩
   refine⟨λek=>?_,λek=>am ⟨rfl,fin (back I9) (q9.2 ek)⟩⟩;refine wpAny_mono (he s3 _ fp _ s9 _ _ _ I9 (q9.1 ek)) (λuv s10 ⟨vv,H10,I10,r10,zs,hz,hzl,n10⟩=>?_) bad;refine wpAny_mono (gF (X:=dh X scope cl (xs++fr) s3 (upd H2 D (.lst [])) fp E) _ s10 _ H10 (.ref D) [vv] (.ref D) [uv] (λ_ H'=>H'=upd H10 D (.lst (zs++[vv]))) I10 rfl (.cons r10 .nil) ⟨D,zs,vv,rfl,rfl,hz,hzl,rfl⟩) (λ_ s11 ⟨_,H11,I11,_,e11⟩=>?_) bad;subst e11;exact am ⟨rfl,fin (back I11) n10⟩
 exact codeAny_compStart_list loop (T.self _ 0 _ _ _ st4 loop)
def pe {x:Str}{px:Pos}(S:aW X scope cl [x] fr sel):PG (dh X scope cl ([x]++fr) s H fp E) (.Name x px) (fh 0):=fH S.nd rfl (.inl (lookup_relabel_local (S.own x (le ..)))) (.inr (lookup_relabel_local (S.own x (le ..))))
abbrev Hu (wi:TI):TI:=λU H R=>∃ R0:It->Hp->Prop,wi U H R0/\∀ J H,R0 J H->R J H
def zI.up {tg iter:Expr}{wi:TI}(h:zI ok X tg iter wi):zI ok X tg iter (Hu wi):=λY s U H R I ⟨R0,q,m⟩=>
 au (h Y s U H R0 I q) λv s1 h1=>wpAny_mono h1 (λitv s2 ⟨it,fp,tn,J,H',e,I,T,t0,f,r⟩=>⟨it,fp,tn,J,H',e,I,T,t0,f,m _ _ r⟩) λ_ _ e=>e
def l7 {elt iter:Expr}{x:Str}{px:Pos}{wi:TI}(hc:∀ {Y:HN}{U:St}{H:Hp}{s:Shared}{fp:List Addr},Inv X Y U H s->ok (dh X scope cl (x::fr) s H fp E)) (hx:jT X U E) (S:aW X scope cl [x] fr sel) (hi:zI ok X (.Name x px) iter wi)
  (he:∀ (s:Shared) (H:Hp) (fp:List Addr),PE (dh X scope cl (x::fr) s H fp E) elt te) (hs:∀ x,foldedSetIterable iter X.env x=pure x):GF X U (.ListComp elt [⟨.Name x px,iter,[],0⟩] scope pos) (GJ wi te sel):=λY s H Q I h=>
 jW (tg:=fh 0) (ok:=ok) hc hx S hi.up (λs H fp=>pe S) (λ_ _ _=>hU) he hs Y s H Q I ⟨_,h,λ_ _ q=>q.g⟩
end
section
variable {U:St}{H:Hp}{Q:VK}{te tl:TE}{ta:TA}{sel:List Nat}{σ₀ rest:St}{K:W.Frag}
end
def c4 {env:Env}:∀ {names:List (Str×NameKind)}{y:Str}{k':NameKind},(names.map λ(n,k)=>if(k ==NameKind.free&&env.scope.kind ==.function&&env.kindOf n ==some .cell) then(n,NameKind.cell) else(n,k)).lookup y=some k'->∃ k,(y,k) ∈ names/\(k'=k\/(k=.free/\k'=.cell))
 | [],_,_,h=>by simp at h
 |(n,k)::r,y,k',h=>by
  rw[map_cons,lookup_cons]at h
  by_cases hc:(k ==NameKind.free&&env.scope.kind ==.function&&env.kindOf n ==some .cell)=true
  .simp only[hc,if_true]at h
   by_cases e:y=n
   .subst e;simp at h;simp at hc;exact⟨k,le,.inr ⟨hc.1.1,h.symm⟩⟩
   .rw[show(y ==n)=false from beq_eq_false_iff_ne.mpr e]at h;obtain⟨k2,m,q⟩:=c4 (env:=env) h;exact⟨k2,dl _ m,q⟩
  .rw[Bool.not_eq_true]at hc;simp only[hc,Bool.false_eq_true,if_false]at h
   by_cases e:y=n
   .subst e;simp at h;exact⟨k,le,.inl h.symm⟩
   .simp only[show(y ==n)=false from beq_eq_false_iff_ne.mpr e]at h;obtain⟨k2,m,q⟩:=c4 (env:=env) h;exact⟨k2,dl _ m,q⟩
section
variable {K:W.Frag}
end
section
variable {K:W.Frag}{H:Hp}
end
section
variable {U:St}{H:Hp}{Q:VK}
end
abbrev notStar:Expr->Bool
 | .Starred ..=>false
 |_=>true
variable {es:List Expr}
def ae {e:Expr}{env:Env}(h:notStar e=true):bm (e::es) env=(false,eval e env)::bm es env:=by
 cases e<;>first|rfl|cases h
def gB {e:Expr}{t:TA}(ha:PE X e te)(hr:PA X es t)(h:notStar e=true:=by rfl):PA X (e::es) (Az te t):=xI ha hr (ae h)
section
variable {X:Cx}{Y:HN}{U:St}{H:Hp}{s:Shared}{h':Heap}
def Inv.lZ {t':Nat}{ch:List Addr}{a:Addr}{o:HO}(I:Inv X Y U H s)(k:∀ b u,b ∉ ch->s.heap.get? b=some u->h'.get? b=some u) (hf:∀ b ∈ ch,fu X Y H b)
  (hp:s.heap.objs.size<=a) (new:av X.prog X.w (upd H a o) h' a o):Inv X Y U (upd H a o) { s with heap:=h',toks:=t' }:=by
 have hn:H a=none:=I.hok.fresh hp;have nch:∀ b u,H b=some u->b ∉ ch:=λb u e z=>by rw[(hf b z).1]at e;cases e
 refine I.step (g':=s.gens) (d':=s.drawn) (ch:=ch) (λb hb=>?_) (λb o _ _ hc e _=>k b o hc e) (λb o _ _ hc e _=>⟨o.slots,k b o hc e⟩) (λb o hc e n=>?_)
  (λb o hc e=>⟨o,k b o hc e⟩) (λb xs e=>?_) (λb ob u e=>?_) (λb ps e=>?_) (λm hm=>?_) (λb u e=>?_) I.bare
 .obtain⟨_,f1,_,f3,f4,f5⟩:=hf b hb;exact⟨f3,f1,f4,f5⟩
 .rw[af (nw (mo (tz e) hp))];exact n
 .rw[af (aI e hn)];exact e
 .rw[af (aI e hn)];exact e
 .exact⟨#[],by rw[af (aI e hn),e];simp⟩
 .obtain⟨o,es,ep,ho,r⟩:=hm;exact⟨o,es,ep,k _ o (λz=>(hf _ z).2.1 rfl) ho,r⟩
 .by_cases hb:b=a
  .subst hb;rw[aq]at e;cases e;exact new
  .rw[af hb]at e;refine(I.hok b u e).de (λc v hc q=>k c v ?_ q) (λc q=>by rw[af (aI q hn)];exact q) λc xs q=>by rw[af (aI q hn)];exact q
   rcases hc with rfl|hc
   .exact nch _ _ e
   .exact nch _ _ hc
end
abbrev EO (l:Addr):It:=
 ⟨λi H=>∃ xs x,H l=some (.lst xs)/\xs[i]? =some x,λi H x H'=>∃ T y,H T=none/\x=.ref T/\H'=upd H T (.tup [.int i,y])/\∀ xs,H l=some (.lst xs)->xs[i]? =some y,λi H=>∃ xs,H l=some (.lst xs)/\xs.length<=i⟩
variable {elts:List Expr}
def sr {P:Program}{w:World}{K:W.Frag}{k:Nat}(l e it:Addr)(hei:e≠it):
  Turn P w K Calm (.Tuple elts k pos) (EO l) [e,it] e (λi h=>(∃ old,IsEnum h e it ((i:Nat):Int) old)/\h.IsListIter it l i) where
 mem:=by simp
 obj:=λi h st b hb=>by
  obtain⟨⟨old,he⟩,hit⟩:=st;rcases lf.mp hb with rfl|hb
  .exact⟨_,he,λv z=>by
    have z':Data.fields _=Data.cell v:=z;cases z'⟩
  .have e':b=it:=by simpa using hb
   subst e';obtain⟨o,e,c,d⟩:=hit;exact⟨o,e,λv z=>by rw[d]at z;cases z⟩
 keep:=λi h h' st k=>by
  obtain⟨⟨old,he⟩,hit⟩:=st;exact⟨⟨old,k e (by simp) _ he⟩,hit.at λo q=>k it (by simp) o q⟩
 item:=by
  intro X hP hw hK hc i Y s U H E I hf st hg;subst hP hw hK;obtain⟨xs,x,hq,hx⟩:=hg;obtain⟨⟨old,he⟩,hit⟩:=st;obtain⟨its,rv,p,hz⟩:=I.list (aL.of hq);obtain⟨u,hu,ru⟩:=rv.get hx;have heN:H e=none:=(hf e (by simp)).1;have hes:e≠s.heap.objs.size:=nw (tz he);obtain⟨oi,hoi,_⟩:=id hit;have his:it≠s.heap.objs.size:=nw (tz hoi);refine wpAny_pyNext_enum_item he hit p.isList (x:=u) (by simpa using hu) hei λh1 heo hit1 ht1 hz1 hk1=>?_
  have I1:Inv X Y U (upd H s.heap.objs.size (.tup [.int i,x])) { s with heap:=h1,toks:=s.toks+1 }:=
   I.lZ (ch:=[e,it]) (λb o hb q=>hk1 b o (λz=>hb (by simp[z])) (λz=>hb (by simp[z])) q) hf (pc _)
    ⟨fits (nb rfl),[.int i s.toks,u],.cons ⟨_,rfl⟩ (.cons ru .nil),⟨_,ht1,rfl,_,rfl⟩⟩
  refine⟨_,rfl,wpAny_letOwnedTupleGo_enum heo λh2 he2 hs2=>?_⟩;obtain⟨f0,f1,f2,f3,f4,f5⟩:=hf e (by simp);have I2:=I1.turned (h':=h2) (t':=s.toks+1) (it:=e) (λb o hb q=>(hs2.2 b hb).trans q) (by rw[af hes];exact heN) f1 f3 f4 f5;refine⟨.ref s.heap.objs.size,_,I2,rfl,⟨_,x,I.hok.fresh (pc _),rfl,rfl,λys hy=>?_⟩,⟨⟨_,by simpa using he2⟩,hit1.at λo q=>(hs2.2 it hei.symm).trans q⟩,λb hb=>?_⟩
  .rw[hq]at hy;cases hy;exact hx
  .have hb':b≠s.heap.objs.size:=by
    rcases lf.mp hb with rfl|hb
    .exact hes
    .have e':b=it:=by simpa using hb
     subst e';exact his
   rw[af hb'];exact(hf b hb).1
 done:=by
  intro X hP hw hK hc i Y s U H E I hf st hg;subst hP hw hK;obtain⟨xs,hq,hx⟩:=hg;obtain⟨⟨old,he⟩,hit⟩:=st;obtain⟨its,rv,p,hz⟩:=I.list (aL.of hq);obtain⟨f0,f1,f2,f3,f4,f5⟩:=hf it (by simp);have hl:=rv.length;exact wpAny_pyNext_enum_end (I.ok.hd hc) he hit p.isList (by simp;omega) λh' eb=>⟨rfl,I.turned (t':=s.toks) (λb o hb q=>eb b o hb q) f0 f1 f3 f4 f5⟩
 self:=λ_ _ _ _ _ st h=>by
  obtain⟨⟨old,he⟩,hit⟩:=st;exact wpAny_pyIter_enum he h
def kH:bootBuiltins "enumerate"=some (.type "enumerate"):=by decide+kernel
abbrev Dw (ta:TA):TI:=λU H R=>ta U H λvs H1=>∃ l,vs=[.ref l]/\(∃ xs,H1 l=some (.lst xs))/\R (EO l) H1
def xS {k:Nat}{a:Expr}{ta:TA}{p pos':Pos}(hg:Gl X "enumerate") (hm:X.mg "enumerate"=none) (ha:PA X [a] ta) (hs:bm [a] X.env=[(false,eval a X.env)]:=by rfl):
  PI X (.Tuple elts k pos') (.Call (.Name "enumerate" p) [a] [] pos) (Dw ta):=by
 intro Y s U H R I h;refine Call_ (dA I hg hm kH (PyProof.Rows.callWith_type1 (au (ha pos Y s U H _ I h) λus s1 ⟨vs,H1,I1,r1,q1⟩=>?_) hs rfl));obtain⟨l,e,⟨xs,hl⟩,q⟩:=q1;subst e;cases r1 with
 |cons r rr=>
  cases rr;cases r;obtain⟨z,its,n,r,hlen,e⟩:=I1.ju hl;refine call_enumerate_1 e λh' he hit hsz hk=>?_
  refine wpAny_pyIter_enum he ?_;refine⟨s1.heap.objs.size+1,[s1.heap.objs.size+1,s1.heap.objs.size],_,_,H1,rfl,I1.kept (t':=s1.toks) hk,sr l _ _ (Nat.succ_ne_self _),⟨⟨_,he⟩,hit⟩,λb hb=>?_,q⟩;have hb':s1.heap.objs.size<=b:=by
   rcases lf.mp hb with rfl|hb
   .exact Nat.le_succ _
   .have e':b=s1.heap.objs.size:=by simpa using hb
    exact Nat.le_of_eq e'.symm
  exact I1.nK hb' (I1.hok.fresh hb')
section
variable {g:TG}{tb:TS}{D:Ends}{U:St}{H:Hp}{ta:TA}
end
section
variable {X:Cx}
abbrev yx:V->List V->Hp->VK->Prop:=λx vs H Q=>∃ l xs i y,x=.ref l/\vs=[.int i,y]/\H l=some (.lst xs)/\0<=i/\i<=xs.length/\xs.length<bn/\Q .non (upd H l (.lst (xs.take i.toNat++y::xs.drop i.toNat)))
def Vals.take':∀ {xs:List V}{us:List Value}(n:Nat),Vals xs us->Vals (xs.take n) (us.take n)
 |_,_,0,_=>by simpa using Paired.nil
 |_,_,n+1,.nil=>.nil
 |_,_,n+1,.cons r t=>.cons r (Vals.take' n t)
def Vals.drop':∀ {xs:List V}{us:List Value}(n:Nat),Vals xs us->Vals (xs.drop n) (us.drop n)
 |_,_,0,r=>r
 |_,_,n+1,.nil=>.nil
 |_,_,n+1,.cons r t=>Vals.drop' n t
def rl:FU X "list.insert" yx:=by
 intro Y s U H x vs v us Q I rx rv h;obtain⟨l,xs,i,y,rfl,rfl,hH,h0,h1,hz,q⟩:=h;cases rx;obtain⟨u,u2,rfl,ru,ru2⟩:=vals2 rv;obtain⟨t,rfl⟩:=ru;obtain⟨z,its,n,r,hl,e⟩:=I.ju hH;have hk:i.toNat<=its.length:=by omega
 have hn:=eB;have hfit:¬ (!Builtin.List.listFitsIndex i)=true:=by
  rw[fitsIndex_both (k:=i) nofun nofun]
  decide
 have hsz:its.toArray.size<=bn:=by rw[ge];omega
 have hmt:=AutoSeq1.list_insert_list_int_val_1 l its.toArray n i t u2 hfit hsz;refine call_meets F.slot_list_insert ⟨_,e,rfl⟩ F.entry_list_insert (F.args_list_insert_3 _ _ _) hmt ⟨e,?_⟩;refine⟨.non,_,I.AF (its':=its.take i.toNat++u2::its.drop i.toNat) hH e ?_ ?_ ?_,rfl,q⟩
 .have ek:(if i<0 then(i+(its.toArray.size:Int)).toNat else min i.toNat its.toArray.size)=i.toNat:=by
   rw[if_neg nofun,ge];exact Nat.min_eq_left hk
  show((its.toArray.extract 0 (if i<0 then(i+(its.toArray.size:Int)).toNat else min i.toNat its.toArray.size)).push u2++its.toArray.extract (if i<0 then(i+(its.toArray.size:Int)).toNat else min i.toNat its.toArray.size))=_;rw[ek];apply Array.ext';simp;exact take_of_length_le (by rw[im];omega)
 .exact(Vals.take' i.toNat r).append (.cons ru2 (Vals.drop' i.toNat r))
 .rw[ci,length_cons,db,im]
  omega
end
section
variable {K:W.Frag}{r:V->List V->Hp->VK->Prop}{to:TE}{t:TA}{U:St}{H:Hp}{Q:VK}
end
section
variable {H H1 H2:Hp}{p h c:Addr}{o:HO}{m:Int}
end
section
variable {H H':Hp}{xs ys:List V}{f:Nat->Int×Int}
end
section
variable {X:Cx}{a b c d:Expr}{ta tb tc td:TE}{pos:Pos}
abbrev qR (r r' r2:R2)(ta tb tc td:TE):TE:=λU H Q=>ta U H λx H1=>tb U H1 λy H2=>r x y H2 λz H3=>qQ z H3 λk H3=>
 (if k=true then tc U H3 λw' H4=>r' y w' H4 λz' H5=>qQ z' H5 λk' H5=>(if k'=true then td U H5 λw2 H6=>r2 w' w2 H6 Q else Q (.bl false) H5) else Q (.bl false) H3)
def rL {op op' op2:CmpOp}{r r' r2:R2}(ho:bR X (compareOp op) r)(ho':bR X (compareOp op') r')(ho2:bR X (compareOp op2) r2)(ha:PE X a ta)(hb:PE X b tb)(hc:PE X c tc)(hd:PE X d td)
  (hm:lastMarks [op,op',op2] [b,c,d]=false:=by with_unfolding_all rfl):PE X (.Compare a [op,op',op2] [b,c,d] pos) (qR r r' r2 ta tb tc td):=by
 intro Y s U H Q I h;refine Compare_chain (au (ha Y s U H _ I h) λv s1 ⟨x,H1,I1,r1,q1⟩=>chain_link (au (hb Y s1 U H1 _ I1 q1) λu s2 ⟨y,H2,I2,r2',q2⟩=>
  au (ho Y s2 U H2 x y v u _ I2 r1 r2' q2) λd s3 ⟨z,H3,I3,r3,k,e,q3⟩=>?_)) hm
 subst e;cases r3;refine bi ?_;cases k with
 |false=>exact ite_ff ⟨.bl false,H3,I3,rfl,q3⟩
 |true=>
  refine ite_tt (chain_link (au (hc Y s3 U H3 _ I3 q3) λw' s4 ⟨z',H4,I4,r4,q4⟩=>au (ho' Y s4 U H4 y z' u w' _ I4 r2' r4 q4) λd2 s5 ⟨z2,H5,I5,r5,k2,e2,q5⟩=>?_));subst e2;cases r5;refine bi ?_;cases k2 with
  |false=>exact ite_ff ⟨.bl false,H5,I5,rfl,q5⟩
  |true=>exact ite_tt (chain_last (au (hd Y s5 U H5 _ I5 q5) λw2 s6 ⟨z3,H6,I6,r6,q6⟩=>ho2 Y s6 U H6 z' z3 w' w2 Q I6 r4 r6 q6))
def sU {op op' op2:CmpOp}{r r' r2:R2}(ho:bR X (compareOp op) r)(ho':bR X (compareOp op') r')(ho2:bR X (compareOp op2) r2)(ha:PE X a ta)(hb:PE X b tb)(hc:PE X c tc)(hd:PE X d td)
  (hm:lastMarks [op,op',op2] [b,c,d]=false:=by with_unfolding_all rfl):PT X (.Compare a [op,op',op2] [b,c,d] pos) (uk (qR r r' r2 ta tb tc td)):=by
 intro Y s U H Q I h;refine isTrue_chain (au (ha Y s U H _ I h) λv s1 ⟨x,H1,I1,r1,q1⟩=>test_link (au (hb Y s1 U H1 _ I1 q1) λu s2 ⟨y,H2,I2,r2',q2⟩=>
  au (ho Y s2 U H2 x y v u _ I2 r1 r2' q2) λd s3 ⟨z,H3,I3,r3,k,e,q3⟩=>?_)) hm
 subst e;cases r3;refine bi ?_;cases k with
 |false=>
  obtain⟨k',e',q'⟩:=q3;cases e';exact ite_ff ⟨H3,I3,q'⟩
 |true=>
  refine ite_tt (test_link (au (hc Y s3 U H3 _ I3 q3) λw' s4 ⟨z',H4,I4,r4,q4⟩=>au (ho' Y s4 U H4 y z' u w' _ I4 r2' r4 q4) λd2 s5 ⟨z2,H5,I5,r5,k2,e2,q5⟩=>?_));subst e2;cases r5;refine bi ?_;cases k2 with
  |false=>
   obtain⟨k',e',q'⟩:=q5;cases e';exact ite_ff ⟨H5,I5,q'⟩
  |true=>
   refine ite_tt (test_last (au (hd Y s5 U H5 _ I5 q5) λw2 s6 ⟨z3,H6,I6,r6,q6⟩=>au (ho2 Y s6 U H6 z' z3 w' w2 _ I6 r4 r6 q6) λd' s7 ⟨z4,H7,I7,r7,k3,e3,q7⟩=>?_));subst e3;cases r7;exact bi ⟨H7,I7,q7⟩
end
section
variable {K:W.Frag}{U:St}{H:Hp}{Q:VK}{ta tb tc td tv:TE}{t:TA}{f m:Str}{D:Ends}{C:Addr}{sp:Sp}{dvs:List V}{E:XK}
end
section
variable {g:TG}{tb:TS}{D:Ends}{U:St}{H:Hp}{ta:TA}
end
section
variable {C:Addr}{H H':Hp}{S D h c:Addr}{rs:List Rec}{r:Rec}
end
section
variable {X:Cx}
end
end L2
namespace L2
end L2
namespace L2
open PySem PySem.Spec PyProof.Rows
section
variable {C:Addr}{H HF:Hp}{S D h c:Addr}{rs:List Rec}{r':Rec}
end
section
variable {X:Cx}
end
structure Gk (K:W.Frag) (C:Addr):Prop where
 ha:W.findIn K (.ref C) "__class__"=some (some (.builtin "object.__class__"))
 hn:W.specialIn K (.builtin "object.__class__") "__get__"=some (some (.builtin "getset_descriptor.__get__"))
 htk:W.takesIn K (.builtin "object.__class__")=some true
 hm:W.mroIn K C (.type "object")=some true
end L2
namespace L2
open PySem PySem.Spec PySem.W PyProof.Rows
abbrev aX (tp:Bool)(h:Heap)(j b:Addr)(k:Nat):Prop:=match tp with
 |true=>h.IsTupleIter j b k
 |false=>h.IsListIter j b k
abbrev bC (tp:Bool)(h:Heap)(b:Addr)(xs:Array Value):Prop:=match tp with
 |true=>h.IsTuple b xs
 |false=>h.IsList b xs
variable {tp:Bool}{h:Heap}{k:Nat}
def aX.to {h':Heap}{j b:Addr}(g:aX tp h j b k)(e:∀ o,h.get? j=some o->h'.get? j=some o):aX tp h' j b k:=by
 cases tp
 .obtain⟨o,e1,r⟩:=(show h.IsListIter j b k from g);exact⟨o,e o e1,r⟩
 .obtain⟨o,e1,r⟩:=(show h.IsTupleIter j b k from g);exact⟨o,e o e1,r⟩
def bC.to {h':Heap}{b:Addr}{xs:Array Value}(g:bC tp h b xs)(e:∀ o,h.get? b=some o->h'.get? b=some o):bC tp h' b xs:=by
 cases tp
 .obtain⟨o,e1,r⟩:=(show h.IsList b xs from g);exact⟨o,e o e1,r⟩
 .obtain⟨o,e1,r⟩:=(show h.IsTuple b xs from g);exact⟨o,e o e1,r⟩
def aX.lt {tp:Bool}{h:Heap}{j b:Addr}{k:Nat}(g:aX tp h j b k):j<h.objs.size:=by
 cases tp
 .obtain⟨o,e1,r⟩:=(show h.IsListIter j b k from g);exact tz e1
 .obtain⟨o,e1,r⟩:=(show h.IsTupleIter j b k from g);exact tz e1
def bC.lt {tp:Bool}{h:Heap}{b:Addr}{xs:Array Value}(g:bC tp h b xs):b<h.objs.size:=by
 cases tp
 .obtain⟨o,e1,r⟩:=(show h.IsList b xs from g);exact tz e1
 .obtain⟨o,e1,r⟩:=(show h.IsTuple b xs from g);exact tz e1
variable {Q:HK}{c:Addr}{T:Int}{t:Tok}{fb:Bool}{oT:Obj}{elts:List Expr}{pos:Pos}
section
variable {prog:Program}{w:World}{A:Around}{E:HM}{s:Shared}
def A5 {j b:Addr}{xs:Array Value}{x:Value}{Q:HM}(g:s.heap.IsTupleIter j b k)(t:s.heap.IsTuple b xs)(hx:xs[k]? =some x)
  (q:∀ h',h'.IsTupleIter j b (k+1)->Heap.SameBut j s.heap h'->Q x { s with heap:=h' }):wpAny (model prog w) A (Builtin.SmallTypes.nextOf (.ref j)) Q E s:=by
 obtain⟨o1,e1,c1,d1⟩:=id g;obtain⟨o2,e2,_,n2,d2⟩:=t;unfold Builtin.SmallTypes.nextOf;refine ad (wpAny_callSpecial?_slot (name:=Str.ofString "__next__") g.typeIs F.slot_tuple_iterator_next (wpAny_call_entry F.slot_tuple_iterator_next g.typeIs F.entry_tuple_iterator_next ?_ (F.args_tuple_iterator_next_1 _)));show wpAny _ _ (field (.ref j) 0 >>= _) _ _ s;refine ad (ap e1 d1 (x:=.ref b) rfl ?_);show wpAny _ _ (if(Value.ref b ==Value.none)=true then _ else _) _ _ s;rw[if_neg (show ¬ ((Value.ref b ==Value.none)=true) from Bool.false_ne_true)];show wpAny _ _ (field (.ref j) 1 >>= _) _ _ s;refine ad (ap e1 d1 (x:=.int k 0) rfl ?_);show wpAny _ _ (seqItems? (.ref b) >>= _) _ _ s;refine ad (wpAny_seqItems e2 d2 ?_);simp only[pi,hx];refine ad (wpAny_setField e1 d1 (by simp) (am ⟨x,rfl,am (q _ ?_ (Heap.SameBut.update ..))⟩));refine⟨_,Heap.get?_update_self _ e1 (Obj.isFreed_of_fields (Obj.data_mapFields d1 _)),(Obj.cls_mapFields ..).trans c1,?_⟩;rw[Obj.data_mapFields d1];simp[rawInt]
def xT {j b:Addr}{xs:Array Value}{Q:HM}(hh:A.handled=none)(g:s.heap.IsTupleIter j b k)(t:s.heap.IsTuple b xs)(hx:xs[k]? =none)
  (q:∀ h' e,Heap.ExtBut j s.heap h'->(∃ o,h'.get? e=some o/\o.cls=.type "StopIteration")->E (.ref e) { s with heap:=h' }):wpAny (model prog w) A (Builtin.SmallTypes.nextOf (.ref j)) Q E s:=by
 obtain⟨o1,e1,c1,d1⟩:=id g;obtain⟨o2,e2,_,n2,d2⟩:=t;unfold Builtin.SmallTypes.nextOf;refine ad (wpAny_callSpecial?_slot (name:=Str.ofString "__next__") g.typeIs F.slot_tuple_iterator_next (wpAny_call_entry F.slot_tuple_iterator_next g.typeIs F.entry_tuple_iterator_next ?_ (F.args_tuple_iterator_next_1 _)));show wpAny _ _ (field (.ref j) 0 >>= _) _ _ s;refine ad (ap e1 d1 (x:=.ref b) rfl ?_);show wpAny _ _ (if(Value.ref b ==Value.none)=true then _ else _) _ _ s;rw[if_neg (show ¬ ((Value.ref b ==Value.none)=true) from Bool.false_ne_true)];show wpAny _ _ (field (.ref j) 1 >>= _) _ _ s;refine ad (ap e1 d1 (x:=.int k 0) rfl ?_);show wpAny _ _ (seqItems? (.ref b) >>= _) _ _ s;refine ad (wpAny_seqItems e2 d2 ?_);simp only[pi,hx];refine ad (wpAny_rule (ad (wpAny_setField e1 d1 (by simp) ?_)));show wpAny _ _ (newExc (.type "StopIteration") [] >>= _) _ _ _;refine ad ?_;simp only[newExc,newTuple];refine ad (wpAny_newObj_type ?_ (by size_fits));refine ad (m:=firstArgMember _ _) (wpAny_of_eq (a:=Value.none) (by first|rfl|(simp only[firstArgMember];rfl)) ?_);refine wpAny_newObj_type ?_ (by size_fits);simp only[raiseNew];refine ad (wpAny_handled ?_);first|rw[show A.in1.handled=none from hh]|rw[hh]
 refine ad (am (wpAny_throw ?_));exact q _ _ (((Heap.SameBut.update ..).extBut.push _).push _) ⟨_,ul _ rfl,rfl⟩
def dZ {j b:Addr}{xs:Array Value}{x:Value}{Q:HM}(g:aX tp s.heap j b k)(t:bC tp s.heap b xs)(hx:xs[k]? =some x)
  (q:∀ h',aX tp h' j b (k+1)->Heap.SameBut j s.heap h'->Q x { s with heap:=h' }):wpAny (model prog w) A (Builtin.SmallTypes.nextOf (.ref j)) Q E s:=by
 cases tp
 .exact wpAny_nextOf_list_item g t hx q
 .exact A5 g t hx q
def kK {j b:Addr}{xs:Array Value}{Q:HM}(hh:A.handled=none)(g:aX tp s.heap j b k)(t:bC tp s.heap b xs)(hx:xs[k]? =none)
  (q:∀ h' e,Heap.ExtBut j s.heap h'->(∃ o,h'.get? e=some o/\o.cls=.type "StopIteration")->E (.ref e) { s with heap:=h' }):wpAny (model prog w) A (Builtin.SmallTypes.nextOf (.ref j)) Q E s:=by
 cases tp
 .exact wpAny_nextOf_list_end hh g t hx q
 .exact xT hh g t hx q
@[reducible]def bG (h:Heap) (z TI TO:Addr) (f0 f1:Value):Prop:=h.get? z=some { cls:=.type "zip",dict:=none,data:=.fields #[f0,f1,.bool false,.ref TI,.ref TO],slots:=#[] }
variable {z TI TO i1 i2 l1 l2:Addr}{k1 k2:Nat}{tp1 tp2:Bool}{xs ys:Array Value}{x y a b f1:Value}
def pJ (D:ZipApart z TI TO i1 i2 l1 l2)(hz:bG s.heap z TI TO .none f1)(hI:IsPair s.heap TI (.ref i1) (.ref i2))(hO:IsPair s.heap TO a b)
  (g1:aX tp1 s.heap i1 l1 k1) (g2:aX tp2 s.heap i2 l2 k2) (t1:bC tp1 s.heap l1 xs) (t2:bC tp2 s.heap l2 ys) (hx:xs[k1]? =some x) (hy:ys[k2]? =some y)
  (q:∀ h',bG h' z TI TO (rawInt s.heap.objs.size) (.bool false)->IsPair h' TO x y->aX tp1 h' i1 l1 (k1+1)->aX tp2 h' i2 l2 (k2+1)->IsPair h' s.heap.objs.size x y->h'.objs.size=s.heap.objs.size+1->
   (∀ c o,c≠z->c≠TO->c≠i1->c≠i2->s.heap.get? c=some o->h'.get? c=some o)->Q (some (.ref s.heap.objs.size)) { s with heap:=h' }):wpAny (model prog w) A (pyNext (.ref z)) Q E s:=by
 have hZ:s.TypeIs (.ref z) "zip":=⟨_,hz,rfl⟩;unfold pyNext;refine ad (wpAny_attempt (wpAny_callSpecial?_slot (name:=Str.ofString "__next__") hZ F.slot_zip_next (wpAny_call_entry F.slot_zip_next hZ F.entry_zip_next ?_ (F.args_zip_next_1 _))));show wpAny _ _ (field (.ref z) 2 >>= _) _ _ _;refine ad (ap (x:=.bool false) hz rfl rfl ?_);show wpAny _ _ (field (.ref z) 3 >>= _) _ _ _;refine ad (ap (x:=.ref TI) hz rfl rfl ?_);refine ad (wpAny_seqItems hI rfl ?_);show wpAny _ _ (Builtin.SmallTypes.ownedTupleIsFree (.ref z) >>= _) _ _ _;refine ad ?_;unfold Builtin.SmallTypes.ownedTupleIsFree;refine ad (ap (x:=.none) hz rfl rfl (am ?_));simp only[if_true];refine ad (wpAny_rule ?_);refine ad (ap (x:=.ref TO) hz rfl rfl ?_);refine ad (wpAny_setField_rec hz (by simp) λp1 z1 b1=>?_)
 replace z1:bG p1 z TI TO .ellipsis f1:=z1
 refine ad ?_;simp only[List.zipIdx_cons,List.zipIdx_nil,forIn_cons,forIn_nil];refine ad (ad (wpAny_onRaise ?_));show wpAny _ _ (Builtin.SmallTypes.nextOf (.ref i1) >>= _) _ _ _;refine ad (dZ (g1.to λo e=>b1.extBut _ o D.i1z e) (t1.to λo e=>b1.extBut _ o D.l1z e) hx λp2 g1b b2=>am ?_);have hO2:IsPair p2 TO a b:=b2.extBut _ _ D.TOi1 (b1.extBut _ _ D.TOz hO);refine ad (wpAny_seqItems hO2 rfl ?_);refine ad (wpAny_updateSeq_pair hO2 λp3 hO3 b3=>?_)
 replace hO3:IsPair p3 TO x b:=hO3
 refine ad (wpAny_letGo (am ?_));refine ad (ad (wpAny_onRaise ?_));show wpAny _ _ (Builtin.SmallTypes.nextOf (.ref i2) >>= _) _ _ _;refine ad (dZ (g2.to λo e=>b3.extBut _ o D.TOi2.symm (b2.extBut _ o D.i12.symm (b1.extBut _ o D.i2z e))) (t2.to λo e=>b3.extBut _ o D.l2TO (b2.extBut _ o D.l2i1 (b1.extBut _ o D.l2z e))) hy λp4 g2b b4=>am ?_);have hO4:IsPair p4 TO x b:=b4.extBut _ _ D.TOi2 hO3;refine ad (wpAny_seqItems hO4 rfl ?_);refine ad (wpAny_updateSeq_pair hO4 λp5 hO5 b5=>?_)
 replace hO5:IsPair p5 TO x y:=hO5
 refine ad (wpAny_letGo (am (am ?_)));refine ad (wpAny_seqItems hO5 rfl ?_);refine ad (wpAny_newTuple ?_);have hsz:p5.objs.size=s.heap.objs.size:=by rw[b5.1,b4.1,b3.1,b2.1,b1.1]
 have z5:bG p5 z TI TO .ellipsis f1:=b5.extBut _ _ D.TOz.symm (b4.extBut _ _ D.i2z.symm (b3.extBut _ _ D.TOz.symm (b2.extBut _ _ D.i1z.symm z1)));have k5:∀ c o,c≠z->c≠TO->c≠i1->c≠i2->s.heap.get? c=some o->p5.get? c=some o:=λc o n1 n2 n3 n4 e=>b5.extBut _ _ n2 (b4.extBut _ _ n4 (b3.extBut _ _ n2 (b2.extBut _ _ n3 (b1.extBut _ _ n1 e))))
 have g15:aX tp1 p5 i1 l1 (k1+1):=g1b.to λo e=>b5.extBut _ o D.TOi1.symm (b4.extBut _ o D.i12 (b3.extBut _ o D.TOi1.symm e))
 have g25:aX tp2 p5 i2 l2 (k2+1):=g2b.to λo e=>b5.extBut _ o D.TOi2.symm e
 have zlt:z<p5.objs.size:=tz z5;show wpAny _ _ (Builtin.SmallTypes.ownedTupleHandOut (.ref z) (.ref p5.objs.size) >>= _) _ _ _;refine ad ?_;unfold Builtin.SmallTypes.ownedTupleHandOut;have z6:bG (p5.push { cls:=.type "tuple",data:=.seq #[x,y] }) z TI TO .ellipsis f1:=sK _ z5;refine ad (wpAny_setField_rec z6 (by simp) λp7 z7 b7=>?_)
 replace z7:bG p7 z TI TO (rawInt p5.objs.size) f1:=z7
 refine wpAny_setField_rec z7 (by simp) λp8 z8 b8=>?_
 replace z8:bG p8 z TI TO (rawInt p5.objs.size) (.bool false):=z8
 have up:∀ c o,c≠z->p5.get? c=some o->p8.get? c=some o:=λc o n1 e=>b8.extBut _ _ n1 (b7.extBut _ _ n1 (sK _ e))
 have hT:IsPair p8 p5.objs.size x y:=b8.extBut _ _ (Nat.ne_of_gt zlt) (b7.extBut _ _ (Nat.ne_of_gt zlt) (ul _ rfl));have h8:p8.objs.size=p5.objs.size+1:=by rw[b8.1,b7.1,Heap.size_push]
 rw[hsz]at z8 hT h8;refine am ⟨_,rfl,?_⟩;rw[hsz];exact am (q p8 z8 (up _ _ D.TOz hO5) (g15.to λo e=>up _ o D.i1z e) (g25.to λo e=>up _ o D.i2z e) hT h8 λc o n1 n2 n3 n4 e=>up c o n1 (k5 c o n1 n2 n3 n4 e))
def AY {Q:Fin->Shared->Prop}(hh:A.handled=none)(D:ZipApart z TI TO i1 i2 l1 l2)(hz:bG s.heap z TI TO .none f1)(hI:IsPair s.heap TI (.ref i1) (.ref i2))(hO:IsPair s.heap TO a b)
  (g1:aX tp1 s.heap i1 l1 k1) (g2:aX tp2 s.heap i2 l2 k2) (t1:bC tp1 s.heap l1 xs) (t2:bC tp2 s.heap l2 ys) (hx:xs[k1]? =none\/ys[k2]? =none)
  (q:∀ h' e,(∀ c o,c≠z->c≠TO->c≠i1->c≠i2->s.heap.get? c=some o->h'.get? c=some o)->(∃ o,h'.get? e=some o/\o.cls=.type "StopIteration")->E (.ref e) { s with heap:=h' }):
  wpAny (model prog w) A (Builtin.«zip.__next__» ⟨[.ref z],[]⟩) Q E s:=by
 show wpAny _ _ (field (.ref z) 2 >>= _) _ _ _;refine ad (ap (x:=.bool false) hz rfl rfl ?_);show wpAny _ _ (field (.ref z) 3 >>= _) _ _ _;refine ad (ap (x:=.ref TI) hz rfl rfl ?_);refine ad (wpAny_seqItems hI rfl ?_);show wpAny _ _ (Builtin.SmallTypes.ownedTupleIsFree (.ref z) >>= _) _ _ _;refine ad ?_;unfold Builtin.SmallTypes.ownedTupleIsFree;refine ad (ap (x:=.none) hz rfl rfl (am ?_));simp only[if_true];refine ad (wpAny_rule ?_);refine ad (ap (x:=.ref TO) hz rfl rfl ?_);refine ad (wpAny_setField_rec hz (by simp) λp1 z1 b1=>?_)
 replace z1:bG p1 z TI TO .ellipsis f1:=z1
 refine ad ?_;simp only[List.zipIdx_cons,List.zipIdx_nil,forIn_cons,forIn_nil];refine ad (ad (wpAny_onRaise ?_));show wpAny _ _ (Builtin.SmallTypes.nextOf (.ref i1) >>= _) _ _ _;cases e1:xs[k1]? with
 |none=>
  refine ad (kK hh (g1.to λo e=>b1.extBut _ o D.i1z e) (t1.to λo e=>b1.extBut _ o D.l1z e) e1 λp2 e b2 he=>?_);obtain⟨oe,ho,hc⟩:=he;have z2:bG p2 z TI TO .ellipsis f1:=b2 _ _ D.i1z.symm z1;have ne:e≠z:=λn=>by subst n;rw[z2]at ho;cases ho;simp at hc
  exact wpAny_setField_rec z2 (by simp) λp3 _ b3=>q p3 e (λc o n1 _ n3 _ v=>b3.extBut _ _ n1 (b2 _ _ n3 (b1.extBut _ _ n1 v))) ⟨oe,b3.extBut _ _ ne ho,hc⟩
 |some x=>
  have e2:ys[k2]? =none:=by rcases hx with h|h;(rw[e1]at h;cases h);exact h
  refine ad (dZ (g1.to λo e=>b1.extBut _ o D.i1z e) (t1.to λo e=>b1.extBut _ o D.l1z e) e1 λp2 g1b b2=>am ?_);have hO2:IsPair p2 TO a b:=b2.extBut _ _ D.TOi1 (b1.extBut _ _ D.TOz hO);refine ad (wpAny_seqItems hO2 rfl ?_);refine ad (wpAny_updateSeq_pair hO2 λp3 hO3 b3=>?_);refine ad (wpAny_letGo (am ?_));refine ad (ad (wpAny_onRaise ?_));show wpAny _ _ (Builtin.SmallTypes.nextOf (.ref i2) >>= _) _ _ _;refine ad (kK hh (g2.to λo e=>b3.extBut _ o D.TOi2.symm (b2.extBut _ o D.i12.symm (b1.extBut _ o D.i2z e))) (t2.to λo e=>b3.extBut _ o D.l2TO (b2.extBut _ o D.l2i1 (b1.extBut _ o D.l2z e))) e2 λp4 e b4 he=>?_);obtain⟨oe,ho,hc⟩:=he;have z4:bG p4 z TI TO .ellipsis f1:=b4 _ _ D.i2z.symm (b3.extBut _ _ D.TOz.symm (b2.extBut _ _ D.i1z.symm z1));have ne:e≠z:=λn=>by subst n;rw[z4]at ho;cases ho;simp at hc
  exact wpAny_setField_rec z4 (by simp) λp5 _ b5=>q p5 e (λc o n1 n2 n3 n4 v=>b5.extBut _ _ n1 (b4 _ _ n4 (b3.extBut _ _ n2 (b2.extBut _ _ n3 (b1.extBut _ _ n1 v))))) ⟨oe,b5.extBut _ _ ne ho,hc⟩
def mh {Q:Option Obj->Shared->Prop}(h:Q (s.heap.get? c) s):wpAny (model prog w) A (loadIfAlive c) Q E s:=λ_ _ _=>h
def nu {Q:Bool->Shared->Prop}(hz:bG s.heap z TI TO (.int T t) (.bool fb))(hT:s.heap.get? T.toNat=some oT)(q:∀ h',bG h' z TI TO (.int T t) (.bool true)->Heap.SameBut z s.heap h'->Q false { s with heap:=h' }):
  wpAny (model prog w) A (Builtin.SmallTypes.ownedTupleIsFree (.ref z)) Q E s:=by
 unfold Builtin.SmallTypes.ownedTupleIsFree;refine ad (ap (x:=.int T t) hz rfl rfl ?_);refine ad (mh ?_);rw[hT];refine ad (ap (x:=.bool fb) hz rfl rfl ?_);cases fb
 .refine ad (wpAny_setField_rec hz (by simp) λp1 z1 b1=>am ?_);exact q p1 z1 b1
 .exact ad (am (am (q s.heap hz (Heap.SameBut.refl ..))))
def xA (D:ZipApart z TI TO i1 i2 l1 l2)(hz:bG s.heap z TI TO (.int T t) (.bool fb))(hT:s.heap.get? T.toNat=some oT)(hI:IsPair s.heap TI (.ref i1) (.ref i2))
  (g1:aX tp1 s.heap i1 l1 k1) (g2:aX tp2 s.heap i2 l2 k2) (t1:bC tp1 s.heap l1 xs) (t2:bC tp2 s.heap l2 ys) (hx:xs[k1]? =some x) (hy:ys[k2]? =some y)
  (q:∀ h',bG h' z TI TO (.int T t) (.bool true)->aX tp1 h' i1 l1 (k1+1)->aX tp2 h' i2 l2 (k2+1)->IsPair h' s.heap.objs.size x y->h'.objs.size=s.heap.objs.size+1->
   (∀ c o,c≠z->c≠i1->c≠i2->s.heap.get? c=some o->h'.get? c=some o)->Q (some (.ref s.heap.objs.size)) { s with heap:=h' }):wpAny (model prog w) A (pyNext (.ref z)) Q E s:=by
 have hZ:s.TypeIs (.ref z) "zip":=⟨_,hz,rfl⟩;unfold pyNext;refine ad (wpAny_attempt (wpAny_callSpecial?_slot (name:=Str.ofString "__next__") hZ F.slot_zip_next (wpAny_call_entry F.slot_zip_next hZ F.entry_zip_next ?_ (F.args_zip_next_1 _))));show wpAny _ _ (field (.ref z) 2 >>= _) _ _ _;refine ad (ap (x:=.bool false) hz rfl rfl ?_);show wpAny _ _ (field (.ref z) 3 >>= _) _ _ _;refine ad (ap (x:=.ref TI) hz rfl rfl ?_);refine ad (wpAny_seqItems hI rfl ?_);show wpAny _ _ (Builtin.SmallTypes.ownedTupleIsFree (.ref z) >>= _) _ _ _;refine ad (nu hz hT λp1 z1 b1=>?_);simp only[Bool.false_eq_true,if_false];simp only[List.forIn_toArray,forIn_cons,forIn_nil];refine ad (ad (ad (bd ?_)));show wpAny _ _ (Builtin.SmallTypes.nextOf (.ref i1) >>= _) _ _ _;refine ad (dZ (g1.to λo e=>b1.extBut _ o D.i1z e) (t1.to λo e=>b1.extBut _ o D.l1z e) hx λp2 g1b b2=>am (am ?_));dsimp only;refine ad (ad (bd ?_));show wpAny _ _ (Builtin.SmallTypes.nextOf (.ref i2) >>= _) _ _ _;refine ad (dZ (g2.to λo e=>b2.extBut _ o D.i12.symm (b1.extBut _ o D.i2z e)) (t2.to λo e=>b2.extBut _ o D.l2i1 (b1.extBut _ o D.l2z e)) hy λp3 g2b b3=>am (am (am ?_)));dsimp only;refine ad (wpAny_newTuple ?_ (hsz:=fits (nb rfl)));have hsz:p3.objs.size=s.heap.objs.size:=by rw[b3.1,b2.1,b1.1]
 refine am ⟨_,rfl,?_⟩;have z3:bG p3 z TI TO (.int T t) (.bool true):=b3.extBut _ _ D.i2z.symm (b2.extBut _ _ D.i1z.symm z1);rw[hsz];refine am (q _ (sK _ z3) (g1b.to λo e=>sK _ (b3.extBut _ o D.i12 e)) (g2b.to λo e=>sK _ e) (by rw[<-hsz];exact ul _ rfl) (by rw[Heap.size_push,hsz]) λc o n1 n2 n3 e=>?_);exact sK _ (b3.extBut _ _ n3 (b2.extBut _ _ n2 (b1.extBut _ _ n1 e)))
def tJ {Q:Fin->Shared->Prop}(hh:A.handled=none)(D:ZipApart z TI TO i1 i2 l1 l2)(hz:bG s.heap z TI TO (.int T t) (.bool fb))(hT:s.heap.get? T.toNat=some oT)(hI:IsPair s.heap TI (.ref i1) (.ref i2))
  (g1:aX tp1 s.heap i1 l1 k1) (g2:aX tp2 s.heap i2 l2 k2) (t1:bC tp1 s.heap l1 xs) (t2:bC tp2 s.heap l2 ys) (hx:xs[k1]? =none\/ys[k2]? =none)
  (q:∀ h' e,(∀ c o,c≠z->c≠i1->c≠i2->s.heap.get? c=some o->h'.get? c=some o)->(∃ o,h'.get? e=some o/\o.cls=.type "StopIteration")->E (.ref e) { s with heap:=h' }):
  wpAny (model prog w) A (Builtin.«zip.__next__» ⟨[.ref z],[]⟩) Q E s:=by
 show wpAny _ _ (field (.ref z) 2 >>= _) _ _ _;refine ad (ap (x:=.bool false) hz rfl rfl ?_);show wpAny _ _ (field (.ref z) 3 >>= _) _ _ _;refine ad (ap (x:=.ref TI) hz rfl rfl ?_);refine ad (wpAny_seqItems hI rfl ?_);show wpAny _ _ (Builtin.SmallTypes.ownedTupleIsFree (.ref z) >>= _) _ _ _;refine ad (nu hz hT λp1 z1 b1=>?_);simp only[Bool.false_eq_true,if_false];simp only[List.forIn_toArray,forIn_cons,forIn_nil];refine ad (ad (ad (bd ?_)));show wpAny _ _ (Builtin.SmallTypes.nextOf (.ref i1) >>= _) _ _ _;cases e1:xs[k1]? with
 |none=>exact ad (kK hh (g1.to λo e=>b1.extBut _ o D.i1z e) (t1.to λo e=>b1.extBut _ o D.l1z e) e1 λp2 e b2 he=>q p2 e (λc o n1 n2 n3 v=>b2 _ _ n2 (b1.extBut _ _ n1 v)) he)
 |some x=>
  have e2:ys[k2]? =none:=by rcases hx with h|h;(rw[e1]at h;cases h);exact h
  refine ad (dZ (g1.to λo e=>b1.extBut _ o D.i1z e) (t1.to λo e=>b1.extBut _ o D.l1z e) e1 λp2 g1b b2=>am (am ?_));dsimp only;refine ad (ad (bd ?_));show wpAny _ _ (Builtin.SmallTypes.nextOf (.ref i2) >>= _) _ _ _;exact ad (kK hh (g2.to λo e=>b2.extBut _ o D.i12.symm (b1.extBut _ o D.i2z e)) (t2.to λo e=>b2.extBut _ o D.l2i1 (b1.extBut _ o D.l2z e)) e2 λp4 e b4 he=>q p4 e (λc o n1 n2 n3 v=>b4 _ _ n3 (b2.extBut _ _ n2 (b1.extBut _ _ n1 v))) he)
def v5 (hh:A.handled=none)(D:ZipApart z TI TO i1 i2 l1 l2)(hz:bG s.heap z TI TO .none f1)(hI:IsPair s.heap TI (.ref i1) (.ref i2))(hO:IsPair s.heap TO a b)
  (g1:aX tp1 s.heap i1 l1 k1) (g2:aX tp2 s.heap i2 l2 k2) (t1:bC tp1 s.heap l1 xs) (t2:bC tp2 s.heap l2 ys) (hx:xs[k1]? =none\/ys[k2]? =none)
  (q:∀ h',(∀ c o,c≠z->c≠TO->c≠i1->c≠i2->s.heap.get? c=some o->h'.get? c=some o)->Q none { s with heap:=h' }):wpAny (model prog w) A (pyNext (.ref z)) Q E s:=by
 have hT:s.TypeIs (.ref z) "zip":=⟨_,hz,rfl⟩;unfold pyNext;refine ad (wpAny_attempt (wpAny_callSpecial?_slot (name:=Str.ofString "__next__") hT F.slot_zip_next (wpAny_call_entry F.slot_zip_next hT F.entry_zip_next (AY hh D hz hI hO g1 g2 t1 t2 hx λh' e k ⟨o,ho,hc⟩=>?_) (F.args_zip_next_1 _))));exact ad (wpAny_isInstance (T:="StopIteration") (b:=true) ⟨o,ho,hc⟩ isSubtype_stop (am (q _ k)))
def wk (hh:A.handled=none)(D:ZipApart z TI TO i1 i2 l1 l2)(hz:bG s.heap z TI TO (.int T t) (.bool fb))(hT:s.heap.get? T.toNat=some oT)(hI:IsPair s.heap TI (.ref i1) (.ref i2))
  (g1:aX tp1 s.heap i1 l1 k1) (g2:aX tp2 s.heap i2 l2 k2) (t1:bC tp1 s.heap l1 xs) (t2:bC tp2 s.heap l2 ys) (hx:xs[k1]? =none\/ys[k2]? =none)
  (q:∀ h',(∀ c o,c≠z->c≠i1->c≠i2->s.heap.get? c=some o->h'.get? c=some o)->Q none { s with heap:=h' }):wpAny (model prog w) A (pyNext (.ref z)) Q E s:=by
 have hT':s.TypeIs (.ref z) "zip":=⟨_,hz,rfl⟩;unfold pyNext;refine ad (wpAny_attempt (wpAny_callSpecial?_slot (name:=Str.ofString "__next__") hT' F.slot_zip_next (wpAny_call_entry F.slot_zip_next hT' F.entry_zip_next (tJ hh D hz hT hI g1 g2 t1 t2 hx λh' e k ⟨o,ho,hc⟩=>?_) (F.args_zip_next_1 _))));exact ad (wpAny_isInstance (T:="StopIteration") (b:=true) ⟨o,ho,hc⟩ isSubtype_stop (am (q _ k)))
abbrev uK (tp:Bool)(c:Addr):Obj:=match tp with
 |true=>{ cls:=.type "tuple_iterator",data:=.fields #[.ref c,.int 0 0] }
 |false=>{ cls:=.type "list_iterator",data:=.fields #[.ref c,.int 0 0] }
def lR {vs:Array Value}{Q:HM}(t:bC tp s.heap c vs)(q:Q (.ref s.heap.objs.size) { s with heap:=s.heap.push (uK tp c) }):wpAny (model prog w) A (pyIter (.ref c)) Q E s:=by
 cases tp
 .exact wpAny_pyIter_list t q
 .exact wpAny_pyIter_tuple t q
@[reducible]def C6 (a:Array Value):Obj:={ cls:=.type "tuple",data:=.seq a }
@[reducible]def A8 (m n:Addr):Obj:={ cls:=.type "zip",data:=.fields #[.none,.bool false,.bool false,.ref m,.ref n] }
def DW {l:Addr}:(uK tp l).isFreed=false:=by cases tp<;>rfl
def EN {n:Nat}(o:Obj)(hn:h.objs.size=n)(ho:o.isFreed=false:=by first|rfl|exact DW):∃ h',h.push o=h'/\h'.get? n=some o/\h'.objs.size=n+1/\∀ c o',h.get? c=some o'->h'.get? c=some o':=
 ⟨_,rfl,hn▸ul _ ho,by rw[Heap.size_push,hn],λ_ _ e=>sK _ e⟩
def Gr {i l:Addr}(e:h.get? i=some (uK tp l)):aX tp h i l 0:=by
 cases tp
 .exact⟨_,e,rfl,rfl⟩
 .exact⟨_,e,rfl,rfl⟩
noncomputable abbrev Ar (h:Heap)(tp1 tp2:Bool)(l1 l2:Addr):Heap:=((((h.push (uK tp1 l1)).push (uK tp2 l2)).push (C6 #[.ref h.objs.size,.ref (h.objs.size+1)])).push (C6 #[.none,.none])).push (A8 (h.objs.size+2) (h.objs.size+3))
def yb (tp1 tp2:Bool)(l1 l2:Addr)(xs ys:Array Value):Meets (Builtin.«zip.__new__» ⟨[.type "zip",.ref l1,.ref l2],[]⟩)
  (λ_ R s=>bC tp1 s.heap l1 xs/\bC tp2 s.heap l2 ys/\R (.ok (.ret (.ref (s.heap.objs.size+4)))) { s with heap:=Ar s.heap tp1 tp2 l1 l2 }):=.of_wp λprog w A R s h=>by
 obtain⟨hp,g,d,tk,os⟩:=s;obtain⟨t1,t2,q⟩:=h;have hsub:=sub_zip;have t2':bC tp2 (hp.push (uK tp1 l1)) l2 ys:=t2.to λo e=>sK _ e
 wp_walk using lR (s:=⟨hp,g,d,tk,os⟩) t1,lR (s:=⟨hp.push (uK tp1 l1),g,d,tk,os⟩) t2'
 refine⟨_,rfl,?_⟩;simp only[Heap.size_push,Nat.add_assoc]at q⊢;exact q
def mP {Q:HM}(t1:bC tp1 s.heap l1 xs)(t2:bC tp2 s.heap l2 ys)
  (q:∀ h',bG h' (s.heap.objs.size+4) (s.heap.objs.size+2) (s.heap.objs.size+3) .none (.bool false)->IsPair h' (s.heap.objs.size+2) (.ref s.heap.objs.size) (.ref (s.heap.objs.size+1))->
   IsPair h' (s.heap.objs.size+3) .none .none->aX tp1 h' s.heap.objs.size l1 0->aX tp2 h' (s.heap.objs.size+1) l2 0->h'.objs.size=s.heap.objs.size+5->
   (∀ c o,s.heap.get? c=some o->h'.get? c=some o)->Q (.ref (s.heap.objs.size+4)) { s with heap:=h' }):
  wpAny (model prog w) A (call (.type "zip") [.ref l1,.ref l2]) Q E s:=by
 refine callType_new F.called_zip (by decide) (F.typeCall_zip_2 _ _) (F.newCall_zip_2 _ _) (λobj=>F.args_object_init_3 obj _ _) F.entry_zip_new (yb tp1 tp2 l1 l2 xs ys) ⟨t1,t2,?_⟩;generalize hn:s.heap.objs.size=n at q⊢;have hz:Ar s.heap tp1 tp2 l1 l2=((((s.heap.push (uK tp1 l1)).push (uK tp2 l2)).push (C6 #[.ref n,.ref (n+1)])).push (C6 #[.none,.none])).push (A8 (n+2) (n+3)):=by rw[<-hn]
 obtain⟨_,a1,e0,z0,k0⟩:=EN (uK tp1 l1) hn;obtain⟨_,a2,e1,z1,k1⟩:=EN (uK tp2 l2) z0;obtain⟨_,a3,e2,z2,k2⟩:=EN (C6 #[.ref n,.ref (n+1)]) z1;obtain⟨_,a4,e3,z3,k3⟩:=EN (C6 #[.none,.none]) z2;obtain⟨_,a5,e4,z4,k4⟩:=EN (A8 (n+2) (n+3)) z3;rw[hz,a1,a2,a3,a4,a5];exact⟨⟨_,e4,rfl⟩,q _ e4 (k4 _ _ (k3 _ _ e2)) (k4 _ _ e3) ((Gr e0).to λo e=>k4 _ _ (k3 _ _ (k2 _ _ (k1 _ _ e)))) ((Gr e1).to λo e=>k4 _ _ (k3 _ _ (k2 _ _ e))) z4 λc o e=>k4 _ _ (k3 _ _ (k2 _ _ (k1 _ _ (k0 _ _ e))))⟩
def uD {n:Addr}(a1:l1<n)(a2:l2<n):ZipApart (n+4) (n+2) (n+3) n (n+1) l1 l2:=by
 constructor<;>(intro e;have e':=(show @Eq Nat _ _ from e);have b1:=(show @LT.lt Nat _ l1 n from a1);have b2:=(show @LT.lt Nat _ l2 n from a2);omega)
def sN {m:Nat}{T:Addr}{Q:HL}(hz:bG s.heap z TI TO (rawInt T) f1)(q:∀ h',bG h' z TI TO .none f1->Heap.SameBut z s.heap h'->Q () { s with heap:=h' }):
  wpAny (model prog w) A (letOwnedTupleGo (.Tuple elts m pos) (.ref z) (.ref T)) Q E s:=by
 unfold letOwnedTupleGo;refine ad (wpAny_load hz ?_);show wpAny _ _ (if(["enumerate","zip","dict_itemiterator","dict_reverseitemiterator","odict_iterator","itertools.zip_longest","itertools.pairwise"].contains "zip"&&(#[rawInt T,f1,.bool false,.ref TI,.ref TO]:Array Value)[0]? ==some (rawInt T))=true then _ else _) Q E s;rw[if_pos (by simp)];exact ad (wpAny_rule (wpAny_setField_rec hz (by simp) λh' z' b'=>q h' z' b'))
def iP {f0:Value}{Q:HM}(hz:bG s.heap z TI TO f0 f1)(h:Q (.ref z) s):wpAny (model prog w) A (pyIter (.ref z)) Q E s:=by
 have hT:s.TypeIs (.ref z) "zip":=⟨_,hz,rfl⟩;refine wpAny_pyIter_slot hT F.slot_zip_iter (wpAny_call_entry F.slot_zip_iter hT F.entry_zip_iter ?_ (F.args_zip_iter_1 _));show wpAny _ _ (ret (.ref z)) _ _ s;exact am ⟨_,rfl,"zip",_,hT,F.slot_zip_next.lookup,h⟩
end
variable {X:Cx}{Y:HN}{U:St}{H:Hp}{s:Shared}
def Inv.zu {h':Heap}{t':Nat}{ch:List Addr}(I:Inv X Y U H s)(k:∀ b u,b ∉ ch->s.heap.get? b=some u->h'.get? b=some u) (hf:∀ b ∈ ch,fu X Y H b):Inv X Y U H { s with heap:=h',toks:=t' }:=by
 have nch:∀ b u,H b=some u->b ∉ ch:=λb u e z=>by rw[(hf b z).1]at e;cases e
 refine I.step (g':=s.gens) (d':=s.drawn) (ch:=ch) (λb hb=>?_) (λb o _ _ hc e _=>k b o hc e) (λb o _ _ hc e _=>⟨o.slots,k b o hc e⟩) (λ_ _ _ _ n=>n)
  (λb o hc e=>⟨o,k b o hc e⟩) (λ_ _ e=>e) (λ_ _ _ e=>e) (λb ps e=>⟨#[],by rw[e];simp⟩) (λm hm=>?_) (λb u e=>?_) I.bare
 .obtain⟨_,f1,_,f3,f4,f5⟩:=hf b hb;exact⟨f3,f1,f4,f5⟩
 .obtain⟨o,es,ep,ho,r⟩:=hm;exact⟨o,es,ep,k _ o (λz=>(hf _ z).2.1 rfl) ho,r⟩
 .refine(I.hok b u e).de (λc v hc q=>k c v ?_ q) (λ_ q=>q) λ_ _ q=>q
  rcases hc with rfl|hc
  .exact nch _ _ e
  .exact nch _ _ hc
abbrev Sq (K:W.Frag)(tp:Bool)(H:Hp)(c:Addr)(xs:List V):Prop:=match tp with
 |true=>aY K H c xs
 |false=>aL K H c xs
def Inv.sq {xs:List V}(I:Inv X Y U H s)(h:Sq X.K tp H c xs):∃ its:List Value,Vals xs its/\bC tp s.heap c its.toArray:=by
 cases tp
 .obtain⟨its,r,p,_⟩:=I.list h;exact⟨its,r,p.isList⟩
 .obtain⟨its,r,p,_⟩:=I.tuple h;exact⟨its,r,p⟩
def Inv.ux {xs ys:List V}(I:Inv X Y U H s)(h:Sq X.K tp H c xs)(h':Sq X.K tp H c ys):xs=ys:=by
 cases tp
 .exact I.di h h'
 .exact I.dU h h'
abbrev Dv (K:W.Frag)(tp1:Bool)(l1:Addr)(tp2:Bool)(l2:Addr):It:=
 ⟨λi H=>∃ xs ys x y,Sq K tp1 H l1 xs/\Sq K tp2 H l2 ys/\xs[i]? =some x/\ys[i]? =some y,
  λi H v H'=>∃ T x y,H T=none/\v=.ref T/\H'=upd H T (.tup [x,y])/\(∀ xs,Sq K tp1 H l1 xs->xs[i]? =some x)/\∀ ys,Sq K tp2 H l2 ys->ys[i]? =some y,
  λi H=>∃ xs ys,Sq K tp1 H l1 xs/\Sq K tp2 H l2 ys/\(xs.length<=i\/ys.length<=i)⟩
def wd {P:Program}{w:World}{K:W.Frag}{tp1 tp2:Bool}{z TI TO i1 i2 l1 l2:Addr}(D:ZipApart z TI TO i1 i2 l1 l2):
  Turn P w K Calm (.Tuple elts k pos) (Dv K tp1 l1 tp2 l2) [z,TI,TO,i1,i2] z (λi h=>(∃ f1,bG h z TI TO .none f1)/\IsPair h TI (.ref i1) (.ref i2)/\(∃ a b,IsPair h TO a b)/\aX tp1 h i1 l1 i/\aX tp2 h i2 l2 i) where
 mem:=by simp
 obj:=λi h st b hb=>by
  obtain⟨⟨f1,hz⟩,hI,⟨a,b',hO⟩,g1,g2⟩:=st;have it:∀ {tp:Bool}{j c:Addr}{k:Nat},aX tp h j c k->∃ o,h.get? j=some o/\∀ v,o.data≠.cell v:=λ{tp j c k} g=>by
   cases tp
   .obtain⟨o,e,_,d⟩:=(show h.IsListIter j c k from g);exact⟨o,e,λv z=>by rw[d]at z;cases z⟩
   .obtain⟨o,e,_,d⟩:=(show h.IsTupleIter j c k from g);exact⟨o,e,λv z=>by rw[d]at z;cases z⟩
  simp only[lf,not_mem_nil,or_false]at hb;rcases hb with rfl|rfl|rfl|rfl|rfl
  .exact⟨_,hz,λv e=>by cases(show Data.fields _=Data.cell v from e)⟩
  .exact⟨_,hI,λv e=>by cases(show Data.seq _ _=Data.cell v from e)⟩
  .exact⟨_,hO,λv e=>by cases(show Data.seq _ _=Data.cell v from e)⟩
  .exact it g1
  .exact it g2
 keep:=λi h h' st k=>by
  obtain⟨⟨f1,hz⟩,hI,⟨a,b',hO⟩,g1,g2⟩:=st;exact⟨⟨f1,k z (by simp) _ hz⟩,k TI (by simp) _ hI,⟨a,b',k TO (by simp) _ hO⟩,g1.to λo e=>k i1 (by simp) o e,g2.to λo e=>k i2 (by simp) o e⟩
 item:=by
  intro X hP hw hK hc i Y s U H E I hf st hg;subst hP hw hK;obtain⟨xs,ys,x,y,hq1,hq2,hx,hy⟩:=hg;obtain⟨⟨f1,hz⟩,hI,⟨a,b,hO⟩,g1,g2⟩:=st;obtain⟨is1,r1,t1⟩:=I.sq hq1;obtain⟨is2,r2,t2⟩:=I.sq hq2;obtain⟨u,hu,ru⟩:=r1.get hx;obtain⟨v,hv,rv⟩:=r2.get hy;have n0:∀ {c o},s.heap.get? c=some o->c≠s.heap.objs.size:=λe=>nw (tz e)
  refine pJ D hz hI hO g1 g2 t1 t2 (x:=u) (y:=v) (by simpa using hu) (by simpa using hv) λh1 z1 o1 j1 j2 hT hs1 k1=>?_
  have I1:Inv X Y U (upd H s.heap.objs.size (.tup [x,y])) { s with heap:=h1,toks:=s.toks }:=
   I.lZ (ch:=[z,TI,TO,i1,i2]) (λb o hb q=>k1 b o (λe=>hb (by simp[e])) (λe=>hb (by simp[e])) (λe=>hb (by simp[e])) (λe=>hb (by simp[e])) q) hf (pc _)
    ⟨fits (nb rfl),[u,v],.cons ru (.cons rv .nil),⟨_,hT,rfl,_,rfl⟩⟩
  refine⟨_,rfl,sN z1 λh2 z2 b2=>?_⟩;obtain⟨f0,f1',f2,f3,f4,f5⟩:=hf z (by simp);have I2:=I1.turned (h':=h2) (t':=s.toks) (it:=z) (λb o hb q=>(b2.2 b hb).trans q) (by rw[af (n0 hz)];exact f0) f1' f3 f4 f5;refine⟨.ref s.heap.objs.size,_,I2,rfl,⟨_,x,y,I.hok.fresh (pc _),rfl,rfl,λzs hz'=>?_,λzs hz'=>?_⟩,⟨⟨_,z2⟩,?_,⟨_,_,b2.extBut _ _ D.TOz o1⟩,j1.to λo e=>b2.extBut _ o D.i1z e,j2.to λo e=>b2.extBut _ o D.i2z e⟩,λb hb=>?_⟩
  .rw[I.ux hz' hq1];exact hx
  .rw[I.ux hz' hq2];exact hy
  .exact b2.extBut _ _ D.TIz (k1 _ _ D.TIz D.TITO D.TIi1 D.TIi2 hI)
  .have hb':b≠s.heap.objs.size:=by
    simp only[lf,not_mem_nil,or_false]at hb;rcases hb with rfl|rfl|rfl|rfl|rfl
    .exact n0 hz
    .exact n0 hI
    .exact n0 hO
    .exact nw g1.lt
    .exact nw g2.lt
   rw[af hb'];exact(hf b hb).1
 done:=by
  intro X hP hw hK hc i Y s U H E I hf st hg;subst hP hw hK;obtain⟨xs,ys,hq1,hq2,hx⟩:=hg;obtain⟨⟨f1,hz⟩,hI,⟨a,b,hO⟩,g1,g2⟩:=st;obtain⟨is1,r1,t1⟩:=I.sq hq1;obtain⟨is2,r2,t2⟩:=I.sq hq2;have e1:=r1.length;have e2:=r2.length;refine v5 (I.ok.hd hc) D hz hI hO g1 g2 t1 t2 (by simp;omega) λh' k'=>⟨rfl,?_⟩
  exact I.zu (t':=s.toks) (ch:=[z,TI,TO,i1,i2]) (λb o hb q=>k' b o (λe=>hb (by simp[e])) (λe=>hb (by simp[e])) (λe=>hb (by simp[e])) (λe=>hb (by simp[e])) q) hf
 self:=λ_ _ _ _ _ st h=>by
  obtain⟨⟨f1,hz⟩,_⟩:=st;exact iP hz h
def vX:bootBuiltins "zip"=some (.type "zip"):=by decide+kernel
abbrev EB (K:W.Frag)(v u:V)(H:Hp)(R:It->Hp->Prop):Prop:=∃ tp1 l1 tp2 l2,v=.ref l1/\u=.ref l2/\(∃ xs,Sq K tp1 H l1 xs)/\(∃ ys,Sq K tp2 H l2 ys)/\R (Dv K tp1 l1 tp2 l2) H
abbrev FI (K:W.Frag)(ta:TA):TI:=λU H R=>ta U H λvs H1=>∃ v u,vs=[v,u]/\EB K v u H1 R
variable {ta:TA}{p:Pos}
def BG {a b:Expr}{pos':Pos}(hg:Gl X "zip") (hm:X.mg "zip"=none) (ha:PA X [a,b] ta) (hs:bm [a,b] X.env=(false,eval a X.env)::bm [b] X.env:=by rfl) (hpl:(backTo pos (bm [b] X.env)).any (·.1)=false:=by rfl):
  PI X (.Tuple elts k pos') (.Call (.Name "zip" p) [a,b] [] pos) (FI X.K ta):=by
 intro Y s U H R I h;refine Call_ (dA I hg hm vX (PyProof.Rows.callWith_type1 (au (ha pos Y s U H _ I h) λus s1 ⟨vs,H1,I1,r1,q1⟩=>?_) hs hpl));obtain⟨v,u,e,tp1,l1,tp2,l2,e1,e2,⟨xs,q1⟩,⟨ys,q2⟩,q⟩:=q1;subst e e1 e2;cases r1 with
 |cons r rr=>
  cases rr with
  |cons r' rr'=>
   cases rr';cases r;cases r';obtain⟨is1,s1',t1⟩:=I1.sq q1;obtain⟨is2,s2',t2⟩:=I1.sq q2;refine mP t1 t2 λh' hz hI hO g1 g2 hsz hk=>?_
   refine iP hz ?_;refine⟨s1.heap.objs.size+4,[s1.heap.objs.size+4,s1.heap.objs.size+2,s1.heap.objs.size+3,s1.heap.objs.size,s1.heap.objs.size+1],_,_,H1,rfl,I1.kept (t':=s1.toks) hk,wd (uD t1.lt t2.lt),⟨⟨_,hz⟩,hI,⟨_,_,hO⟩,g1,g2⟩,λb hb=>?_,q⟩;have hb':s1.heap.objs.size<=b:=by
    simp only[lf,not_mem_nil,or_false]at hb;rcases hb with rfl|rfl|rfl|rfl|rfl<;>first|exact pc _|exact Nat.le_add_right _ _
   exact I1.nK hb' (I1.hok.fresh hb')
def lp:entryFor table "zip.__getattribute__"=some Builtin.«object.__getattribute__»:=entryFor_alias (id':="object.__getattribute__") (by kernel_rfl) (by first|rfl|decide+kernel) (by decide+kernel) (by kernel_rfl)
def nr:typeLookup (.type "zip") "keys"=pure none:=by rw[typeLookup_type,builtinLookup_eq_fast];kernel_rfl
def rF:typeLookup (.type "zip") "__getattr__"=pure none:=by rw[typeLookup_type,builtinLookup_eq_fast];kernel_rfl
def rQ (a:Addr)(vs:Array Value)(u:Tok):Meets (Builtin.«object.__getattribute__» ⟨[.ref a,.str "keys" u],[]⟩) (λA R s=>s.heap.get? a=some { cls:=.type "zip",dict:=none,data:=.fields vs,slots:=#[] }/\raisesAttr (.ref a) "keys" A R s):=
 Meets.of_wp λprog w A R s ⟨hx,hs⟩=>by
  obtain⟨hp,g,d,tk,os⟩:=s;have hT:(⟨hp,g,d,tk,os⟩:Shared).TypeIs (.ref a) "zip":=⟨_,hx,rfl⟩;have f4:=nr;unfold Builtin.«object.__getattribute__»
  repeat(any_goals first|assumption|wp_step)
  exact wpAny_raiseAttrError hs.1 hs.2 (attrMsg_fits (by decide+kernel) (by rw[sizeLine_eq];decide+kernel))
section
variable {prog:Program}{w:World}{A:Around}{E:HM}{s:Shared}{a:Addr}{vs:Array Value}
def vd (hA:A.handled=none)(hx:s.heap.get? a=some { cls:=.type "zip",dict:=none,data:=.fields vs,slots:=#[] })
  (q:∀ h' t',(∀ c u,s.heap.get? c=some u->h'.get? c=some u)->Q none { s with heap:=h',toks:=t' }):wpAny (model prog w) A (getAttr? (.ref a) "keys") Q E s:=by
 obtain⟨hp,g,d,tk,os⟩:=s;have hT:∀ t',(⟨hp,g,d,t',os⟩:Shared).TypeIs (.ref a) "zip":=λ_=>⟨_,hx,rfl⟩
 have f1:=sub_AttributeError;have f3:=PySem.F.slot_zip_getattribute.lookup;have f4:=PySem.F.slot_zip_getattribute.bind (.ref a);have f5:=rF;unfold getAttr? getAttrBy? getAttrBy
 repeat(any_goals first|assumption|((with_reducible show wpAny _ _ (call (Value.builtin "zip.__getattribute__") _ _) _ _ _);refine call_meets PySem.F.slot_zip_getattribute (hT _) lp (PySem.F.args_zip_getattribute_2 _ _) (rQ a vs _) ⟨hx,hA,λh' tk' e he=>?_⟩)|wp_step)
 obtain⟨t1,u1,e1⟩:=he.there;show wpAny _ _ (getattributeRaised _ _ _ _ _ _ _) _ _ _;unfold getattributeRaised
 repeat(any_goals first|assumption|wp_step)
 exact q _ _ he.keeps
end
structure Zs (h:Heap) (tp1 tp2:Bool) (z TI TO i1 i2 l1 l2:Addr) (i:Nat) (xs ys:Array Value):Prop where
 zo:(∃ f1,bG h z TI TO .none f1)\/∃ (T:Int) (fb:Bool) (o:Obj),bG h z TI TO (rawInt T) (.bool fb)/\h.get? T.toNat=some o/\T.toNat≠z/\T.toNat≠TO/\T.toNat≠i1/\T.toNat≠i2
 hI:IsPair h TI (.ref i1) (.ref i2)
 hO:∃ a b,IsPair h TO a b
 g1:aX tp1 h i1 l1 i
 g2:aX tp2 h i2 l2 i
 t1:bC tp1 h l1 xs
 t2:bC tp2 h l2 ys
variable {d:Addr}
section
variable {prog:Program}{w:World}{A:Around}{E:HM}{s:Shared}{tp1 tp2:Bool}{z TI TO i1 i2 l1 l2:Addr}{i:Nat}{xs ys:Array Value}{x y:Value}
def Zs.next (D:ZipApart z TI TO i1 i2 l1 l2)(Z:Zs s.heap tp1 tp2 z TI TO i1 i2 l1 l2 i xs ys)(hx:xs[i]? =some x)(hy:ys[i]? =some y)
  (q:∀ h',Zs h' tp1 tp2 z TI TO i1 i2 l1 l2 (i+1) xs ys->IsPair h' s.heap.objs.size x y->h'.objs.size=s.heap.objs.size+1->(∀ c o,c≠z->c≠TO->c≠i1->c≠i2->s.heap.get? c=some o->h'.get? c=some o)->Q (some (.ref s.heap.objs.size)) { s with heap:=h' }):
  wpAny (model prog w) A (pyNext (.ref z)) Q E s:=by
 obtain⟨zo,hI,⟨a,b,hO⟩,g1,g2,t1,t2⟩:=Z;have n0:∀ {c o},s.heap.get? c=some o->s.heap.objs.size≠c:=λe=>Nat.ne_of_gt (tz e)
 rcases zo with⟨f1,hz⟩|⟨T,fb,o,hz,hT,n1,n2,n3,n4⟩
 .refine pJ D hz hI hO g1 g2 t1 t2 hx hy λh' z1 o1 j1 j2 p1 sz k=>?_
  refine q h' ⟨.inr ⟨s.heap.objs.size,false,_,z1,p1,n0 hz,n0 hO,Nat.ne_of_gt g1.lt,Nat.ne_of_gt g2.lt⟩,k _ _ D.TIz D.TITO D.TIi1 D.TIi2 hI,⟨_,_,o1⟩,j1,j2,t1.to λo e=>k _ o D.l1z D.l1TO D.l1i1 D.l1i2 e,t2.to λo e=>k _ o D.l2z D.l2TO D.l2i1 D.l2i2 e⟩ p1 sz k
 .refine xA D hz hT hI g1 g2 t1 t2 hx hy λh' z1 j1 j2 p1 sz k=>?_
  exact q h' ⟨.inr ⟨T,true,o,z1,k _ _ n1 n3 n4 hT,n1,n2,n3,n4⟩,k _ _ D.TIz D.TIi1 D.TIi2 hI,⟨a,b,k _ _ D.TOz D.TOi1 D.TOi2 hO⟩,j1,j2,t1.to λo e=>k _ o D.l1z D.l1i1 D.l1i2 e,t2.to λo e=>k _ o D.l2z D.l2i1 D.l2i2 e⟩ p1 sz λc o m1 _ m3 m4 e=>k c o m1 m3 m4 e
def Zs.stop (hh:A.handled=none)(D:ZipApart z TI TO i1 i2 l1 l2)(Z:Zs s.heap tp1 tp2 z TI TO i1 i2 l1 l2 i xs ys)(hx:xs[i]? =none\/ys[i]? =none)
  (q:∀ h',(∀ c o,c≠z->c≠TO->c≠i1->c≠i2->s.heap.get? c=some o->h'.get? c=some o)->Q none { s with heap:=h' }):wpAny (model prog w) A (pyNext (.ref z)) Q E s:=by
 obtain⟨zo,hI,⟨a,b,hO⟩,g1,g2,t1,t2⟩:=Z;rcases zo with⟨f1,hz⟩|⟨T,fb,o,hz,hT,_⟩
 .exact v5 hh D hz hI hO g1 g2 t1 t2 hx q
 .exact wk hh D hz hT hI g1 g2 t1 t2 hx λh' k=>q h' λc o m1 _ m3 m4 e=>k c o m1 m3 m4 e
def Zs.keep {h':Heap}(Z:Zs h tp1 tp2 z TI TO i1 i2 l1 l2 i xs ys)(k:∀ c o,h.get? c=some o->c≠d->h'.get? c=some o) (n:d≠z/\d≠TI/\d≠TO/\d≠i1/\d≠i2/\d≠l1/\d≠l2) (hd:∃ o,h'.get? d=some o):Zs h' tp1 tp2 z TI TO i1 i2 l1 l2 i xs ys:=by
 obtain⟨zo,hI,⟨a,b,hO⟩,g1,g2,t1,t2⟩:=Z;obtain⟨m1,m2,m3,m4,m5,m6,m7⟩:=n;refine⟨?_,k _ _ hI m2.symm,⟨a,b,k _ _ hO m3.symm⟩,g1.to λo e=>k _ o e m4.symm,g2.to λo e=>k _ o e m5.symm,t1.to λo e=>k _ o e m6.symm,t2.to λo e=>k _ o e m7.symm⟩;rcases zo with⟨f1,hz⟩|⟨T,fb,o,hz,hT,r⟩
 .exact .inl ⟨f1,k _ _ hz m1.symm⟩
 .by_cases e:T.toNat=d
  .obtain⟨o',ho⟩:=hd;exact .inr ⟨T,fb,o',k _ _ hz m1.symm,by rw[e];exact ho,r⟩
  .exact .inr ⟨T,fb,o,k _ _ hz m1.symm,k _ _ hT e,r⟩
end
def dW:plainId "dict.update.loop"=true:=by decide+kernel
def jM:entryFor table "dict.update.loop"=some Builtin.«dict.update.loop»:=entryFor_of_tree (by kernel_rfl)
variable {E:HM}
section
variable {prog:Program}{w:World}{A:Around}{tp1 tp2:Bool}{z TI TO i1 i2 l1 l2 d:Addr}{xs ys:Array Value}{Ky:Type} [DecidableEq Ky] {knd:KeyKind prog w Ky}
def wJ (hh:A.handled=none)(D:ZipApart z TI TO i1 i2 l1 l2)(nd:d≠z/\d≠TI/\d≠TO/\d≠i1/\d≠i2/\d≠l1/\d≠l2)(ks:List Ky)(hk:∀ (j:Nat) x,xs[j]? =some x->∃ k,ks[j]? =some k/\knd.is k x=true) (hz:xs.size=ys.size):
  ∀ (m i:Nat),xs.size-i=m->i<=xs.size->∀ (s:Shared) (kvs:List (Ky×Value)) (R:Result->Shared->Prop),Zs s.heap tp1 tp2 z TI TO i1 i2 l1 l2 i xs ys->s.heap.DictOf knd d kvs->kvs.length+m<=bn->
  (∀ h' t',h'.DictOf knd d (merged kvs ((ks.zip ys.toList).drop i))->(∀ c o,c≠z->c≠TO->c≠i1->c≠i2->c≠d->s.heap.get? c=some o->h'.get? c=some o)->R (.ok (.ret .none)) { s with heap:=h',toks:=t' })->
  wpAny (model prog w) A.in1 (Builtin.«dict.update.loop» ⟨[.ref d,.ref z,rawInt i,.none],[]⟩) (λfin s'=>match fin with| .done f=>R (.ok f) s'| .again c'=>c'.quiet=true/\codeAny (model prog w) A c' R s') (λe s'=>R (.error e) s') s:=by
 intro m
 induction m with
 |zero=>
  intro i hm hi s kvs R Z dd hl q;show wpAny _ _ (pyNext (.ref z) >>= _) _ _ _;refine ad (Z.stop (show A.in1.handled=none from hh) D (.inl (by simp;omega)) λh' k=>?_);show wpAny _ _ (Builtin.Dict.addKeywords d [] >>= _) _ _ _;refine ad (am (am ?_));have e:(ks.zip ys.toList).drop i=[]:=by
   rw[List.drop_eq_nil_iff,List.length_zip];simp
   omega
  rw[e]at q;refine q h' s.toks ?_ λc o n1 n2 n3 n4 _ e=>k c o n1 n2 n3 n4 e
  obtain⟨o,es,ep,ho,r⟩:=dd;exact⟨o,es,ep,k _ _ nd.1 nd.2.2.1 nd.2.2.2.1 nd.2.2.2.2.1 ho,r⟩
 |succ m ih=>
  intro i hm hi s kvs R Z dd hl q;have h1:i<xs.size:=by omega
  have h2:i<ys.size:=by omega
  have e1:xs[i]? =some xs[i]:=Array.getElem?_eq_getElem h1;have e2:ys[i]? =some ys[i]:=Array.getElem?_eq_getElem h2;obtain⟨k,hk1,hk2⟩:=hk i _ e1;show wpAny _ _ (pyNext (.ref z) >>= _) _ _ _;refine ad (Z.next D e1 e2 λh' Z' p sz fr=>?_);show wpAny _ _ (holding [_] _ >>= _) _ _ _;refine ad (bd ?_);refine ad ?_;have hT:({ s with heap:=h' }:Shared).TypeIs (.ref s.heap.objs.size) "tuple":=⟨_,p,rfl⟩;refine wpAny_tryCatch ?_;unfold Builtin.Dict.pairItems;refine ad (wpAny_typeOf hT ?_);rw[if_pos (by decide)];refine ad (wpAny_seqItems p rfl (am ?_));show wpAny _ _ (holding [_,_] (dictSet d xs[i] ys[i])) _ _ _;refine bd ?_;have dd':h'.DictOf knd d kvs:=by
   obtain⟨o,es,ep,ho,r⟩:=dd;exact⟨o,es,ep,fr _ _ nd.1 nd.2.2.1 nd.2.2.2.1 nd.2.2.2.2.1 ho,r⟩
  refine wpAny_dictSet_pairs (s:={ s with heap:=h' }) (hsz:=by omega) hk2 dd' λh2' d2 b2=>?_
  show wpAny _ _ (pure (Fin.again (.builtin "dict.update.loop" ⟨[.ref d,.ref z,rawInt ((i:Int)+1),.none],[]⟩))) _ _ _;refine am ⟨plainId_quiet dW _,codeAny_builtin jM ?_⟩;rw[Around.under_plainId dW _,show((i:Int)+1)=((i+1:Nat):Int) by push_cast;rfl];have hd:∃ o,h2'.get? d=some o:=let⟨o,_,_,ho,_⟩:=d2;⟨o,ho⟩;refine ih (i+1) nofun nofun { s with heap:=h2',toks:=s.toks+1 } (stored kvs k ys[i]) R (Z'.keep (λc o e n=>b2.extBut _ _ n e) nd hd) d2 ?_ λh3 t3 d3 f3=>?_
  .have:(stored kvs k ys[i]).length<=kvs.length+1:=by
    unfold stored
    split
    .rw[ce];omega
    .rw[ci];simp
   omega
  .have ed:(ks.zip ys.toList).drop i=(k,ys[i])::(ks.zip ys.toList).drop (i+1):=by
    have:(ks.zip ys.toList)[i]? =some (k,ys[i]):=by
     rw[List.getElem?_zip_eq_some];exact⟨hk1,by simpa using h2⟩
    obtain⟨hlt,he⟩:=sw.mp this;rw[List.drop_eq_getElem_cons hlt,he]
   refine q h3 t3 ?_ λc o n1 n2 n3 n4 n5 e=>f3 c o n1 n2 n3 n4 n5 (b2.extBut _ _ n5 (fr c o n1 n2 n3 n4 e))
   rw[ed];exact d3
def kq {Q:HM}(hh:A.handled=none)(D:ZipApart z TI TO i1 i2 l1 l2)(ks:List Ky)(hk:∀ (j:Nat) x,xs[j]? =some x->∃ k,ks[j]? =some k/\knd.is k x=true) (hz:xs.size=ys.size) (hn:ks.Nodup) (hkl:ks.length=xs.size) (hsz:xs.size<=bn)
  (Z:Zs s.heap tp1 tp2 z TI TO i1 i2 l1 l2 0 xs ys) (hzo:∃ f1,bG s.heap z TI TO .none f1)
  (q:∀ h' t',h'.DictOf knd s.heap.objs.size (ks.zip ys.toList)->(∀ c o,c≠z->c≠TO->c≠i1->c≠i2->s.heap.get? c=some o->h'.get? c=some o)->Q (.ref s.heap.objs.size) { s with heap:=h',toks:=t' }):
  wpAny (model prog w) A (call (.type "dict") [.ref z]) Q E s:=by
 refine callType_codes (Q₁:=λobj s1=>obj=.ref s.heap.objs.size/\s1={ s with heap:=s.heap.push { cls:=.type "dict",data:=.dict #[] } }) PySem.F.kt_called_dict (PySem.F.kt_typeCall_dict_1 _) PySem.F.entry_dict_init (kt_code_dict_new _ ⟨rfl,rfl⟩) ?_;rintro obj s1 ⟨rfl,rfl⟩;have dn:(s.heap.push { cls:=.type "dict",data:=.dict #[] }).DictOf knd s.heap.objs.size []:=Heap.DictOf.new s.heap;refine⟨dn.typeIs,PySem.F.args_dict_init_2 _ _,?_⟩;unfold Builtin.«dict.__init__»;refine ad ?_;unfold Builtin.Dict.selfAndRest;refine ad (wpAny_notOrdered_dict dn.typeIs ?_);show wpAny _ _ (pure (s.heap.objs.size,[Value.ref z])) _ _ _;refine am ?_;show wpAny _ _ (Builtin.Dict.updateFrom "dict.__init__" s.heap.objs.size (.ref z) [] .none) _ _ _;unfold Builtin.Dict.updateFrom;obtain⟨f1,hz0⟩:=hzo;have hz1:(s.heap.push { cls:=.type "dict",data:=.dict #[] }).get? z=some _:=sK _ hz0;have hT:({ s with heap:=s.heap.push { cls:=.type "dict",data:=.dict #[] } }:Shared).TypeIs (.ref z) "zip":=⟨_,hz1,rfl⟩;refine ad (wpAny_typeOf hT ?_);rw[if_pos (by decide)];refine ad (vd hh hz1 λh1 t1 k1=>?_);rw[if_pos (show(none:Option Value).isNone=true from rfl)];refine ad (wpAny_rule ?_);refine ad (iP (s:={ s with heap:=h1,toks:=t1 }) (k1 _ _ hz1) ?_);have n0:∀ {c o},s.heap.get? c=some o->s.heap.objs.size≠c:=λe=>Nat.ne_of_gt (tz e)
 have nd:s.heap.objs.size≠z/\s.heap.objs.size≠TI/\s.heap.objs.size≠TO/\s.heap.objs.size≠i1/\s.heap.objs.size≠i2/\s.heap.objs.size≠l1/\s.heap.objs.size≠l2:=by
  obtain⟨a,b,hO⟩:=Z.hO;exact⟨n0 hz0,n0 Z.hI,n0 hO,Nat.ne_of_gt Z.g1.lt,Nat.ne_of_gt Z.g2.lt,Nat.ne_of_gt Z.t1.lt,Nat.ne_of_gt Z.t2.lt⟩
 have kk:∀ c o,s.heap.get? c=some o->h1.get? c=some o:=λc o e=>k1 _ _ (sK _ e)
 have d1:h1.DictOf knd s.heap.objs.size []:=by
  obtain⟨o,es,ep,ho,r⟩:=dn;exact⟨o,es,ep,k1 _ _ ho,r⟩
 refine am ⟨plainId_quiet dW _,codeAny_builtin jM ?_⟩;rw[Around.under_plainId dW _];refine wJ (A:=A.in1) (d:=s.heap.objs.size) hh D nd ks hk hz _ 0 rfl (Nat.zero_le _) { s with heap:=h1,toks:=t1 } [] _ (Z.keep (λc o e _=>kk c o e) nd (let⟨o,_,_,ho,_⟩:=d1;⟨o,ho⟩)) d1 (by simpa using hsz) λh' t' d' f'=>?_
 rw[drop_zero,merged_nil_of_nodup _ (by rw[List.map_fst_zip (by simp;omega)];exact hn)]at d';exact⟨rfl,q h' t' d' λc o n1 n2 n3 n4 e=>f' c o n1 n2 n3 n4 (n0 e).symm (kk c o e)⟩
end
def tX:bootBuiltins "dict"=some (.type "dict"):=by decide+kernel
def Aq {P:Program}{w:World}:∀ {ks:List Key}{us:List Value},Vals (ks.map kV) us->∀ (j:Nat) u,us[j]? =some u->∃ k,ks[j]? =some k/\(aF P w).is k u=true
 | [],_,.nil,j,u,h=>by simp at h
 |k::ks,_,.cons r rs,0,u,h=>by
  simp at h;subst h;exact⟨k,rfl,pN r⟩
 |k::ks,_,.cons r rs,j+1,u,h=>by
  simp at h;obtain⟨k',e1,e2⟩:=Aq (P:=P) (w:=w) rs j u h;exact⟨k',by simpa using e1,e2⟩
def zS:∀ {ks:List Key}{ys:List V}{us:List Value},Vals ys us->KV (ks.zip ys) (ks.zip us)
 | [],_,_,_=>by simp[List.zip];exact .nil
 |_::_,_,_,.nil=>.nil
 |k::ks,_,_,.cons r rs=>.cons ⟨rfl,r⟩ (zS rs)
abbrev Gu (K:W.Frag)(v u:V)(H:Hp)(Q:VK):Prop:=∃ tp1 l1 tp2 l2,∃ (ks:List Key) (ys:List V),v=.ref l1/\u=.ref l2/\Sq K tp1 H l1 (ks.map kV)/\Sq K tp2 H l2 ys/\ks.Nodup/\ks.length=ys.length/\ks.length<=1000/\∀ p,H p=none->Q (.ref p) (upd H p (.dK (ks.zip ys)))
abbrev Hr (K:W.Frag)(ta:TA):TE:=λU H Q=>ta U H λvs H1=>∃ v u,vs=[v,u]/\Gu K v u H1 Q
def yQ {a b:Expr}{p2 pos2:Pos}(hc:X.calm=true)(hg:Gl X "dict") (hm:X.mg "dict"=none) (hg2:Gl X "zip") (hm2:X.mg "zip"=none) (ha:PA X [a,b] ta)
  (hs:bm [a,b] X.env=(false,eval a X.env)::bm [b] X.env:=by rfl) (hpl:(backTo pos2 (bm [b] X.env)).any (·.1)=false:=by rfl):
  PE X (.Call (.Name "dict" p) [.Call (.Name "zip" p2) [a,b] [] pos2] [] pos) (Hr X.K ta):=by
 intro Y s U H Q I h;have h1:bm [.Call (.Name "zip" p2) [a,b] [] pos2] X.env=[(false,eval (.Call (.Name "zip" p2) [a,b] [] pos2) X.env)]:=rfl;refine Call_ (dA I hg hm tX (PyProof.Rows.callWith_type1 ?_ h1 rfl));rw[h1];show wpAny _ _ (spliced ((false,eval (.Call (.Name "zip" p2) [a,b] [] pos2) X.env)::backTo pos [])) _ _ _;refine Calls.spliced_cons ?_;refine Call_ (dA I hg2 hm2 vX (PyProof.Rows.callWith_type1 (au (ha pos2 Y s U H _ I h) λus s1 ⟨vs,H1,I1,r1,q1⟩=>?_) hs hpl));obtain⟨v,u,e,tp1,l1,tp2,l2,ks,ys,e1,e2,q1,q2,kn,kl,kz,q⟩:=q1;subst e e1 e2;cases r1 with
 |cons r rr=>
  cases rr with
  |cons r' rr'=>
   cases rr';cases r;cases r';obtain⟨is1,v1,t1⟩:=I1.sq q1;obtain⟨is2,v2,t2⟩:=I1.sq q2;refine mP t1 t2 λh' hz hI hO g1 g2 hsz hk=>?_
   refine Calls.spliced_nil ?_;have n1:is1.length=ks.length:=by rw[<-v1.length,ce]
   have n2:is2.length=ks.length:=by rw[<-v2.length,kl]
   refine kq (s:={ s1 with heap:=h' }) (knd:=aF X.prog X.w) (I1.ok.hd hc) (uD t1.lt t2.lt) ks (λj x hx=>Aq v1 j x (by simpa using hx)) (by simp;omega) kn (by simp;omega) (by simp;rw[n1];exact fits kz)
    ⟨.inl ⟨_,hz⟩,hI,⟨_,_,hO⟩,g1,g2,t1.to λo e=>hk _ o e,t2.to λo e=>hk _ o e⟩ ⟨_,hz⟩ λh2 t2' d2 f2=>?_
   have lt0:∀ {c o},s1.heap.get? c=some o->c<s1.heap.objs.size:=λe=>tz e
   have hfree:H1 h'.objs.size=none:=I1.hok.fresh (by rw[hsz];exact Nat.le_add_right _ _);refine⟨.ref h'.objs.size,_,I1.laid (a:=h'.objs.size) (o:=.dK (ks.zip ys)) (t':=t2') (λc o e=>?_) (by rw[hsz];exact Nat.le_add_right _ _) ⟨?_,?_,_,zS v2,by simpa using d2⟩,rfl,q _ hfree⟩
   .have hl:=lt0 e;refine f2 c o (nw (mo hl (Nat.le_add_right _ _))) (nw (mo hl (Nat.le_add_right _ _))) (nw hl) (nw (mo hl (Nat.le_add_right _ _))) (hk c o e)
   .rw[List.length_zip];exact fits (Nat.le_trans (Nat.min_le_left _ _) kz)
   .exact beq_eq_false_iff_ne.mpr (Nat.ne_of_gt (mo I1.big (by rw[hsz];exact Nat.le_add_right _ _)))
section
variable {X:Cx}{Y:HN}{U:St}{H:Hp}{s:Shared}{a:Addr}{kvs:List (Key×V)}{A:Around}{E:HM}
def uT {Q:HM}(I:Inv X Y U H s)(e:Rd H a (.dK kvs))(h:∀ p s',H p=none->Inv X Y U (upd H p (.dK kvs)) s'->Q (.ref p) s'):wpAny (model X.prog X.w) A (call (.type "dict") [.ref a]) Q E s:=by
 obtain⟨z,hd,vs,rel,dd⟩:=jd I.hok e;refine kt_call_dict hd dd (by rw[<-rel.length];exact z) λh' dd' hs=>?_
 refine h _ _ (I.hok.fresh (pc _)) (I.laid (a:=s.heap.objs.size) (o:=.dK kvs) (t':=s.toks) (λb q hq=>?_) (pc _) (uj z (beq_eq_false_iff_ne.mpr (Ne.symm (nw I.big))) rel dd'));exact(hs.2 b (nw (tz hq))).trans (sK _ hq)
end
variable {A:Around}
section
variable {X:Cx}{Y:HN}{U:St}{H:Hp}{s:Shared}
def lI {x:V}{u t:Value}(I:Inv X Y U H s)(rx:RelV x u)(ty:fg X.K H x t):∃ P:Heap->Prop,KitX X.K u t P/\P s.heap/\u≠.builtin "__main__.__loader__#opaque":=by
 cases ty with
 |non=>cases(show u=Value.none from rx);exact⟨_,kitx_none,True.intro,λz=>nomatch z⟩
 |bl y=>cases(show u=Value.bool y from rx);exact⟨_,kitx_bool,True.intro,λz=>nomatch z⟩
 |int i=>obtain⟨t,q⟩:=(show ∃ t,u=Value.int i t from rx);cases q;exact⟨_,kitx_int,True.intro,λz=>nomatch z⟩
 |str y=>obtain⟨t,q⟩:=(show ∃ t,u=Value.str y t from rx);cases q;exact⟨_,kitx_str,True.intro,λz=>nomatch z⟩
 |flt y=>obtain⟨t,q⟩:=(show ∃ t,u=Value.float y t from rx);cases q;exact⟨_,kitx_float,True.intro,λz=>nomatch z⟩
 | @lst a xs ea=>
  cases(show u=Value.ref a from rx);obtain⟨_,_,n,_,h1⟩:=(show av X.prog X.w H s.heap a (.lst xs) from I.hok a _ ea);exact⟨_,kitx_list,⟨_,h1,rfl⟩,λz=>nomatch z⟩
 | @gO a ob xs ea=>
  cases(show u=Value.ref a from rx);obtain⟨_,_,_,n,_,h1⟩:=(show av X.prog X.w H s.heap a (.gO ob (.lst xs)) from I.hok a _ ea);exact⟨_,kitx_list,⟨_,h1,rfl⟩,λz=>nomatch z⟩
 | @tup a xs ea=>
  cases(show u=Value.ref a from rx);obtain⟨_,_,_,p⟩:=(show av X.prog X.w H s.heap a (.tup xs) from I.hok a _ ea);obtain⟨o,h1,h2,_⟩:=p;exact⟨_,kitx_tuple,⟨o,h1,h2⟩,λz=>nomatch z⟩
 | @dK a kvs ea=>
  cases(show u=Value.ref a from rx);obtain⟨_,_,vs,_,p⟩:=(show av X.prog X.w H s.heap a (.dK kvs) from ea.ok I.hok);obtain⟨o,es,ep,h1,h2,_⟩:=p;exact⟨_,kitx_dict,⟨o,h1,h2.1⟩,λz=>nomatch z⟩
 | @dT a kvs ea=>
  cases(show u=Value.ref a from rx);obtain⟨_,_,xs,_,o,es,ep,h1,h2,_⟩:=(show av X.prog X.w H s.heap a (.dT kvs) from I.hok a _ ea);exact⟨_,kitx_dict,⟨o,h1,h2.1⟩,λz=>nomatch z⟩
 | @ins a C dx fs ea cl ha hn htk hm=>
  cases(show u=Value.ref a from rx);obtain⟨mA,O,_⟩:=dN I.hok ea;obtain⟨od,J,_⟩:=O.look;exact⟨_,kitx_own (cl.get _) cl.hd ha hn htk hm,J,λz=>nomatch z⟩
def k6 {Q:HM}{u t:Value}{p:Addr}{cs:List Addr}{b:Bool}{P:Heap->Prop}(I:Inv X Y U H s)(Z:KitX X.K u t P)(hp:P s.heap)(hx:u≠.builtin "__main__.__loader__#opaque")
  (ep:H p=some (.tup (cs.map V.ref))) (e:kitAny X.K t (cs.map Value.ref)=some b) (h:∀ tk,Q (.bool b) { s with toks:=tk }):wpAny (model X.prog X.w) A (call (.builtin "isinstance") [u,.ref p]) Q E s:=by
 obtain⟨its,r,pl,_⟩:=I.tuple (aY.of ep);have er:∀ {cs:List Addr}{us:List Value},Vals (cs.map V.ref) us->us=cs.map Value.ref:=by
  intro cs
  induction cs with
  |nil=>intro us h;cases h;rfl
  |cons c cs ih=>
   intro us h;cases h with
   |cons r1 r2=>
    rw[ih r2,show _=Value.ref c from r1]
    rfl
 obtain rfl:=er r;obtain⟨⟨c,d,da,sl⟩,h1,h2,n,h3⟩:=(show s.heap.IsTuple p (cs.map Value.ref).toArray from pl);subst h2;obtain rfl:=h3;exact kia_tup Z I.bK hp h1 e hx h
end
def D7 (d:Addr)(hd:(d ==sysModules)=false)(dd:Option Addr)(ep:Nat)(sl:Array (Option Value)):Meets (Builtin.«dict.__eq__» ⟨[.ref d,.ref d],[]⟩) (λ_ R s=>s.heap.get? d=some ⟨.type "dict",dd,.dict #[] ep,sl⟩/\R (.ok (.ret (.bool true))) s):=by
 intro prog w A R s hs;obtain⟨h,g,dp,tt,os⟩:=s;obtain⟨ho,q⟩:=hs;have hT:(⟨h,g,dp,tt,os⟩:Shared).TypeIs (.ref d) "dict":=⟨_,ho,rfl⟩;unfold Builtin.«dict.__eq__»
 k_delta "equality"
 unfold Builtin.Dict.dictSlotArgs;refine ad (ad (wpAny_notOrdered_dict hT ?_));show wpAny _ _ (pure (Value.ref d,[Value.ref d]) >>= _) _ _ _;refine ad (am (am ?_));have hi:=PySem.F.kt_sub_dict;show wpAny _ _ (isInstance (.ref d) (.type "dict") >>= _) _ _ _;unfold Builtin.Dict.samePairs;simp only[Std.Legacy.Range.forIn_eq_forIn_range']
 repeat(any_goals first|assumption|wp_step)
variable {dd:Option Addr}{sl:Array (Option Value)}
def ED (hd:(d ==sysModules)=false){ep:Nat}(ho:s.heap.get? d=some ⟨.type "dict",dd,.dict #[] ep,sl⟩) (hu:A.units<cLine):SeqAt.RcAt A s (.ref d) (.ref d) true:=λprog w E Q h=>
 richCompare_meets_room (op:=.Eq) ⟨_,ho,rfl⟩ ⟨_,ho,rfl⟩ PySem.F.slot_dict_eq PySem.F.entry_dict_eq (PySem.F.args_dict_eq_2 _ _) (D7 d hd dd ep sl) ⟨ho,show Value.bool true≠Value.notImplemented/\Q (.bool true) s from⟨(λx=>nomatch x),h⟩⟩ hu
abbrev ud (K:W.Frag)(H:Hp)(a:Addr):Prop:=(∃ xs,aL K H a xs)\/(∃ xs,aY K H a xs)\/H a=some (.dK [])
def yp {a:Addr}(I:Inv X Y U H s)(h:ud X.K H a)(hu:A.units+2<cLine):SeqAt.RcAt A s (.ref a) (.ref a) true:=by
 rcases h with⟨xs,h⟩|⟨xs,h⟩|h
 .obtain⟨ia,ra,pa,_⟩:=I.list h;have rc:=SeqAt.RcAt.lists (A:=A) (e:=λ_=>true) pa.isList pa.isList rfl nofun λj h1 h2=>SeqAt.EqAt.same _
  have e:(List.range ia.toArray.size).all (λ_=>true)=true:=by simp
  rwa [e]at rc
 .obtain⟨ia,ra,pa,_⟩:=I.tuple h;have rc:=SeqAt.RcAt.tuples (A:=A) (e:=λ_=>true) (show s.heap.IsTuple a ia.toArray from pa) (show s.heap.IsTuple a ia.toArray from pa) nofun λj h1 h2=>SeqAt.EqAt.same _
  have e:((List.range (min ia.toArray.size ia.toArray.size)).all (λ_=>true)&&ia.toArray.size ==ia.toArray.size)=true:=by simp
  rwa [e]at rc
 .obtain⟨z,hd,vs,rel,dd⟩:=jd I.hok (.inl h);cases rel;obtain⟨⟨c,d,da,sl⟩,es,ep,ho,hx,he,_,hp,_⟩:=dd;have e0:es=#[]:=by
   cases hp':es.toList with
   |nil=>exact Array.toList_eq_nil_iff.mp hp'
   |cons a b=>rw[hp']at hp;cases hp
  subst e0;obtain rfl:da=.dict #[] ep:=he;obtain⟨rfl,_⟩:=hx;exact ED hd ho nofun
section
variable {prog:Program}{w:World}{A:Around}{E:HM}{s:Shared}{T:String}{r d:Addr}{n:Nat}{P:Nat->Value->Prop}{OK:Heap->Prop}
end
abbrev pd (tp:Bool):String:=match tp with
 |true=>"tuple"
 |false=>"list"
abbrev uL (K:W.Frag)(C:Addr):Bool:=findIn K (.ref C) "__eq__" ==some (some (.builtin "object.__eq__"))&&subIn K (.ref C) (.type "str") ==some false&&subIn K (.ref C) (.type "object") ==some true
def pB {prog:Program}{w:World}{K:Frag}{C:Addr}{R:Result->Shared->Prop}(X:K.In s.heap)(hm:makesIn K C=true)(hi:findIn K (.ref C) "__init__"=some (some (.builtin "object.__init__")))
  (h:R (.ok (.ret (.ref (s.heap.objs.size+1)))) { s with heap:=(s.heap.push emptyDict).push (instObj C s.heap.objs.size) }):codeAny (model prog w) A (.call (.ref C) ⟨[],[]⟩) R s:=by
 obtain⟨hh,g,d,t,os⟩:=s;have Y:=makes_of (M:=model prog w) X hm;refine make_core Y (looks_findIn X hi) (λz=>Looks.of_pure (oi_bind z)) (.inr ⟨rfl,rfl⟩) ?_;have k:∀ b o,hh.get? b=some o->((hh.push emptyDict).push (instObj C hh.objs.size)).get? b=some o:=λb o e=>sK _ (sK _ e)
 have hx:((hh.push emptyDict).push (instObj C hh.objs.size)).get? (hh.objs.size+1)=some (instObj C hh.objs.size):=by heap_get
 have t1:Looks (model prog w) ((hh.push emptyDict).push (instObj C hh.objs.size)) (typeOf (.ref (hh.objs.size+1))) (.ref C):=Looks.andThen (Looks.ld hx) .now;have t2:Looks (model prog w) ((hh.push emptyDict).push (instObj C hh.objs.size)) (isInstance (.ref (hh.objs.size+1)) (.type "object")) true:=t1.andThen (Y.top.keeps k);refine codeAny_call_builtin oi_plain entry_oi (@check_slot (model prog w) _ _ _ "object.__init__" "object" "__init__" (.ref (hh.objs.size+1)) [] [] _ oi_kind oi_split t2 (oi_args _) ?_);rw[oi_run];exact am ⟨rfl,h⟩
structure GY (K:Frag) (C:Addr):Prop where
 makes:makesIn K C=true
 init:findIn K (.ref C) "__init__"=some (some (.builtin "object.__init__"))
 kp:keepIn K (.ref C)=true
abbrev FP (C:Addr):TE:=λ_ H Q=>∀ x dx,H x=none->H dx=none->dx≠x->Q (.ref x) (upd (upd H dx (.own x)) x (.ins C dx []))
def vg {C:Addr}{x:Str}(M:GY X.K C)(hg:Gl X x)(hm:X.mg x=some (.ref C))(hdb:(x ==("__debug__":Str))=false):PE X (.Call (.Name x p) [] [] pos) (FP C):=by
 intro Y s U H Q I h;refine bv (bz I hg hm ?_ hdb);refine W.callWith_K0 I.bK M.kp (wpAny_call (pB I.bK M.makes M.init ?_));have I2:=Inv.made (C:=C) I;exact⟨.ref (s.heap.objs.size+1),_,I2,rfl,h (s.heap.objs.size+1) s.heap.objs.size (I.hok.fresh (Nat.le_succ _)) (I.hok.fresh (pc _)) (nw (Nat.lt_succ_self _))⟩
@[reducible]def VV:List (V×V)->List (Value×Value)->Prop:=Paired λp q=>RelV p.1 q.1/\RelV p.2 q.2
abbrev PQ (X:Cx)(pos:Pos)(keys:List (Option Expr))(values:List Expr)(t:St->Hp->(List (V×V)->Hp->Prop)->Prop):Prop:=
 ∀ (Y:HN) (s:Shared) (U:St) (H:Hp) (Q:List (V×V)->Hp->Prop),Inv X Y U H s->t U H Q->
  wpAny (model X.prog X.w) X.A (evalPairs (pairTrees keys values X.env pos)) (λvs s'=>∃ ps H',Inv X Y U H' s'/\VV ps vs/\Q ps H') X.xe s
def By:PQ X pos [] [] (λ_ H Q=>Q [] H):=λY s U H Q I h=>pairTrees_nil_walk ⟨[],H,I,.nil,h⟩
variable {vs:List Expr}
def yL {k v:Expr}{ks:List (Option Expr)}{tk tv:TE}{t:St->Hp->(List (V×V)->Hp->Prop)->Prop}(hk:PE X k tk)(hv:PE X v tv)(hr:PQ X pos ks vs t):
  PQ X pos (some k::ks) (v::vs) (λU H Q=>tk U H λx H1=>tv U H1 λy H2=>t U H2 λps H3=>Q ((x,y)::ps) H3):=λY s U H Q I h=>
 pairTrees_cons_walk (au (hk Y s U H _ I h) λu s1 ⟨x,H1,I1,rx,q1⟩=>au (hv Y s1 U H1 _ I1 q1) λw2 s2 ⟨y,H2,I2,ry,q2⟩=>
  au (hr Y s2 U H2 _ I2 q2) λws s3 ⟨ps,H3,I3,rel,q3⟩=>⟨(x,y)::ps,H3,I3,.cons ⟨rx,ry⟩ rel,q3⟩)
abbrev uF:Expr->Nat
 | .Tuple vs _ _=>vs.length
 |_=>0
abbrev Be (sc:Scope)(tg v:Expr)(ns:List Str):Bool:=match swappedStores [tg] v { scope:=sc,locals:=0,globals:=0,cells:=[] } with
 | .pure (some l)=>l ==ns&&decide (uF v=ns.length)
 |_=>false
variable {tg:Expr}{ns:List Str}
def vx {env:Env}{v:Expr}(h:Be env.scope tg v ns=true):swappedStores [tg] v env=pure (some ns):=by
 have e:swappedStores [tg] v env=swappedStores [tg] v { scope:=env.scope,locals:=0,globals:=0,cells:=[] }:=by
  obtain⟨sc,a,b,c,d,f,g,i,j⟩:=env
  rfl
 rw[e];unfold Be at h
 split at h
 .rename_i l e2;rw[li]at h;rw[e2,beq_iff_eq.mp h.1]
  rfl
 .cases h
variable {sc:Scope}
def qu {v:Expr}(h:Be sc tg v ns=true):uF v=ns.length:=by
 unfold Be at h
 split at h
 .rw[li,decide_eq_true_eq]at h;exact h.2
 .cases h
def yM {x y:Str}(h:Be sc tg (.Tuple vs k p) [x,y]=true):∃ a b,vs=[a,b]:=by
 have h:=qu h
 match vs,h with
 | [a,b],_=>exact⟨a,b,rfl⟩
def rg {x y z:Str}(h:Be sc tg (.Tuple vs k p) [x,y,z]=true):∃ a b c,vs=[a,b,c]:=by
 have h:=qu h
 match vs,h with
 | [a,b,c],_=>exact⟨a,b,c,rfl⟩
abbrev Et (i j:Nat)(ta:TA):TS:=λD U H=>ta U H λvs H1=>∃ v w,vs=[v,w]/\D.nx ((U.set i (some v)).set j (some w)) H1
def yC {i j:Nat}{x y:Str}{a b:Expr}{px py pt:Pos} {kt k2 pt2} (hc:X.calm=true)(hN:X.N.Nodup)(hi:X.N[i]? =some x)(hj:X.N[j]? =some y)(hij:i≠j)
  (hx:X.env.scope.names.lookup x=some .local) (hy:X.env.scope.names.lookup y=some .local) (ha:PA X [a,b] ta)
  (hw:swappedStores [.Tuple [.Name x px,.Name y py] kt pt] (.Tuple [a,b] k2 pt2) X.env=pure (some [x,y]))
  (hs:swapsWithSole [.Tuple [.Name x px,.Name y py] kt pt] (.Tuple [a,b] k2 pt2) pos.line X.env=pure false:=by rfl):
  PS X (.Assign [.Tuple [.Name x px,.Name y py] kt pt] (.Tuple [a,b] k2 pt2) pos) (Et i j ta):=by
 intro Y s U H D I h;rw[exec_Assign_arm];refine ad (wpAny_standAt ?_);rw[hs];refine ad (am ?_);rw[if_neg (by decide)];refine ad (Tuple_ (au (ha _ Y s U H _ I h) λus s1 ⟨vs,H1,I1,r1,q1⟩=>?_));obtain⟨v,w,e1,q1⟩:=q1;subst e1;obtain⟨u1,u2,rfl,rv,rw'⟩:∃ u1 u2,us=[u1,u2]/\RelV v u1/\RelV w u2:=by
  cases r1 with
  |cons p q=>
   cases q with
   |cons p' q'=>
    cases q';exact⟨_,_,rfl,p,p'⟩
 refine wpAny_newObj_type ?_ (by show 2<=bn;decide);have I2:Inv X Y U H1 { s1 with heap:=s1.heap.push { cls:=.type "tuple",data:=.seq [u1,u2].toArray } }:=I1.kept (t':=s1.toks) λb o e=>sK _ e
 rw[hw];refine ad (am ?_);show wpAny (model X.prog X.w) X.A (do rule "assign.swapped-stores";let items <-unpackItems (.ref s1.heap.objs.size) 2 none;assignInOrder [λv=>bindName X.env y v,λv=>bindName X.env x v] items.reverse;pure Flow.next) _ _ _;refine ad (wpAny_rule (ad (unpackItems_tuple (items:=#[u1,u2]) (I.ok.hd hc) (IsTup.new s1.heap _) λh' hx'=>?_)));have I3:=I2.kept (h':=h') (t':=s1.toks) λb o e=>hx' b o (nw (tz e)) e
 show wpAny _ _ (assignInOrder [λv=>bindName X.env y v,λv=>bindName X.env x v] [u2,u1] >>= λ_=>pure Flow.next) _ _ _;refine ad (assignInOrder_cons (wpAny_bindName (bt I3 hN hj (.inl hy) rw' (λs2 I4=>?_) (.inr hy))));refine assignInOrder_cons (wpAny_bindName (bt I4 hN hi (.inl hx) rv (λs3 I5=>assignInOrder_nil (am ?_)) (.inr hx)));rw[set_comm _ _ (Ne.symm hij)]at I5;exact⟨_,H1,I5,q1⟩
abbrev EC (i j l:Nat)(ta:TA):TS:=λD U H=>ta U H λvs H1=>∃ v w x,vs=[v,w,x]/\D.nx (((U.set i (some v)).set j (some w)).set l (some x)) H1
def yr {i j l:Nat}{x y z:Str}{a b c:Expr}{px py pz pt:Pos} {kt k2 pt2} (hc:X.calm=true)(hN:X.N.Nodup)(hi:X.N[i]? =some x)(hj:X.N[j]? =some y)(hl:X.N[l]? =some z)(hij:i≠j)(hil:i≠l)(hjl:j≠l)
  (hx:X.env.scope.names.lookup x=some .local) (hy:X.env.scope.names.lookup y=some .local) (hz:X.env.scope.names.lookup z=some .local) (ha:PA X [a,b,c] ta)
  (hw:swappedStores [.Tuple [.Name x px,.Name y py,.Name z pz] kt pt] (.Tuple [a,b,c] k2 pt2) X.env=pure (some [x,y,z]))
  (hs:swapsWithSole [.Tuple [.Name x px,.Name y py,.Name z pz] kt pt] (.Tuple [a,b,c] k2 pt2) pos.line X.env=pure false:=by rfl):
  PS X (.Assign [.Tuple [.Name x px,.Name y py,.Name z pz] kt pt] (.Tuple [a,b,c] k2 pt2) pos) (EC i j l ta):=by
 intro Y s U H D I h;rw[exec_Assign_arm];refine ad (wpAny_standAt ?_);rw[hs];refine ad (am ?_);rw[if_neg (by decide)];refine ad (Tuple_ (au (ha _ Y s U H _ I h) λus s1 ⟨vs,H1,I1,r1,q1⟩=>?_));obtain⟨v,w,x',e1,q1⟩:=q1;subst e1;obtain⟨u1,u2,u3,rfl,rv,rw',rx'⟩:∃ u1 u2 u3,us=[u1,u2,u3]/\RelV v u1/\RelV w u2/\RelV x' u3:=by
  cases r1 with
  |cons p q=>
   cases q with
   |cons p' q'=>
    cases q' with
    |cons p2 q2=>
     cases q2;exact⟨_,_,_,rfl,p,p',p2⟩
 refine wpAny_newObj_type ?_ (by show 3<=bn;decide);have I2:Inv X Y U H1 { s1 with heap:=s1.heap.push { cls:=.type "tuple",data:=.seq [u1,u2,u3].toArray } }:=I1.kept (t':=s1.toks) λb o e=>sK _ e
 rw[hw];refine ad (am ?_);show wpAny (model X.prog X.w) X.A (do rule "assign.swapped-stores";let items <-unpackItems (.ref s1.heap.objs.size) 3 none;assignInOrder [λv=>bindName X.env z v,λv=>bindName X.env y v,λv=>bindName X.env x v] items.reverse;pure Flow.next) _ _ _;refine ad (wpAny_rule (ad (unpackItems_tuple (items:=#[u1,u2,u3]) (I.ok.hd hc) (IsTup.new s1.heap _) λh' hx'=>?_)));have I3:=I2.kept (h':=h') (t':=s1.toks) λb o e=>hx' b o (nw (tz e)) e
 show wpAny _ _ (assignInOrder [λv=>bindName X.env z v,λv=>bindName X.env y v,λv=>bindName X.env x v] [u3,u2,u1] >>= λ_=>pure Flow.next) _ _ _;refine ad (assignInOrder_cons (wpAny_bindName (bt I3 hN hl (.inl hz) rx' (λs2 I4=>?_) (.inr hz))));refine assignInOrder_cons (wpAny_bindName (bt I4 hN hj (.inl hy) rw' (λs3 I5=>?_) (.inr hy)));refine assignInOrder_cons (wpAny_bindName (bt I5 hN hi (.inl hx) rv (λs4 I6=>assignInOrder_nil (am ?_)) (.inr hx)));rw[set_comm _ _ (Ne.symm hij),set_comm _ _ (Ne.symm hil),set_comm _ _ (Ne.symm hjl)]at I6;exact⟨_,H1,I6,q1⟩
abbrev nX (K:W.Frag)(C:Addr):Bool:=findIn K (.ref C) "__ne__" ==some (some (.builtin "object.__ne__"))&&uL K C
section
variable {A:Around}{s:Shared}{l C dx:Addr}{od:Option Obj}{K:W.Frag}{prog:Program}{w:World}{E:HM}
def Eg (X:K.In s.heap)(I:InstAt s.heap l (instObj C dx) C od)(h1:findIn K (.ref C) "__eq__"=some (some (.builtin "object.__eq__"))) (h3:subIn K (.ref C) (.type "object")=some true) (h:Q (some (.bool true)) s):wpAny (model prog w) A (callSpecialIfBound? (.ref l) "__eq__" [.ref l]) Q E s:=by
 simp only[callSpecialIfBound?,bindSpecialIfBound?];refine bd (ad (ad (ad (I.type.here ((looks_findIn X h1).here ?_)))));simp only[PySem.F.cmp_object.eq.bind];have fin:wpAny (model prog w) A (call (.builtin "object.__eq__") ([.ref l]++[.ref l]) >>= λv=>pure (some v)) Q E s:=by
  refine ad (wpAny_call (codeAny_call_builtin PySem.F.cmp_object.eq.plain PySem.F.cmpEntry_eq ?_));simp only[checkBuiltinCall,PySem.F.cmpKind_eq,PySem.F.cmpSplit_eq];refine ad (ad (I.type.here ((looks_subIn X h3).here ?_)));rw[if_neg (by simp)];have ha:=PySem.F.cmpArgs_eq (.ref l) (.ref l);have h0:(match Manifest.signature? "object.__eq__" with|some sig=>Bind.checkArgs "object.__eq__" sig { pos:=[Value.ref l]++[Value.ref l] }|x=>pure ())=pure ():=ha;refine wpAny_of_eq h0 ?_;exact objEq_entry_same (am h)
 refine ad (wpAny_askSetting (wpAny_ite ?_))
 split
 .exact ad (am (am fin))
 .exact wpAny_tryCatch (ad (am (am fin)))
def Ez (X:K.In s.heap)(I:InstAt s.heap l (instObj C dx) C od)(h1:findIn K (.ref C) "__eq__"=some (some (.builtin "object.__eq__"))) (h2:findIn K (.ref C) "__ne__"=some (some (.builtin "object.__ne__"))) (h3:subIn K (.ref C) (.type "object")=some true) (hu:A.units+2<cLine) (h:Q (some (.bool false)) s):wpAny (model prog w) A (callSpecialIfBound? (.ref l) "__ne__" [.ref l]) Q E s:=by
 simp only[callSpecialIfBound?,bindSpecialIfBound?];refine bd (ad (ad (ad (I.type.here ((looks_findIn X h2).here ?_)))));simp only[PySem.F.cmp_object.ne.bind];have fin:wpAny (model prog w) A (call (.builtin "object.__ne__") ([.ref l]++[.ref l]) >>= λv=>pure (some v)) Q E s:=by
  refine ad (wpAny_call (codeAny_call_builtin PySem.F.cmp_object.ne.plain PySem.F.cmpEntry_ne ?_));simp only[checkBuiltinCall,PySem.F.cmpKind_ne,PySem.F.cmpSplit_ne];refine ad (ad (I.type.here ((looks_subIn X h3).here ?_)));rw[if_neg (by simp)];have ha:=PySem.F.cmpArgs_ne (.ref l) (.ref l);have h0:(match Manifest.signature? "object.__ne__" with|some sig=>Bind.checkArgs "object.__ne__" sig { pos:=[Value.ref l]++[Value.ref l] }|x=>pure ())=pure ():=ha;refine wpAny_of_eq h0 ?_;unfold Builtin.«object.__ne__»;show wpAny _ _ (pure (Value.ref l,[Value.ref l]) >>= _) _ _ _;refine ad (am ?_);refine ad (wpAny_cRoomFor (show A.units+1<cLine by omega) ?_);refine ad (Eg X I h1 h3 ?_);refine ad (bi ?_);exact am (am h)
 refine ad (wpAny_askSetting (wpAny_ite ?_))
 split
 .exact ad (am (am fin))
 .exact wpAny_tryCatch (ad (am (am fin)))
def qX (X:K.In s.heap)(I:InstAt s.heap l (instObj C dx) C od)(hC:nX K C=true)(hu:A.units+3<cLine):SeqAt.RcNeAt A s (.ref l) (.ref l) false:=λprog w E Q h=>by
 unfold nX uL at hC;simp only[li,beq_iff_eq]at hC;obtain⟨h0,⟨h1,h2⟩,h3⟩:=hC;simp only[richCompare,PySem.cmpInfo_NotEq]
 try with_reducible refine bd ?_
 refine ad (wpAny_cRoomFor nofun ?_);show wpAny _ _ (typeOf (Value.ref l) >>= _) _ _ _;refine ad (I.type.here (ad (I.type.here ?_)));rw[if_neg (by simp)];refine ad (am ?_);rw[if_neg (by simp)];refine ad ?_;simp only[tryCompare];refine ad (Ez X I h1 h0 h3 nofun ?_);exact am (am h)
def DY (d:Addr)(hd:(d ==sysModules)=false)(dd:Option Addr)(ep:Nat)(sl:Array (Option Value)):Meets (Builtin.«dict.__ne__» ⟨[.ref d,.ref d],[]⟩) (λ_ R s=>s.heap.get? d=some ⟨.type "dict",dd,.dict #[] ep,sl⟩/\R (.ok (.ret (.bool false))) s):=by
 intro prog w A R s hs;obtain⟨h,g,dp,tt,os⟩:=s;obtain⟨ho,q⟩:=hs;have hT:(⟨h,g,dp,tt,os⟩:Shared).TypeIs (.ref d) "dict":=⟨_,ho,rfl⟩;unfold Builtin.«dict.__ne__»
 k_delta "equality"
 unfold Builtin.Dict.dictSlotArgs;refine ad (ad (wpAny_notOrdered_dict hT ?_));show wpAny _ _ (pure (Value.ref d,[Value.ref d]) >>= _) _ _ _;refine ad (am (am ?_));have hi:=PySem.F.kt_sub_dict;show wpAny _ _ (isInstance (.ref d) (.type "dict") >>= _) _ _ _;unfold Builtin.Dict.samePairs;simp only[Std.Legacy.Range.forIn_eq_forIn_range']
 repeat(any_goals first|assumption|wp_step)
def yk (hd:(d ==sysModules)=false){ep:Nat}(ho:s.heap.get? d=some ⟨.type "dict",dd,.dict #[] ep,sl⟩) (hu:A.units<cLine):SeqAt.RcNeAt A s (.ref d) (.ref d) false:=λprog w E Q h=>
 richCompare_meets_room (op:=.NotEq) ⟨_,ho,rfl⟩ ⟨_,ho,rfl⟩ PySem.F.slot_dict_ne PySem.F.entry_dict_ne (PySem.F.args_dict_ne_2 _ _) (DY d hd dd ep sl) ⟨ho,show Value.bool false≠Value.notImplemented/\Q (.bool false) s from⟨(λx=>nomatch x),h⟩⟩ hu
abbrev tU (K:W.Frag)(H:Hp)(a:Addr):Prop:=(∃ xs,aY K H a xs)\/H a=some (.dK [])\/(∃ C dx fs,H a=some (.ins C dx fs)/\nX K C=true)\/∃ xs,aL K H a xs
def xM {a:Addr}(I:Inv X Y U H s)(h:tU X.K H a)(hu:A.units+3<cLine):SeqAt.RcNeAt A s (.ref a) (.ref a) false:=by
 rcases h with⟨xs,h⟩|h|⟨C,dx,fs,h,hn⟩|⟨xs,h⟩
 .obtain⟨ia,ra,pa,_⟩:=I.tuple h;have rc:=SeqAt.RcNeAt.tuples (A:=A) (e:=λ_=>true) (show s.heap.IsTuple a ia.toArray from pa) (show s.heap.IsTuple a ia.toArray from pa) nofun λj h1 h2=>SeqAt.EqAt.same _
  have e:((List.range (min ia.toArray.size ia.toArray.size)).all (λ_=>true)&&ia.toArray.size ==ia.toArray.size)=true:=by simp
  rw[e]at rc;exact rc
 .obtain⟨z,hd,vs,rel,dd⟩:=jd I.hok (.inl h);cases rel;obtain⟨⟨c,d,da,sl⟩,es,ep,ho,hx,he,_,hp,_⟩:=dd;have e0:es=#[]:=by
   cases hp':es.toList with
   |nil=>exact Array.toList_eq_nil_iff.mp hp'
   |cons a b=>rw[hp']at hp;cases hp
  subst e0;obtain rfl:da=.dict #[] ep:=he;obtain⟨rfl,_⟩:=hx;exact yk hd ho nofun
 .obtain⟨mA,o,_⟩:=dN I.hok h;obtain⟨od,i,_⟩:=o.look;exact qX I.bK i hn hu
 .obtain⟨ia,ra,pa,_⟩:=I.list h;have rc:=SeqAt.RcNeAt.lists (A:=A) (e:=λ_=>true) pa.isList pa.isList rfl nofun λj h1 h2=>SeqAt.EqAt.same _
  have e:(List.range ia.toArray.size).all (λ_=>true)=true:=by simp
  rw[e]at rc;exact rc
end
end L2
namespace L2
open PySem PySem.Spec PyProof.Rows
section
variable {X:Cx}{tg:Expr}
end
end L2
namespace L2
open PySem PySem.Spec PySem.W PyProof.Rows
open PySem.AutoSeq1 (wpAny_loadPart')
section
variable {prog:Program}{w:World}{A:Around}{E:HM}{s:Shared}
end
section
variable {X:Cx}{Y:HN}{U:St}{H:Hp}{s:Shared}
end
section
variable {prog:Program}{w:World}{A:Around}{E:HM}{s:Shared}
variable {z TI TO i1 i2 i3 l1 l2 l3:Addr}{k1 k2 k3:Nat}{tp1 tp2 tp3:Bool}{xs ys zs:Array Value}{x y v a b c f1:Value}
end
variable {X:Cx}{e es:Expr}{te:TE}{ts:TO}{p2 pos:Pos}
def qP:∀ {xs:List V}{us:List Value},xs.length=us.length->(∀ (j:Nat) (x:V) (u:Value),xs[j]? =some x->us[j]? =some u->RelV x u)->Vals xs us
 | [],[],_,_=>.nil
 |x::xs,u::us,e,h=>.cons (h 0 x u rfl rfl) (qP (Nat.succ.inj e) λj a b e1 e2=>h (j+1) a b e1 e2)
def p0:∀ {kvs:List (Key×V)}{vs:List (Key×Value)},KV kvs vs->kvs.map (·.1)=vs.map (·.1)
 |_,_,.nil=>rfl
 |_,_,.cons r rs=>by rw[map_cons,map_cons,r.1,p0 rs]
def nN {Y:HN}{U:St}{H:Hp}{s:Shared}{Q:VK}{d:Addr}{kvs:List (Key×V)}(hc:X.calm=true)(I:Inv X Y U H s)(e:Rd H d (.dK kvs))(q:∀ p,H p=none->Q (.ref p) (upd H p (.lst (kvs.map (λkv=>kV kv.1))))):
  wpAny (model X.prog X.w) X.A (call (.type "list") [.ref d]) (EP X Y U Q) X.xe s:=by
 obtain⟨hz,hd,vs,rel,dd⟩:=jd I.hok e;obtain⟨o,es,ep,ho,hx,he,hk,hp,hn⟩:=dd;have hA:s.heap.DictAt (aF X.prog X.w) d vs ep:=⟨o,es,ho,hx,he,hk,hp,hn⟩;have hl:vs.length<=bn:=by rw[<-rel.length];exact hz
 refine kdl_call (kdl_dict hd) (I.ok.hd hc) hA hl λh' tk acc c' hk' hD hi=>?_
 have r:Vals (kvs.map (λkv=>kV kv.1)) acc.toList:=qP ((ce ..).trans (rel.length.trans (hi.1.symm.trans Array.length_toList.symm))) λj x u e1 e2=>by
  rw[ii]at e1;obtain⟨⟨k,y⟩,ek,rfl⟩:=lv.mp e1;obtain⟨k',y',ek',hs⟩:=hi.2 j u (by rw[<-Array.getElem?_toList];exact e2);have ekk:k=k':=by
   have h2:(kvs.map (·.1))[j]? =(vs.map (·.1))[j]? :=by rw[p0 rel]
   rw[ii,ii,ek,ek']at h2;exact Option.some.inj h2
  subst ekk;rcases aC hs with⟨i,t,rfl,rfl⟩|⟨z,t,rfl,rfl⟩
  .exact⟨t,rfl⟩
  .exact⟨t,rfl⟩
 exact⟨.ref _,_,I.laid (t':=tk) hk' (pc _) (show av X.prog X.w _ h' _ (.lst (kvs.map (λkv=>kV kv.1))) from⟨by rw[ce];exact hz,acc.toList,c',r,by rw[Array.toArray_toList];exact hD⟩),rfl,q _ (I.hok.fresh (pc _))⟩
end L2
namespace L2
open PySem PySem.Spec PyProof.Rows
abbrev C9 (z:Str):It:=⟨λi _=>i<z.cps.size,λi H x H'=>H'=H/\∃ c,z.cps[i]? =some c/\x=.str ⟨#[c]⟩,λi _=>z.cps.size<=i⟩
def tM {P:Program}{w:World}{K:W.Frag}{tg:Expr}(it:Addr)(z:Str)(t:Tok):Turn P w K Calm tg (C9 z) [it] it (λi h=>h.IsStrIter it (strIterType z) z t i) where
 mem:=by simp
 obj:=λi h st b hb=>by
  have e:b=it:=by simpa using hb
  subst e;obtain⟨o,e,c,d⟩:=st;exact⟨o,e,λv z=>by rw[d]at z;cases z⟩
 keep:=λi h h' st k=>let⟨o,ho,r⟩:=st;⟨o,k it (by simp) o ho,r⟩
 item:=by
  intro X hP hw hK hc i Y s U H E I hf st hg;subst hP hw hK;obtain⟨f0,f1,f2,f3,f4,f5⟩:=hf it (by simp);have go:∀ T,(T="str_ascii_iterator"\/T="str_iterator")->strIterType z=T->wpAny (model X.prog X.w) X.A (pyNext (.ref it)) (λr s1=>∃ u,r=some u/\
   wpAny (model X.prog X.w) X.A (letOwnedTupleGo tg (.ref it) u) (λ_ s2=>∃ x H',Inv X Y U H' s2/\RelV x u/\(C9 z).yld i H x H'/\s2.heap.IsStrIter it (strIterType z) z t (i+1)/\∀ b ∈ [it],H' b=none) E s1) E s:=by
   intro T hT eT;rw[eT]at st⊢;have fin:∀ v h' tk,SignAt z i v->h'.IsStrIter it T z t (i+1)->(∀ b o,b ∉ [it]->s.heap.get? b=some o->h'.get? b=some o)->∃ u,some v=some u/\
    wpAny (model X.prog X.w) X.A (letOwnedTupleGo tg (.ref it) u) (λ_ s2=>∃ x H',Inv X Y U H' s2/\RelV x u/\(C9 z).yld i H x H'/\s2.heap.IsStrIter it T z t (i+1)/\∀ b ∈ [it],H' b=none) E { s with heap:=h',toks:=tk }:=by
    intro v h' tk hv st' kk;obtain⟨c,u,hc',rfl⟩:=hv;have I1:Inv X Y U H { s with heap:=h',toks:=tk }:=I.turned (λb o hb e=>kk b o (by simpa using hb) e) f0 f1 f3 f4 f5;obtain⟨o,e,cc,d⟩:=id st';exact⟨_,rfl,lH (s:={ s with heap:=h',toks:=tk }) e cc d (by rcases hT with rfl|rfl<;>decide) ⟨.str ⟨#[c]⟩,H,I1,⟨u,rfl⟩,⟨rfl,c,hc',rfl⟩,st',λb hb=>(hf b hb).1⟩⟩
   rcases hT with rfl|rfl
   .exact(Walks.strAscii (prog:=X.prog) (w:=X.w) (I.ok.hd hc) it z t).item i s _ _ hg st fin
   .exact(Walks.strWide (prog:=X.prog) (w:=X.w) (I.ok.hd hc) it z t).item i s _ _ hg st fin
  have hz:strIterType z="str_ascii_iterator"\/strIterType z="str_iterator":=by unfold strIterType;split<;>simp
  exact go _ hz rfl
 done:=by
  intro X hP hw hK hc i Y s U H E I hf st hg;subst hP hw hK;obtain⟨f0,f1,f2,f3,f4,f5⟩:=hf it (by simp);have hx:z.cps[i]? =none:=Array.getElem?_eq_none hg;have fin:∀ h',Heap.ExtBut it s.heap h'->(none:Option Value)=none/\Inv X Y U H { s with heap:=h' }:=λh' eb=>⟨rfl,I.turned (t':=s.toks) (λb o hb e=>eb b o hb e) f0 f1 f3 f4 f5⟩
  unfold strIterType at st
  split at st
  .exact wpAny_pyNext_ascii_end (I.ok.hd hc) st hx fin
  .exact wpAny_pyNext_wide_end (I.ok.hd hc) st hx fin
 self:=λ_ _ _ _ _ st h=>by
  unfold strIterType at st
  split at st
  .exact wpAny_pyIter_striter_ascii st h
  .exact wpAny_pyIter_striter_wide st h
def wx {X:Cx}{tg:Expr}{Y:HN}{U:L2.St}{H1:Hp}{s1:Shared}{R:It->Hp->Prop}{z:Str}{v:Value}(I1:Inv X Y U H1 s1)(r:RelV (.str z) v)(q:R (C9 z) H1):
  wpAny (model X.prog X.w) X.A (pyIter v) (E8 X Y U tg R) X.xe s1:=by
 obtain⟨t,rfl⟩:=r;refine wpAny_pyIter_strU ?_;refine⟨s1.heap.objs.size,[s1.heap.objs.size],_,_,H1,rfl,I1.kept (t':=s1.toks) λb o e=>sK _ e,tM _ z t,⟨_,ul _ rfl,rfl,rfl⟩,λb hb=>?_,q⟩;have e:b=s1.heap.objs.size:=by simpa using hb
 subst e;exact I1.nK (pc _) (I1.hok.fresh (pc _))
def Inv.gO {X:Cx}{Y:HN}{U:L2.St}{H:Hp}{s:Shared}{d:Addr}{kvs:List (Key×V)}(I:Inv X Y U H s)(e:H d=some (.dK kvs)):∃ o,Inv X Y U (upd H d (.gO o (.dK kvs))) s:=by
 obtain⟨_,_,vs,rel,o,es,ep,ho,r⟩:=id (show av X.prog X.w H s.heap d (.dK kvs) from I.hok d _ e);have ne:∀ b u,H b=some u->u≠.dK kvs->b≠d:=λb u hb hn z=>by subst z;rw[e]at hb;cases hb;exact hn rfl
 refine⟨o,I.step (h':=s.heap) (t':=s.toks) (g':=s.gens) (d':=s.drawn) (ch:=[]) (λ_ z=>nomatch z) (λb o _ _ _ e _=>e) (λb o _ _ _ e _=>⟨o.slots,e⟩) (λb o _ _ n=>by rw[af (λz=>by subst z;rw[e]at n;cases n)];exact n) (λb o _ e=>⟨o,e⟩)
  (λb xs h=>by rw[af (ne b _ h (λz=>by cases z))];exact h) (λb o u h=>by rw[af (ne b _ h (λz=>by subst z;exact False.elim u))];exact h) (λb ps h=>⟨#[],by rw[af (ne b _ h (λz=>by cases z)),h];simp⟩) (λm hm=>hm) (λb u hb=>?_) I.bare⟩
 have de:∀ b u,H b=some u->av X.prog X.w (upd H d (.gO o (.dK kvs))) s.heap b u:=λb u hb=>(I.hok b u hb).de (λ_ _ _ e=>e) (λc hc=>by rw[af (ne c _ hc (λz=>by cases z))];exact hc) (λc xs hc=>by rw[af (ne c _ hc (λz=>by cases z))];exact hc)
 by_cases z:b=d
 .subst z;rw[aq]at hb;cases hb;exact⟨ho,de _ _ e⟩
 .rw[af z]at hb;exact de b u hb
section
variable {X:Cx}
end
end L2
namespace L2
open PySem PySem.Spec PySem.W PyProof.Rows SeqAt
open AutoSeq1 (wpAny_loadPart')
open MeetsSeq MeetsSeq2 MeetsSeq3 SeqRoads2
section
variable {prog:Program}{w:World}
end
end L2
namespace L2
open PySem PySem.Spec PySem.W PyProof.Rows PySem.Calls PyProof.V
section
variable {X:Cx}{Y:HN}{U:St}{H:Hp}{s:Shared}{a:Addr}{D:List (Str×Str)}{k w:Str}{t:Tok}{A:Around}{E:HM}
end
end L2
namespace L2
open PySem PySem.Spec PySem.W PyProof.Rows
section
variable {prog:Program}{w:World}{A:Around}{E:HM}{s:Shared}
def jo:entryFor table "proto.unchain"=some Builtin.«proto.unchain»:=entryFor_of_fast (by kernel_rfl)
def jf:plainId "proto.unchain"=true:=by decide+kernel
def jk {α:Type}{e a:Addr}{oe oa:Obj}{vs ws:Array Value}{Q:α->Shared->Prop}(hA:A.handled=some (.ref e))(he:s.heap.get? e=some oe)(hd:oe.data=.fields vs)(h2:vs[2]? =some .none)
  (ha:s.heap.get? a=some oa) (hda:oa.data=.fields ws) (hw:2<ws.size) (ne:e≠a) (h:E (.ref a) { s with heap:=s.heap.update a (Obj.mapFields (·.setIfInBounds 2 (.ref e))) }):wpAny (model prog w) A (raiseNew (.ref a):Sem α) Q E s:=by
 unfold raiseNew;refine ad (wpAny_handled ?_);rw[hA];dsimp only;have n:(Value.ref e != Value.ref a)=true:=by simp[ne]
 rw[if_pos n];refine ad (bd (wpAny_runValue (codeAny_builtin jo ?_)));rw[Around.under_plainId jf _];unfold Builtin.«proto.unchain»;dsimp only;refine ad (ap he hd h2 ?_);rw[if_pos (by decide)];refine am ?_;unfold updateField;refine ad (ad (wpAny_load ha ?_));rw[hda];dsimp only;rw[if_pos hw];exact wpAny_update ha (wpAny_throw h)
def pv {it t e:Addr}{i:Nat}{items vs:Array Value}{oe:Obj}{Q:HK}(hA:A.handled=some (.ref e))(he:s.heap.get? e=some oe)(hde:oe.data=.fields vs)(h2:vs[2]? =some .none)(hne:e≠it)
  (hit:s.heap.IsTupleIter it t i) (ht:s.heap.IsTuple t items) (hx:items[i]? =none)
  (hQ:∀ h',Heap.ExtBut it s.heap h'->Q none { s with heap:=h' }):wpAny (model prog w) A (pyNext (.ref it)) Q E s:=by
 obtain⟨o,ho,hc,hd⟩:=id hit;obtain⟨ol,hol,_,nl,hdl⟩:=ht;unfold pyNext;refine ad (wpAny_attempt (wpAny_callSpecial?_slot (name:=Str.ofString "__next__") hit.typeIs F.slot_tuple_iterator_next
  (wpAny_call_entry F.slot_tuple_iterator_next hit.typeIs F.entry_tuple_iterator_next ?_ (F.args_tuple_iterator_next_1 _))))
 show wpAny _ _ (field (.ref it) 0 >>= _) _ _ s;refine ad (ap ho hd (x:=.ref t) rfl ?_);show wpAny _ _ (if(Value.ref t ==Value.none)=true then _ else _) _ _ s;rw[if_neg (show ¬ ((Value.ref t ==Value.none)=true) from Bool.false_ne_true)];show wpAny _ _ (field (.ref it) 1 >>= _) _ _ s;refine ad (ap ho hd (x:=.int i 0) rfl ?_);show wpAny _ _ (seqItems? (.ref t) >>= _) _ _ s;refine ad (wpAny_seqItems hol hdl ?_);simp only[pi,hx];refine ad (wpAny_rule (ad (wpAny_setField ho hd (by simp) ?_)));show wpAny _ _ (newExc (.type "StopIteration") [] >>= _) _ _ _;refine ad ?_;simp only[newExc,newTuple];refine ad (wpAny_newObj_type ?_ (by size_fits));refine ad (m:=firstArgMember _ _) (wpAny_of_eq (a:=Value.none) (by first|rfl|(simp only[firstArgMember];rfl)) ?_);refine wpAny_newObj_type ?_ (by size_fits);have hlt:e<(s.heap.update it (Obj.mapFields (·.setIfInBounds 0 Value.none))).objs.size:=by rw[Heap.size_after_update];exact tz he
 have he1:=(Heap.get?_update_other s.heap (Obj.mapFields (·.setIfInBounds 0 Value.none)) (Ne.symm hne)).trans he;refine jk (A:=A.in1) hA (sK _ (sK _ he1)) hde h2 (ul _ rfl) rfl (by rw[Array.size_append];exact mo (show 2<6 by decide) (Nat.le_add_right ..)) (nw (mo hlt (by rw[Heap.size_push];exact Nat.le_succ _))) ?_;have big:∀ b ob,s.heap.get? b=some ob->b<(s.heap.update it (Obj.mapFields (·.setIfInBounds 0 Value.none))).objs.size:=λb ob q=>by rw[Heap.size_after_update];exact tz q
 refine ad (wpAny_isInstance (T:="StopIteration") (b:=true) ⟨_,Heap.get?_update_self _ (ul _ rfl) (Obj.isFreed_of_fields (Obj.data_mapFields rfl _)),(Obj.cls_mapFields ..).trans rfl⟩ isSubtype_stop ?_);refine am (hQ _ λb ob hb q=>?_);refine(Heap.get?_update_other _ _ (Ne.symm (nw (mo (big b ob q) (by rw[Heap.size_push];exact Nat.le_succ _))))).trans (sK _ (sK _ ?_));exact(Heap.get?_update_other s.heap _ (Ne.symm hb)).trans q
end
def mV {P:Program}{w:World}{K:W.Frag}{tg:Expr}(a it:Addr):Turn P w K et tg (rB K a) [it] it (λi h=>h.IsTupleIter it a i) where
 mem:=(cg (P:=P) (w:=w) (K:=K) (tg:=tg) a it).mem
 obj:=(cg (P:=P) (w:=w) (K:=K) (tg:=tg) a it).obj
 keep:=(cg (P:=P) (w:=w) (K:=K) (tg:=tg) a it).keep
 item:=by
  intro X hP hw hK hc i Y s U H E I hf st hg;subst hP hw hK;obtain⟨xs,x,hq,hx⟩:=hg;obtain⟨its,rv,p,hz⟩:=I.tuple hq;obtain⟨u,hu,ru⟩:=rv.get hx;obtain⟨f0,f1,f2,f3,f4,f5⟩:=hf it (by simp);refine wpAny_pyNext_tuple_item st (show s.heap.IsTuple a its.toArray from p) (x:=u) (by simpa using hu) λh' st' sb=>?_
  have I1:Inv X Y U H { s with heap:=h' }:=I.turned (t':=s.toks) (λb o hb e=>(sb.2 b hb).trans e) f0 f1 f3 f4 f5;obtain⟨o,e,c,d⟩:=id st';exact⟨u,rfl,lH (s:={ s with heap:=h' }) e c d (by decide) ⟨x,H,I1,ru,⟨rfl,λys hy=>by rw[I.dU hy hq];exact hx⟩,st',λb hb=>(hf b hb).1⟩⟩
 done:=by
  intro X hP hw hK hc i Y s U H E I hf st hg;subst hP hw hK;obtain⟨xs,hq,hx⟩:=hg;obtain⟨its,rv,p,hz⟩:=I.tuple hq;obtain⟨f0,f1,f2,f3,f4,f5⟩:=hf it (by simp);obtain⟨e,C,dx,fs,hA,he⟩:=hc;have he':=I.base.frzs e (.exc C dx fs false) rfl he;obtain⟨⟨vs,ho,hsz,_,h2⟩,_⟩:=id (I.hok e _ he');have hl:=rv.length;exact pv hA ho rfl h2 (λz=>by rw[z,f0]at he';cases he') st (show s.heap.IsTuple a its.toArray from p) (by simp;omega) λh' eb=>⟨rfl,I.turned (t':=s.toks) (λb o hb e=>eb b o hb e) f0 f1 f3 f4 f5⟩
 self:=(cg (P:=P) (w:=w) (K:=K) (tg:=tg) a it).self
def et.now {X:Cx}{Y:HN}{U:St}{H:Hp}{s:Shared}(h:et X)(I:Inv X Y U H s):∃ e C dx fs,X.A.handled=some (.ref e)/\H e=some (.exc C dx fs false):=by
 obtain⟨e,C,dx,fs,hA,he⟩:=h;exact⟨e,C,dx,fs,hA,I.base.frzs e (.exc C dx fs false) rfl he⟩
end L2
namespace L2
open PySem PySem.Spec PyProof.Rows
inductive d5 (K:W.Frag) (H:Hp):Nat->V->V->Bool->Prop where
 |flat {n:Nat}{x y:V}(fx:ai x=true) (fy:ai y=true):d5 K H n x y (gf x y)
 |same {n:Nat}(a:Addr):d5 K H (n+1) (.ref a) (.ref a) true
 |ll {n:Nat}{a b:Addr}{xs ys:List V}{e:Nat->Bool}(ha:aL K H a xs) (hb:aL K H b ys) (hl:xs.length=ys.length) (h:∀ j x y,xs[j]? =some x->ys[j]? =some y->d5 K H (n+1) x y (e j)):d5 K H (n+2) (.ref a) (.ref b) ((List.range xs.length).all e)
 |lln {n:Nat}{a b:Addr}{xs ys:List V}(ha:aL K H a xs) (hb:aL K H b ys) (hl:xs.length≠ys.length):d5 K H (n+2) (.ref a) (.ref b) false
 |tt {n:Nat}{a b:Addr}{xs ys:List V}{e:Nat->Bool}(ha:aY K H a xs) (hb:aY K H b ys) (h:∀ j x y,xs[j]? =some x->ys[j]? =some y->d5 K H (n+1) x y (e j)):d5 K H (n+2) (.ref a) (.ref b) ((List.range (min xs.length ys.length)).all e&&xs.length ==ys.length)
variable {A:Around}
section
variable {X:Cx}{Y:HN}{s:Shared}{U:St}{H:Hp}
def uw {y x:V}{u v:Value}(ry:RelV y u)(rx:RelV x v)(fy:ai y=true)(fx:ai x=true):SeqAt.RcAt A s u v (gf y x):=by
 cases y<;>first|cases fy|skip
 all_goals (cases x<;>first|cases fx|skip)
 all_goals (first|(obtain⟨t,rfl⟩:=ry)|cases ry)
 all_goals (first|(obtain⟨t',rfl⟩:=rx)|cases rx)
 .exact SeqAt.RcAt.none_none
 .exact SeqAt.RcAt.none_bool _
 .exact SeqAt.RcAt.none_int _ _
 .exact SeqAt.RcAt.none_str _ _
 .exact SeqAt.RcAt.bool_none _
 .exact SeqAt.RcAt.bool_bool _ _
 .exact SeqAt.RcAt.bool_int _ _ _
 .exact SeqAt.RcAt.bool_str _ _ _
 .exact SeqAt.RcAt.int_none _ _
 .exact SeqAt.RcAt.int_bool _ _ _
 .exact SeqAt.RcAt.int_int _ _ _ _
 .exact SeqAt.RcAt.int_str _ _ _ _
 .exact SeqAt.RcAt.str_none _ _
 .exact SeqAt.RcAt.str_bool _ _ _
 .exact SeqAt.RcAt.str_int _ _ _ _
 .exact SeqAt.RcAt.str_str _ _ _ _
def mR {y x:V}{u v:Value}(ry:RelV y u)(rx:RelV x v)(fy:ai y=true)(fx:ai x=true):SeqAt.RcNeAt A s u v (!gf y x):=by
 cases y<;>first|cases fy|skip
 all_goals (cases x<;>first|cases fx|skip)
 all_goals (first|(obtain⟨t,rfl⟩:=ry)|cases ry)
 all_goals (first|(obtain⟨t',rfl⟩:=rx)|cases rx)
 .exact SeqAt.RcNeAt.none_none
 .exact SeqAt.RcNeAt.none_bool _
 .exact SeqAt.RcNeAt.none_int _ _
 .exact SeqAt.RcNeAt.none_str _ _
 .exact SeqAt.RcNeAt.bool_none _
 .exact SeqAt.RcNeAt.bool_bool _ _
 .exact SeqAt.RcNeAt.bool_int _ _ _
 .exact SeqAt.RcNeAt.bool_str _ _ _
 .exact SeqAt.RcNeAt.int_none _ _
 .exact SeqAt.RcNeAt.int_bool _ _ _
 .exact SeqAt.RcNeAt.int_int _ _ _ _
 .exact SeqAt.RcNeAt.int_str _ _ _ _
 .exact SeqAt.RcNeAt.str_none _ _
 .exact SeqAt.RcNeAt.str_bool _ _ _
 .exact SeqAt.RcNeAt.str_int _ _ _ _
 .exact SeqAt.RcNeAt.str_str _ _ _ _
def eqv_refl (I:Inv X Y U H s):∀ {n:Nat}{x y:V}{b:Bool},d5 X.K H n x y b->x=y->b=true:=by
 intro n x y b h
 induction h with
 | @flat n x y fx fy=>
  rintro rfl;cases x<;>first|(exact absurd fx Bool.false_ne_true)|simp[gf]
 |same a=>intro _;rfl
 | @ll n a b xs ys e ha hb hl h ih=>
  intro z;cases z;have:=I.di ha hb;subst this;rw[all_eq_true];intro j hj;have hj':j<xs.length:=mem_range.mp hj;exact ih j _ _ (jp hj') (jp hj') rfl
 |lln ha hb hl=>intro z;cases z;exact absurd (congrArg List.length (I.di ha hb)) hl
 | @tt n a b xs ys e ha hb h ih=>
  intro z;cases z;have:=I.dU ha hb;subst this;rw[beq_self_eq_true,Bool.and_true,Nat.min_self,all_eq_true];intro j hj;have hj':j<xs.length:=mem_range.mp hj;exact ih j _ _ (jp hj') (jp hj') rfl
def i6 (I:Inv X Y U H s):∀ {n:Nat}{x y:V}{b:Bool},d5 X.K H n x y b->∀ {A:Around}{u v:Value},A.units+n<cLine->RelV x u->RelV y v->
  (SeqAt.EqAt A s u v b)/\(x=y\/SeqAt.RcAt A s u v b/\SeqAt.RcNeAt A s u v (!b)):=by
 intro n x y b h
 induction h with
 |flat fx fy=>intro A u v _ rx ry;exact⟨nV rx ry fx fy,.inr ⟨uw rx ry fx fy,mR rx ry fx fy⟩⟩
 |same a=>intro A u v _ rx ry;cases rx;cases ry;exact⟨SeqAt.EqAt.same _,.inl rfl⟩
 | @ll n a b xs ys e ha hb hl h ih=>
  intro A u v hu rx ry;have hall:=d5.ll ha hb hl h;cases rx;cases ry
  by_cases hab:a=b
  .subst hab;have z:=eqv_refl I hall rfl;rw[z];exact⟨SeqAt.EqAt.same _,.inl rfl⟩
  obtain⟨ia,ra,pa,_⟩:=I.list ha;obtain⟨ib,rb,pb,_⟩:=I.list hb;have e1:ia.toArray.size=xs.length:=by rw[ge,ra.length]
  have e2:ib.toArray.size=ys.length:=by rw[ge,rb.length]
  have he:∀ j (h1:j<ia.toArray.size) (h2:j<ib.toArray.size),SeqAt.EqAt A.in1 s ia.toArray[j] ib.toArray[j] (e j):=λj h1 h2=>by
   obtain⟨x1,f1,r1⟩:=hX ra h1;obtain⟨y1,f2,r2⟩:=hX rb h2;exact(ih j x1 y1 f1 f2 (by show A.units+1+(n+1)<cLine;omega) r1 r2).1
  have rc:=SeqAt.RcAt.lists (A:=A) pa.isList pb.isList (by rw[e1,e2,hl]) nofun he;have rn:=SeqAt.RcNeAt.lists (A:=A) pa.isList pb.isList (by rw[e1,e2,hl]) nofun he;rw[e1]at rc rn;exact⟨SeqAt.EqAt.of_refs hab rc,.inr ⟨rc,rn⟩⟩
 | @lln n a b xs ys ha hb hl=>
  intro A u v hu rx ry;cases rx;cases ry;obtain⟨ia,ra,pa,_⟩:=I.list ha;obtain⟨ib,rb,pb,_⟩:=I.list hb;have hab:a≠b:=λz=>by subst z;exact hl (congrArg List.length (I.di ha hb))
  have hz:(ia.toArray.size != ib.toArray.size)=true:=by
   rw[ge,ge,<-ra.length,<-rb.length];simpa using hl
  have rc:=SeqAt.RcAt.lists_lengths (A:=A) pa.isList pb.isList hz nofun;exact⟨SeqAt.EqAt.of_refs hab rc,.inr ⟨rc,SeqAt.RcNeAt.lists_lengths (A:=A) pa.isList pb.isList hz nofun⟩⟩
 | @tt n a b xs ys e ha hb h ih=>
  intro A u v hu rx ry;have hall:=d5.tt ha hb h;cases rx;cases ry
  by_cases hab:a=b
  .subst hab;have z:=eqv_refl I hall rfl;rw[z];exact⟨SeqAt.EqAt.same _,.inl rfl⟩
  obtain⟨ia,ra,pa,_⟩:=I.tuple ha;obtain⟨ib,rb,pb,_⟩:=I.tuple hb;have e1:ia.toArray.size=xs.length:=by rw[ge,ra.length]
  have e2:ib.toArray.size=ys.length:=by rw[ge,rb.length]
  have he:∀ j (h1:j<ia.toArray.size) (h2:j<ib.toArray.size),SeqAt.EqAt A.in1 s ia.toArray[j] ib.toArray[j] (e j):=λj h1 h2=>by
   obtain⟨x1,f1,r1⟩:=hX ra h1;obtain⟨y1,f2,r2⟩:=hX rb h2;exact(ih j x1 y1 f1 f2 (by show A.units+1+(n+1)<cLine;omega) r1 r2).1
  have rc:=SeqAt.RcAt.tuples (A:=A) (show s.heap.IsTuple a ia.toArray from pa) (show s.heap.IsTuple b ib.toArray from pb) nofun he;have rn:=SeqAt.RcNeAt.tuples (A:=A) (show s.heap.IsTuple a ia.toArray from pa) (show s.heap.IsTuple b ib.toArray from pb) nofun he;rw[e1,e2]at rc rn;exact⟨SeqAt.EqAt.of_refs hab rc,.inr ⟨rc,rn⟩⟩
@[irreducible] noncomputable def eZ (K:W.Frag) (neg:Bool):R2:=λx y H Q=>False\/∃ n b,d5 K H n x y b/\n<=100/\(ai x=true\/x≠y\/(neg=false/\∃ a,x=.ref a/\ud K H a)\/(neg=true/\∃ a,x=.ref a/\tU K H a))/\Q (.bl (if neg then !b else b)) H
def AR (hu:X.A.units+200<cLine):bR X (compareOp .Eq) (eZ X.K false):=by
 intro Y s U H x y v u Q I rx ry h;unfold eZ at h;rcases h with z|⟨n,b,e,hn,hx,q⟩
 .exact z.elim
 rcases(i6 I e (A:=X.A) nofun rx ry).2 with z|⟨z,_⟩
 .subst z;rcases hx with hx|hx
  .have z:=eqv_refl I e rfl;have r:=uw (s:=s) (A:=X.A) rx ry hx hx;have z2:=eqv_refl I (d5.flat (K:=X.K) (H:=H) (n:=0) hx hx) rfl;rw[z2]at r;rw[z]at q;exact PySem.EqBoolInt.of_rc r ⟨.bl true,H,I,rfl,q⟩
  rcases hx with hx|⟨_,a,rfl,hs⟩|⟨hx,_⟩
  .exact absurd rfl hx
  .have z:=eqv_refl I e rfl;rw[z]at q;cases rx;cases ry;exact PySem.EqBoolInt.of_rc (yp (A:=X.A) I hs nofun) ⟨.bl true,H,I,rfl,q⟩
  .cases hx
 .exact PySem.EqBoolInt.of_rc z ⟨.bl b,H,I,rfl,q⟩
def Cv (hu:X.A.units+200<cLine):bR X (compareOp .NotEq) (eZ X.K true):=by
 intro Y s U H x y v u Q I rx ry h;unfold eZ at h;rcases h with z|⟨n,b,e,hn,hx,q⟩
 .exact z.elim
 rcases(i6 I e (A:=X.A) nofun rx ry).2 with z|⟨_,z⟩
 .subst z;rcases hx with hx|hx
  .have z:=eqv_refl I e rfl;have r:=mR (s:=s) (A:=X.A) rx ry hx hx;have z2:=eqv_refl I (d5.flat (K:=X.K) (H:=H) (n:=0) hx hx) rfl;rw[z2]at r;rw[z]at q;exact PySem.EqBoolInt.of_rcne r ⟨.bl false,H,I,rfl,q⟩
  rcases hx with hx|⟨hx,_⟩|⟨_,a,rfl,hs⟩
  .exact absurd rfl hx
  .cases hx
  .have z:=eqv_refl I e rfl;rw[z]at q;cases rx;cases ry;exact PySem.EqBoolInt.of_rcne (xM (A:=X.A) I hs nofun) ⟨.bl false,H,I,rfl,q⟩
 .exact PySem.EqBoolInt.of_rcne z ⟨.bl (!b),H,I,rfl,q⟩
end
@[irreducible] noncomputable def qY (K:W.Frag) (a b:Addr) (H:Hp) (Q:VK):Prop:=(∃ xs ys,H a=some (.lst xs)/\H b=some (.lst ys)/\xs.length+ys.length<=100000/\∀ p,H p=none->Q (.ref p) (upd H p (.lst (xs++ys))))\/zV K (.ref a) (.ref b) H Q
@[irreducible] noncomputable def zF (K:W.Frag) (a:Addr) (k:Int) (H:Hp) (Q:VK):Prop:=(∃ xs,H a=some (.lst xs)/\ -1000<=k/\k<=1000/\xs.length<=1000/\∀ p,H p=none->Q (.ref p) (upd H p (.lst (sn k.toNat xs).flatten)))\/False
abbrev BN (K:W.Frag):R2:=λx y H Q=>match x,y with
 | .int i,.int j=>Q (.int (i+j)) H
 | .str a,.str b=>a.length+b.length<=100000/\Q (.str (a++b)) H
 | .ref a,.ref b=>qY K a b H Q
 |_,_=>False
abbrev Ba:R2:=λx y H Q=>match x,y with
 | .int i,.int j=>Q (.int (i-j)) H
 |_,_=>False
abbrev Cy (K:W.Frag):R2:=λx y H Q=>match x,y with
 | .int i,.int j=>rJ i j/\Q (.int (i*j)) H
 | .ref a,.int k=>zF K a k H Q
 |_,_=>False
abbrev AL:R2:=λx y H Q=>match x,y with
 | .int i,.int j=>(0<j/\j<1073741824)/\Q (.int (i / j)) H
 |_,_=>False
abbrev BE:R2:=λx y H Q=>match x,y with
 | .int i,.int j=>0<j/\Q (.int (i % j)) H
 |_,_=>False
abbrev BS:R2:=λx y H Q=>match x,y with
 | .int i,.int j=>yU i j/\Q (.int (i ^ j.toNat)) H
 |_,_=>False
abbrev AK (K:W.Frag)(op:Operator):R2:=match op with
 | .Add=>BN K
 | .Sub=>Ba
 | .Mult=>Cy K
 | .FloorDiv=>AL
 | .Mod=>BE
 | .Pow=>BS
 |_=>λ_ _ _ _=>False
section
variable {X:Cx}
def jb {n:Nat}(h:n<=1000000):n<=bn:=by rw[sizeLine_eq];omega
def Bg (op:Operator):bR X (binaryOp op) (AK X.K op):=by
 intro Y s U H x y v u Q I rx ry h;cases op with
 |Add=>
  have h':BN X.K x y H Q:=h;unfold BN at h'
  split at h'
  .exact Bl Y s U H _ _ v u Q I rx ry ⟨_,_,rfl,rfl,h'⟩
  .exact nJ Y s U H _ _ v u Q I rx ry ⟨_,_,rfl,rfl,jb nofun,h'.2⟩
  .unfold qY at h';rcases h' with⟨xs,ys,ha,hb,hz,q⟩|h'
   .exact BF Y s U H _ _ v u Q I rx ry ⟨_,_,xs,ys,rfl,rfl,ha,hb,jb nofun,q⟩
   .exact xJ Y s U H _ _ v u Q I rx ry h'
  .exact h'.elim
 |Sub=>
  have h':Ba x y H Q:=h;unfold Ba at h'
  split at h'
  .exact Bj Y s U H _ _ v u Q I rx ry ⟨_,_,rfl,rfl,h'⟩
  .exact h'.elim
 |Mult=>
  have h':Cy X.K x y H Q:=h;unfold Cy at h'
  split at h'
  .exact BO Y s U H _ _ v u Q I rx ry ⟨_,_,rfl,rfl,h'.1,h'.2⟩
  .rename_i k;unfold zF at h';rcases h' with⟨xs,ha,h1,h2,hz,q⟩|h'
   .refine AX Y s U H _ _ v u Q I rx ry ⟨_,k,xs,rfl,rfl,ha,by omega,by omega,jb ?_,q⟩;have:xs.length*k.toNat<=1000*1000:=Nat.mul_le_mul hz nofun
    omega
   .exact h'.elim
  .exact h'.elim
 |FloorDiv=>
  have h':AL x y H Q:=h;unfold AL at h'
  split at h'
  .exact xg Y s U H _ _ v u Q I rx ry ⟨_,_,rfl,rfl,h'.1,h'.2⟩
  .exact h'.elim
 |Mod=>
  have h':BE x y H Q:=h;unfold BE at h'
  split at h'
  .exact CD Y s U H _ _ v u Q I rx ry ⟨_,_,rfl,rfl,h'.1,h'.2⟩
  .exact h'.elim
 |Pow=>
  have h':BS x y H Q:=h;unfold BS at h'
  split at h'
  .exact Bn Y s U H _ _ v u Q I rx ry ⟨_,_,rfl,rfl,h'.1,h'.2⟩
  .exact h'.elim
 |_=>exact(show False from h).elim
abbrev rj (f:Int->Int->Bool):R2:=λx y H Q=>match x,y with
 | .int i,.int j=>Q (.bl (f i j)) H
 |_,_=>False
@[irreducible] noncomputable def DK (K:W.Frag) (neg:Bool):R2:=λx y H Q=>match y with
 | .ref p=>(∃ xs,(aL K H p xs\/aY K H p xs)/\ai x=true/\xs.all ai=true/\Q (.bl (if neg then !BZ x xs else BZ x xs)) H)\/False\/False\/False
 | .str j=>False
 |_=>False
@[irreducible] noncomputable def wV (neg:Bool):R2:=λx y H Q=>match y with
 | .non=>Q (.bl (if neg then !decide (x=.non) else decide (x=.non))) H
 | .bl b=>False
 | .ref b=>False
 |_=>False
abbrev fS (K:W.Frag)(op:CmpOp):R2:=match op with
 | .Eq=>eZ K false
 | .NotEq=>eZ K true
 | .Lt=>rj λi j=>decide (i<j)
 | .LtE=>rj λi j=>decide (i<=j)
 | .Gt=>rj λi j=>decide (j<i)
 | .GtE=>rj λi j=>decide (j<=i)
 | .In=>DK K false
 | .NotIn=>λ_ _ _ _=>False
 | .Is=>wV false
 | .IsNot=>wV true
def kg {f:Int->Int->Bool}{op:CmpOp}(ho:bR X (compareOp op) (yc λi j=>.bl (f i j))):bR X (compareOp op) (rj f):=by
 intro Y s U H x y v u Q I rx ry h;unfold rj at h
 split at h
 .exact ho Y s U H _ _ v u Q I rx ry ⟨_,_,rfl,rfl,h⟩
 .exact h.elim
def AQ (hu:X.A.units+200<cLine)(op:CmpOp):bR X (compareOp op) (fS X.K op):=by
 cases op with
 |Eq=>exact AR hu
 |NotEq=>exact Cv hu
 |Lt=>exact kg Ds
 |LtE=>exact kg Eb
 |Gt=>exact kg DP
 |GtE=>exact kg Df
 |In=>
  intro Y s U H x y v u Q I rx ry h;have h':DK X.K false x y H Q:=h;unfold DK at h'
  split at h'
  .rcases h' with⟨xs,hx,f1,f2,q⟩|g|y|z
   .exact sW Y s U H _ _ v u Q I rx ry ⟨_,xs,rfl,hx,f1,f2,q⟩
   .exact g.elim
   .exact y.elim
   .exact z.elim
  .exact h'.elim
  .exact h'.elim
 |NotIn=>exact λ_ _ _ _ _ _ _ _ _ _ _ _ h=>(show False from h).elim
 |Is=>
  intro Y s U H x y v u Q I rx ry h;have h':wV false x y H Q:=h;unfold wV at h'
  split at h'
  .exact Bz Y s U H _ _ v u Q I rx ry ⟨rfl,h'⟩
  .exact h'.elim
  .exact h'.elim
  .exact h'.elim
 |IsNot=>
  intro Y s U H x y v u Q I rx ry h;have h':wV true x y H Q:=h;unfold wV at h'
  split at h'
  .exact yH Y s U H _ _ v u Q I rx ry ⟨rfl,h'⟩
  .exact h'.elim
  .exact h'.elim
  .exact h'.elim
@[irreducible] noncomputable def wM (K:W.Frag):R2:=λx y H Q=>match x with
 | .ref p=>(∃ xs i v,y=.int i/\(aL K H p xs\/aY K H p xs)/\jw xs i=some v/\Q v H)\/(∃ v,AS H p y (some v)/\Q v H)\/False
 | .str z=>False
 |_=>False
def pw (hu:X.A.units+200<cLine):EG X (wM X.K):=by
 intro value slice Y s U H x y v u Q I rx ry h hs;unfold wM at h
 split at h
 .rcases h with⟨xs,i,w,rfl,hx,ha,q⟩|⟨w,g,q⟩|z
  .rcases hx with hx|hx
   .exact zp value slice Y s U H _ _ v u Q I rx ry ⟨_,xs,i,w,rfl,rfl,hx,ha,q⟩ hs
   .exact BA value slice Y s U H _ _ v u Q I rx ry ⟨_,xs,i,w,rfl,rfl,hx,ha,q⟩ hs
  .cases rx;exact tail_any (mf I g) PySem.F.slot_dict_getitem.lookup (sV nofun I g ry λw' s3 I3 rw'=>⟨w,H,I3,rw',q⟩) hs
  .exact z.elim
 .exact h.elim
 .exact h.elim
@[irreducible] noncomputable def r8:rX:=λo i v H Q=>match o with
 | .ref p=>(∃ xs k j,i=.int k/\H p=some (.lst xs)/\tm xs.length k=some j/\Q (upd H p (.lst (xs.set j v))))\/∃ H4,En H p i v H4/\Q H4
 |_=>False
def qD (hu:X.A.units+200<cLine):xt X r8:=by
 intro Y s U H o i v ov iv u Q I ro ri rv h;unfold r8 at h
 split at h
 .rcases h with⟨xs,k,j,rfl,hp,hj,q⟩|⟨H4,g,q⟩
  .exact set_list Y s U H _ _ v ov iv u Q I ro ri rv ⟨_,xs,k,j,rfl,rfl,hp,hj,q⟩
  .cases ro;exact sG nofun I g ri rv λs4 I4=>⟨H4,I4,q⟩
 .exact h.elim
@[irreducible] noncomputable def wU (K:W.Frag):V->Option Int->Option Int->Hp->VK->Prop:=λx lo hi H Q=>match x with
 | .ref a=>(∃ xs,aL K H a xs/\∀ p,H p=none->Q (.ref p) (upd H p (.lst (aZ xs lo hi))))\/Ew K (.ref a) lo hi H Q
 | .str z=>False
 |_=>False
def Cs:DG X (wU X.K):=by
 intro Y s U H x v vl vu lo hi sl Q I rx hs pl pu h;unfold wU at h
 split at h
 .rcases h with⟨xs,hx,q⟩|h
  .exact zB Y s U H _ v vl vu lo hi sl Q I rx hs pl pu ⟨_,xs,rfl,hx,q⟩
  .exact Co Y s U H _ v vl vu lo hi sl Q I rx hs pl pu h
 .exact h.elim
 .exact h.elim
end
end L2
namespace L3
open PySem L2
set_option genSizeOf false
inductive Bf where
 |len|list|tuple|int|str|min|max|abs|all|any|dict|sum
 deriving DecidableEq
inductive Lm where
 |append|extend|insert|pop|clear|reverse|count
 deriving DecidableEq
inductive Sm where
 |join|split|starts
 deriving DecidableEq
inductive Cl where
 |own (c:Nat)|ty (n:String)
mutual
inductive Ex where
 |v (i:Nat)|int (i:Int)|bl (b:Bool)|non|str (x:Str)|gl (x:Str)
 |bin (op:Operator) (a b:Ex)|neg (a:Ex)|not (a:Ex)|and (a b:Ex)|or (a b:Ex)
 |cmp (op:CmpOp) (a b:Ex)|cmp2 (o1 o2:CmpOp) (a b c:Ex)|cmp3 (o1 o2 o3:CmpOp) (a b c d:Ex)
 |ife (c:Tx) (a b:Ex)|tup (es:fc)|lst (es:fc)|ix (a i:Ex)|sl (a:Ex) (lo hi:Fc)
 |fld (a:Ex) (f:Str)|call (f:Nat) (es:fc)|meth (a:Ex) (m:Str) (es:fc)|lm (m:Lm) (a:Ex) (es:fc)|make (c:Nat) (es:fc)|bini (es:fc)|cini (c:Nat) (es:fc)
 |bf (b:Bf) (es:fc)|sm (m:Sm) (a b:Ex)|isi (a:Ex) (c:Cl)|lc (elt:Ex) (sel:List Nat) (it:xb)|lci (elt:Ex) (c:Tx) (sel:List Nat) (it:xb)|lct (elt:Ex) (n:Nat) (sel:List Nat) (it:xb)|lcu (elt:Ex) (c:Tx) (n:Nat) (sel:List Nat) (it:xb)|dnew|up (a:Ex)|dzip (a b:Ex)|isiT (a:Ex) (cs:List Nat)|vals (tp:Bool) (a:Ex)|mk0 (c:Nat)|disp (ks:List Str) (es:fc)|lix (a b:Ex)|rev (a b:Ex)|dget (a k d:Ex)|dupd (a b:Ex)
inductive Tx where
 |not (a:Tx)|and (a b:Tx)|or (a b:Tx)|cmp (op:CmpOp) (a b:Ex)|cmp2 (o1 o2:CmpOp) (a b c:Ex)|cmp3 (o1 o2 o3:CmpOp) (a b c d:Ex)|val (e:Ex)
inductive fc where
 |nil|cons (e:Ex) (es:fc)
inductive Fc where
 |no|yes (e:Ex)
inductive xb where
 |rng1 (a:Ex)|rng2 (a b:Ex)|rng3 (a b c:Ex)|enm (a:Ex)|enf (a:Ex)|seq (a:Ex)|zip (a b:Ex)|zip3 (a b c:Ex)
end
inductive E3 where
 |nm (i:Nat)|tp (is:List Nat)|nt (i:Nat) (is:List Nat)
mutual
inductive Sx where
 |asg (i:Nat) (e:Ex)|asgT (is:List Nat) (e:Ex)|par (is:List Nat) (es:fc)|sub (o i v:Ex)|fld (o:Ex) (f:Str) (v:Ex)
 |aug (i:Nat) (op:Operator) (e:Ex)|augS (o i:Ex) (op:Operator) (e:Ex)|augF (o:Ex) (f:Str) (op:Operator) (e:Ex)
 |ret (e:Ex)|retN|pass|brk|cont|expr (e:Ex)
 |ife (c:Tx) (a b:jr)|whl (c:Tx) (b:jr)|for (t:E3) (it:xb) (b:jr)|rais (e:Ex)|tryx (b:jr) (hs:wQ)
inductive jr where
 |nil|cons (s:Sx) (r:jr)
inductive wQ where
 |nil|cons (c:Nat) (i:Nat) (b:jr) (hs:wQ)
end
structure aD where
 ps:List Str
 N:List Str
 dfl:List V
 body:jr
/-- what of the text never changes. gfn,gcl:the global names of defs and classes,by number;gbl:built-in names that are not shadowed;gbi:classes of exceptions whose __init__ is the built-in one;na:class and name that no class of it has;
  me:class,name,def;ini:class,its __init__;oc,xc:plain classes,classes of exceptions;sub,subT:isinstance -/
structure Tab where
 fns:List aD
 gfn:List (Str×Nat)
 gcl:List (Str×Nat)
 gbl:List Str
 gbi:List Str
 na:List (Nat×Str)
 me:List ((Nat×Str)×Nat)
 ini:List (Nat×Nat)
 ini0:List Nat
 inip:List Nat
 oc:List Nat
 xc:List Nat
 sub:List ((Nat×Nat)×Bool)
 subT:List ((Nat×String)×Bool)
 subB:List ((String×String)×Bool)
 subO:List ((String×Nat)×Bool)
 cin:List (Nat×Nat):=[]
structure Rt where
 K:W.Frag
 fad:Nat->Addr
 cad:Nat->Addr
 gl:Str->Option V
inductive Md
 |calm
 |soft
 |aN (e:Addr)
 |mute
abbrev Md.b:Md->Bool
 | .calm=>true
 |_=>false
abbrev Fi (m:Md)(A B:Prop):Prop:=match m with
 | .calm=>m=.calm/\A
 | .soft=>B
 |_=>False
def vS {m:Md}{A B:Prop}(h:Fi m A B):(m=.calm/\A)\/(m=.soft/\B):=by
 cases m with
 |calm=>exact .inl h
 |soft=>exact .inr ⟨rfl,h⟩
 |aN e=>exact h.elim
 |mute=>exact h.elim
structure Gx where
 T:Tab
 R:Rt
 Ψ:Nat->Sp
 cm:Md
abbrev Gx.yv (G:Gx)(f:Nat):Sp:=match G.cm with
 | .calm=>G.Ψ f
 | .soft=>G.Ψ f
 | .aN e=>λvs H Q E=>(∃ C dx fs,H e=some (.exc C dx fs false))/\G.Ψ (f+G.T.fns.length) vs H Q E
 | .mute=>λ_ _ _ _=>False
@[irreducible] noncomputable def fV (c:Bool) (A B:Prop):Prop:=match c with
 |true=>A
 |false=>B
def bX (c:Bool)(A B:Prop):fV c A B=(if c=true then A else B):=by unfold fV;cases c<;>rfl
abbrev B3 (K:W.Frag)(x:V)(H:Hp)(Q:Bool->Hp->Prop):Prop:=match x with
 | .bl k=>Q k H
 |y=>∃ k,xD K y H k/\Q k H
abbrev tyName:V->Hp->Option String
 | .non,_=>some "NoneType"
 | .bl _,_=>some "bool"
 | .int _,_=>some "int"
 | .str _,_=>some "str"
 | .ref a,H=>match H a with
  |some (.lst _)=>some "list"
  |some (.tup _)=>some "tuple"
  |some (.dK _)=>some "dict"
  |some (.gO _ (.dK _))=>some "dict"
  |_=>none
 |_,_=>none
@[irreducible] noncomputable def jt (G:Gx) (b:Bf) (vs:List V) (H:Hp) (Q:VK):Prop:=match b with
 | .len=>∃ x n,vs=[x]/\Dy G.R.K x H n/\Q (.int n) H
 | .list=>(∃ p ys,vs=[.ref p]/\(aL G.R.K H p ys\/aY G.R.K H p ys)/\∀ l,H l=none->Q (.ref l) (upd H l (.lst ys)))\/(G.cm=.calm/\∃ p kvs,vs=[.ref p]/\Rd H p (.dK kvs)/\∀ l,H l=none->Q (.ref l) (upd H l (.lst (kvs.map (λkv=>kV kv.1)))))
 | .tuple=>∃ p ys,vs=[.ref p]/\((aL G.R.K H p ys/\∀ l,H l=none->Q (.ref l) (upd H l (.tup ys)))\/(aY G.R.K H p ys/\Q (.ref p) H))
 | .int=>False
 | .str=>(∃ i,vs=[.int i]/\i.natAbs.log2<1920/\Q (.str (toString i)) H)\/∃ z,vs=[.str z]/\Q (.str z) H
 | .min=>G.cm=.calm/\((∃ i j,vs=[.int i,.int j]/\Q (.int (if j<i then j else i)) H)\/False)
 | .max=>G.cm=.calm/\((∃ i j,vs=[.int i,.int j]/\Q (.int (if j>i then j else i)) H)\/False)
 | .abs=>False
 | .all=>G.cm=.calm/\∃ p,∃ bs:List Bool,vs=[.ref p]/\aL G.R.K H p (bs.map V.bl)/\Q (.bl (bs.all id)) H
 | .any=>False
 | .dict=>∃ p kvs,vs=[.ref p]/\H p=some (.dK kvs)/\∀ l,H l=none->Q (.ref l) (upd H l (.dK kvs))
 | .sum=>False
@[irreducible] noncomputable def yo (m:Lm) (p:Addr) (xs:List V) (vs:List V) (H:Hp) (Q:VK):Prop:=match m with
 | .append=>∃ y,vs=[y]/\xs.length<=10000/\Q .non (upd H p (.lst (xs++[y])))
 | .extend=>∃ b zs,vs=[.ref b]/\H b=some (.lst zs)/\xs.length+zs.length<=10000/\Q .non (upd H p (.lst (xs++zs)))
 | .insert=>∃ i y,vs=[.int i,y]/\0<=i/\i<=xs.length/\xs.length<=10000/\Q .non (upd H p (.lst (xs.take i.toNat++y::xs.drop i.toNat)))
 | .pop=>False
 | .clear=>False
 | .reverse=>False
 | .count=>∃ k,vs=[k]/\ai k=true/\xs.all ai=true/\Q (.int (xs.countP (λx=>gf x k))) H
abbrev dflt (G:Gx)(f n:Nat):List V:=match G.T.fns[f]? with
 |some d=>d.dfl.drop (n+d.dfl.length-d.ps.length)
 |none=>[]
abbrev fc.len:fc->Nat
 | .nil=>0
 | .cons _ es=>es.len+1
abbrev qM (G:Gx)(H:Hp)(a:Addr)(i:Nat):Prop:=(G.T.oc.contains i=true/\∃ dx fs,H a=some (.ins (G.R.cad i) dx fs))\/(G.T.xc.contains i=true/\∃ dx fs fr,H a=some (.exc (G.R.cad i) dx fs fr))
@[irreducible] noncomputable def cV (G:Gx) (c:Cl) (x:V) (H:Hp) (Q:VK):Prop:=match c with
 | .ty n=>(∃ t b,tyName x H=some t/\G.T.subB.lookup (t,n)=some b/\Q (.bl b) H)\/∃ a i b,x=.ref a/\qM G H a i/\G.T.subT.lookup (i,n)=some b/\Q (.bl b) H
 | .own j=>(∃ t b,tyName x H=some t/\G.T.subO.lookup (t,j)=some b/\Q (.bl b) H)\/∃ a i b,x=.ref a/\qM G H a i/\G.T.sub.lookup (i,j)=some b/\Q (.bl b) H
abbrev anyS (G:Gx)(i:Nat):List Nat->Option Bool
 | []=>some false
 |c::r=>match G.T.sub.lookup (i,c) with
  |some true=>some true
  |some false=>anyS G i r
  |none=>none
abbrev yE (G:Gx)(t:String):List Nat->Option Bool
 | []=>some false
 |c::r=>match G.T.subO.lookup (t,c) with
  |some true=>some true
  |some false=>yE G t r
  |none=>none
@[irreducible] noncomputable def fw (G:Gx) (cs:List Nat) (x:V) (H:Hp) (Q:VK):Prop:=(∃ t b,tyName x H=some t/\yE G t cs=some b/\Q (.bl b) H)\/∃ a i b,x=.ref a/\qM G H a i/\anyS G i cs=some b/\Q (.bl b) H
@[irreducible] noncomputable def ow (G:Gx) (f:Str) (x:V) (H:Hp) (Q:VK):Prop:=∃ a i fs v,x=.ref a/\((G.T.oc.contains i=true/\∃ dx,H a=some (.ins (G.R.cad i) dx fs))\/(G.T.xc.contains i=true/\∃ dx fr,H a=some (.exc (G.R.cad i) (some dx) fs fr)))/\
 G.T.na.contains (i,f)=true/\fs.lookup f=some v/\Q v H
@[irreducible] noncomputable def AG (G:Gx) (f:Str) (x y:V) (H:Hp) (Q:Hp->Prop):Prop:=∃ a i,x=.ref a/\G.T.na.contains (i,f)=true/\
 ((∃ dx fs,G.T.oc.contains i=true/\H a=some (.ins (G.R.cad i) dx fs)/\fs.length<1000/\Q (upd H a (.ins (G.R.cad i) dx (cF f y fs))))\/
  (∃ d fs,G.T.xc.contains i=true/\H a=some (.exc (G.R.cad i) (some d) fs true)/\fs.length<1000/\Q (upd H a (.exc (G.R.cad i) (some d) (cF f y fs) true)))\/
  (G.T.xc.contains i=true/\H a=some (.exc (G.R.cad i) none [] true)/\∀ d,H d=none->Q (upd (upd H d (.own a)) a (.exc (G.R.cad i) (some d) [(f,y)] true))))
abbrev F4 (op:Operator)(x y:V)(H:Hp)(Q:VK):Prop:=match op,x,y with
 | .Add,.int i,.int j=>Q (.int (i+j)) H
 | .Sub,.int i,.int j=>Q (.int (i-j)) H
 |_,_,_=>False
@[irreducible] noncomputable def tR (K:W.Frag) (x y:V) (H:Hp) (Q:VK):Prop:=match x,y with
 | .ref p,.int i=>∃ xs v,aL K H p xs/\0<=i/\xs[i.toNat]? =some v/\Q v H
 |_,_=>False
abbrev qV (U:St):List Nat->List V->St
 |i::is,x::xs=>qV (U.set i (some x)) is xs
 |_,_=>U
@[irreducible] noncomputable def zr (xs:List V) (H:Hp) (Q:VK):Prop:=xs.length<=10000/\∀ p,H p=none->Q (.ref p) (upd H p (.lst xs))
@[irreducible] noncomputable def dg (xs:List V) (H:Hp) (Q:VK):Prop:=xs.length<=10000/\∀ p,H p=none->Q (.ref p) (upd H p (.tup xs))
@[irreducible] noncomputable def newD (H:Hp) (Q:VK):Prop:=∀ p,H p=none->Q (.ref p) (upd H p (.dK []))
@[irreducible] noncomputable def xE (l:Addr) (H:Hp) (R:It->Hp->Prop):Prop:=(∃ xs,H l=some (.lst xs))/\R (EO l) H
@[irreducible] noncomputable def ku (K:W.Frag) (p:Addr) (H:Hp) (R:It->Hp->Prop):Prop:=((∃ xs,aL K H p xs)/\R (De K p) H)\/((∃ xs,aY K H p xs)/\R (rB K p) H)\/False
@[irreducible] noncomputable def zq (K:W.Frag) (x y:V) (H:Hp) (R:It->Hp->Prop):Prop:=EB K x y H R
@[irreducible] noncomputable def wF (C:Addr) (H:Hp) (Q:VK):Prop:=∀ x dx,H x=none->H dx=none->dx≠x->Q (.ref x) (upd (upd H dx (.own x)) x (.ins C dx []))
@[irreducible] noncomputable def DJ (K:W.Frag) (x y:V) (H:Hp) (Q:VK):Prop:=Gu K x y H Q
@[irreducible] noncomputable def uY (K:W.Frag) (p:Addr) (y:V) (H:Hp) (Q:VK):Prop:=∃ xs,∃ (e:V->Bool) (j:Nat) (x:V),H p=some (.lst xs)/\xs.length<=10000/\(∀ x ∈ xs,∃ n,n<=100/\d5 K H n x y (e x))/\xs[j]? =some x/\e x=true/\(∀ (m:Nat) x,m<j->xs[m]? =some x->e x=false)/\Q (.int (j:Int)) H
@[irreducible] noncomputable def pY (te:TE) (J:It) (σ₀:St) (H1:Hp) (Q:VK):Prop:=LC te J σ₀ H1 Q
def lu: @pY= @LC:=by
 funext te J U H Q
 unfold pY
 rfl
@[irreducible] noncomputable def Gj (tc:TT) (te:TE) (J:It) (σ₀:St) (H1:Hp) (Q:VK):Prop:=LCg (fh 0) tc te J σ₀ H1 Q
def Ci: @Gj= @LCg (fh 0):=by
 funext tc te J U H Q
 unfold Gj
 rfl
abbrev gl (is:List Nat):w9:=λvs U H Q=>vs.length=is.length/\Q (qV U is vs) H
@[irreducible] noncomputable def LCt (K:W.Frag) (n:Nat) (te:TE) (J:It) (σ₀:St) (H1:Hp) (Q:VK):Prop:=LCg (zD K n (gl (List.range n))) yes te J σ₀ H1 Q
def vj {K:W.Frag}{n:Nat}:LCt K n=LCg (zD K n (gl (List.range n))) yes:=by
 funext te J U H Q
 unfold LCt
 rfl
mutual
noncomputable def wE (G:Gx):Ex->St->Hp->VK->XK->Prop
 | .v i,U,H,Q,_=>match U[i]? with
  |some (some x)=>Q x H
  |_=>False
 | .int i,_,H,Q,_=>Q (.int i) H
 | .bl b,_,H,Q,_=>Q (.bl b) H
 | .non,_,H,Q,_=>Q .non H
 | .str x,_,H,Q,_=>Q (.str x) H
 | .gl x,_,H,Q,_=>match G.R.gl x with
  |some v=>Q v H
  |none=>False
 | .bin op a b,U,H,Q,E=>wE G a U H (λx H1=>wE G b U H1 (λy H2=>AK G.R.K op x y H2 Q) E) E
 | .neg a,U,H,Q,E=>wE G a U H (λx H1=>match x with| .int i=>Q (.int (-i)) H1|_=>False) E
 | .not a,U,H,Q,E=>wE G a U H (λx H1=>match x with| .bl c=>Q (.bl (!c)) H1|_=>False) E
 | .and a b,U,H,Q,E=>wE G a U H (λx H1=>match x with| .bl c=>fV c (wE G b U H1 Q E) (Q (.bl false) H1)|_=>False) E
 | .or a b,U,H,Q,E=>wE G a U H (λx H1=>match x with| .bl c=>fV c (Q (.bl true) H1) (wE G b U H1 Q E)|_=>False) E
 | .cmp op a b,U,H,Q,E=>wE G a U H (λx H1=>wE G b U H1 (λy H2=>fS G.R.K op x y H2 Q) E) E
 | .cmp2 o1 o2 a b c,U,H,Q,E=>wE G a U H (λx H1=>wE G b U H1 (λy H2=>fS G.R.K o1 x y H2 λz H3=>match z with| .bl k=>fV k (wE G c U H3 (λw H4=>fS G.R.K o2 y w H4 Q) E) (Q (.bl false) H3)|_=>False) E) E
 | .cmp3 o1 o2 o3 a b c d,U,H,Q,E=>wE G a U H (λx H1=>wE G b U H1 (λy H2=>fS G.R.K o1 x y H2 λz H3=>match z with| .bl k=>fV k (wE G c U H3 (λw H4=>fS G.R.K o2 y w H4 λz' H5=>match z' with| .bl k'=>fV k' (wE G d U H5 (λw2 H6=>fS G.R.K o3 w w2 H6 Q) E) (Q (.bl false) H5)|_=>False) E) (Q (.bl false) H3)|_=>False) E) E
 | .ife c a b,U,H,Q,E=>wT G c U H (λk H1=>fV k (wE G a U H1 Q E) (wE G b U H1 Q E)) E
 | .tup es,U,H,Q,E=>wEs G es U H (λxs H1=>dg xs H1 Q) E
 | .lst es,U,H,Q,E=>wEs G es U H (λxs H1=>zr xs H1 Q) E
 | .ix a i,U,H,Q,E=>wE G a U H (λx H1=>wE G i U H1 (λy H2=>wM G.R.K x y H2 Q) E) E
 | .sl a lo hi,U,H,Q,E=>wE G a U H (λx H1=>wO G lo U H1 (λl H2=>wO G hi U H2 (λu H3=>wU G.R.K x l u H3 Q) E) E) E
 | .fld a f,U,H,Q,E=>wE G a U H (λx H1=>ow G f x H1 Q) E
 | .call f es,U,H,Q,E=>G.cm=G.cm/\wEs G es U H (λvs H1=>G.yv f (vs++dflt G f es.len) H1 Q E) E
 | .meth a m es,U,H,Q,E=>G.cm=G.cm/\wE G a U H (λx H1=>∃ p i dx fs f,x=.ref p/\H1 p=some (.ins (G.R.cad i) dx fs)/\fs.lookup m=none/\G.T.me.lookup (i,m)=some f/\
   wEs G es U H1 (λvs H2=>G.yv f (x::(vs++dflt G f (es.len+1))) H2 Q E) E) E
 | .lm m a es,U,H,Q,E=>wE G a U H (λx H1=>∃ p xs0,x=.ref p/\H1 p=some (.lst xs0)/\wEs G es U H1 (λvs H2=>∃ xs,H2 p=some (.lst xs)/\yo m p xs vs H2 Q) E) E
 | .make c es,U,H,Q,E=>G.cm=G.cm/\match G.T.ini.lookup c with
  |none=>G.T.ini0.contains c=true/\wEs G es U H (λvs H1=>vs.length=1/\∀ x,H1 x=none->Q (.ref x) (upd H1 x (.exc (G.R.cad c) none [] true))) E
  |some f=>if G.T.xc.contains c=true then wEs G es U H (λvs H1=>vs.length<=1000/\∀ x,H1 x=none->G.yv f (.ref x::(vs++dflt G f (es.len+1))) (upd H1 x (.exc (G.R.cad c) none [] true)) (λv H2=>v=.non/\Q (.ref x) H2) E) E
   else wEs G es U H (λvs H1=>∀ x dx,H1 x=none->H1 dx=none->dx≠x->G.yv f (.ref x::(vs++dflt G f (es.len+1))) (upd (upd H1 dx (.own x)) x (.ins (G.R.cad c) dx [])) (λv H2=>v=.non/\Q (.ref x) H2) E) E
 | .bini es,U,H,Q,E=>wEs G es U H (λvs H1=>∃ a i dx fs fr v,vs=[.ref a,v]/\H1 a=some (.exc (G.R.cad i) dx fs fr)/\G.T.xc.contains i=true/\Q .non H1) E
 | .cini c es,U,H,Q,E=>False
 | .bf b es,U,H,Q,E=>wEs G es U H (λvs H1=>jt G b vs H1 Q) E
 | .isi a c,U,H,Q,E=>wE G a U H (λx H1=>cV G c x H1 Q) E
 | .lc elt sel it,U,H,Q,E=>Fi G.cm (wI G it U H (λJ H1=>pY (λσ' H' Q'=>wE G elt σ' H' Q' E) J (none::dD U sel) H1 Q) E) (FR G it U H (λJ H1=>pY (λσ' H' Q'=>wE { G with cm:=.mute } elt σ' H' Q' E) J (none::dD U sel) H1 Q) E)
 | .lci elt c sel it,U,H,Q,E=>False
 | .lct elt n sel it,U,H,Q,E=>G.cm=.calm/\wI G it U H (λJ H1=>LCt G.R.K n (λσ' H' Q'=>wE G elt σ' H' Q' E) J (sn n none++dD U sel) H1 Q) E
 | .lcu elt c n sel it,U,H,Q,E=>False
 | .dnew,_,H,Q,_=>newD H Q
 | .sm m a b,U,H,Q,E=>False
 | .up a,U,H,Q,E=>False
 | .isiT a cs,U,H,Q,E=>wE G a U H (λx H1=>∀ p,H1 p=none->fw G cs x (upd H1 p (.tup (cs.map λc=>.ref (G.R.cad c)))) Q) E
 | .mk0 c,_,H,Q,_=>wF (G.R.cad c) H Q
 | .disp ks es,U,H,Q,E=>False
 | .dget a k d,U,H,Q,E=>False
 | .dupd a b,U,H,Q,E=>False
 | .rev a b,U,H,Q,E=>False
 | .lix a b,U,H,Q,E=>wE G a U H (λx H1=>∃ p xs0,x=.ref p/\H1 p=some (.lst xs0)/\wE G b U H1 (λy H2=>uY G.R.K p y H2 Q) E) E
 | .vals tp a,U,H,Q,E=>False
 | .dzip a b,U,H,Q,E=>G.cm=.calm/\wE G a U H (λx H1=>wE G b U H1 (λy H2=>DJ G.R.K x y H2 Q) E) E
noncomputable def wT (G:Gx):Tx->St->Hp->(Bool->Hp->Prop)->XK->Prop
 | .not a,U,H,Q,E=>wT G a U H (λc H1=>Q (!c) H1) E
 | .and a b,U,H,Q,E=>wT G a U H (λc H1=>fV c (wT G b U H1 Q E) (Q false H1)) E
 | .or a b,U,H,Q,E=>wT G a U H (λc H1=>fV c (Q true H1) (wT G b U H1 Q E)) E
 | .cmp op a b,U,H,Q,E=>wE G a U H (λx H1=>wE G b U H1 (λy H2=>fS G.R.K op x y H2 λz H3=>match z with| .bl k=>Q k H3|_=>False) E) E
 | .cmp2 o1 o2 a b c,U,H,Q,E=>wE G a U H (λx H1=>wE G b U H1 (λy H2=>fS G.R.K o1 x y H2 λz H3=>match z with| .bl k=>fV k (wE G c U H3 (λw H4=>fS G.R.K o2 y w H4 λz H5=>match z with| .bl k=>Q k H5|_=>False) E) (Q false H3)|_=>False) E) E
 | .cmp3 o1 o2 o3 a b c d,U,H,Q,E=>wE G a U H (λx H1=>wE G b U H1 (λy H2=>fS G.R.K o1 x y H2 λz H3=>match z with| .bl k=>fV k (wE G c U H3 (λw H4=>fS G.R.K o2 y w H4 λz' H5=>match z' with| .bl k'=>fV k' (wE G d U H5 (λw2 H6=>fS G.R.K o3 w w2 H6 λz H7=>match z with| .bl k=>Q k H7|_=>False) E) (Q false H5)|_=>False) E) (Q false H3)|_=>False) E) E
 | .val e,U,H,Q,E=>wE G e U H (λx H1=>B3 G.R.K x H1 Q) E
noncomputable def wEs (G:Gx):fc->St->Hp->(List V->Hp->Prop)->XK->Prop
 | .nil,_,H,Q,_=>Q [] H
 | .cons e es,U,H,Q,E=>wE G e U H (λx H1=>wEs G es U H1 (λxs H2=>Q (x::xs) H2) E) E
noncomputable def wO (G:Gx):Fc->St->Hp->(Option Int->Hp->Prop)->XK->Prop
 | .no,_,H,Q,_=>Q none H
 | .yes e,U,H,Q,E=>wE G e U H (λx H1=>match x with| .int i=>Q (some i) H1|_=>False) E
noncomputable def FR (G:Gx):xb->St->Hp->(It->Hp->Prop)->XK->Prop
 | .seq a,U,H,R,E=>wE G a U H (λx H1=>match x with| .ref p=>(∃ xs,aY G.R.K H1 p xs)/\R (rB G.R.K p) H1|_=>False) E
 |_,_,_,_,_=>False
noncomputable def wI (G:Gx):xb->St->Hp->(It->Hp->Prop)->XK->Prop
 | .rng1 a,U,H,R,E=>wE G a U H (λx H1=>match x with| .int j=>-(2 ^ 62)<=j/\j<2 ^ 62/\R (Dc 0 j.toNat) H1|_=>False) E
 | .rng2 a b,U,H,R,E=>False
 | .rng3 a b c,U,H,R,E=>False
 | .enm a,U,H,R,E=>wE G a U H (λx H1=>match x with| .ref l=>xE l H1 R|_=>False) E
 | .enf a,U,H,R,E=>False
 | .seq a,U,H,R,E=>wE G a U H (λx H1=>match x with| .ref p=>ku G.R.K p H1 R| .str z=>R (C9 z) H1|_=>False) E
 | .zip a b,U,H,R,E=>wE G a U H (λx H1=>wE G b U H1 (λy H2=>zq G.R.K x y H2 R) E) E
 | .zip3 a b c,U,H,R,E=>False
end
abbrev D5 (D:Ends)(f:St->Hp->Prop):Ends:={ D with nx:=f }
abbrev Er (D:Ends)(N:St->Hp->Prop):Ends:={ D with nx:=N,ct:=N,bk:=D.nx }
abbrev G0 (D:Ends)(i:Nat):Ends:={ nx:=λσ' H'=>D.nx (σ'.set i none) H',rt:=D.rt,bk:=λσ' H'=>D.bk (σ'.set i none) H',ct:=λσ' H'=>D.ct (σ'.set i none) H' }
abbrev wG (U:St)(t:E3)(K:W.Frag)(x:V)(H:Hp)(Q:St->Prop):Prop:=match t with
 | .nm i=>Q (U.set i (some x))
 | .tp is=>∃ a xs,x=.ref a/\(aY K H a xs\/aL K H a xs)/\xs.length=is.length/\Q (qV U is xs)
 | .nt i is=>∃ a y b ys,x=.ref a/\aY K H a [y,.ref b]/\aY K H b ys/\ys.length=is.length/\Q (qV (U.set i (some y)) is ys)
@[irreducible] noncomputable def jz (J:It) (D:Ends) (F:(St->Hp->Prop)->V->St->Hp->Prop) (U:St) (H1:Hp):Prop:=∃ W:Nat->Nat->St->Hp->Prop,(∃ m,W 0 m U H1)/\∀ i m U H,W i m U H->
 (J.stop i H/\D.nx U H)\/(J.go i H/\∃ N:St->Hp->Prop,(∀ σ' H',N σ' H'->∃ m',m'<m/\W (i+1) m' σ' H')/\∀ x H',J.yld i H x H'->F N x U H')
mutual
noncomputable def wS:Sx->Gx->Ends->(St->XK)->St->Hp->Prop
 | .asg i e,G,D,E,U,H=>wE G e U H (λx H1=>D.nx (U.set i (some x)) H1) (E U)
 | .asgT is e,G,D,E,U,H=>G.cm=.calm/\wE G e U H (λx H1=>wG U (.tp is) G.R.K x H1 λσ1=>D.nx σ1 H1) (E U)
 | .par is es,G,D,E,U,H=>G.cm=.calm/\wEs G es U H (λxs H1=>xs.length=is.length/\D.nx (qV U is xs) H1) (E U)
 | .sub o i v,G,D,E,U,H=>wE G v U H (λy H1=>wE G o U H1 (λov H2=>wE G i U H2 (λiv H3=>r8 ov iv y H3 (λH4=>D.nx U H4)) (E U)) (E U)) (E U)
 | .fld o f v,G,D,E,U,H=>wE G v U H (λy H1=>wE G o U H1 (λx H2=>AG G f x y H2 (λH3=>D.nx U H3)) (E U)) (E U)
 | .aug i op e,G,D,E,U,H=>False
 | .augS o i op e,G,D,E,U,H=>wE G o U H (λov H1=>wE G i U H1 (λiv H2=>tR G.R.K ov iv H2 (λx H3=>wE G e U H3 (λy H4=>F4 op x y H4 (λz H5=>r8 ov iv z H5 (λH6=>D.nx U H6))) (E U))) (E U)) (E U)
 | .augF o f op e,G,D,E,U,H=>False
 | .ret e,G,D,E,U,H=>wE G e U H D.rt (E U)
 | .retN,_,D,_,_,H=>False
 | .pass,_,D,_,U,H=>False
 | .brk,_,D,_,U,H=>False
 | .cont,_,D,_,U,H=>False
 | .expr e,G,D,E,U,H=>wE G e U H (λ_ H1=>D.nx U H1) (E U)
 | .ife c a b,G,D,E,U,H=>wT G c U H (λk H1=>fV k (wB a G D E U H1) (wB b G D E U H1)) (E U)
 | .whl c b,G,D,E,U,H=>False
 | .for t it b,G,D,E,U,H=>G.cm=.calm/\wI G it U H (λJ H1=>jz J D (λN x U H'=>wG U t G.R.K x H' λσ2=>wB b G (Er D N) E σ2 H') U H1) (E U)
 | .rais e,G,_,E,U,H=>G.cm=.calm/\wE G e U H (λv H1=>∃ a i dx fs,v=.ref a/\H1 a=some (.exc (G.R.cad i) dx fs true)/\G.T.xc.contains i=true/\E U a (upd H1 a (.exc (G.R.cad i) dx fs false))) (E U)
 | .tryx b hs,G,D,_,U,H=>G.cm=.calm/\wB b G D (λσ' e H'=>wH hs G D σ' e H') U H
noncomputable def wB:jr->Gx->Ends->(St->XK)->St->Hp->Prop
 | .nil,_,D,_,U,H=>D.nx U H
 | .cons s r,G,D,E,U,H=>wS s G (D5 D λσ1 H1=>wB r G D E σ1 H1) E U H
noncomputable def wH:wQ->Gx->Ends->St->Addr->Hp->Prop
 | .nil,_,_,_,_,_=>False
 | .cons c i b hs,G,D,U,e,H=>∃ j dx fs k,H e=some (.exc (G.R.cad j) dx fs false)/\G.T.xc.contains j=true/\G.T.sub.lookup (j,c)=some k/\
   fV k (wB b { G with cm:=.aN e } (G0 D i) (λ_ _ _=>False) (U.set i (some (.ref e))) H)
    (wH hs G D U e H)
end
end L3
namespace L3
open PySem PySem.Spec L2 PyProof.Rows
structure Sn where
 T:Tab
 sc:Scope
 N:List Str
abbrev Sn.j8 (S:Sn)(x:Str):Bool:=decide (S.sc.names.lookup x=some .globalImplicit)&& !(x ==("__debug__":Str))
abbrev Sn.Em (S:Sn)(x:Str):Bool:=(decide (S.sc.names.lookup x=some .local)||decide (S.sc.names.lookup x=some .cell)||decide (S.sc.names.lookup x=some .free))&& !(x ==("__debug__":Str))&& !(x ==("__classdict__":Str))
abbrev Sn.loc (S:Sn)(i:Nat)(x:Str):Bool:=decide (S.N[i]? =some x)&&(decide (S.sc.names.lookup x=some .local)||decide (S.sc.names.lookup x=some .cell))
abbrev n6:Expr->Bool
 | .ListComp .. | .SetComp .. | .DictComp ..=>false
 |_=>true
abbrev bY:Expr->Bool
 | .Set ..=>false
 |_=>true
abbrev d6:Expr->Bool
 | .Slice ..=>false
 |_=>true
abbrev d7:Expr->Bool
 | .Call (.Name _ _) [] [] _=>false
 |_=>true
abbrev plainT:Expr->Bool
 | .UnaryOp .Not _ _| .BoolOp .. | .IfExp .. | .Compare ..=>false
 |_=>true
abbrev wt:Bf->String
 | .len=>"len"| .list=>"list"| .tuple=>"tuple"| .int=>"int"| .str=>"str"| .min=>"min"| .max=>"max"| .abs=>"abs"| .all=>"all"| .any=>"any"| .dict=>"dict"| .sum=>"sum"
abbrev wq:Lm->String
 | .append=>"append"| .extend=>"extend"| .insert=>"insert"| .pop=>"pop"| .clear=>"clear"| .reverse=>"reverse"| .count=>"count"
abbrev ic:List String:=["int","bool","str","list","tuple","dict","ValueError"]
abbrev xV (S:Sn):Cl->Expr->Bool
 | .own c,.Name x _=>S.j8 x&&decide (S.T.gcl.lookup x=some c)
 | .ty n,.Name x _=>S.j8 x&&decide (x=(n:Str))&&S.T.gbl.contains x&&ic.contains n
 |_,_=>false
abbrev pZ (S:Sn):List Nat->List Expr->Bool
 | [],[]=>true
 |c::cs,.Name x _::es=>S.j8 x&&decide (S.T.gcl.lookup x=some c)&&pZ S cs es
 |_,_=>false
abbrev cR (outer inner:Scope):Scope:=
 { inner with names:=inner.names.map λ(n,k)=>if(k ==.free&&outer.kind ==.function&&outer.names.lookup n ==some .cell) then(n,.cell) else(n,k) }
abbrev eI (S:Sn)(scope:Scope)(xs:List Str)(sel:List Nat):Bool:=
 decide (scope.kind=.function)&&decide (S.sc.kind=.function)&&scope.names.all (λy=>y.2 != .cell&&(y.2 != .local||decide (scope.names.lookup y.1=some .local))&&(y.2 != .free||(decide (S.sc.names.lookup y.1=some .cell))))&&xs.all (λx=>decide (scope.names.lookup x=some .local))&&
 sel.all (λi=>match S.N[i]? with|some y=>decide (S.sc.names.lookup y=some .cell)&&decide ((cR S.sc scope).names.lookup y=some .cell)|none=>false)&&decide ((xs++sel.filterMap λi=>S.N[i]?).Nodup)
abbrev xo:List Expr->List Str
 | .Name x _::r=>x::xo r
 |_=>[]
abbrev tf (S:Sn):List Nat->List Expr->Bool
 | [],[]=>true
 |i::is,.Name x _::r=>decide (S.N[i]? =some x)&&decide (S.sc.names.lookup x=some .local)&&tf S is r
 |_,_=>false
abbrev sC:List Str->List (Option Expr)->Bool
 | [],[]=>true
 |k::ks,some (.Constant (.str x) _ _)::r=>decide (k=x)&&sC ks r
 |_,_=>false
mutual
noncomputable def mE (S:Sn):Ex->Expr->Bool
 | .v i,e=>match e with| .Name x _=>decide (S.N[i]? =some x)&&S.Em x|_=>false
 | .int i,e=>match e with| .Constant y1 _ _=>(match y1 with| .int j=>decide (i=j)|_=>false)|_=>false
 | .bl i,e=>match e with| .Constant y1 _ _=>(match y1 with| .bool j=>decide (i=j)|_=>false)|_=>false
 | .non,e=>match e with| .Constant y1 _ _=>(match y1 with| .none=>true|_=>false)|_=>false
 | .str i,e=>match e with| .Constant y1 _ _=>(match y1 with| .str j=>decide (i=j)|_=>false)|_=>false
 | .gl x,e=>match e with| .Name y _=>decide (x=y)&&S.j8 y|_=>false
 | .bin op a b,e=>match e with| .BinOp a' op' b' _=>decide (op=op')&&mE S a a'&&mE S b b'|_=>false
 | .neg a,e=>match e with| .UnaryOp y1 a' _=>(match y1 with| .USub=>mE S a a'|_=>false)|_=>false
 | .not a,e=>match e with| .UnaryOp y1 a' _=>(match y1 with| .Not=>mE S a a'|_=>false)|_=>false
 | .and a b,e=>match e with| .BoolOp y1 y2 p=>(match y1 with| .And=>(match y2 with|a'::b'::r=>mE S a a'&&mE S b (match r with| []=>b'|_=>.BoolOp .And (b'::r) p)|_=>false)|_=>false)|_=>false
 | .or a b,e=>match e with| .BoolOp y1 y2 p=>(match y1 with| .Or=>(match y2 with|a'::b'::r=>mE S a a'&&mE S b (match r with| []=>b'|_=>.BoolOp .Or (b'::r) p)|_=>false)|_=>false)|_=>false
 | .cmp op a b,e=>match e with| .Compare a' y1 y2 _=>(match y1 with| [op']=>(match y2 with| [b']=>decide (op=op')&&mE S a a'&&mE S b b'&&bY b'|_=>false)|_=>false)|_=>false
 | .cmp2 o1 o2 a b c,e=>match e with| .Compare a' y1 y2 _=>(match y1 with| [p1,p2]=>(match y2 with| [b',c']=>decide (o1=p1)&&decide (o2=p2)&&mE S a a'&&mE S b b'&&mE S c c'&&bY c'|_=>false)|_=>false)|_=>false
 | .cmp3 o1 o2 o3 a b c d,e=>match e with| .Compare a' y1 y2 _=>(match y1 with| [p1,p2,p3]=>(match y2 with| [b',c',d']=>decide (o1=p1)&&decide (o2=p2)&&decide (o3=p3)&&mE S a a'&&mE S b b'&&mE S c c'&&mE S d d'&&bY d'|_=>false)|_=>false)|_=>false
 | .ife c a b,e=>match e with| .IfExp c' a' b' _=>mT S c c'&&mE S a a'&&mE S b b'|_=>false
 | .tup es,e=>match e with| .Tuple es' _ _=>iJ S es es'|_=>false
 | .lst es,e=>match e with| .List es' _=>iJ S es es'|_=>false
 | .ix a i,e=>match e with| .Subscript a' i' _=>mE S a a'&&mE S i i'&&d6 i'|_=>false
 | .sl a lo hi,e=>match e with| .Subscript a' y1 _=>(match y1 with| .Slice lo' hi' y2 _=>(match y2 with|none=>mE S a a'&&mO S lo lo'&&mO S hi hi'|_=>false)|_=>false)|_=>false
 | .fld a f,e=>match e with| .Attribute a' f' _=>mE S a a'&&decide (f=f')&&d7 a'|_=>false
 | .call f es,e=>match e with| .Call y1 es' y2 _=>(match y1 with| .Name x _=>(match y2 with| []=>S.j8 x&&decide (S.T.gfn.lookup x=some f)&&iJ S es es'|_=>false)|_=>false)|_=>false
 | .meth a m es,e=>match e with| .Call y1 es' y2 q=>(match y1 with| .Attribute a' m' p=>(match y2 with| []=>mE S a a'&&decide (m=m')&&iJ S es es'&&d7 a'&&(p.endLine ==q.line)&&decide (es.len<20)|_=>false)|_=>false)|_=>false
 | .dget a k d,_=>false
 | .dupd a b,_=>false
 | .rev a b,_=>false
 | .lix a b,e=>match e with| .Call y1 es' y2 q=>(match y1 with| .Attribute a' m' p=>(match y2 with| []=>(match es' with| [b']=>mE S a a'&&decide (m'=("index":Str))&&mE S b b'&&notStar b'&&d7 a'&&(p.endLine ==q.line)|_=>false)|_=>false)|_=>false)|_=>false
 | .lm m a es,e=>match e with| .Call y1 es' y2 q=>(match y1 with| .Attribute a' m' p=>(match y2 with| []=>mE S a a'&&decide (m'=(wq m:Str))&&iJ S es es'&&d7 a'&&(p.endLine ==q.line)&&decide (es.len<20)|_=>false)|_=>false)|_=>false
 | .make c es,e=>match e with| .Call y1 es' y2 _=>(match y1 with| .Name x _=>(match y2 with| []=>S.j8 x&&decide (S.T.gcl.lookup x=some c)&&iJ S es es'|_=>false)|_=>false)|_=>false
 | .bini es,e=>match e with| .Call y1 es' y2 q=>(match y1 with| .Attribute y3 m p=>(match y3 with| .Name x _=>(match y2 with| []=>S.j8 x&&decide (m=("__init__":Str))&&S.T.gbi.contains x&&iJ S es es'&&decide (es.len=2)&&(p.endLine ==q.line)|_=>false)|_=>false)|_=>false)|_=>false
 | .cini c es,_=>false
 | .bf b es,e=>match e with| .Call y1 es' y2 _=>(match y1 with| .Name x _=>(match y2 with| []=>S.j8 x&&decide (x=(wt b:Str))&&S.T.gbl.contains x&&iJ S es es'&&decide (0<es.len)|_=>false)|_=>false)|_=>false
 | .isi a c,e=>match e with| .Call y1 y2 y3 _=>(match y1 with| .Name x _=>(match y3 with| []=>(match y2 with| [a',c']=>S.j8 x&&decide (x=("isinstance":Str))&&S.T.gbl.contains x&&mE S a a'&&xV S c c'|_=>false)|_=>false)|_=>false)|_=>false
 | .lc elt sel it,e=>match e with| .ListComp elt' y1 scope _=>(match y1 with| [y2]=>(match y2 with|⟨y3,iter,y4,y5⟩=>(match y3 with| .Name x px=>(match y4 with| []=>(match y5 with|0=>eI S scope [x] sel&&mI S it (.Name x px) iter&&mE { S with sc:=cR S.sc scope,N:=x::sel.filterMap λi=>S.N[i]? } elt elt'&&bY iter|_=>false)|_=>false)|_=>false))|_=>false)|_=>false
 | .lci elt c sel it,_=>false
 | .lct elt n sel it,e=>match e with| .ListComp elt' y1 scope _=>(match y1 with| [y2]=>(match y2 with|⟨y3,iter,y4,y5⟩=>(match y3 with| .Tuple ts kt pt=>(match y4 with| []=>(match y5 with|0=>eI S scope (xo ts) sel&&tf { S with sc:=cR S.sc scope,N:=xo ts++sel.filterMap λi=>S.N[i]? } (List.range n) ts&&decide ((xo ts).length=n)&&mI S it (.Tuple ts kt pt) iter&&mE { S with sc:=cR S.sc scope,N:=xo ts++sel.filterMap λi=>S.N[i]? } elt elt'&&bY iter|_=>false)|_=>false)|_=>false))|_=>false)|_=>false
 | .lcu elt c n sel it,_=>false
 | .dnew,e=>match e with| .Dict y1 y2 _=>(match y1 with| []=>(match y2 with| []=>true|_=>false)|_=>false)|_=>false
 | .sm m a b,_=>false
 | .up a,_=>false
 | .isiT a cs,e=>match e with| .Call y1 y2 y3 _=>(match y1 with| .Name x _=>(match y3 with| []=>(match y2 with| [a',y4]=>(match y4 with| .Tuple es' _ _=>S.j8 x&&decide (x=("isinstance":Str))&&S.T.gbl.contains x&&mE S a a'&&pZ S cs es'&&decide (cs.length<=100)|_=>false)|_=>false)|_=>false)|_=>false)|_=>false
 | .mk0 c,e=>match e with| .Call y1 y2 y3 _=>(match y1 with| .Name x _=>(match y2 with| []=>(match y3 with| []=>S.j8 x&&decide (S.T.gcl.lookup x=some c)&&S.T.inip.contains c|_=>false)|_=>false)|_=>false)|_=>false
 | .disp ks es,_=>false
 | .vals tp a,_=>false
 | .dzip a b,e=>match e with| .Call y1 y2 y3 _=>(match y1 with| .Name x _=>(match y3 with| []=>(match y2 with| [y4]=>(match y4 with| .Call y5 y6 y7 _=>(match y5 with| .Name y _=>(match y7 with| []=>(match y6 with| [a',b']=>S.j8 x&&decide (x=("dict":Str))&&S.T.gbl.contains x&&S.j8 y&&decide (y=("zip":Str))&&S.T.gbl.contains y&&mE S a a'&&mE S b b'&&notStar a'&&notStar b'|_=>false)|_=>false)|_=>false)|_=>false)|_=>false)|_=>false)|_=>false)|_=>false
noncomputable def mT (S:Sn):Tx->Expr->Bool
 | .not a,e=>match e with| .UnaryOp y1 a' _=>(match y1 with| .Not=>mT S a a'|_=>false)|_=>false
 | .and a b,e=>match e with| .BoolOp y1 y2 p=>(match y1 with| .And=>(match y2 with|a'::b'::r=>mT S a a'&&mT S b (match r with| []=>b'|_=>.BoolOp .And (b'::r) p)|_=>false)|_=>false)|_=>false
 | .or a b,e=>match e with| .BoolOp y1 y2 p=>(match y1 with| .Or=>(match y2 with|a'::b'::r=>mT S a a'&&mT S b (match r with| []=>b'|_=>.BoolOp .Or (b'::r) p)|_=>false)|_=>false)|_=>false
 | .cmp op a b,e=>match e with| .Compare a' y1 y2 _=>(match y1 with| [op']=>(match y2 with| [b']=>decide (op=op')&&mE S a a'&&mE S b b'&&bY b'|_=>false)|_=>false)|_=>false
 | .cmp2 o1 o2 a b c,e=>match e with| .Compare a' y1 y2 _=>(match y1 with| [p1,p2]=>(match y2 with| [b',c']=>decide (o1=p1)&&decide (o2=p2)&&mE S a a'&&mE S b b'&&mE S c c'&&bY c'|_=>false)|_=>false)|_=>false
 | .cmp3 o1 o2 o3 a b c d,e=>match e with| .Compare a' y1 y2 _=>(match y1 with| [p1,p2,p3]=>(match y2 with| [b',c',d']=>decide (o1=p1)&&decide (o2=p2)&&decide (o3=p3)&&mE S a a'&&mE S b b'&&mE S c c'&&mE S d d'&&bY d'|_=>false)|_=>false)|_=>false
 | .val e,e'=>mE S e e'&&plainT e'
noncomputable def iJ (S:Sn):fc->List Expr->Bool
 | .nil,es=>es.isEmpty
 | .cons e es,l=>match l with|e'::es'=>mE S e e'&&notStar e'&&iJ S es es'| []=>false
noncomputable def mO (S:Sn):Fc->Option Expr->Bool
 | .no,o=>o.isNone
 | .yes e,o=>match o with|some e'=>mE S e e'|none=>false
noncomputable def mI (S:Sn):xb->Expr->Expr->Bool
 | .rng1 a,_,e=>match e with| .Call y1 y2 y3 _=>(match y1 with| .Name x _=>(match y3 with| []=>(match y2 with| [a']=>S.j8 x&&decide (x=("range":Str))&&S.T.gbl.contains x&&mE S a a'&&notStar a'|_=>false)|_=>false)|_=>false)|_=>false
 | .rng2 a b,_,e=>false
 | .rng3 a b c,_,e=>false
 | .enm a,t,e=>match e with| .Call y1 y2 y3 _=>(match y1 with| .Name x _=>(match y3 with| []=>(match y2 with| [a']=>S.j8 x&&decide (x=("enumerate":Str))&&S.T.gbl.contains x&&mE S a a'&&notStar a'&&(match t with| .Tuple ..=>true|_=>false)|_=>false)|_=>false)|_=>false)|_=>false
 | .enf a,t,e=>false
 | .seq a,_,e=>mE S a e
 | .zip a b,t,e=>match e with| .Call y1 y2 y3 _=>(match y1 with| .Name x _=>(match y3 with| []=>(match y2 with| [a',b']=>S.j8 x&&decide (x=("zip":Str))&&S.T.gbl.contains x&&mE S a a'&&mE S b b'&&notStar a'&&notStar b'&&(match t with| .Tuple ..=>true|_=>false)|_=>false)|_=>false)|_=>false)|_=>false
 | .zip3 a b c,t,e=>false
end
end L3
namespace L3
open PySem PySem.Spec L2
variable {e:Expr}
def plainT_ok (h:plainT e=true)(env:Env)(whole:Sem Value):isTrue e env whole=(do let v <-whole;standAt e.pos;holding [v] (truthy v)):=by
 cases e<;>first|rfl|(cases h)|skip
 case UnaryOp op a p=>cases op<;>first|rfl|cases h
def aU (h:bY e=true)(env:Env)(x:Value):foldedSetIterable e env x=pure x:=by
 cases e<;>first|rfl|cases h
def cz (h:bY e=true)(op:CmpOp):behindInMarks op e=false:=by
 cases e<;>first|rfl|cases h
def fJ (h:n6 e=true)(t:Option Expr)(n:Nat)(env:Env):swapsWith e t n env=pure false:=by
 cases e<;>first|rfl|cases h
variable {o:Expr}
def bS (h:d7 o=true)(a:Str)(env:Env)(whole:Sem Value):attributeBase o a env whole=whole:=by
 cases o with
 |Call f as ks p=>
  cases f<;>first|rfl|skip
  case Name x q=>
   cases as with
   |nil=>cases ks with
    |nil=>cases h
    |cons k ks=>rfl
   |cons b bs=>rfl
 |_=>rfl
variable {b:Expr}
def o5 (h:d6 b=true):qA b:=by
 intro o i;cases b<;>first|rfl|cases h
variable {X:Cx}
def PE.bB {t:TE}(h:PE X e t):PE X e (λU H R=>∃ Q,t U H Q/\∀ x H1,Q x H1->R x H1):=λY s U H R I ⟨Q,q,i⟩=>
 au (h Y s U H Q I q) λ_ _ ⟨v,H',J,r,z⟩=>⟨v,H',J,r,i _ _ z⟩
variable {t:TT}
def PT.bB (h:PT X e t):PT X e (λU H R=>∃ Q,t U H Q/\∀ x H1,Q x H1->R x H1):=λY s U H R I ⟨Q,q,i⟩=>
 au (h Y s U H Q I q) λ_ _ ⟨H',J,z⟩=>⟨H',J,i _ _ z⟩
def PA.bB {e:List Expr}{t:TA}(h:PA X e t):PA X e (λU H R=>∃ Q,t U H Q/\∀ x H1,Q x H1->R x H1):=λpos Y s U H R I ⟨Q,q,i⟩=>
 au (h pos Y s U H Q I q) λ_ _ ⟨v,H',J,r,z⟩=>⟨v,H',J,r,i _ _ z⟩
def PE.imp {t t':TE}(h:PE X e t)(hi:∀ U H Q,t' U H Q->t U H Q):PE X e t':=λY s U H Q I q=>h Y s U H Q I (hi _ _ _ q)
def PT.imp {t':TT}(h:PT X e t)(hi:∀ U H Q,t' U H Q->t U H Q):PT X e t':=λY s U H Q I q=>h Y s U H Q I (hi _ _ _ q)
def PS.imp {e:Stmt}{t t':TS}(h:PS X e t)(hi:∀ D U H,t' D U H->t D U H):PS X e t':=λY s U H D I q=>h Y s U H D I (hi _ _ _ q)
structure cG (c:Bool) (P:Program) (w:World) (K:W.Frag) (mg:HP) (base:Heap) (k:Nat) (f:Addr) (d:aD) (sp:Sp):Prop where
 fact:∃ fd,cS c P w K mg base (uZ P w) k f fd d.ps sp/\∀ j,∃ ds,Binds K fd d.ps ds/\Vals (d.dfl.drop j) ds
 own:∀ fd oc od osl,K.lookup f=some ⟨oc,od,.func fd,osl⟩->cS c P w K mg base (uZ P w) k f fd d.ps sp
variable {K:W.Frag}
def cG.imp {c:Bool}{P:Program}{w:World}{mg:HP}{base:Heap}{k:Nat}{f:Addr}{d:aD}{sp sp':Sp}(F:cG c P w K mg base k f d sp)(h:∀ vs H Q E,sp' vs H Q E->sp vs H Q E):cG c P w K mg base k f d sp':=
 ⟨let⟨fd,o,b⟩:=F.fact;⟨fd,o.imp h,b⟩,λfd oc od osl e=>(F.own fd oc od osl e).imp h⟩
structure y8 (K:W.Frag) (mg:HP) (T:Tab) (R:Rt):Prop where
 gfn:∀ x f,T.gfn.lookup x=some f->mg x=some (.ref (R.fad f))/\W.keepIn K (.ref (R.fad f))=true/\∃ d,T.fns[f]? =some d
 gcl:∀ x c,T.gcl.lookup x=some c->mg x=some (.ref (R.cad c))
 gbl:∀ x,T.gbl.contains x=true->mg x=none/\x≠"__name__"
 gbi:∀ x,T.gbi.contains x=true->∃ B,mg x=some (.ref B)/\GL K B
 gl:∀ x v,R.gl x=some v->∃ u,mg x=some u/\RelV v u
 na:∀ i f,T.na.contains (i,f)=true->dJ K (R.cad i) f
 me:∀ i m f,T.me.lookup (i,m)=some f->xF K (R.cad i)/\Meth K (R.cad i) m (R.fad f)/\∃ d,T.fns[f]? =some d
 ini0:∀ c,T.ini0.contains c=true->Ca K (R.cad c)
 inip:∀ c,T.inip.contains c=true->GY K (R.cad c)
 ini:∀ c f,T.ini.lookup c=some f->(∃ d,T.fns[f]? =some d)/\if T.xc.contains c=true then E9 K (R.cad c) (R.fad f) else Mk K (R.cad c) (R.fad f)
 oc:∀ c,T.oc.contains c=true->xF K (R.cad c)/\Gk K (R.cad c)
 xc:∀ c,T.xc.contains c=true->cu K (R.cad c)/\wg K (R.cad c)
 sub:∀ i j b,T.sub.lookup (i,j)=some b->W.kitOne K (.ref (R.cad i)) (.ref (R.cad j))=some b/\(T.xc.contains i=true->W.mroIn K (R.cad i) (.ref (R.cad j))=some b/\cu K (R.cad j))
 subT:∀ i n b,T.subT.lookup (i,n)=some b->W.kitOne K (.ref (R.cad i)) (.type n)=some b
 subB:∀ t n b,T.subB.lookup (t,n)=some b->W.kitOne K (.type t) (.type n)=some b
 subO:∀ t j b,T.subO.lookup (t,j)=some b->W.kitOne K (.type t) (.ref (R.cad j))=some b
 cin:∀ c f,T.cin.lookup c=some f->HC K (R.cad c) (R.fad f)/\∃ d,T.fns[f]? =some d
structure Gd (X:Cx) (G:Gx) (S:Sn) (k:Nat) (E:St->XK):Prop where
 hK:G.R.K=X.K
 hT:S.T=G.T
 sc:X.env.scope=S.sc
 N:X.N=S.N
 nd:S.N.Nodup
 pass:Passes (uZ X.prog X.w) X E
 hd:match G.cm with| .calm=>X.calm=true| .soft=>et X| .aN e=>X.A.handled=some (.ref e)| .mute=>True
 xok:CU X E
 xst:∃ e0 o0 L,X.stack=e0::o0/\e0.frame=some L/\X.env.frame=some L
 room:bJ (k+1) X.A
 un:X.A.units+200<cLine
 tab:y8 X.K X.mg G.T G.R
 fns:∀ f d,G.T.fns[f]? =some d->cG G.cm.b X.prog X.w X.K X.mg X.base k (G.R.fad f) d (G.yv f)
 fnsU:G.cm=.calm->∀ f d,G.T.fns[f]? =some d->cG false X.prog X.w X.K X.mg X.base k (G.R.fad f) d (G.Ψ (f+G.T.fns.length))
variable {Y:HN}{H:Hp}{s:Shared}{x:Str}{l es:List Expr}
section
variable {X:Cx}{G:Gx}{S:Sn}{k:Nat}{E:St->XK}
def Gd.cm (g:Gd X G S k E)(hc:G.cm=.calm):X.calm=true:=by
 have h:=g.hd;rw[hc]at h;exact h
def Gd.hh (g:Gd X G S k E){f:Nat}{U:St}{vs:List V}{Q:VK}{E0:XK}(I:Inv X Y U H s)(h:G.yv f vs H Q E0):tD G.cm.b X.A.handled H:=by
 have hd:=g.hd;unfold Gx.yv at h;generalize G.cm=m at*;cases m with
 |calm=>exact I.ok.hd hd
 |soft=>exact et.now hd I
 |aN e=>exact let⟨⟨C,dx,fs,he⟩,_⟩:=h;⟨e,C,dx,fs,hd,he⟩
 |mute=>exact h.elim
def Gd.cx (g:Gd X G S k E)(U:St):jT X U (E U):=⟨λH s e C dx fs=>g.xok U H s e C dx fs,g.xst⟩
def Gd.bin (g:Gd X G S k E)(op:Operator):bR X (binaryOp op) (AK G.R.K op):=g.hK▸Bg op
def Gd.cmp (g:Gd X G S k E)(op:CmpOp):bR X (compareOp op) (fS G.R.K op):=g.hK▸AQ g.un op
def Gd.glob (g:Gd X G S k E)(h:S.j8 x=true):Gl X x/\(x ==("__debug__":Str))=false:=by
 unfold Sn.j8 at h;simp only[li,decide_eq_true_eq,Bool.not_eq_true']at h;refine⟨?_,h.2⟩;show X.env.scope.names.lookup x=_;rw[g.sc];exact h.1
def Gd.Em (g:Gd X G S k E)(h:S.Em x=true):Fb X.env.scope x/\(x ==("__debug__":Str))=false/\(x ==("__classdict__":Str))=false:=by
 unfold Sn.Em at h;simp only[li,Bool.or_eq_true,decide_eq_true_eq,Bool.not_eq_true']at h;refine⟨?_,h.1.2,h.2⟩;unfold Fb;rw[g.sc];rcases h.1.1 with(h|h)|h
 .exact .inl h
 .exact .inr (.inl h)
 .exact .inr (.inr h)
def Gd.loc (g:Gd X G S k E){i:Nat}(h:S.loc i x=true):X.N[i]? =some x/\L2.Loc X.env.scope x:=by
 unfold Sn.loc at h;simp only[li,Bool.or_eq_true,decide_eq_true_eq]at h;rw[g.N];refine⟨h.1,?_⟩;unfold L2.Loc;rw[g.sc];exact h.2
def aP:∀ {es:fc}{l:List Expr},iJ S es l=true->∀ (env:Env) (pos:Pos),(backTo pos (bm l env)).any (·.1)=false
 | .nil,[],_,_,_=>rfl
 | .nil,_::_,h,_,_=>by cases(show false=true from h)
 | .cons e es,[],h,_,_=>by cases(show false=true from h)
 | .cons e es,e'::l,h,env,pos=>by
  have h:(mE S e e'&&notStar e'&&iJ S es l)=true:=h;simp only[li]at h;rw[ae h.1.2];show((backTo pos (bm l env)).any (·.1))=false;exact aP h.2 env pos
def kr:∀ {es:fc}{l:List Expr},iJ S es l=true->l.length=es.len
 | .nil,[],_=>rfl
 | .nil,_::_,h=>by cases(show false=true from h)
 | .cons e es,[],h=>by cases(show false=true from h)
 | .cons e es,e'::l,h=>by
  have h:(mE S e e'&&notStar e'&&iJ S es l)=true:=h;simp only[li]at h;show l.length+1=es.len+1;rw[kr h.2]
def bh {es:fc}(h:iJ S es (e::l)=true):notStar e=true/\∃ x es',es=.cons x es'/\iJ S es' l=true:=by
 cases es with
 |nil=>cases(show false=true from h)
 |cons x es'=>
  have h:(mE S x e&&notStar e&&iJ S es' l)=true:=h;simp only[li]at h;exact⟨h.1.2,x,es',rfl,h.2⟩
def pK:∀ {es:fc}{l:List Expr},iJ S es l=true->es.len<20->∀ (env:Env) (cpos:Pos),methodCallForm (l.length+([]:List Keyword).length) (backTo cpos (bm l env)) (backToKw cpos (keywordEach [] env))=true:=by
 intro es l h hl env cpos;have h1:=aP h env cpos;have h2:=kr h;have h3:(backTo cpos (bm l env)).all (λx=>!x.1)=true:=by
  rw[all_eq_true];intro x hx;rw[any_eq_false]at h1;simpa using h1 x hx
 unfold methodCallForm;rw[h3,h2];simp[keywordEach,backToKw]
 omega
def jZ {m:Str}{apos pos:Pos}{env:Env}(hb:d7 o=true)(hf:methodCallForm (es.length+([]:List Keyword).length) (backTo pos (bm es env)) (backToKw pos (keywordEach [] env))=true)(hl:(apos.endLine ==pos.line)=true):
  eval (.Call (.Attribute o m apos) es [] pos) env=(do
   let ov <-eval o env
   standAt apos.atName
   let(f,first) <-holding [ov] (getMethod ov m (do return (<-importBound o env).getD true))
   callWith pos f first (backTo pos (bm es env)) (backToKw pos (keywordEach [] env))):=by
 show(do
  let ov <-attributeBase o m env (eval o env)
  standAt apos.atName
  methodCall o m apos pos env ov (es.length+([]:List Keyword).length) (backTo pos (bm es env)) (backToKw pos (keywordEach [] env)))=_
 rw[bS hb];unfold methodCall calleeOf methodCallPos;rw[hf,hl]
 rfl
def v7 {es:fc}(h:iJ S es (e::l)=true)(hl:es.len<20)(env:Env)(cpos:Pos):
  ((backTo cpos (bm (e::l) env)).all (λx=>!x.1)&&(backToKw cpos (keywordEach [] env)).all (λx=>x.1.isSome)
   &&decide ((e::l).length+([]:List Keyword).length+(if([]:List Keyword).isEmpty then 0 else 1)<30))=true:=by
 have h1:=aP h env cpos;have h2:=kr h;have h3:(backTo cpos (bm (e::l) env)).all (λx=>!x.1)=true:=by
  rw[all_eq_true];intro x hx;rw[any_eq_false]at h1;simpa using h1 x hx
 rw[h3,h2];simp[keywordEach,backToKw]
 omega
def xB {b:Ex}{b':Expr}(h:mE S b b'=true)(n:notStar b'=true)(env:Env)(cpos:Pos):
  ((backTo cpos (bm [b'] env)).all (λx=>!x.1)&&(backToKw cpos (keywordEach [] env)).all (λx=>x.1.isSome)
   &&decide (([b']:List Expr).length+([]:List Keyword).length+(if([]:List Keyword).isEmpty then 0 else 1)<30))=true:=
 v7 (es:=.cons b .nil) (by show(mE S b b'&&notStar b'&&true)=true;rw[h,n];rfl) (nb rfl) env cpos
end
variable {a:Addr}
section
variable {X:Cx}{G:Gx}{S:Sn}{k:Nat}{E:St->XK}
def gE {x:V}{t:String}(h:tyName x H=some t):fg K H x (.type t):=by
 unfold tyName at h
 split at h
 .cases h;exact .non
 .cases h;exact .bl _
 .cases h;exact .int _
 .cases h;exact .str _
 .split at h
  .rename_i e;cases h;exact .lst e
  .rename_i e;cases h;exact .tup e
  .rename_i e;cases h;exact .dK (.inl e)
  .rename_i e;cases h;exact .dK (.inr ⟨_,e⟩)
  .cases h
 .cases h
def pU {U:St}{Q:VK}{i:Nat}{b:Bool}{cv:Value}(g:Gd X G S k E)(I:Inv X Y U H s)(o:qM G H a i)
  (e:W.kitOne X.K (.ref (G.R.cad i)) cv=some b) (q:Q (.bl b) H):wpAny (model X.prog X.w) X.A (call (.builtin "isinstance") [.ref a,cv]) (EP X Y U Q) X.xe s:=by
 rcases o with⟨ho,dx,fs,ha⟩|⟨ho,dx,fs,fr,ha⟩
 .obtain⟨c,z⟩:=g.tab.oc i ho;exact gJ I (x:=.ref a) rfl (.ins ha c z.ha z.hn z.htk z.hm) e λtk=>⟨.bl b,H,I.tok _,rfl,q⟩
 .obtain⟨c,z⟩:=g.tab.xc i ho;exact we I ha c z e λtk=>⟨.bl b,H,I.tok _,rfl,q⟩
def x8 (g:Gd X G S k E)(j:Nat):cp X (.builtin "isinstance") (λvs H Q=>∃ x,vs=[x,.ref (G.R.cad j)]/\cV G (.own j) x H Q):=by
 intro Y s U H xs us Q I r h;obtain⟨x,rfl,h⟩:=h;obtain⟨u,w',rfl,rx,rT⟩:=vals2 r;obtain rfl:w'=Value.ref (G.R.cad j):=rT;unfold cV at h;rcases h with⟨t,b,ht,hb,q⟩|⟨a,i,b,rfl,ho,hb,q⟩
 .exact gJ I rx (gE ht) (g.tab.subO t j b hb) λtk=>⟨.bl b,H,I.tok _,rfl,q⟩
 .obtain rfl:u=Value.ref a:=rx;exact pU g I ho (g.tab.sub i j b hb).1 q
def CZ (g:Gd X G S k E)(n:String):cp X (.builtin "isinstance") (λvs H Q=>∃ x,vs=[x,.ty n]/\cV G (.ty n) x H Q):=by
 intro Y s U H xs us Q I r h;obtain⟨x,rfl,h⟩:=h;obtain⟨u,w',rfl,rx,rT⟩:=vals2 r;obtain rfl:w'=Value.type n:=rT;unfold cV at h;rcases h with⟨t,b,ht,hb,q⟩|⟨a,i,b,rfl,ho,hb,q⟩
 .exact gJ I rx (gE ht) (g.tab.subB t n b hb) λtk=>⟨.bl b,H,I.tok _,rfl,q⟩
 .obtain rfl:u=Value.ref a:=rx;exact pU g I ho (g.tab.subT i n b hb) q
def zx {n:String}(h:ic.contains n=true):bootBuiltins (n:Str)=some (.type n):=by
 have h':n ∈ ic:=by simpa using h
 simp only[ic,lf,not_mem_nil,or_false]at h';rcases h' with rfl|rfl|rfl|rfl|rfl|rfl|rfl<;>decide+kernel
abbrev GW (G:Gx):Cl->V
 | .own c=>.ref (G.R.cad c)
 | .ty n=>.ty n
def D9 (g:Gd X G S k E){c:Cl}(h:xV S c e=true):PE X e (tC (GW G c)):=by
 unfold xV at h
 split at h
 .simp only[li,decide_eq_true_eq]at h;obtain⟨hg,hd⟩:=g.glob h.1;exact km hg (g.tab.gcl _ _ (g.hT▸h.2)) rfl hd
 .simp only[li,decide_eq_true_eq]at h;obtain⟨⟨⟨h1,rfl⟩,h3⟩,h4⟩:=h;obtain⟨hg,hd⟩:=g.glob h1;obtain⟨hm,hn⟩:=g.tab.gbl _ (g.hT▸h3);exact zy hg hm (zx h4) rfl hn hd
 .cases h
def CI (g:Gd X G S k E)(c:Cl):cp X (.builtin "isinstance") (λvs H Q=>∃ x,vs=[x,GW G c]/\cV G c x H Q):=by
 cases c with
 |own j=>exact x8 g j
 |ty n=>exact CZ g n
def uE (g:Gd X G S k E){i:Nat}{b:Bool}:∀ {cs:List Nat},anyS G i cs=some b->W.kitAny X.K (.ref (G.R.cad i)) ((cs.map λc=>G.R.cad c).map Value.ref)=some b
 | [],h=>h
 |c::cs,h=>by
  have e:∀ b',G.T.sub.lookup (i,c)=some b'->W.kitOne X.K (.ref (G.R.cad i)) (.ref (G.R.cad c))=some b':=λb' hb=>(g.tab.sub i c b' hb).1
  unfold anyS at h;show(match W.kitOne X.K (.ref (G.R.cad i)) (.ref (G.R.cad c)) with|some true=>some true|some false=>W.kitAny X.K (.ref (G.R.cad i)) ((cs.map λc=>G.R.cad c).map Value.ref)|none=>none)=some b
  split at h
  .rename_i q;rw[e _ q];exact h
  .rename_i q;rw[e _ q];exact uE g h
  .cases h
def AA (g:Gd X G S k E){t:String}{b:Bool}:∀ {cs:List Nat},yE G t cs=some b->W.kitAny X.K (.type t) ((cs.map λc=>G.R.cad c).map Value.ref)=some b
 | [],h=>h
 |c::cs,h=>by
  have e:∀ b',G.T.subO.lookup (t,c)=some b'->W.kitOne X.K (.type t) (.ref (G.R.cad c))=some b':=λb' hb=>g.tab.subO t c b' hb
  unfold yE at h;show(match W.kitOne X.K (.type t) (.ref (G.R.cad c)) with|some true=>some true|some false=>W.kitAny X.K (.type t) ((cs.map λc=>G.R.cad c).map Value.ref)|none=>none)=some b
  split at h
  .rename_i q;rw[e _ q];exact h
  .rename_i q;rw[e _ q];exact AA g h
  .cases h
def xq (g:Gd X G S k E)(cs:List Nat):cp X (.builtin "isinstance") (λvs H Q=>∃ x p,vs=[x,.ref p]/\H p=some (.tup ((cs.map λc=>G.R.cad c).map V.ref))/\fw G cs x H Q):=by
 intro Y s U H xs us Q I r h;obtain⟨x,p,rfl,hp,h⟩:=h;obtain⟨u,w',rfl,rx,rT⟩:=vals2 r;obtain rfl:w'=Value.ref p:=rT;unfold fw at h;rcases h with⟨t,b,ht,hb,q⟩|⟨a,i,b,rfl,ho,hb,q⟩
 .obtain⟨P,Z,hP,hx⟩:=lI I rx (gE (K:=X.K) ht);exact k6 I Z hP hx hp (AA g hb) λtk=>⟨.bl b,H,I.tok _,rfl,q⟩
 .obtain rfl:u=Value.ref a:=rx;rcases ho with⟨ho,dx,fs,ha⟩|⟨ho,dx,fs,fr,ha⟩
  .obtain⟨c,z⟩:=g.tab.oc i ho;obtain⟨P,Z,hP,hx⟩:=lI I (x:=.ref a) rfl (.ins ha c z.ha z.hn z.htk z.hm);exact k6 I Z hP hx hp (uE g hb) λtk=>⟨.bl b,H,I.tok _,rfl,q⟩
  .obtain⟨c,z⟩:=g.tab.xc i ho;obtain⟨ox,odo,J⟩:=mW I ha;exact k6 I (lY (ox:=ox) (odo:=odo) c z) J (λz=>nomatch z) hp (uE g hb) λtk=>⟨.bl b,H,I.tok _,rfl,q⟩
def tW (g:Gd X G S k E):∀ {cs:List Nat}{es:List Expr},pZ S cs es=true->PA X es (λU H Q=>Q (cs.map λc=>.ref (G.R.cad c)) H)
 | [],[],_=>cZ
 | [],_::_,h=>by cases(show false=true from h)
 |_::_,[],h=>by cases(show false=true from h)
 |c::cs,e::es,h=>by
  unfold pZ at h
  split at h
  .rename_i h1 h2;cases h1
  .rename_i c' cs' x p es' h1 h2;cases h1;cases h2;simp only[li,decide_eq_true_eq]at h;obtain⟨hg,hd⟩:=g.glob h.1.1;exact gB (km (v:=.ref (G.R.cad _)) hg (g.tab.gcl _ _ (g.hT▸h.1.2)) rfl hd) (tW g h.2) rfl
  .cases h
abbrev uo:Bf->Value
 | .len=>.builtin "len"| .list=>.type "list"| .tuple=>.type "tuple"| .int=>.type "int"| .str=>.type "str"| .min=>.builtin "min"| .max=>.builtin "max"| .abs=>.builtin "abs"| .all=>.builtin "all"| .any=>.builtin "any"| .dict=>.type "dict"| .sum=>.builtin "sum"
def xQ (b:Bf):bootBuiltins (wt b:Str)=some (uo b):=by cases b<;>decide+kernel
def qx:∀ {bs:List Bool}{us:List Value},Vals (bs.map V.bl) us->PyProof.Rows.LSm.BoolsAre us bs
 | [],_,h=>by cases h;exact .nil
 |b::bs,_,h=>by
  cases h with
  |cons r1 r2=>
   obtain rfl:_=Value.bool b:=r1;exact .cons b (qx r2)
def sh (hc:X.calm=true):cp X (.builtin "all") (λxs H Q=>∃ p,∃ bs:List Bool,xs=[.ref p]/\aL X.K H p (bs.map V.bl)/\Q (.bl (bs.all id)) H):=by
 intro Y s U H xs us Q I r h;obtain⟨p,bs,rfl,hq,q⟩:=h;obtain⟨u,rfl,rx⟩:=vals1 r;cases rx;obtain⟨its,r',pl,hz⟩:=I.list hq;have hb:=qx r';have hl:=pl.isList;have lt:p<s.heap.objs.size:=by obtain⟨_,e,_⟩:=hl;exact tz e
 refine call_all_walk (wpAny_pyIter_list hl ⟨s.heap.objs.size,[s.heap.objs.size,p],[s.heap.objs.size],its.toArray.size,_,_,λi=>(bs[i]?).getD true,rfl,
  Walks.list (A:=X.A.in1) (I.ok.hd hc) _ p (nw lt) its.toArray,⟨⟨_,ul _ rfl,rfl,rfl⟩,hl.push _⟩,λi v s' Q' E' hP hQ=>?_,λh' tk hk=>?_⟩)
 .obtain⟨b,e,rfl⟩:=hb.get i v (by simpa using hP);have hQ:Q' ((bs[i]?).getD _) s':=hQ;rw[e]at hQ;exact bi hQ
 .have e:((List.range its.toArray.size).all λi=>(bs[i]?).getD true)=bs.all id:=by
   rw[ge,hb.length,PyProof.Rows.LSm.range_all]
  rw[e];exact⟨.bl _,H,I.kept (PyProof.Rows.LSm.kept_iter hk),rfl,q⟩
def kM:cp X (.type "dict") (λvs H Q=>∃ p kvs,vs=[.ref p]/\H p=some (.dK kvs)/\∀ l,H l=none->Q (.ref l) (upd H l (.dK kvs))):=by
 intro Y s U H xs us Q I r h;obtain⟨p,kvs,rfl,hp,q⟩:=h;obtain⟨u,rfl,rx⟩:=vals1 r;cases rx;exact uT I (.inl hp) λl s' hl J=>⟨.ref l,_,J,rfl,q l hl⟩
def Ea (g:Gd X G S k E)(b:Bf):cp X (uo b) (jt G b):=by
 intro Y s U H xs us Q I r h;unfold jt at h;rw[g.hK]at h;cases b with
 |len=>exact wa Y s U H _ us Q I r h
 |list=>
  rcases h with h|⟨hc,p,kvs,rfl,hp,q⟩
  .exact j7 Y s U H _ us Q I r h
  .obtain⟨u,rfl,ru⟩:=vals1 r;cases ru;exact nN (g.cm hc) I hp q
 |tuple=>exact jm Y s U H _ us Q I r h
 |int=>exact h.elim
 |str=>
  rcases h with h|⟨z,rfl,q⟩
  .exact kA Y s U H _ us Q I r h
  .obtain⟨u,rfl,t,rfl⟩:=vals1 r;exact PySem.P.str_of_str ⟨.str z,H,I,⟨_,rfl⟩,q⟩
 |min=>
  rcases h with⟨hc,h|h⟩
  .exact rk (g.cm hc) Y s U H _ us Q I r h
  .exact h.elim
 |max=>
  rcases h with⟨hc,h|h⟩
  .exact sL (g.cm hc) Y s U H _ us Q I r h
  .exact h.elim
 |abs=>exact h.elim
 |all=>exact sh (g.cm h.1) Y s U H _ us Q I r h.2
 |any=>exact h.elim
 |dict=>exact kM Y s U H _ us Q I r h
 |sum=>exact h.elim
abbrev BU:Lm->String
 | .append=>"list.append"| .extend=>"list.extend"| .insert=>"list.insert"| .pop=>"list.pop"| .clear=>"list.clear"| .reverse=>"list.reverse"| .count=>"list.count"
def pI (m:Lm):Slot "list" (wq m:Str) (BU m):=by
 cases m
 .exact PySem.F.slot_list_append
 .exact PySem.F.slot_list_extend
 .exact PySem.F.slot_list_insert
 .exact PySem.F.slot_list_pop
 .exact PySem.F.slot_list_clear
 .exact PySem.F.slot_list_reverse
 .exact PySem.F.slot_list_count
def zH (m:Lm):typeOf (.builtin (BU m))=pure (.type "method_descriptor"):=by cases m<;>rfl
def lK {k:V}:∀ {xs:List V}{us:List Value},Vals xs us->us.countP (λu=>match uI u with|some x=>gf x k|none=>false)=xs.countP (λx=>gf x k)
 | [],_,.nil=>rfl
 |x::xs,_,.cons r1 r2=>by rw[List.countP_cons,List.countP_cons,lK r2,r1.abs]
def lT {u:Value}:∀ {xs:List V}{us:List Value},Vals xs us->u ∈ us->∃ x ∈ xs,RelV x u
 | [],_,.nil,h=>nomatch h
 |x::xs,_,.cons r1 r2,h=>by
  rcases lf.mp h with rfl|h
  .exact⟨x,le,r1⟩
  .obtain⟨y,g1,g2⟩:=lT r2 h;exact⟨y,dl _ g1,g2⟩
def wC:C0 X "list.count" (λx vs H Q=>∃ l k xs,x=.ref l/\vs=[k]/\ai k=true/\xs.all ai=true/\H l=some (.lst xs)/\Q (.int (xs.countP (λx=>gf x k))) H):=by
 intro Y s U H x vs v us Q I rx rv h;obtain⟨l,k,xs,rfl,rfl,fk,fx,hH,q⟩:=h;cases rx;cases rv with
 |cons ry rr=>
  cases rr;obtain⟨z,its,n,r,hl,e⟩:=I.ju hH;refine call_meets PySem.F.slot_list_count ⟨_,e,rfl⟩ PySem.F.entry_list_count (PySem.F.args_list_count_2 _ _) (SeqAt.list_countAt l _ n none #[] _ (λu=>match uI u with|some x=>gf x k|none=>false)) ⟨e,λy hy=>?_,?_⟩
  .obtain⟨x,hx,rx⟩:=lT r (List.mem_toArray.mp hy);rw[rx.abs];exact nV rx ry (all_eq_true.mp fx x hx) fk
  .rw[show its.toArray.toList=its from rfl,lK r];exact⟨.int _,H,I.tok _,⟨_,rfl⟩,q⟩
def ua (hu:X.A.units+200<cLine):C0 X "list.index" (λx vs H Q=>∃ l y,x=.ref l/\vs=[y]/\uY X.K l y H Q):=by
 intro Y s U H x vs v us Q I rx rv h;obtain⟨l,y,rfl,rfl,h⟩:=h;unfold uY at h;obtain⟨xs,e,j,xj,hH,h10,he,hj,ej,hm,q⟩:=h;cases rx;cases rv with
 |cons ry rr=>
  cases rr;obtain⟨z,its,n,r,hl,eh⟩:=I.ju hH;have ab:∀ (m:Nat) (hm:m<its.toArray.size),∃ x,xs[m]? =some x/\RelV x its.toArray[m]:=λm hm=>by
   have hlen:=r.length;have h1:xs[m]? =some (xs[m]'(by simp at hm;omega)):=jp _;obtain⟨u,hu,ru⟩:=r.get h1;refine⟨_,h1,?_⟩;have:its.toArray[m]=u:=by
    have:=sw.mp hu;simpa using this.2
   rw[this];exact ru
  have hjl:=(sw.mp hj).1;have hlen:=r.length;have val:∀ (m:Nat) (hm:m<its.toArray.size) x,xs[m]? =some x->(match uI its.toArray[m] with|some x=>e x|none=>false)=e x:=λm hm x hx=>by
   obtain⟨x',h1,h2⟩:=ab m hm;rw[hx]at h1;cases h1;rw[h2.abs]
  refine call_meets PySem.F.slot_list_index ⟨_,eh,rfl⟩ PySem.F.entry_list_index (PySem.F.args_list_index_2 _ _) (SeqAt.list_indexAt l its.toArray n none #[] _ (λu=>match uI u with|some x=>e x|none=>false) j (by simp;omega) nofun ((val j (by simp;omega) xj hj).trans ej) (λm hm' hlt=>?_)) ⟨eh,λu hu'=>?_,?_⟩
  .obtain⟨x',h1,h2⟩:=ab m hm';rw[val m hm' x' h1];exact hm m x' hlt h1
  .obtain⟨m,hm',rfl⟩:=Array.getElem_of_mem hu';obtain⟨x',h1,h2⟩:=ab m hm';obtain⟨k,hk,ek⟩:=he x' (cr h1);have:=(i6 I ek (A:=X.A.in1) (by show X.A.units+_+k<cLine;omega) h2 ry).1;rw[val m hm' x' h1];exact this
  .exact⟨.int _,H,I.tok _,⟨_,rfl⟩,q⟩
abbrev G8 (m:Lm):V->List V->Hp->VK->Prop:=λx vs H Q=>∃ p xs,x=.ref p/\H p=some (.lst xs)/\yo m p xs vs H Q
def Ax (m:Lm):C0 X (BU m) (G8 m):=by
 intro Y s U H x vs v us Q I rx rv h;obtain⟨p,xs,rfl,hp,h⟩:=h;unfold yo at h;cases m with
 |append=>
  obtain⟨y,rfl,h⟩:=h;exact gF Y s U H _ _ v us Q I rx rv ⟨p,xs,_,rfl,rfl,hp,Nat.lt_of_le_of_lt h.1 (by decide),h.2⟩
 |extend=>
  obtain⟨b,zs,rfl,hz,hl,q⟩:=h;exact sF Y s U H _ _ v us Q I rx rv ⟨p,_,xs,zs,rfl,rfl,hp,hz,jb nofun,q⟩
 |insert=>
  obtain⟨i,y,rfl,h⟩:=h;exact rl Y s U H _ _ v us Q I rx rv ⟨p,xs,_,_,rfl,rfl,hp,h.1,h.2.1,Nat.lt_of_le_of_lt h.2.2.1 (by decide),h.2.2.2⟩
 |pop=>exact h.elim
 |clear=>exact h.elim
 |reverse=>exact h.elim
 |count=>
  obtain⟨k,rfl,fk,fx,h⟩:=h;exact wC Y s U H _ _ v us Q I rx rv ⟨p,k,xs,rfl,rfl,fk,fx,hp,h⟩
def ur {m:Str}{apos pos:Pos}{ta:TE}{t:TA}{pl:Sem Bool}{n:Nat}(g:Gd X G S k E)(hc:G.cm=G.cm)(he:PE X o ta)(ha:PA X es t)
  (hnil:es=[]->∀ U H R,t U H R->R [] H) (hst:∀ e r,es=e::r->bm es X.env=(false,eval e X.env)::bm r X.env) (hpl:∀ e r,es=e::r->(backTo pos (bm r X.env)).any (·.1)=false)
  (ht:eval (.Call (.Attribute o m apos) es [] pos) X.env=(do
   let ov <-eval o X.env
   standAt apos.atName
   let(f,first) <-holding [ov] (getMethod ov m pl)
   callWith pos f first (backTo pos (bm es X.env)) (backToKw pos (keywordEach [] X.env)))):
  PE X (.Call (.Attribute o m apos) es [] pos) (λU H Q=>ta U H λx H1=>∃ p i dx fs f,x=.ref p/\H1 p=some (.ins (G.R.cad i) dx fs)/\fs.lookup m=none/\G.T.me.lookup (i,m)=some f/\
   t U H1 λvs H2=>G.yv f (x::(vs++dflt G f n)) H2 Q (E U)):=by
 intro Y s U H Q I h;refine W.methodCall_KW (pl:=pl) (au (he Y s U H _ I h) λu s1 ⟨x,H1,I1,rx,a,i,dx,fs,f,ex,ea,l,hf,q⟩=>?_) ht;subst ex;obtain rfl:u=Value.ref a:=rx;obtain⟨c,hm,d,hd⟩:=g.tab.me i m f hf;obtain⟨fd,F,B⟩:=(g.fns f d hd).fact;have hr:bJ k X.A:=g.room.mono (Nat.le_succ _);obtain⟨ds,hb,hv⟩:∃ ds,Binds X.K fd d.ps ds/\Vals (dflt G f n) ds:=by
  unfold dflt;rw[hd];exact B _
 refine oy I1 ea c hm l ?_;cases es with
 |nil=>
  refine W.callWith_K0 (first:=[.ref a]) I1.bK hm.kp ?_;exact ke (us:=[.ref a]) (vs:=[.ref a]) F g.hh hr hb hv g.pass I1 (.cons rfl .nil) (hnil rfl _ _ _ q)
 |cons e r=>
  refine W.callWith_K (first:=[.ref a]) (h₀:=X.base) I.ok.mod.kin hm.kp (au (ha pos Y s1 U H1 _ I1 q) λus s2 ⟨vs,H2,I2,r,q2⟩=>⟨I2.bK,?_⟩) (hst e r rfl) (hpl e r rfl);exact ke (us:=.ref a::us) (vs:=.ref a::vs) F g.hh hr hb hv g.pass I2 (.cons rfl r) q2
end
def Ab {α β:Type}{f:α->Option β}:∀ {l:List α}{j:Nat}{y:β},(∀ a ∈ l,(f a).isSome=true)->(l.filterMap f)[j]? =some y->∃ a,l[j]? =some a/\f a=some y
 | [],_,_,_,h=>by simp at h
 |a::l,j,y,hs,h=>by
  obtain⟨b,hb⟩:=Option.isSome_iff_exists.mp (hs a le);rw[filterMap_cons,hb]at h;cases j with
  |zero=>simp at h;exact⟨a,rfl,by rw[hb,h]⟩
  |succ j=>
   simp at h;obtain⟨a',h1,h2⟩:=Ab (λa ha=>hs a (dl _ ha)) h;exact⟨a',by simpa using h1,h2⟩
def vy {α β:Type}{f:α->Option β}:∀ {l:List α},(∀ a ∈ l,(f a).isSome=true)->(l.filterMap f).length=l.length
 | [],_=>rfl
 |a::l,hs=>by
  obtain⟨b,hb⟩:=Option.isSome_iff_exists.mp (hs a le);rw[filterMap_cons,hb];simp[vy (λa ha=>hs a (dl _ ha))]
abbrev iu (env:Env):Str×NameKind->List (Str×Addr)->Sem (ForInStep (List (Str×Addr))):=λnk r=>do
 let cs:=r
 if(nk.2 ==NameKind.free)=true then do
  let a <-cellOf env nk.1
  pure (ForInStep.yield ((nk.1,a)::cs))
 else pure (ForInStep.yield cs)
def kh {env:Env}:∀ (names:List (Str×NameKind)) (cs:List (Str×Addr)),(∀ y ∈ names,y.2=.free->∃ c,env.cells.lookup y.1=some c)->
  ∃ cl,(forIn names cs (iu env):Sem _)=pure cl/\(∀ y c,cl.lookup y=some c->cs.lookup y=some c\/env.cells.lookup y=some c)/\(∀ y,(cs.lookup y).isSome=true->(cl.lookup y).isSome=true)/\∀ y ∈ names,y.2=.free->(cl.lookup y.1).isSome=true
 | [],cs,_=>⟨cs,rfl,λy c h=>.inl h,λy h=>h,λy hy=>absurd hy (by simp)⟩
 |(n,kd)::r,cs,h=>by
  by_cases hk:kd=.free
  .subst hk;obtain⟨c,hc⟩:=h (n,.free) le rfl;obtain⟨cl,h1,h2,h3,h4⟩:=kh r ((n,c)::cs) λy hy=>h y (dl _ hy)
   have self:(((n,c)::cs).lookup n).isSome=true:=by simp[lookup_cons]
   refine⟨cl,?_,λy d q=>?_,λy q=>h3 y ?_,λy hy hf=>?_⟩
   .rw[forIn_cons];have e:iu env (n,.free) cs=pure (ForInStep.yield ((n,c)::cs)):=by
     unfold iu;simp only[cellOf,hc]
     rfl
    rw[e];exact h1
   .rcases h2 y d q with q|q
    .rw[lookup_cons]at q
     by_cases e:y=n
     .subst e;simp at q;subst q;exact .inr hc
     .rw[show(y ==n)=false from beq_eq_false_iff_ne.mpr e]at q;exact .inl q
    .exact .inr q
   .rw[lookup_cons];cases(y ==n)<;>simp[q]
   .rcases lf.mp hy with rfl|hy
    .exact h3 _ self
    .exact h4 y hy hf
  .obtain⟨cl,h1,h2,h3,h4⟩:=kh r cs λy hy=>h y (dl _ hy)
   refine⟨cl,?_,h2,h3,λy hy hf=>?_⟩
   .rw[forIn_cons];have e:iu env (n,kd) cs=pure (ForInStep.yield cs):=by
     unfold iu;cases kd<;>first|rfl|exact absurd rfl hk
    rw[e];exact h1
   .rcases lf.mp hy with rfl|hy
    .exact absurd hf hk
    .exact h4 y hy hf
variable {scope:Scope}
def wW {env:Env}(h:∀ y ∈ scope.names,y.2=.free->∃ c,env.cells.lookup y.1=some c):
  ∃ cl,closureFor scope env=pure cl/\(∀ y c,cl.lookup y=some c->env.cells.lookup y=some c)/\∀ y ∈ scope.names,y.2=.free->(cl.lookup y.1).isSome=true:=by
 obtain⟨cl,h1,h2,_,h4⟩:=kh scope.names [] h;refine⟨cl,?_,λy c q=>(h2 y c q).resolve_left (by simp),h4⟩;have e:closureFor scope env=(forIn scope.names [] (iu env) >>= λcs=>pure cs):=by
  unfold closureFor iu
  rfl
 rw[e,h1]
 rfl
variable {xs:List Str}{sel:List Nat}{cl:List (Str×Addr)}
section
variable {X:Cx}{G:Gx}{S:Sn}{k:Nat}{E:St->XK}
def iz (g:Gd X G S k E)(scope:Scope):relabel scope X.env=cR S.sc scope:=by
 unfold relabel cR Env.kindOf;rw[g.sc]
def bg (g:Gd X G S k E)(ok:X.Ok)(h:eI S scope xs sel=true):∃ cl,aW X scope cl xs (sel.filterMap λi=>S.N[i]?) sel:=by
 unfold eI at h;simp only[li,decide_eq_true_eq,all_eq_true,Bool.or_eq_true,bne_iff_ne,ne_eq]at h;obtain⟨⟨⟨⟨⟨h1,h2⟩,h3⟩,h4⟩,h5⟩,h6⟩:=h;have hs:∀ i ∈ sel,(S.N[i]?).isSome=true:=λi hi=>by
  have:=h5 i hi
  split at this
  .rename_i e;rw[e];rfl
  .cases this
 obtain⟨cl,c1,c2,c3⟩:=wW (env:=X.env) (scope:=scope) λy hy hf=>ok.has y.1 (.inl (by
  show X.env.scope.names.lookup y.1=_;rw[g.sc];exact((h3 y hy).2).resolve_left λz=>z hf))
 refine⟨cl,⟨c1,c2,λy hy=>?_,h1,λy hy=>(h3 y hy).1.1,λy hy hl=>((h3 y hy).1.2).resolve_left λz=>z hl,h4,(vy hs).symm,λj y hj=>?_,h6⟩⟩
 .have:∃ kd,(y,kd) ∈ scope.names/\kd=.free:=by
   rcases hy with hy|hy
   .obtain⟨kd,m,q⟩:=c4 hy;rcases q with q|q
    .subst q;exact absurd rfl (h3 _ m).1.1
    .exact⟨kd,m,q.1⟩
   .obtain⟨kd,m,q⟩:=c4 hy;rcases q with q|q
    .exact⟨kd,m,q.symm⟩
    .exact nomatch q.2
  obtain⟨kd,m,rfl⟩:=this;exact Option.isSome_iff_exists.mp (c3 _ m rfl)
 .obtain⟨i,hi,hn⟩:=Ab hs hj;have q:=h5 i (cr hi);rw[hn]at q;simp only[li,decide_eq_true_eq]at q;refine⟨i,hi,by rw[g.N];exact hn,by rw[g.sc];exact q.1,by rw[iz g];exact q.2⟩
def Gd.comp (g:Gd X G S k E)(hc:G.cm=.calm)(C:aW X scope cl xs (sel.filterMap λi=>S.N[i]?) sel) (E0:XK) (s:Shared) (H:Hp) (fp:List Addr):
  Gd (dh X scope cl (xs++sel.filterMap λi=>S.N[i]?) s H fp E0) G { S with sc:=cR S.sc scope,N:=xs++sel.filterMap λi=>S.N[i]? } k (λ_=>E0) where
 hK:=g.hK
 hT:=g.hT
 sc:=iz g scope
 N:=rfl
 nd:=C.nd
 pass:=cP qa
 hd:=by
  have h:=g.hd;rw[hc]at h⊢;exact h
 xok:=qa
 xst:=g.xst
 room:=g.room
 un:=g.un
 tab:=g.tab
 fns:=g.fns
 fnsU:=g.fnsU
def Gd.Al (g:Gd X G S k E)(hc:G.cm=.soft)(C:aW X scope cl xs (sel.filterMap λi=>S.N[i]?) sel) (E0:XK) (s:Shared) (H:Hp) (fp:List Addr):
  Gd (dh X scope cl (xs++sel.filterMap λi=>S.N[i]?) s H fp E0) { G with cm:=.mute } { S with sc:=cR S.sc scope,N:=xs++sel.filterMap λi=>S.N[i]? } k (λ_=>E0) where
 hK:=g.hK
 hT:=g.hT
 sc:=iz g scope
 N:=rfl
 nd:=C.nd
 pass:=cP qa
 hd:=True.intro
 xok:=qa
 xst:=g.xst
 room:=g.room
 un:=g.un
 tab:=g.tab
 fns:=λf d h=>by
  have F:=g.fns f d h;rw[hc]at F;exact F.imp λ_ _ _ _ z=>z.elim
 fnsU:=λz=>by cases z
def nj (env:Env):∀ {is:List Nat}{ts:List Expr},tf S is ts=true->(assignEach ts env).length=is.length/\(assignEach ts env).findIdx? (·.1)=none
 | [],[],_=>⟨rfl,rfl⟩
 | [],_::_,h=>by simp[tf]at h
 |_::_,[],h=>by simp[tf]at h
 |i::is,t::ts,h=>by
  cases t<;>simp[tf]at h
  rename_i x p;obtain⟨h1,h2⟩:=nj env h.2;have e:assignEach (.Name x p::ts) env=(false,assign (.Name x p) env)::assignEach ts env:=rfl;rw[e];refine⟨by simp[h1],?_⟩;rw[List.findIdx?_cons];simp[h2]
def qH (g:Gd X G S k E):∀ {is:List Nat}{ts:List Expr},tf S is ts=true->BV X ts (gl is)
 | [],[],_=>λY s U H vs us Q I r h=>kS Y s U H vs us Q I r ⟨length_eq_zero_iff.mp h.1,by
   have:=h.2;have e:vs=[]:=length_eq_zero_iff.mp h.1;subst e;exact this⟩
 | [],_::_,h=>by simp[tf]at h
 |_::_,[],h=>by simp[tf]at h
 |i::is,t::ts,h=>by
  cases t<;>simp[tf]at h
  rename_i x p;have hl:X.env.scope.names.lookup x=some .local:=by rw[g.sc];exact h.1.2
  have h1:PG X (.Name x p) (fh i):=fH (by rw[g.N];exact g.nd) (by rw[g.N];exact h.1.1) (.inl hl) (.inr hl);have h2:=qH g h.2;intro Y s U H vs us Q I r q;refine fB h1 h2 rfl Y s U H vs us Q I r ?_;obtain⟨hl,q⟩:=q;cases vs with
  |nil=>simp at hl
  |cons v vs=>exact⟨v,vs,rfl,by simpa using hl,q⟩
def qI (g:Gd X G S k E)(hc:G.cm=.calm){n kt:Nat}{ts:List Expr}{pt:Pos}(h:tf S (List.range n) ts=true):PG X (.Tuple ts kt pt) (zD G.R.K n (gl (List.range n))):=by
 obtain⟨e1,e2⟩:=nj X.env h;rw[List.length_range]at e1;rw[g.hK];exact kD (g.cm hc) (qH g h) e1 e2
def qq {n:Nat}(h:xs.length=n):lX xs=sn n none:=by
 subst h;unfold lX;rw[List.map_const']
end
set_option maxHeartbeats 2000000
variable {r:List Expr}{p:Pos}{tg:Expr}{U:L2.St}{H1:Hp}{s1:Shared}{R:It->Hp->Prop}{v:Value}{keys:List (Option Expr)}
section
variable {G:Gx}{k:Nat}
def iQ {o1 o2:CmpOp}{c:Expr}(h:bY c=true):lastMarks [o1,o2] [b,c]=false:=by
 show behindInMarks o2 c=false;exact cz h _
def iU {o1 o2 o3:CmpOp}{c d:Expr}(h:bY d=true):lastMarks [o1,o2,o3] [b,c,d]=false:=by
 show behindInMarks o3 d=false;exact cz h _
def uB {t:TE}(h:PE X (match r with| []=>b|_=>.BoolOp .And (b::r) p) t):PE X (.BoolOp .And (b::r) p) t:=by
 cases r with
 |nil=>exact uM h
 |cons c r=>exact h
def tT {t:TE}(h:PE X (match r with| []=>b|_=>.BoolOp .Or (b::r) p) t):PE X (.BoolOp .Or (b::r) p) t:=by
 cases r with
 |nil=>exact uM h
 |cons c r=>exact h
def zU {op:BoolOp}(h:PT X (.BoolOp op l p) t):PW X (.BoolOp op l p) t:=λwhole Y s U H Q I q=>by
 have:=h Y s U H Q I q;exact this
def vE (h:PT X (match r with| []=>b|_=>.BoolOp .And (b::r) p) t):PW X (.BoolOp .And (b::r) p) t:=by
 cases r with
 |nil=>exact y9 h
 |cons c r=>exact zU h
def tG (h:PT X (match r with| []=>b|_=>.BoolOp .Or (b::r) p) t):PW X (.BoolOp .Or (b::r) p) t:=by
 cases r with
 |nil=>exact Bc h
 |cons c r=>exact zU h
def yW:Fg X (unaryOp .USub) (λx H Q=>match x with| .int i=>Q (.int (-i)) H|_=>False):=by
 intro Y s U H x v Q I r h
 split at h
 .exact(L2.Bh Y s U H _ v Q I r ⟨_,rfl,h⟩)
 .exact h.elim
def rW {c:Bool}{CX:qL}{C f:Addr}{fd:FuncData}{ps:List Str}{sp:Sp}{dvs:List V}{ds:List Value}{E:St->XK}{pos:Pos}(M:E9 X.K C f)(F:cS c X.prog X.w X.K X.mg X.base CX k f fd ps sp)(hh:∀ {Y:HN}{U:St}{H:Hp}{s:Shared}{vs:List V}{Q:VK}{E:XK},Inv X Y U H s->sp vs H Q E->tD c X.A.handled H) (hr:bJ (k+1) X.A) (hg:Gl X x) (hm:X.mg x=some (.ref C)) (hb:Binds X.K fd ps ds) (hd:Vals dvs ds) (hx:Passes CX X E)
  (hdb:(x ==("__debug__":Str))=false):PE X (.Call (.Name x p) [] [] pos) (wo C sp dvs E yf):=by
 intro Y s U H Q I h;refine bv (bz I hg hm ?_ hdb);exact W.callWith_K0 I.bK M.kp (jH (us:=[]) M F hh hr hb hd hx (Nat.zero_le _) I .nil h.2)
def bR.bB {f:Value->Value->Sem Value}{r:R2}(h:bR X f r):bR X f (λx y H R=>∃ Q,r x y H Q/\∀ z H1,Q z H1->R z H1):=λY s U H x y v u R I rx ry ⟨Q,q,i⟩=>
 au (h Y s U H x y v u Q I rx ry q) λ_ _ ⟨v,H',J,r,z⟩=>⟨v,H',J,r,i _ _ z⟩
section
open PyProof.Rows
def se {xs:List V}(I1:Inv X Y U H1 s1)(r:RelV (.ref a) v)(hq:aL X.K H1 a xs)(q:R (De X.K a) H1):
  wpAny (model X.prog X.w) X.A (pyIter v) (E8 X Y U tg R) X.xe s1:=by
 cases r;obtain⟨its,rv,p,hz⟩:=I1.list hq;refine wpAny_pyIter_list p.isList ?_;refine⟨s1.heap.objs.size,[s1.heap.objs.size],_,_,H1,rfl,I1.kept (t':=s1.toks) λb o e=>sK _ e,rN a _,⟨_,ul _ rfl,rfl,rfl⟩,λb hb=>?_,q⟩;have e:b=s1.heap.objs.size:=by simpa using hb
 subst e;exact I1.nK (pc _) (I1.hok.fresh (pc _))
def vp {xs:List V}(I1:Inv X Y U H1 s1)(r:RelV (.ref a) v)(hq:aY X.K H1 a xs)(q:R (rB X.K a) H1):
  wpAny (model X.prog X.w) X.A (pyIter v) (E8 X Y U tg R) X.xe s1:=by
 cases r;obtain⟨its,rv,p,hz⟩:=I1.tuple hq;refine wpAny_pyIter_tuple (show s1.heap.IsTuple a its.toArray from p) ?_;refine⟨s1.heap.objs.size,[s1.heap.objs.size],_,_,H1,rfl,I1.kept (t':=s1.toks) λb o e=>sK _ e,cg a _,⟨_,ul _ rfl,rfl,rfl⟩,λb hb=>?_,q⟩;have e:b=s1.heap.objs.size:=by simpa using hb
 subst e;exact I1.nK (pc _) (I1.hok.fresh (pc _))
def jG {xs:List V}(I1:Inv X Y U H1 s1)(r:RelV (.ref a) v)(hq:aY X.K H1 a xs)(q:R (rB X.K a) H1):
  wpAny (model X.prog X.w) X.A (pyIter v) (AJ et X Y U tg R) X.xe s1:=by
 cases r;obtain⟨its,rv,p,hz⟩:=I1.tuple hq;refine wpAny_pyIter_tuple (show s1.heap.IsTuple a its.toArray from p) ?_;refine⟨s1.heap.objs.size,[s1.heap.objs.size],_,_,H1,rfl,I1.kept (t':=s1.toks) λb o e=>sK _ e,mV a _,⟨_,ul _ rfl,rfl,rfl⟩,λb hb=>?_,q⟩;have e:b=s1.heap.objs.size:=by simpa using hb
 subst e;exact I1.nK (pc _) (I1.hok.fresh (pc _))
end
def CP {x:V}{Q:Bool->Hp->Prop}(h:B3 K x H Q):∃ k,xD K x H k/\Q k H:=by
 unfold B3 at h
 split at h
 .exact⟨_,rfl,h⟩
 .exact h
abbrev GH:List Str->List V->List (V×V)
 |k::ks,x::xs=>(.str k,x)::GH ks xs
 |_,_=>[]
def rY {k:Str}{ks:List Str}(h:sC (k::ks) keys=true):∃ j p r,keys=some (.Constant (.str k) j p)::r/\sC ks r=true:=by
 unfold sC at h
 split at h
 .rename_i e;cases e
 .rename_i k' ks' x j p r e
  injection e with e1 e2
  subst e1 e2;simp only[li,decide_eq_true_eq]at h;obtain⟨rfl,h⟩:=h;exact⟨_,_,_,rfl,h⟩
 .cases h
def vc (h:sC [] keys=true):keys=[]:=by
 cases keys with
 |nil=>rfl
 |cons a r=>cases(show false=true from h)
mutual
theorem sE:∀ (x:Ex){G:Gx}{X:Cx}{S:Sn}{E:St->XK},Gd X G S k E->∀ {e:Expr},mE S x e=true->PE X e (λU H Q=>wE G x U H Q (E U))
 | .v i,G,X,S,E,g,e,h=>by
  sleep 1
  simp only[li,decide_eq_true_eq]at h;obtain⟨h1,h2⟩:=h;obtain⟨v1,v2,v3⟩:=g.Em h2;refine PE.imp (AW (i:=i) (by rw[g.N];exact h1) v1 v2 v3) λU H Q q=>?_
  conv at q=>whnf
  split at q
  .rename_i e;exact⟨_,e,q⟩
  .exact q.elim
 | .int i,G,X,S,E,g,e,h=>by
  sleep 2
  simp only[decide_eq_true_eq]at h;subst h;exact B4
 | .bl i,G,X,S,E,g,e,h=>by
  sleep 2
  simp only[decide_eq_true_eq]at h;subst h;exact EU
 | .non,G,X,S,E,g,e,h=>by
  sleep 2
  exact A3
 | .str i,G,X,S,E,g,e,h=>by
  sleep 2
  simp only[decide_eq_true_eq]at h;subst h;exact vN
 | .gl x,G,X,S,E,g,e,h=>by
  sleep 1
  simp only[li,decide_eq_true_eq]at h;obtain⟨rfl,h2⟩:=h;obtain⟨hg,hd⟩:=g.glob h2;intro Y s U H Q I q
  conv at q=>whnf
  split at q
  .rename_i v e;obtain⟨u,hm,r⟩:=g.tab.gl _ v e;exact km hg hm r hd Y s U H Q I q
  .exact q.elim
 | .bin op a b,G,X,S,E,g,e,h=>by
  sleep 1
  simp only[li,decide_eq_true_eq]at h;obtain⟨⟨rfl,ha⟩,hb⟩:=h;exact EX (g.bin op) (sE a g ha) (sE b g hb)
 | .neg a,G,X,S,E,g,e,h=>by
  sleep 2
  exact D4 yW (sE a g h)
 | .not a,G,X,S,E,g,e,h=>by
  sleep 2
  refine PE.imp (BB (PE.bB (sE a g h))) λU H Q q=>⟨_,q,λx H1 z=>?_⟩
  split at z
  .exact⟨_,rfl,z⟩
  .exact z.elim
 | .and a b,G,X,S,E,g,e,h=>by
  sleep 3
  simp only[li]at h;refine PE.imp (Cw (PE.bB (sE a g h.1)) (uB (sE b g h.2))) λU H Q q=>⟨_,q,λx H1 z=>?_⟩
  split at z
  .rw[bX]at z;exact⟨_,rfl,z⟩
  .exact z.elim
 | .or a b,G,X,S,E,g,e,h=>by
  sleep 3
  simp only[li]at h;refine PE.imp (EA (PE.bB (sE a g h.1)) (tT (sE b g h.2))) λU H Q q=>⟨_,q,λx H1 z=>?_⟩
  split at z
  .rw[bX]at z;exact⟨_,rfl,z⟩
  .exact z.elim
 | .cmp op a b,G,X,S,E,g,e,h=>by
  sleep 3
  simp only[li,decide_eq_true_eq]at h;obtain⟨⟨⟨rfl,ha⟩,hb⟩,hn⟩:=h;exact yF (g.cmp op) (sE a g ha) (sE b g hb) (cz hn _)
 | .cmp2 o1 o2 a b c,G,X,S,E,g,e,h=>by
  sleep 3
  simp only[li,decide_eq_true_eq]at h;obtain⟨⟨⟨⟨⟨rfl,rfl⟩,ha⟩,hb⟩,hc⟩,hn⟩:=h;refine PE.imp (tK (bR.bB (g.cmp o1)) (g.cmp o2) (PE.bB (sE a g ha)) (PE.bB (sE b g hb)) (sE c g hc) (iQ hn)) λU H Q q=>⟨_,q,λx H1 q1=>⟨_,q1,λy H2 q2=>⟨_,q2,λz H3 q3=>?_⟩⟩⟩
  split at q3
  .rw[bX]at q3;exact⟨_,rfl,q3⟩
  .exact q3.elim
 | .cmp3 o1 o2 o3 a b c d,G,X,S,E,g,e,h=>by
  sleep 3
  simp only[li,decide_eq_true_eq]at h;obtain⟨⟨⟨⟨⟨⟨⟨rfl,rfl⟩,rfl⟩,ha⟩,hb⟩,hc⟩,hd⟩,hn⟩:=h;refine PE.imp (rL (bR.bB (g.cmp o1)) (bR.bB (g.cmp o2)) (g.cmp o3) (PE.bB (sE a g ha)) (PE.bB (sE b g hb)) (PE.bB (sE c g hc)) (sE d g hd) (iU hn)) λU H Q q=>⟨_,q,λx H1 q1=>⟨_,q1,λy H2 q2=>⟨_,q2,λz H3 q3=>?_⟩⟩⟩
  split at q3
  .refine⟨_,rfl,?_⟩;rw[bX]at q3
   split at q3
   .rename_i hk;rw[if_pos hk];refine⟨_,q3,λw H4 q4=>⟨_,q4,λz' H5 q5=>?_⟩⟩
    split at q5
    .rw[bX]at q5;exact⟨_,rfl,q5⟩
    .exact q5.elim
   .rename_i hk;rw[if_neg hk];exact q3
  .exact q3.elim
 | .ife c a b,G,X,S,E,g,e,h=>by
  sleep 1
  simp only[li]at h;exact PE.imp (tP (PT.bB (sT c g h.1.1)) (sE a g h.1.2) (sE b g h.2)) λU H Q q=>⟨_,q,λk H1 z=>by rwa [bX]at z⟩
 | .tup es,G,X,S,E,g,e,h=>by
  sleep 1
  refine PE.imp (uf (PA.bB (qw es g h))) λU H Q q=>⟨_,q,λx H1 z=>by unfold dg at z;exact⟨jb (by have:=z.1;omega),z.2⟩⟩
 | .lst es,G,X,S,E,g,e,h=>by
  sleep 1
  refine PE.imp (Cz (PA.bB (qw es g h))) λU H Q q=>⟨_,q,λx H1 z=>by unfold zr at z;exact⟨jb (by have:=z.1;omega),z.2⟩⟩
 | .ix a i,G,X,S,E,g,e,h=>by
  sleep 1
  simp only[li]at h;have hr:EG X (wM G.R.K):=g.hK▸pw g.un;exact Dq hr (sE a g h.1.1) (sE i g h.1.2) (o5 h.2)
 | .sl a lo hi,G,X,S,E,g,e,h=>by
  sleep 3
  simp only[li]at h;have hr:DG X (wU G.R.K):=g.hK▸Cs;exact uz hr (sE a g h.1.1) (sO lo g h.1.2) (sO hi g h.2)
 | .fld a f,G,X,S,E,g,e,h=>by
  sleep 1
  simp only[li,decide_eq_true_eq]at h;obtain⟨⟨ha,rfl⟩,hn⟩:=h;intro Y s U H Q I q;have q':wE G a U H (λx H1=>ow G f x H1 Q) (E U):=q;refine yI (bS hn _ _ _) (au (sE a g ha Y s U H _ I q') λu s1 ⟨x,H1,I1,rx,qf⟩=>?_);unfold ow at qf;obtain⟨a,i,fs,v,ex,ea,hna,l,q⟩:=qf;subst ex;obtain rfl:u=Value.ref a:=rx;have n:=g.tab.na i f hna;rcases ea with⟨ho,dx,ea⟩|⟨ho,dx,fr,ea⟩
  .exact nQ I1 ea (g.tab.oc i ho).1 n l λu' s' J rv=>⟨v,H1,J,rv,q⟩
  .exact su I1 ea (g.tab.xc i ho).1 n l λu' s' J rv=>⟨v,H1,J,rv,q⟩
 | .call f es,G,X,S,E,g,e,h=>by
  sleep 3
  rename_i es' pos _ xn p1 _;simp only[li,decide_eq_true_eq]at h;obtain⟨⟨h1,h2⟩,h3⟩:=h;obtain⟨hg,hdb⟩:=g.glob h1;obtain⟨hm,hk,d,hd⟩:=g.tab.gfn _ _ (g.hT▸h2);obtain⟨fd,F,B⟩:=(g.fns f d hd).fact;obtain⟨ds,hb,hv⟩:∃ ds,Binds X.K fd d.ps ds/\Vals (dflt G f es.len) ds:=by
   unfold dflt;rw[hd];exact B _
  intro Y s U H Q I q;obtain⟨hc,q⟩:=(show G.cm=G.cm/\wEs G es U H (λvs H1=>G.yv f (vs++dflt G f es.len) H1 Q (E U)) (E U) from q);have hr:bJ k X.A:=g.room.mono (Nat.le_succ _);cases es' with
  |nil=>
   cases es with
   |nil=>exact tV F g.hh hr hg hm hk hb hv g.pass hdb Y s U H Q I q
   |cons _ _=>cases(show false=true from h3)
  |cons e0 er=>
   have PAs:=qw es g h3;obtain⟨ns,x0,xr,rfl,h4⟩:=bh h3;exact xN F g.hh hr hg hm hk hb hv g.pass PAs hdb (ae ns) (aP h4 _ _) Y s U H Q I q
 | .meth a m es,G,X,S,E,g,e,h=>by
  sleep 3
  rename_i es' pos _ a' m' apos _;simp only[li,decide_eq_true_eq]at h;obtain⟨⟨⟨⟨⟨ha,rfl⟩,h3⟩,h4⟩,h5⟩,h6⟩:=h;intro Y s U H Q I q;obtain⟨hc,q⟩:=(show G.cm=G.cm/\_ from q);refine ur (n:=es.len+1) g hc (sE a g ha) (qw es g h3) (λz U H R hr=>?_) (λe r z=>?_) (λe r z=>?_) (jZ h4 (pK h3 h6 _ _) h5) Y s U H Q I q
  .subst z;cases es with
   |nil=>exact hr
   |cons _ _=>cases(show false=true from h3)
  .subst z;exact ae (bh h3).1
  .subst z;have PAs:=qw es g h3;obtain⟨ns,x0,xr,rfl,h4⟩:=bh h3;exact aP h4 _ _
 | .lm m a es,G,X,S,E,g,e,h=>by
  sleep 3
  rename_i es' pos _ a' m' apos _;simp only[li,decide_eq_true_eq]at h;obtain⟨⟨⟨⟨⟨ha,rfl⟩,h3⟩,h4⟩,h5⟩,h6⟩:=h;cases es' with
  |nil=>
   cases es with
   |nil=>exact PE.imp (AO PySem.F.plainAttrs_list (pI m) (zH m) (Ax m) (PE.bB (sE a g ha)) (bS h4 _ _ _) h5) λU H Q q=>⟨_,q,λx H1 z=>by
     obtain⟨p,xs0,ex,hp,q⟩:=z;subst ex;obtain⟨xs,h1,h2⟩:=q;exact⟨.inl ⟨rfl,xs0,aL.of hp⟩,p,xs,rfl,h1,h2⟩⟩
   |cons _ _=>cases(show false=true from h3)
  |cons e0 er=>
   have PAs:=qw es g h3;obtain⟨ns,x0,xr,rfl,h7⟩:=bh h3;exact PE.imp (An PySem.F.plainAttrs_list (pI m) (zH m) (Ax m) (PE.bB (sE a g ha)) (PA.bB PAs) (bS h4 _ _ _) (v7 h3 h6 _ _) h5 (ae ns) (aP h7 _ _)) λU H Q q=>⟨_,q,λx H1 z=>by
     obtain⟨p,xs0,ex,hp,q⟩:=z;subst ex;exact⟨.inl ⟨rfl,xs0,aL.of hp⟩,_,q,λvs H2 ⟨xs,h1,h2⟩=>⟨p,xs,rfl,h1,h2⟩⟩⟩
 | .dget a k d,G,X,S,E,g,e,h=>by cases(show false=true from h)
 | .rev a b,G,X,S,E,g,e,h=>by cases(show false=true from h)
 | .dupd a b,G,X,S,E,g,e,h=>by cases(show false=true from h)
 | .lix a b,G,X,S,E,g,e,h=>by
  sleep 4
  simp only[li,decide_eq_true_eq]at h;obtain⟨⟨⟨⟨⟨ha,rfl⟩,h3⟩,n1⟩,h4⟩,h5⟩:=h;exact PE.imp (An PySem.F.plainAttrs_list PySem.F.slot_list_index rfl (ua g.un) (PE.bB (sE a g ha)) (gB (PE.bB (sE b g h3)) cZ n1) (bS h4 _ _ _) (xB h3 n1 _ _) h5 (ae n1) rfl) λU H Q q=>⟨_,q,λx H1 z=>by
   obtain⟨p,xs0,ex,hp,q⟩:=z;subst ex;exact⟨.inl ⟨rfl,xs0,aL.of hp⟩,_,q,λy H2 z=>⟨p,y,rfl,rfl,g.hK▸z⟩⟩⟩
 | .make c es,G,X,S,E,g,e,h=>by
  sleep 3
  rename_i es' pos _ xn p1 _;simp only[li,decide_eq_true_eq]at h;obtain⟨⟨h1,h2⟩,h3⟩:=h;obtain⟨hg,hdb⟩:=g.glob h1;have hm:=g.tab.gcl _ _ (g.hT▸h2);intro Y s U H Q I q
  conv at q=>whnf
  obtain⟨hc,q⟩:=q
  split at q
  .obtain⟨h0,q⟩:=q;cases es' with
   |nil=>
    cases es with
    |nil=>exact absurd q.1 (by decide)
    |cons _ _=>cases(show false=true from h3)
   |cons e0 er=>
    have PAs:=qw es g h3;obtain⟨ns,x0,xr,rfl,h4⟩:=bh h3;exact vw (g.tab.ini0 c h0) hg hm PAs hdb (ae ns) (aP h4 _ _) Y s U H Q I q
  .rename_i f hf;obtain⟨⟨d,hd⟩,hmk⟩:=g.tab.ini c f hf;obtain⟨fd,F,B⟩:=(g.fns f d hd).fact;obtain⟨ds,hb,hv⟩:∃ ds,Binds X.K fd d.ps ds/\Vals (dflt G f (es.len+1)) ds:=by
    unfold dflt;rw[hd];exact B _
   have hr:=g.room
   split at q
   .rename_i hx;rw[if_pos hx]at hmk;cases es' with
    |nil=>
     cases es with
     |nil=>exact rW hmk F g.hh hr hg hm hb hv g.pass hdb Y s U H Q I q
     |cons _ _=>cases(show false=true from h3)
    |cons e0 er=>
     have PAs:=qw es g h3;obtain⟨ns,x0,xr,rfl,h4⟩:=bh h3;exact tQ hmk F g.hh hr hg hm hb hv g.pass PAs hdb (ae ns) (aP h4 _ _) Y s U H Q I q
   .rename_i hx;rw[if_neg hx]at hmk;cases es' with
    |nil=>
     cases es with
     |nil=>exact ve hmk F g.hh hr hg hm hb hv g.pass hdb Y s U H Q I q
     |cons _ _=>cases(show false=true from h3)
    |cons e0 er=>
     have PAs:=qw es g h3;obtain⟨ns,x0,xr,rfl,h4⟩:=bh h3;exact yV hmk F g.hh hr hg hm hb hv g.pass PAs hdb (ae ns) (aP h4 _ _) Y s U H Q I q
 | .bini es,G,X,S,E,g,e,h=>by
  sleep 4
  rename_i es' pos _ mm p2 _ xn p1 _;simp only[li,decide_eq_true_eq]at h;obtain⟨⟨⟨⟨⟨h1,rfl⟩,h2⟩,h3⟩,h4⟩,h5⟩:=h;obtain⟨hg,hdb⟩:=g.glob h1;obtain⟨B,hm,hB⟩:=g.tab.gbi _ (g.hT▸h2);cases es' with
  |nil=>
   cases es with
   |nil=>cases h4
   |cons _ _=>cases(show false=true from h3)
  |cons e0 er=>
   have PAs:=qw es g h3;obtain⟨ns,x0,xr,rfl,h7⟩:=bh h3;refine PE.imp (Bw hB hg hm (PA.bB PAs) hdb (ae ns) (aP h7 _ _) (jZ (o:=.Name _ _) rfl (pK h3 (by rw[h4];decide) _ _) h5)) λU H Q q=>⟨_,q,λvs H1 z=>?_⟩
   obtain⟨a,i,dx,fs,fr,v,ev,ea,hi,q⟩:=z;exact⟨a,_,dx,fs,fr,v,ev,ea,(g.tab.xc i hi).1,q⟩
 | .cini c es,G,X,S,E,g,e,h=>by cases(show false=true from h)
 | .bf b es,G,X,S,E,g,e,h=>by
  sleep 3
  rename_i es' pos _ xn p1 _;simp only[li,decide_eq_true_eq]at h;obtain⟨⟨⟨⟨h1,rfl⟩,h2⟩,h3⟩,h4⟩:=h;obtain⟨hg,hdb⟩:=g.glob h1;obtain⟨hm,hn⟩:=g.tab.gbl _ (g.hT▸h2);cases es' with
  |nil=>
   cases es with
   |nil=>exact absurd h4 (by decide)
   |cons _ _=>cases(show false=true from h3)
  |cons e0 er=>
   have PAs:=qw es g h3;obtain⟨ns,x0,xr,rfl,h7⟩:=bh h3;have hb:=xQ b;have hk:=Ea g b;have key:∀ {v:Value},uo b=v->(∃ i,v=.builtin i)\/(∃ i,v=.type i):=by
    intro v hv;subst hv;cases b<;>first|exact .inl ⟨_,rfl⟩|exact .inr ⟨_,rfl⟩
   rcases key rfl with⟨i,hi⟩|⟨i,hi⟩
   .rw[hi]at hb hk;exact iO hk hg hm hb PAs hn hdb (ae ns) (aP h7 _ _)
   .rw[hi]at hb hk;exact sk hk hg hm hb PAs hn hdb (ae ns) (aP h7 _ _)
 | .isi a c,G,X,S,E,g,e,h=>by
  sleep 4
  rename_i pos _ xn p1 _ _ a' c';simp only[li,decide_eq_true_eq]at h;obtain⟨⟨⟨⟨h1,rfl⟩,h2⟩,h3⟩,h4⟩:=h;obtain⟨hg,hdb⟩:=g.glob h1;obtain⟨hm,hn⟩:=g.tab.gbl _ (g.hT▸h2);have n1:notStar a'=true:=by
   cases a'<;>first|rfl|(cases a<;>cases(show false=true from h3))
  have n2:notStar c'=true:=by
   cases c'<;>first|rfl|(cases c<;>simp[xV]at h4)
  refine PE.imp (iO (CI g c) hg hm wj (gB (PE.bB (sE a g h3)) (gB (D9 g h4) cZ n2) n1) hn hdb (ae n1) ?_) λU H Q q=>⟨_,q,λx H1 z=>⟨x,rfl,z⟩⟩
  rw[ae n2]
  rfl
 | .lc elt sel it,G,X,S,E,g,e,h=>by
  sleep 2
  split at h
  iterate 3 (split at h;rotate_left;cases h)
  simp only[li]at h;obtain⟨⟨⟨h1,h2⟩,h3⟩,h4⟩:=h;intro Y s U H Q I q;rcases vS (show Fi G.cm (wI G it U H (λJ H1=>pY (λσ' H' Q'=>wE G elt σ' H' Q' (E U)) J (none::dD U sel) H1 Q) (E U)) (FR G it U H (λJ H1=>pY (λσ' H' Q'=>wE { G with cm:=.mute } elt σ' H' Q' (E U)) J (none::dD U sel) H1 Q) (E U)) from q) with⟨hc,q⟩|⟨hc,q⟩
  .rw[lu]at q;obtain⟨cl,C⟩:=bg g I.ok h1;exact l7 (ok:=Calm) (λ_=>g.cm hc) (g.cx U) C (sI it g h2) (λs H fp=>sE elt (g.comp hc C (E U) s H fp) h3) (aU h4 _) Y s H Q I q
  .cases it with
   |seq a=>
    rw[lu]at q;obtain⟨cl,C⟩:=bg g I.ok h1;have sx:et X:=by
     have hd:=g.hd;rw[hc]at hd;exact hd
    refine l7 (ok:=et) (wi:=λU H R=>wE G a U H (λx H1=>match x with| .ref p=>(∃ xs,aY G.R.K H1 p xs)/\R (rB G.R.K p) H1|_=>False) (E U)) (λI'=>sx.now I') (g.cx U) C (λY s U H R I q=>?_) (λs H fp=>sE elt (g.Al hc C (E U) s H fp) h3) (aU h4 _) Y s H Q I q;have q':wE G a U H (λx H1=>match x with| .ref p=>(∃ xs,aY G.R.K H1 p xs)/\R (rB G.R.K p) H1|_=>False) (E U):=q;rw[g.hK]at q';refine au (sE a g h2 Y s U H _ I q') λv s1 ⟨x,H1,I1,r1,z⟩=>?_
    dsimp only at z
    split at z
    .obtain⟨⟨xs,hx⟩,z⟩:=z;exact jG I1 r1 hx z
    .exact z.elim
   |_=>exact q.elim
 | .lci elt c sel it,G,X,S,E,g,e,h=>by cases(show false=true from h)
 | .lct elt n sel it,G,X,S,E,g,e,h=>by
  sleep 2
  split at h
  iterate 3 (split at h;rotate_left;cases h)
  simp only[li,decide_eq_true_eq]at h;obtain⟨⟨⟨⟨⟨h1,h5⟩,h6⟩,h2⟩,h3⟩,h4⟩:=h;intro Y s U H Q I q;obtain⟨hc,q⟩:=(show G.cm=.calm/\wI G it U H (λJ H1=>LCt G.R.K n (λσ' H' Q'=>wE G elt σ' H' Q' (E U)) J (sn n none++dD U sel) H1 Q) (E U) from q);rw[vj,<-qq h6]at q;obtain⟨cl,C⟩:=bg g I.ok h1;exact jW (ok:=Calm) (λ_=>g.cm hc) (g.cx U) C (sI it g h2) (λs H fp=>qI (g.comp hc C (E U) s H fp) hc h5) (λs H fp=>hU) (λs H fp=>sE elt (g.comp hc C (E U) s H fp) h3) (aU h4 _) Y s H Q I q
 | .lcu elt c n sel it,G,X,S,E,g,e,h=>by cases(show false=true from h)
 | .dnew,G,X,S,E,g,e,h=>by
  sleep 3
  refine PE.imp uq λU H Q q=>?_
  have q':newD H Q:=q;unfold newD at q';exact q'
 | .sm m a b,G,X,S,E,g,e,h=>by cases(show false=true from h)
 | .up a,G,X,S,E,g,e,h=>by cases(show false=true from h)
 | .isiT a cs,G,X,S,E,g,e,h=>by
  sleep 5
  rename_i pos _ xn p1 _ _ a' _ es' kk pos2;simp only[li,decide_eq_true_eq]at h;obtain⟨⟨⟨⟨⟨h1,rfl⟩,h2⟩,h3⟩,h4⟩,h5⟩:=h;obtain⟨hg,hdb⟩:=g.glob h1;obtain⟨hm,hn⟩:=g.tab.gbl _ (g.hT▸h2);have n1:notStar a'=true:=by
   cases a'<;>first|rfl|(cases a<;>cases(show false=true from h3))
  refine PE.imp (iO (xq g cs) hg hm wj (gB (PE.bB (sE a g h3)) (gB (uf (tW g h4)) cZ rfl) n1) hn hdb (ae n1) ?_) λU H Q q=>⟨_,q,λx H1 z=>⟨?_,λp hp=>⟨x,p,rfl,?_,z p hp⟩⟩⟩
  .rw[ae (show notStar (.Tuple es' kk pos2)=true from rfl)]
   rfl
  .exact jb (by rw[ce];omega)
  .rw[aq,List.map_map]
   rfl
 | .mk0 c,G,X,S,E,g,e,h=>by
  sleep 4
  simp only[li,decide_eq_true_eq]at h;obtain⟨⟨h1,h2⟩,h3⟩:=h;obtain⟨hg,hdb⟩:=g.glob h1;refine PE.imp (vg (g.tab.inip c (g.hT▸h3)) hg (g.tab.gcl _ _ (g.hT▸h2)) hdb) λU H Q q=>?_
  have q':wF (G.R.cad c) H Q:=q;unfold wF at q';exact q'
 | .vals tp a,G,X,S,E,g,e,h=>by cases(show false=true from h)
 | .disp ks es,G,X,S,E,g,e,h=>by cases(show false=true from h)
 | .dzip a b,G,X,S,E,g,e,h=>by
  sleep 8
  simp only[li,decide_eq_true_eq]at h;obtain⟨⟨⟨⟨⟨⟨⟨⟨⟨h1,rfl⟩,h2⟩,h3⟩,rfl⟩,h4⟩,h5⟩,h6⟩,n1⟩,n2⟩:=h;obtain⟨hg,hdb⟩:=g.glob h1;obtain⟨hm,hn⟩:=g.tab.gbl _ (g.hT▸h2);obtain⟨hg',hdb'⟩:=g.glob h3;obtain⟨hm',hn'⟩:=g.tab.gbl _ (g.hT▸h4);intro Y s U H Q I q;obtain⟨hc,q⟩:=(show G.cm=.calm/\wE G a U H (λx H1=>wE G b U H1 (λy H2=>DJ G.R.K x y H2 Q) (E U)) (E U) from q);refine yQ (g.cm hc) hg hm hg' hm' (gB (PE.bB (sE a g h5)) (gB (PE.bB (sE b g h6)) cZ n2) n1) (ae n1) (by rw[ae n2];rfl) Y s U H Q I ⟨_,q,λx H1 z=>⟨_,z,λy H2 z=>?_⟩⟩;unfold DJ at z;exact⟨_,_,rfl,g.hK▸z⟩
termination_by structural x=>x
theorem sI:∀ (x:xb){G:Gx}{X:Cx}{S:Sn}{E:St->XK},Gd X G S k E->∀ {t e:Expr},mI S x t e=true->PI X t e (λU H R=>wI G x U H R (E U))
 | .rng1 a,G,X,S,E,g,t,e,h=>by
  sleep 4
  simp only[li,decide_eq_true_eq]at h;obtain⟨⟨⟨⟨h1,rfl⟩,h2⟩,h3⟩,n1⟩:=h;obtain⟨hg,hdb⟩:=g.glob h1;obtain⟨hm,hn⟩:=g.tab.gbl _ (g.hT▸h2);intro Y s U H R I q;refine sD hg hm (gB (PE.bB (sE a g h3)) cZ n1) (ae n1) Y s U H R I ⟨_,q,λx H1 z=>?_⟩
  split at z
  .exact⟨_,rfl,z.1,z.2.1,z.2.2⟩
  .exact z.elim
 | .rng2 a b,G,X,S,E,g,t,e,h=>by cases(show false=true from h)
 | .rng3 a b c,G,X,S,E,g,t,e,h=>by cases(show false=true from h)
 | .enm a,G,X,S,E,g,t,e,h=>by
  sleep 4
  simp only[li,decide_eq_true_eq]at h;obtain⟨⟨⟨⟨⟨h1,rfl⟩,h2⟩,h3⟩,n1⟩,h5⟩:=h;obtain⟨hg,hdb⟩:=g.glob h1;obtain⟨hm,hn⟩:=g.tab.gbl _ (g.hT▸h2)
  split at h5
  .intro Y s U H R I q;refine xS hg hm (gB (PE.bB (sE a g h3)) cZ n1) (ae n1) Y s U H R I ⟨_,q,λx H1 z=>?_⟩
   split at z
   .unfold xE at z;exact⟨_,rfl,z.1,z.2⟩
   .exact z.elim
  .cases h5
 | .enf a,G,X,S,E,g,t,e,h=>by cases(show false=true from h)
 | .seq a,G,X,S,E,g,t,e,h=>by
  conv at h=>lhs;whnf
  intro Y s U H R I q;have q':wE G a U H (λx H1=>match x with| .ref p=>ku G.R.K p H1 R| .str z=>R (C9 z) H1|_=>False) (E U):=q;rw[g.hK]at q';refine au (sE a g h Y s U H _ I q') λv s1 ⟨x,H1,I1,r1,z⟩=>?_
  dsimp only at z
  split at z
  .unfold ku at z;rcases z with⟨⟨xs,hx⟩,z⟩|⟨⟨xs,hx⟩,z⟩|z
   .exact se I1 r1 hx z
   .exact vp I1 r1 hx z
   .exact z.elim
  .exact wx I1 r1 z
  .exact z.elim
 | .zip a b,G,X,S,E,g,t,e,h=>by
  sleep 4
  simp only[li,decide_eq_true_eq]at h;obtain⟨⟨⟨⟨⟨⟨⟨h1,rfl⟩,h2⟩,h3⟩,h4⟩,n1⟩,n2⟩,h5⟩:=h;obtain⟨hg,hdb⟩:=g.glob h1;obtain⟨hm,hn⟩:=g.tab.gbl _ (g.hT▸h2)
  split at h5
  .intro Y s U H R I q;refine BG hg hm (gB (PE.bB (sE a g h3)) (gB (PE.bB (sE b g h4)) cZ n2) n1) (ae n1) (by rw[ae n2];rfl) Y s U H R I ⟨_,q,λx H1 z=>⟨_,z,λy H2 z=>?_⟩⟩;unfold zq at z;exact⟨_,_,rfl,g.hK▸z⟩
  .cases h5
 | .zip3 a b c,G,X,S,E,g,t,e,h=>by cases(show false=true from h)
termination_by structural x=>x
theorem sO:∀ (x:Fc){G:Gx}{X:Cx}{S:Sn}{E:St->XK},Gd X G S k E->∀ {e:Option Expr},mO S x e=true->PO X e (λU H Q=>wO G x U H Q (E U))
 | .no,G,X,S,E,g,none,h=>yq
 | .no,G,X,S,E,g,some _,h=>by cases(show false=true from h)
 | .yes x,G,X,S,E,g,none,h=>by cases(show false=true from h)
 | .yes x,G,X,S,E,g,some e,h=>by
  conv at h=>lhs;whnf
  intro Y s U H Q I q;refine yB (PE.bB (sE x g h)) Y s U H Q I ⟨_,q,λy H1 z=>?_⟩
  split at z
  .exact⟨_,rfl,z⟩
  .exact z.elim
termination_by structural x=>x
theorem sT:∀ (x:Tx){G:Gx}{X:Cx}{S:Sn}{E:St->XK},Gd X G S k E->∀ {e:Expr},mT S x e=true->PT X e (λU H Q=>wT G x U H Q (E U))
 | .not a,G,X,S,E,g,e,h=>by
  sleep 2
  exact Ck (sT a g h)
 | .and a b,G,X,S,E,g,e,h=>by
  sleep 3
  simp only[li]at h;exact PT.imp (AU (PT.bB (sT a g h.1)) (vE (sT b g h.2))).pt λU H Q q=>⟨_,q,λk H1 z=>by rwa [bX]at z⟩
 | .or a b,G,X,S,E,g,e,h=>by
  sleep 3
  simp only[li]at h;exact PT.imp (D3 (PT.bB (sT a g h.1)) (tG (sT b g h.2))).pt λU H Q q=>⟨_,q,λk H1 z=>by rwa [bX]at z⟩
 | .cmp op a b,G,X,S,E,g,e,h=>by
  sleep 3
  simp only[li,decide_eq_true_eq]at h;obtain⟨⟨⟨rfl,ha⟩,hb⟩,hn⟩:=h;refine PT.imp (wX (bR.bB (g.cmp op)) (PE.bB (sE a g ha)) (PE.bB (sE b g hb)) (cz hn _)) λU H Q q=>⟨_,q,λx H1 q1=>⟨_,q1,λy H2 q2=>⟨_,q2,λz H3 q3=>?_⟩⟩⟩
  split at q3
  .exact⟨_,rfl,q3⟩
  .exact q3.elim
 | .cmp2 o1 o2 a b c,G,X,S,E,g,e,h=>by
  sleep 3
  simp only[li,decide_eq_true_eq]at h;obtain⟨⟨⟨⟨⟨rfl,rfl⟩,ha⟩,hb⟩,hc⟩,hn⟩:=h;refine PT.imp (vz (bR.bB (g.cmp o1)) (bR.bB (g.cmp o2)) (PE.bB (sE a g ha)) (PE.bB (sE b g hb)) (PE.bB (sE c g hc)) (iQ hn)) λU H Q q=>⟨_,q,λx H1 q1=>⟨_,q1,λy H2 q2=>⟨_,q2,λz H3 q3=>?_⟩⟩⟩
  split at q3
  .refine⟨_,rfl,?_⟩;rw[bX]at q3
   split at q3
   .rename_i hk;rw[if_pos hk];refine⟨_,q3,λw H4 q4=>⟨_,q4,λz H5 q5=>?_⟩⟩
    split at q5
    .exact⟨_,rfl,q5⟩
    .exact q5.elim
   .rename_i hk;rw[if_neg hk];exact⟨_,rfl,q3⟩
  .exact q3.elim
 | .cmp3 o1 o2 o3 a b c d,G,X,S,E,g,e,h=>by
  sleep 3
  simp only[li,decide_eq_true_eq]at h;obtain⟨⟨⟨⟨⟨⟨⟨rfl,rfl⟩,rfl⟩,ha⟩,hb⟩,hc⟩,hd⟩,hn⟩:=h;refine PT.imp (sU (bR.bB (g.cmp o1)) (bR.bB (g.cmp o2)) (bR.bB (g.cmp o3)) (PE.bB (sE a g ha)) (PE.bB (sE b g hb)) (PE.bB (sE c g hc)) (PE.bB (sE d g hd)) (iU hn)) λU H Q q=>⟨_,q,λx H1 q1=>⟨_,q1,λy H2 q2=>⟨_,q2,λz H3 q3=>?_⟩⟩⟩
  split at q3
  .refine⟨_,rfl,?_⟩;rw[bX]at q3
   split at q3
   .rename_i hk;rw[if_pos hk];refine⟨_,q3,λw H4 q4=>⟨_,q4,λz' H5 q5=>?_⟩⟩
    split at q5
    .refine⟨_,rfl,?_⟩;rw[bX]at q5
     split at q5
     .rename_i hk';rw[if_pos hk'];refine⟨_,q5,λw2 H6 q6=>⟨_,q6,λz2 H7 q7=>?_⟩⟩
      split at q7
      .exact⟨_,rfl,q7⟩
      .exact q7.elim
     .rename_i hk';rw[if_neg hk'];exact⟨_,rfl,q5⟩
    .exact q5.elim
   .rename_i hk;rw[if_neg hk];exact⟨_,rfl,q3⟩
  .exact q3.elim
 | .val x,G,X,S,E,g,e,h=>by
  have h:(mE S x e&&plainT e)=true:=h;simp only[li]at h;refine PT.imp (vY (PE.bB (sE x g h.1)) (plainT_ok h.2 _)) λU H Q q=>⟨_,q,λy H1 z=>?_⟩
  exact g.hK▸CP z
termination_by structural x=>x
theorem HB:∀ (x:fc){G:Gx}{X:Cx}{S:Sn}{E:St->XK},Gd X G S k E->∀ {ks:List Str}{keys:List (Option Expr)}{e:List Expr}{pos:Pos},sC ks keys=true->iJ S x e=true->x.len=ks.length->PQ X pos keys e (λU H R=>∃ Q,wEs G x U H Q (E U)/\∀ xs H1,xs.length=x.len->Q xs H1->R (GH ks xs) H1)
 | .nil,G,X,S,E,g,ks,keys,[],pos,h1,h,hl=>by
  obtain rfl:ks=[]:=List.eq_nil_of_length_eq_zero hl.symm;rw[vc h1];exact λY s U H R I ⟨Q,q,i⟩=>By Y s U H R I (i [] H rfl q)
 | .nil,G,X,S,E,g,_,_,_::_,pos,h1,h,hl=>by cases(show false=true from h)
 | .cons x xs,G,X,S,E,g,_,_,[],pos,h1,h,hl=>by cases(show false=true from h)
 | .cons x xs,G,X,S,E,g,[],keys,e::es,pos,h1,h,hl=>by cases hl
 | .cons x xs,G,X,S,E,g,c::ks,keys,e::es,pos,h1,h,hl=>by
  have h:(mE S x e&&notStar e&&iJ S xs es)=true:=h;simp only[li]at h;obtain⟨j,p,r,rfl,h2⟩:=rY h1;intro Y s U H R I ⟨Q,q,i⟩;refine yL vN (PE.bB (sE x g h.1.1)) (HB xs g h2 h.2 (Nat.succ.inj hl)) Y s U H R I ?_;exact⟨_,q,λy H2 z=>⟨_,z,λys H3 hy w=>i (y::ys) H3 (congrArg Nat.succ hy) w⟩⟩
termination_by structural x=>x
theorem qw:∀ (x:fc){G:Gx}{X:Cx}{S:Sn}{E:St->XK},Gd X G S k E->∀ {e:List Expr},iJ S x e=true->PA X e (λU H Q=>wEs G x U H Q (E U))
 | .nil,G,X,S,E,g,[],h=>cZ
 | .nil,G,X,S,E,g,_::_,h=>by cases(show false=true from h)
 | .cons x xs,G,X,S,E,g,[],h=>by cases(show false=true from h)
 | .cons x xs,G,X,S,E,g,e::es,h=>by
  have h:(mE S x e&&notStar e&&iJ S xs es)=true:=h;simp only[li]at h;exact gB (sE x g h.1.1) (qw xs g h.2) h.1.2
termination_by structural x=>x
end
end
end L3
namespace L2
open PySem PySem.Spec PyProof.Rows
variable {ok:Cx->Prop}{scope:Scope}{cl:List (Str×Addr)}{fr:List Str}{sel:List Nat}{U:St}{s:Shared}
section
variable {X:Cx}
abbrev GC (X:Cx)(U:St)(st:Stmt)(t:TS):Prop:=∀ (Y:HN) (s:Shared) (H:Hp) (D:Ends),Inv X Y U H s->t D U H->wpAny (model X.prog X.w) X.A (exec st X.env) (SP X Y D) X.xe s
def eD {elt iter tgt:Expr}{ifs:List Expr}{xs:List Str}{y:Str}{py pos spos:Pos}{wi:TI}{tg:TG}{tc:TT}{te:TE}{ni:Nat}{E:XK}(hc:∀ {Y:HN}{U:St}{H:Hp}{s:Shared}{fp:List Addr},Inv X Y U H s->ok (dh X scope cl (xs++fr) s H fp E)) (hx:jT X U E) (S:aW X scope cl xs fr sel) (hi:zI ok X tgt iter wi)
  (hg:∀ (s:Shared) (H:Hp) (fp:List Addr),PG (dh X scope cl (xs++fr) s H fp E) tgt tg) (ht:∀ (s:Shared) (H:Hp) (fp:List Addr),E7 (dh X scope cl (xs++fr) s H fp E) ifs tc)
  (he:∀ (s:Shared) (H:Hp) (fp:List Addr),PE (dh X scope cl (xs++fr) s H fp E) elt te) (hs:∀ x,foldedSetIterable iter X.env x=pure x) (hN:X.N.Nodup) (hni:X.N[ni]? =some y) (hy:X.env.scope.names.lookup y=some .local)
  (hsw:swapsWith (.ListComp elt [⟨tgt,iter,ifs,0⟩] scope pos) (some (.Name y py)) spos.line X.env=pure true):GC X U (.Assign [.Name y py] (.ListComp elt [⟨tgt,iter,ifs,0⟩] scope pos) spos) (λD U H=>EV wi tg tc te xs sel U H λv H1=>D.nx (U.set ni (some v)) H1):=by
 intro Y s H DD I h;rw[exec_Assign_Name_used _ _ _ _ hsw];refine ad (wpAny_standAt (ad ?_));show wpAny _ _ (do let _ <-comprehension (.ListComp elt [⟨tgt,iter,ifs,0⟩] scope pos) scope X.env _ (newList []) false (eval iter X.env) (some (assign (.Name y py) X.env))) _ _ s;refine ad (wpAny_mono (wpAny_comprehension_free (use:=some (assign (.Name y py) X.env)) (Q:=λ_ s'=>SP X Y DD .next s') rfl hs S.clos S.kind S.names ?_) (λ_ s' hq=>am (am hq)) λ_ _ e=>e);refine au (hi Y s U H _ I h) λv s1 h1=>au h1 λitv s2 h2=>?_
 obtain⟨it,fp,tn,J,H2,e,I2,T,jN,f2,h2⟩:=h2;subst e;refine wpAny_newObj_type ?_;have hD:H2 s2.heap.objs.size=none:=I2.hok.fresh (pc _);have I3:Inv X Y U (upd H2 s2.heap.objs.size (.lst [])) { s2 with heap:=s2.heap.push { cls:=.type "list",dict:=none,data:=.seq ([]:List Value).toArray } }:=
  I2.laid (t':=s2.toks) (λb u e=>sK _ e) (pc _) ⟨Nat.zero_le _,[],0,.nil,ul _ rfl⟩
 have fo2:∀ b ∈ fp,b<s2.heap.objs.size:=λb hb=>by
  obtain⟨o,ho,_⟩:=T.obj _ _ jN b hb;exact tz ho
 have f3:∀ b ∈ fp,fu X Y (upd H2 s2.heap.objs.size (.lst [])) b:=λb hb=>⟨by rw[af (nw (fo2 b hb))];exact(f2 b hb).1,(f2 b hb).2⟩
 have zX:tn 0 (s2.heap.push { cls:=.type "list",dict:=none,data:=.seq ([]:List Value).toArray }):=T.keep _ _ _ jN λb hb o e=>sK _ e
 have fo3:∀ b ∈ fp,b<(s2.heap.push { cls:=.type "list",dict:=none,data:=.seq ([]:List Value).toArray }).objs.size:=λb hb=>by
  rw[Heap.size_push];exact Nat.lt_succ_of_lt (fo2 b hb)
 obtain⟨W,⟨m0,w0⟩,turn⟩:=h2 _ hD;generalize s2.heap.objs.size=D at*;generalize hs3:({ s2 with heap:=s2.heap.push { cls:=.type "list",dict:=none,data:=.seq ([]:List Value).toArray } }:Shared)=s3 at*;have st3':tn 0 s3.heap:=by rw[<-hs3];exact zX
 have fo3':∀ b ∈ fp,b<s3.heap.objs.size:=by rw[<-hs3];exact fo3
 refine wpAny_newFunctionEnv S.nocell (by intro y hy;simp at hy) (λh' hns hsb=>?_) S.kind;have keep:∀ b o,s3.heap.get? b=some o->h'.get? b=some o:=λb o e=>(hsb.2 b (nw (tz e))).trans (sK _ e)
 have I4:=nh (E:=E) (tk:=s3.toks+([]:List (Str×Value)).length) S I3 f3 fo3' hns keep;have st4:tn 0 h':=T.keep _ _ _ st3' λb hb o e=>keep b o e
 have stat:∀ {H':Hp},(∀ b ∈ fp,H' b=none)->∀ b ∈ fp,fu (dh X scope cl (xs++fr) s3 (upd H2 D (.lst [])) fp E) Y H' b:=λ{H'} hn b hb=>
  ⟨hn b hb,nw (fo3' b hb),λz=>(lf.mp (I3.gG b z)).elim (f3 b hb).2.1 (f3 b hb).2.2.1,.inl hb,λy c hy=>(f3 b hb).2.2.2.2.1 y c (S.sub y c hy),λp hp=>(f3 b hb).2.2.2.2.2 p hp⟩
 have loop:codeAny (model X.prog X.w) X.A (.compLoop (.ListComp elt [⟨tgt,iter,ifs,0⟩] scope pos) 0 (.ref it) (.ref D) (compEnvC scope cl s3.heap.objs.size X.env))
   (compPost (model X.prog X.w) X.A X.xe (some (assign (.Name y py) X.env)) (λ_ s'=>SP X Y DD .next s') (.ref D) s3.heap.objs.size) { s3 with heap:=h',toks:=s3.toks+([]:List (Str×Value)).length }:=by
  refine codeAny_loop rfl (λn s'=>∃ i σ' H',Inv (dh X scope cl (xs++fr) s3 (upd H2 D (.lst [])) fp E) Y σ' H' s'/\tn i s'.heap/\(∀ b ∈ fp,H' b=none)/\W i n σ' H') (λn s5 hI=>?_) m0 ⟨0,_,_,I4,st4,λb hb=>(f3 b hb).1,w0⟩;show wpAny _ _ ((compTurn (.ListComp elt [⟨tgt,iter,ifs,0⟩] scope pos) 0 (.ref it) (.ref D) (compEnvC scope cl s3.heap.objs.size X.env)).onRaise (λx=>do noteFrame x (compEnvC scope cl s3.heap.objs.size X.env);theTreesLotGoes x)) _ _ s5;refine wpAny_noted ?_;refine ql (ht s3 (upd H2 D (.lst [])) fp).1 ?_;have bad:=qy (scope:=scope) (cl:=cl) (xs:=xs) (fr:=fr) (P:=λ_ s'=>SP X Y DD .next s') (use:=some (assign (.Name y py) X.env)) (D:=D) hx I3 f3;obtain⟨i,σ5,H5,I5,st5,fr5,w5⟩:=hI;rcases turn i n σ5 H5 w5 with⟨stop,q⟩|⟨go,Nn,hNn,step⟩
  .refine au (T.done (dh X scope cl (xs++fr) s3 (upd H2 D (.lst [])) fp E) rfl rfl rfl (hc I3) i _ s5 σ5 H5 _ I5 (stat fr5) st5 stop) λr s6 ⟨hr,I6⟩=>?_
   subst hr;obtain⟨m,hn,_⟩:=I6.loc;have J:Inv X Y U H5 s6:=I3.qC (ch:=fp) I6.os I6.base I6.hok I6.bare λb hb=>⟨(f3 b hb).2.2.2.1,(f3 b hb).2.1,(f3 b hb).2.2.2.2.1,(f3 b hb).2.2.2.2.2⟩
   have fC:H5 s3.heap.objs.size=none:=I6.free;have nL:s3.heap.objs.size≠X.env.locals:=Ne.symm (nw I3.lt);have nC:∀ z c,X.env.cells.lookup z=some c->c≠s3.heap.objs.size:=λz c e=>by
    obtain⟨v,o,ho,_⟩:=I3.cell z c e;exact nw (tz ho)
   show wpAny _ _ (assign (.Name y py) X.env (.ref D)) _ _ s6;refine wpAny_assign_Name (jF J hN hni (.inl hy) (v:=.ref D) rfl (λs7 J7 hsb=>?_) (.inr hy));obtain⟨a,sb,ha⟩:=hsb;have hne:s3.heap.objs.size≠a:=by
    rcases ha with ha|ha
    .rw[ha];exact nL
    .exact Ne.symm (nC _ _ ha)
   refine⟨m,hn.sameBut sb hne,λh'' hs''=>⟨_,H5,?_,q⟩⟩;exact J7.turned (h':=h'') (t':=s7.toks) (it:=s3.heap.objs.size) (λb o hb e=>(hs''.2 b hb).trans e) fC nL (.inr I3.sz) nC λp hp=>nw (tz (I3.pin p hp).1)
  .have fin:∀ {σ8:St}{H10:Hp}{s10:Shared},Inv (dh X scope cl (xs++fr) s3 (upd H2 D (.lst [])) fp E) Y σ8 H10 s10/\tn (i+1) s10.heap/\(∀ b ∈ fp,H10 b=none)->Nn σ8 H10->∃ m',m'<n/\∃ i σ' H',Inv (dh X scope cl (xs++fr) s3 (upd H2 D (.lst [])) fp E) Y σ' H' s10/\tn i s10.heap/\(∀ b ∈ fp,H' b=none)/\W i m' σ' H':=λ⟨I,t,f⟩ nn=>by
    obtain⟨m',hm,w10⟩:=hNn _ _ nn;exact⟨m',hm,i+1,_,_,I,t,f,w10⟩
   refine au (T.item (dh X scope cl (xs++fr) s3 (upd H2 D (.lst [])) fp E) rfl rfl rfl (hc I3) i _ s5 σ5 H5 _ I5 (stat fr5) st5 go) λr s6 ⟨u,hr,h6⟩=>?_
   subst hr;refine au h6 λ_ s7 ⟨xv,H7,I7,r7,y7,st7,fr7⟩=>?_
   have I7':=I7.pinned (stat fr7) (T.obj _ _ st7);refine wpAny_mono (hg s3 _ fp _ s7 σ5 H7 xv u _ I7' r7 (step xv _ y7)) (λ_ s8 ⟨σ8,H8,I8,q8⟩=>?_) bad;refine wpAny_mono ((ht s3 _ fp).2 _ s8 σ8 H8 _ I8 q8) (λok s9 ⟨H9,I9,q9⟩=>?_) bad;have back:∀ {H10:Hp}{s10:Shared},Inv (dh X scope cl (xs++fr) s3 (upd H2 D (.lst [])) fp E) _ σ8 H10 s10->Inv (dh X scope cl (xs++fr) s3 (upd H2 D (.lst [])) fp E) Y σ8 H10 s10/\tn (i+1) s10.heap/\(∀ b ∈ fp,H10 b=none):=λ{H10 s10} I10=>⟨I10.dM,T.keep _ _ _ st7 λb hb o e=>(I10.pin (b,o) (gt _ (gt _ (bL hb e)))).1,λb hb=>by
    obtain⟨o,e,d⟩:=T.obj _ _ st7 b hb;exact(I10.pin (b,o) (gt _ (gt _ (bL hb e)))).2.1⟩
   refine⟨λek=>?_,λek=>am ⟨rfl,fin (back I9) (q9.2 ek)⟩⟩;refine wpAny_mono (he s3 _ fp _ s9 _ _ _ I9 (q9.1 ek)) (λuv s10 ⟨vv,H10,I10,r10,zs,hz,hzl,n10⟩=>?_) bad;refine wpAny_mono (gF (X:=dh X scope cl (xs++fr) s3 (upd H2 D (.lst [])) fp E) _ s10 _ H10 (.ref D) [vv] (.ref D) [uv] (λ_ H'=>H'=upd H10 D (.lst (zs++[vv]))) I10 rfl (.cons r10 .nil) ⟨D,zs,vv,rfl,rfl,hz,hzl,rfl⟩) (λ_ s11 ⟨_,H11,I11,_,e11⟩=>?_) bad;subst e11;exact am ⟨rfl,fin (back I11) n10⟩
 exact codeAny_compStart_list loop (T.self _ 0 _ _ _ st4 loop)
def jP {elt iter:Expr}{x y:Str}{px py pos spos:Pos}{wi:TI}{te:TE}{ni:Nat}{E:XK}(hc:∀ {Y:HN}{U:St}{H:Hp}{s:Shared}{fp:List Addr},Inv X Y U H s->ok (dh X scope cl (x::fr) s H fp E)) (hx:jT X U E) (S:aW X scope cl [x] fr sel) (hi:zI ok X (.Name x px) iter wi)
  (he:∀ (s:Shared) (H:Hp) (fp:List Addr),PE (dh X scope cl (x::fr) s H fp E) elt te) (hs:∀ x,foldedSetIterable iter X.env x=pure x) (hN:X.N.Nodup) (hni:X.N[ni]? =some y) (hy:X.env.scope.names.lookup y=some .local)
  (hsw:swapsWith (.ListComp elt [⟨.Name x px,iter,[],0⟩] scope pos) (some (.Name y py)) spos.line X.env=pure true):GC X U (.Assign [.Name y py] (.ListComp elt [⟨.Name x px,iter,[],0⟩] scope pos) spos) (λD U H=>GJ wi te sel U H λv H1=>D.nx (U.set ni (some v)) H1):=λY s H D I h=>
 eD (ok:=ok) hc hx S hi.up (λs H fp=>pe S) (λ_ _ _=>hU) he hs hN hni hy hsw Y s H D I ⟨_,h,λ_ _ q=>q.g⟩
section
variable {prog:Program}{w:World}{A:Around}{E:HM}
def j6 {it t:Addr}{items:Array Value}(hne:t≠it):∀ (n i:Nat) (s:Shared) (Q:List Value->Shared->Prop),s.heap.IsListIter it t i->s.heap.IsList t items->i+n<=items.size->
  (∀ h',h'.IsListIter it t (i+n)->Heap.SameBut it s.heap h'->Q ((items.toList.drop i).take n) { s with heap:=h' })->wpAny (model prog w) A (draw (.ref it) n) Q E s
 |0,i,s,Q,hit,_,_,hQ=>by
  show wpAny _ _ (pure []) Q E s;exact am (by simpa using hQ s.heap hit (Heap.SameBut.refl ..))
 |n+1,i,s,Q,hit,ht,hle,hQ=>by
  have hlt:i<items.size:=by omega
  show wpAny _ _ (pyNext (.ref it) >>= _) Q E s;refine ad (wpAny_pyNext_list_item hit ht (x:=items[i]) (by simp[hlt]) λh₁ hit₁ hs₁=>?_);refine ad (bd (j6 hne n (i+1) _ _ hit₁ (ht.extBut hs₁.extBut hne) nofun λh₂ hit₂ hs₂=>am ?_));have hd:items.toList.drop i=items[i]::items.toList.drop (i+1):=by simp[List.drop_eq_getElem_cons,hlt]
  have:=hQ h₂ (by rw[show i+(n+1)=i+1+n by omega];exact hit₂) (hs₁.trans hs₂);rw[hd,List.take_succ_cons]at this;exact this
def gh {t:Addr}{items:Array Value}{Q:List Value->Shared->Prop}(hh:A.handled=none)(ht:s.heap.IsList t items)(hty:s.TypeIs (.ref t) "list")
  (hQ:∀ h',Heap.ExtBut s.heap.objs.size s.heap h'->Q items.toList { s with heap:=h' }):wpAny (model prog w) A (unpackItems (.ref t) items.size none) Q E s:=by
 have hlt:t≠s.heap.objs.size:=by obtain⟨o,ho,_⟩:=id ht;exact nw (tz ho)
 unfold unpackItems;refine ad ?_
 .unfold notIterableAtAll;refine ad (wpAny_specialOf hty PySem.F.slot_list_iter.lookup ?_);refine am ?_;simp only[Bool.false_eq_true,if_false];refine ad (bd (wpAny_pyIter_list ht ?_));refine ad (bd (j6 hlt items.size 0 _ _ ⟨_,ul _ rfl,rfl,rfl⟩ (ht.push _) nofun λh₁ hit₁ hs₁=>?_));have hall:List.take items.size (List.drop 0 items.toList)=items.toList:=by
   rw[drop_zero];exact take_of_length_le (by simp)
  rw[hall];rw[if_neg (by simp)];have ht₁:h₁.IsList t items:=(ht.push _).extBut hs₁.extBut hlt;refine ad (bd (wpAny_pyNext_list_end hh hit₁ ht₁ (by simp) λh₂ he₂=>?_));simp only[Option.isSome_none,Bool.false_eq_true,if_false];refine am (hQ h₂ λb o hb e=>he₂ b o hb (hs₁.extBut b o hb (sK _ e)))
end
def CO {es:List Expr}{k:Nat}{pos:Pos}{t:w9}{n:Nat}(hc:X.calm=true)(h:BV X es t)
  (hn:(assignEach es X.env).length=n) (hst:(assignEach es X.env).findIdx? (·.1)=none){Y:HN}{H:Hp}{a:Addr}{u:Value}{xs:List V}{Q:St->Hp->Prop}(I:Inv X Y U H s) (r:RelV (.ref a) u)
  (hq:aL X.K H a xs) (hl:xs.length=n) (hw:t xs U H Q):wpAny (model X.prog X.w) X.A (assign (.Tuple es k pos) X.env u) (λ_ s'=>∃ σ' H',Inv X Y σ' H' s'/\Q σ' H') X.xe s:=by
 cases r;obtain⟨its,rv,p,hz⟩:=I.list hq;rw[assign_Tuple];refine ad (wpAny_standAt ?_);unfold unpack;have e1:(assignEach es X.env).length=its.toArray.size:=by
  rw[hn,<-hl];simp[rv.length]
 rw[e1,hst];refine ad (bd (gh (I.ok.hd hc) p.isList p.isList.typeIs λh' hx=>?_));have I1:Inv X Y U H { s with heap:=h' }:=I.kept (t':=s.toks) λb o e=>hx b o (nw (tz e)) e
 exact h Y _ U H xs _ Q I1 (by simpa using rv) hw
end
end L2
namespace L3
open PySem PySem.Spec L2
set_option maxHeartbeats 2000000
abbrev zM:Expr->Bool
 | .Tuple ..=>false
 |_=>true
abbrev tw (S:Sn):List Nat->List Expr->Bool
 | [],[]=>true
 |i::is,.Name x _::r=>S.loc i x&&tw S is r
 |_,_=>false
abbrev Ft (S:Sn):E3->Expr->Bool
 | .nm i,e=>match e with| .Name x _=>S.loc i x|_=>false
 | .tp is,e=>match e with| .Tuple ts _ _=>tw S is ts|_=>false
 | .nt i is,e=>match e with| .Tuple y1 _ _=>(match y1 with| [y2,y3]=>(match y2 with| .Name x _=>(match y3 with| .Tuple ts _ _=>S.loc i x&&tw S is ts|_=>false)|_=>false)|_=>false)|_=>false
abbrev Sn.nW (S:Sn)(i:Nat)(x:Str):Bool:=decide (S.N[i]? =some x)&&decide (S.sc.names.lookup x=some .local)
abbrev Du (S:Sn)(is:List Nat)(ts:List Expr):Bool:=match is with
 | [i,j]=>(match ts with| [a,b]=>(match a with| .Name x _=>(match b with| .Name y _=>S.nW i x&&(S.nW j y&&decide (i≠j))|_=>false)|_=>false)|_=>false)
 | [i,j,l]=>(match ts with| [a,b,c]=>(match a with| .Name x _=>(match b with| .Name y _=>(match c with| .Name z _=>S.nW i x&&(S.nW j y&&(S.nW l z&&(decide (i≠j)&&(decide (i≠l)&&decide (j≠l)))))|_=>false)|_=>false)|_=>false)|_=>false)
 |_=>false
mutual
noncomputable def mS (S:Sn):Sx->Stmt->Bool
 | .asg i e,s=>match s with| .Assign y1 e' _=>(match y1 with| [y2]=>(match y2 with| .Name x _=>S.loc i x&&mE S e e'|_=>false)|_=>false)|_=>false
 | .asgT is e,s=>match s with| .Assign y1 e' _=>(match y1 with| [y2]=>(match y2 with| .Tuple ts _ _=>tw S is ts&&mE S e e'&&zM e'|_=>false)|_=>false)|_=>false
 | .par is es,s=>match s with| .Assign y1 y2 _=>(match y1 with| [y3]=>(match y3 with| .Tuple ts kt pt=>(match y2 with| .Tuple vs k2 p2=>Du S is ts&&iJ S es vs&&Be S.sc (.Tuple ts kt pt) (.Tuple vs k2 p2) (is.filterMap λi=>S.N[i]?)|_=>false)|_=>false)|_=>false)|_=>false
 | .sub o i v,s=>match s with| .Assign y1 v' _=>(match y1 with| [y2]=>(match y2 with| .Subscript o' i' _=>mE S o o'&&mE S i i'&&mE S v v'&&d6 i'|_=>false)|_=>false)|_=>false
 | .fld o f v,s=>match s with| .Assign y1 v' _=>(match y1 with| [y2]=>(match y2 with| .Attribute o' f' _=>mE S o o'&&decide (f=f')&&mE S v v'|_=>false)|_=>false)|_=>false
 | .aug i op e,_=>false
 | .augS o i op e,s=>match s with| .AugAssign y1 op' e' _=>(match y1 with| .Subscript o' i' _=>mE S o o'&&mE S i i'&&decide (op=op')&&mE S e e'&&d6 i'|_=>false)|_=>false
 | .augF o f op e,_=>false
 | .ret e,s=>match s with| .Return y1 _=>(match y1 with|some e'=>mE S e e'|_=>false)|_=>false
 | .retN,_=>false
 | .pass,_=>false
 | .brk,_=>false
 | .cont,_=>false
 | .expr e,s=>match s with| .Expr e' _=>mE S e e'&&n6 e'|_=>false
 | .ife c a b,s=>match s with| .If c' a' b' _=>mT S c c'&&mB S a a'&&mB S b b'|_=>false
 | .whl c b,_=>false
 | .for t it b,s=>match s with| .For t' it' b' y1 _=>(match y1 with| []=>Ft S t t'&&mI S it t' it'&&mB S b b'&&bY it'|_=>false)|_=>false
 | .rais e,s=>match s with| .Raise y1 y2 _=>(match y1 with|some e'=>(match y2 with|none=>mE S e e'|_=>false)|_=>false)|_=>false
 | .tryx b hs,s=>match s with| .Try b' y1 y2 y3 _=>(match y1 with|h0::hs'=>(match y2 with| []=>(match y3 with| []=>mB S b b'&&mH S hs (h0::hs')|_=>false)|_=>false)|_=>false)|_=>false
noncomputable def mB (S:Sn):jr->List Stmt->Bool
 | .nil,l=>l.isEmpty
 | .cons s r,l=>match l with|s'::r'=>mS S s s'&&mB S r r'| []=>false
noncomputable def mH (S:Sn):wQ->List ExceptHandler->Bool
 | .nil,l=>l.isEmpty
 | .cons c i b hs,l=>match l with| .ExceptHandler (some (.Name x _)) (some n) (b0::bs) _::r=>S.j8 x&&decide (S.T.gcl.lookup x=some c)&&decide (S.N[i]? =some n)&&decide (S.sc.names.lookup n=some .local)&&mB S b (b0::bs)&&mH S hs r|_=>false
end
structure Gs (X:Cx) (G:Gx) (S:Sn) (k:Nat) (E:St->XK):Prop extends Gd X G S k E where
 own:PassesOwn (model X.prog X.w) X.A X.env X.xe
 stk:X.stack=X.env::X.outer
 fr:X.env.frame=some X.env.locals
 fn:∀ x,X.fn x=true
variable {e elt:Expr}{ts:List Expr}{p:Pos}{gs:List Comprehension}{scope:Scope}
section
variable {X:Cx}{G:Gx}{S:Sn}{k:Nat}{E:St->XK}
def Gs.eG (g:Gs X G S k E){Y:HN}{xe:HM}{E':St->XK}(hx:CU (X.eG Y xe) E')(ho:PassesOwn (model X.prog X.w) X.A X.env xe):Gs (X.eG Y xe) G S k E' where
 hK:=g.hK
 hT:=g.hT
 sc:=g.sc
 N:=g.N
 nd:=g.nd
 pass:=cP hx
 hd:=g.hd
 xok:=hx
 xst:=g.xst
 room:=g.room
 un:=g.un
 tab:=g.tab
 fns:=g.fns
 fnsU:=g.fnsU
 own:=ho
 stk:=g.stk
 fr:=g.fr
 fn:=g.fn
def Gs.aN (g:Gs X G S k E)(hc:G.cm=.calm)(e:Addr):Gs (X.aN (.ref e)) { G with cm:=.aN e } S k (λ_ _ _=>False) where
 hK:=g.hK
 hT:=g.hT
 sc:=g.sc
 N:=g.N
 nd:=g.nd
 pass:=λY U H s e s' I h=>by
  obtain⟨e,H',C,dx,fs,T,_,_,_,_,_,_,_,_,_,q⟩:=h;exact q.elim
 hd:=rfl
 xok:=λ_ _ _ _ _ _ _ _ _ _ z=>z.elim
 xst:=g.xst
 room:=⟨g.room.dp,g.room.un⟩
 un:=g.un
 tab:=g.tab
 fns:=λf d h=>(g.fnsU hc f d h).imp λ_ _ _ _ z=>z.2
 fnsU:=λz=>by cases z
 own:=PassesOwn.never
 stk:=g.stk
 fr:=g.fr
 fn:=g.fn
def i7 (env:Env):∀ {is:List Nat}{ts:List Expr},tw S is ts=true->(assignEach ts env).length=is.length/\(assignEach ts env).findIdx? (·.1)=none
 | [],[],_=>⟨rfl,rfl⟩
 | [],_::_,h=>by simp[tw]at h
 |_::_,[],h=>by simp[tw]at h
 |i::is,t::ts,h=>by
  cases t<;>simp[tw]at h
  rename_i x p;obtain⟨h1,h2⟩:=i7 env h.2;have e:assignEach (.Name x p::ts) env=(false,assign (.Name x p) env)::assignEach ts env:=rfl;rw[e];refine⟨by simp[h1],?_⟩;rw[List.findIdx?_cons];simp[h2]
def kZ (g:Gs X G S k E):∀ {is:List Nat}{ts:List Expr},tw S is ts=true->BV X ts (gl is)
 | [],[],_=>λY s U H vs us Q I r h=>kS Y s U H vs us Q I r ⟨length_eq_zero_iff.mp h.1,by
   have:=h.2;have e:vs=[]:=length_eq_zero_iff.mp h.1;subst e;exact this⟩
 | [],_::_,h=>by simp[tw]at h
 |_::_,[],h=>by simp[tw]at h
 |i::is,t::ts,h=>by
  cases t<;>simp[tw]at h
  rename_i x p;obtain⟨hi,hx⟩:=g.loc h.1;have h1:PG X (.Name x p) (fh i):=fH (by rw[g.N];exact g.nd) hi hx (.inl (g.fn x));have h2:=kZ g h.2;intro Y s U H vs us Q I r q;refine fB h1 h2 rfl Y s U H vs us Q I r ?_;obtain⟨hl,q⟩:=q;cases vs with
  |nil=>simp at hl
  |cons v vs=>exact⟨v,vs,rfl,by simpa using hl,q⟩
def Ap (g:Gs X G S k E)(hc:G.cm=.calm){t:E3}(h:Ft S t e=true):PG X e (λv U H Q=>wG U t G.R.K v H λσ1=>Q σ1 H):=by
 cases t with
 |nm i=>
  conv at h=>lhs;whnf
  split at h
  .obtain⟨hi,hx⟩:=g.loc h;exact fH (by rw[g.N];exact g.nd) hi hx (.inl (g.fn _))
  .cases h
 |tp is=>
  conv at h=>lhs;whnf
  split at h
  .intro Y s U H v u Q I r q;obtain⟨a,xs,rfl,hq,hl,q⟩:=q;obtain⟨e1,e2⟩:=i7 X.env h;rw[g.hK]at hq;rcases hq with hq|hq
   .exact kD (g.cm hc) (kZ g h) e1 e2 Y s U H _ u Q I r ⟨a,xs,rfl,hq,hl,hl,q⟩
   .exact CO (g.cm hc) (kZ g h) e1 e2 I r hq hl ⟨hl,q⟩
  .cases h
 |nt i is=>
  conv at h=>lhs;whnf
  split at h
  .split at h
   .split at h
    .split at h
     .intro Y s U H v u Q I r q;simp only[li]at h;obtain⟨a,y,b,ys,rfl,hq,hb,hl,q⟩:=q;obtain⟨e1,e2⟩:=i7 X.env h.2;obtain⟨hi,hx⟩:=g.loc h.1;rw[g.hK]at hq hb;refine kD (n:=2) (g.cm hc) (fB (fH (by rw[g.N];exact g.nd) hi hx (.inl (g.fn _))) (fB (kD (g.cm hc) (kZ g h.2) e1 e2) kS rfl) rfl) rfl rfl Y s U H _ u Q I r ⟨a,_,rfl,hq,rfl,y,_,rfl,.ref b,_,rfl,b,ys,rfl,hb,hl,hl,rfl,q⟩
     .cases h
    .cases h
   .cases h
  .cases h
def dy {kk:Nat}(n:Nat)(env:Env):swapsWithSole [.Tuple ts kk p] e n env=pure false:=by
 cases e<;>rfl
def rZ {o i:Expr}(n:Nat)(env:Env):swapsWithSole [.Subscript o i p] e n env=pure false:=by
 cases e<;>rfl
def qU {o:Expr}{f:Str}(n:Nat)(env:Env):swapsWith e (some (.Attribute o f p)) n env=pure false:=by
 cases e<;>rfl
def pD {kk:Nat}(env:Env)(h:zM e=true):swappedStores [.Tuple ts kk p] e env=pure none:=by
 cases e<;>first|rfl|cases h
def n8 {o i:Expr}(env:Env):swappedStores [.Subscript o i p] e env=pure none:=by
 cases e<;>rfl
def pj {o i:Expr}{pos:Pos}{env:Env}(h:d6 i=true):∀ v,assign (.Subscript o i pos) env v=(do
   let ov <-holding [v] (eval o env)
   let iv <-holding [v,ov] (eval i env)
   standAt pos
   holding [v,ov,iv] (setItem ov iv v)
   release [v,ov,iv] []):=by
 intro v;cases i<;>first|rfl|cases h
def yz {i:Expr}(h:d6 i=true):∀ ov iv new,augStore i ov iv new=(do holding [new,ov,iv] (setItem ov iv new);release [new,ov,iv] [];pure .next):=by
 intro ov iv new;cases i<;>first|rfl|cases h
def DR (op:Operator):Fe X op (F4 op):=by
 intro Y s U H x y v u Q I r1 r2 h;unfold F4 at h
 split at h
 .exact Cd Y s U H _ _ v u Q I r1 r2 ⟨_,_,rfl,rfl,h⟩
 .exact A6 Y s U H _ _ v u Q I r1 r2 ⟨_,_,rfl,rfl,h⟩
 .exact h.elim
def B6 (g:Gd X G S k E):Cu X (tR G.R.K):=by
 intro Y s U H x y v u Q I r1 r2 h;unfold tR at h;rw[g.hK]at h
 split at h
 .obtain⟨xs,w,h1,h2,h3,q⟩:=h;exact tE Y s U H _ _ v u Q I r1 r2 ⟨_,xs,_,w,rfl,rfl,h1,h2,h3,q⟩
 .exact h.elim
def pk {py:Pos}{y:Str}{n:Nat}{env:Env}(hk:env.scope.kind=.function):∃ b,swapsWith (.ListComp elt gs scope p) (some (.Name y py)) n env=pure b/\(b=true->env.scope.names.lookup y=some .local):=by
 refine⟨_,rfl,λh=>?_⟩;simp only[li]at h;have:=h.1.1.2;exact beq_iff_eq.mp this
end
set_option maxHeartbeats 2000000
variable {S:Sn}{α:Type}
section
variable {k:Nat}
def ES {x:Ex}(h:mE S x (.ListComp elt gs scope p)=true):(∃ e' sel it y py iter,x=.lc e' sel it/\gs=[⟨.Name y py,iter,[],0⟩]/\
  eI S scope [y] sel=true/\mI S it (.Name y py) iter=true/\mE { S with sc:=cR S.sc scope,N:=y::sel.filterMap λi=>S.N[i]? } e' elt=true/\bY iter=true)\/
  (∃ e' c sel it y py iter c',x=.lci e' c sel it/\gs=[⟨.Name y py,iter,[c'],0⟩]/\
  eI S scope [y] sel=true/\mI S it (.Name y py) iter=true/\mE { S with sc:=cR S.sc scope,N:=y::sel.filterMap λi=>S.N[i]? } e' elt=true/\mT { S with sc:=cR S.sc scope,N:=y::sel.filterMap λi=>S.N[i]? } c c'=true/\bY iter=true)\/
  ∃ e' n sel it ts kt pt iter,x=.lct e' n sel it/\gs=[⟨.Tuple ts kt pt,iter,[],0⟩]/\
  eI S scope (xo ts) sel=true/\tf { S with sc:=cR S.sc scope,N:=xo ts++sel.filterMap λi=>S.N[i]? } (List.range n) ts=true/\(xo ts).length=n/\mI S it (.Tuple ts kt pt) iter=true/\mE { S with sc:=cR S.sc scope,N:=xo ts++sel.filterMap λi=>S.N[i]? } e' elt=true/\bY iter=true:=by
 cases x<;>(try (cases(show false=true from h);done))
 all_goals (conv at h=>lhs;whnf)
 all_goals (iterate 5 (split at h<;>first|(cases h;done)|skip))
 all_goals (simp only[li,decide_eq_true_eq]at h)
 all_goals first
  |exact .inl ⟨_,_,_,_,_,_,rfl,rfl,h.1.1.1,h.1.1.2,h.1.2,h.2⟩
  |exact .inr (.inl ⟨_,_,_,_,_,_,_,_,rfl,rfl,h.1.1.1.1,h.1.1.1.2,h.1.1.2,h.1.2,h.2⟩)
  |exact .inr (.inr ⟨_,_,_,_,_,_,_,_,rfl,rfl,h.1.1.1.1.1,h.1.1.1.1.2,h.1.1.1.2,h.1.1.2,h.1.2,h.2⟩)
def pF (e:Expr){x:Ex}(h:mE S x e=true):n6 e=true\/∃ elt gs scope p,e=.ListComp elt gs scope p:=by
 cases e<;>first|exact .inl rfl|exact .inr ⟨_,_,_,_,rfl⟩|(cases x<;>cases(show false=true from h))
def DM {G:Gx}{X:Cx}{E:St->XK}(g:Gs X G S k E){i:Nat}{x:Str}{e:Ex}{e':Expr}{px:Pos}(hx:S.loc i x=true)(h:mE S e e'=true):PS X (.Assign [.Name x px] e' p) (λD U H=>wS (.asg i e) G D E U H):=by
 obtain⟨hi,hl⟩:=g.loc hx;have hN:X.N.Nodup:=by rw[g.N];exact g.nd
 rcases pF e' h with hn|⟨elt,gs,scope,pp,rfl⟩
 .exact uN hN hi hl (sE e g.toGd h) (fJ hn _ _ _) (.inl (g.fn x))
 .intro Y s U H D I q;obtain⟨b,hb,hb2⟩:=pk (elt:=elt) (gs:=gs) (scope:=scope) (p:=pp) (py:=px) (y:=x) (n:=p.line) (env:=X.env) I.ok.kind;cases b with
  |false=>exact uN hN hi hl (sE e g.toGd h) hb (.inl (g.fn x)) Y s U H D I q
  |true=>
   rcases ES h with⟨e2,sel,it,y,py,iter,rfl,rfl,h1,h2,h3,h4⟩|⟨e2,c,sel,it,y,py,iter,c',rfl,rfl,h1,h2,h3,h5,h4⟩|⟨e2,n,sel,it,ts,kt,pt,iter,rfl,rfl,h1,h5,h6,h2,h3,h4⟩
   .rcases vS (show Fi G.cm (wI G it U H (λJ H1=>pY (λσ' H' Q'=>wE G e2 σ' H' Q' (E U)) J (none::dD U sel) H1 (λx H1=>D.nx (U.set i (some x)) H1)) (E U)) (FR G it U H (λJ H1=>pY (λσ' H' Q'=>wE { G with cm:=.mute } e2 σ' H' Q' (E U)) J (none::dD U sel) H1 (λx H1=>D.nx (U.set i (some x)) H1)) (E U)) from q) with⟨hc,q⟩|⟨hc,q⟩
    .rw[lu]at q;obtain⟨cl,C⟩:=bg g.toGd I.ok h1;exact jP (ok:=Calm) (λ_=>g.cm hc) (g.toGd.cx U) C (sI it g.toGd h2) (λs H fp=>sE e2 (g.toGd.comp hc C (E U) s H fp) h3) (aU h4 _) hN hi (hb2 rfl) hb Y s H D I q
    .cases it with
     |seq a=>
      rw[lu]at q;obtain⟨cl,C⟩:=bg g.toGd I.ok h1;have sx:et X:=by
       have hd:=g.hd;rw[hc]at hd;exact hd
      refine jP (ok:=et) (wi:=λU H R=>wE G a U H (λx H1=>match x with| .ref p=>(∃ xs,aY G.R.K H1 p xs)/\R (rB G.R.K p) H1|_=>False) (E U)) (λI'=>sx.now I') (g.toGd.cx U) C (λY s U H R I q=>?_) (λs H fp=>sE e2 (g.toGd.Al hc C (E U) s H fp) h3) (aU h4 _) hN hi (hb2 rfl) hb Y s H D I q;have q':wE G a U H (λx H1=>match x with| .ref p=>(∃ xs,aY G.R.K H1 p xs)/\R (rB G.R.K p) H1|_=>False) (E U):=q;rw[g.hK]at q';refine au (sE a g.toGd h2 Y s U H _ I q') λv s1 ⟨x,H1,I1,r1,z⟩=>?_
      dsimp only at z
      split at z
      .obtain⟨⟨xs,hx⟩,z⟩:=z;exact jG I1 r1 hx z
      .exact z.elim
     |_=>exact q.elim
   .cases(show false=true from h)
   .obtain⟨hc,q⟩:=(show G.cm=.calm/\wI G it U H (λJ H1=>LCt G.R.K n (λσ' H' Q'=>wE G e2 σ' H' Q' (E U)) J (sn n none++dD U sel) H1 (λx H1=>D.nx (U.set i (some x)) H1)) (E U) from q);rw[vj,<-qq h6]at q;obtain⟨cl,C⟩:=bg g.toGd I.ok h1;exact eD (ok:=Calm) (λ_=>g.cm hc) (g.toGd.cx U) C (sI it g.toGd h2) (λs H fp=>qI (g.toGd.comp hc C (E U) s H fp) hc h5) (λs H fp=>hU) (λs H fp=>sE e2 (g.toGd.comp hc C (E U) s H fp) h3) (aU h4 _) hN hi (hb2 rfl) hb Y s H D I q
def zw {xs:List α}{i j:Nat}(h:xs.length=[i,j].length):∃ a b,xs=[a,b]:=by
 match xs,h with
 | [a,b],_=>exact⟨a,b,rfl⟩
def sj {xs:List α}{i j l:Nat}(h:xs.length=[i,j,l].length):∃ a b c,xs=[a,b,c]:=by
 match xs,h with
 | [a,b,c],_=>exact⟨a,b,c,rfl⟩
mutual
theorem sS:∀ (x:Sx){G:Gx}{X:Cx}{S:Sn}{E:St->XK},Gs X G S k E->∀ {st:Stmt},mS S x st=true->PS X st (λD U H=>wS x G D E U H)
 | .asg i e,G,X,S,E,g,st,h=>by
  sleep 3
  simp only[li]at h;exact DM g h.1 h.2
 | .asgT is e,G,X,S,E,g,st,h=>by
  sleep 3
  simp only[li]at h;obtain⟨⟨h1,h2⟩,h3⟩:=h;intro Y s U H D I q;obtain⟨hc,q⟩:=(show G.cm=.calm/\wE G e U H (λx H1=>wG U (.tp is) G.R.K x H1 λσ1=>D.nx σ1 H1) (E U) from q);exact uH (sE e g.toGd h2) (Ap g hc (t:=.tp is) (by simp only[Ft];exact h1)) (dy _ _) (pD _ h3) rfl Y s U H D I q
 | .par is es,G,X,S,E,g,st,h=>by
  sleep 4
  rename_i pos _ _ ts kt pt _ vs k2 p2;simp only[li]at h;obtain⟨⟨h1,h2⟩,h3⟩:=h;intro Y s U H D I q;obtain⟨hc,q⟩:=(show G.cm=.calm/\wEs G es U H (λxs H1=>xs.length=is.length/\D.nx (qV U is xs) H1) (E U) from q);have hN:X.N.Nodup:=by rw[g.N];exact g.nd
  rw[<-g.sc]at h3;unfold Du at h1
  split at h1
  .iterate 3 (split at h1;rotate_left;cases h1)
   rename_i i j _ _ x px _ y py;simp only[Sn.nW,li,decide_eq_true_eq]at h1;obtain⟨⟨a1,a2⟩,⟨b1,b2⟩,c1⟩:=h1;rw[filterMap_cons,a1,filterMap_cons,b1,List.filterMap_nil]at h3;obtain⟨v1,v2,rfl⟩:=yM h3;rw[<-g.N]at a1 b1;rw[<-g.sc]at a2 b2;exact yC (g.cm hc) hN a1 b1 c1 a2 b2 (PA.bB (qw es g.toGd h2)) (vx h3) (dy _ _) Y s U H D I ⟨_,q,λxs H1 z=>by
    obtain⟨z1,z2⟩:=z;obtain⟨u1,u2,rfl⟩:=zw z1;exact⟨u1,u2,rfl,z2⟩⟩
  .iterate 4 (split at h1;rotate_left;cases h1)
   rename_i i j l _ _ x px _ y py _ z pz;simp only[Sn.nW,li,decide_eq_true_eq]at h1;obtain⟨⟨a1,a2⟩,⟨b1,b2⟩,⟨d1,d2⟩,c1,c2,c3⟩:=h1;rw[filterMap_cons,a1,filterMap_cons,b1,filterMap_cons,d1,List.filterMap_nil]at h3;obtain⟨v1,v2,v3,rfl⟩:=rg h3;rw[<-g.N]at a1 b1 d1;rw[<-g.sc]at a2 b2 d2;exact yr (g.cm hc) hN a1 b1 d1 c1 c2 c3 a2 b2 d2 (PA.bB (qw es g.toGd h2)) (vx h3) (dy _ _) Y s U H D I ⟨_,q,λxs H1 z=>by
    obtain⟨z1,z2⟩:=z;obtain⟨u1,u2,u3,rfl⟩:=sj z1;exact⟨u1,u2,u3,rfl,z2⟩⟩
  .cases h1
 | .sub o i v,G,X,S,E,g,st,h=>by
  sleep 3
  simp only[li]at h;obtain⟨⟨⟨h1,h2⟩,h3⟩,h4⟩:=h;exact uH (sE v g.toGd h3) (Bk (sE o g.toGd h1) (sE i g.toGd h2) (qD g.un) (pj h4)) (rZ _ _) (n8 _) rfl
 | .fld o f v,G,X,S,E,g,st,h=>by
  sleep 3
  simp only[li,decide_eq_true_eq]at h;obtain⟨⟨h1,rfl⟩,h3⟩:=h;intro Y s U H D I q;have q':wE G v U H (λy H1=>wE G o U H1 (λx H2=>AG G f x y H2 (λH3=>D.nx U H3)) (E U)) (E U):=q;refine plainObj_wpAny_Assign_Attribute (au (sE v g.toGd h3 Y s U H _ I q') λu s1 ⟨y,H1,I1,ry,q⟩=>au (sE o g.toGd h1 Y s1 U H1 _ I1 q) λov s2 ⟨x,H2,I2,rx,q2⟩=>?_) (qU _ _);unfold AG at q2;obtain⟨a,i,rfl,hna,q2⟩:=q2;obtain rfl:ov=Value.ref a:=rx;have n:=g.tab.na i f hna;rcases q2 with⟨dx,fs,ho,ea,l,q2⟩|⟨d,fs,ho,ea,l,q2⟩|⟨ho,ea,q2⟩
  .exact nZ I2 ea (g.tab.oc i ho).1 n l ry λs3 I3=>⟨U,_,I3,q2⟩
  .exact oY I2 ea (g.tab.xc i ho).1 n l ry λs3 I3=>⟨U,_,I3,q2⟩
  .exact n9 I2 ea (g.tab.xc i ho).1 n ry λd s3 hd I3=>⟨U,_,I3,q2 d hd⟩
 | .aug i op e,G,X,S,E,g,st,h=>by cases(show false=true from h)
 | .augS o i op e,G,X,S,E,g,st,h=>by
  sleep 2
  simp only[li,decide_eq_true_eq]at h;obtain⟨⟨⟨⟨h1,h2⟩,rfl⟩,h3⟩,h4⟩:=h;exact xY (sE o g.toGd h1) (sE i g.toGd h2) (B6 g.toGd) (sE e g.toGd h3) (DR op) (qD g.un) (yz h4)
 | .augF o f op e,G,X,S,E,g,st,h=>by cases(show false=true from h)
 | .ret e,G,X,S,E,g,st,h=>by
  sleep 2
  exact A1 (sE e g.toGd h)
 | .retN,G,X,S,E,g,st,h=>by cases(show false=true from h)
 | .pass,G,X,S,E,g,st,h=>by cases(show false=true from h)
 | .brk,G,X,S,E,g,st,h=>by cases(show false=true from h)
 | .cont,G,X,S,E,g,st,h=>by cases(show false=true from h)
 | .expr e,G,X,S,E,g,st,h=>by
  sleep 1
  simp only[li]at h;exact wY (sE e g.toGd h.1) (fJ h.2 _ _ _)
 | .ife c a b,G,X,S,E,g,st,h=>by
  sleep 1
  simp only[li]at h;exact PS.imp (Ei (PT.bB (sT c g.toGd h.1.1)) (sB a g h.1.2) (sB b g h.2)) λD U H q=>⟨_,q,λk H1 z=>by rwa [bX]at z⟩
 | .whl c b,G,X,S,E,g,st,h=>by cases(show false=true from h)
 | .for t it b,G,X,S,E,g,st,h=>by
  sleep 2
  simp only[li]at h;obtain⟨⟨⟨h1,h2⟩,h3⟩,h4⟩:=h;intro Y s U H D I q
  conv at q=>whnf
  obtain⟨hc,q⟩:=q;unfold jz at q;exact Cm g.own (g.cm hc) (sI it g.toGd h2) (Ap g hc h1) (sB b g h3) (aU h4 _) Y s U H D I q
 | .rais e,G,X,S,E,g,st,h=>by
  sleep 3
  intro Y s U H D I q
  conv at q=>whnf
  obtain⟨hc,q⟩:=q;refine uQ g.xok (g.cm hc) (PE.bB (sE e g.toGd h)) Y s U H D I ⟨_,q,λv H1 z=>?_⟩;obtain⟨a,i,dx,fs,ev,ea,hi,q⟩:=z;exact⟨a,_,dx,fs,ev,ea,(g.tab.xc i hi).1,q⟩
 | .tryx b hs,G,X,S,E,g,st,h=>by
  sleep 4
  simp only[li]at h;intro Y s U H D I q;obtain⟨hc,q⟩:=(show G.cm=.calm/\wB b G D (λσ' e H'=>wH hs G D σ' e H') U H from q);refine CB (E':=λσ' e H'=>wH hs G D σ' e H') I g.stk g.fr (λxe hx ho=>?_) λσ' H' s' e C dx fs T J he hT hH hp st q'=>?_
  .exact sB b (g.eG hx ho) h.1 [] s U H D (I.eG xe) q
  .exact sH hs g hc h.2 J he hT hH hp st q'
theorem sB:∀ (x:jr){G:Gx}{X:Cx}{S:Sn}{E:St->XK},Gs X G S k E->∀ {st:List Stmt},mB S x st=true->zP X st (λD U H=>wB x G D E U H)
 | .nil,G,X,S,E,g,[],h=>xK
 | .nil,G,X,S,E,g,_::_,h=>by cases(show false=true from h)
 | .cons x xs,G,X,S,E,g,[],h=>by cases(show false=true from h)
 | .cons x xs,G,X,S,E,g,st::sts,h=>by
  have h:(mS S x st&&mB S xs sts)=true:=h;simp only[li]at h;exact tY (sS x g h.1) (sB xs g h.2)
theorem sH:∀ (x:wQ){G:Gx}{X:Cx}{S:Sn}{E:St->XK},Gs X G S k E->G.cm=.calm->∀ {hs:List ExceptHandler},mH S x hs=true->∀ {Y:HN}{U:St}{H:Hp}{s:Shared}{e C:Addr}{dx:Option Addr}{fs:List (Str×V)}{T:Addr}{D:Ends},
  L2.Inv X Y U H s->H e=some (.exc C dx fs false)->X.s₀.heap.objs.size<=T->H T=none->(∀ p ∈ X.pn++Y,p.1≠T)->rV s.heap e T .none->wH x G D U e H->wpAny (model X.prog X.w) X.A (handleBy (.ref e) X.env hs) (SP X Y D) X.xe s
 | .nil,G,X,S,E,g,hc,hs,h,Y,U,H,s,e,C,dx,fs,T,D,I,he,hT,hH,hp,st,q=>by
  simp only[wH]at q
 | .cons c i b hs,G,X,S,E,g,hc,l,h,Y,U,H,s,e,C,dx,fs,T,D,I,he,hT,hH,hp,st,q=>by
  conv at h=>lhs;whnf
  split at h
  .simp only[li,decide_eq_true_eq]at h;obtain⟨⟨⟨⟨⟨h1,h2⟩,h3⟩,h4⟩,h5⟩,h6⟩:=h;obtain⟨hg,hdb⟩:=g.glob h1;have hm:=g.tab.gcl _ _ (g.hT▸h2);obtain⟨j,dx',fs',kk,he',hxc,hsub,q⟩:=(show ∃ j dx fs k,H e=some (.exc (G.R.cad j) dx fs false)/\G.T.xc.contains j=true/\G.T.sub.lookup (j,c)=some k/\_ from q);have ee:=he.symm.trans he'
   injection ee with ee
   injection ee with e1 e2 e3 e4
   subst e1;obtain⟨_,hs2⟩:=g.tab.sub j c kk hsub;obtain⟨hs3,hs4⟩:=hs2 hxc;refine mq (i:=i) I he hT hH hp st (g.tab.xc j hxc).1 hs4 hs3 hg hm (by rw[g.N];exact g.nd) (by rw[g.N];exact h3) (by rw[g.sc];exact h4) hdb (λhk s2 J=>?_) λhk=>?_
   .rw[hk]at q;unfold fV at q;exact sB b (g.aN hc e) h5 Y s2 _ H _ J q
   .rw[hk]at q;unfold fV at q;exact sH hs g hc h6 I he hT hH hp st q
  .cases h
end
end
abbrev bw (T:Tab)(R:Rt):Nat->Nat->Sp
 |0,_=>λ_ _ _ _=>False
 |k+1,f=>λvs H Q E=>match T.fns[f]? with
  |some d=>vs.length=d.ps.length/\wB d.body ⟨T,R,bw T R k,.calm⟩ { nx:=λ_ H'=>Q .non H',rt:=Q } (λ_=>E) (start d.N vs) H
  |none=>match T.fns[f-T.fns.length]? with
   |some d=>vs.length=d.ps.length/\wB d.body ⟨T,R,λg=>bw T R k (g+T.fns.length),.soft⟩ { nx:=λ_ H'=>Q .non H',rt:=Q } (λ_=>E) (start d.N vs) H
   |none=>False
structure sd (K:W.Frag) (T:Tab) (f:Addr) (d:aD):Prop where
 ex:∃ (name qual:Str) (params:Arguments) (body:List Stmt) (scope:Scope) (dV kV doc pm cdv ct oc:Value) (od an:Option Addr) (osl:Array (Option Value)),
  K.lookup f=some ⟨oc,od,.func (W.fnOf name qual params body scope dV kV doc pm an cdv ct),osl⟩/\W.codeIn K cdv qual=true/\ip d.N d.ps scope/\mB ⟨T,scope,d.N⟩ d.body body=true/\
  ∀ j,∃ ds,Binds K (W.fnOf name qual params body scope dV kV doc pm an cdv ct) d.ps ds/\Vals (d.dfl.drop j) ds
def k8 {P:Program}{w:World}{K:W.Frag}{mg:HP}{base:Heap}{T:Tab}{R:Rt}(tab:y8 K mg T R)(hK:R.K=K)(fs:∀ f d,T.fns[f]? =some d->sd K T (R.fad f) d):
  ∀ (k f:Nat) (d:aD),T.fns[f]? =some d->cG true P w K mg base (2*k) (R.fad f) d (bw T R k f)/\cG false P w K mg base (2*k) (R.fad f) d (bw T R k (f+T.fns.length))
 |0,f,d,hd=>by
  obtain⟨name,qual,params,body,scope,dV,kV,doc,pm,cdv,ct,oc,od,an,osl,lk,hcd,S,hm,hb⟩:=(fs f d hd).ex;exact⟨⟨⟨_,⟨λ_ _ _ _ h=>h.elim,λ_ _ _ _ _ _ _ _ _ _ _ _ _ _ h=>h.elim⟩,hb⟩,λ_ _ _ _ _=>⟨λ_ _ _ _ h=>h.elim,λ_ _ _ _ _ _ _ _ _ _ _ _ _ _ h=>h.elim⟩⟩,⟨⟨_,⟨λ_ _ _ _ h=>h.elim,λ_ _ _ _ _ _ _ _ _ _ _ _ _ _ h=>h.elim⟩,hb⟩,λ_ _ _ _ _=>⟨λ_ _ _ _ h=>h.elim,λ_ _ _ _ _ _ _ _ _ _ _ _ _ _ h=>h.elim⟩⟩⟩
 |k+1,f,d,hd=>by
  obtain⟨name,qual,params,body,scope,dV,kV,doc,pm,cdv,ct,oc,od,an,osl,lk,hcd,S,hm,hb⟩:=(fs f d hd).ex;have e1:T.fns[f+T.fns.length]? =none:=List.getElem?_eq_none (Nat.le_add_left ..);have e2:T.fns[f+T.fns.length-T.fns.length]? =some d:=by rw[Nat.add_sub_cancel];exact hd
  have all:∀ (c:Bool) (f0:Nat) (m:Md) (Ψ:Nat->Sp),(∀ vs H Q E,bw T R (k+1) f0 vs H Q E->vs.length=d.ps.length/\wB d.body ⟨T,R,Ψ,m⟩ { nx:=λ_ H'=>Q .non H',rt:=Q } (λ_=>E) (start d.N vs) H)->m.b=c->(c=true->m=.calm)->(c=false->m=.soft)->
    (∀ f' d',T.fns[f']? =some d'->cG c P w K mg base (2*k) (R.fad f') d' (Ψ f'))->(c=true->∀ f' d',T.fns[f']? =some d'->cG false P w K mg base (2*k) (R.fad f') d' (Ψ (f'+T.fns.length)))->cG c P w K mg base (2*(k+1)) (R.fad f) d (bw T R (k+1) f0):=λc f0 m Ψ h0 hm1 hm2 hm3 F1 F2=>by
   have F:=Dn (c:=c) (P:=P) (w:=w) (mg:=mg) (base:=base) (CX:=uZ P w) (k:=2*k+1) (sp:=bw T R (k+1) f0) lk hcd S (λvs H Q E h=>(h0 vs H Q E h).1) (λA outer s H vs Q E hr hh h=>?_)
   .refine⟨⟨_,F,hb⟩,λfd oc' od' osl' lk'=>?_⟩;have e:=lk.symm.trans lk'
    injection e with e
    injection e with e1 e2 e3 e4
    injection e3 with e3
    subst e3;exact F
   .refine⟨λD U H=>wB d.body ⟨T,R,Ψ,m⟩ D (λ_=>E) U H,?_,(h0 vs H Q E h).2⟩;have hx:=sR (c:=c) (P:=P) (w:=w) (K:=K) (mg:=mg) (base:=base) (N:=d.N) (qual:=qual) (scope:=scope) (f:=R.fad f) (cd:=cdv) (A:=A) (outer:=outer) (E:=E) (s:=s) (H:=H);cases c with
    |true=>
     obtain rfl:=hm2 rfl;refine sB (k:=2*k) d.body (G:=⟨T,R,Ψ,.calm⟩) (S:=⟨T,scope,d.N⟩) { hK:=hK,hT:=rfl,sc:=rfl,N:=rfl,nd:=S.nd,pass:=cP hx,hd:=rfl,xst:=⟨_,_,_,rfl,rfl,rfl⟩,room:=hr,un:= ?_,tab:=tab,fns:=F1,fnsU:=λ_=>F2 rfl,xok:=hx,own:=PassesOwn.leaving,stk:=rfl,fr:=rfl,fn:=λ_=>rfl } hm;have:=hr.un;show(A.deeper _).units+200<cLine
     omega
    |false=>
     obtain rfl:=hm3 rfl;refine sB (k:=2*k) d.body (G:=⟨T,R,Ψ,.soft⟩) (S:=⟨T,scope,d.N⟩) { hK:=hK,hT:=rfl,sc:=rfl,N:=rfl,nd:=S.nd,pass:=cP hx,hd:=hh,xst:=⟨_,_,_,rfl,rfl,rfl⟩,room:=hr,un:= ?_,tab:=tab,fns:=F1,fnsU:=(λz=>by cases z),xok:=hx,own:=PassesOwn.leaving,stk:=rfl,fr:=rfl,fn:=λ_=>rfl } hm;have:=hr.un;show(A.deeper _).units+200<cLine
     omega
  refine⟨all true f .calm (bw T R k) (λvs H Q E h=>?_) rfl (λ_=>rfl) (λz=>by cases z) (λf' d' hd'=>(k8 tab hK fs k f' d' hd').1) (λ_ f' d' hd'=>(k8 tab hK fs k f' d' hd').2),all false (f+T.fns.length) .soft (λg=>bw T R k (g+T.fns.length)) (λvs H Q E h=>?_) rfl (λz=>by cases z) (λ_=>rfl) (λf' d' hd'=>(k8 tab hK fs k f' d' hd').2) (λz=>by cases z)⟩
  .simp only[bw,hd]at h;exact h
  .simp only[bw,e1,e2]at h;exact h
abbrev gP (K:W.Frag)(n:Nat):Sp:=λvs H Q _=>∃ (a:Addr) (ns:List Int),vs=[.ref a]/\aL K H a (ns.map V.int)/\ns.length<=n/\∀ H',Q (.bl true) H'
variable {P:Program}
def uu {w:World}{H:Hp}{s:Shared}{e:Value}{s':Shared}(h:uZ P w [] H s (λ_ _=>False) e s'):False:=by
 obtain⟨e,H',C,dx,fs,T,_,_,_,_,_,_,_,_,_,q⟩:=h;exact q
variable {K:W.Frag}{fd:FuncData}{ps:List Str}
def B8 (h:Binds K fd ps []):∀ j:Nat,∃ ds,Binds K fd ps ds/\Vals (([]:List V).drop j) ds:=λj=>⟨[],h,by simp;exact .nil⟩
def yZ {ds:List Value}{T:Addr}{o:Obj}{items:Array Value}{c n:Nat}(hd:fd.defaults=.ref T)(ho:K.lookup T=some o)(hs:o.data=.seq items c)(hn:n+ds.length=ps.length)
  (h:∀ us:List Value,us.length=n->∃ k:Option (Array Value)->Sem (List (Str×Value)),bindArgs fd ⟨us,[]⟩=seqItems? fd.defaults >>= k/\k (some items)=pure (ps.zip (us++ds))):Binds K fd ps ds:=λs us X hl=>by
 obtain⟨k,h1,h2⟩:=h us (by rw[ci]at hl;omega);exact W.binds_K X hd ho hs h1 h2
def jC:∀ {vs:List V}{us:List Value}(j:Nat),Vals vs us->Vals (vs.drop j) (us.drop j)
 |_,_,0,h=>h
 |_,_,j+1,.nil=>by simp;exact .nil
 |_::_,_::_,j+1,.cons _ h=>by simpa using jC j h
def ph {α β:Type} [BEq α] [LawfulBEq α] {x:α}{y:β}:∀ {l:List (α×β)},l.lookup x=some y->(x,y) ∈ l
 | [],h=>by simp at h
 |(a,b)::l,h=>by
  rw[lookup_cons]at h;cases e:x ==a with
  |true=>
   rw[e]at h;have:=beq_iff_eq.mp e;subst this
   injection h with h
   subst h;exact le
  |false=>
   rw[e]at h;exact dl _ (ph h)
def iI {β:Type} [BEq α] [LawfulBEq α] {P:α->β->Prop}{l:List (α×β)}(h:∀ p ∈ l,P p.1 p.2):∀ x y,l.lookup x=some y->P x y:=λx y e=>h (x,y) (ph e)
def fQ {β γ:Type} [BEq α] [LawfulBEq α] [BEq β] [LawfulBEq β] {P:α->β->γ->Prop}{l:List ((α×β)×γ)}(h:∀ p ∈ l,P p.1.1 p.1.2 p.2):∀ x y z,l.lookup (x,y)=some z->P x y z:=λx y z e=>h ((x,y),z) (ph e)
def gv  [BEq α] [LawfulBEq α] {P:α->Prop}{l:List α}(h:∀ p ∈ l,P p):∀ x,l.contains x=true->P x:=λx e=>h x (by simpa using e)
def wZ {β:Type} [BEq α] [LawfulBEq α] [BEq β] [LawfulBEq β] {P:α->β->Prop}{l:List (α×β)}(h:∀ p ∈ l,P p.1 p.2):∀ x y,l.contains (x,y)=true->P x y:=λx y e=>h (x,y) (by simpa using e)
abbrev qN (P:Nat->aD->Prop):Nat->List aD->Prop
 |_,[]=>True
 |n,d::r=>P n d/\qN P (n+1) r
def Aw {P:Nat->aD->Prop}:∀ {l:List aD}{n:Nat},qN P n l->∀ f d,l[f]? =some d->P (n+f) d
 | [],_,_,f,d,e=>by simp at e
 |a::l,n,h,0,d,e=>by
  have:a=d:=by simpa using e
  subst this;exact h.1
 |a::l,n,h,f+1,d,e=>by
  have:=Aw h.2 f d (by simpa using e)
  rwa [Nat.add_assoc,Nat.add_comm 1 f]at this
def pw {P:Nat->aD->Prop}{l:List aD}(h:qN P 0 l):∀ f d,l[f]? =some d->P f d:=λf d e=>by
 have:=Aw h f d e
 rwa [Nat.zero_add]at this
def BY {w:World}{mg:HP}{base:Heap}{T:Tab}{R:Rt}(tab:y8 K mg T R)(hK:R.K=K)(fs:∀ f d,T.fns[f]? =some d->sd K T (R.fad f) d) (k fl:Nat) (d:aD) (hd:T.fns[fl]? =some d)
  {oc:Value}{od:Option Addr}{osl:Array (Option Value)}(lk:K.lookup (R.fad fl)=some ⟨oc,od,.func fd,osl⟩) (h:∀ vs H Q E,gP K 63 vs H Q E->bw T R k fl vs H Q E):cS true P w K mg base (uZ P w) (2*k) (R.fad fl) fd d.ps (gP K 63):=
 ((k8 tab hK fs k fl d hd).1.own _ _ _ _ lk).imp h
end L3
namespace L3
open PySem L2
abbrev jA:HO->HO
 | .lst _=>.lst []
 | .dK _=>.dK []
 | .dT _=>.dT []
 | .gO _ (.dK _)=>.dK []
 | .ins C dx _=>.ins C dx []
 | .exc C _ _ _=>.exc C none [] false
 |o=>o
abbrev kd:HO->Option String
 | .lst _=>some "list"
 | .tup _=>some "tuple"
 | .dK _=>some "dict"
 | .gO _ (.dK _)=>some "dict"
 |_=>none
def qJ (o:HO):kd (jA o)=kd o:=by
 cases o<;>first|rfl|(rename_i u;cases u<;>rfl)
abbrev g6 (H H':Hp):Prop:=∀ a o,H a=some o->∃ o',H' a=some o'/\jA o'=jA o
def g6.tup {H H':Hp}(g:g6 H H'){t:Addr}{xs:List V}(h:H t=some (.tup xs)):H' t=some (.tup xs):=by
 obtain⟨o',h1,h2⟩:=g t _ h;have key:∀ u:HO,jA u=.tup xs->u=.tup xs:=λu=>by cases u<;>intro e<;>first|exact e|cases e|(rename_i v;cases v<;>cases e)
 rw[key o' h2]at h1;exact h1
variable {H:Hp}{t:String}
def g6.ty {H':Hp}(g:g6 H H'){v:V}(h:tyName v H=some t):tyName v H'=some t:=by
 cases v<;>try exact h
 rename_i a;have h':(match H a with|some (.lst _)=>some "list"|some (.tup _)=>some "tuple"|some (.dK _)=>some "dict"|some (.gO _ (.dK _))=>some "dict"|_=>none)=some t:=h;show(match H' a with|some (.lst _)=>some "list"|some (.tup _)=>some "tuple"|some (.dK _)=>some "dict"|some (.gO _ (.dK _))=>some "dict"|_=>none)=some t;cases e:H a with
 |none=>rw[e]at h';cases h'
 |some o=>
  rw[e]at h';obtain⟨o',h1,h2⟩:=g a _ e;rw[h1];have key:kd o'=kd o:=by rw[<-qJ o',<-qJ o,h2]
  have k1:∀ u:HO,(match some u with|some (HO.lst _)=>some "list"|some (.tup _)=>some "tuple"|some (.dK _)=>some "dict"|some (.gO _ (.dK _))=>some "dict"|_=>none)=kd u:=λu=>by cases u<;>first|rfl|(rename_i v;cases v<;>rfl)
  rw[k1]at h'⊢;rw[key];exact h'
variable {a:Addr}{xs:List V}
def jy (e:H a=some (.lst xs)):tyName (.ref a) H=some "list":=by
 show(match H a with|some (.lst _)=>some "list"|some (.tup _)=>some "tuple"|some (.dK _)=>some "dict"|some (.gO _ (.dK _))=>some "dict"|_=>none)=_;rw[e]
def rC (e:H a=some (.tup xs)):tyName (.ref a) H=some "tuple":=by
 show(match H a with|some (.lst _)=>some "list"|some (.tup _)=>some "tuple"|some (.dK _)=>some "dict"|some (.gO _ (.dK _))=>some "dict"|_=>none)=_;rw[e]
variable {kvs:List (Key×V)}
def w4 (e:H a=some (.dK kvs)):tyName (.ref a) H=some "dict":=by
 show(match H a with|some (.lst _)=>some "list"|some (.tup _)=>some "tuple"|some (.dK _)=>some "dict"|some (.gO _ (.dK _))=>some "dict"|_=>none)=_;rw[e]
def g6.upd {o o':HO}(h:H a=some o)(e:jA o'=jA o):g6 H (L2.upd H a o'):=λb u hb=>by
 by_cases z:b=a
 .subst z;rw[h]at hb;cases hb;exact⟨o',aq,e⟩
 .exact⟨u,(af z).trans hb,rfl⟩
def g6.new {o':HO}(h:H a=none):g6 H (L2.upd H a o'):=λb u hb=>⟨u,(af λz=>by rw[z,h]at hb;cases hb).trans hb,rfl⟩
structure ah where
 p:Hp->(Addr->Prop)->Prop
 st:∀ H H' D,p H D->(∀ a,D a->H' a=H a)->g6 H H'->p H' D
 up:∀ H D D',p H D->(∀ a,D a->D' a)->p H D'
abbrev pt (a:Addr)(o:HO):ah:=⟨λH D=>D a/\H a=some o,λH H' D h k _=>⟨h.1,(k a h.1).trans h.2⟩,λH D D' h k=>⟨k a h.1,h.2⟩⟩
abbrev tu (t:Addr)(xs:List V):ah:=⟨λH _=>H t=some (.tup xs),λH H' D h _ k=>k.tup h,λH D D' h _=>h⟩
abbrev tys (xs:List V):ah:=⟨λH _=>∀ x ∈ xs,∃ t,tyName x H=some t,λH H' D h _ k x hx=>let⟨t,e⟩:=h x hx;⟨t,k.ty e⟩,λH D D' h _=>h⟩
abbrev pu (φ:Prop):ah:=⟨λ_ _=>φ,λ_ _ _ h _ _=>h,λ_ _ _ h _=>h⟩
abbrev ex {α:Type}(f:α->ah):ah:=⟨λH D=>∃ x,(f x).p H D,λH H' D ⟨x,h⟩ k t=>⟨x,(f x).st H H' D h k t⟩,λH D D' ⟨x,h⟩ k=>⟨x,(f x).up H D D' h k⟩⟩
abbrev jN (A B:ah):ah:=⟨λH D=>∃ D1 D2:Addr->Prop,(∀ a,D1 a->D a)/\(∀ a,D2 a->D a)/\(∀ a,D1 a->D2 a->False)/\A.p H D1/\B.p H D2,
 λH H' D ⟨D1,D2,s1,s2,dj,h1,h2⟩ k t=>⟨D1,D2,s1,s2,dj,A.st H H' D1 h1 (λa z=>k a (s1 a z)) t,B.st H H' D2 h2 (λa z=>k a (s2 a z)) t⟩,
 λH D D' ⟨D1,D2,s1,s2,dj,h1,h2⟩ k=>⟨D1,D2,λa z=>k a (s1 a z),λa z=>k a (s2 a z),dj,h1,h2⟩⟩
abbrev bb:List ah->Hp->(Addr->Prop)->Prop
 | [],_,_=>True
 |A::O,H,D=>∃ D1 D2:Addr->Prop,(∀ a,D1 a->D a)/\(∀ a,D2 a->D a)/\(∀ a,D1 a->D2 a->False)/\A.p H D1/\bb O H D2
abbrev Sep (O:List ah)(H:Hp):Prop:=∃ D:Addr->Prop,(∀ a,D a->H a≠none)/\bb O H D
inductive aj (A:ah):List ah->List ah->Prop where
 |e {O:List ah}:aj A (A::O) O
 |t {B:ah}{O Γ':List ah}(h:aj A O Γ'):aj A (B::O) (B::Γ')
variable {g:List ah}
section
variable {A B:ah}{O Γ':List ah}{H H':Hp}{a b p t:Addr}{o o':HO}{xs:List V}{φ:Prop}
def bb.st:∀ {O:List ah}{H H':Hp}{D:Addr->Prop},bb O H D->(∀ a,D a->H' a=H a)->g6 H H'->bb O H' D
 | [],_,_,_,_,_,_=>True.intro
 |A::O,H,H',D,⟨D1,D2,s1,s2,dj,h1,h2⟩,k,t=>⟨D1,D2,s1,s2,dj,A.st H H' D1 h1 (λa z=>k a (s1 a z)) t,bb.st h2 (λa z=>k a (s2 a z)) t⟩
def bb.up:∀ {O:List ah}{H:Hp}{D D':Addr->Prop},bb O H D->(∀ a,D a->D' a)->bb O H D'
 | [],_,_,_,_,_=>True.intro
 |A::O,H,D,D',⟨D1,D2,s1,s2,dj,h1,h2⟩,k=>⟨D1,D2,λa z=>k a (s1 a z),λa z=>k a (s2 a z),dj,h1,h2⟩
def Sep.nil:Sep [] H:=⟨λ_=>False,λ_ z=>z.elim,True.intro⟩
def bb.pull:∀ {O Γ':List ah}{D:Addr->Prop},aj A O Γ'->bb O H D->bb (A::Γ') H D:=by
 intro O Γ' D h
 induction h generalizing D with
 |e=>exact λz=>z
 |t h ih=>
  rintro⟨D1,D2,s1,s2,dj,h1,h2⟩;obtain⟨E1,E2,t1,t2,ej,k1,k2⟩:=ih h2;refine⟨E1,λa=>D1 a\/E2 a,λa z=>s2 a (t1 a z),λa z=>z.elim (s1 a) λz=>s2 a (t2 a z),λa z1 z2=>?_,k1,D1,E2,λa z=>.inl z,λa z=>.inr z,λa z1 z2=>dj a z1 (t2 a z2),h1,k2⟩;rcases z2 with z2|z2
  .exact dj a z2 (t1 a z1)
  .exact ej a z1 z2
def Sep.pull (h:aj A O Γ')(s:Sep O H):Sep (A::Γ') H:=let⟨D,k,z⟩:=s;⟨D,k,bb.pull h z⟩
def bb.push:∀ {O Γ':List ah}{D:Addr->Prop},aj A O Γ'->bb (A::Γ') H D->bb O H D:=by
 intro O Γ' D h
 induction h generalizing D with
 |e=>exact λz=>z
 |t h ih=>
  rintro⟨D1,D2,s1,s2,dj,h1,E1,E2,t1,t2,ej,k1,k2⟩;refine⟨E1,λa=>D1 a\/E2 a,λa z=>s2 a (t1 a z),λa z=>z.elim (s1 a) λz=>s2 a (t2 a z),λa z1 z2=>?_,k1,ih ⟨D1,E2,λa z=>.inl z,λa z=>.inr z,λa z1 z2=>dj a z1 (t2 a z2),h1,k2⟩⟩;rcases z2 with z2|z2
  .exact dj a z2 (t1 a z1)
  .exact ej a z1 z2
def Sep.push (h:aj A O Γ')(s:Sep (A::Γ') H):Sep O H:=let⟨D,k,z⟩:=s;⟨D,k,bb.push h z⟩
def Sep.drop (s:Sep (A::O) H):Sep O H:=let⟨D,k,D1,D2,s1,s2,dj,h1,h2⟩:=s;⟨D2,λa z=>k a (s2 a z),h2⟩
def Sep.at (s:Sep (pt a o::O) H):H a=some o:=let⟨D,k,D1,D2,s1,s2,dj,h1,h2⟩:=s;h1.2
def Sep.atT (s:Sep (tu t xs::O) H):H t=some (.tup xs):=let⟨D,k,D1,D2,s1,s2,dj,h1,h2⟩:=s;h1
def Sep.pure (s:Sep (pu φ::O) H):φ:=let⟨D,k,D1,D2,s1,s2,dj,h1,h2⟩:=s;h1
def Sep.uU (h:φ)(s:Sep O H):Sep (pu φ::O) H:=let⟨D,k,h2⟩:=s;⟨D,k,λ_=>False,D,λ_ z=>z.elim,λ_ z=>z,λ_ z _=>z,h,h2⟩
def Sep.Fy (h:H t=some (.tup xs))(s:Sep O H):Sep (tu t xs::O) H:=let⟨D,k,h2⟩:=s;⟨D,k,λ_=>False,D,λ_ z=>z.elim,λ_ z=>z,λ_ z _=>z,h,h2⟩
def Sep.ne (s:Sep (pt a o::pt b o'::O) H):a≠b:=by
 obtain⟨D,k,D1,D2,s1,s2,dj,h1,E1,E2,t1,t2,ej,k1,k2⟩:=s;rintro rfl;exact dj a h1.1 (t1 a k1.1)
def Sep.set (s:Sep (pt a o::O) H)(n:jA o'=jA o):Sep (pt a o'::O) (upd H a o'):=by
 obtain⟨D,k,D1,D2,s1,s2,dj,h1,h2⟩:=s;refine⟨D,λb z=>?_,D1,D2,s1,s2,dj,⟨h1.1,aq⟩,bb.st h2 (λb z=>af λe=>dj a h1.1 (e▸z)) (g6.upd h1.2 n)⟩
 by_cases e:b=a
 .rw[e,aq];exact λz=>by cases z
 .rw[af e];exact k b z
def Sep.new (s:Sep O H)(h:H p=none):Sep (pt p o::O) (upd H p o):=by
 obtain⟨D,k,z⟩:=s;have ne:∀ b,D b->b≠p:=λb hb e=>k b hb (e▸h)
 refine⟨λb=>b=p\/D b,λb hb=>?_,λb=>b=p,D,λb e=>.inl e,λb e=>.inr e,λb e z=>ne b z e,⟨rfl,aq⟩,bb.st z (λb hb=>af (ne b hb)) (g6.new h)⟩;rcases hb with rfl|hb
 .rw[aq];exact λz=>by cases z
 .rw[af (ne b hb)];exact k b hb
def Sep.dg (s:Sep O H)(h:H p=none):Sep (tu p xs::O) (upd H p (.tup xs)):=Sep.Fy aq (Sep.drop (s.new (o:=.tup xs) h))
def Sep.toT (s:Sep (pt t (.tup xs)::O) H):Sep (tu t xs::O) H:=Sep.Fy s.at s.drop
def Sep.star:Sep (jN A B::O) H ↔ Sep (A::B::O) H:=by
 constructor
 .rintro⟨D,k,D1,D2,s1,s2,dj,⟨E1,E2,t1,t2,ej,k1,k2⟩,h2⟩;refine⟨D,k,E1,λa=>E2 a\/D2 a,λa z=>s1 a (t1 a z),λa z=>z.elim (λz=>s1 a (t2 a z)) (s2 a),λa z1 z2=>?_,k1,E2,D2,λa z=>.inl z,λa z=>.inr z,λa z1 z2=>dj a (t2 a z1) z2,k2,h2⟩;rcases z2 with z2|z2
  .exact ej a z1 z2
  .exact dj a (t1 a z1) z2
 .rintro⟨D,k,D1,D2,s1,s2,dj,h1,E1,E2,t1,t2,ej,k1,k2⟩;refine⟨D,k,λa=>D1 a\/E1 a,E2,λa z=>z.elim (s1 a) λz=>s2 a (t1 a z),λa z=>s2 a (t2 a z),λa z1 z2=>?_,⟨D1,E1,λa z=>.inl z,λa z=>.inr z,λa z1 z2=>dj a z1 (t1 a z2),h1,k1⟩,k2⟩;rcases z1 with z1|z1
  .exact dj a z1 (t2 a z2)
  .exact ej a z1 z2
def Sep.C2 {α:Type}{f:α->ah}:Sep (ex f::O) H ↔ ∃ x,Sep (f x::O) H:=by
 constructor
 .rintro⟨D,k,D1,D2,s1,s2,dj,⟨x,h1⟩,h2⟩;exact⟨x,D,k,D1,D2,s1,s2,dj,h1,h2⟩
 .rintro⟨x,D,k,D1,D2,s1,s2,dj,h1,h2⟩;exact⟨D,k,D1,D2,s1,s2,dj,⟨x,h1⟩,h2⟩
def Sep.Dt (s:Sep (tys xs::O) H):∀ x ∈ xs,∃ t,tyName x H=some t:=let⟨D,k,D1,D2,s1,s2,dj,h1,h2⟩:=s;h1
def Sep.free (h:∀ D,A.p H D) (s:Sep O H):Sep (A::O) H:=let⟨D,k,h2⟩:=s;⟨D,k,λ_=>False,D,λ_ z=>z.elim,λ_ z=>z,λ_ z _=>z,h _,h2⟩
def Sep.Ad (h:∀ x ∈ xs,∃ t,tyName x H=some t) (s:Sep O H):Sep (tys xs::O) H:=s.free λ_=>h
def Sep.get (s:Sep O H)(h:aj (pt a o) O Γ'):H a=some o:=(s.pull h).at
def Sep.mZ (s:Sep O H)(h:aj (tu t xs) O Γ'):H t=some (.tup xs):=(s.pull h).atT
inductive e9 (A B:ah):List ah->List ah->Prop where
 |e {O:List ah}:e9 A B (A::O) (B::O)
 |t {C:ah}{O Γ':List ah}(h:e9 A B O Γ'):e9 A B (C::O) (C::Γ')
def aj.k1 {b:ah}:aj A (b::A::g) (b::g):=.t .e
def aj.k2 {b c:ah}:aj A (b::c::A::g) (b::c::g):=.t .k1
def aj.k3 {b c d:ah}:aj A (b::c::d::A::g) (b::c::d::g):=.t .k2
def aj.j2 {b c:ah}{f:List ah}(h:aj A g f):aj A (b::c::g) (b::c::f):=.t (.t h)
def e9.k1 {b:ah}:e9 A B (b::A::g) (b::B::g):=.t .e
def e9.pG (h:e9 A B O Γ'):∃ Δ,aj A O Δ/\aj B Γ' Δ:=by
 induction h with
 |e=>exact⟨_,.e,.e⟩
 |t h ih=>
  obtain⟨Δ,h1,h2⟩:=ih;exact⟨_,.t h1,.t h2⟩
def Sep.put (s:Sep O H)(h:e9 (pt a o) (pt a o') O Γ')(n:jA o'=jA o):Sep Γ' (upd H a o'):=by
 obtain⟨Δ,h1,h2⟩:=h.pG;exact((s.pull h1).set n).push h2
inductive Sub:List ah->List ah->Prop where
 |refl {O:List ah}:Sub O O
 |nil {O:List ah}:Sub [] O
 |cons {A:ah}{O Γ' Δ:List ah}(h:aj A O Δ) (r:Sub Γ' Δ):Sub (A::Γ') O
 |drop {A:ah}{O Γ':List ah}(r:Sub Γ' O):Sub Γ' (A::O)
def bb.sub:∀ {O Γ':List ah}{D:Addr->Prop},Sub Γ' O->bb O H D->bb Γ' H D:=by
 intro O Γ' D h
 induction h generalizing D with
 |refl=>exact λz=>z
 |nil=>exact λ_=>True.intro
 |cons h r ih=>
  intro z;obtain⟨D1,D2,s1,s2,dj,h1,h2⟩:=bb.pull h z;exact⟨D1,D2,s1,s2,dj,h1,ih h2⟩
 |drop r ih=>
  rintro⟨D1,D2,s1,s2,dj,h1,h2⟩;exact(ih h2).up s2
def Sep.sub (h:Sub Γ' O)(s:Sep O H):Sep Γ' H:=let⟨D,k,z⟩:=s;⟨D,k,bb.sub h z⟩
end
@[irreducible] noncomputable def aa (T:Tab) (R:Rt) (k f:Nat):Sp:=bw T R k f
def m9:aa=bw:=by
 funext T R k f
 unfold aa
 rfl
variable {Q:VK}
def wc {T:Tab}{R:Rt}{k f:Nat}{d:aD}{vs:List V}{E:XK}(hk:0<k)(hd:T.fns[f]? =some d)(hl:vs.length=d.ps.length)
  (h:wB d.body ⟨T,R,aa T R (k-1),.calm⟩ { nx:=λ_ H'=>Q .non H',rt:=Q } (λ_=>E) (start d.N vs) H):aa T R k f vs H Q E:=by
 rw[m9]at h⊢;cases k with
 |zero=>exact absurd hk (by decide)
 |succ k=>
  show(match T.fns[f]? with|some d=>_|none=>_);rw[hd];exact⟨hl,h⟩
variable {c:Bool}
def gz {A B:Prop}(h1:c=true->A)(h2:c=false->B):fV c A B:=by
 unfold fV;cases c
 .exact h2 rfl
 .exact h1 rfl
def cn {A B:Prop}(h:c=true)(h1:A):fV c A B:=by subst h;unfold fV;exact h1
def aR {A B:Prop}(h:c=false)(h1:B):fV c A B:=by subst h;unfold fV;exact h1
def CC {A B:Prop}(h:fV c B A):fV (!c) A B:=by
 unfold fV at h⊢;cases c
 .exact h
 .exact h
def aB {p:Prop} [Decidable p] {A B:Prop}(h1:p->A)(h2:¬ p->B):fV (decide p) A B:=gz (λh=>h1 (of_decide_eq_true h)) λh=>h2 (of_decide_eq_false h)
def cK {i j:Int}{A B:Prop}(h1:i=j->A)(h2:i≠j->B):fV (gf (.int i) (.int j)) A B:=by
 show fV (i ==j) A B;exact gz (λh=>h1 (by simpa using h)) λh=>h2 (by simpa using h)
variable {dx:Option Addr}{n j:Nat}{fs:List (Str×V)}{es:List V}{R:It->Hp->Prop}{b:Bool}
section
variable {K:W.Frag}{G:Gx}{O Γ':List ah}{H:Hp}{Q:VK}{a p:Addr}{o:HO}{xs ys:List V}{v w:V}{i:Int}{f:Str}
def al (s:Sep O H)(h:∀ p H',Sep (pt p o::O) H'->Q (.ref p) H'):∀ p,H p=none->Q (.ref p) (upd H p o):=λp hp=>h p _ (s.new hp)
def gi {C x dx:Addr}(s:Sep O H)(h1:H x=none)(h2:H dx=none)(h3:dx≠x):Sep (pt x (.ins C dx [])::pt dx (.own x)::O) (upd (upd H dx (.own x)) x (.ins C dx [])):=(s.new h2).new (by rw[af h3.symm];exact h1)
def iL {E:XK}(s:Sep O H)(r:e9 (pt a (.exc (G.R.cad n) dx fs true)) (pt a (.exc (G.R.cad n) dx fs false)) O Γ')(ho:G.T.xc.contains n=true)(h:∀ H',Sep Γ' H'->E a H'):
  ∃ b i dx fs,V.ref a=.ref b/\H b=some (.exc (G.R.cad i) dx fs true)/\G.T.xc.contains i=true/\E b (upd H b (.exc (G.R.cad i) dx fs false)):=by
 obtain⟨Δ,h1,h2⟩:=r.pG;exact⟨a,n,dx,fs,rfl,s.get h1,ho,h _ (s.put r rfl)⟩
def HD (s:Sep O H)(h:∀ p H',Sep (tu p xs::O) H'->Q (.ref p) H'):∀ p,H p=none->Q (.ref p) (upd H p (.tup xs)):=λp hp=>h p _ (s.dg hp)
def uG (s:Sep O H)(hl:es.length<=10000)(h:∀ p H',Sep (pt p (.lst es)::O) H'->Q (.ref p) H'):zr es H Q:=by unfold zr;exact⟨hl,al s h⟩
def gI (s:Sep O H)(hl:es.length<=10000)(h:∀ p H',Sep (pt p (.tup es)::O) H'->Q (.ref p) H'):dg es H Q:=by unfold dg;exact⟨hl,al s h⟩
def CK (s:Sep O H)(h:∀ p H',Sep (pt p (.dK [])::O) H'->Q (.ref p) H'):newD H Q:=by unfold newD;exact al s h
def bH (e:H a=some (.lst xs))(hv:jw xs i=some v)(q:Q v H):wM K (.ref a) (.int i) H Q:=by unfold wM;exact .inl ⟨xs,i,v,rfl,.inl (aL.of e),hv,q⟩
def b9 (e:H a=some (.tup xs))(hv:jw xs i=some v)(q:Q v H):wM K (.ref a) (.int i) H Q:=by unfold wM;exact .inl ⟨xs,i,v,rfl,.inr (aY.of e),hv,q⟩
def dB {R:Hp->Prop}(s:Sep O H)(r:e9 (pt a (.lst xs)) (pt a (.lst ys)) O Γ')(hj:tm xs.length i=some j)(hx:xs.set j v=ys)(h:∀ H',Sep Γ' H'->R H'):r8 (.ref a) (.int i) v H R:=by
 obtain⟨Δ,h1,h2⟩:=r.pG;subst hx;unfold r8;exact .inl ⟨xs,i,j,rfl,s.get h1,hj,h _ (s.put r rfl)⟩
def Dr (e:H a=some (.lst xs))(h0:0<=i)(hv:xs[i.toNat]? =some v)(q:Q v H):tR K (.ref a) (.int i) H Q:=by unfold tR;exact⟨xs,v,aL.of e,h0,hv,q⟩
def DI {dx:Addr}(e:H a=some (.ins (G.R.cad n) dx fs))(ho:G.T.oc.contains n=true)(hn:G.T.na.contains (n,f)=true)(hl:fs.lookup f=some v)(q:Q v H):ow G f (.ref a) H Q:=by unfold ow;exact⟨a,n,fs,v,rfl,.inl ⟨ho,dx,e⟩,hn,hl,q⟩
def EI {dx:Addr}{fr:Bool}(e:H a=some (.exc (G.R.cad n) (some dx) fs fr))(ho:G.T.xc.contains n=true)(hn:G.T.na.contains (n,f)=true)(hl:fs.lookup f=some v)(q:Q v H):ow G f (.ref a) H Q:=by unfold ow;exact⟨a,n,fs,v,rfl,.inr ⟨ho,dx,fr,e⟩,hn,hl,q⟩
def Fv {dx:Addr}{fs':List (Str×V)}{R:Hp->Prop}(s:Sep O H)(r:e9 (pt a (.ins (G.R.cad n) dx fs)) (pt a (.ins (G.R.cad n) dx fs')) O Γ')(ho:G.T.oc.contains n=true)(hn:G.T.na.contains (n,f)=true)(hl:fs.length<1000)(hf:cF f v fs=fs')(h:∀ H',Sep Γ' H'->R H'):AG G f (.ref a) v H R:=by
 obtain⟨Δ,h1,h2⟩:=r.pG;subst hf;unfold AG;exact⟨a,n,rfl,hn,.inl ⟨dx,fs,ho,s.get h1,hl,h _ (s.put r rfl)⟩⟩
def wb {R:Hp->Prop}(s:Sep (pt a (.exc (G.R.cad n) none [] true)::O) H)(ho:G.T.xc.contains n=true)(hn:G.T.na.contains (n,f)=true)(h:∀ d H',Sep (pt a (.exc (G.R.cad n) (some d) [(f,v)] true)::pt d (.own a)::O) H'->R H'):AG G f (.ref a) v H R:=by
 unfold AG;refine⟨a,n,rfl,hn,.inr (.inr ⟨ho,s.at,λd hd=>h d _ ?_⟩)⟩;exact((s.new (o:=.own a) hd).pull (.t .e)).set rfl
def aJ {n:String}(ht:tyName v H=some t)(hb:G.T.subB.lookup (t,n)=some b)(q:Q (.bl b) H):cV G (.ty n) v H Q:=by unfold cV;exact .inl ⟨t,b,ht,hb,q⟩
def ET (ht:tyName v H=some t)(hb:G.T.subO.lookup (t,n)=some b)(q:Q (.bl b) H):cV G (.own n) v H Q:=by unfold cV;exact .inl ⟨t,b,ht,hb,q⟩
def DT {fr:Bool}(e:H a=some (.exc (G.R.cad j) dx fs fr))(ho:G.T.xc.contains j=true)(hb:G.T.sub.lookup (j,n)=some b)(q:Q (.bl b) H):cV G (.own n) (.ref a) H Q:=by unfold cV;exact .inr ⟨a,j,b,rfl,.inr ⟨ho,dx,fs,fr,e⟩,hb,q⟩
def A4 {n:String}{fr:Bool}(e:H a=some (.exc (G.R.cad j) dx fs fr))(ho:G.T.xc.contains j=true)(hb:G.T.subT.lookup (j,n)=some b)(q:Q (.bl b) H):cV G (.ty n) (.ref a) H Q:=by unfold cV;exact .inr ⟨a,j,b,rfl,.inr ⟨ho,dx,fs,fr,e⟩,hb,q⟩
def AB {dx:Addr}(e:H a=some (.ins (G.R.cad j) dx fs))(ho:G.T.oc.contains j=true)(hb:G.T.sub.lookup (j,n)=some b)(q:Q (.bl b) H):cV G (.own n) (.ref a) H Q:=by unfold cV;exact .inr ⟨a,j,b,rfl,.inl ⟨ho,dx,fs,e⟩,hb,q⟩
def aO (e:H a=some (.lst xs))(q:Q (.int xs.length) H):jt G .len [.ref a] H Q:=by unfold jt;exact⟨_,xs.length,rfl,.inl ⟨xs,aL.of e,rfl⟩,q⟩
def lA (e:H a=some (.tup xs))(q:Q (.int xs.length) H):jt G .len [.ref a] H Q:=by unfold jt;exact⟨_,xs.length,rfl,.inr ⟨xs,aY.of e,rfl⟩,q⟩
def B9 {j:Int}(hc:G.cm=.calm)(q:Q (.int (min i j)) H):jt G .min [.int i,.int j] H Q:=by
 unfold jt;refine⟨hc,.inl ⟨i,j,rfl,?_⟩⟩;have e:(if j<i then j else i)=min i j:=by split<;>omega
 rw[e];exact q
def CG {j:Int}(hc:G.cm=.calm)(q:Q (.int (max i j)) H):jt G .max [.int i,.int j] H Q:=by
 unfold jt;refine⟨hc,.inl ⟨i,j,rfl,?_⟩⟩;have e:(if j>i then j else i)=max i j:=by split<;>omega
 rw[e];exact q
def CN {cs:List Nat}{fr:Bool}(s:Sep O H)(ho:G.T.xc.contains j=true)(e:H a=some (.exc (G.R.cad j) dx fs fr))(hb:anyS G j cs=some b)(q:∀ p H',Sep (tu p (cs.map λc=>.ref (G.R.cad c))::O) H'->Q (.bl b) H'):∀ p,H p=none->fw G cs (.ref a) (upd H p (.tup (cs.map λc=>.ref (G.R.cad c)))) Q:=λp hp=>by
 unfold fw;refine .inr ⟨a,j,b,rfl,.inr ⟨ho,dx,fs,fr,?_⟩,hb,q p _ (s.dg hp)⟩;rw[af]
 .exact e
 .intro z;rw[z,hp]at e;cases e
def iT (h0:0<=i)(h1:i<n):tm n i=some i.toNat:=by
 unfold tm;rw[if_pos h0,if_pos h1]
def bq (s:Sep O H)(e:H a=some (.lst xs))(h:∀ p H',Sep (pt p (.lst xs)::O) H'->Q (.ref p) H'):jt G .list [.ref a] H Q:=by unfold jt;exact .inl ⟨_,xs,rfl,.inl (aL.of e),al s h⟩
def t8 (s:Sep O H)(e:H a=some (.tup xs))(h:∀ p H',Sep (pt p (.lst xs)::O) H'->Q (.ref p) H'):jt G .list [.ref a] H Q:=by unfold jt;exact .inl ⟨_,xs,rfl,.inr (aY.of e),al s h⟩
def iV (s:Sep O H)(e:H a=some (.lst xs))(h:∀ p H',Sep (tu p xs::O) H'->Q (.ref p) H'):jt G .tuple [.ref a] H Q:=by unfold jt;exact⟨_,xs,rfl,.inl ⟨aL.of e,HD s h⟩⟩
def qg (s:Sep O H){b:Addr}(e1:H a=some (.lst xs))(e2:H b=some (.lst ys))(hl:xs.length+ys.length<=100000)(h:∀ p H',Sep (pt p (.lst (xs++ys))::O) H'->Q (.ref p) H'):qY K a b H Q:=by unfold qY;exact .inl ⟨xs,ys,e1,e2,hl,al s h⟩
def jI (s:Sep O H)(e:H a=some (.lst xs))(h1: -1000<=i)(h2:i<=1000)(h3:xs.length<=1000)(h:∀ p H',Sep (pt p (.lst (sn i.toNat xs).flatten)::O) H'->Q (.ref p) H'):zF K a i H Q:=by unfold zF;exact .inl ⟨xs,e,h1,h2,h3,al s h⟩
def Af {y:V}(s:Sep O H)(r:e9 (pt a (.lst xs)) (pt a (.lst (xs++[y]))) O Γ')(hl:xs.length<=10000)(h:∀ H',Sep Γ' H'->Q .non H'):yo .append a xs [y] H Q:=by unfold yo;exact⟨_,rfl,hl,h _ (s.put r rfl)⟩
def Gi {lo hi:Option Int}(s:Sep O H)(e:aL K H a xs)(h:∀ p H',Sep (pt p (.lst (aZ xs lo hi))::O) H'->Q (.ref p) H'):wU K (.ref a) lo hi H Q:=by unfold wU;exact .inl ⟨xs,e,al s h⟩
def sA (e:H a=some (.lst xs))(h:R (De K a) H):ku K a H R:=by unfold ku;exact .inl ⟨⟨xs,aL.of e⟩,h⟩
def Fu (e:H a=some (.tup xs))(h:R (rB K a) H):ku K a H R:=by unfold ku;exact .inr (.inl ⟨⟨xs,aY.of e⟩,h⟩)
def x6 (e:H a=some (.lst xs))(h:R (EO a) H):xE a H R:=by unfold xE;exact⟨⟨xs,e⟩,h⟩
def xZ {lo hi:Option Int}(s:Sep O H)(e:H a=some (.lst xs))(h:∀ p H',Sep (pt p (.lst (aZ xs lo hi))::O) H'->Q (.ref p) H'):wU K (.ref a) lo hi H Q:=by unfold wU;exact .inl ⟨xs,aL.of e,al s h⟩
end
variable {x:V}
section
variable {K:W.Frag}{H:Hp}{Q:VK}
def iZ (f:ai x=true):gf x x=true:=by
 cases x<;>simp[ai]at f<;>simp[gf]
def ik {y:V}(fx:ai x=true)(fy:ai y=true)(q:Q (.bl (gf x y)) H):eZ K false x y H Q:=by unfold eZ;exact .inr ⟨0,_,.flat fx fy,by decide,.inl fx,q⟩
def yl {y:V}(fx:ai x=true)(fy:ai y=true)(q:Q (.bl (!gf x y)) H):eZ K true x y H Q:=by unfold eZ;exact .inr ⟨0,_,.flat fx fy,by decide,.inl fx,q⟩
def ot {b:Addr}(h:d5 K H n (.ref a) (.ref b) c)(hn:n<=100)(ne:a≠b)(q:Q (.bl c) H):eZ K false (.ref a) (.ref b) H Q:=by unfold eZ;exact .inr ⟨n,c,h,hn,.inr (.inl λz=>ne (V.ref.inj z)),q⟩
def vV {b:Addr}(h:d5 K H n (.ref a) (.ref b) c)(hn:n<=100)(ne:a≠b)(q:Q (.bl (!c)) H):eZ K true (.ref a) (.ref b) H Q:=by unfold eZ;exact .inr ⟨n,c,h,hn,.inr (.inl λz=>ne (V.ref.inj z)),q⟩
def my (h:tyName x H=some t):d5 K H (n+1) x x true:=by
 have key:ai x=true->d5 K H (n+1) x x true:=λf=>by
  have:=d5.flat (K:=K) (H:=H) (n:=n+1) f f
  rwa [iZ f]at this
 cases x<;>first|exact key rfl|exact .same _|(cases h)
def all_true (n:Nat):(List.range n).all (λ_=>true)=true:=by simp
def Bd {b:Addr}{ys:List V}(h1:H a=some (.lst xs))(h2:H b=some (.lst ys))(hl:xs.length=ys.length)(h:∀ (j:Nat) x y,xs[j]? =some x->ys[j]? =some y->d5 K H (n+1) x y true):d5 K H (n+2) (.ref a) (.ref b) true:=by
 have:=d5.ll (K:=K) (n:=n) (e:=λ_=>true) (aL.of h1) (aL.of h2) hl h
 rwa [all_true]at this
def kY {b:Addr}{ys:List V}(h1:H a=some (.tup xs))(h2:H b=some (.tup ys))(hl:xs.length=ys.length)(h:∀ (j:Nat) x y,xs[j]? =some x->ys[j]? =some y->d5 K H (n+1) x y true):d5 K H (n+2) (.ref a) (.ref b) true:=by
 have:=d5.tt (K:=K) (n:=n) (e:=λ_=>true) (aY.of h1) (aY.of h2) h;rw[all_true,hl]at this;simpa using this
end
variable {K:W.Frag}{rest:St}{te:TE}
section
variable {D:Ends}{F:(St->Hp->Prop)->V->St->Hp->Prop}{U:St}{H:Hp}
def cD {lo:Int}(I:Nat->St->Hp->Prop)(h0:I 0 U H)(hs:∀ j U H,j<n->I j U H->F (I (j+1)) (.int (lo+j)) U H) (hd:∀ U H,I n U H->D.nx U H):jz (Dc lo n) D F U H:=by
 unfold jz;refine⟨λi m U H=>m=n-i/\i<=n/\I i U H,⟨n,by simp,Nat.zero_le _,h0⟩,λi m U H ⟨e,hi,h⟩=>?_⟩
 by_cases hlt:i<n
 .refine .inr ⟨hlt,I (i+1),λσ' H' h'=>⟨n-(i+1),by omega,rfl,hlt,h'⟩,λx H' y=>?_⟩;obtain⟨rfl,rfl⟩:=y;exact hs i U H' hlt h
 .have:i=n:=by omega
  subst this;exact .inl ⟨pc _,hd U H h⟩
def fE (I:Nat->St->Hp->Prop)(h0:I 0 U H)(hl:∀ j U H,I j U H->aL K H a xs)
  (hs:∀ j x U H,xs[j]? =some x->I j U H->F (I (j+1)) x U H) (hd:∀ U H,I xs.length U H->D.nx U H):jz (De K a) D F U H:=by
 unfold jz;refine⟨λi m U H=>m=xs.length-i/\i<=xs.length/\I i U H,⟨xs.length,by simp,Nat.zero_le _,h0⟩,λi m U H ⟨e,hi',h⟩=>?_⟩
 by_cases hlt:i<xs.length
 .refine .inr ⟨⟨xs,xs[i],hl i U H h,jp hlt⟩,I (i+1),λσ' H' h'=>⟨xs.length-(i+1),by omega,rfl,hlt,h'⟩,λx H' y=>?_⟩;obtain⟨rfl,hy⟩:=y;exact hs i x U H' (hy xs (hl i U H' h)) h
 .have:i=xs.length:=by omega
  subst this;exact .inl ⟨⟨xs,hl _ U H h,pc _⟩,hd U H h⟩
def iq (I:Nat->St->Hp->Prop)(h0:I 0 U H)(hl:∀ j U H,I j U H->H a=some (.lst xs)) (hs:∀ j x T U H,xs[j]? =some x->I j U H->H T=none->F (I (j+1)) (.ref T) U (upd H T (.tup [.int j,x])))
  (hd:∀ U H,I xs.length U H->D.nx U H):jz (EO a) D F U H:=by
 unfold jz;refine⟨λi m U H=>m=xs.length-i/\i<=xs.length/\I i U H,⟨xs.length,by simp,Nat.zero_le _,h0⟩,λi m U H ⟨e,hi',h⟩=>?_⟩
 by_cases hlt:i<xs.length
 .refine .inr ⟨⟨xs,xs[i],hl i U H h,jp hlt⟩,I (i+1),λσ' H' h'=>⟨xs.length-(i+1),by omega,rfl,hlt,h'⟩,λx H' y=>?_⟩;obtain⟨T,z,hT,rfl,rfl,hy⟩:=y;exact hs i z T U H (hy xs (hl i U H h)) h hT
 .have:i=xs.length:=by omega
  subst this;exact .inl ⟨⟨xs,hl _ U H h,pc _⟩,hd U H h⟩
@[irreducible] noncomputable def kx (I:Addr->List V->Hp->Prop) (D:Addr) (ys:List V) (rest:St) (x:Option V):VK:=λv H3=>∃ zs,H3 D=some (.lst zs)/\zs.length<bn/\∃ ys2 x2,x::rest=x2::rest/\ys2.length=ys.length+1/\I D ys2 (upd H3 D (.lst (zs++[v])))
def kx.mk {I:Addr->List V->Hp->Prop}{D:Addr}{ys:List V}{x:Option V}{v:V}{H3:Hp}(h1:H3 D=some (.lst ys))(hl:ys.length<=999)(h2:I D (ys++[v]) (upd H3 D (.lst (ys++[v])))):kx I D ys rest x v H3:=
 by unfold kx;exact⟨ys,h1,cL nofun,ys++[v],x,rfl,by simp,h2⟩
def lx (hn:n<=1000)(I:Addr->List V->Hp->Prop)(h0:∀ D,H D=none->I D [] (upd H D (.lst [])))
  (hs:∀ D ys H',ys.length<n->I D ys H'->te (some (.int (0+(ys.length:Nat)))::rest) H' (kx I D ys rest (some (.int (0+(ys.length:Nat))))))
  (hd:∀ D ys H',ys.length=n->I D ys H'->Q (.ref D) H'):pY te (Dc 0 n) (none::rest) H Q:=by
 unfold pY;intro D hD;refine⟨λi m σ' H'=>m=n-i/\i<=n/\∃ ys x0,σ'=x0::rest/\ys.length=i/\I D ys H',⟨n,by simp,Nat.zero_le _,[],none,rfl,rfl,h0 D hD⟩,λi m σ' H' ⟨e,hi,ys,x0,e1,e2,h⟩=>?_⟩;subst e1 e2
 by_cases hlt:ys.length<n
 .refine .inr ⟨hlt,λσ2 H2=>∃ ys2 x2,σ2=x2::rest/\ys2.length=ys.length+1/\I D ys2 H2,λσ2 H2 ⟨ys2,x2,f1,f2,f3⟩=>⟨n-(ys.length+1),by omega,rfl,hlt,ys2,x2,f1,f2,f3⟩,λx H'' y=>?_⟩;obtain⟨e1,e2⟩:=y;subst e1 e2;have z:=hs D ys H'' hlt h;unfold kx at z;exact z
 .have:ys.length=n:=by omega
  exact .inl ⟨Nat.le_of_eq this.symm,hd D ys H' this h⟩
def nU (hn:xs.length<=1000)(I:Addr->List V->Hp->Prop)(hl:∀ D ys H,I D ys H->aL K H a xs) (h0:∀ D,H D=none->I D [] (upd H D (.lst [])))
  (hs:∀ D ys x H',xs[ys.length]? =some x->I D ys H'->te (some x::rest) H' (kx I D ys rest (some x)))
  (hd:∀ D ys H',ys.length=xs.length->I D ys H'->Q (.ref D) H'):pY te (De K a) (none::rest) H Q:=by
 unfold pY;intro D hD;refine⟨λi m σ' H'=>m=xs.length-i/\i<=xs.length/\∃ ys x0,σ'=x0::rest/\ys.length=i/\I D ys H',⟨xs.length,by simp,Nat.zero_le _,[],none,rfl,rfl,h0 D hD⟩,λi m σ' H' ⟨e,hi,ys,x0,e1,e2,h⟩=>?_⟩;subst e1 e2
 by_cases hlt:ys.length<xs.length
 .refine .inr ⟨⟨xs,xs[ys.length],hl D ys H' h,jp hlt⟩,λσ2 H2=>∃ ys2 x2,σ2=x2::rest/\ys2.length=ys.length+1/\I D ys2 H2,λσ2 H2 ⟨ys2,x2,f1,f2,f3⟩=>⟨xs.length-(ys.length+1),by omega,rfl,hlt,ys2,x2,f1,f2,f3⟩,λx H'' y=>?_⟩;obtain⟨e1,hy⟩:=y;subst e1;have z:=hs D ys x H'' (hy xs (hl D ys H'' h)) h;unfold kx at z;exact z
 .have:ys.length=xs.length:=by omega
  exact .inl ⟨⟨xs,hl D ys H' h,Nat.le_of_eq this.symm⟩,hd D ys H' this h⟩
def Bi {K:W.Frag}{G:Gx}{bs:List Bool}(hc:G.cm=.calm)(e:H a=some (.lst (bs.map V.bl)))(q:Q (.bl (bs.all id)) H):jt G .all [.ref a] H Q:=by unfold jt;exact⟨hc,_,bs,rfl,aL.of e,q⟩
def tI (q:Q (.bl (decide (x=.non))) H):wV false x .non H Q:=by unfold wV;exact q
def dP (q:Q (.bl (!decide (x=.non))) H):wV true x .non H Q:=by unfold wV;exact q
def FE (e:aL K H a xs)(fx:ai x=true)(fs:xs.all ai=true)(q:Q (.bl (BZ x xs)) H):DK K false x (.ref a) H Q:=by unfold DK;exact .inl ⟨xs,.inl e,fx,fs,q⟩
end
section
variable {K:W.Frag}{G:Gx}{O Γ':List ah}{H:Hp}{Q:VK}{a b:Addr}{xs ys:List V}{v:V}
def BC {tp1 tp2:Bool}(h1:Sq K tp1 H a xs)(h2:Sq K tp2 H b ys)(h:R (Dv K tp1 a tp2 b) H):zq K (.ref a) (.ref b) H R:=by unfold zq;exact⟨tp1,a,tp2,b,rfl,rfl,⟨xs,h1⟩,⟨ys,h2⟩,h⟩
def qF {D:Ends}{F:(St->Hp->Prop)->V->St->Hp->Prop}{U:St}{tp1 tp2:Bool}(I:Nat->St->Hp->Prop)(hn:xs.length=ys.length)(h0:I 0 U H)(hl:∀ j U H,I j U H->Sq K tp1 H a xs/\Sq K tp2 H b ys)
  (hs:∀ j x y T U H,xs[j]? =some x->ys[j]? =some y->I j U H->H T=none->F (I (j+1)) (.ref T) U (upd H T (.tup [x,y]))) (hd:∀ U H,I xs.length U H->D.nx U H):jz (Dv K tp1 a tp2 b) D F U H:=by
 unfold jz;refine⟨λi m U H=>m=xs.length-i/\i<=xs.length/\I i U H,⟨xs.length,by simp,Nat.zero_le _,h0⟩,λi m U H ⟨e,hi',h⟩=>?_⟩
 by_cases hlt:i<xs.length
 .obtain⟨g1,g2⟩:=hl i U H h;refine .inr ⟨⟨xs,ys,xs[i],ys[i]'(hn▸hlt),g1,g2,jp hlt,jp (hn▸hlt)⟩,I (i+1),λσ' H' h'=>⟨xs.length-(i+1),by omega,rfl,hlt,h'⟩,λx H' y=>?_⟩;obtain⟨T,z,z',hT,rfl,rfl,hy,hy'⟩:=y;exact hs i z z' T U H (hy xs g1) (hy' ys g2) h hT
 .have:i=xs.length:=by omega
  subst this;obtain⟨g1,g2⟩:=hl _ U H h;exact .inl ⟨⟨xs,ys,g1,g2,.inl (pc _)⟩,hd U H h⟩
def DN {tp1 tp2:Bool}{ks:List Key}(s:Sep O H)(h1:Sq K tp1 H a (ks.map kV))(h2:Sq K tp2 H b ys)(hn:ks.Nodup)(hl:ks.length=ys.length)(hz:ks.length<=1000)(h:∀ p H',Sep (pt p (.dK (ks.zip ys))::O) H'->Q (.ref p) H'):DJ K (.ref a) (.ref b) H Q:=by unfold DJ;exact⟨tp1,a,tp2,b,ks,ys,rfl,rfl,h1,h2,hn,hl,hz,al s h⟩
def Ge {k:Key}(e:H a=some (.dK kvs))(hv:gW kvs k=some v)(q:Q v H):wM K (.ref a) (kV k) H Q:=by unfold wM;exact .inr (.inl ⟨v,.inl ⟨kvs,k,.inl e,rfl,hv.symm⟩,q⟩)
def xw (s:Sep O H)(e:H a=some (.dK kvs))(h:∀ p H',Sep (pt p (.dK kvs)::O) H'->Q (.ref p) H'):jt G .dict [.ref a] H Q:=by unfold jt;exact⟨_,kvs,rfl,e,al s h⟩
def vq (hn:xs.length<=1000)(I:Addr->List V->Hp->Prop)(hl:∀ D ys H,I D ys H->aY K H a xs) (h0:∀ D,H D=none->I D [] (upd H D (.lst [])))
  (hs:∀ D ys x H',xs[ys.length]? =some x->I D ys H'->te (some x::rest) H' (kx I D ys rest (some x)))
  (hd:∀ D ys H',ys.length=xs.length->I D ys H'->Q (.ref D) H'):pY te (rB K a) (none::rest) H Q:=by
 unfold pY;intro D hD;refine⟨λi m σ' H'=>m=xs.length-i/\i<=xs.length/\∃ ys x0,σ'=x0::rest/\ys.length=i/\I D ys H',⟨xs.length,by simp,Nat.zero_le _,[],none,rfl,rfl,h0 D hD⟩,λi m σ' H' ⟨e,hi,ys,x0,e1,e2,h⟩=>?_⟩;subst e1 e2
 by_cases hlt:ys.length<xs.length
 .refine .inr ⟨⟨xs,xs[ys.length],hl D ys H' h,jp hlt⟩,λσ2 H2=>∃ ys2 x2,σ2=x2::rest/\ys2.length=ys.length+1/\I D ys2 H2,λσ2 H2 ⟨ys2,x2,f1,f2,f3⟩=>⟨xs.length-(ys.length+1),by omega,rfl,hlt,ys2,x2,f1,f2,f3⟩,λx H'' y=>?_⟩;obtain⟨e1,hy⟩:=y;subst e1;have z:=hs D ys x H'' (hy xs (hl D ys H'' h)) h;unfold kx at z;exact z
 .have:ys.length=xs.length:=by omega
  exact .inl ⟨⟨xs,hl D ys H' h,Nat.le_of_eq this.symm⟩,hd D ys H' this h⟩
def Ef (e:aY K H a xs)(h:R (rB K a) H):ku K a H R:=by unfold ku;exact .inr (.inl ⟨⟨xs,e⟩,h⟩)
def Fq {p:Addr}{y:V}(e:V->Bool)(h1:H p=some (.lst xs))(hl:xs.length<=10000)(he:∀ x ∈ xs,∃ n,n<=100/\d5 K H n x y (e x)) (hj:xs[j]? =some x) (ej:e x=true) (hm:∀ (m:Nat) x,m<j->xs[m]? =some x->e x=false) (q:Q (.int (j:Int)) H):uY K p y H Q:=by unfold uY;exact⟨xs,e,j,x,h1,hl,he,hj,ej,hm,q⟩
def wA {C:Addr}(s:Sep O H)(h:∀ x dx H',Sep (pt x (.ins C dx [])::pt dx (.own x)::O) H'->Q (.ref x) H'):wF C H Q:=by unfold wF;exact λx dx h1 h2 h3=>h x dx _ (gi s h1 h2 h3)
def Dg {lo hi:Option Int}(s:Sep O H)(e:H a=some (.tup xs))(hw:¬ (HT.bD xs.length 0 lo=0/\HT.bD xs.length xs.length hi=xs.length))(h:∀ p H',Sep (pt p (.tup (aZ xs lo hi))::O) H'->Q (.ref p) H'):wU K (.ref a) lo hi H Q:=by unfold wU;exact .inr ⟨a,xs,rfl,aY.of e,hw,al s h⟩
end
end L3
namespace L3
open PySem PySem.Spec PySem.W L2
variable {ps:List Str}
def vQ:∀ {us:List Value}{n:Str},us.length=ps.length->n ∈ ps->((ps.zip us).lookup n).isNone=false:=by
 induction ps with
 |nil=>intro us n _ h;cases h
 |cons p ps ih=>
  intro us n hl h;cases us with
  |nil=>cases hl
  |cons u us=>
   rw[zip_cons_cons,lookup_cons];cases e:n ==p with
   |true=>rfl
   |false=>
    rcases lf.mp h with rfl|h
    .rw[beq_self_eq_true]at e;cases e
    .exact ih (Nat.succ.inj hl) h
def oA:∀ {ps:List Str}{us:List Value},ps.Nodup->us.length=ps.length->∀ {L:List (Str×Value)},(∀ n ∈ ps,L.lookup n=(ps.zip us).lookup n)->ps.filterMap (λn=>(L.lookup n).map (n,·))=ps.zip us
 | [],us,_,_,L,_=>rfl
 |p::ps,[],_,hl,L,_=>by cases hl
 |p::ps,u::us,nd,hl,L,hL=>by
  have h0:L.lookup p=some u:=by rw[hL p le,zip_cons_cons,lookup_cons,beq_self_eq_true]
  rw[filterMap_cons,h0,zip_cons_cons];show(p,u)::_=_;rw[oA (nodup_cons.mp nd).2 (Nat.succ.inj hl) (L:=L)];intro n hn;rw[hL n (dl _ hn),zip_cons_cons,lookup_cons];have:(n ==p)=false:=by
   cases e:n ==p with
   |false=>rfl
   |true=>
    have:=beq_iff_eq.mp e;subst this;exact absurd hn (nodup_cons.mp nd).1
  rw[this]
variable {fd:FuncData}
def mi (nd:ps.Nodup)(h1:fd.params.posonlyargs=[])(h2:fd.params.args.map (·.arg)=ps)(h3:fd.params.kwonlyargs=[])(h4:fd.params.vararg=none)(h5:fd.params.kwarg=none)(h6:fd.defaults=.none)(us:List Value)(hl:us.length=ps.length):
  bindArgs fd ⟨us,[]⟩=pure (ps.zip us):=by
 obtain⟨name,qual,⟨po,as,va,ko,kd,ka,df⟩,body,scope,glo,bB,dV,kV,doc,pm,an,cdv,ct,bu⟩:=fd;dsimp only at h1 h2 h3 h4 h5 h6;subst h1 h2 h3 h4 h5 h6;generalize hps:as.map (·.arg)=ps at nd hl⊢;have e1:seqItems? (Value.none)=(pure none:Sem (Option (Array Value))):=rfl;have e2:∀ f:Str->Bool,(∀ n ∈ ps,f n=false)->ps.filter f=[]:=λf h=>List.filter_eq_nil_iff.mpr λa ha=>by rw[h a ha];decide
 have e3:¬ (us.length>ps.length):=by omega
 have e4:=e2 (λn=>((ps.zip us).lookup n).isNone) λn hn=>vQ hl hn
 have e5:=oA nd hl (L:=ps.zip us) λ_ _=>rfl
 unfold bindArgs;dsimp only[List.map_nil,nil_append,append_nil];rw[hps];simp[e1,e3,e4,e5]
abbrev gD (S:List (Str×Value))(x:Str×Value):List (Str×Value):=if(S.lookup x.1).isNone=true then S++[x] else S
def zL:∀ {L:List (Str×Value)}{S:List (Str×Value)},(∀ x ∈ L,(S.lookup x.1).isNone=false)->L.foldl gD S=S
 | [],_,_=>rfl
 |x::L,S,h=>by
  have h0:gD S x=S:=by
   unfold gD;rw[if_neg (by rw[h x le];decide)]
  rw[foldl_cons,h0];exact zL λy hy=>h y (dl _ hy)
def Ak:∀ {L:List (Str×Value)}{S:List (Str×Value)},(L.map (·.1)).Nodup->(∀ x ∈ L,S.lookup x.1=none)->L.foldl gD S=S++L
 | [],S,_,_=>by rw[append_nil];rfl
 |x::L,S,nd,h=>by
  have h0:gD S x=S++[x]:=by
   unfold gD;rw[if_pos (by rw[h x le];rfl)]
  rw[map_cons]at nd;rw[foldl_cons,h0,Ak (nodup_cons.mp nd).2]
  .rw[io];rfl
  .intro y hy;have hne:(y.1 ==x.1)=false:=by
    cases e:y.1 ==x.1 with
    |false=>rfl
    |true=>
     have e:=beq_iff_eq.mp e;exact absurd (List.mem_map_of_mem (f:=(·.1)) hy) (e▸(nodup_cons.mp nd).1)
   obtain⟨a,b⟩:=x;rw[List.lookup_append,h y (dl _ hy),lookup_cons,hne]
   rfl
def Aj {n:Str}:∀ {L:List (Str×Value)},(∀ x ∈ L,x.1≠n)->L.lookup n=none
 | [],_=>rfl
 |(a,b)::L,h=>by
  have:(n ==a)=false:=by
   cases e:n ==a with
   |false=>rfl
   |true=>exact absurd (beq_iff_eq.mp e).symm (h (a,b) le)
  rw[lookup_cons,this];exact Aj λx hx=>h x (dl _ hx)
variable {A:List Str}{B:List Value}
def lj {x:Str×Value}(h:x ∈ A.zip B):x.1 ∈ A:=by
 obtain⟨a,b⟩:=x;exact(of_mem_zip h).1
def zip_map (h:A.length<=B.length):(A.zip B).map (·.1)=A:=List.map_fst_zip h
def ki {B:List Str}{us:List Value}(h:A.length=us.length):(A++B).zip us=A.zip us:=by
 have:=zip_append (l₁:=A) (l₂:=us) (r₁:=B) (r₂:=[]) h;rw[append_nil,List.zip_nil_right,append_nil]at this;exact this
def w8 {B:List Str}{us D1 D2:List Value}(nd:(A++B).Nodup)(h1:A.length=us.length)(h2:B.length=D2.length)(h3:D1.length<=A.length):
  (((A++B).drop (A.length-D1.length)).zip (D1++D2)).foldl gD ((A++B).zip us)=(A++B).zip (us++D2):=by
 have a:=zL (L:=(A.drop (A.length-D1.length)).zip D1) (S:=(A++B).zip us) λx hx=>by
  rw[ki h1];exact vQ h1.symm (mem_of_mem_drop (lj hx))
 have b:=Ak (L:=B.zip D2) (S:=(A++B).zip us) (by rw[zip_map nofun];exact(List.nodup_append.mp nd).2.1) λx hx=>by
  refine Aj λy hy e=>?_
  rw[ki h1]at hy;exact(List.nodup_append.mp nd).2.2 y.1 (lj hy) x.1 (lj hx) e
 rw[List.drop_append_of_le_length nofun,zip_append (by rw[im];omega),List.foldl_append,a,b,ki h1,zip_append h1]
def wD {us ds:List Value}(nd:ps.Nodup)(h1:us.length<=ps.length)(h2:ds.length<=ps.length)(h3:ps.length<=us.length+ds.length):
  ((ps.drop (ps.length-ds.length)).zip ds).foldl gD (ps.zip us)=ps.zip (us++ds.drop (us.length+ds.length-ps.length)):=by
 have nd2:(ps.take us.length++ps.drop us.length).Nodup:=by rw[take_append_drop];exact nd
 have:=w8 (A:=ps.take us.length) (B:=ps.drop us.length) (us:=us) (D1:=ds.take (us.length+ds.length-ps.length)) (D2:=ds.drop (us.length+ds.length-ps.length)) nd2 (by rw[db];omega) (by rw[im,im];omega) (by rw[db,db];omega);rw[take_append_drop,take_append_drop,db,db]at this;rw[show min us.length ps.length-min (us.length+ds.length-ps.length) ds.length=ps.length-ds.length by omega]at this;exact this
def nz:∀ {L:List (Str×Value)}{S:List (Str×Value)},(forIn L S λx r=>(match x with|(name,d)=>if(r.lookup name).isNone=true then pure (ForInStep.yield (r++[(name,d)])) else pure (ForInStep.yield r):Sem (ForInStep (List (Str×Value)))))=pure (L.foldl gD S)
 | [],S=>by simp
 |(a,b)::L,S=>by
  rw[forIn_cons,foldl_cons,<-nz];unfold gD
  by_cases e:(S.lookup a).isNone=true
  .simp only[e,if_true,pure_bind]
  .simp only[e,if_false,pure_bind,Bool.false_eq_true]
def vU {T:Addr}{items:Array Value}(nd:ps.Nodup)(h1:fd.params.posonlyargs=[])(h2:fd.params.args.map (·.arg)=ps)(h3:fd.params.kwonlyargs=[])(h4:fd.params.vararg=none)(h5:fd.params.kwarg=none)(h6:fd.defaults=.ref T)(us:List Value)(l1:us.length<=ps.length)(l2:items.toList.length<=ps.length)(l3:ps.length<=us.length+items.toList.length):
  ∃ k:Option (Array Value)->Sem (List (Str×Value)),bindArgs fd ⟨us,[]⟩=seqItems? fd.defaults >>= k/\k (some items)=pure (ps.zip (us++items.toList.drop (us.length+items.toList.length-ps.length))):=by
 obtain⟨name,qual,⟨po,as,va,ko,kd,ka,df⟩,body,scope,glo,bB,dV,kV,doc,pm,an,cdv,ct,bu⟩:=fd;dsimp only at h1 h2 h3 h4 h5 h6;subst h1 h2 h3 h4 h5 h6;generalize hps:as.map (·.arg)=ps at nd l1 l2 l3⊢;have e2:∀ f:Str->Bool,(∀ n ∈ ps.take (ps.length-items.toList.length),f n=false)->(ps.take (ps.length-items.toList.length)).filter f=[]:=λf h=>List.filter_eq_nil_iff.mpr λa ha=>by rw[h a ha];decide
 have e3:¬ (us.length>ps.length):=by omega
 have ez:ps.zip us=(ps.take us.length).zip us:=by
  have:=ki (A:=ps.take us.length) (B:=ps.drop us.length) (us:=us) (by rw[db];omega);rw[take_append_drop]at this;exact this
 have e4:=e2 (λn=>((ps.zip us).lookup n).isNone) λn hn=>by
  rw[ez];refine vQ (by rw[db];omega) ?_;have:ps.take (ps.length-items.toList.length)=(ps.take us.length).take (ps.length-items.toList.length):=by rw[List.take_take,Nat.min_eq_left nofun]
  rw[this]at hn;exact mem_of_mem_take hn
 have e6:=wD (us:=us) (ds:=items.toList) nd l1 l2 l3;have e5:=oA (us:=us++items.toList.drop (us.length+items.toList.length-ps.length)) nd (by rw[ci,im];omega) λ_ _=>rfl
 have e7:items.toList.length-ps.length=0:=by omega
 unfold bindArgs;dsimp only[List.map_nil,nil_append,append_nil];rw[hps];refine⟨_,rfl,?_⟩;simp only[Option.getD_some,List.map_nil,nil_append,e7,drop_zero,e4,e3,List.isEmpty_nil,Bool.not_true,decide_false,Bool.false_and,Bool.false_eq_true,if_false,forIn_nil,append_nil];rw[nz,e6,pure_bind,pure_bind];simp only[e5,List.isEmpty_nil,Bool.not_true,Bool.false_eq_true,if_false]
abbrev Am (x:Option (Option Value))(a:Addr):Bool:=match x with
 |some (some (.ref b))=>b ==a
 |_=>false
variable {x:Option (Option Value)}
def eE {a:Addr}(h:Am x a=true):x=some (some (.ref a)):=by
 unfold Am at h
 split at h
 .rw[beq_iff_eq.mp h]
 .cases h
abbrev qQ (x:Option (Option Value))(a:String):Bool:=match x with
 |some (some (.builtin b))=>b ==a
 |_=>false
variable {a:String}
def cf (h:qQ x a=true):x=some (some (.builtin a)):=by
 unfold qQ at h
 split at h
 .rw[beq_iff_eq.mp h]
 .cases h
abbrev FZ (x:Option Value)(a:String):Bool:=match x with
 |some (.type b)=>b ==a
 |_=>false
def CQ {x:Option Value}(h:FZ x a=true):x=some (.type a):=by
 unfold FZ at h
 split at h
 .rw[beq_iff_eq.mp h]
 .cases h
abbrev um (x:Option (Option Value)):Bool:=match x with
 |some none=>true
 |_=>false
def kb (h:um x=true):x=some none:=by
 unfold um at h
 split at h
 .rfl
 .cases h
abbrev xC (x:Option Bool)(b:Bool):Bool:=match x with
 |some c=>c ==b
 |none=>false
def dr {x:Option Bool}{b:Bool}(h:xC x b=true):x=some b:=by
 unfold xC at h
 split at h
 .rw[beq_iff_eq.mp h]
 .cases h
abbrev Fl (v:V)(x:Option (Option Value)):Bool:=match v,x with
 | .int i,some (some (.int j _))=>i ==j
 | .str s,some (some (.str s' _))=>s ==s'
 | .ref a,y=>Am y a
 |_,_=>false
def CW {v:V}(h:Fl v x=true):∃ u,x=some (some u)/\RelV v u:=by
 unfold Fl at h
 split at h
 .rw[<-beq_iff_eq.mp h];exact⟨_,rfl,_,rfl⟩
 .rw[<-beq_iff_eq.mp h];exact⟨_,rfl,_,rfl⟩
 .rw[eE h];exact⟨_,rfl,rfl⟩
 .cases h
section
variable (K:Frag) (C:Addr)
abbrev x9:Bool:=plainGet K C Str.empty&&(hasDictIn K C&&(plainOver K C&&qQ (findIn K (.ref C) "__setattr__") "object.__setattr__"))
def qT {K:Frag}{C:Addr}(h:x9 K C=true):xF K C:=by
 unfold x9 at h;simp only[li]at h;exact⟨h.1,h.2.1,h.2.2.1,cf h.2.2.2⟩
abbrev xO:Bool:=qQ (findIn K (.ref C) "__class__") "object.__class__"&&(qQ (specialIn K (.builtin "object.__class__") "__get__") "getset_descriptor.__get__"&&xC (takesIn K (.builtin "object.__class__")) true)
abbrev mK:Bool:=FZ (typeIn K (.ref C)) "type"&&((clsIn K C).any (λcd=>cU cd.mro)&&(hasDictIn K C&&(qQ (findIn K (.ref C) "__getattribute__") "BaseException.__getattribute__"&&(um (findIn K (.ref C) "__getattr__")&&qQ (findIn K (.ref C) "__setattr__") "object.__setattr__"))))
def i8 {K:Frag}{C:Addr}(h:mK K C=true):cu K C:=by
 unfold mK at h;simp only[li]at h;exact⟨CQ h.1,h.2.1,h.2.2.1,cf h.2.2.2.1,kb h.2.2.2.2.1,cf h.2.2.2.2.2⟩
end
abbrev all2 {α:Type}(l:List α)(p:α->Bool):Bool:=match l with
 | []=>true
 |a::r=>p a&&all2 r p
def aw {α:Type}{p:α->Bool}:∀ {l:List α},all2 l p=true->∀ a ∈ l,p a=true
 | [],_,_,h=>by cases h
 |a::r,h,b,hb=>by
  unfold all2 at h;rw[li]at h;rcases lf.mp hb with rfl|hb
  .exact h.1
  .exact aw h.2 b hb
abbrev BP (K:Frag)(fs cs:List Addr)(gs:List (Str×V)):Rt:=⟨K,λi=>fs.getD i 0,λi=>cs.getD i 0,λx=>gs.lookup x⟩
section
variable (K:Frag) (T:Tab) (fs cs:List Addr) (gs:List (Str×V))
abbrev yY:Bool:=
 (all2 T.gfn (λp=>Am (nsIn K mainGlobals p.1) (fs.getD p.2 0)&&(keepIn K (.ref (fs.getD p.2 0))&&(T.fns[p.2]?).isSome))&&
 (all2 T.gcl (λp=>Am (nsIn K mainGlobals p.1) (cs.getD p.2 0))&&
 (all2 T.gbl (λx=>um (nsIn K mainGlobals x)&& !(x ==("__name__":Str)))&&
 (all2 T.gbi (λx=>match nsIn K mainGlobals x with
  |some (some (.ref B))=>qQ (specialIn K (.ref B) "__getattribute__") "type.__getattribute__"&&(readsIn K B (.type "type")&&(match findCls K (.ref B) (.type "type") "__init__" with|some (.val (.builtin n))=>n =="ValueError.__init__"|_=>false))
  |_=>false)&&
 (all2 gs (λp=>Fl p.2 (nsIn K mainGlobals p.1))&&
 (all2 T.na (λp=>um (findIn K (.ref (cs.getD p.1 0)) p.2))&&
 (all2 T.me (λp=>x9 K (cs.getD p.1.1 0)&&(Am (findIn K (.ref (cs.getD p.1.1 0)) p.1.2) (fs.getD p.2 0)&&(isFn K (.ref (fs.getD p.2 0))&&(keepIn K (.ref (fs.getD p.2 0))&&(T.fns[p.2]?).isSome)))))))))))&&
 (all2 T.ini0 (λc=>bT K (cs.getD c 0)&&(qQ (findIn K (.ref (cs.getD c 0)) "__init__") "ValueError.__init__"&&(keepIn K (.ref (cs.getD c 0))&&mK K (cs.getD c 0))))&&
 (all2 T.inip (λc=>makesIn K (cs.getD c 0)&&(qQ (findIn K (.ref (cs.getD c 0)) "__init__") "object.__init__"&&keepIn K (.ref (cs.getD c 0))))&&
 (all2 T.ini (λp=>(T.fns[p.2]?).isSome&&((if T.xc.contains p.1=true then bT K (cs.getD p.1 0) else makesIn K (cs.getD p.1 0))&&(Am (findIn K (.ref (cs.getD p.1 0)) "__init__") (fs.getD p.2 0)&&(isFn K (.ref (fs.getD p.2 0))&&keepIn K (.ref (cs.getD p.1 0))))))&&
 (all2 T.oc (λc=>x9 K (cs.getD c 0)&&(xO K (cs.getD c 0)&&xC (mroIn K (cs.getD c 0) (.type "object")) true))&&
 (all2 T.xc (λc=>mK K (cs.getD c 0)&&xO K (cs.getD c 0))&&
 (all2 T.sub (λp=>xC (kitOne K (.ref (cs.getD p.1.1 0)) (.ref (cs.getD p.1.2 0))) p.2&&(!T.xc.contains p.1.1||(xC (mroIn K (cs.getD p.1.1 0) (.ref (cs.getD p.1.2 0))) p.2&&mK K (cs.getD p.1.2 0))))&&
 (all2 T.subT (λp=>xC (kitOne K (.ref (cs.getD p.1.1 0)) (.type p.1.2)) p.2)&&
 (all2 T.subB (λp=>xC (kitOne K (.type p.1.1) (.type p.1.2)) p.2)&&
 (all2 T.subO (λp=>xC (kitOne K (.type p.1.1) (.ref (cs.getD p.1.2 0))) p.2)&&
  all2 T.cin (λp=>qQ (specialIn K (.ref (cs.getD p.1 0)) "__getattribute__") "type.__getattribute__"&&(readsIn K (cs.getD p.1 0) (.type "type")&&((match findCls K (.ref (cs.getD p.1 0)) (.type "type") "__init__" with|some (.val (.ref f))=>f ==fs.getD p.2 0|_=>false)&&(keepIn K (.ref (fs.getD p.2 0))&&(T.fns[p.2]?).isSome)))))))))))))
end
def hV {α:Type}{x:Option α}(h:x.isSome=true):∃ d,x=some d:=Option.isSome_iff_exists.mp h
variable {K:Frag}{T:Tab}{fs:List Addr}{gs:List (Str×V)}{mg:HP}
def xh {cs:List Addr}{h:Heap}(X:K.In h)(G:h.Ns mainGlobals mg)(z:yY K T fs cs gs=true):y8 K mg T (BP K fs cs gs):=by
 unfold yY at z;simp only[li]at z;obtain⟨⟨z1,z2,z3,z4,z5,z6,z7⟩,z8,z9,z10,z11,z12,z13,z14,z15,z16,z17⟩:=z;exact {
  gfn:=iI λp hp=>by
   have:=aw z1 p hp;simp only[li]at this;exact⟨mg_of X G (eE this.1),this.2.1,hV this.2.2⟩
  gcl:=iI λp hp=>mg_of X G (eE (aw z2 p hp))
  gbl:=gv λx hx=>by
   have:=aw z3 x hx;simp only[li]at this;exact⟨mg_none_of X G (kb this.1),by simpa using this.2⟩
  gbi:=gv λx hx=>by
   have:=aw z4 x hx
   split at this
   .rename_i B e;simp only[li]at this;refine⟨B,mg_of X G e,cf this.1,this.2.1,?_⟩;have t:=this.2.2
    split at t
    .rename_i n e2;rw[e2,beq_iff_eq.mp t]
    .cases t
   .cases this
  gl:=iI λp hp=>by
   obtain⟨u,e,r⟩:=CW (aw z5 p hp);exact⟨u,mg_of X G e,r⟩
  na:=wZ λp hp=>kb (aw z6 p hp)
  me:=fQ λp hp=>by
   have:=aw z7 p hp;simp only[li]at this;exact⟨qT this.1,⟨eE this.2.1,this.2.2.1,this.2.2.2.1⟩,hV this.2.2.2.2⟩
  ini0:=gv λc hc=>by
   have:=aw z8 c hc;simp only[li]at this;exact⟨this.1,cf this.2.1,this.2.2.1,i8 this.2.2.2⟩
  inip:=gv λc hc=>by
   have:=aw z9 c hc;simp only[li]at this;exact⟨this.1,cf this.2.1,this.2.2⟩
  ini:=iI λp hp=>by
   have:=aw z10 p hp;simp only[li]at this;refine⟨hV this.1,?_⟩;have t:=this.2
   by_cases e:T.xc.contains p.1=true
   .rw[if_pos e]at t⊢;exact⟨t.1,eE t.2.1,t.2.2.1,t.2.2.2⟩
   .rw[if_neg e]at t⊢;exact⟨t.1,eE t.2.1,t.2.2.1,t.2.2.2⟩
  oc:=gv λc hc=>by
   have:=aw z11 c hc;simp only[xO,li]at this;exact⟨qT this.1,cf this.2.1.1,cf this.2.1.2.1,dr this.2.1.2.2,dr this.2.2⟩
  xc:=gv λc hc=>by
   have:=aw z12 c hc;simp only[xO,li]at this;exact⟨i8 this.1,cf this.2.1,cf this.2.2.1,dr this.2.2.2⟩
  sub:=fQ λp hp=>by
   have:=aw z13 p hp;simp only[li]at this;refine⟨dr this.1,λe=>?_⟩;have t:=this.2;rw[e,Bool.not_true,Bool.false_or,li]at t;exact⟨dr t.1,i8 t.2⟩
  subT:=fQ λp hp=>dr (aw z14 p hp)
  subB:=fQ λp hp=>dr (aw z15 p hp)
  subO:=fQ λp hp=>dr (aw z16 p hp)
  cin:=iI λp hp=>by
   have:=aw z17 p hp;simp only[li]at this;refine⟨⟨cf this.1,this.2.1,?_,this.2.2.2.1⟩,hV this.2.2.2.2⟩;have t:=this.2.2.1
   split at t
   .rename_i f e2;rw[beq_iff_eq.mp t]at e2;exact e2
   .cases t }
abbrev Ff:List Str->Bool
 | []=>true
 |a::r=>!r.contains a&&Ff r
def uh:∀ {l:List Str},Ff l=true->l.Nodup
 | [],_=>List.nodup_nil
 |a::r,h=>by
  unfold Ff at h;rw[li]at h;exact nodup_cons.mpr ⟨by simpa using h.1,uh h.2⟩
abbrev Gq (N P:List Str)(sc:Scope):Bool:=decide (sc.kind=.function)&&(!sc.isCoroutine&&(!sc.isGenerator&&(Ff N&&(N.take P.length ==P&&(all2 P (λx=>match sc.names.lookup x with|some .local=>true|some .cell=>true|_=>false)&&all2 sc.names (λy=>match y.2 with| .free=>false|_=>true))))))
def oE {N P:List Str}{sc:Scope}(h:Gq N P sc=true):ip N P sc:=by
 unfold Gq at h;simp only[li,decide_eq_true_eq]at h;refine⟨h.1,by simpa using h.2.1,by simpa using h.2.2.1,uh h.2.2.2.1,beq_iff_eq.mp h.2.2.2.2.1,λx hx=>?_,λy hy e=>?_⟩
 .have:=aw h.2.2.2.2.2.1 x hx
  split at this
  .rename_i e;exact .inl e
  .rename_i e;exact .inr e
  .cases this
 .have:=aw h.2.2.2.2.2.2 y hy;rw[e]at this;cases this
abbrev FK:V->Value->Bool
 | .non,.none=>true
 | .bl b,.bool c=>b ==c
 | .int i,.int j _=>i ==j
 | .str s,.str s' _=>s ==s'
 |_,_=>false
def CF {v:V}{u:Value}(h:FK v u=true):RelV v u:=by
 unfold FK at h
 split at h
 .rfl
 .rw[beq_iff_eq.mp h];rfl
 .rw[beq_iff_eq.mp h];exact⟨_,rfl⟩
 .rw[beq_iff_eq.mp h];exact⟨_,rfl⟩
 .cases h
abbrev vA:List V->List Value->Bool
 | [],[]=>true
 |v::vs,u::us=>FK v u&&vA vs us
 |_,_=>false
def lh:∀ {vs:List V}{us:List Value},vA vs us=true->Vals vs us
 | [],[],_=>.nil
 |v::vs,u::us,h=>by
  unfold vA at h;rw[li]at h;exact .cons (CF h.1) (lh h.2)
 | [],_::_,h=>by cases h
 |_::_,[],h=>by cases h
abbrev FF (K:Frag)(fd:FuncData)(d:aD):Bool:=match fd.defaults with
 | .none=>d.dfl.isEmpty
 | .ref T=>!d.dfl.isEmpty&&(match K.lookup T with
  |some o=>(match o.data with| .seq items _=>vA d.dfl items.toList&&decide (items.toList.length<=d.ps.length)|_=>false)
  |none=>false)
 |_=>false
abbrev zK (K:Frag)(T:Tab)(f:Addr)(d:aD):Bool:=match K.lookup f with
 |some ⟨_,_,.func fd,_⟩=>(match fd.body with
  | .stmts body=>decide (fd.globals=mainGlobals)&&(fd.closure.isEmpty&&(decide (fd.builtins=builtinsNs)&&(codeIn K fd.code fd.qualname&&(Gq d.N d.ps fd.scope&&(mB ⟨T,fd.scope,d.N⟩ d.body body&&
   (fd.params.posonlyargs.isEmpty&&(fd.params.args.map (·.arg) ==d.ps&&(fd.params.kwonlyargs.isEmpty&&(fd.params.vararg.isNone&&(fd.params.kwarg.isNone&&FF K fd d))))))))))
  |_=>false)
 |_=>false
variable {d:aD}
def Cf {f:Addr}(h:zK K T f d=true):sd K T f d:=by
 unfold zK at h
 split at h
 .rename_i oc od fd sl e;obtain⟨name,qual,params,body,scope,glo,bB,dV,kV,doc,pm,an,cdv,ct,bu⟩:=fd;dsimp only at h
  split at h
  .rename_i body;simp only[li,decide_eq_true_eq,isEmpty_iff,Option.isNone_iff_eq_none]at h;obtain⟨h1,h2,h3,h4,h5,h6,h7,h8,h9,h10,h11,h12⟩:=h;subst h1 h2 h3;have S:=oE h5;have nd:d.ps.Nodup:=by
    rw[<-S.pre];exact S.nd.sublist (take_sublist _ _)
   refine⟨⟨name,qual,params,body,scope,dV,kV,doc,pm,cdv,ct,oc,od,an,sl,e,h4,S,h6,?_⟩⟩;unfold FF at h12;dsimp only at h12
   split at h12
   .rw[isEmpty_iff.mp h12];exact B8 (.all λus hl=>mi nd h7 (beq_iff_eq.mp h8) h9 h10 h11 rfl us hl)
   .rename_i T0;rw[li]at h12;have h12:=h12.2
    split at h12
    .rename_i o ho
     split at h12
     .rename_i items c hs;rw[li,decide_eq_true_eq]at h12;intro j;refine⟨items.toList.drop j,?_,jC j (lh h12.1)⟩;refine yZ (n:=d.ps.length-(items.toList.drop j).length) rfl ho hs (by rw[im];omega) λus hl=>?_
      rw[im]at hl;obtain⟨k,k1,k2⟩:=vU (fd:=fnOf name qual params body scope (.ref T0) kV doc pm an cdv ct) (items:=items) nd h7 (beq_iff_eq.mp h8) h9 h10 h11 rfl us nofun h12.2 nofun;refine⟨k,k1,?_⟩;rw[k2]
      by_cases e:j<=items.toList.length
      .rw[show us.length+items.toList.length-d.ps.length=j by omega]
      .rw[show us.length+items.toList.length-d.ps.length=items.toList.length by omega,drop_length,List.drop_eq_nil_of_le (by omega:items.toList.length<=j)]
     .cases h12
    .cases h12
   .cases h12
  .cases h
 .cases h
abbrev jl (K:Frag)(T:Tab)(fs:List Addr):Nat->List aD->Bool
 |_,[]=>true
 |n,d::r=>zK K T (fs.getD n 0) d&&jl K T fs (n+1) r
def pP {K:Frag}{T:Tab}{fs:List Addr}:∀ {l:List aD}{n:Nat},jl K T fs n l=true->qN (λf d=>sd K T (fs.getD f 0) d) n l
 | [],_,_=>True.intro
 |d::r,n,h=>by
  unfold jl at h;rw[li]at h;exact⟨Cf h.1,pP h.2⟩
def yK (h:jl K T fs 0 T.fns=true):∀ f d,T.fns[f]? =some d->sd K T (fs.getD f 0) d:=pw (P:=λf d=>sd K T (fs.getD f 0) d) (pP h)
def qj {K:Frag}{T:Tab}{fs:List Addr}:∀ {l:List aD}{n f:Nat}{d:aD},jl K T fs n l=true->l[f]? =some d->zK K T (fs.getD (n+f) 0) d=true
 | [],_,_,_,_,e=>by simp at e
 |a::r,n,0,d,h,e=>by
  unfold jl at h;rw[li]at h;have:a=d:=by simpa using e
  subst this;exact h.1
 |a::r,n,f+1,d,h,e=>by
  unfold jl at h;rw[li]at h;have:=qj h.2 (f:=f) (d:=d) (by simpa using e)
  rwa [Nat.add_assoc,Nat.add_comm 1 f]at this
def xP {fl:Nat}(z:jl K T fs 0 T.fns=true)(hd:T.fns[fl]? =some d)(hp:d.ps=[("_law_script":Str)]) (hf:d.dfl=[]):
  ∃ oc od fd sl,K.lookup (fs.getD fl 0)=some ⟨oc,od,.func fd,sl⟩/\∀ (s:Shared) (v:Value),BindsTo s fd ⟨[v],[]⟩ [("_law_script",v)]:=by
 have h:=qj z hd;rw[Nat.zero_add]at h;unfold zK at h
 split at h
 .rename_i oc od fd sl e;refine⟨oc,od,fd,sl,e,λs v=>?_⟩
  split at h
  .rename_i body hb;simp only[li,decide_eq_true_eq,isEmpty_iff,Option.isNone_iff_eq_none]at h;obtain⟨h1,h2,h3,h4,h5,h6,h7,h8,h9,h10,h11,h12⟩:=h;have nd:d.ps.Nodup:=by
    rw[<-(oE h5).pre];exact(oE h5).nd.sublist (take_sublist _ _)
   unfold FF at h12;rw[hf]at h12;have e6:fd.defaults=.none:=by
    split at h12
    .rename_i e;exact e
    .rw[li]at h12;cases h12.1
    .cases h12
   have:=mi nd h7 (beq_iff_eq.mp h8) h9 h10 h11 e6 [v] (by rw[hp];rfl);rw[hp]at this;exact .of_eq this
  .cases h
 .cases h
def xW {P:Program}{w:World}{h:Heap}{fa:Addr}{cs:List Addr}{fl k:Nat}(X:K.In h)(G:h.Ns mainGlobals mg)(hfa:mg "law"=some (.ref fa))
  (z1:yY K T fs cs gs=true) (z2:jl K T fs 0 T.fns=true) (z3:Am (nsIn K mainGlobals "law") (fs.getD fl 0)=true) (hd:T.fns[fl]? =some d) (hp:d.ps=[("_law_script":Str)]) (hf:d.dfl=[])
  (ht:∀ vs H Q E,gP K 63 vs H Q E->aa T (BP K fs cs gs) k fl vs H Q E):
  ∃ fd:FuncData,(∀ (s:Shared) (v:Value),BindsTo s fd ⟨[v],[]⟩ [("_law_script",v)])/\∀ base:Heap,K.In base->base.Ns mainGlobals mg->cS true P w K mg base (uZ P w) (2*k) fa fd ["_law_script"] (gP K 63):=by
 have e0:fs.getD fl 0=fa:=by
  have e:=hfa.symm.trans (mg_of X G (eE z3))
  injection e with e
  injection e with e
  exact e.symm
 have fn:=yK z2;have tk:=xh X G z1;have N:=fn fl d hd;have hN:=xP z2 hd;obtain⟨oc,od,fd,sl,e,hb⟩:=hN hp hf;refine⟨fd,hb,λbase hb hg=>?_⟩;have F:=BY (P:=P) (w:=w) (base:=base) (R:=BP K fs cs gs) tk rfl fn k fl d hd (fd:=fd) (lk:=e) (m9▸ht);rw[hp]at F;rw[<-e0];exact F
abbrev GK (K:Frag)(a:Addr)(vs:List V):Bool:=match K.lookup a with
 |some ⟨.type t,_,.seq items _,_⟩=>t =="tuple"&&(decide (items.size<=1000)&&vA vs items.toList)
 |_=>false
def Bt {a:Addr}{vs:List V}(h:GK K a vs=true)(H:Hp):aY K H a vs:=by
 unfold GK at h
 split at h
 .rename_i t od items n sl e;simp only[li,decide_eq_true_eq]at h;refine .inr ⟨_,items,n,e,?_,rfl,?_,lh h.2.2⟩
  .show Value.type t=_;rw[beq_iff_eq.mp h.1]
  .exact Nat.le_of_lt (cL h.2.1)
 .cases h
end L3
namespace L3
open PySem L2
noncomputable abbrev fc.c (e:Ex)(r:fc):fc:=.cons e r
noncomputable abbrev fc.n:fc:=.nil
noncomputable abbrev jr.c (e:Sx)(r:jr):jr:=.cons e r
noncomputable abbrev jr.n:jr:=.nil
noncomputable abbrev wQ.c (a b:Nat)(e:jr)(r:wQ):wQ:=.cons a b e r
noncomputable abbrev wQ.n:wQ:=.nil
noncomputable abbrev Ex.i (x:Int):Ex:=.int x
noncomputable abbrev Ex.s (x:Str):Ex:=.str x
noncomputable abbrev Ex.k (x:Nat)(e:fc):Ex:=.call x e
noncomputable abbrev Ex.m (a:Ex)(x:Str)(e:fc):Ex:=.meth a x e
noncomputable abbrev Ex.f (c:Tx)(a b:Ex):Ex:=.ife c a b
noncomputable abbrev Ex.q (o:CmpOp)(a b:Ex):Ex:=.cmp o a b
noncomputable abbrev Tx.q (o:CmpOp)(a b:Ex):Tx:=.cmp o a b
noncomputable abbrev Sx.a (x:Nat)(e:Ex):Sx:=.asg x e
noncomputable abbrev Sx.r (e:Ex):Sx:=.ret e
noncomputable abbrev Sx.f (c:Tx)(a b:jr):Sx:=.ife c a b
noncomputable abbrev Sx.e (e:Ex):Sx:=.expr e
end L3
set_option Elab.async false
set_option maxHeartbeats 8000000
open PySem PySem.Spec L2 L3
namespace My
open PySem L2 L3
set_option hygiene false
local macro_rules|`(#[])=>`(.n)|`(#[$x:term])=>`(.c $x .n)|`(#[$x:term,$xs:term,*])=>`(.c $x #[$xs,*])
set_option hygiene true
abbrev b6:aD:=⟨["self","at"],["self","at"],[],#[.e (.bini #[.v 0,.s "no list of 1 to 60 contents"]),.fld (.v 0) "at" (.v 1)]⟩
abbrev g7:aD:=⟨["self","deed","cell"],["self","deed","cell"],[],#[.e (.bini #[.v 0,.s "a cell that is not there, or may not be looked at or put"]),.fld (.v 0) "deed" (.v 1),.fld (.v 0) "cell" (.v 2)]⟩
abbrev gw:aD:=⟨["self","box","number"],["self","box","number"],[],#[.e (.bini #[.v 0,.s "a box can't hold this"]),.fld (.v 0) "box" (.v 1),.fld (.v 0) "number" (.v 2)]⟩
abbrev fj:aD:=⟨["self","word"],["self","word"],[],#[.e (.bini #[.v 0,.s "a deed can't be made of this"]),.fld (.v 0) "word" (.v 1)]⟩
abbrev cy:aD:=⟨["self","at"],["self","at"],[],#[.e (.bini #[.v 0,.s "no list of 1 to 24 deeds"]),.fld (.v 0) "at" (.v 1)]⟩
abbrev eP:aD:=⟨["self","at"],["self","at"],[],#[.e (.bini #[.v 0,.s "no place to stand at"]),.fld (.v 0) "at" (.v 1)]⟩
abbrev cw:aD:=⟨["self","at"],["self","at"],[],#[.e (.bini #[.v 0,.s "no part of the floor for this member"]),.fld (.v 0) "at" (.v 1)]⟩
abbrev ef:aD:=⟨["self","k"],["self","k"],[],#[.e (.bini #[.v 0,.s "no member of that number"]),.fld (.v 0) "k" (.v 1)]⟩
abbrev iD:aD:=⟨["thing"],["thing"],[],#[.r (.and (.isi (.v 0) (.ty "int")) (.not (.isi (.v 0) (.ty "bool"))))]⟩
abbrev gb:aD:=⟨["thing"],["thing"],[],#[.r (.and (.k 8 #[.v 0]) (.cmp2 .LtE .LtE (.i 0) (.v 0) (.gl "BOUND")))]⟩
abbrev gT:aD:=⟨["thing"],["thing"],[],#[.r (.and (.k 8 #[.v 0]) (.cmp2 .LtE .LtE (.neg (.gl "BOUND")) (.v 0) (.gl "BOUND")))]⟩
abbrev vW:aD:=⟨["box","thing"],["box","thing"],[],#[.f (.or (.q .Eq (.v 0) (.s "here")) (.q .Eq (.v 0) (.s "there"))) #[.r (.k 10 #[.v 1])] .n,.f (.q .Eq (.v 0) (.s "way")) #[.r (.and (.k 8 #[.v 1]) (.or (.q .Eq (.v 1) (.i 1)) (.q .Eq (.v 1) (.neg (.i 1)))))] .n,.f (.q .Eq (.v 0) (.s "met")) #[.r (.and (.k 8 #[.v 1]) (.or (.q .Eq (.v 1) (.i 0)) (.q .Eq (.v 1) (.i 1))))] .n,.r (.k 9 #[.v 1])]⟩
abbrev cN:aD:=⟨["self","here","there","left","way","sign","met"],["self","here","there","left","way","sign","met","handed","box","number"],[.int 0,.int 0,.int 0,.int 1,.int 0,.int 0],#[.a 7 (.tup #[.v 1,.v 2,.v 3,.v 4,.v 5,.v 6]),.for (.tp [8,9]) (.zip (.gl "NAMES") (.v 7)) #[.f (.not (.val (.k 11 #[.v 8,.v 9]))) #[.rais (.make 3 #[.v 8,.v 9])] .n],.fld (.v 0) "numbers" (.dzip (.gl "NAMES") (.v 7))]⟩
abbrev fM:aD:=⟨["self"],["self"],[],#[.r (.bf .tuple #[.lc (.ix (.fld (.v 1) "numbers") (.v 0)) [0] (.seq (.gl "NAMES"))])]⟩
abbrev dC:aD:=⟨["self"],["self","other"],[],#[.a 1 (.make 9 .n),.fld (.v 1) "numbers" (.bf .dict #[.fld (.v 0) "numbers"]),.r (.v 1)]⟩
abbrev fO:aD:=⟨["rows"],["rows","at","thing"],[],#[.f (.or (.not (.val (.isi (.v 0) (.ty "list")))) (.not (.cmp2 .LtE .LtE (.i 1) (.bf .len #[.v 0]) (.gl "MOST_ROWS")))) #[.rais (.make 5 #[.neg (.i 1)])] .n,.for (.tp [1,2]) (.enm (.v 0)) #[.f (.not (.val (.isi (.v 2) (.own 10)))) #[.rais (.make 5 #[.v 1])] .n]]⟩
abbrev eo:aD:=⟨["at","many"],["at","many"],[],#[.f (.or (.not (.val (.k 8 #[.v 0]))) (.not (.cmp2 .LtE .LtE (.i 0) (.v 0) (.v 1)))) #[.rais (.make 6 #[.v 0])] .n]⟩
abbrev cb:aD:=⟨["self","rows","store","boxes","at"],["self","rows","store","boxes","at"],[.int 0],#[.e (.k 15 #[.v 1]),.e (.k 16 #[.v 4,.bf .len #[.v 1]]),.fld (.v 0) "deeds" (.bf .list #[.v 1]),.fld (.v 0) "store" (.m (.v 2) "copied" .n),.fld (.v 0) "boxes" (.m (.v 3) "copied" .n),.fld (.v 0) "at" (.v 4)]⟩
abbrev c9:aD:=⟨["self"],["self"],[],#[.r (.tup #[.fld (.v 0) "at",.m (.fld (.v 0) "boxes") "told" .n,.m (.fld (.v 0) "store") "told" .n])]⟩
abbrev iM:aD:=⟨["self"],["self"],[],#[.r (.lc (.m (.v 0) "words" .n) [] (.seq (.fld (.v 0) "deeds")))]⟩
abbrev gu:aD:=⟨["self"],["self"],[],#[.r (.make 11 #[.fld (.v 0) "deeds",.fld (.v 0) "store",.fld (.v 0) "boxes",.fld (.v 0) "at"])]⟩
abbrev cH:aD:=⟨["cells"],["cells","at","thing"],[],#[.f (.or (.not (.val (.isi (.v 0) (.ty "list")))) (.not (.cmp2 .LtE .LtE (.i 1) (.bf .len #[.v 0]) (.gl "MOST_CELLS")))) #[.rais (.make 1 #[.neg (.i 1)])] .n,.for (.tp [1,2]) (.enm (.v 0)) #[.f (.not (.val (.k 9 #[.v 2]))) #[.rais (.make 1 #[.v 1])] .n]]⟩
abbrev gR:aD:=⟨["low","behind","size"],["low","behind","size"],[],#[.r (.and (.k 8 #[.v 0]) (.and (.k 8 #[.v 1]) (.cmp3 .LtE .LtE .LtE (.i 0) (.v 0) (.v 1) (.v 2))))]⟩
abbrev bM:aD:=⟨["self","cells"],["self","cells"],[],#[.e (.k 21 #[.v 1]),.fld (.v 0) "contents" (.bf .list #[.v 1]),.fld (.v 0) "permits" (.bin .Mult (.lst #[.s "open"]) (.bf .len #[.v 1]))]⟩
abbrev fZ:aD:=⟨["self"],["self"],[],#[.r (.bf .len #[.fld (.v 0) "contents"])]⟩
abbrev fv:aD:=⟨["self"],["self"],[],#[.r (.bf .list #[.fld (.v 0) "contents"])]⟩
abbrev mz:aD:=⟨["self","deed","cell"],["self","deed","cell"],[],#[.f (.not (.cmp2 .LtE .Lt (.i 0) (.v 2) (.m (.v 0) "size" .n))) #[.r (.bl false)] .n,.f (.q .Eq (.ix (.fld (.v 0) "permits") (.v 2)) (.s "look")) #[.r (.q .Eq (.v 1) (.s "look"))] .n,.r (.q .Eq (.ix (.fld (.v 0) "permits") (.v 2)) (.s "open"))]⟩
abbrev k9:aD:=⟨["self","cell"],["self","cell"],[],#[.f (.not (.val (.m (.v 0) "may" #[.s "look",.v 1]))) #[.rais (.make 2 #[.s "look",.v 1])] .n,.r (.ix (.fld (.v 0) "contents") (.v 1))]⟩
abbrev lU:aD:=⟨["self","cell","content"],["self","cell","content"],[],#[.f (.not (.val (.m (.v 0) "may" #[.s "put",.v 1]))) #[.rais (.make 2 #[.s "put",.v 1])] .n,.sub (.fld (.v 0) "contents") (.v 1) (.v 2)]⟩
abbrev dE:aD:=⟨["self"],["self","other"],[],#[.a 1 (.make 12 #[.lst #[.i 0]]),.fld (.v 1) "contents" (.bf .list #[.fld (.v 0) "contents"]),.fld (.v 1) "permits" (.bf .list #[.fld (.v 0) "permits"]),.r (.v 1)]⟩
abbrev mF:aD:=⟨["one","other"],["one","other","low","behind"],[],#[.a 2 (.bf .max #[.ix (.v 0) (.i 0),.ix (.v 1) (.i 0)]),.a 3 (.bf .min #[.ix (.v 0) (.i 1),.ix (.v 1) (.i 1)]),.f (.q .Lt (.v 2) (.v 3)) #[.r (.tup #[.v 2,.v 3])] .n,.r .non]⟩
abbrev qz:aD:=⟨["stretches"],["stretches","place","stretch","earlier"],[],#[.for (.tp [1,2]) (.enm (.v 0)) #[.for (.nm 3) (.seq (.sl (.v 0) .no (.yes (.v 1)))) #[.f (.q .IsNot (.k 30 #[.v 3,.v 2]) .non) #[.r (.bl false)] .n]],.r (.bl true)]⟩
abbrev du:aD:=⟨["thing"],["thing"],[],#[.r (.and (.isi (.v 0) (.ty "tuple")) (.q .Eq (.bf .len #[.v 0]) (.gl "THINGS_OF_A_MEMBER")))]⟩
abbrev eu:aD:=⟨["thing"],["thing"],[],#[.f (.or (.not (.val (.isi (.v 0) (.ty "list")))) (.not (.cmp2 .LtE .LtE (.i 1) (.bf .len #[.v 0]) (.gl "MOST_MEMBERS")))) #[.r (.bl false)] .n,.r (.bf .all #[.lc (.k 32 #[.v 0]) [] (.seq (.v 0))])]⟩
abbrev jV:aD:=⟨["part","size"],["part","size"],[],#[.r (.and (.k 22 #[.ix (.v 0) (.i 0),.ix (.v 0) (.i 1),.v 1]) (.q .Lt (.ix (.v 0) (.i 0)) (.ix (.v 0) (.i 1))))]⟩
abbrev iG:aD:=⟨["members","size"],["members","size","parts","at","member","part"],[],#[.f (.not (.val (.k 33 #[.v 0]))) #[.rais (.make 7 #[.neg (.i 1)])] .n,.a 2 (.lst .n),.for (.tp [3,4]) (.enm (.v 0)) #[.a 5 (.tup #[.ix (.v 4) (.i 0),.ix (.v 4) (.i 1)]),.f (.or (.not (.val (.k 34 #[.v 5,.v 1]))) (.not (.val (.k 31 #[.bin .Add (.v 2) (.lst #[.v 5])])))) #[.rais (.make 7 #[.v 3])] .n,.e (.lm .append (.v 2) #[.v 5])],.r (.v 2)]⟩
abbrev fm:aD:=⟨["cells","part","member"],["cells","part","member"],[],#[.r (.make 11 #[.ix (.v 2) (.i 2),.make 12 #[.sl (.v 0) (.yes (.ix (.v 1) (.i 0))) (.yes (.ix (.v 1) (.i 1)))],.ix (.v 2) (.i 3)])]⟩
abbrev bW:aD:=⟨["self","cells","members"],["self","cells","members"],[],#[.fld (.v 0) "ground" (.make 12 #[.v 1]),.fld (.v 0) "parts" (.k 35 #[.v 2,.m (.fld (.v 0) "ground") "size" .n]),.fld (.v 0) "machines" (.lct (.k 36 #[.v 2,.v 0,.v 1]) 2 [1] (.zip (.fld (.v 0) "parts") (.v 2)))]⟩
abbrev d8:aD:=⟨["self","k"],["self","k"],[],#[.f (.or (.not (.val (.k 8 #[.v 1]))) (.not (.cmp2 .LtE .Lt (.i 0) (.v 1) (.bf .len #[.fld (.v 0) "machines"])))) #[.rais (.make 8 #[.v 1])] .n]⟩
abbrev f7:aD:=⟨["self","k"],["self","k"],[],#[.e (.m (.v 0) "check_member" #[.v 1]),.r (.ix (.fld (.v 0) "machines") (.v 1))]⟩
abbrev kf:aD:=⟨["self","k"],["self","k"],[],#[.r (.m (.m (.v 0) "machine_of" #[.v 1]) "state" .n)]⟩
abbrev f6:aD:=⟨["self"],["self","cells","part","machine"],[],#[.a 1 (.m (.fld (.v 0) "ground") "told" .n),.for (.tp [2,3]) (.zip (.fld (.v 0) "parts") (.fld (.v 0) "machines")) #[.a 1 (.bin .Add (.bin .Add (.sl (.v 1) .no (.yes (.ix (.v 2) (.i 0)))) (.ix (.m (.v 3) "state" .n) (.i 2))) (.sl (.v 1) (.yes (.ix (.v 2) (.i 1))) .no))],.r (.v 1)]⟩
abbrev jQ:aD:=⟨["thing"],["thing"],[],#[.r (.and (.k 8 #[.v 0]) (.cmp2 .LtE .LtE (.i 0) (.v 0) (.gl "MOST_HOPPED")))]⟩
abbrev pR:aD:=⟨["thing"],["thing"],[],#[.r (.or (.q .Is (.v 0) .non) (.and (.k 8 #[.v 0]) (.or (.q .Eq (.v 0) (.i 0)) (.q .Eq (.v 0) (.i 1)))))]⟩
abbrev dI:aD:=⟨["self","many","on"],["self","many","on"],[.non],#[.f (.or (.not (.val (.k 42 #[.v 1]))) (.not (.val (.k 43 #[.v 2])))) #[.rais (.make 4 #[.s "hop"])] .n,.fld (.v 0) "many" (.v 1),.fld (.v 0) "on" (.v 2)]⟩
abbrev nq:aD:=⟨["self"],["self","told"],[],#[.a 1 (.lst #[.s "hop",.bf .str #[.fld (.v 0) "many"]]),.f (.q .IsNot (.fld (.v 0) "on") .non) #[.e (.lm .extend (.v 1) #[.lst #[.s "if",.bf .str #[.fld (.v 0) "on"]]])] .n,.r (.v 1)]⟩
abbrev eA:aD:=⟨["self","name"],["self","name"],[],#[.fld (.v 0) "called" (.v 1)]⟩
abbrev sQ:aD:=⟨["self"],["self"],[],#[.r (.tup #[.s "do",.fld (.v 0) "called"])]⟩
abbrev cT:aD:=⟨["self","many","block"],["self","many","block"],[],#[.fld (.v 0) "many" (.v 1),.fld (.v 0) "block" (.bf .list #[.v 2])]⟩
abbrev lD:aD:=⟨["self"],["self"],[],#[.r (.tup #[.s "times",.fld (.v 0) "many",.bf .list #[.fld (.v 0) "block"]])]⟩
abbrev c7:aD:=⟨["self","on","block","other"],["self","on","block","other"],[.non],#[.fld (.v 0) "on" (.v 1),.fld (.v 0) "block" (.bf .list #[.v 2]),.fld (.v 0) "other" (.f (.q .Is (.v 3) .non) (.lst .n) (.bf .list #[.v 3]))]⟩
abbrev mU:aD:=⟨["self"],["self"],[],#[.r (.tup #[.s "when",.fld (.v 0) "on",.bf .list #[.fld (.v 0) "block"],.bf .list #[.fld (.v 0) "other"]])]⟩
abbrev ky:aD:=⟨["self"],["self"],[],#[.r (.lst #[.s "copy"])]⟩
abbrev k7:aD:=⟨["self"],["self"],[],#[.r (.lst #[.s "turn"])]⟩
abbrev gK:aD:=⟨["_law_script"],["_law_script","_law_cells_here","_law_fold","_law_cell"],[],#[.a 1 (.bf .list #[.sl (.v 0) .no (.yes (.i 63))]),.a 2 (.bf .len #[.v 1]),.for (.nm 3) (.seq (.v 1)) #[.a 2 (.bin .Mod (.bin .Add (.bin .Add (.bin .Mult (.v 2) (.i 48271)) (.bin .Mod (.v 3) (.i 2147483647))) (.i 1)) (.i 2147483629))],.r (.lst #[.v 1,.v 2,.i 0,.i 0,.i 0])]⟩
abbrev gQ:aD:=⟨["_law_hand_here","_law_many"],["_law_hand_here","_law_many","_law_rest","_law_cell","_law_one","_law_two"],[],#[.augS (.v 0) (.i 4) .Add (.i 1),.a 2 (.ix (.v 0) (.i 3)),.a 3 (.ix (.v 0) (.i 1)),.f (.q .Gt (.v 2) (.i 0)) #[.sub (.v 0) (.i 3) (.bin .FloorDiv (.v 2) (.v 1)),.r (.bin .Mod (.v 2) (.v 1))] .n,.f (.q .Lt (.ix (.v 0) (.i 2)) (.bf .len #[.ix (.v 0) (.i 0)])) #[.a 3 (.ix (.ix (.v 0) (.i 0)) (.ix (.v 0) (.i 2))),.augS (.v 0) (.i 2) .Add (.i 1),.f (.q .GtE (.v 3) (.bin .Pow (.i 10) (.i 18))) #[.sub (.v 0) (.i 3) (.bin .FloorDiv (.v 3) (.v 1)),.r (.bin .Mod (.v 3) (.v 1))] .n] .n,.a 4 (.bin .Mod (.bin .Pow (.bin .Add (.bin .Mod (.v 3) (.i 998244353)) (.bin .Mult (.i 7919) (.ix (.v 0) (.i 4)))) (.i 5)) (.i 2147483647)),.a 5 (.bin .Mod (.bin .Pow (.bin .Add (.bin .Add (.v 4) (.bin .Mult (.i 104729) (.ix (.v 0) (.i 4)))) (.ix (.v 0) (.i 1))) (.i 3)) (.i 2147483629)),.r (.bin .Mod (.bin .FloorDiv (.v 5) (.i 7)) (.v 1))]⟩
abbrev dH:aD:=⟨["_law_hand_here"],["_law_hand_here","_law_way"],[],#[.a 1 (.k 55 #[.v 0,.i 4]),.f (.q .Eq (.v 1) (.i 0)) #[.r (.k 55 #[.v 0,.i 3])] .n,.f (.q .Eq (.v 1) (.i 1)) #[.r (.bin .Sub (.bin .Pow (.i 10) (.i 9)) (.k 55 #[.v 0,.i 2]))] .n,.f (.q .Eq (.v 1) (.i 2)) #[.r (.k 55 #[.v 0,.i 100])] .n,.r (.bin .Mod (.bin .Add (.bin .Mult (.k 55 #[.v 0,.i 100000]) (.i 10001)) (.k 55 #[.v 0,.i 10001])) (.bin .Add (.bin .Pow (.i 10) (.i 9)) (.i 1)))]⟩
abbrev fL:aD:=⟨["_law_hand_here","_law_most"],["_law_hand_here","_law_most","_law_way","_law_many"],[],#[.a 2 (.k 55 #[.v 0,.i 3]),.a 3 (.bin .Add (.i 1) (.k 55 #[.v 0,.v 1])),.f (.q .Eq (.v 2) (.i 0)) #[.r (.lc (.k 55 #[.v 1,.i 3]) [0] (.rng1 (.v 3)))] .n,.f (.q .Eq (.v 2) (.i 1)) #[.r (.lc (.bin .Add (.bin .Mult (.i 1000) (.v 0)) (.k 55 #[.v 1,.i 1000])) [0] (.rng1 (.v 3)))] .n,.r (.lc (.k 56 #[.v 1]) [0] (.rng1 (.v 3)))]⟩
abbrev fK:aD:=⟨["_law_thing"],["_law_thing"],[],#[.r (.and (.isi (.v 0) (.ty "int")) (.not (.isi (.v 0) (.ty "bool"))))]⟩
abbrev i9:aD:=⟨["_law_hand_here","_law_low","_law_high"],["_law_hand_here","_law_low","_law_high","_law_way"],[],#[.a 3 (.k 55 #[.v 0,.i 12]),.f (.q .Lt (.v 3) (.i 2)) #[.r (.bin .Sub (.bin .Sub (.v 1) (.i 1)) (.ix (.lst #[.i 0,.k 55 #[.v 0,.bin .Pow (.i 10) (.i 6)]]) (.v 3)))] .n,.f (.q .Lt (.v 3) (.i 4)) #[.r (.bin .Add (.bin .Add (.v 2) (.i 1)) (.ix (.lst #[.i 0,.k 55 #[.v 0,.bin .Pow (.i 10) (.i 6)]]) (.bin .Sub (.v 3) (.i 2))))] .n,.f (.q .Eq (.v 3) (.i 4)) #[.r (.bin .Add (.bin .Pow (.i 10) (.i 59)) (.k 55 #[.v 0,.bin .Pow (.i 10) (.i 6)]))] .n,.f (.q .Eq (.v 3) (.i 5)) #[.r (.bin .Sub (.neg (.bin .Pow (.i 10) (.i 59))) (.k 55 #[.v 0,.bin .Pow (.i 10) (.i 6)]))] .n,.r (.ix (.lst #[.non,.bl true,.bl false,.s "1",.lst #[.i 1],.tup #[.i 0],.dnew,.s "here",.s ""]) (.k 55 #[.v 0,.i 9]))]⟩
abbrev fD:aD:=⟨["_law_hand_here","_law_size"],["_law_hand_here","_law_size","_law_parts_here","_law_low","_law_k","_law_behind"],[],#[.a 2 (.lst .n),.a 3 (.ix (.lst #[.i 0,.k 55 #[.v 0,.v 1]]) (.k 55 #[.v 0,.i 2])),.for (.nm 4) (.rng1 (.bin .Add (.i 1) (.k 55 #[.v 0,.i 4]))) #[.f (.q .Lt (.v 3) (.v 1)) #[.a 5 (.bin .Add (.bin .Add (.v 3) (.i 1)) (.k 55 #[.v 0,.ix (.lst #[.bin .Sub (.v 1) (.v 3),.bf .min #[.i 9,.bin .Sub (.v 1) (.v 3)]]) (.k 55 #[.v 0,.i 2])])),.e (.lm .insert (.v 2) #[.k 55 #[.v 0,.bin .Add (.bf .len #[.v 2]) (.i 1)],.tup #[.v 3,.v 5]]),.a 3 (.bin .Add (.v 5) (.ix (.lst #[.i 0,.i 0,.i 1,.i 3]) (.k 55 #[.v 0,.i 4])))] .n],.r (.v 2)]⟩
abbrev cC:aD:=⟨["_law_cells_here","_law_members"],["_law_cells_here","_law_members","_law_crew","e","_law_some","_law_others"],[],#[.tryx #[.a 2 (.make 13 #[.v 0,.v 1])] (.c 0 3 #[.a 4 (.lst #[.isi (.v 3) (.own 1),.isi (.v 3) (.own 7),.isi (.v 3) (.own 5)]),.a 5 (.isiT (.v 3) [3,8,6,2]),.f (.or (.q .NotEq (.lm .count (.v 4) #[.bl true]) (.i 1)) (.or (.val (.v 5)) (.not (.val (.isi (.v 3) (.ty "ValueError")))))) #[.r (.tup #[.s "another",.i 0])] .n,.r (.tup #[.ix (.lst #[.s "store",.s "part",.s "rows"]) (.lix (.v 4) (.bl true)),.fld (.v 3) "at"])] .n),.r (.tup #[.s "made",.bf .len #[.m (.v 2) "floor" .n]])]⟩
abbrev dm:aD:=⟨["_law_size","_law_members"],["_law_size","_law_members","_law_k","_law_low","_law_behind","_law_other"],[],#[.for (.nm 2) (.rng1 (.bf .len #[.v 1])) #[.par [3,4] #[.ix (.ix (.v 1) (.v 2)) (.i 0),.ix (.ix (.v 1) (.v 2)) (.i 1)],.f (.or (.not (.val (.k 58 #[.v 3]))) (.or (.not (.val (.k 58 #[.v 4]))) (.not (.cmp3 .LtE .Lt .LtE (.i 0) (.v 3) (.v 4) (.v 0))))) #[.r (.v 2)] .n,.for (.nm 5) (.seq (.sl (.v 1) .no (.yes (.v 2)))) #[.f (.and (.q .Lt (.v 3) (.ix (.v 5) (.i 1))) (.q .Lt (.ix (.v 5) (.i 0)) (.v 4))) #[.r (.v 2)] .n]],.r .non]⟩
abbrev cB:aD:=⟨["_law_rows"],["_law_rows","_law_at"],[],#[.f (.or (.not (.val (.isi (.v 0) (.ty "list")))) (.not (.cmp2 .LtE .LtE (.i 1) (.bf .len #[.v 0]) (.i 24)))) #[.r (.neg (.i 1))] .n,.for (.nm 1) (.rng1 (.bf .len #[.v 0])) #[.f (.not (.val (.isiT (.ix (.v 0) (.v 1)) [18,19,14]))) #[.r (.v 1)] .n],.r .non]⟩
abbrev eY:aD:=⟨["_law_cells_here","_law_members"],["_law_cells_here","_law_members","_law_at","_law_k","_law_member"],[],#[.f (.or (.not (.val (.isi (.v 0) (.ty "list")))) (.not (.cmp2 .LtE .LtE (.i 1) (.bf .len #[.v 0]) (.i 60)))) #[.r (.tup #[.s "store",.neg (.i 1)])] .n,.for (.nm 2) (.rng1 (.bf .len #[.v 0])) #[.f (.or (.not (.val (.k 58 #[.ix (.v 0) (.v 2)]))) (.not (.cmp2 .LtE .LtE (.i 0) (.ix (.v 0) (.v 2)) (.bin .Pow (.i 10) (.i 9))))) #[.r (.tup #[.s "store",.v 2])] .n],.f (.or (.not (.val (.isi (.v 1) (.ty "list")))) (.not (.cmp2 .LtE .LtE (.i 1) (.bf .len #[.v 1]) (.i 4)))) #[.r (.tup #[.s "part",.neg (.i 1)])] .n,.f (.q .In (.bl false) (.lc (.and (.isi (.v 0) (.ty "tuple")) (.q .Eq (.bf .len #[.v 0]) (.i 4))) [] (.seq (.v 1)))) #[.r (.tup #[.s "part",.neg (.i 1)])] .n,.a 3 (.k 62 #[.bf .len #[.v 0],.v 1]),.f (.q .IsNot (.v 3) .non) #[.r (.tup #[.s "part",.v 3])] .n,.for (.nm 4) (.seq (.v 1)) #[.a 2 (.k 63 #[.ix (.v 4) (.i 2)]),.f (.q .IsNot (.v 2) .non) #[.r (.tup #[.s "rows",.v 2])] .n],.r (.tup #[.s "made",.bf .len #[.v 0]])]⟩
abbrev cM:aD:=⟨["_law_hand_here","_law_cells_here"],["_law_hand_here","_law_cells_here","_law_way","_law_found","_law_turn"],[],#[.a 2 (.k 55 #[.v 0,.i 4]),.f (.q .Eq (.v 2) (.i 0)) #[.r (.ix (.lst #[.non,.lst .n,.bf .tuple #[.v 1],.sl (.bin .Mult (.v 1) (.i 61)) .no (.yes (.i 61)),.dnew,.i 5,.sl (.bin .Mult (.v 1) (.i 300)) .no (.yes (.i 300))]) (.k 55 #[.v 0,.i 7]))] .n,.a 3 (.bf .list #[.v 1]),.for (.nm 4) (.rng1 (.bin .Add (.i 1) (.k 55 #[.v 0,.i 2]))) #[.sub (.v 3) (.k 55 #[.v 0,.bf .len #[.v 3]]) (.k 59 #[.v 0,.i 0,.bin .Pow (.i 10) (.i 9)])],.r (.v 3)]⟩
abbrev ba:aD:=⟨["_law_hand_here","_law_members"],["_law_hand_here","_law_members","_law_way","_law_many","_law_found","_law_k","_law_one"],[],#[.a 2 (.k 55 #[.v 0,.i 6]),.f (.q .Lt (.v 2) (.i 2)) #[.a 3 (.ix (.lst #[.i 5,.i 300]) (.k 55 #[.v 0,.i 2])),.r (.ix (.lst #[.non,.lst .n,.bf .tuple #[.v 1],.dnew,.sl (.bin .Mult (.v 1) (.v 3)) .no (.yes (.v 3)),.s "x"]) (.k 55 #[.v 0,.i 6]))] .n,.a 4 (.bf .list #[.v 1]),.a 5 (.k 55 #[.v 0,.bf .len #[.v 4]]),.a 6 (.ix (.v 4) (.v 5)),.sub (.v 4) (.v 5) (.ix (.lst #[.bf .list #[.v 6],.sl (.v 6) .no (.yes (.i 3)),.bin .Add (.v 6) (.tup #[.i 1]),.non,.i 7,.s "abcd"]) (.k 55 #[.v 0,.i 6])),.r (.v 4)]⟩
abbrev a9:aD:=⟨["_law_hand_here","_law_size","_law_members"],["_law_hand_here","_law_size","_law_members","_law_found","_law_k","_law_low","_law_behind","_law_rows","_law_boxes","_law_other","_law_way","_law_odd_here","_law_at","_law_some","_law_pair"],[],#[.a 3 (.bf .list #[.v 2]),.a 4 (.k 55 #[.v 0,.bf .len #[.v 3]]),.asgT [5,6,7,8] (.ix (.v 3) (.v 4)),.a 9 (.ix (.v 3) (.k 55 #[.v 0,.bf .len #[.v 3]])),.a 10 (.k 55 #[.v 0,.i 8]),.a 11 (.k 59 #[.v 0,.i 0,.v 1]),.a 12 (.k 55 #[.v 0,.v 1]),.a 13 (.tup #[.v 12,.bin .Add (.bin .Add (.v 12) (.i 1)) (.k 55 #[.v 0,.bin .Sub (.v 1) (.v 12)])]),.a 14 (.lst #[.tup #[.v 5,.v 5],.tup #[.v 6,.v 5],.tup #[.v 5,.bin .Add (.v 1) (.i 1)],.tup #[.neg (.i 1),.v 6],.tup #[.v 11,.v 6],.tup #[.v 5,.v 11],.sl (.v 9) .no (.yes (.i 2)),.v 13]),.sub (.v 3) (.v 4) (.bin .Add (.ix (.v 14) (.v 10)) (.tup #[.v 7,.v 8])),.r (.v 3)]⟩
abbrev a8:aD:=⟨["_law_hand_here","_law_members"],["_law_hand_here","_law_members","_law_found","_law_k","_law_low","_law_behind","_law_rows","_law_boxes","_law_odd_here","_law_some"],[],#[.a 2 (.bf .list #[.v 1]),.a 3 (.k 55 #[.v 0,.bf .len #[.v 2]]),.asgT [4,5,6,7] (.ix (.v 2) (.v 3)),.f (.or (.not (.val (.isi (.v 6) (.ty "list")))) (.q .Eq (.v 6) (.lst .n))) #[.r (.v 2)] .n,.a 8 (.lst #[.non,.s "copy",.make 15 #[.s "a"],.lst #[.mk0 18],.v 7,.tup #[.s "turn"],.make 16 #[.i 1,.lst #[.mk0 18]],.make 17 #[.i 0,.lst #[.mk0 18]]]),.a 9 (.bf .list #[.v 6]),.sub (.v 9) (.k 55 #[.v 0,.bf .len #[.v 9]]) (.ix (.v 8) (.k 55 #[.v 0,.i 8])),.a 9 (.ix (.lst #[.v 9,.v 9,.bf .tuple #[.v 6],.lst .n,.sl (.bin .Mult (.v 6) (.i 25)) .no (.yes (.i 25)),.non,.sl (.bin .Mult (.v 6) (.i 300)) .no (.yes (.i 300))]) (.k 55 #[.v 0,.i 7])),.sub (.v 2) (.v 3) (.tup #[.v 4,.v 5,.v 9,.v 7]),.r (.v 2)]⟩
abbrev a6:aD:=⟨["_law_thing"],["_law_thing"],[],#[.f (.val (.isi (.v 0) (.ty "list"))) #[.r (.lc (.k 69 #[.v 0]) [] (.seq (.v 0)))] .n,.f (.val (.isi (.v 0) (.ty "tuple"))) #[.r (.bf .tuple #[.lc (.k 69 #[.v 0]) [] (.seq (.v 0))])] .n,.r (.v 0)]⟩
abbrev dw:aD:=⟨["_law_script"],["_law_script","_law_hand_here","_law_cells_here","_law_members","_law_low","_law_behind","_law_rows","_law_turn","_law_floor","_law_some","_law_faults","_law_again","_law_kept"],[],#[.a 1 (.k 54 #[.v 0]),.a 2 (.k 57 #[.v 1,.i 60]),.a 3 (.lst .n),.for (.tp [4,5]) (.seq (.k 60 #[.v 1,.bf .len #[.v 2]])) #[.a 6 (.lc (.ix (.lst #[.mk0 18,.mk0 19,.make 14 #[.i 1]]) (.k 55 #[.v 1,.i 3])) [1] (.rng1 (.bin .Add (.i 1) (.k 55 #[.v 1,.i 24])))),.e (.lm .append (.v 3) #[.tup #[.v 4,.v 5,.v 6,.make 9 #[.i 0,.i 1,.k 55 #[.v 1,.i 9]]]])],.for (.nm 7) (.rng1 (.i 6)) #[.a 8 (.bf .list #[.v 2]),.a 9 (.bf .list #[.v 3]),.a 10 (.ix (.lst #[.i 1,.i 2,.i 4,.i 8,.i 3,.i 6,.i 12,.i 10,.i 5,.i 9,.i 15,.i 0]) (.k 55 #[.v 1,.i 12])),.for (.nm 11) (.rng1 (.bin .Mult (.bin .Mod (.bin .FloorDiv (.v 10) (.i 8)) (.i 2)) (.bin .Add (.i 1) (.k 55 #[.v 1,.i 2])))) #[.a 9 (.k 68 #[.v 1,.v 9])],.for (.nm 11) (.rng1 (.bin .Mult (.bin .Mod (.bin .FloorDiv (.v 10) (.i 4)) (.i 2)) (.bin .Add (.i 1) (.k 55 #[.v 1,.i 2])))) #[.a 9 (.k 67 #[.v 1,.bf .len #[.v 2],.v 9])],.f (.q .Eq (.bin .Mod (.bin .FloorDiv (.v 10) (.i 2)) (.i 2)) (.i 1)) #[.a 9 (.k 66 #[.v 1,.v 9])] .n,.f (.q .Eq (.bin .Mod (.v 10) (.i 2)) (.i 1)) #[.a 8 (.k 65 #[.v 1,.v 8])] .n,.a 12 (.k 69 #[.tup #[.v 8,.v 9]]),.f (.or (.q .NotEq (.k 61 #[.v 8,.v 9]) (.k 64 #[.v 8,.v 9])) (.q .NotEq (.tup #[.v 8,.v 9]) (.v 12))) #[.r (.bl false)] .n],.r (.q .Eq (.k 61 #[.v 2,.v 3]) (.tup #[.s "made",.bf .len #[.v 2]]))]⟩
abbrev tab:Tab where
  fns:=(b6::g7::gw::fj::cy::eP::cw::ef::iD::gb::gT::vW::cN::fM::dC::fO::eo::cb::c9::iM::gu::cH::gR::bM::fZ::fv::mz::k9::lU::dE::mF::qz::du::eu::jV::iG::fm::bW::d8::f7::kf::f6::jQ::pR::dI::nq::eA::sQ::cT::lD::c7::mU::ky::k7::gK::gQ::dH::fL::fK::i9::fD::cC::dm::cB::eY::cM::ba::a9::a8::a6::dw::[])
  gfn:=(("is_whole",8)::("is_content",9)::("is_number",10)::("fits",11)::("check_rows",15)::("check_place",16)::("check_cells",21)::("is_within",22)::("shared",30)::("apart",31)::("is_member",32)::("are_members",33)::("is_part",34)::("parts_of",35)::("machine_on",36)::("is_many",42)::("is_on",43)::("_law_hand",54)::("_law_draw",55)::("_law_content",56)::("_law_cells",57)::("_law_whole",58)::("_law_odd",59)::("_law_parts",60)::("_law_told",61)::("_law_no_part",62)::("_law_rows_wrong",63)::("_law_due",64)::("_law_bad_cells",65)::("_law_bad_members",66)::("_law_bad_part",67)::("_law_bad_rows",68)::("_law_copied",69)::("law",70)::[])
  gcl:=[("HaulError",0),("NoStore",1),("Stop",2),("NoFit",3),("NoDeed",4),("NoRows",5),("NoPlace",6),("NoPart",7),("NoMember",8),("Boxes",9),("Deed",10),("Machine",11),("Store",12),("Crew",13),("Hop",14),("Do",15),("Times",16),("When",17),("Copy",18),("Turn",19)]
  gbl:=["ValueError","all","bool","dict","enumerate","int","isinstance","len","list","max","min","range","str","tuple","zip"]
  gbi:=["HaulError"]
  na:=[(1,"at"),(2,"cell"),(2,"deed"),(3,"box"),(3,"number"),(4,"word"),(5,"at"),(6,"at"),(7,"at"),(8,"k"),(9,"numbers"),(11,"at"),(11,"boxes"),(11,"deeds"),(11,"store"),(12,"contents"),(12,"permits"),(13,"ground"),(13,"machines"),(13,"parts"),(14,"many"),(14,"on"),(15,"called"),(16,"block"),(16,"many"),(17,"block"),(17,"on"),(17,"other")]
  me:=[((9,"copied"),14),((9,"told"),13),((11,"copied"),20),((11,"rows"),19),((11,"state"),18),((12,"copied"),29),((12,"look"),27),((12,"may"),26),((12,"put"),28),((12,"size"),24),((12,"told"),25),((13,"check_member"),38),((13,"floor"),41),((13,"machine_of"),39),((13,"state"),40),((14,"words"),45),((15,"told"),47),((16,"told"),49),((17,"told"),51),((18,"words"),52),((19,"words"),53)]
  ini:=[(1,0),(2,1),(3,2),(4,3),(5,4),(6,5),(7,6),(8,7),(9,12),(11,17),(12,23),(13,37),(14,44),(15,46),(16,48),(17,50)]
  ini0:=[]
  inip:=[18,19]
  oc:=[9,10,11,12,13,14,15,16,17,18,19]
  xc:=[0,1,2,3,4,5,6,7,8]
  sub:=(((0,0),true)::((0,3),false)::((0,8),false)::((0,7),false)::((0,6),false)::((0,5),false)::((0,1),false)::((0,2),false)::((1,0),true)::((1,3),false)::((1,8),false)::((1,7),false)::((1,6),false)::((1,5),false)::((1,1),true)::((1,2),false)::((2,0),true)::((2,3),false)::((2,8),false)::((2,7),false)::((2,6),false)::((2,5),false)::((2,1),false)::((2,2),true)::((3,0),true)::((3,3),true)::((3,8),false)::((3,7),false)::((3,6),false)::((3,5),false)::((3,1),false)::((3,2),false)::((4,0),true)::((4,3),false)::((4,8),false)::((4,7),false)::((4,6),false)::((4,5),false)::((4,1),false)::((4,2),false)::((5,0),true)::((5,3),false)::((5,8),false)::((5,7),false)::((5,6),false)::((5,5),true)::((5,1),false)::((5,2),false)::((6,0),true)::((6,3),false)::((6,8),false)::((6,7),false)::((6,6),true)::((6,5),false)::((6,1),false)::((6,2),false)::((7,0),true)::((7,3),false)::((7,8),false)::((7,7),true)::((7,6),false)::((7,5),false)::((7,1),false)::((7,2),false)::((8,0),true)::((8,3),false)::((8,8),true)::((8,7),false)::((8,6),false)::((8,5),false)::((8,1),false)::((8,2),false)::((9,18),false)::((9,10),false)::((9,14),false)::((9,19),false)::((10,18),false)::((10,10),true)::((10,14),false)::((10,19),false)::((11,18),false)::((11,10),false)::((11,14),false)::((11,19),false)::((12,18),false)::((12,10),false)::((12,14),false)::((12,19),false)::((13,18),false)::((13,10),false)::((13,14),false)::((13,19),false)::((14,18),false)::((14,10),true)::((14,14),true)::((14,19),false)::((15,18),false)::((15,10),false)::((15,14),false)::((15,19),false)::((16,18),false)::((16,10),false)::((16,14),false)::((16,19),false)::((17,18),false)::((17,10),false)::((17,14),false)::((17,19),false)::((18,18),true)::((18,10),true)::((18,14),false)::((18,19),false)::((19,18),false)::((19,10),true)::((19,14),false)::((19,19),true)::[])
  subT:=[((0,"ValueError"),true),((1,"ValueError"),true),((2,"ValueError"),true),((3,"ValueError"),true),((4,"ValueError"),true),((5,"ValueError"),true),((6,"ValueError"),true),((7,"ValueError"),true),((8,"ValueError"),true),((18,"list"),false),((18,"tuple"),false),((19,"list"),false),((19,"tuple"),false),((14,"list"),false),((14,"tuple"),false),((9,"list"),false),((9,"tuple"),false),((15,"list"),false),((15,"tuple"),false),((16,"list"),false),((16,"tuple"),false),((17,"list"),false),((17,"tuple"),false)]
  subB:=[(("NoneType","bool"),false),(("NoneType","int"),false),(("NoneType","list"),false),(("NoneType","tuple"),false),(("bool","bool"),true),(("bool","int"),true),(("bool","list"),false),(("bool","tuple"),false),(("int","bool"),false),(("int","int"),true),(("int","list"),false),(("int","tuple"),false),(("str","bool"),false),(("str","int"),false),(("str","list"),false),(("str","tuple"),false),(("list","bool"),false),(("list","int"),false),(("list","list"),true),(("list","tuple"),false),(("tuple","bool"),false),(("tuple","int"),false),(("tuple","list"),false),(("tuple","tuple"),true),(("dict","bool"),false),(("dict","int"),false),(("dict","list"),false),(("dict","tuple"),false)]
  subO:=[(("NoneType",10),false),(("bool",10),false),(("int",10),false),(("str",10),false),(("list",10),false),(("tuple",10),false),(("dict",10),false),(("NoneType",18),false),(("bool",18),false),(("int",18),false),(("str",18),false),(("list",18),false),(("tuple",18),false),(("dict",18),false),(("NoneType",19),false),(("bool",19),false),(("int",19),false),(("str",19),false),(("list",19),false),(("tuple",19),false),(("dict",19),false),(("NoneType",14),false),(("bool",14),false),(("int",14),false),(("str",14),false),(("list",14),false),(("tuple",14),false),(("dict",14),false)]
/-- what the proofs ask of the addresses -/
structure Ro (K:W.Frag) (R:Rt):Prop where
  hK:R.K=K
  g_BOUND:R.gl "BOUND"=some (.int 1000000000)
  g_MOST_ROWS:R.gl "MOST_ROWS"=some (.int 24)
  g_MOST_CELLS:R.gl "MOST_CELLS"=some (.int 60)
  g_MOST_MEMBERS:R.gl "MOST_MEMBERS"=some (.int 4)
  g_THINGS_OF_A_MEMBER:R.gl "THINGS_OF_A_MEMBER"=some (.int 4)
  g_MOST_HOPPED:R.gl "MOST_HOPPED"=some (.int 24)
  g_NAMES:∃ a,R.gl "NAMES"=some (.ref a)/\∀ H,aY K H a [.str "here",.str "there",.str "left",.str "way",.str "sign",.str "met"]
end My
set_option Elab.async false
set_option maxHeartbeats 8000000
namespace My
open PySem L2 L3
open L2.V renaming ref→ut,int→v4,str→v6,non→wf
open L2.HO renaming lst→wl,tup→wn,ins→wp
local macro_rules|`(tactic|delta $x:ident)=>`(tactic|refine wc (d:=$x) nofun rfl rfl ?_)
variable {h a C p dx b:Addr}{m at_:Int}{ns cs:List Int}{n j c j1:Nat}{v lo hi:V}{t:String}{xs vs ys:List V}{fs:List (Str×V)}{α:Type}{G:Gx}{ws:List Str}{P:V->Prop}{F:List ah}{rw:Option (List Bool)}{d:Md}{fl:Option (List V)}{r ds:List Md}{bs:List Bool}{w:Str}{D:Ends}{o:Option Int}
section
variable {K:W.Frag}{R:Rt}{k:Nat}{H:Hp}{Q:VK}{E:XK}{O Γ' Δ:List ah}
local macro_rules| `(tactic|walk_at "w")=>`(tactic|conv=>whnf)
local macro_rules| `(tactic|left)=>`(tactic|walk_at "w")
local macro_rules| `(tactic|symm)=>`(tactic|((with_reducible (repeat(first|exact aj.e|apply aj.t)));done))
local macro_rules| `(tactic|ac_rfl)=>`(tactic|((with_reducible (repeat(first|exact e9.e|apply e9.t)));done))
local macro_rules| `(tactic|ac_nf)=>`(tactic|first|(with_reducible exact Sub.refl)|(refine' Sub.cons ?h ?r;(case h=>symm);(case r=>ac_nf))|(with_reducible exact Sub.nil)|(with_reducible apply Sub.drop;(ac_nf)))
local macro_rules| `(tactic|walk_at "sp")=>`(tactic|(refine Sep.sub ?_ (by with_reducible assumption);(ac_nf)))
local macro_rules| `(tactic|grind)=>`(tactic|first|exact Sep.get (by with_reducible assumption) (by symm)|exact Sep.mZ (by with_reducible assumption) (by symm))
local macro_rules| `(tactic|walk_at "ar")=>`(tactic|first|lia|omega|decide|exact nb rfl|(unfold rJ;omega)|(unfold yU;omega)|(unfold yU;decide)|(unfold rJ;decide)|(simp only[ce,length_set,length_replicate];omega))
local macro_rules| `(tactic|walk_at "ls")=>`(tactic|first|(conv=>lhs;simp only[List.set_cons_succ,List.set_cons_zero,Int.reduceToNat])|rfl)
local macro_rules| `(tactic|walk_at "pf")=>`(tactic|first|(conv=>lhs;simp (decide:=true) only [cF,if_true,if_false])|rfl)
local macro_rules| `(tactic|walk_at "st")=>`(tactic|first
  |(with_reducible refine And.intro rfl ?_)
  |(with_reducible refine cn rfl ?_)
  |(with_reducible refine aR rfl ?_)
  |(with_reducible refine CC ?_)
  |((with_reducible refine' bH ?e ?v ?_);(case e=>grind);(case v=>exact rfl))
  |((with_reducible refine' b9 ?e ?v ?_);(case e=>grind);(case v=>exact rfl))
  |((with_reducible refine' Dr ?e ?i ?v ?_);(case e=>grind);(case i=>omega);(case v=>exact rfl))
  |(with_reducible refine B9 rfl ?_)
  |(with_reducible refine CG rfl ?_)
  |((with_reducible refine' aO ?e ?_);(case e=>grind))
  |((with_reducible refine' lA ?e ?_);(case e=>grind))
  |((with_reducible refine' dB ?s ?r ?j ?x (λH hs=>?_));(case s=>with_reducible assumption);(case r=>ac_rfl);(case j=>exact rfl);(case x=>walk_at "ls"))
  |((with_reducible refine' uG ?s ?l (λp H hs=>?_));(case s=>with_reducible assumption);(case l=>exact nb rfl))
  |((with_reducible refine' gI ?s ?l (λp H hs=>?_));(case s=>with_reducible assumption);(case l=>exact nb rfl))
  |((with_reducible refine' CK ?s (λp H hs=>?_));(case s=>with_reducible assumption))
  |((with_reducible refine' sA ?e ?_);(case e=>grind))
  |((with_reducible refine' x6 ?e ?_);(case e=>grind))
  |((with_reducible refine' qg ?s ?e ?f ?l (λp H hs=>?_));(case s=>with_reducible assumption);(case e=>grind);(case f=>grind);(case l=>walk_at "ar"))
  |((with_reducible refine' jI ?s ?e ?f ?g ?l (λp H hs=>?_));(case s=>with_reducible assumption);(case e=>grind);(case f=>walk_at "ar");(case g=>walk_at "ar");(case l=>walk_at "ar"))
  |((with_reducible refine' Fv ?s ?r ?o ?n ?l ?x (λH hs=>?_));(case s=>with_reducible assumption);(case r=>ac_rfl);(case o=>exact rfl);(case n=>exact rfl);(case l=>walk_at "ar");(case x=>walk_at "pf"))
  |((with_reducible refine' DI ?e ?o ?n ?l ?_);(case e=>grind);(case o=>exact rfl);(case n=>exact rfl);(case l=>exact rfl))
  |((with_reducible refine' EI ?e ?o ?n ?l ?_);(case e=>grind);(case o=>exact rfl);(case n=>exact rfl);(case l=>exact rfl))
  |((with_reducible refine' DT ?e ?o ?b ?_);(case e=>grind);(case o=>exact rfl);(case b=>exact rfl))
  |((with_reducible refine' A4 ?e ?o ?b ?_);(case e=>grind);(case o=>exact rfl);(case b=>exact rfl))
  |((with_reducible refine' aJ ?t ?b ?_);(case t=>exact rfl);(case b=>exact rfl))
  |((with_reducible refine' ik ?a ?b ?_);(case a=>exact rfl);(case b=>exact rfl))
  |((with_reducible refine' yl ?a ?b ?_);(case a=>exact rfl);(case b=>exact rfl))
  |((with_reducible refine' bq ?s ?e (λp H hs=>?_));(case s=>with_reducible assumption);(case e=>grind))
  |((with_reducible refine' xZ ?s ?e (λp H hs=>?_));(case s=>with_reducible assumption);(case e=>grind))
  |(refine And.intro (by walk_at "ar") ?_))
local macro_rules| `(tactic|walk_at "go")=>`(tactic|(walk_at "w";repeat(walk_at "st";walk_at "w")))
local macro_rules| `(tactic|right)=>`(tactic|walk_at "go")
abbrev hand (h:Addr)(m:Int):ah:=ex λx:Addr×List Int×Int×Int×Int×Int=>jN (pt h (wl [ut x.1,v4 x.2.2.1,v4 x.2.2.2.1,v4 x.2.2.2.2.1,v4 x.2.2.2.2.2])) (jN (pt x.1 (wl (x.2.1.map v4)))
 (pu (x.2.1.length<=63/\0<=x.2.2.1/\x.2.2.1<2147483629/\0<=x.2.2.2.1/\0<=x.2.2.2.2.1/\0<=x.2.2.2.2.2/\x.2.2.2.2.2<=m)))
def wL (s:Sep (hand h m::O) H):∃ (c:Addr) (ns:List Int) (fo i r n:Int),Sep (pt h (wl [ut c,v4 fo,v4 i,v4 r,v4 n])::pt c (wl (ns.map v4))::O) H/\ns.length<=63/\0<=fo/\fo<2147483629/\0<=i/\0<=r/\0<=n/\n<=m:=by
 obtain⟨⟨c,ns,fo,i,r,n⟩,s⟩:=Sep.C2.mp s;have s2:=Sep.star.mp ((Sep.star.mp s).pull .k1);have p:=(s2.pull .k1).pure;exact⟨c,ns,fo,i,r,n,((s2.pull .k1).drop).pull .k1,p⟩
def gj {c:Addr}{fo i r n:Int}(s:Sep (pt h (wl [ut c,v4 fo,v4 i,v4 r,v4 n])::pt c (wl (ns.map v4))::O) H)(p:ns.length<=63/\0<=fo/\fo<2147483629/\0<=i/\0<=r/\0<=n/\n<=m):Sep (hand h m::O) H:=by
 refine Sep.C2.mpr ⟨⟨c,ns,fo,i,r,n⟩,Sep.star.mpr ?_⟩;exact(Sep.star.mpr (((s.pull .k1).pull .e |> λs=>(Sep.uU p s).pull .k1))).pull .k1
def EE:(10:Int) ^ Int.toNat 18=1000000000000000000:=by decide
def kN {n:Int}(hk:1<=k)(s:Sep (hand h m::O) H)(hm:m<=1099511627776)(hn0:0<n)(hn1:n<1073741824)
  (q:∀ (r:Int) (H':Hp),0<=r->r<n->Sep (hand h (m+1)::O) H'->Q (v4 r) H'):aa tab R k 55 [ut h,v4 n] H Q E:=by
 obtain⟨c,ns,fo,i,r,j,hs,h63,f0,f1,i0,r0,k0,k1⟩:=wL s;clear s;have nn:n≠0:=by omega
 delta gQ;right;refine aB (λhr=>?_) (λhr=>?_)
 .right;rename_i H1 hs1 H2 hs2;exact q _ _ (Int.emod_nonneg _ nn) (Int.emod_lt_of_pos _ hn0) (gj hs2 ⟨h63,f0,f1,i0,Int.ediv_nonneg r0 nofun,by omega,by omega⟩)
 right;refine aB (λhc=>?_) (λhc=>?_)
 .right;obtain⟨z,hz⟩:∃ z,jw (ns.map v4) i=some (v4 z):=vn i0 (by rw[ce]at hc;exact hc);refine bH (by grind) hz ?_;right;refine aB (λhz18=>?_) (λhz18=>?_)
  .rw[EE]at hz18;right;rename_i H1 hs1 H2 hs2 H3 hs3;exact q _ _ (Int.emod_nonneg _ nn) (Int.emod_lt_of_pos _ hn0) (gj hs3 ⟨h63,f0,f1,by omega,Int.ediv_nonneg nofun nofun,by omega,by omega⟩)
  .right;rename_i H1 hs1 H2 hs2;exact q _ _ (Int.emod_nonneg _ nn) (Int.emod_lt_of_pos _ hn0) (gj hs2 ⟨h63,f0,f1,by omega,r0,by omega,by omega⟩)
 .right;rename_i H1 hs1;exact q _ _ (Int.emod_nonneg _ nn) (Int.emod_lt_of_pos _ hn0) (gj hs1 ⟨h63,f0,f1,by omega,r0,by omega,by omega⟩)
def BH (hk:1<=k)(s:Sep O H)(hS:aL R.K H a (ns.map v4))(h63:ns.length<=63)(q:∀ h H',Sep (hand h 0::O) H'->Q (ut h) H'):aa tab R k 54 [ut a] H Q E:=by
 delta gK;right;refine Gi s hS (λp H1 hs1=>?_);rw[EF ns h63]at hs1;right;rename_i c H2 hs2;refine fE (xs:=ns.map v4) (λj U H=>∃ (fo:Int) (v:Option V),U=[some (ut a),some (ut c),some (v4 fo),v]/\0<=fo/\fo<2147483629/\Sep (pt c (wl (ns.map v4))::pt p (wl (ns.map v4))::O) H) ?_ ?_ ?_ ?_
 .exact⟨_,none,rfl,by rw[ce];omega,by rw[ce];omega,hs2⟩
 .rintro j U H ⟨fo,v,rfl,h0,h2,hs⟩;exact aL.of hs.at
 .rintro j x U H hx ⟨fo,v,rfl,h0,h2,hs⟩;obtain⟨z,rfl⟩:=nO hx;right;exact⟨_,_,rfl,by omega,by omega,hs⟩
 .rintro U H ⟨fo,v,rfl,h0,h2,hs⟩;right;rename_i l H3 hs3;exact q l _ (gj ((hs3.pull .k2).drop) ⟨h63,h0,h2,by omega,by omega,by omega,by omega⟩)
def ag {n:Int}(s:Sep (hand h m::O) H)(e:m<=n):Sep (hand h n::O) H:=by
 obtain⟨c,ns,fo,i,r,j,hs,h63,f0,f1,i0,r0,k0,k1⟩:=wL s;exact gj hs ⟨h63,f0,f1,i0,r0,k0,by omega⟩
inductive Kd (H:Hp):V->String->Prop where
 |non:Kd H wf "NoneType"
 |bl (b:Bool):Kd H (.bl b) "bool"
 |int (i:Int):Kd H (v4 i) "int"
 |str (x:Str):Kd H (v6 x) "str"
 |lst {a:Addr}{xs:List V}(e:H a=some (wl xs)):Kd H (ut a) "list"
 |tup {a:Addr}{xs:List V}(e:H a=some (wn xs)):Kd H (ut a) "tuple"
 |dct {a:Addr}{kvs:List (Key×V)}(e:Rd H a (.dK kvs)):Kd H (ut a) "dict"
def aV (h:tyName v H=some t):Kd H v t:=by
 unfold tyName at h
 split at h
 .cases h;exact .non
 .cases h;exact .bl _
 .cases h;exact .int _
 .cases h;exact .str _
 .split at h
  .rename_i e;cases h;exact .lst e
  .rename_i e;cases h;exact .tup e
  .rename_i e;cases h;exact .dct (.inl e)
  .rename_i e;cases h;exact .dct (.inr ⟨_,e⟩)
  .cases h
 .cases h
abbrev ja:V->Bool
 | v4 _=>true
 |_=>false
abbrev gM:V->Bool
 | v4 i=>decide (0<=i)&&decide (i<=1000000000)
 |_=>false
def aG (hk:1<=k)(ht:tyName v H=some t)(q:Q (.bl (ja v)) H):aa tab R k 8 [v] H Q E:=by
 delta iD;right;cases aV ht
 all_goals
  refine aJ ht rfl ?_;right
  first
   |exact q
   |(refine aJ ht rfl ?_;right;exact q)
def cX (ro:Ro K R)(hk:2<=k)(ht:tyName v H=some t)(q:Q (.bl (gM v)) H):aa tab R k 9 [v] H Q E:=by
 delta gb;right;refine aG nofun ht ?_;cases aV ht
 case int i=>
  right;refine aB (λh0=>?_) (λh0=>?_)
  .left;simp only[ro.g_BOUND];right;have e:gM (v4 i)=decide (i<=1000000000):=by simp[gM,h0]
   rw[e]at q;exact q
  .right;have e:gM (v4 i)=false:=by simp[gM,h0]
   rw[e]at q;exact q
 all_goals
  right;exact q
abbrev bad (xs:List V):Option Int:=if xs.length<1\/60<xs.length then some (-1) else(xs.findIdx? λx=>!gM x).map λn=>(n:Int)
def og (h:¬ (1<=xs.length/\xs.length<=60)):bad xs=some (-1):=by
 unfold bad;rw[if_pos nofun]
def uP {x:V}(h:1<=xs.length/\xs.length<=60)(hx:xs[j]? =some x)(hc:gM x=false)(hb:∀ i y,i<j->xs[i]? =some y->gM y=true):bad xs=some j:=by
 unfold bad;rw[if_neg nofun];have:xs.findIdx? (λx=>!gM x)=some j:=by
  rw[List.findIdx?_eq_some_iff_getElem];obtain⟨hj,e⟩:=sw.mp hx;refine⟨hj,by rw[e,hc];rfl,λi hi=>?_⟩;rw[hb i xs[i] hi (jp _)]
  decide
 rw[this]
 rfl
def fT (h:1<=xs.length/\xs.length<=60)(hb:∀ (i:Nat) y,xs[i]? =some y->gM y=true):bad xs=none:=by
 unfold bad;rw[if_neg nofun];have:xs.findIdx? (λx=>!gM x)=none:=by
  rw[List.findIdx?_eq_none_iff];intro x hx;obtain⟨i,hi⟩:=List.mem_iff_getElem?.mp hx;rw[hb i x hi]
  rfl
 rw[this]
 rfl
def j9 (h:bad xs=none):1<=xs.length/\xs.length<=60:=by
 unfold bad at h
 split at h
 .cases h
 .omega
def yw (h:bad xs=none):∀ x ∈ xs,gM x=true:=by
 have hl:=j9 h;unfold bad at h;rw[if_neg nofun]at h;intro x hx;have h1:xs.findIdx? (λx=>!gM x)=none:=by
  cases e:xs.findIdx? (λx=>!gM x) with
  |none=>rfl
  |some j=>rw[e]at h;cases h
 rw[List.findIdx?_eq_none_iff]at h1;simpa using h1 x hx
def yS {x:V}:(sn (Int.toNat (n:Int)) [x]).flatten=sn n x:=by
 rw[pi]
 induction n with
 |zero=>rfl
 |succ n ih=>rw[replicate_succ,flatten_cons,ih];rfl
abbrev lE (C:Addr)(fs:List (Str×V))(x:Addr)(fr:Bool):ah:=ex λd:Addr=>jN (pt x (.exc C (some d) fs fr)) (pt d (.own x))
def l8 {x d:Addr}{fr:Bool}(s:Sep (pt x (.exc C (some d) fs fr)::pt d (.own x)::O) H):Sep (lE C fs x fr::O) H:=Sep.C2.mpr ⟨d,Sep.star.mpr s⟩
def pS {x:Addr}{fr:Bool}(s:Sep (lE C fs x fr::O) H):∃ d,Sep (pt x (.exc C (some d) fs fr)::pt d (.own x)::O) H:=let⟨d,s⟩:=Sep.C2.mp s;⟨d,Sep.star.mp s⟩
def ck {x:Addr}(hk:1<=k)(s:Sep (pt x (.exc (R.cad 1) none [] true)::O) H)(q:∀ d H',Sep (pt x (.exc (R.cad 1) (some d) [("at",v)] true)::pt d (.own x)::O) H'->Q wf H'):aa tab R k 0 [ut x,v] H Q E:=by
 delta b6;right;refine⟨_,1,_,_,_,_,rfl,by grind,rfl,?_⟩;right;refine wb s rfl rfl (λd H hs=>?_);right;exact q d H hs
def nM (hk:3<=k)(s:Sep O H)(ht:tyName v H=some t)(hn:t≠"list") (q:∀ x H',Sep (lE (R.cad 1) [("at",v4 (-1))] x false::O) H'->E x H'):aa tab R k 21 [v] H Q E:=by
 delta cH;right;have hl:tab.subB.lookup (t,"list")=some false:=by
  cases aV ht<;>first|rfl|exact absurd rfl hn
 refine aJ ht hl ?_;right;intro x hx;refine ck nofun (s.new hx) (λd H hs=>?_);right;refine iL hs (by ac_rfl) rfl (λH hs=>?_);exact q x H (l8 hs)
def yi (ro:Ro K R)(hk:3<=k)(s:Sep (pt a (wl xs)::tys xs::O) H)(q0:bad xs=none->∀ H',Sep (pt a (wl xs)::tys xs::O) H'->Q wf H')
  (q1:∀ at',bad xs=some at'->∀ x H',Sep (lE (R.cad 1) [("at",v4 at')] x false::pt a (wl xs)::tys xs::O) H'->E x H'):aa tab R k 21 [ut a] H Q E:=by
 delta cH;right;refine aJ (t:="list") (jy s.at) rfl ?_;right
 by_cases hl:1<=xs.length/\xs.length<=60
 .refine cn (decide_eq_true nofun) ?_;left;simp only[ro.g_MOST_CELLS];right;refine cn (c:=decide ((xs.length:Int)<=60)) (decide_eq_true nofun) ?_;right;refine iq (xs:=xs) (λj U H=>∃ y z,U=[some (ut a),y,z]/\(∀ i w,i<j->xs[i]? =some w->gM w=true)/\Sep (pt a (wl xs)::tys xs::O) H) ?_ ?_ ?_ ?_
  .exact⟨none,none,rfl,λi w h=>absurd h nofun,s⟩
  .rintro j U H ⟨y,z,rfl,_,hs⟩;exact hs.at
  .rintro j x T U H hx ⟨y,z,rfl,hb,hs⟩ hT;have hs1:=hs.dg (xs:=[v4 j,x]) hT;left;refine⟨T,_,rfl,.inl (aY.of hs1.atT),rfl,?_⟩;right;obtain⟨t,ht⟩:=(hs1.pull .k2).Dt x (cr hx);refine cX ro nofun ht ?_;right;refine gz (λhc=>?_) (λhc=>?_)
   .right;refine⟨_,_,rfl,λi w hi hw=>?_,hs1.drop⟩
    by_cases e:i=j
    .subst e;rw[hx]at hw;cases hw;exact hc
    .exact hb i w nofun hw
   .right;intro p hp;refine ck nofun (hs1.drop.new hp) (λd H hs=>?_);right;refine iL hs (by ac_rfl) rfl (λH hs=>?_);exact q1 _ (uP hl hx hc hb) p H (l8 hs)
  .rintro U H ⟨y,z,rfl,hb,hs⟩;right;exact q0 (fT hl λi w hi=>hb i w (sw.mp hi).1 hi) _ hs
 .have fin:∀ p,H p=none->aa tab R (k-1) 0 [ut p,v4 (-1)] (upd H p (.exc (R.cad 1) none [] true)) (λv H2=>v=wf/\∃ b i dx fs,ut p=ut b/\H2 b=some (.exc (R.cad i) dx fs true)/\tab.xc.contains i=true/\E b (upd H2 b (.exc (R.cad i) dx fs false))) E:=by
   intro p hp;refine ck nofun (s.new hp) (λd H hs=>?_);refine⟨rfl,?_⟩;refine iL (G:=⟨tab,R,aa tab R 0,.calm⟩) hs (by ac_rfl) rfl (λH hs=>?_);exact q1 _ (og hl) p H (l8 hs)
  by_cases h1:1<=xs.length
  .refine cn (decide_eq_true nofun) ?_;left;simp only[ro.g_MOST_CELLS];right;refine aR (c:=decide ((xs.length:Int)<=60)) (decide_eq_false nofun) ?_;right;exact fin
  .refine aR (decide_eq_false nofun) ?_;right;exact fin
abbrev cj (C p:Addr)(cs ws:List V):ah:=ex λx:Addr×Addr×Addr=>jN (pt p (wp C x.1 [("contents",ut x.2.1),("permits",ut x.2.2)])) (jN (pt x.1 (.own p)) (jN (pt x.2.1 (wl cs)) (pt x.2.2 (wl ws))))
def gd {cs ws:List V}(s:Sep (cj C p cs ws::O) H):∃ dx a b,Sep (pt p (wp C dx [("contents",ut a),("permits",ut b)])::pt dx (.own p)::pt a (wl cs)::pt b (wl ws)::O) H:=by
 obtain⟨⟨dx,a,b⟩,s⟩:=Sep.C2.mp s;refine⟨dx,a,b,?_⟩;have s1:=Sep.star.mp s;have s2:=Sep.star.mp (s1.pull .k1);have s3:=Sep.star.mp (s2.pull .k1);exact((s3.pull .k2).pull .k3)
def fR {cs ws:List V}(s:Sep (pt p (wp C dx [("contents",ut a),("permits",ut b)])::pt dx (.own p)::pt a (wl cs)::pt b (wl ws)::O) H):Sep (cj C p cs ws::O) H:=by
 refine Sep.C2.mpr ⟨(dx,a,b),Sep.star.mpr ?_⟩;have s3:=Sep.star.mpr ((s.pull .k3).pull .k3);have s2:=Sep.star.mpr (s3.pull .k2);exact s2.pull .k1
def fA (ro:Ro K R)(hk:4<=k)(s:Sep (pt p (wp (R.cad 12) dx [])::pt dx (.own p)::pt a (wl xs)::tys xs::O) H)
  (q0:bad xs=none->∀ H',Sep (cj (R.cad 12) p xs (sn xs.length (v6 "open"))::pt a (wl xs)::tys xs::O) H'->Q wf H')
  (q1:∀ at',bad xs=some at'->∀ x H',Sep (lE (R.cad 1) [("at",v4 at')] x false::pt a (wl xs)::tys xs::O) H'->E x H'):aa tab R k 23 [ut p,ut a] H Q E:=by
 delta bM;right;refine yi (O:=pt p (wp (R.cad 12) dx [])::pt dx (.own p)::O) ro nofun (s.sub (by ac_nf)) (λhb H hs=>?_) (λat' hb x H hs=>?_)
 .have hl:=j9 hb;right;rename_i l H1 hs1 H2 hs2 m H3 hs3 w H4 hs4 H5 hs5;rw[yS]at hs5;exact q0 hb _ (fR (hs5.sub (by ac_nf)))
 .exact q1 at' hb x H (hs.sub (by ac_nf))
def gZ (hk:4<=k)(s:Sep (pt p (wp (R.cad 12) dx [])::pt dx (.own p)::O) H)(ht:tyName v H=some t)(hn:t≠"list") (q:∀ x H',Sep (lE (R.cad 1) [("at",v4 (-1))] x false::O) H'->E x H'):aa tab R k 23 [ut p,v] H Q E:=by
 delta bM;right;refine nM nofun s ht hn (λx H hs=>?_);exact q x H (hs.sub (by ac_nf))
def Cp {cs ws:List V}(hk:1<=k)(s:Sep (cj (R.cad 12) p cs ws::O) H)(q:Q (v4 cs.length) H):aa tab R k 24 [ut p] H Q E:=by
 obtain⟨dx,a,b,hs⟩:=gd s;delta fZ;right;exact q
def BJ {cs ws:List V}(hk:1<=k)(s:Sep (cj (R.cad 12) p cs ws::O) H)(q:∀ l H',Sep (pt l (wl cs)::cj (R.cad 12) p cs ws::O) H'->Q (ut l) H'):aa tab R k 25 [ut p] H Q E:=by
 obtain⟨dx,a,b,hs⟩:=gd s;delta fv;right;rename_i l H1 hs1;exact q l H1 ((fR (hs1.sub (by ac_nf))).pull .k1)
def fN {xs:List α}{i:Int}{x:α}(h0:0<=i)(hx:xs[i.toNat]? =some x):jw xs i=some x:=by
 have h:=L2.kC hx
 rwa [Int.toNat_of_nonneg h0]at h
abbrev aK (n:Nat):V->V->Bool
 | v4 a,v4 b=>decide (0<=a)&&(decide (a<=b)&&decide (b<=n))
 |_,_=>false
def nv {w:V}{u:String}(hk:2<=k)(ht:tyName v H=some t)(hu:tyName w H=some u)(q:Q (.bl (aK n v w)) H):aa tab R k 22 [v,w,v4 n] H Q E:=by
 delta gR;right;refine aG nofun ht ?_;cases aV ht
 case int i=>
  right;refine aG nofun hu ?_;cases aV hu
  case int j=>
   right;refine aB (λh0=>?_) (λh0=>?_)
   .right;refine aB (λh1=>?_) (λh1=>?_)
    .right;have e:aK n (v4 i) (v4 j)=decide (j<=n):=by simp[aK,h0,h1]
     rw[e]at q;exact q
    .right;have e:aK n (v4 i) (v4 j)=false:=by simp[aK,h1]
     rw[e]at q;exact q
   .right;have e:aK n (v4 i) (v4 j)=false:=by simp[aK,h0]
    rw[e]at q;exact q
  all_goals
   right;exact q
 all_goals
  right;exact q
def xi:(10:Int) ^ Int.toNat 9=1000000000:=by decide
local macro_rules| `(tactic|walk_at "dr")=>`(tactic|(refine' kN ?k ?s ?m ?a ?b (λr H hr0 hr1 hs=>?_);(case s=>walk_at "sp");(case k=>exact nofun);(case m=>omega);(case a=>walk_at "ar");(case b=>walk_at "ar")))
local macro_rules| `(tactic|walk_at "gd")=>`(tactic|(walk_at "w";repeat(first|(walk_at "st";walk_at "w")|(walk_at "dr";walk_at "w"))))
def si (hk:2<=k)(s:Sep (hand h m::O) H)(hm:m<=1099511000000)(q:∀ i H',0<=i->i<=1000000000->Sep (hand h (m+3)::O) H'->Q (v4 i) H'):aa tab R k 56 [ut h] H Q E:=by
 delta dH;walk_at "gd";refine cK (λh0=>?_) (λh0=>?_)
 .walk_at "gd";rename_i r H2 hr0 hr1 hs2;exact q _ _ nofun nofun (ag hs2 nofun)
 walk_at "gd";refine cK (λh1=>?_) (λh1=>?_)
 .walk_at "gd";rename_i r H2 hr0 hr1 hs2;exact q _ _ (by rw[xi];omega) (by rw[xi];omega) (ag hs2 nofun)
 walk_at "gd";refine cK (λh2=>?_) (λh2=>?_)
 .walk_at "gd";rename_i r H2 hr0 hr1 hs2;exact q _ _ nofun nofun (ag hs2 nofun)
 walk_at "gd";rename_i r H2 hr0 hr1 hs2 r' H3 hr0' hr1' hs3;rw[xi];exact q _ _ nofun nofun (ag hs3 nofun)
abbrev bQ (ns:List Int):Prop:=∀ i ∈ ns,0<=i/\i<=1000000000
def oO {i:Int}(h:bQ ns)(h0:0<=i)(h1:i<=1000000000):bQ (ns++[i]):=λj hj=>by
 rcases mem_append.mp hj with hj|hj
 .exact h j hj
 .rw[mem_singleton.mp hj];exact⟨h0,h1⟩
def xk {M:Int}(hk:3<=k)(s:Sep (hand h m::O) H)(hm:m<=1099510000000)(hM0:1<=M)(hM1:M<=60)(q:∀ p ns H',1<=ns.length->(ns.length:Int)<=M->bQ ns->Sep (pt p (wl (ns.map v4))::hand h (m+300)::O) H'->Q (ut p) H'):aa tab R k 57 [ut h,v4 M] H Q E:=by
 delta fL;walk_at "gd";rename_i wy H1 wy0 wy1 hs1 mn H2 mn0 mn1 hs2;have st:∀ {D:Addr},H2 D=none->(∃ ns,([]:List V)=ns.map v4/\bQ ns)/\Sep (pt D (wl [])::hand h (m+2+4*((([]:List V).length:Nat):Int))::O) (upd H2 D (wl [])):=λ{D} hD=>by
  refine⟨⟨[],rfl,λi hi=>absurd hi (by simp)⟩,?_⟩;have s1:=hs2.new (o:=wl []) hD;exact(ag (s1.pull .k1) (by simp;omega)).pull .k1
 have sp:∀ {D:Addr}{ys:List V}{i n:Int}{x:Option V}{rest:St}{H:Hp},((ys.length:Nat):Int)<1+mn->(∃ ns,ys=ns.map v4/\bQ ns)->0<=i->i<=1000000000->n<=m+2+4*((ys.length+1:Nat):Int)->Sep (hand h n::pt D (wl ys)::O) H->kx (λD ys H=>(∃ ns,ys=ns.map v4/\bQ ns)/\Sep (pt D (wl ys)::hand h (m+2+4*((ys.length:Nat):Int))::O) H) D ys rest x (v4 i) H:=λ{D ys i n x rest H} hl hI h0 h1 hn hs=>by
  obtain⟨ns,e,hc⟩:=hI;refine kx.mk (by grind) nofun ⟨⟨ns++[i],by rw[e];simp,oO hc h0 h1⟩,?_⟩;have hs7:=(hs.pull .k1).set (o':=wl (ys++[v4 i])) rfl;refine(ag (hs7.pull .k1) ?_).pull .k1;rw[ci];exact hn
 have fi:∀ {D:Addr}{ys:List V}{H:Hp},ys.length=(1+mn).toNat->((∃ ns,ys=ns.map v4/\bQ ns)/\Sep (pt D (wl ys)::hand h (m+2+4*((ys.length:Nat):Int))::O) H)->Q (ut D) H:=λ{D ys H} hl hI=>by
  obtain⟨⟨ns,rfl,hc⟩,hs⟩:=hI;rw[ce]at hl;refine q D ns H nofun nofun hc ?_;exact(ag (hs.pull .k1) (by rw[ce];omega)).pull .k1
 refine cK (λh0=>?_) (λh0=>?_)
 .walk_at "gd";refine lx (n:=(1+mn).toNat) nofun (λD ys H=>(∃ ns,ys=ns.map v4/\bQ ns)/\Sep (pt D (wl ys)::hand h (m+2+4*((ys.length:Nat):Int))::O) H) (λD hD=>st hD) (λD ys H hl hI=>?_) (λD ys H hl hI=>fi hl hI);obtain⟨hI,hs⟩:=hI;walk_at "gd";rename_i r H6 r0 r1 hs6;exact sp nofun hI nofun nofun nofun hs6
 walk_at "gd";refine cK (λh1=>?_) (λh1=>?_)
 .walk_at "gd";refine lx (n:=(1+mn).toNat) nofun (λD ys H=>(∃ ns,ys=ns.map v4/\bQ ns)/\Sep (pt D (wl ys)::hand h (m+2+4*((ys.length:Nat):Int))::O) H) (λD hD=>st hD) (λD ys H hl hI=>?_) (λD ys H hl hI=>fi hl hI);obtain⟨hI,hs⟩:=hI;walk_at "gd";rename_i r H6 r0 r1 hs6;exact sp nofun hI nofun nofun nofun hs6
 walk_at "gd";refine lx (n:=(1+mn).toNat) nofun (λD ys H=>(∃ ns,ys=ns.map v4/\bQ ns)/\Sep (pt D (wl ys)::hand h (m+2+4*((ys.length:Nat):Int))::O) H) (λD hD=>st hD) (λD ys H hl hI=>?_) (λD ys H hl hI=>fi hl hI);obtain⟨hI,hs⟩:=hI;walk_at "gd";refine si nofun (hs.pull .k1) nofun (λi H i0 i1 hs=>?_);exact sp nofun hI i0 i1 nofun hs
abbrev bx (f:α->List ah):ah:=⟨λH D=>∃ x,bb (f x) H D,λH H' D ⟨x,h⟩ k t=>⟨x,bb.st h k t⟩,λH D D' ⟨x,h⟩ k=>⟨x,bb.up h k⟩⟩
def fX:∀ {O Δ:List ah}{D:Addr->Prop},bb (O++Δ) H D ↔ ∃ D1 D2:Addr->Prop,(∀ a,D1 a->D a)/\(∀ a,D2 a->D a)/\(∀ a,D1 a->D2 a->False)/\bb O H D1/\bb Δ H D2
 | [],Δ,D=>⟨λh=>⟨λ_=>False,D,λ_ z=>z.elim,λ_ z=>z,λ_ z _=>z,True.intro,h⟩,λ⟨_,_,_,s2,_,_,h⟩=>bb.up h s2⟩
 |A::O,Δ,D=>by
  constructor
  .rintro⟨E1,E2,s1,s2,dj,hA,h⟩;obtain⟨F1,F2,t1,t2,dk,h1,h2⟩:=fX.mp h;refine⟨λa=>E1 a\/F1 a,F2,λa z=>z.elim (s1 a) λz=>s2 a (t1 a z),λa z=>s2 a (t2 a z),λa z w=>z.elim (λz=>dj a z (t2 a w)) λz=>dk a z w,?_,h2⟩;exact⟨E1,F1,λa z=>.inl z,λa z=>.inr z,λa z w=>dj a z (t1 a w),hA,h1⟩
  .rintro⟨D1,D2,s1,s2,dj,⟨E1,E2,t1,t2,dk,hA,h1⟩,h2⟩;refine⟨E1,λa=>E2 a\/D2 a,λa z=>s1 a (t1 a z),λa z=>z.elim (λz=>s1 a (t2 a z)) (s2 a),λa z w=>w.elim (dk a z) λw=>dj a (t1 a z) w,hA,?_⟩;exact fX.mpr ⟨E2,D2,λa z=>.inl z,λa z=>.inr z,λa z w=>dj a (t2 a z) w,h1,h2⟩
def sX {f:α->List ah}(s:Sep (bx f::O) H):∃ x,Sep (f x++O) H:=by
 obtain⟨D,k,D1,D2,s1,s2,dj,⟨x,h1⟩,h2⟩:=s;exact⟨x,D,k,fX.mpr ⟨D1,D2,s1,s2,dj,h1,h2⟩⟩
def pf {f:α->List ah}(x:α)(s:Sep (f x++O) H):Sep (bx f::O) H:=by
 obtain⟨D,k,h⟩:=s;obtain⟨D1,D2,s1,s2,dj,h1,h2⟩:=fX.mp h;exact⟨D,k,D1,D2,s1,s2,dj,⟨x,h1⟩,h2⟩
abbrev zZ:List Str:=["here","there","left","way","sign","met"]
abbrev AM:List Key:=[.inr "here",.inr "there",.inr "left",.inr "way",.inr "sign",.inr "met"]
abbrev kW:V->Bool
 | v4 i=>decide (-1000000000<=i)&&decide (i<=1000000000)
 |_=>false
abbrev sJ (a b:Int):V->Bool
 | v4 i=>i ==a||i ==b
 |_=>false
abbrev eJ:Nat->V->Bool
 |0,v=>kW v
 |1,v=>kW v
 |3,v=>sJ 1 (-1) v
 |5,v=>sJ 0 1 v
 |_,v=>gM v
def gS (ro:Ro K R)(hk:2<=k)(ht:tyName v H=some t)(q:Q (.bl (kW v)) H):aa tab R k 10 [v] H Q E:=by
 delta gT;right;refine aG nofun ht ?_;cases aV ht
 case int i=>
  left;refine cn rfl ?_;left;simp only[ro.g_BOUND];right;refine aB (λh0=>?_) (λh0=>?_)
  .left;simp only[ro.g_BOUND];right;have e:kW (v4 i)=decide (i<=1000000000):=by simp[kW,h0]
   rw[e]at q;exact q
  .right;have e:kW (v4 i)=false:=by simp[kW,h0]
   rw[e]at q;exact q
 all_goals
  right;exact q
def vo {x:Str}(h:zZ[j]? =some x):(j=0/\x="here")\/(j=1/\x="there")\/(j=2/\x="left")\/(j=3/\x="way")\/(j=4/\x="sign")\/(j=5/\x="met"):=by
 rcases j with _|_|_|_|_|_|j
 .cases h;exact .inl ⟨rfl,rfl⟩
 .cases h;exact .inr (.inl ⟨rfl,rfl⟩)
 .cases h;exact .inr (.inr (.inl ⟨rfl,rfl⟩))
 .cases h;exact .inr (.inr (.inr (.inl ⟨rfl,rfl⟩)))
 .cases h;exact .inr (.inr (.inr (.inr (.inl ⟨rfl,rfl⟩))))
 .cases h;exact .inr (.inr (.inr (.inr (.inr ⟨rfl,rfl⟩))))
 .exact absurd h (by simp[zZ])
local macro_rules| `(tactic|walk_at "sc")=>`(tactic|first|(refine cn (by decide+kernel) ?_;walk_at "go")|(refine aR (by decide+kernel) ?_;walk_at "go"))
def A7 {x:Str}(ro:Ro K R)(hk:3<=k)(hj:zZ[j]? =some x)(ht:tyName v H=some t)(q:Q (.bl (eJ j v)) H):aa tab R k 11 [v6 x,v] H Q E:=by
 delta vW;rcases vo hj with⟨rfl,rfl⟩|⟨rfl,rfl⟩|⟨rfl,rfl⟩|⟨rfl,rfl⟩|⟨rfl,rfl⟩|⟨rfl,rfl⟩
 all_goals right
 all_goals repeat walk_at "sc"
 .exact gS ro nofun ht q
 .exact gS ro nofun ht q
 .exact cX ro nofun ht q
 .refine aG nofun ht ?_;cases aV ht
  case int i=>
   right;refine cK (λh0=>?_) (λh0=>?_)
   .right;have e:eJ 3 (v4 i)=true:=by simp[eJ,sJ,h0]
    rw[e]at q;exact q
   .right;have e:eJ 3 (v4 i)=(i == -1):=by simp[eJ,sJ,h0]
    rw[e]at q;exact q
  all_goals
   right;exact q
 .exact cX ro nofun ht q
 .refine aG nofun ht ?_;cases aV ht
  case int i=>
   right;refine cK (λh0=>?_) (λh0=>?_)
   .right;have e:eJ 5 (v4 i)=true:=by simp[eJ,sJ,h0]
    rw[e]at q;exact q
   .right;have e:eJ 5 (v4 i)=(i ==1):=by simp[eJ,sJ,h0]
    rw[e]at q;exact q
  all_goals
   right;exact q
abbrev boxes (R:Rt)(b:Addr)(ns:List Int):ah:=bx λx:Addr×Addr=>[pt b (wp (R.cad 9) x.1 [("numbers",ut x.2)]),pt x.1 (.own b),pt x.2 (.dK (AM.zip (ns.map v4))),pu (ns.length=6)]
def lq (s:Sep (boxes R b ns::O) H):∃ dx d,ns.length=6/\Sep (pt b (wp (R.cad 9) dx [("numbers",ut d)])::pt dx (.own b)::pt d (.dK (AM.zip (ns.map v4)))::O) H:=by
 obtain⟨⟨dx,d⟩,s⟩:=sX s;have s:Sep (pt b (wp (R.cad 9) dx [("numbers",ut d)])::pt dx (.own b)::pt d (.dK (AM.zip (ns.map v4)))::pu (ns.length=6)::O) H:=s;have p:=(s.pull .k3).pure;exact⟨dx,d,p,(s.pull .k3).drop⟩
def ig {d:Addr}(hn:ns.length=6)(s:Sep (pt b (wp (R.cad 9) dx [("numbers",ut d)])::pt dx (.own b)::pt d (.dK (AM.zip (ns.map v4)))::O) H):Sep (boxes R b ns::O) H:=
 pf (dx,d) (Sep.push .k3 (Sep.uU hn s))
def six {ns:List α}(h:ns.length=6):∃ a b c d e f,ns=[a,b,c,d,e,f]:=by
 match ns,h with
 | [a,b,c,d,e,f],_=>exact⟨a,b,c,d,e,f,rfl⟩
def yh {x:Str}(hn:ns.length=6)(hj:zZ[j]? =some x):∃ i,ns[j]? =some i/\gW (AM.zip (ns.map v4)) (.inr x)=some (v4 i):=by
 obtain⟨a,b,c,d,e,f,rfl⟩:=six hn;rcases vo hj with⟨rfl,rfl⟩|⟨rfl,rfl⟩|⟨rfl,rfl⟩|⟨rfl,rfl⟩|⟨rfl,rfl⟩|⟨rfl,rfl⟩<;>exact⟨_,rfl,rfl⟩
def xR (ro:Ro K R)(hk:1<=k)(s:Sep (boxes R b ns::O) H)(q:∀ t H',Sep (tu t (ns.map v4)::boxes R b ns::O) H'->Q (ut t) H'):aa tab R k 13 [ut b] H Q E:=by
 obtain⟨dx,d,hn,s⟩:=lq s;delta fM;right;obtain⟨a,hg,hS⟩:=ro.g_NAMES;simp only[hg];rw[<-ro.hK]at hS;right;refine Ef (hS H) ?_;refine vq (xs:=zZ.map v6) (nb rfl) (λD ys H=>ys=(ns.map v4).take ys.length/\Sep (pt D (wl ys)::pt b (wp (R.cad 9) dx [("numbers",ut d)])::pt dx (.own b)::pt d (.dK (AM.zip (ns.map v4)))::O) H) ?_ ?_ ?_ ?_
 .intro D ys H _;exact hS H
 .intro D hD;exact⟨rfl,s.new hD⟩
 .rintro D ys x H' hx ⟨e,hs⟩;rw[ii]at hx;obtain⟨z,hz,rfl⟩:=lv.mp hx;obtain⟨i,h1,h2⟩:=yh hn hz;right;refine Ge (k:=.inr z) (by grind) h2 ?_;have hlt:=(sw.mp h1).1;refine kx.mk (by grind) nofun ⟨?_,?_⟩
  .have e2:(ns.map v4)[ys.length]? =some (v4 i):=by rw[ii,h1];rfl
   rw[ci,f8,take_succ,e2]
   conv=>lhs;rw[e]
   rfl
  .exact hs.set rfl
 .rintro D ys H' hl ⟨e,hs⟩;have e2:ys=ns.map v4:=by
   rw[e,hl];rw[take_of_length_le];simp[zZ,hn]
  subst e2;right;refine iV hs (by grind) (λp H hs=>?_);right;refine q p H ?_;refine Sep.pull .k1 (ig (dx:=dx) (d:=d) hn ?_);walk_at "sp"
def pO {x:Addr}(ro:Ro K R)(hk:4<=k)(hn:ns.length=6)(hf:∀ (j:Nat) i,ns[j]? =some i->eJ j (v4 i)=true) (s:Sep (pt x (wp (R.cad 9) dx [])::pt dx (.own x)::O) H) (q:∀ H',Sep (boxes R x ns::O) H'->Q wf H'):
  aa tab R k 12 (ut x::ns.map v4) H Q E:=by
 obtain⟨a0,a1,a2,a3,a4,a5,rfl⟩:=six hn;delta cN;right;rename_i p H1 hs1;obtain⟨na,hg,hS⟩:=ro.g_NAMES;simp only[hg];rw[<-ro.hK]at hS;right;refine BC (tp1:=true) (tp2:=true) (xs:=zZ.map v6) (ys:=[v4 a0,v4 a1,v4 a2,v4 a3,v4 a4,v4 a5]) (hS _) (aY.of hs1.at) ?_;refine qF (xs:=zZ.map v6) (ys:=[v4 a0,v4 a1,v4 a2,v4 a3,v4 a4,v4 a5]) (λj U H=>∃ v w,U=[some (ut x),some (v4 a0),some (v4 a1),some (v4 a2),some (v4 a3),some (v4 a4),some (v4 a5),some (ut p),v,w]/\Sep (pt p (wn [v4 a0,v4 a1,v4 a2,v4 a3,v4 a4,v4 a5])::pt x (wp (R.cad 9) dx [])::pt dx (.own x)::O) H) rfl ?_ ?_ ?_ ?_
 .exact⟨none,none,rfl,hs1⟩
 .rintro j U H ⟨v,w,rfl,hs⟩;exact⟨hS _,aY.of hs.at⟩
 .rintro j y z T U H hy hz ⟨v,w,rfl,hs⟩ hT;rw[ii]at hy;obtain⟨nm,hnm,rfl⟩:=lv.mp hy;obtain⟨i,hi,rfl⟩:∃ i,([a0,a1,a2,a3,a4,a5]:List Int)[j]? =some i/\z=v4 i:=by
   have hz':(([a0,a1,a2,a3,a4,a5]:List Int).map v4)[j]? =some z:=hz;rw[ii]at hz';obtain⟨i,h1,h2⟩:=lv.mp hz';exact⟨i,h1,h2.symm⟩
  have hs2:=hs.dg (xs:=[v6 nm,v4 i]) hT;left;refine⟨T,_,rfl,.inl (aY.of hs2.atT),rfl,?_⟩;right;refine A7 ro nofun hnm rfl ?_;rw[hf j i hi];right;exact⟨_,_,rfl,hs2.drop⟩
 .rintro U H ⟨v,w,rfl,hs⟩;right;simp only[hg];right;refine DN (tp1:=true) (tp2:=true) (ks:=AM) (ys:=([a0,a1,a2,a3,a4,a5]:List Int).map v4) hs (hS _) (aY.of hs.at) (by decide+kernel) rfl (nb rfl) (λd H2 hs2=>?_);right;rename_i H3 hs3;refine q _ ?_;refine ig (dx:=dx) (d:=d) rfl ?_;walk_at "sp"
def rA (ro:Ro K R)(hk:5<=k)(s:Sep (boxes R b ns::O) H)(q:∀ c H',Sep (boxes R c ns::boxes R b ns::O) H'->Q (ut c) H'):aa tab R k 14 [ut b] H Q E:=by
 delta dC;right;intro x dx h1 h2 h3;refine pO (ns:=[0,0,0,1,0,0]) ro nofun rfl ?_ (gi s h1 h2 h3) (λH1 hs1=>?_)
 .intro j i hi;rcases j with _|_|_|_|_|_|j<;>first|(cases hi;rfl)|exact absurd hi (by simp)
 refine⟨rfl,?_⟩;obtain⟨dx1,d1,hn1,hs2⟩:=lq hs1;obtain⟨dx2,d2,hn2,hs3⟩:=lq (hs2.pull .k3);right;refine xw hs3 (by grind) (λd3 H3 hs4=>?_);right;rename_i H4 hs5;refine q _ _ ?_;refine ig (dx:=dx1) (d:=d3) hn2 ?_;refine Sep.push .k3 (ig (dx:=dx2) (d:=d2) hn2 ?_);walk_at "sp"
def iK (hk:1<=k)(ht:tyName v H=some t)(q:Q (.bl (ja v)) H):aa tab R k 58 [v] H Q E:=by
 delta fK;right;cases aV ht
 all_goals
  refine aJ ht rfl ?_;right
  first
   |exact q
   |(refine aJ ht rfl ?_;right;exact q)
abbrev Ob (R:Rt)(A:ah)(b:Addr)(i:Nat)(fl:List Str):Prop:=∀ H D,A.p H D->∃ dx fs,H b=some (wp (R.cad i) dx fs)/\fs.map (·.1)=fl
def qG {m:Str}:∀ {fs:List (Str×V)},(fs.map (·.1)).all (λx=>!(m ==x))=true->fs.lookup m=none
 | [],_=>rfl
 |(x,v)::fs,h=>by
  simp only[map_cons,all_cons,li]at h;have h1:(m ==x)=false:=by simpa using h.1
  rw[lookup_cons,h1];exact qG h.2
def bN {A:ah}{i f:Nat}{fl:List Str}{m:Str}{X:Nat->Prop}(o:Ob G.R A b i fl)(s:Sep O H)(p:aj A O Δ)(hm:fl.all (λx=>!(m ==x))=true) (hf:G.T.me.lookup (i,m)=some f) (h:X f):
  ∃ p' i' dx fs f',ut b=ut p'/\H p'=some (wp (G.R.cad i') dx fs)/\fs.lookup m=none/\G.T.me.lookup (i',m)=some f'/\X f':=by
 obtain⟨D,k,D1,D2,s1,s2,dj,h1,h2⟩:=s.pull p;obtain⟨dx,fs,e1,e2⟩:=o H D1 h1;exact⟨b,i,dx,fs,f,rfl,e1,qG (e2▸hm),hf,h⟩
structure Bx where
 h:Int
 t:Int
 l:Int
 w:Int
 s:Int
 m:Int
abbrev Bx.ls (x:Bx):List Int:=[x.h,x.t,x.l,x.w,x.s,x.m]
abbrev Bx.ok (x:Bx):Prop:=(-1000000000<=x.h/\x.h<=1000000000)/\(-1000000000<=x.t/\x.t<=1000000000)/\(0<=x.l/\x.l<=1000000000)/\(x.w=1\/x.w= -1)/\(0<=x.s/\x.s<=1000000000)/\(x.m=0\/x.m=1)
abbrev dY (R:Rt)(b:Addr)(x:Bx):ah:=bx λ_:Unit=>[boxes R b x.ls,pu x.ok]
variable {x:Bx}
def zW (s:Sep (dY R b x::O) H):x.ok/\Sep (boxes R b x.ls::O) H:=by
 obtain⟨_,s⟩:=sX s;have s:Sep (boxes R b x.ls::pu x.ok::O) H:=s;exact⟨(s.pull .k1).pure,(s.pull .k1).drop⟩
def pW (hx:x.ok)(s:Sep (boxes R b x.ls::O) H):Sep (dY R b x::O) H:=pf () (Sep.push .k1 (Sep.uU hx s))
def qh:Ob R (dY R b x) b 9 ["numbers"]:=by
 rintro H D ⟨_,D1,D2,_,_,_,⟨⟨dx,d⟩,E1,E2,_,_,_,⟨_,h⟩,_⟩,_⟩;exact⟨dx,_,h,rfl⟩
def Bs (h:x.ok):∀ (j:Nat) i,x.ls[j]? =some i->eJ j (v4 i)=true:=by
 obtain⟨⟨h1,h2⟩,⟨h3,h4⟩,⟨h5,h6⟩,h7,⟨h8,h9⟩,h10⟩:=h;intro j i hi;rcases j with _|_|_|_|_|_|j
 .cases hi;simp[eJ,kW,h1,h2]
 .cases hi;simp[eJ,kW,h3,h4]
 .cases hi;simp[eJ,gM,h5,h6]
 .cases hi;rcases h7 with e|e<;>rw[e]<;>rfl
 .cases hi;simp[eJ,gM,h8,h9]
 .cases hi;rcases h10 with e|e<;>rw[e]<;>rfl
 .exact absurd hi (by simp[Bx.ls])
def xU {i:Int}(h:0<=i/\i<=1000000000):gM (v4 i)=true:=by simp[gM,h.1,h.2]
section
variable {b:Addr}{h t l w s m i:Int}
def xx (ro:Ro K R)(hk:1<=k)(z:Sep O H)(p:aj (dY R b x) O Δ)(q:∀ t H',Sep (tu t (x.ls.map v4)::O) H'->Q (ut t) H'):aa tab R k 13 [ut b] H Q E:=by
 obtain⟨hok,z2⟩:=zW (z.pull p);exact xR ro hk z2 (λt H' z3=>q t H' (Sep.push (.t p) (pW hok (z3.pull .k1))))
def yG (ro:Ro K R)(hk:4<=k)(hx:x.ok)(z:Sep (pt b (wp (R.cad 9) dx [])::pt dx (.own b)::O) H)(q:∀ H',Sep (dY R b x::O) H'->Q wf H'):
  aa tab R k 12 (ut b::x.ls.map v4) H Q E:=pO ro hk rfl (Bs hx) z (λH' z2=>q H' (pW hx z2))
def ui (ro:Ro K R)(hk:4<=k)(hx:(Bx.mk h t l w s m).ok)(z:Sep (pt b (wp (R.cad 9) dx [])::pt dx (.own b)::O) H)(q:∀ H',Sep (dY R b ⟨h,t,l,w,s,m⟩::O) H'->Q wf H'):
  aa tab R k 12 [ut b,v4 h,v4 t,v4 l,v4 w,v4 s,v4 m] H Q E:=yG (x:=⟨h,t,l,w,s,m⟩) ro hk hx z q
end
abbrev ub (cs:List Int)(ws:List Str):Prop:=cs.length=ws.length/\1<=cs.length/\cs.length<=60/\bQ cs
abbrev cY (R:Rt)(a:Addr)(cs:List Int)(ws:List Str):ah:=bx λ_:Unit=>[cj (R.cad 12) a (cs.map v4) (ws.map v6),pu (ub cs ws)]
def lS (s:Sep (cY R a cs ws::O) H):ub cs ws/\Sep (cj (R.cad 12) a (cs.map v4) (ws.map v6)::O) H:=by
 obtain⟨_,s⟩:=sX s;have s:Sep (cj (R.cad 12) a (cs.map v4) (ws.map v6)::pu (ub cs ws)::O) H:=s;exact⟨(s.pull .k1).pure,(s.pull .k1).drop⟩
def mX (hx:ub cs ws)(s:Sep (cj (R.cad 12) a (cs.map v4) (ws.map v6)::O) H):Sep (cY R a cs ws::O) H:=pf () (Sep.push .k1 (Sep.uU hx s))
def Cc (s:Sep O H)(p:aj (cY R a cs ws) O Δ):ub cs ws:=(lS (s.pull p)).1
def i5:Ob R (cY R a cs ws) a 12 ["contents","permits"]:=by
 rintro H D ⟨_,D1,D2,_,_,_,⟨⟨dx,c,d⟩,E1,E2,_,_,_,⟨_,h⟩,_⟩,_⟩;exact⟨dx,_,h,rfl⟩
section
variable {a:Addr}{cs:List Int}{ws:List Str}{i v:Int}
def qk (hk:1<=k)(z:Sep O H)(p:aj (cY R a cs ws) O Δ)(q:∀ l H',Sep (pt l (wl (cs.map v4))::O) H'->Q (ut l) H'):aa tab R k 25 [ut a] H Q E:=by
 obtain⟨hok,z2⟩:=lS (z.pull p);exact BJ hk z2 (λl H' z3=>q l H' (Sep.push (.t p) (mX hok (z3.pull .k1))))
end
def qW (h1:1<=cs.length)(h60:cs.length<=60)(hc:bQ cs):bad (cs.map v4)=none:=by
 refine fT (by rw[ce];exact⟨h1,h60⟩) λi y hy=>?_
 rw[ii]at hy;obtain⟨z,hz,rfl⟩:=lv.mp hy;exact xU (hc z (cr hz))
def tZ (s:Sep O H):Sep (tys (cs.map v4)::O) H:=Sep.Ad (λx hx=>by
 obtain⟨z,_,rfl⟩:=List.mem_map.mp hx;exact⟨"int",rfl⟩) s
def qE (ro:Ro K R)(hk:4<=k)(h1:1<=cs.length)(h60:cs.length<=60)(hc:bQ cs)(s:Sep (pt p (wp (R.cad 12) dx [])::pt dx (.own p)::O) H)(h:aj (pt a (wl (cs.map v4))) O Δ)
  (q:∀ H',Sep (cY R p cs (sn cs.length "open")::O) H'->Q wf H'):aa tab R k 23 [ut p,ut a] H Q E:=by
 have s2:=tZ (cs:=cs) (s.pull (.j2 h));refine fA (a:=a) (dx:=dx) (O:=Δ) ro hk (s2.sub ?_) (λ_ H' z=>q H' ?_) (λat' hb=>absurd hb (by rw[qW h1 h60 hc];exact λz=>nomatch z))
 .ac_nf
 .refine Sep.push (.t h) ?_;have e:sn (cs.map v4).length (v6 "open")=(sn cs.length ("open":Str)).map v6:=by rw[ce,map_replicate]
  rw[e]at z;have z2:=mX (cs:=cs) ⟨by rw[length_replicate],h1,h60,hc⟩ z;exact z2.sub (by ac_nf)
local macro_rules| `(tactic|walk_at "ag")=>`(tactic|first|refine wargs2 (vs':=[_,_]) rfl ?_|refine wargs2 (vs':=[_,_,_]) rfl ?_|refine wargs2 (vs':=[_]) rfl ?_|refine wargs2 (vs':=[_,_,_,_]) rfl ?_)
local macro_rules| `(tactic|walk_at "mt")=>`(tactic|first|((with_reducible refine' bN qh ?s ?p ?m ?f ?_);(case s=>with_reducible assumption);(case p=>symm);(case m=>exact rfl);(case f=>exact rfl))|((with_reducible refine' bN i5 ?s ?p ?m ?f ?_);(case s=>with_reducible assumption);(case p=>symm);(case m=>exact rfl);(case f=>exact rfl)))
local macro_rules| `(tactic|walk_at "ws")=>`(tactic|(walk_at "w";repeat(first|(walk_at "st";walk_at "w")|(walk_at "mt";walk_at "w")|(walk_at "ag";(walk_at "hq");walk_at "w")|(walk_at "ag";(walk_at "gq");walk_at "w"))))
local macro_rules| `(tactic|walk_at "sc")=>`(tactic|first|(refine cn (by decide+kernel) ?_;walk_at "go")|(refine aR (by decide+kernel) ?_;walk_at "go"))
section
variable {cs:List Int}{f g:Nat->Int}{i v:Int}
end
def aS {xs:List α}{i:Int}(h0:0<=i)(h1:i<xs.length):∃ v,jw xs i=some v/\v ∈ xs:=by
 have hl:i.toNat<xs.length:=by omega
 refine⟨xs[i.toNat],?_,List.getElem_mem hl⟩;have:=L2.kC (jp hl)
 rwa [Int.toNat_of_nonneg h0]at this
def nc {r:Int}(h0:0<=r)(h1:r<xs.length)(h:∀ v ∈ xs,P v):∃ v,jw xs r=some v/\P v:=by
 obtain⟨v,hv,hm⟩:=aS h0 h1;exact⟨v,hv,h v hm⟩
abbrev inR (lo hi:Int)(v:V):Prop:=∃ i,v=v4 i/\lo<=i/\i<=hi
def inR.mk {lo hi i:Int}(h0:lo<=i)(h1:i<=hi):inR lo hi (v4 i):=⟨i,rfl,h0,h1⟩
def Fo {a b:V}(ha:P a)(hb:P b):∀ v ∈ [a,b],P v:=λv hv=>by
 simp only[lf,not_mem_nil,or_false]at hv;rcases hv with rfl|rfl<;>assumption
def HJ {a b c d:V}(ha:P a)(hb:P b)(hc:P c)(hd:P d):∀ v ∈ [a,b,c,d],P v:=λv hv=>by
 simp only[lf,not_mem_nil,or_false]at hv;rcases hv with rfl|rfl|rfl|rfl<;>assumption
abbrev a7:Nat->jr->jr
 |0,b=>b
 |n+1,.cons _ r=>a7 n r
 |_+1,.nil=>.nil
def az {A:ah}:∀ {L O Δ:List ah},aj A O Δ->aj A (L++O) (L++Δ)
 | [],_,_,h=>h
 |B::L,_,_,h=>.t (az h)
def fU {α:Type}{f:α->ah}{x:α}:∀ {l:List α},x ∈ l->∃ Δ,∀ O,aj (f x) (l.map f++O) (Δ++O)
 |y::l,h=>by
  rcases lf.mp h with rfl|h
  .exact⟨l.map f,λO=>.e⟩
  .obtain⟨Δ,hp⟩:=fU (f:=f) h;exact⟨f y::Δ,λO=>.t (hp O)⟩
def Sep.mv:∀ {L P Δ O:List ah}{H:Hp},Sep (P++(Δ++(L++O))) H->Sep (P++(L++(Δ++O))) H
 | [],_,_,_,_,z=>z
 |A::L,P,Δ,O,H,z=>(Sep.mv (L:=L) (P:=A::P) (Δ:=Δ) (O:=O) (z.pull (az (az .e)))).push (az .e)
abbrev eg (P:V->α->Prop)(vs:List V)(b:List α):Prop:=vs.length=b.length/\∀ (j:Nat) v i,vs[j]? =some v->b[j]? =some i->P v i
def eg.map {P P':V->α->Prop}{b:List α}(h:eg P vs b)(f:∀ v i,P v i->P' v i):eg P' vs b:=⟨h.1,λj v i h1 h2=>f v i (h.2 j v i h1 h2)⟩
def eg.nil {P:V->α->Prop}:eg P [] []:=⟨rfl,λj v i h _=>nomatch h⟩
def eg.snoc {P:V->α->Prop}{b:List α}{i:α}(h:eg P vs b)(p:P v i):eg P (vs++[v]) (b++[i]):=by
 refine⟨by rw[ci,ci,h.1];rfl,λj x y h1 h2=>?_⟩;rcases Nat.lt_trichotomy j vs.length with hj|hj|hj
 .rw[getElem?_append_left hj]at h1;rw[getElem?_append_left (h.1▸hj)]at h2;exact h.2 j x y h1 h2
 .subst hj;rw[getElem?_append_right (pc _),Nat.sub_self]at h1;rw[getElem?_append_right (Nat.le_of_eq h.1.symm),h.1,Nat.sub_self]at h2;cases h1;cases h2;exact p
 .rw[List.getElem?_eq_none (by rw[ci];simp;omega)]at h1;cases h1
def eg.get {P:V->α->Prop}{b:List α}(h:eg P vs b)(e:vs[j]? =some v):∃ i,b[j]? =some i/\P v i:=by
 have hj:=(sw.mp e).1;have e2:b[j]? =some (b[j]'(by rw[<-h.1];exact hj)):=jp _;exact⟨_,e2,h.2 j v _ e e2⟩
def cA {A:ah}:∀ {F:List ah},A ∈ F->∃ Δ,aj A F Δ
 |B::F,h=>by
  rcases lf.mp h with rfl|h
  .exact⟨F,.e⟩
  .obtain⟨Δ,p⟩:=cA h;exact⟨B::Δ,.t p⟩
def fz {o:HO}{G:List ah}(h:pt a o ∈ F)(z:Sep (G++F) H):H a=some o:=let⟨_,p⟩:=cA h;z.get (az p)
def d9 {t:Addr}{G:List ah}(h:tu t xs ∈ F)(z:Sep (G++F) H):H t=some (wn xs):=let⟨_,p⟩:=cA h;z.mZ (az p)
def toF {L G:List ah}(z:Sep (L++(G++F)) H):Sep (G++(L++F)) H:=Sep.mv (P:=[]) z
abbrev tj (R:Rt)(F:List ah)(a:Addr)(c:Nat):Prop:=∃ A ∈ F,∀ H D,A.p H D->∃ dx fs,H a=some (wp (R.cad c) dx fs)
def tj.mono {F':List ah}(h:tj R F a c)(g:∀ A ∈ F,A ∈ F'):tj R F' a c:=let⟨A,m,f⟩:=h;⟨A,g A m,f⟩
def tj.at {G:List ah}(h:tj R F a c)(z:Sep (G++F) H):∃ dx fs,H a=some (wp (R.cad c) dx fs):=by
 obtain⟨A,m,f⟩:=h;obtain⟨Δ,p⟩:=cA m;obtain⟨D,k,D1,D2,s1,s2,dj,h1,h2⟩:=z.pull (az p);exact f H D1 h1
abbrev DO (c:Nat):Prop:=c=18\/c=19\/c=14\/c=9\/c=15\/c=16\/c=17
def DO.it (h:DO c):tab.oc.contains c=true/\tab.subT.lookup (c,"list")=some false/\tab.subT.lookup (c,"tuple")=some false:=by
 rcases h with rfl|rfl|rfl|rfl|rfl|rfl|rfl<;>exact⟨rfl,rfl,rfl⟩
inductive Ct (R:Rt) (F:List ah):Nat->V->Prop where
 |fl {n:Nat}{v:V}(h:ai v=true):Ct R F n v
 |dc {n:Nat}{a:Addr}(h:pt a (.dK []) ∈ F):Ct R F n (ut a)
 |ob {n:Nat}{a:Addr}{c:Nat}(hc:DO c) (h:tj R F a c):Ct R F n (ut a)
 |ls {n:Nat}{a:Addr}{xs:List V}(h:pt a (wl xs) ∈ F) (hl:xs.length<=400) (hx:∀ x ∈ xs,Ct R F n x):Ct R F (n+1) (ut a)
 |tp {n:Nat}{a:Addr}{xs:List V}(h:tu a xs ∈ F) (hl:xs.length<=400) (hx:∀ x ∈ xs,Ct R F n x):Ct R F (n+1) (ut a)
def Ct.mono {F':List ah}(g:∀ A ∈ F,A ∈ F'):∀ {n:Nat}{v:V},Ct R F n v->Ct R F' n v:=by
 intro n v h
 induction h with
 |fl h=>exact .fl h
 |dc h=>exact .dc (g _ h)
 |ob hc h=>exact .ob hc (h.mono g)
 |ls h hl hx ih=>exact .ls (g _ h) hl ih
 |tp h hl hx ih=>exact .tp (g _ h) hl ih
def Ct.up:∀ {n m:Nat}{v:V},Ct R F n v->n<=m->Ct R F m v:=by
 intro n m v h
 induction h generalizing m with
 |fl h=>exact λ_=>.fl h
 |dc h=>exact λ_=>.dc h
 |ob hc h=>exact λ_=>.ob hc h
 |ls h hl hx ih=>
  intro hm;obtain⟨m,rfl⟩:∃ m',m=m'+1:=⟨m-1,by omega⟩;exact .ls h hl λx hx=>ih x hx nofun
 |tp h hl hx ih=>
  intro hm;obtain⟨m,rfl⟩:∃ m',m=m'+1:=⟨m-1,by omega⟩;exact .tp h hl λx hx=>ih x hx nofun
inductive Cq (F:List ah):Nat->V->V->Prop where
 |fl {n:Nat}{v:V}(h:ai v=true):Cq F n v v
 |sm {n:Nat}{a:Addr}:Cq F n (ut a) (ut a)
 |ls {n:Nat}{a b:Addr}{xs ys:List V}(h:pt a (wl xs) ∈ F) (h2:pt b (wl ys) ∈ F) (hl:xs.length=ys.length) (hx:∀ (j:Nat) x y,xs[j]? =some x->ys[j]? =some y->Cq F n x y):Cq F (n+1) (ut a) (ut b)
 |tp {n:Nat}{a b:Addr}{xs ys:List V}(h:tu a xs ∈ F) (h2:tu b ys ∈ F) (hl:xs.length=ys.length) (hx:∀ (j:Nat) x y,xs[j]? =some x->ys[j]? =some y->Cq F n x y):Cq F (n+1) (ut a) (ut b)
def Cq.mono {F':List ah}(g:∀ A ∈ F,A ∈ F'):∀ {n:Nat}{v w:V},Cq F n v w->Cq F' n v w:=by
 intro n v w h
 induction h with
 |fl h=>exact .fl h
 |sm=>exact .sm
 |ls h h2 hl hx ih=>exact .ls (g _ h) (g _ h2) hl ih
 |tp h h2 hl hx ih=>exact .tp (g _ h) (g _ h2) hl ih
def Cq.eqv {G:List ah}(z:Sep (G++F) H):∀ {n:Nat}{v w:V},Cq F n v w->d5 R.K H (n+1) v w true:=by
 intro n v w h
 induction h with
 | @fl n v h=>
  have:=d5.flat (K:=R.K) (H:=H) (n:=n+1) h h
  rwa [iZ h]at this
 |sm=>exact .same _
 |ls h h2 hl hx ih=>exact Bd (fz h z) (fz h2 z) hl ih
 |tp h h2 hl hx ih=>exact kY (d9 h z) (d9 h2 z) hl ih
def uJ {n:String}{b:Bool}(e:H a=some (wp (G.R.cad j) dx fs))(ho:G.T.oc.contains j=true)(hb:G.T.subT.lookup (j,n)=some b)(q:Q (.bl b) H):cV G (.ty n) (ut a) H Q:=by unfold cV;exact .inr ⟨a,j,b,rfl,.inl ⟨ho,dx,fs,e⟩,hb,q⟩
def ak {A:ah}(h:A ∈ F):A ∈ Δ++F:=gt _ h
def DH (ro:Ro K R):∀ (n k:Nat) (v:V) (G F:List ah) (H:Hp) (Q:VK) (E:XK),n+2<=k->Ct R F n v->Sep (G++F) H->(∀ v' Δ H',Cq (Δ++F) n v v'->Sep (G++(Δ++F)) H'->Q v' H')->aa tab R k 69 [v] H Q E:=by
 have flat:∀ {k:Nat}{v:V}{t:String}{H:Hp}{Q:VK}{E:XK},1<=k->tyName v H=some t->t≠"list"->t≠"tuple"->Q v H->aa tab R k 69 [v] H Q E:=λ{k v t H Q E} hk ht h1 h2 hq=>by
  delta a6;left;refine aJ ht (b:=false) (by cases aV ht<;>first|rfl|exact absurd rfl h1) ?_;refine aR rfl ?_;left;refine aJ ht (b:=false) (by cases aV ht<;>first|rfl|exact absurd rfl h2) ?_;refine aR rfl ?_;left;exact hq
 have flv:∀ {k:Nat}{v:V}{H:Hp}{Q:VK}{E:XK},1<=k->ai v=true->Q v H->aa tab R k 69 [v] H Q E:=λ{k v H Q E} hk hv hq=>by
  cases v with
  |non=>exact flat (t:="NoneType") hk rfl (by decide) (by decide) hq
  |bl b=>exact flat (t:="bool") hk rfl (by decide) (by decide) hq
  |int i=>exact flat (t:="int") hk rfl (by decide) (by decide) hq
  |str w=>exact flat (t:="str") hk rfl (by decide) (by decide) hq
  |_=>cases hv
 have obj:∀ {k:Nat}{a:Addr}{c:Nat}{dx:Addr}{fs:List (Str×V)}{H:Hp}{Q:VK}{E:XK},1<=k->DO c->H a=some (wp (R.cad c) dx fs)->Q (ut a) H->aa tab R k 69 [ut a] H Q E:=λ{k a c dx fs H Q E} hk hc e hq=>by
  obtain⟨i1,i2,i3⟩:=hc.it;delta a6;left;refine uJ e i1 i2 ?_;refine aR rfl ?_;left;refine uJ e i1 i3 ?_;refine aR rfl ?_;left;exact hq
 intro n
 induction n with
 |zero=>
  intro k v G F H Q E hk hc z q;cases hc with
  |fl h=>exact flv nofun h (q v [] H (.fl h) z)
  |dc h=>exact flat (t:="dict") nofun (w4 (fz h z)) (by decide) (by decide) (q _ [] H .sm z)
  |ob hc h=>
   obtain⟨dx,fs,e⟩:=h.at z;exact obj nofun hc e (q _ [] H .sm z)
 |succ n ih=>
  intro k v G F H Q E hk hc z q;cases hc with
  |fl h=>exact flv nofun h (q v [] H (.fl h) z)
  |dc h=>exact flat (t:="dict") nofun (w4 (fz h z)) (by decide) (by decide) (q _ [] H .sm z)
  |ob hc h=>
   obtain⟨dx,fs,e⟩:=h.at z;exact obj nofun hc e (q _ [] H .sm z)
  | @ls _ a xs h hl hx=>
   delta a6;left;refine aJ (t:="list") (jy (fz h z)) rfl ?_;left;refine cn rfl ?_;left;refine⟨rfl,?_⟩;left;refine sA (fz h z) ?_;refine nU (xs:=xs) nofun (λD ys H=>∃ Δ,ys.length<=xs.length/\(∀ (j:Nat) x y,xs[j]? =some x->ys[j]? =some y->Cq (Δ++F) n x y)/\Sep (pt D (wl ys)::(G++(Δ++F))) H) (λD ys H hI=>?_) (λD hD=>⟨[],Nat.zero_le _,(λj x y _ e=>by cases e),z.new (o:=wl []) hD⟩) (λD ys y H hy hI=>?_) (λD ys H hl2 hI=>?_)
   .obtain⟨Δ,_,_,hs⟩:=hI;exact aL.of (fz (G:=pt D (wl ys)::G) (ak h) hs)
   .obtain⟨Δ,l1,hq,hs⟩:=hI;have hlt:=(sw.mp hy).1;left;refine⟨rfl,?_⟩;refine ih (k-1) y (pt D (wl ys)::G) (Δ++F) H _ _ nofun ((hx y (cr hy)).mono λA m=>ak m) hs (λv' Δ' H2 c2 z2=>?_);have z3:Sep (pt D (wl ys)::(G++((Δ'++Δ)++F))) H2:=by
     rw[io];exact z2
    refine kx.mk z3.at nofun ⟨Δ'++Δ,by rw[ci,f8];omega,λj x y' h1 h2=>?_,z3.set rfl⟩
    by_cases hj:j<ys.length
    .rw[getElem?_append_left hj]at h2;exact(hq j x y' h1 h2).mono λA m=>by rw[io];exact ak m
    .have hj2:j=ys.length:=by
      have:=(sw.mp h2).1;rw[ci,f8]at this
      omega
     subst hj2;rw[getElem?_append_right (pc _),Nat.sub_self]at h2;cases h2;rw[hy]at h1;cases h1;rw[io];exact c2
   .obtain⟨Δ,l1,hq,hs⟩:=hI;refine q (ut D) (pt D (wl ys)::Δ) H (.ls (ak h) le hl2.symm λj x y h1 h2=>(hq j x y h1 h2).mono λA m=>dl _ m) (toF (L:=[_]) hs)
  | @tp _ a xs h hl hx=>
   delta a6;left;refine aJ (t:="tuple") (rC (d9 h z)) (b:=false) rfl ?_;refine aR rfl ?_;left;refine aJ (t:="tuple") (rC (d9 h z)) rfl ?_;left;refine cn rfl ?_;left;refine⟨rfl,?_⟩;left;refine Fu (d9 h z) ?_;refine vq (xs:=xs) nofun (λD ys H=>∃ Δ,ys.length<=xs.length/\(∀ (j:Nat) x y,xs[j]? =some x->ys[j]? =some y->Cq (Δ++F) n x y)/\Sep (pt D (wl ys)::(G++(Δ++F))) H) (λD ys H hI=>?_) (λD hD=>⟨[],Nat.zero_le _,(λj x y _ e=>by cases e),z.new (o:=wl []) hD⟩) (λD ys y H hy hI=>?_) (λD ys H hl2 hI=>?_)
   .obtain⟨Δ,_,_,hs⟩:=hI;exact aY.of (d9 (G:=pt D (wl ys)::G) (ak h) hs)
   .obtain⟨Δ,l1,hq,hs⟩:=hI;have hlt:=(sw.mp hy).1;left;refine⟨rfl,?_⟩;refine ih (k-1) y (pt D (wl ys)::G) (Δ++F) H _ _ nofun ((hx y (cr hy)).mono λA m=>ak m) hs (λv' Δ' H2 c2 z2=>?_);have z3:Sep (pt D (wl ys)::(G++((Δ'++Δ)++F))) H2:=by
     rw[io];exact z2
    refine kx.mk z3.at nofun ⟨Δ'++Δ,by rw[ci,f8];omega,λj x y' h1 h2=>?_,z3.set rfl⟩
    by_cases hj:j<ys.length
    .rw[getElem?_append_left hj]at h2;exact(hq j x y' h1 h2).mono λA m=>by rw[io];exact ak m
    .have hj2:j=ys.length:=by
      have:=(sw.mp h2).1;rw[ci,f8]at this
      omega
     subst hj2;rw[getElem?_append_right (pc _),Nat.sub_self]at h2;cases h2;rw[hy]at h1;cases h1;rw[io];exact c2
   .obtain⟨Δ,l1,hq,hs⟩:=hI;left;refine iV hs hs.at (λT H2 z2=>?_);have z3:Sep (tu T ys::(G++(Δ++F))) H2:=(z2.pull .k1).drop;refine q (ut T) (tu T ys::Δ) H2 (.tp (ak h) le hl2.symm λj x y h1 h2=>(hq j x y h1 h2).mono λA m=>dl _ m) (toF (L:=[_]) z3)
def pE (h:n<=xs.length):aZ xs none (some (n:Int))=xs.take n:=by
 unfold aZ;show(xs.drop 0).take ((if(n:Int)<0 then((n:Int)+(xs.length:Int)).toNat else min (n:Int).toNat xs.length)-0)=_;rw[if_neg nofun,pi,Nat.min_eq_left h]
 rfl
def tO (h:n<=xs.length):aZ xs (some (n:Int)) none=xs.drop n:=by
 unfold aZ;show(xs.drop (if(n:Int)<0 then((n:Int)+(xs.length:Int)).toNat else min (n:Int).toNat xs.length)).take (xs.length-(if(n:Int)<0 then((n:Int)+(xs.length:Int)).toNat else min (n:Int).toNat xs.length))=_;rw[if_neg nofun,pi,Nat.min_eq_left h];exact take_of_length_le (by rw[im];omega)
def CJ {m:Nat}(h:n<=xs.length)(h2:m<=xs.length):aZ xs (some (n:Int)) (some (m:Int))=(xs.drop n).take (m-n):=by
 unfold aZ;show(xs.drop (if(n:Int)<0 then((n:Int)+(xs.length:Int)).toNat else min (n:Int).toNat xs.length)).take ((if(m:Int)<0 then((m:Int)+(xs.length:Int)).toNat else min (m:Int).toNat xs.length)-(if(n:Int)<0 then((n:Int)+(xs.length:Int)).toNat else min (n:Int).toNat xs.length))=_;rw[if_neg (by omega:¬ (n:Int)<0),if_neg (by omega:¬ (m:Int)<0),pi,pi,Nat.min_eq_left h,Nat.min_eq_left h2]
structure Pt where
 p:Addr
 i:Int
 j:Int
abbrev bV (q:Pt):V:=ut q.p
abbrev cI (q:Pt):ah:=tu q.p [v4 q.i,v4 q.j]
abbrev mY (a b:Pt):Prop:=min a.j b.j<=max a.i b.i
abbrev md (F:List ah)(v:V):Prop:=∃ t,∀ (G:List ah) (H:Hp),Sep (G++F) H->tyName v H=some t
abbrev nF (F:List ah)(n:String)(v:V):Prop:=∃ t,t≠n/\∀ (G:List ah) (H:Hp),Sep (G++F) H->tyName v H=some t
def md.mono (h:md F v):md (Δ++F) v:=let⟨t,f⟩:=h;⟨t,λG H z=>f (G++Δ) H (by rw[io];exact z)⟩
def nF.mono {n:String}(h:nF F n v):nF (Δ++F) n v:=let⟨t,e,f⟩:=h;⟨t,e,λG H z=>f (G++Δ) H (by rw[io];exact z)⟩
inductive Md where
 |bad
 |mk (lo hi:V) (rw:Option (List Bool))
abbrev GR (c:Nat):Prop:=c=18\/c=19\/c=14
abbrev G3 (c:Nat):Prop:=c=9\/c=15\/c=16\/c=17
abbrev jX (R:Rt)(F:List ah)(v:V):Bool->Prop
 |true=>∃ a c,v=ut a/\GR c/\tj R F a c
 |false=>md F v\/∃ a c,v=ut a/\G3 c/\tj R F a c
abbrev wN (R:Rt)(F:List ah)(v:V):Option (List Bool)->Prop
 |none=>nF F "list" v
 |some bs=>∃ a xs,v=ut a/\pt a (wl xs) ∈ F/\xs.length<=400/\eg (jX R F) xs bs
abbrev vm (R:Rt)(F:List ah)(v:V):Md->Prop
 | .bad=>nF F "tuple" v\/∃ T xs,v=ut T/\tu T xs ∈ F/\xs.length≠4
 | .mk lo hi rw=>∃ T r b x,v=ut T/\tu T [lo,hi,r,ut b] ∈ F/\md F lo/\md F hi/\wN R F r rw/\dY R b x ∈ F
abbrev sM (R:Rt)(F:List ah)(v:V):Option (List Md)->Prop
 |none=>nF F "list" v
 |some ds=>∃ a xs,v=ut a/\pt a (wl xs) ∈ F/\xs.length<=400/\eg (vm R F) xs ds
abbrev yd (F:List ah)(v:V):Option (List V)->Prop
 |none=>nF F "list" v
 |some xs=>∃ a,v=ut a/\pt a (wl xs) ∈ F/\xs.length<=400/\∀ x ∈ xs,md F x
section
variable {F Δ:List ah}{v:V}
def jX.mono {b:Bool}(h:jX R F v b):jX R (Δ++F) v b:=by
 cases b with
 |true=>obtain⟨a,c,e,hc,o⟩:=h;exact⟨a,c,e,hc,o.mono λA m=>ak m⟩
 |false=>
  rcases h with h|⟨a,c,e,hc,o⟩
  .exact .inl h.mono
  .exact .inr ⟨a,c,e,hc,o.mono λA m=>ak m⟩
def wN.mono (h:wN R F v rw):wN R (Δ++F) v rw:=by
 cases rw with
 |none=>exact nF.mono h
 |some bs=>obtain⟨a,xs,e,m,l,o⟩:=h;exact⟨a,xs,e,ak m,l,o.map λv i=>jX.mono⟩
def vm.mono (h:vm R F v d):vm R (Δ++F) v d:=by
 cases d with
 |bad=>
  rcases h with h|⟨T,xs,e,m,l⟩
  .exact .inl h.mono
  .exact .inr ⟨T,xs,e,ak m,l⟩
 |mk lo hi rw=>obtain⟨T,r,b,x,e,m,h1,h2,h3,h4⟩:=h;exact⟨T,r,b,x,e,ak m,h1.mono,h2.mono,h3.mono,ak h4⟩
def sM.mono {ms:Option (List Md)}(h:sM R F v ms):sM R (Δ++F) v ms:=by
 cases ms with
 |none=>exact nF.mono h
 |some bs=>obtain⟨a,xs,e,m,l,o⟩:=h;exact⟨a,xs,e,ak m,l,o.map λv i=>vm.mono⟩
def yd.mono (h:yd F v fl):yd (Δ++F) v fl:=by
 cases fl with
 |none=>exact nF.mono h
 |some xs=>obtain⟨a,e,m,l,o⟩:=h;exact⟨a,e,ak m,l,λx hx=>(o x hx).mono⟩
end
abbrev vI:V->Int
 | v4 i=>i
 |_=>0
abbrev jK (n:Nat)(s:List (Int×Int))(lo hi:V):Bool:=aK n lo hi&&decide (vI lo<vI hi)&&s.all λp=>decide (vI hi<=p.1\/p.2<=vI lo)
abbrev cJ (n:Nat):Nat->List (Int×Int)->List Md->Option Int
 |k,s,.mk lo hi _::r=>if jK n s lo hi=true then cJ n (k+1) (s++[(vI lo,vI hi)]) r else some (k:Int)
 |_,_,_=>none
abbrev Md.ok:Md->Bool
 | .bad=>false
 |_=>true
abbrev dq (n:Nat):Option (List Md)->Option Int
 |none=>some (-1)
 |some ds=>if 1<=ds.length/\ds.length<=4/\ds.all Md.ok=true then cJ n 0 [] ds else some (-1)
abbrev cW:Option (List Bool)->Option Int
 |none=>some (-1)
 |some bs=>if 1<=bs.length/\bs.length<=24 then(bs.findIdx? λb=>!b).map λn=>(n:Int) else some (-1)
abbrev fW:List Md->Option Int
 | .mk _ _ rw::r=>match cW rw with
  |some a=>some a
  |none=>fW r
 |_=>none
abbrev gX:Option (List V)->Option Int
 |none=>some (-1)
 |some xs=>bad xs
abbrev wR:Md->Int×Int
 | .mk lo hi _=>(vI lo,vI hi)
 | .bad=>(0,0)
def sY {i j i2 j2:Int}(hk:1<=k)(z:Sep O H)(e1:H a=some (wn [v4 i,v4 j]))(e2:H b=some (wn [v4 i2,v4 j2]))(q0:min j j2<=max i i2->Q wf H)(q1:max i i2<min j j2->∀ t H',Sep (pt t (wn [v4 (max i i2),v4 (min j j2)])::O) H'->Q (ut t) H'):aa tab R k 30 [ut a,ut b] H Q E:=by
 delta mF;right;refine b9 e1 rfl ?_;right;refine b9 e2 rfl ?_;right;refine b9 e1 rfl ?_;right;refine b9 e2 rfl ?_;right;refine aB (λh=>?_) (λh=>?_)
 .right;rename_i t H1 z1;exact q1 h t H1 z1
 .right;exact q0 nofun
variable {L:List Pt}
def uR {l:Addr}(hk:2<=k)(hn:L.length<=4)(z:Sep O H)(p:aj (pt l (wl (L.map bV))) O Δ)(ht:∀ q ∈ L,∃ Δ,aj (cI q) O Δ) (q:(∀ (n m:Nat) (a b:Pt),n<m->L[n]? =some a->L[m]? =some b->mY a b)->∀ H',Sep O H'->Q (.bl true) H')
  (q0:∀ (n m:Nat) (a b:Pt),n<m->L[n]? =some a->L[m]? =some b->¬ mY a b->∀ H',Sep O H'->Q (.bl false) H'):aa tab R k 31 [ut l] H Q E:=by
 delta qz;right;refine x6 (z.get p) ?_;refine iq (xs:=L.map bV) (λj U H=>∃ u v w,U=[some (ut l),u,v,w]/\(∀ (n m:Nat) (a b:Pt),n<m->m<j->L[n]? =some a->L[m]? =some b->mY a b)/\Sep O H) ⟨none,none,none,rfl,λn m a b _ h=>absurd h (Nat.not_lt_zero _),z⟩ ?_ ?_ ?_
 .rintro j U H ⟨u,v,w,rfl,_,hs⟩;exact hs.get p
 .rintro j x T U H hx ⟨u,v,w,rfl,hd,hs⟩ hT;rw[ii]at hx;obtain⟨b,eb,rfl⟩:=lv.mp hx;have hs4:=hs.dg (xs:=[v4 j,bV b]) hT;left;refine⟨T,_,rfl,.inl (aY.of hs4.atT),rfl,?_⟩;generalize upd H T _=H4 at hs4⊢;right;refine xZ hs4 (hs4.get (.t p)) (λP H5 hs5=>?_);have hj:j<L.length:=(sw.mp eb).1;rw[pE (by rw[ce];omega)]at hs5;obtain⟨Δb,pb⟩:=ht b (cr eb);clear hs4 hs;right;refine fE (xs:=(L.map bV).take j) (λi U H=>∃ w,U=[some (ut l),some (v4 j),some (bV b),w]/\(∀ (n:Nat) a,n<i->L[n]? =some a->mY a b)/\Sep (pt P (wl ((L.map bV).take j))::tu T [v4 j,bV b]::O) H) ⟨_,rfl,λn a h=>absurd h (Nat.not_lt_zero _),hs5⟩ ?_ ?_ ?_
  .rintro i U H ⟨w,rfl,_,hs⟩;exact aL.of (hs.get .e)
  .rintro i x U H hx ⟨w,rfl,hi,hs⟩;rw[getElem?_take]at hx
   split at hx
   .rename_i hij;rw[ii]at hx;obtain⟨a,ea,rfl⟩:=lv.mp hx;obtain⟨Δa,pa⟩:=ht a (cr ea);right;refine sY nofun hs (hs.mZ (.j2 pa)) (hs.mZ (.j2 pb)) (λh=>?_) (λh t H6 z6=>?_)
    .refine dP ?_;refine aR rfl ?_;right;refine⟨_,rfl,λn a' hn ea'=>?_,hs⟩
     by_cases e:n=i
     .subst e;rw[ea]at ea';cases ea';exact h
     .exact hi n a' nofun ea'
    .refine dP ?_;refine cn rfl ?_;right;exact q0 i j a b hij ea eb (λz=>by unfold mY at z;omega) _ z6.drop.drop.drop
   .cases hx
  .rintro U H ⟨w,rfl,hi,hs⟩;right;refine⟨_,_,_,rfl,λn m a c hnm hm ea ec=>?_,hs.drop.drop⟩
   by_cases e:m=j
   .subst e;rw[eb]at ec;cases ec;refine hi n a ?_ ea;rw[db,ce]
    omega
   .exact hd n m a c hnm nofun ea ec
 .rintro U H ⟨u,v,w,rfl,hd,hs⟩;right;exact q (λn m a b hnm ea eb=>hd n m a b hnm (by rw[ce];exact(sw.mp eb).1) ea eb) _ hs
abbrev ij (q:Pt):Int×Int:=(q.i,q.j)
def gy {f:α->ah}{x:α}{l:List α}:aj (f x) ((l++[x]).map f++O) (l.map f++O):=by
 rw[dL,io];exact az .e
def hG {L:List α}{o:α}(h:L[n]? =some o):L.drop n=o::L.drop (n+1):=by
 obtain⟨hl,e⟩:=sw.mp h;rw[List.drop_eq_getElem_cons hl,e]
def Sep.cut {A B:List ah}(z:Sep (A++(B++O)) H):Sep (A++O) H:=by
 induction B with
 |nil=>exact z
 |cons X B ih=>exact ih (z.pull (az .e)).drop
section
variable {F G:List ah}{v:V}
def lL (ro:Ro K R)(hk:1<=k)(hm:vm R F v d)(z:Sep (G++F) H)(q:Q (.bl d.ok) H):aa tab R k 32 [v] H Q E:=by
 delta du;have tup:∀ {T:Addr}{xs:List V},tu T xs ∈ F->(∀ b,b=decide (xs.length=4)->Q (.bl b) H)->wB du.body ⟨tab,R,aa tab R (k-1),.calm⟩ { nx:=λ_ H'=>Q wf H',rt:=Q } (λ_=>E) [some (ut T)] H:=λ{T xs} m q=>by
  have e:=d9 m z;left;refine aJ (t:="tuple") (rC e) rfl ?_;right;refine lA e ?_;left;simp only[ro.g_THINGS_OF_A_MEMBER];right;refine q _ ?_
  by_cases h:xs.length=4
  .rw[h];rfl
  .have h1:gf (v4 (xs.length:Int)) (v4 4)=false:=by show((xs.length:Int) ==4)=false;simp;omega
   rw[h1,decide_eq_false h]
 cases d with
 |bad=>
  rcases hm with⟨t,hn,f⟩|⟨T,xs,rfl,m,l⟩
  .have ht:=f G H z;left;refine aJ ht (b:=false) (by cases aV ht<;>first|rfl|exact absurd rfl hn) ?_;right;exact q
  .exact tup m λb e=>by rw[e,decide_eq_false l];exact q
 |mk lo hi rw=>
  obtain⟨T,r,b,x,rfl,m,_⟩:=hm;exact tup m λb e=>by rw[e];exact q
def jv (ro:Ro K R)(hk:2<=k){ms:Option (List Md)}(hm:sM R F v ms)(z:Sep (G++F) H)(q:∀ b H',(b=true->∃ ds,ms=some ds/\1<=ds.length/\ds.length<=4/\ds.all Md.ok=true)->(b=false->∀ n,dq n ms=some (-1))->Sep (G++F) H'->Q (.bl b) H'):aa tab R k 33 [v] H Q E:=by
 delta eu;cases ms with
 |none=>
  obtain⟨t,hn,f⟩:=hm;have ht:=f G H z;left;refine aJ ht (b:=false) (by cases aV ht<;>first|rfl|exact absurd rfl hn) ?_;right;exact q false H (λe=>by cases e) (λ_ n=>rfl) z
 |some ds=>
  obtain⟨a,xs,rfl,m,l4,al⟩:=hm;have hl:=al.1;have e:=fz m z;have no:¬ (1<=ds.length/\ds.length<=4)->∀ n,dq n (some ds)=some (-1):=λh n=>by
   show(if 1<=ds.length/\ds.length<=4/\ds.all Md.ok=true then cJ n 0 [] ds else some (-1))=some (-1);rw[if_neg (λz=>h ⟨z.1,z.2.1⟩)]
  left;refine aJ (t:="list") (jy e) rfl ?_;right;refine aO e ?_;right;refine aB (λh1=>?_) (λh1=>?_)
  .left;simp only[ro.g_MOST_MEMBERS];right;refine aB (λh2=>?_) (λh2=>?_)
   .right;refine sA e ?_;refine nU (xs:=xs) nofun (λD ys H=>ys=((ds.take ys.length).map λd=>V.bl d.ok)/\Sep (pt D (wl ys)::(G++F)) H) (λD ys H hI=>aL.of (fz (G:=pt D (wl ys)::G) m hI.2)) (λD hD=>⟨rfl,z.new (o:=wl []) hD⟩) (λD ys y H hy hI=>?_) (λD ys H hl2 hI=>?_)
    .obtain⟨e2,zz⟩:=hI;obtain⟨d,ed,hd⟩:=al.get hy;have hlt:=(sw.mp hy).1;right;refine lL (G:=pt D (wl ys)::G) ro nofun hd zz ?_;refine kx.mk zz.at nofun ⟨?_,zz.set rfl⟩;rw[ci,f8,take_succ,ed,dL]
     conv=>lhs;rw[e2]
     rfl
    .obtain⟨e2,zz⟩:=hI;rw[hl2,hl,take_length]at e2;right;refine Bi (K:=R.K) (bs:=ds.map Md.ok) rfl (by rw[List.map_map];rw[e2]at zz;exact zz.at) ?_;right;have e3:(ds.map Md.ok).all id=ds.all Md.ok:=by rw[List.all_map];rfl
     rw[e3];refine q _ _ (λh=>⟨ds,rfl,by omega,by omega,h⟩) (λh n=>?_) zz.drop;show(if 1<=ds.length/\ds.length<=4/\ds.all Md.ok=true then cJ n 0 [] ds else some (-1))=some (-1);rw[if_neg (λz=>by rw[h]at z;exact Bool.noConfusion z.2.2)]
   .right;exact q false H (λe=>by cases e) (λ_=>no nofun) z
  .right;exact q false H (λe=>by cases e) (λ_=>no nofun) z
def sZ (hk:3<=k)(e:H p=some (wn [lo,hi]))(h1:∃ t,tyName lo H=some t) (h2:∃ t,tyName hi H=some t) (q:Q (.bl (aK n lo hi&&decide (vI lo<vI hi))) H):aa tab R k 34 [ut p,v4 n] H Q E:=by
 obtain⟨t,h1⟩:=h1;obtain⟨u,h2⟩:=h2;delta jV;right;refine b9 e rfl ?_;right;refine b9 e rfl ?_;right;refine nv nofun h1 h2 ?_;refine gz (λh=>?_) (λh=>?_)
 .rw[h]at q;right;refine b9 e rfl ?_;right;refine b9 e rfl ?_;cases lo<;>first|(cases h;done)|skip
  cases hi<;>first|(cases h;done)|skip
  right;exact q
 .rw[h]at q;right;exact q
end
def ji {x:Addr}(hk:1<=k)(s:Sep (pt x (.exc (R.cad 7) none [] true)::O) H)(q:∀ d H',Sep (pt x (.exc (R.cad 7) (some d) [("at",v)] true)::pt d (.own x)::O) H'->Q wf H'):aa tab R k 6 [ut x,v] H Q E:=by
 delta cw;right;refine⟨_,7,_,_,_,_,rfl,by grind,rfl,?_⟩;right;refine wb s rfl rfl (λd H hs=>?_);right;exact q d H hs
def t9 (hk:1<=k)(z:Sep O H)(q:∀ e H',Sep (lE (R.cad 7) [("at",v)] e false::O) H'->E e H'):∀ e,H e=none->aa tab R k 6 [ut e,v] (upd H e (.exc (R.cad 7) none [] true)) (λu H2=>u=wf/\∃ a i dx fs,ut e=ut a/\H2 a=some (.exc (R.cad i) dx fs true)/\tab.xc.contains i=true/\E a (upd H2 a (.exc (R.cad i) dx fs false))) E:=λe he=>by
 refine ji nofun (z.new he) (λd H3 hs3=>⟨rfl,?_⟩);exact iL (G:=⟨tab,R,aa tab R k,.calm⟩) hs3 .e rfl (λH4 hs4=>q e H4 (l8 hs4))
def Sep.qo:∀ {L O:List ah}{H:Hp},Sep (L++O) H->Sep O H
 | [],_,_,z=>z
 |_::L,_,_,z=>Sep.qo (L:=L) z.drop
section
variable {F G:List ah}{v:V}{n:Nat}
def qm {s:List (Int×Int)}:cJ n k s (.mk lo hi rw::r)=if jK n s lo hi=true then cJ n (k+1) (s++[(vI lo,vI hi)]) r else some (k:Int):=rfl
def md.at (h:md F v)(z:Sep (G++F) H):∃ t,tyName v H=some t:=let⟨t,f⟩:=h;⟨t,f G H z⟩
def uy (ro:Ro K R)(hk:4<=k){ms:Option (List Md)}(hm:sM R F v ms)(z:Sep (G++F) H)
  (q:∀ P (L':List Pt) ds H',dq n ms=none->ms=some ds->ds.length<=4->ds.all Md.ok=true->L'.map ij=ds.map wR->(∀ a ∈ L',0<=a.i/\a.i<a.j/\a.j<=n)->Sep (pt P (wl (L'.map bV))::(L'.map cI++(G++F))) H'->Q (ut P) H')
  (qe:∀ i,dq n ms=some i->∀ e H',Sep (lE (R.cad 7) [("at",v4 i)] e false::(G++F)) H'->E e H'):aa tab R k 35 [v,v4 n] H Q E:=by
 delta iG;right;refine jv ro nofun hm z (λb H1 ht hf z1=>?_);clear z;cases b with
 |false=>
  right;exact t9 nofun z1 (qe (-1) (hf rfl n))
 |true=>
  obtain⟨ds,rfl,d1,d4,dok⟩:=ht rfl;have hdm:dq n (some ds)=cJ n 0 [] ds:=by
   show(if 1<=ds.length/\ds.length<=4/\ds.all Md.ok=true then cJ n 0 [] ds else some (-1))=_;rw[if_pos ⟨d1,d4,dok⟩]
  obtain⟨a,xs,rfl,m,l,al⟩:=hm;have hl:=al.1;clear ht hf;right;rename_i P H2 z2;refine x6 (fz (G:=pt P (wl [])::G) m z2) ?_;refine iq (xs:=xs) (λj U H=>∃ u v w,∃ L':List Pt,U=[some (ut a),some (v4 n),some (ut P),u,v,w]/\L'.map ij=(ds.take j).map wR/\cJ n 0 [] ds=cJ n j (L'.map ij) (ds.drop j)/\(∀ a ∈ L',0<=a.i/\a.i<a.j/\a.j<=n)/\(∀ (i m:Nat) (a b:Pt),i<m->L'[i]? =some a->L'[m]? =some b->mY a b)/\Sep (pt P (wl (L'.map bV))::(L'.map cI++(G++F))) H) ⟨none,none,none,[],rfl,rfl,rfl,λa ha=>absurd ha (by simp),λi m a b _ e=>(by cases e),z2⟩ ?_ ?_ ?_
  .rintro j U H ⟨u,v,w,L',rfl,_,_,_,_,hs⟩;exact fz (G:=pt P (wl (L'.map bV))::(L'.map cI++G)) m (by simpa using hs)
  .rintro j x T U H hx ⟨u,v,w,L',rfl,e,ed,hv,hd,hs⟩ hT;obtain⟨d,edj,hmd⟩:=al.get hx;have hok:d.ok=true:=all_eq_true.mp dok d (cr edj);have hj:=(sw.mp hx).1;rw[hG edj]at ed;cases d with
   |bad=>cases hok
   |mk lo hi rw=>
    obtain⟨T2,r,b2,x2,rfl,mT,tlo,thi,_,_⟩:=hmd;rw[qm]at ed;have hl':L'.length=j:=by
     have:=congrArg List.length e;rw[ce,ce,db]at this
     omega
    have hs4:=hs.dg (xs:=[v4 j,ut T2]) hT;left;refine⟨T,_,rfl,.inl (aY.of hs4.atT),rfl,?_⟩;generalize upd H T _=H4 at hs4⊢;have hs4:=hs4.drop;have eT:H4 T2=some (wn [lo,hi,r,ut b2]):=d9 (G:=pt P (wl (L'.map bV))::(L'.map cI++G)) mT (by simpa using hs4);right;refine b9 eT rfl ?_;right;refine b9 eT rfl ?_;right;rename_i X H5 hs5;have hz5:Sep ((pt X (wn [lo,hi])::pt P (wl (L'.map bV))::(L'.map cI++G))++F) H5:=by simpa using hs5
    have ty1:=tlo.at hz5;have ty2:=thi.at hz5;clear hz5;refine sZ (n:=n) nofun hs5.at ty1 ty2 ?_;clear hs4 hs;have no:jK n (L'.map ij) lo hi=false->dq n (some ds)=some (j:Int):=λh=>by
     rw[hdm,ed,if_neg (by rw[h];decide)]
    have fin:∀ {H:Hp}{X:List ah},jK n (L'.map ij) lo hi=false->Sep (X++(L'.map cI++(G++F))) H->∀ e,H e=none->aa tab R (k-1) 6 [ut e,v4 j] (upd H e (.exc (R.cad 7) none [] true)) (λu H2=>u=wf/\∃ a i dx fs,ut e=ut a/\H2 a=some (.exc (R.cad i) dx fs true)/\tab.xc.contains i=true/\E a (upd H2 a (.exc (R.cad i) dx fs false))) E:=λ{H X} h z=>t9 nofun (Sep.qo (Sep.qo z)) (qe _ (no h))
    refine gz (λhp=>?_) (λhp=>?_)
    .have hp:(aK n lo hi&&decide (vI lo<vI hi))=false:=by cases h:(aK n lo hi&&decide (vI lo<vI hi))<;>rw[h]at hp<;>first|rfl|cases hp
     right;exact fin (X:=[_,_]) (by unfold jK;rw[hp];rfl) hs5
    .have hp:(aK n lo hi&&decide (vI lo<vI hi))=true:=by cases h:(aK n lo hi&&decide (vI lo<vI hi))<;>rw[h]at hp<;>first|rfl|cases hp
     obtain⟨i1,i2,rfl,rfl,g0,g1,g2⟩:∃ i1 i2,lo=v4 i1/\hi=v4 i2/\0<=i1/\i1<i2/\i2<=(n:Int):=by
      rw[li]at hp;obtain⟨h1,h2⟩:=hp;cases lo<;>first|(cases h1;done)|skip
      cases hi<;>first|(cases h1;done)|skip
      unfold aK at h1;simp only[li,decide_eq_true_eq]at h1;exact⟨_,_,rfl,rfl,h1.1,of_decide_eq_true h2,h1.2.2⟩
     right;rename_i Y H6 hs6;refine qg hs6 (hs6.get .k2) hs6.at (by rw[ce,f8];omega) (λZ H7 hs7=>?_);have hs8:Sep (tu X [v4 i1,v4 i2]::pt P (wl (L'.map bV))::pt Z (wl (L'.map bV++[ut X]))::(L'.map cI++(G++F))) H7:=(hs7.pull .k2).toT.sub (by ac_nf);have hs9:Sep (pt P (wl (L'.map bV))::pt Z (wl ((L'++[(⟨X,i1,i2⟩:Pt)]).map bV))::((L'++[(⟨X,i1,i2⟩:Pt)]).map cI++(G++F))) H7:=Sep.push (.j2 gy) (by rw[dL];exact hs8);clear hs5 hs6 hs7 hs8;have e':(L'++[(⟨X,i1,i2⟩:Pt)]).map ij=(ds.take (j+1)).map wR:=by
      rw[take_succ,edj,dL,dL,e]
      rfl
     have hgt:∀ {m:Nat}{b:Pt},(L'++[(⟨X,i1,i2⟩:Pt)])[m]? =some b->L'[m]? =some b\/m=L'.length/\b=⟨X,i1,i2⟩:=λ{m b} h=>by
      by_cases hm:m<L'.length
      .rw[getElem?_append_left hm]at h;exact .inl h
      .rw[getElem?_append_right nofun]at h;have:m-L'.length=0:=by
        have:=(sw.mp h).1;rw[f8]at this
        omega
       rw[this]at h;cases h;exact .inr ⟨by omega,rfl⟩
     right;refine uR (L:=L'++[(⟨X,i1,i2⟩:Pt)]) nofun (by rw[ci,f8];omega) hs9 .k1 (λa ha=>?_) (λhall H8 hs10=>?_) (λi m a b him ea eb hnd H8 hs10=>?_)
     .obtain⟨Δ,hp⟩:=fU (f:=cI) ha;exact⟨_,.t (.t (hp _))⟩
     .have hokP:jK n (L'.map ij) (v4 i1) (v4 i2)=true:=by
       unfold jK;rw[hp,Bool.true_and,List.all_map,all_eq_true];intro p hp2;obtain⟨i,hi⟩:=getElem?_of_mem hp2;have hil:=(sw.mp hi).1;have:=hall i L'.length p ⟨X,i1,i2⟩ hil (by rw[getElem?_append_left hil];exact hi) (by rw[getElem?_append_right (pc _),Nat.sub_self];rfl);have hv2:=hv p hp2;unfold mY at this;dsimp only at this;show decide (i2<=p.i\/p.j<=i1)=true;exact decide_eq_true nofun
      rw[if_pos hokP]at ed;refine aR rfl ?_;right;refine⟨P,_,rfl,hs10.at,?_⟩;right;refine⟨_,hs10.at,Af hs10 .e (by rw[ce];omega) (λH9 hs11=>?_)⟩;right;refine⟨_,_,_,L'++[⟨X,i1,i2⟩],rfl,e',by rw[ed,dL];rfl,λa ha=>?_,λi m a b him ea eb=>hall i m a b him ea eb,?_⟩
      .rcases mem_append.mp ha with ha|ha
       .exact hv a ha
       .rw[mem_singleton.mp ha];exact⟨g0,g1,g2⟩
      .have hs12:=(hs11.pull .k1).drop;rw[dL];exact hs12
     .have hnok:jK n (L'.map ij) (v4 i1) (v4 i2)=false:=by
       have ha:L'[i]? =some a/\b=⟨X,i1,i2⟩:=by
        rcases hgt eb with eb|⟨rfl,rfl⟩
        .rcases hgt ea with ea|⟨rfl,_⟩
         .exact absurd (hd i m a b him ea eb) hnd
         .exact absurd (sw.mp eb).1 nofun
        .rcases hgt ea with ea|⟨rfl,_⟩
         .exact⟨ea,rfl⟩
         .omega
       obtain⟨ha,rfl⟩:=ha;cases h:jK n (L'.map ij) (v4 i1) (v4 i2) with
       |false=>rfl
       |true=>
        unfold jK at h;rw[hp,Bool.true_and,List.all_map,all_eq_true]at h;have:=of_decide_eq_true (h a (cr ha));have this:i2<=a.i\/a.j<=i1:=this;refine absurd ?_ hnd;unfold mY;dsimp only
        omega
      refine cn rfl ?_;right;have hs11:Sep ([pt P (wl (L'.map bV)),pt Z (wl ((L'++[(⟨X,i1,i2⟩:Pt)]).map bV)),tu X [v4 i1,v4 i2]]++(L'.map cI++(G++F))) H8:=by
       have:=hs10.pull (A:=cI ⟨X,i1,i2⟩) (.j2 (gy (f:=cI) (x:=⟨X,i1,i2⟩)));exact(this.pull .k2).pull .k2
      exact fin hnok hs11
  .rintro U H ⟨u,v,w,L',rfl,e,ed,hv,hd,hs⟩;right;rw[hl,take_length]at e;rw[hl,drop_length]at ed;exact q P L' ds H (hdm.trans ed) rfl d4 dok e hv hs
end
def r9 (ro:Ro K R)(hk:5<=k)(z:Sep O H)(p:aj (cY R a cs ws) O Δ)(q:∀ c H',Sep (cY R c cs ws::O) H'->Q (ut c) H'):aa tab R k 29 [ut a] H Q E:=by
 delta dE;have ok:=Cc z p;right;rename_i l H1 z1;intro c dx g1 g2 g3;refine qE (cs:=[0]) ro nofun (by decide) (by decide) (λi hi=>by rw[mem_singleton.mp hi];decide) (gi z1 g1 g2 g3) .e (λH2 z2=>⟨rfl,?_⟩);obtain⟨_,z3⟩:=lS z2;obtain⟨dx1,c1,d1,z4⟩:=gd z3;obtain⟨_,z5⟩:=lS (z4.pull (.j2 (.j2 (.t p))));obtain⟨dx2,c2,d2,z6⟩:=gd z5;clear z1 z2 z3 z4 z5;right;rename_i l3 H3 z7 H4 z8 l5 H5 z9 H6 z10;refine q c H6 ?_;have z11:Sep (pt c (wp (R.cad 12) dx1 [("contents",ut l3),("permits",ut l5)])::pt dx1 (.own c)::pt l3 (wl (cs.map v4))::pt l5 (wl (ws.map v6))::pt a (wp (R.cad 12) dx2 [("contents",ut c2),("permits",ut d2)])::pt dx2 (.own a)::pt c2 (wl (cs.map v4))::pt d2 (wl (ws.map v6))::Δ) H6:=z10.sub (by ac_nf);have z12:=mX ok (fR z11);have z13:Sep (pt a (wp (R.cad 12) dx2 [("contents",ut c2),("permits",ut d2)])::pt dx2 (.own a)::pt c2 (wl (cs.map v4))::pt d2 (wl (ws.map v6))::cY R c cs ws::Δ) H6:=z12.sub (by ac_nf);exact Sep.push (.t p) (mX ok (fR z13))
def rp (ro:Ro K R)(hk:5<=k)(z:Sep O H)(p:aj (dY R b x) O Δ)(q:∀ c H',Sep (dY R c x::O) H'->Q (ut c) H'):aa tab R k 14 [ut b] H Q E:=by
 obtain⟨o,z2⟩:=zW (z.pull p);refine rA ro hk z2 (λc H' z3=>q c H' ?_);have z4:=pW o z3;have z5:=pW o (z4.pull .k1);exact Sep.push (.t p) z5
abbrev zC (R:Rt)(m l s b:Addr)(at_:Int)(ds:List V):ah:=bx λdx:Addr=>[pt m (wp (R.cad 11) dx [("deeds",ut l),("store",ut s),("boxes",ut b),("at",v4 at_)]),pt dx (.own m),pt l (wl ds)]
def DV {m l s:Addr}{ds:List V}(z:Sep (zC R m l s b at_ ds::O) H):∃ dx,Sep (pt m (wp (R.cad 11) dx [("deeds",ut l),("store",ut s),("boxes",ut b),("at",v4 at_)])::pt dx (.own m)::pt l (wl ds)::O) H:=sX z
def F8 {m l s:Addr}{ds:List V}(z:Sep (pt m (wp (R.cad 11) dx [("deeds",ut l),("store",ut s),("boxes",ut b),("at",v4 at_)])::pt dx (.own m)::pt l (wl ds)::O) H):Sep (zC R m l s b at_ ds::O) H:=pf dx z
def Eo {m l s:Addr}{ds:List V}:Ob R (zC R m l s b at_ ds) m 11 ["deeds","store","boxes","at"]:=by
 rintro H D ⟨dx,D1,D2,_,_,_,⟨_,h⟩,_⟩;exact⟨dx,_,h,rfl⟩
def jg {n:Int}(hk:2<=k)(h0:0<=at_)(h1:at_<=n)(q:Q wf H):aa tab R k 16 [v4 at_,v4 n] H Q E:=by
 delta eo;right;refine aG (t:="int") nofun rfl ?_;right;refine aB (λh=>?_) (λh=>absurd h0 h);right;refine aB (λh=>?_) (λh=>absurd h1 h);right;exact q
section
variable {h0 s b m l:Addr}{at_:Int}{ds:List V}{x:Bx}{cs:List Int}{ws:List Str}
def Di (ro:Ro K R)(hk:2<=k)(z:Sep (zC R m l s b at_ ds::cY R s cs ws::dY R b x::O) H)
  (q:∀ t t1 l1 H',Sep (pt t (wn [v4 at_,ut t1,ut l1])::pt l1 (wl (cs.map v4))::tu t1 (x.ls.map v4)::zC R m l s b at_ ds::cY R s cs ws::dY R b x::O) H'->Q (ut t) H'):aa tab R k 18 [ut m] H Q E:=by
 delta c9;obtain⟨dx,z1⟩:=DV z;right;refine bN qh z .k2 rfl rfl ?_;left;refine xx ro nofun z .k2 (λt1 H1 z2=>?_);obtain⟨dx,z3⟩:=DV (z2.pull .k1);right;refine bN i5 z2 .k2 rfl rfl ?_;left;refine qk nofun z2 .k2 (λl1 H2 z4=>?_);right;rename_i t H3 z5;exact q t t1 l1 H3 z5
end
def js {x:Addr}(hk:1<=k)(s:Sep (pt x (.exc (R.cad 5) none [] true)::O) H)(q:∀ d H',Sep (pt x (.exc (R.cad 5) (some d) [("at",v)] true)::pt d (.own x)::O) H'->Q wf H'):aa tab R k 4 [ut x,v] H Q E:=by
 delta cy;right;refine⟨_,5,_,_,_,_,rfl,by grind,rfl,?_⟩;right;refine wb s rfl rfl (λd H hs=>?_);right;exact q d H hs
def kP (hk:1<=k)(z:Sep O H)(q:∀ e H',Sep (lE (R.cad 5) [("at",v)] e false::O) H'->E e H'):∀ e,H e=none->aa tab R k 4 [ut e,v] (upd H e (.exc (R.cad 5) none [] true)) (λu H2=>u=wf/\∃ a i dx fs,ut e=ut a/\H2 a=some (.exc (R.cad i) dx fs true)/\tab.xc.contains i=true/\E a (upd H2 a (.exc (R.cad i) dx fs false))) E:=λe he=>by
 refine js nofun (z.new he) (λd H3 hs3=>⟨rfl,?_⟩);exact iL (G:=⟨tab,R,aa tab R k,.calm⟩) hs3 .e rfl (λH4 hs4=>q e H4 (l8 hs4))
def pX (h:1<=bs.length/\bs.length<=24)(hx:bs[j]? =some false)(hb:∀ (i:Nat) y,i<j->bs[i]? =some y->y=true):cW (some bs)=some (j:Int):=by
 show(if 1<=bs.length/\bs.length<=24 then _ else _)=_;rw[if_pos h];have:bs.findIdx? (λb=>!b)=some j:=by
  rw[List.findIdx?_eq_some_iff_getElem];obtain⟨hj,e⟩:=sw.mp hx;refine⟨hj,by rw[e];rfl,λi hi=>?_⟩;rw[hb i bs[i] hi (jp _)]
  decide
 rw[this]
 rfl
def il (h:¬ (1<=bs.length/\bs.length<=24)):cW (some bs)=some (-1):=by
 show(if 1<=bs.length/\bs.length<=24 then _ else _)=_;rw[if_neg h]
def gq (h:1<=bs.length/\bs.length<=24)(hb:∀ (i:Nat) y,bs[i]? =some y->y=true):cW (some bs)=none:=by
 show(if 1<=bs.length/\bs.length<=24 then _ else _)=_;rw[if_pos h];have:bs.findIdx? (λb=>!b)=none:=by
  rw[List.findIdx?_eq_none_iff];intro x hx;obtain⟨i,hi⟩:=List.mem_iff_getElem?.mp hx;rw[hb i x hi]
  rfl
 rw[this]
 rfl
def Br {Γ0:List ah}{b:Bool}(hT:G.T=tab)(hR:G.R=R)(h:jX R F v b)(z:Sep (Γ0++F) H)(q:Q (.bl b) H):cV G (.own 10) v H Q:=by
 subst hR;cases b with
 |true=>
  obtain⟨a,c,rfl,hc,o⟩:=h;obtain⟨dx,fs,e⟩:=o.at z;rcases hc with rfl|rfl|rfl<;>exact AB e (by rw[hT];rfl) (by rw[hT];rfl) q
 |false=>
  rcases h with⟨t,f⟩|⟨a,c,rfl,hc,o⟩
  .refine ET (f Γ0 H z) ?_ q;rw[hT];cases aV (f Γ0 H z)<;>rfl
  .obtain⟨dx,fs,e⟩:=o.at z;rcases hc with rfl|rfl|rfl|rfl<;>exact AB e (by rw[hT];rfl) (by rw[hT];rfl) q
section
variable {F G:List ah}{v:V}
def CH (ro:Ro K R)(hk:2<=k)(hr:wN R F v rw)(z:Sep (G++F) H)(q:cW rw=none->∀ H',Sep (G++F) H'->Q wf H')
  (qe:∀ i,cW rw=some i->∀ e H',Sep (lE (R.cad 5) [("at",v4 i)] e false::(G++F)) H'->E e H'):aa tab R k 15 [v] H Q E:=by
 delta fO;cases rw with
 |none=>
  obtain⟨t,hn,f⟩:=hr;have ht:=f G H z;left;refine aJ ht (b:=false) (by cases aV ht<;>first|rfl|exact absurd rfl hn) ?_;right;exact kP nofun z (qe (-1) rfl)
 |some bs=>
  obtain⟨a,xs,rfl,m,l4,al⟩:=hr;have hl:=al.1;have e:=fz m z;left;refine aJ (t:="list") (jy e) rfl ?_;right;refine aO e ?_;right;refine aB (λh1=>?_) (λh1=>?_)
  .left;simp only[ro.g_MOST_ROWS];right;refine aB (λh2=>?_) (λh2=>?_)
   .right;refine x6 e ?_;refine iq (xs:=xs) (λj U H=>∃ u v,U=[some (ut a),u,v]/\(∀ (i:Nat) y,i<j->bs[i]? =some y->y=true)/\Sep (G++F) H) ⟨none,none,rfl,λi y h=>absurd h (Nat.not_lt_zero _),z⟩ ?_ ?_ ?_
    .rintro j U H ⟨u,v,rfl,_,hs⟩;exact fz m hs
    .rintro j x T U H hx ⟨u,v,rfl,hb,hs⟩ hT;obtain⟨d,ed,hd⟩:=al.get hx;have hs4:=hs.dg (xs:=[v4 j,x]) hT;left;refine⟨T,_,rfl,.inl (aY.of hs4.atT),rfl,?_⟩;generalize upd H T _=H4 at hs4⊢;have hs5:=hs4.drop;clear hs4 hs;left;refine Br rfl rfl hd hs5 ?_;cases d with
     |true=>
      right;refine⟨_,_,rfl,λi y hi e=>?_,hs5⟩
      by_cases he:i=j
      .subst he;rw[ed]at e;cases e
       rfl
      .exact hb i y nofun e
     |false=>
      right;exact kP nofun hs5 (qe _ (pX nofun ed hb))
    .rintro U H ⟨u,v,rfl,hb,hs⟩;right;exact q (gq nofun λi y hy=>hb i y (by have:=(sw.mp hy).1;omega) hy) _ hs
   .right;exact kP nofun z (qe _ (il nofun))
  .right;exact kP nofun z (qe _ (il nofun))
def nP {m s:Addr}(ro:Ro K R)(hk:6<=k)(hr:wN R F v rw)(pb:dY R b x ∈ F)(z:Sep (pt m (wp (R.cad 11) dx [])::pt dx (.own m)::cY R s cs ws::(G++F)) H)
  (q:cW rw=none->∀ l2 s2 b2 ds H',Sep (zC R m l2 s2 b2 0 ds::cY R s2 cs ws::dY R b2 x::(G++F)) H'->Q wf H')
  (qe:∀ i,cW rw=some i->∀ e H',Sep (lE (R.cad 5) [("at",v4 i)] e false::(G++F)) H'->E e H'):aa tab R k 17 [ut m,v,ut s,ut b,v4 0] H Q E:=by
 delta cb;right;refine CH (G:=pt m (wp (R.cad 11) dx [])::pt dx (.own m)::cY R s cs ws::G) ro nofun hr z (λhn H1 z1=>?_) (λi hi e H1 z1=>qe i hi e H1 ((((z1.pull .k1).drop.pull .k1).drop.pull .k1).drop));obtain⟨bs,rfl⟩:∃ bs,rw=some bs:=by
  cases rw with
  |none=>cases hn
  |some bs=>exact⟨bs,rfl⟩
 obtain⟨a,xs,rfl,ma,l4,al⟩:=hr;have z1:Sep (pt m (wp (R.cad 11) dx [])::pt dx (.own m)::cY R s cs ws::(G++F)) H1:=z1;obtain⟨Δa,pa⟩:=cA ma;obtain⟨Δb,pbx⟩:=cA pb;have pl:aj (pt a (wl xs)) (G++F) _:=az pa;have pb2:aj (dY R b x) (G++F) _:=az pbx;clear z;right;refine aO (z1.get (.t (.j2 pl))) ?_;right;refine jg nofun (by decide) nofun ?_;right;refine bq z1 (z1.get (.t (.j2 pl))) (λl2 H2 z2=>?_);right;rename_i H3 z3;refine bN i5 z3 .k3 rfl rfl ?_;left;refine r9 ro nofun z3 .k3 (λs2 H4 z4=>?_);right;rename_i H5 z5;refine bN qh z5 (.t (.j2 (.j2 pb2))) rfl rfl ?_;left;refine rp ro nofun z5 (.t (.j2 (.j2 pb2))) (λb2 H6 z6=>?_);right;rename_i H7 z7 H8 z8;refine q hn l2 s2 b2 xs H8 (F8 (dx:=dx) ?_);exact z8.sub (by ac_nf)
abbrev gp (R:Rt)(q:Addr×List Int):ah:=bx λe:Addr×Addr×Addr×List V×Bx×List Str=>zC R q.1 e.1 e.2.1 e.2.2.1 0 e.2.2.2.1::cY R e.2.1 q.2 e.2.2.2.2.2::dY R e.2.2.1 e.2.2.2.2.1::[]
abbrev jh (q:Addr×List Int):V:=ut q.1
def FT {q:Addr×List Int}(z:Sep (gp R q::O) H):∃ l s b ds x ws,Sep (zC R q.1 l s b 0 ds::cY R s q.2 ws::dY R b x::O) H:=by
 obtain⟨⟨l,s,b,ds,x,ws⟩,z⟩:=sX z;exact⟨l,s,b,ds,x,ws,z⟩
def Ed {m l s:Addr}{ds:List V}(z:Sep (zC R m l s b 0 ds::cY R s cs ws::dY R b x::O) H):Sep (gp R (m,cs)::O) H:=pf (l,s,b,ds,x,ws) z
def Bo {T:Addr}{r:V}{i:Nat}(ro:Ro K R)(hk:7<=k)(hr:wN R F r rw)(pb:dY R b x ∈ F)(mT:tu T [lo,hi,r,ut b] ∈ F)(mC:pt C (wl (cs.map v4)) ∈ F)(mp:tu p [v4 i,v4 j] ∈ F)(hij:i<j)(hj:j<=cs.length)(c60:cs.length<=60)(hc:bQ cs)(z:Sep (G++F) H)
  (q:cW rw=none->∀ m H',Sep (gp R (m,(cs.drop i).take (j-i))::(G++F)) H'->Q (ut m) H')
  (qe:∀ i,cW rw=some i->∀ e H',Sep (lE (R.cad 5) [("at",v4 i)] e false::(G++F)) H'->E e H'):aa tab R k 36 [ut C,ut p,ut T] H Q E:=by
 delta fm;right;refine b9 (d9 mT z) rfl ?_;right;refine b9 (d9 mp z) rfl ?_;right;refine b9 (d9 mp z) rfl ?_;right;refine xZ z (fz mC z) (λS H2 z2=>?_);rw[CJ (by rw[ce];omega) (by rw[ce];omega),<-map_drop,<-map_take]at z2;have el:((cs.drop i).take (j-i)).length=j-i:=by rw[db,im];omega
 right;intro a dx g1 g2 g3;refine qE ro nofun nofun nofun (λy hy=>hc y (mem_of_mem_drop (mem_of_mem_take hy))) (gi z2 g1 g2 g3) .e (λH3 z3=>⟨rfl,?_⟩);have z3':Sep ((cY R a ((cs.drop i).take (j-i)) (sn ((cs.drop i).take (j-i)).length "open")::pt S (wl (((cs.drop i).take (j-i)).map v4))::G)++F) H3:=z3;clear z2 z3;right;refine b9 (d9 mT z3') rfl ?_;right;intro m dx3 g1 g2 g3;refine nP (G:=pt S (wl (((cs.drop i).take (j-i)).map v4))::G) (b:=b) (x:=x) ro nofun hr pb (gi z3' g1 g2 g3) (λhn l2 s2 b2 ds H7 z7=>⟨rfl,?_⟩) (λi hi e H7 z7=>qe i hi e H7 ((z7.pull .k1).drop));exact q hn m H7 (Ed ((z7.pull .k3).drop))
end
@[irreducible] noncomputable def sP (I:Addr->List V->Hp->Prop) (D:Addr) (ys:List V) (rest:St) (x y:Option V):VK:=λv H3=>∃ zs,H3 D=some (wl zs)/\zs.length<bn/\∃ ys2 x2 x3,x::y::rest=x2::x3::rest/\ys2.length=ys.length+1/\I D ys2 (upd H3 D (wl (zs++[v])))
def sP.mk {I:Addr->List V->Hp->Prop}{D:Addr}{rest:St}{x y:Option V}{H3:Hp}(h1:H3 D=some (wl ys))(hl:ys.length<=999)(h2:I D (ys++[v]) (upd H3 D (wl (ys++[v])))):sP I D ys rest x y v H3:=
 by unfold sP;exact⟨ys,h1,cL nofun,ys++[v],x,y,rfl,by simp,h2⟩
def vF {te:TE}{rest:St}{tp1 tp2:Bool}(hn:xs.length=ys.length)(I:Addr->List V->Hp->Prop)(hl:∀ D zs H,I D zs H->Sq R.K tp1 H a xs/\Sq R.K tp2 H b ys) (h0:∀ D,H D=none->I D [] (upd H D (wl [])))
  (hs:∀ D zs x y T H',xs[zs.length]? =some x->ys[zs.length]? =some y->I D zs H'->H' T=none->te (some x::some y::rest) (upd H' T (wn [x,y])) (sP I D zs rest (some x) (some y)))
  (hd:∀ D zs H',zs.length=xs.length->I D zs H'->Q (ut D) H'):LCt R.K 2 te (Dv R.K tp1 a tp2 b) (none::none::rest) H Q:=by
 unfold LCt;intro D hD;refine⟨λi m σ' H'=>m=xs.length-i/\i<=xs.length/\∃ ys x0 x1,σ'=x0::x1::rest/\ys.length=i/\I D ys H',⟨xs.length,by simp,Nat.zero_le _,[],none,none,rfl,rfl,h0 D hD⟩,λi m σ' H' ⟨e,hi,zs,x0,x1,e1,e2,h⟩=>?_⟩;subst e1 e2;obtain⟨g1,g2⟩:=hl D zs H' h
 by_cases hlt:zs.length<xs.length
 .refine .inr ⟨⟨xs,ys,xs[zs.length],ys[zs.length]'(hn▸hlt),g1,g2,jp hlt,jp (hn▸hlt)⟩,λσ2 H2=>∃ ys2 x2 x3,σ2=x2::x3::rest/\ys2.length=zs.length+1/\I D ys2 H2,λσ2 H2 ⟨ys2,x2,x3,f1,f2,f3⟩=>⟨xs.length-(zs.length+1),by omega,rfl,hlt,ys2,x2,x3,f1,f2,f3⟩,λx H'' y=>?_⟩;obtain⟨T,v,v',hT,rfl,rfl,hy,hy'⟩:=y;have z:=hs D zs v v' T H' (hy xs g1) (hy' ys g2) h hT;refine⟨T,[v,v'],rfl,aY.of aq,rfl,rfl,?_⟩;unfold sP at z;exact⟨λ_=>z,λe=>nomatch e⟩
 .have:zs.length=xs.length:=by omega
  exact .inl ⟨⟨xs,ys,g1,g2,.inl (Nat.le_of_eq this.symm)⟩,hd D zs H' this h⟩
section
variable {cs:List Int}{ws:List Str}
def yy (hk:1<=k)(z:Sep O H)(p:aj (cY R a cs ws) O Δ)(q:Q (v4 cs.length) H):aa tab R k 24 [ut a] H Q E:=by
 obtain⟨hok,z2⟩:=lS (z.pull p);refine Cp hk z2 ?_;rw[ce];exact q
end
def jR:∀ {xs:List V},(∀ x ∈ xs,gM x=true)->∃ cs:List Int,xs=cs.map v4/\bQ cs
 | [],_=>⟨[],rfl,λi hi=>absurd hi (by simp)⟩
 |x::xs,h=>by
  obtain⟨cs,e,hc⟩:=jR λy hy=>h y (dl _ hy)
  have hx:=h x le;cases x<;>first|(cases hx;done)|skip
  rename_i i;have hx:(decide (0<=i)&&decide (i<=1000000000))=true:=hx;simp only[li,decide_eq_true_eq]at hx;refine⟨i::cs,by rw[e];rfl,λj hj=>?_⟩;rcases lf.mp hj with rfl|hj
  .exact hx
  .exact hc j hj
def qS:fW (.mk lo hi rw::r)=match cW rw with
  |some a=>some a
  |none=>fW r:=rfl
section
variable {F G:List ah}{vC vM:V}{c dx:Addr}
abbrev Fn (R:Rt)(c:Addr)(cs:List Int):ah:=bx λe:Addr×Addr×Addr×Addr×List Str×List Pt×List (Addr×List Int)=>pt c (wp (R.cad 13) e.1 [("ground",ut e.2.1),("parts",ut e.2.2.1),("machines",ut e.2.2.2.1)])::pt e.1 (.own c)::pt e.2.2.1 (wl (e.2.2.2.2.2.1.map bV))::pt e.2.2.2.1 (wl (e.2.2.2.2.2.2.map jh))::cY R e.2.1 cs e.2.2.2.2.1::pu (e.2.2.2.2.2.1.length=e.2.2.2.2.2.2.length/\e.2.2.2.2.2.1.length<=4/\∀ (j:Nat) (a:Pt) (q:Addr×List Int),e.2.2.2.2.2.1[j]? =some a->e.2.2.2.2.2.2[j]? =some q->0<=a.i/\a.j<=cs.length/\a.i+q.2.length=a.j)::(e.2.2.2.2.2.1.map cI++e.2.2.2.2.2.2.map (gp R))
def xa (ro:Ro K R)(hk:9<=k){ms:Option (List Md)}(mC:pt C (wl xs) ∈ F)(tC:∀ x ∈ xs,md F x) (hm:sM R F vM ms) (z:Sep (pt c (wp (R.cad 13) dx [])::pt dx (.own c)::(G++F)) H)
  (q:∀ cs ds H',xs=cs.map v4->1<=cs.length->cs.length<=60->bad xs=none->dq xs.length ms=none->ms=some ds->fW ds=none->Sep (Fn R c cs::(G++F)) H'->Q wf H')
  (qs:∀ i,bad xs=some i->∀ e H',Sep (lE (R.cad 1) [("at",v4 i)] e false::(G++F)) H'->E e H')
  (qp:∀ i,bad xs=none->dq xs.length ms=some i->∀ e H',Sep (lE (R.cad 7) [("at",v4 i)] e false::(G++F)) H'->E e H')
  (qr:∀ i ds,bad xs=none->dq xs.length ms=none->ms=some ds->fW ds=some i->∀ e H',Sep (lE (R.cad 5) [("at",v4 i)] e false::(G++F)) H'->E e H'):aa tab R k 37 [ut c,ut C,vM] H Q E:=by
 delta bW;obtain⟨ΔC,pC⟩:=cA mC;have pC':aj (pt C (wl xs)) (pt c (wp (R.cad 13) dx [])::pt dx (.own c)::(G++F)) _:=.j2 (az pC);have ztys:Sep (tys xs::pt c (wp (R.cad 13) dx [])::pt dx (.own c)::(G++F)) H:=Sep.Ad (λx hx=>by
  obtain⟨t,f⟩:=tC x hx;exact⟨t,f (pt c (wp (R.cad 13) dx [])::pt dx (.own c)::G) H z⟩) z
 have z1:=(ztys.pull (.t pC'));right;intro a dx2 g1 g2 g3;refine fA (xs:=xs) ro nofun (gi (z1.sub (Γ':=pt C (wl xs)::tys xs::pt c (wp (R.cad 13) dx [])::pt dx (.own c)::(G++ΔC)) (by exact .refl)) g1 g2 g3) (λhb H2 z2=>⟨rfl,?_⟩) (λi hb e H2 z2=>?_)
 rotate_left
 .have z3:Sep (lE (R.cad 1) [("at",v4 i)] e false::pt C (wl xs)::(G++ΔC)) H2:=(((z2.pull .k2).drop.pull .k2).drop.pull .k2).drop;exact qs i hb e H2 (Sep.push (.t (az pC)) (z3.pull .k1))
 have hb2:=j9 hb;obtain⟨cs,rfl,hc⟩:=jR (yw hb);have hlen:(cs.map v4).length=cs.length:=ce ..;rw[hlen]at hb2;have z3:Sep (cY R a cs (sn cs.length "open")::pt c (wp (R.cad 13) dx [])::pt dx (.own c)::(G++F)) H2:=by
  have y1:Sep (cj (R.cad 12) a (cs.map v4) ((sn cs.length ("open":Str)).map v6)::pt C (wl (cs.map v4))::tys (cs.map v4)::pt c (wp (R.cad 13) dx [])::pt dx (.own c)::(G++ΔC)) H2:=by
   rw[map_replicate,<-hlen];exact z2
  have y2:=mX (ws:=sn cs.length ("open":Str)) ⟨by rw[length_replicate],hb2.1,hb2.2,hc⟩ y1;have y3:=(y2.pull .k2).drop;exact Sep.push (.j2 (.t (az pC))) (y3.pull .k1)
 clear z z1 z2 ztys pC';right;rename_i H3 z4;refine bN i5 z4 .e rfl rfl ?_;left;refine yy nofun z4 .e ?_;right;have z5:Sep ((cY R a cs (sn cs.length "open")::pt c (wp (R.cad 13) dx [("ground",ut a)])::pt dx (.own c)::G)++F) H3:=z4.sub (Γ':=cY R a cs (sn cs.length "open")::pt c (wp (R.cad 13) dx [("ground",ut a)])::pt dx (.own c)::(G++F)) (by ac_nf);clear z3 z4;refine uy (n:=cs.length) ro nofun hm z5 (λP L' ds H5 hdm hms d4 dok eL hv z6=>?_) (λi hi e H5 z6=>qp i hb (by rw[hlen];exact hi) e H5 (((z6.pull .k1).drop.pull .k1).drop.pull .k1).drop);subst hms;obtain⟨aM,ys,rfl,mM,lM,al⟩:=hm;have hl:=al.1;have hlL:L'.length=ds.length:=by
  have:=congrArg List.length eL
  rwa [ce,ce]at this
 have z7:Sep (pt P (wl (L'.map bV))::cY R a cs (sn cs.length "open")::pt c (wp (R.cad 13) dx [("ground",ut a)])::pt dx (.own c)::(G++(L'.map cI++F))) H5:=Sep.mv (P:=[_]) (Δ:=L'.map cI) (L:=cY R a cs (sn cs.length "open")::pt c (wp (R.cad 13) dx [("ground",ut a)])::pt dx (.own c)::G) (O:=F) z6;clear z5 z6;right;rename_i H6 z8;have z9:Sep (pt P (wl (L'.map bV))::cY R a cs (sn cs.length "open")::pt c (wp (R.cad 13) dx [("ground",ut a),("parts",ut P)])::pt dx (.own c)::(G++(L'.map cI++F))) H6:=z8.sub (by ac_nf);clear z7 z8;generalize hF2:L'.map cI++F=F2 at z9;have up:∀ {A:ah},A ∈ F->A ∈ F2:=λh=>by rw[<-hF2];exact ak h
 obtain⟨W,hW⟩:∃ W,W=([pt P (wl (L'.map bV)),cY R a cs (sn cs.length "open"),pt c (wp (R.cad 13) dx [("ground",ut a),("parts",ut P)]),pt dx (.own c)]:List ah):=⟨_,rfl⟩;have z10:Sep ((W++G)++F2) H6:=by rw[hW,io];exact z9
 have cut:∀ {X:ah}{B:List ah}{H:Hp},Sep (X::((B++(W++G))++F2)) H->Sep (X::(G++F)) H:=λ{X B H} z=>by
  have y1:Sep ([X]++((B++W)++(G++F2))) H:=by simpa using z
  have y2':Sep ([X]++(G++F2)) H:=Sep.cut y1;have y2:Sep ((X::G)++(L'.map cI++F)) H:=by rw[hF2];exact y2'
  exact Sep.cut y2
 left;refine BC (tp1:=false) (tp2:=false) (aL.of z9.at) (aL.of (fz (up mM) z10)) ?_;clear z9;refine vF (xs:=L'.map bV) (ys:=ys) (by rw[ce,hlL,hl]) (λD zs H=>∃ M:List (Addr×List Int),zs=M.map jh/\(∀ (j:Nat) (a:Pt) (q:Addr×List Int),L'[j]? =some a->M[j]? =some q->0<=a.i/\a.j<=cs.length/\a.i+q.2.length=a.j)/\fW ds=fW (ds.drop M.length)/\Sep (pt D (wl zs)::((M.map (gp R)++(W++G))++F2)) H) (λD zs H ⟨M,_,_,_,zz⟩=>⟨?_,?_⟩) (λD hD=>⟨[],rfl,λj a q _ e=>(by cases e),rfl,z10.new (o:=wl []) hD⟩) (λD zs x y T H hx hy hI hT=>?_) (λD zs H hl2 hI=>?_)
 .have y1:Sep (pt P (wl (L'.map bV))::(cY R a cs (sn cs.length "open")::pt c (wp (R.cad 13) dx [("ground",ut a),("parts",ut P)])::pt dx (.own c)::(G++F2))) H:=by
   have:Sep ((pt D (wl zs)::M.map (gp R))++(W++(G++F2))) H:=by simpa using zz
   have:=Sep.qo this;rw[hW]at this;exact this
  exact aL.of y1.at
 .exact aL.of (fz (G:=pt D (wl zs)::(M.map (gp R)++(W++G))) (up mM) zz)
 .obtain⟨M,rfl,hM,hdr,zz⟩:=hI;rw[ce]at hx hy;rw[ii]at hx;obtain⟨pp,ep,rfl⟩:=lv.mp hx;obtain⟨d,ed,hd⟩:=al.get hy;have hok:d.ok=true:=all_eq_true.mp dok d (cr ed);have hn:=(sw.mp ed).1;obtain⟨v0,v1,v2⟩:=hv pp (cr ep);cases d with
  |bad=>cases hok
  |mk lo hi rw=>
   obtain⟨T2,r,b,x,rfl,mT,_,_,hrw,mb⟩:=hd;have hrw2:wN R F2 r rw:=by rw[<-hF2];exact hrw.mono
   have z2:=(zz.dg (xs:=[bV pp,ut T2]) hT).drop;generalize upd H T _=H2 at z2;have mp:tu pp.p [v4 ((pp.i.toNat:Nat):Int),v4 ((pp.j.toNat:Nat):Int)] ∈ F2:=by
    rw[<-hF2,Int.toNat_of_nonneg v0,Int.toNat_of_nonneg nofun];exact mem_append_left _ (List.mem_map.mpr ⟨pp,cr ep,rfl⟩)
   rw[hG ed,qS]at hdr;right;refine Bo (G:=pt D (wl (M.map jh))::(M.map (gp R)++(W++G))) (F:=F2) (cs:=cs) (i:=pp.i.toNat) (j:=pp.j.toNat) (p:=pp.p) ro nofun hrw2 (up mb) (up mT) (up mC) mp nofun nofun hb2.2 hc z2 (λhw m H3 z3=>?_) (λi hi e H3 z3=>?_)
   .have z4:=(z3.pull .k1).set (o':=wl (M.map jh++[ut m])) rfl;refine sP.mk (z3.get .k1) (by rw[ce];omega) ⟨M++[(m,(cs.drop pp.i.toNat).take (pp.j.toNat-pp.i.toNat))],by rw[dL];rfl,λj a q ea eq=>?_,?_,?_⟩
    .by_cases hj:j<M.length
     .rw[getElem?_append_left hj]at eq;exact hM j a q ea eq
     .rw[getElem?_append_right nofun]at eq;have h0:j-M.length=0:=by
       have:=(sw.mp eq).1;rw[f8]at this
       omega
      rw[h0]at eq;cases eq;have:j=M.length:=by omega
      subst this;rw[ep]at ea;cases ea;refine⟨v0,v2,?_⟩;show pp.i+(((cs.drop pp.i.toNat).take (pp.j.toNat-pp.i.toNat)).length:Int)=pp.j;rw[db,im]
      omega
    .rw[hdr,hw,ci,f8]
    .have z5:Sep (gp R (m,(cs.drop pp.i.toNat).take (pp.j.toNat-pp.i.toNat))::pt D (wl (M.map jh++[ut m]))::(M.map (gp R)++((W++G)++F2))) (upd H3 D (wl (M.map jh++[ut m]))):=by
      have:=z4.pull (A:=gp R (m,(cs.drop pp.i.toNat).take (pp.j.toNat-pp.i.toNat))) .k1;simpa using this
     have z6:=Sep.push (.t (gy (f:=gp R))) z5;simpa using z6
   .have z4:Sep (lE (R.cad 5) [("at",v4 i)] e false::(((pt D (wl (M.map jh))::M.map (gp R))++(W++G))++F2)) H3:=z3;exact qr i ds hb (by rw[hlen];exact hdm) rfl (by rw[hdr,hi]) e H3 (cut z4)
 .obtain⟨M,rfl,hM,hdr,zz⟩:=hI;rw[ce,ce]at hl2;rw[hl2,hlL,drop_length]at hdr;have y1:Sep (pt D (wl (M.map jh))::pt P (wl (L'.map bV))::cY R a cs (sn cs.length "open")::pt c (wp (R.cad 13) dx [("ground",ut a),("parts",ut P)])::pt dx (.own c)::(L'.map cI++(M.map (gp R)++(G++F)))) H:=by
   have y2:Sep ([pt D (wl (M.map jh))]++(M.map (gp R)++(W++(G++(L'.map cI++F))))) H:=by rw[hF2];simpa using zz
   have y3:Sep (([pt D (wl (M.map jh))]++W)++((M.map (gp R)++G)++(L'.map cI++F))) H:=by simpa using Sep.mv y2
   have y4:=Sep.mv y3;rw[hW]at y4;simpa using y4
  clear zz z10;right;rename_i H8 z12;refine q cs ds H8 rfl hb2.1 hb2.2 hb (by rw[hlen];exact hdm) rfl (by rw[hdr];rfl) (pf (dx,a,P,D,sn cs.length "open",L',M) ?_);have y5:Sep (pt c (wp (R.cad 13) dx [("ground",ut a),("parts",ut P),("machines",ut D)])::pt dx (.own c)::pt P (wl (L'.map bV))::pt D (wl (M.map jh))::cY R a cs (sn cs.length "open")::(L'.map cI++(M.map (gp R)++(G++F)))) H8:=z12.sub (by ac_nf);refine Sep.push (.j2 .k3) (Sep.uU ⟨hl2.symm,by show L'.length<=4;omega,hM⟩ ?_);have y6:Sep (pt c (wp (R.cad 13) dx [("ground",ut a),("parts",ut P),("machines",ut D)])::pt dx (.own c)::pt P (wl (L'.map bV))::pt D (wl (M.map jh))::cY R a cs (sn cs.length "open")::((L'.map cI++M.map (gp R))++(G++F))) H8:=by rw[io];exact y5
  exact y6
end
section
variable {c:Addr}{cs:List Int}
def vG (ro:Ro K R)(hk:4<=k)(c60:cs.length<=60)(z:Sep (Fn R c cs::O) H)
  (h:∀ A (xs:List Int) H',xs.length=cs.length->Sep (pt A (wl (xs.map v4))::O) H'->Q (ut A) H'):aa tab R k 41 [ut c] H Q E:=by
 delta f6;obtain⟨⟨dx,gr,pl,ml,ws,L,M⟩,z0⟩:=sX z;have z0':=z0.pull (.j2 .k3);obtain⟨hlL,hl4,hv⟩:=z0'.pure;dsimp only at hlL hl4 hv;have z1:Sep (pt c (wp (R.cad 13) dx [("ground",ut gr),("parts",ut pl),("machines",ut ml)])::pt dx (.own c)::pt pl (wl (L.map bV))::pt ml (wl (M.map jh))::cY R gr cs ws::(L.map cI++(M.map (gp R)++O))) H:=by
  have:=z0'.drop;have y:Sep (pt c (wp (R.cad 13) dx [("ground",ut gr),("parts",ut pl),("machines",ut ml)])::pt dx (.own c)::pt pl (wl (L.map bV))::pt ml (wl (M.map jh))::cY R gr cs ws::((L.map cI++M.map (gp R))++O)) H:=this;rw[io]at y;exact y
 clear z z0 z0';right;refine bN i5 z1 (by symm) rfl rfl ?_;left;refine qk nofun z1 (by symm) (λA H2 z2=>?_);clear z1;right;refine BC (tp1:=false) (tp2:=false) (aL.of (z2.get .k3)) (aL.of (z2.get (.j2 .k2))) ?_;refine qF (xs:=L.map bV) (ys:=M.map jh) (λj U H=>∃ A u v,∃ xs:List Int,U=[some (ut c),some (ut A),u,v]/\xs.length=cs.length/\Sep (pt A (wl (xs.map v4))::pt c (wp (R.cad 13) dx [("ground",ut gr),("parts",ut pl),("machines",ut ml)])::pt dx (.own c)::pt pl (wl (L.map bV))::pt ml (wl (M.map jh))::cY R gr cs ws::(L.map cI++(M.map (gp R)++O))) H) (by rw[ce,ce,hlL]) ⟨A,none,none,cs,rfl,rfl,z2⟩ ?_ ?_ ?_
 .rintro j U H ⟨A,u,v,xs,rfl,_,zz⟩;exact⟨aL.of (zz.get .k3),aL.of (zz.get (.j2 .k2))⟩
 .rintro j x y T U H hx hy ⟨A,u,v,xs,rfl,hxs,zz⟩ hT;rw[ii]at hx hy;obtain⟨pp,ep,rfl⟩:=lv.mp hx;obtain⟨q,eq,rfl⟩:=lv.mp hy;obtain⟨f0,f1,f2⟩:=hv j pp q ep eq;have hs4:=zz.dg (xs:=[bV pp,jh q]) hT;obtain⟨Δ1,p1⟩:=fU (f:=cI) (cr ep);obtain⟨Δ2,p2⟩:=fU (f:=gp R) (cr eq);left;refine⟨T,_,rfl,.inl (aY.of hs4.atT),rfl,?_⟩;generalize upd H T _=H4 at hs4⊢;have z5:=hs4.drop;clear hs4 zz;right;refine b9 (z5.mZ (.j2 (.j2 (.j2 (p1 _)))) ) rfl ?_;right;rename_i B H6 z6;have g1:pp.i=((pp.i.toNat:Nat):Int):=(Int.toNat_of_nonneg f0).symm;have g2:pp.j=((pp.j.toNat:Nat):Int):=(Int.toNat_of_nonneg nofun).symm;have g3:pp.j.toNat<=cs.length:=by omega
  have g4:pp.i.toNat+q.2.length=pp.j.toNat:=by omega
  rw[g1,pE (by rw[ce];omega),<-map_take]at z6;have pq:aj (gp R q) (pt B (wl ((xs.take pp.i.toNat).map v4))::pt A (wl (xs.map v4))::pt c (wp (R.cad 13) dx [("ground",ut gr),("parts",ut pl),("machines",ut ml)])::pt dx (.own c)::pt pl (wl (L.map bV))::pt ml (wl (M.map jh))::cY R gr cs ws::(L.map cI++(M.map (gp R)++O))) _:=.t (.j2 (.j2 (.j2 (az (p2 _)))));obtain⟨l,s,b,ds,x2,ws2,z7⟩:=FT (z6.pull pq);refine bN Eo z7 .e rfl rfl ?_;left;refine Di ro nofun z7 (λt t1 l1 H7 z8=>?_);refine b9 z8.at rfl ?_;right;have z9:Sep (gp R q::pt l1 (wl (q.2.map v4))::(pt B (wl ((xs.take pp.i.toNat).map v4))::pt A (wl (xs.map v4))::pt c (wp (R.cad 13) dx [("ground",ut gr),("parts",ut pl),("machines",ut ml)])::pt dx (.own c)::pt pl (wl (L.map bV))::pt ml (wl (M.map jh))::cY R gr cs ws::(L.map cI++(Δ2++O)))) H7:=Ed (z8.sub (by ac_nf));have z10:Sep (pt l1 (wl (q.2.map v4))::pt B (wl ((xs.take pp.i.toNat).map v4))::pt A (wl (xs.map v4))::pt c (wp (R.cad 13) dx [("ground",ut gr),("parts",ut pl),("machines",ut ml)])::pt dx (.own c)::pt pl (wl (L.map bV))::pt ml (wl (M.map jh))::cY R gr cs ws::(L.map cI++(M.map (gp R)++O))) H7:=Sep.push (.t pq) z9;clear z5 z6 z7 z8 z9;refine qg z10 (z10.get .k1) z10.at (by rw[ce,ce,db];omega) (λC1 H8 z11=>?_);right;refine b9 (z11.mZ (.t (.j2 (.j2 (.j2 (.j2 (p1 _)))))) ) rfl ?_;right;rename_i D2 H9 z12;rw[g2,tO (by rw[ce];omega),<-map_drop]at z12;refine qg z12 (z12.get .k1) z12.at (by simp only[ci,ce,db,im];omega) (λA2 H10 z13=>?_);right;refine⟨A2,_,_,xs.take pp.i.toNat++q.2++xs.drop pp.j.toNat,rfl,?_,?_⟩
  .rw[ci,ci,db,im]
   omega
  .rw[dL,dL];exact z13.sub (by ac_nf)
 .rintro U H ⟨A,u,v,xs,rfl,hxs,zz⟩;right;refine h A xs H hxs ?_;have y:Sep ([pt A (wl (xs.map v4))]++(([pt c (wp (R.cad 13) dx [("ground",ut gr),("parts",ut pl),("machines",ut ml)]),pt dx (.own c),pt pl (wl (L.map bV)),pt ml (wl (M.map jh)),cY R gr cs ws]++(L.map cI++M.map (gp R)))++O)) H:=by simpa using zz
  exact Sep.cut y
end
abbrev o8:jr->jr
 | .cons (.for _ _ b) _=>b
 |_=>.nil
abbrev fe (fl:Option (List V))(ms:Option (List Md)):Str×Int:=match gX fl with
 |some a=>("store",a)
 |none=>match dq (fl.getD []).length ms with
  |some a=>("part",a)
  |none=>match fW (ms.getD []) with
   |some a=>("rows",a)
   |none=>("made",((fl.getD []).length:Int))
section
variable {F G:List ah}{vC vM:V}{c dx:Addr}
def yP (hk:9<=k)(hC:nF F "list" vC) (z:Sep (pt c (wp (R.cad 13) dx [])::pt dx (.own c)::(G++F)) H) (q:∀ e H',Sep (lE (R.cad 1) [("at",v4 (-1))] e false::(G++F)) H'->E e H'):aa tab R k 37 [ut c,vC,vM] H Q E:=by
 delta bW;obtain⟨t,hn,f⟩:=hC;right;intro a dx2 g1 g2 g3;have z2:=gi (C:=R.cad 12) z g1 g2 g3;refine gZ nofun z2 (f (pt a (wp (R.cad 12) dx2 [])::pt dx2 (.own a)::pt c (wp (R.cad 13) dx [])::pt dx (.own c)::G) _ z2) hn (λe H2 z3=>?_);exact q e H2 ((z3.pull .k1).drop.pull .k1).drop
def AZ:Ob R (Fn R c cs) c 13 ["ground","parts","machines"]:=by
 rintro H D ⟨⟨dx,gr,pl,ml,ws,L,M⟩,D1,D2,_,_,_,⟨_,h⟩,_⟩;exact⟨dx,_,h,rfl⟩
def Bp {k:V}(h1:ai k=true)(h2:xs.all ai=true)(q:Q (v4 (xs.countP (λx=>gf x k))) H):yo .count a xs [k] H Q:=by unfold yo;exact⟨k,rfl,h1,h2,q⟩
def ya {i:Int}{e:Addr}{cl:Nat}{ed:Addr}{J:Nat}(hcl:cl=1/\w="store"/\J=0\/cl=7/\w="part"/\J=1\/cl=5/\w="rows"/\J=2) (z:Sep (pt e (.exc (R.cad cl) (some ed) [("at",v4 i)] false)::pt ed (.own e)::(G++F)) H) (q:∀ t H',Sep (pt t (wn [v6 w,v4 i])::(G++F)) H'->Q (ut t) H'):
  wH (match cC.body with| .cons (.tryx _ hs) _=>hs|_=>.nil) ⟨tab,R,aa tab R (k-1),.calm⟩ (D5 { nx:=λ_ H'=>Q wf H',rt:=Q } λσ1 H1=>wB (a7 1 cC.body) ⟨tab,R,aa tab R (k-1),.calm⟩ { nx:=λ_ H'=>Q wf H',rt:=Q } (λ_=>E) σ1 H1) [some vC,some vM,none,none,none,none] e H:=by
 rcases hcl with⟨rfl,rfl,hJ⟩|⟨rfl,rfl,hJ⟩|⟨rfl,rfl,hJ⟩
 all_goals
  left;refine⟨_,_,_,true,z.at,rfl,rfl,?_⟩;right;rename_i L H1 z1;refine CN z1 rfl (z1.get .k1) (b:=false) rfl (λp H2 z2=>?_);right;refine⟨L,_,rfl,z2.get .k1,?_⟩;left;refine⟨_,z2.get .k1,?_⟩;refine Bp (k:=.bl true) rfl rfl ?_;right;rename_i L2 H3 z3;refine⟨L,_,rfl,z3.get .k2,?_⟩;left;refine Fq (j:=J) (x:=.bl true) (λx=>gf x (.bl true)) (z3.get .k2) (by decide) (λx hx=>⟨0,by decide,.flat ?_ rfl⟩) (by rw[hJ];rfl) rfl (λm x h1 h2=>?_) ?_
  .simp only[lf,not_mem_nil,or_false]at hx;rcases hx with rfl|rfl|rfl<;>rfl
  .rw[hJ]at h1;rcases m with _|_|m<;>first|(cases h2;rfl)|omega
  rw[hJ];left;refine bH z3.at rfl ?_;right;rename_i t H4 z4;exact q t H4 (z4.sub (by ac_nf))
def qc (ro:Ro K R)(hk:10<=k){ms:Option (List Md)}(hC:yd F vC fl)(hM:sM R F vM ms)(z:Sep (G++F) H)(q:∀ t H',Sep (pt t (wn [v6 (fe fl ms).1,v4 (fe fl ms).2])::(G++F)) H'->Q (ut t) H'):aa tab R k 61 [vC,vM] H Q E:=by
 delta cC;right;intro c dx g1 g2 g3;have z1:=gi (C:=R.cad 13) z g1 g2 g3;clear z;cases fl with
 |none=>
  refine yP nofun hC z1 (λe H2 z2=>?_);obtain⟨ed,z3⟩:=pS z2;exact ya (J:=0) (.inl ⟨rfl,rfl,rfl⟩) z3 q
 |some xs=>
  obtain⟨C,rfl,mC,lC,tC⟩:=hC;refine xa ro nofun mC tC hM z1 (λcs ds H2 hxs c0 c60 hb hdm hms hdr z2=>⟨rfl,?_⟩) (λi hi e H2 z2=>?_) (λi hb hi e H2 z2=>?_) (λi ds hb hdm hms hi e H2 z2=>?_)
  .subst hms;have hq:fe (some xs) (some ds)=(("made":Str),(xs.length:Int)):=by
    unfold fe;rw[show gX (some xs)=none from hb];dsimp only[Option.getD_some];rw[hdm];dsimp only;rw[hdr]
   rw[hq]at q;right;refine bN AZ z2 .e rfl rfl ?_;left;refine vG ro nofun c60 z2 (λA ys H3 hy z3=>?_);right;rename_i t H4 z4;rw[ce,hy,show cs.length=xs.length by rw[hxs,ce]]at z4;exact q t H4 (z4.pull .k1).drop
  .have hq:fe (some xs) ms=(("store":Str),i):=by
    unfold fe;rw[show gX (some xs)=some i from hi]
   rw[hq]at q;obtain⟨ed,z3⟩:=pS z2;exact ya (J:=0) (.inl ⟨rfl,rfl,rfl⟩) z3 q
  .have hq:fe (some xs) ms=(("part":Str),i):=by
    unfold fe;rw[show gX (some xs)=none from hb];dsimp only[Option.getD_some];rw[hi]
   rw[hq]at q;obtain⟨ed,z3⟩:=pS z2;exact ya (J:=1) (.inr (.inl ⟨rfl,rfl,rfl⟩)) z3 q
  .subst hms;have hq:fe (some xs) (some ds)=(("rows":Str),i):=by
    unfold fe;rw[show gX (some xs)=none from hb];dsimp only[Option.getD_some];rw[hdm];dsimp only;rw[hi]
   rw[hq]at q;obtain⟨ed,z3⟩:=pS z2;exact ya (J:=2) (.inr (.inr ⟨rfl,rfl,rfl⟩)) z3 q
end
def ue {x:V}(h:xs[j]? =some x):jw xs (0+(j:Int))=some x:=fN nofun (by rw[show(0+(j:Int)).toNat=j by omega];exact h)
def ym {Γ0:List ah}{b:Bool}(hT:G.T=tab)(hR:G.R=R)(h:jX R F v b)(z:Sep (Γ0++F) H)(q:∀ p H',Sep (tu p ([18,19,14].map λc=>ut (G.R.cad c))::(Γ0++F)) H'->Q (.bl b) H'):∀ p,H p=none->fw G [18,19,14] v (upd H p (wn ([18,19,14].map λc=>ut (G.R.cad c)))) Q:=λp hp=>by
 have z2:=z.dg (xs:=[18,19,14].map λc=>ut (G.R.cad c)) hp;have z3:Sep ((tu p ([18,19,14].map λc=>ut (G.R.cad c))::Γ0)++F) _:=z2;have q2:=q p _ z2;have own:∀ {a:Addr}{c:Nat},v=ut a->tj R F a c->tab.oc.contains c=true->anyS G c [18,19,14]=some b->fw G [18,19,14] v (upd H p (wn ([18,19,14].map λc=>ut (G.R.cad c)))) Q:=λ{a c} hv o h1 h2=>by
  obtain⟨dx,fs,e⟩:=o.at z3;subst hR;unfold fw;exact .inr ⟨a,c,b,hv,.inl ⟨by rw[hT];exact h1,dx,fs,e⟩,h2,q2⟩
 have an:∀ c b',(anyS ⟨tab,R,λ_ _ _ _ _=>True,.calm⟩ c [18,19,14]=some b')->anyS G c [18,19,14]=some b':=λc b' h=>by
  cases G;cases hT;exact h
 cases b with
 |true=>
  obtain⟨a,c,hv,hc,o⟩:=h;rcases hc with rfl|rfl|rfl<;>exact own hv o rfl (an _ _ rfl)
 |false=>
  rcases h with⟨t,f⟩|⟨a,c,hv,hc,o⟩
  .have ht:=f _ _ z3;unfold fw;refine .inl ⟨t,false,ht,?_,q2⟩;cases G;cases hT;cases aV ht<;>rfl
  .rcases hc with rfl|rfl|rfl|rfl<;>exact own hv o rfl (an _ _ rfl)
section
variable {F G:List ah}{v vC vM:V}
def uS (hk:1<=k)(hr:wN R F v rw)(z:Sep (G++F) H)(q0:cW rw=none->∀ H',Sep (G++F) H'->Q wf H') (q1:∀ i,cW rw=some i->∀ H',Sep (G++F) H'->Q (v4 i) H'):aa tab R k 63 [v] H Q E:=by
 delta cB;cases rw with
 |none=>
  obtain⟨t,hn,f⟩:=hr;have ht:=f G H z;left;refine aJ ht (b:=false) (by cases aV ht<;>first|rfl|exact absurd rfl hn) ?_;right;exact q1 (-1) rfl H z
 |some bs=>
  obtain⟨a,xs,rfl,m,l4,al⟩:=hr;have hl:=al.1;have e:=fz m z;left;refine aJ (t:="list") (jy e) rfl ?_;right;refine aO e ?_;right;refine aB (λh1=>?_) (λh1=>?_)
  .right;refine aB (λh2=>?_) (λh2=>?_)
   .right;refine aO e ?_;right;refine cD (n:=xs.length) (λj U H=>∃ u,U=[some (ut a),u]/\(∀ (i:Nat) y,i<j->bs[i]? =some y->y=true)/\Sep (G++F) H) ⟨_,rfl,λi y h=>absurd h (Nat.not_lt_zero _),z⟩ (λj U H hj hI=>?_) (λU H hI=>?_)
    .obtain⟨u,rfl,hb,hs⟩:=hI;obtain⟨x,hx⟩:∃ x,xs[j]? =some x:=⟨xs[j]'nofun,jp _⟩;obtain⟨d,ed,hd⟩:=al.get hx;left;refine bH (fz m hs) (ue hx) ?_;left;refine ym rfl rfl hd hs (λp H2 z2=>?_);cases d with
     |true=>
      right;refine⟨_,rfl,λi y hi e=>?_,z2.drop⟩
      by_cases he:i=j
      .subst he;rw[ed]at e;cases e
       rfl
      .exact hb i y nofun e
     |false=>
      right;rw[Int.zero_add];exact q1 _ (pX nofun ed hb) _ z2.drop
    .obtain⟨u,rfl,hb,hs⟩:=hI;right;exact q0 (gq nofun λi y hy=>hb i y (by have:=(sw.mp hy).1;omega) hy) _ hs
   .right;exact q1 _ (il nofun) _ z
  .right;exact q1 _ (il nofun) _ z
end
section
variable {F G:List ah}{v vC vM:V}
def lP {l:List α}{i:Nat}{x:α}(h:(l.take j)[i]? =some x):i<j/\l[i]? =some x:=by
 rw[getElem?_take]at h
 split at h
 .exact⟨by assumption,h⟩
 .cases h
def sg (hk:2<=k)(m:pt a (wl xs) ∈ F)(al:eg (vm R F) xs ds)(d4:ds.length<=4)(dok:ds.all Md.ok=true)(z:Sep (G++F) H)(q0:cJ n 0 [] ds=none->∀ H',Sep (G++F) H'->Q wf H') (q1:∀ i,cJ n 0 [] ds=some i->∀ H',Sep (G++F) H'->Q (v4 i) H'):aa tab R k 62 [v4 n,ut a] H Q E:=by
 delta dm;have hl:=al.1;have e:=fz m z;right;refine aO e ?_;right;refine cD (n:=xs.length) (λj U H=>∃ u2 u3 u4 u5,U=[some (v4 n),some (ut a),u2,u3,u4,u5]/\cJ n 0 [] ds=cJ n j ((ds.take j).map wR) (ds.drop j)/\(∀ (i:Nat) d,i<j->ds[i]? =some d->∃ lo hi rw,d=.mk (v4 lo) (v4 hi) rw/\0<=lo/\lo<hi/\hi<=n)/\Sep (G++F) H) ⟨_,_,_,_,rfl,rfl,λi d h=>absurd h (Nat.not_lt_zero _),z⟩ (λj U H hj hI=>?_) (λU H hI=>?_)
 .obtain⟨u2,u3,u4,u5,rfl,ed,hv,hs⟩:=hI;clear z;obtain⟨x,hx⟩:∃ x,xs[j]? =some x:=⟨xs[j]'nofun,jp _⟩;obtain⟨d,edj,hd⟩:=al.get hx;have hok:d.ok=true:=all_eq_true.mp dok d (cr edj);rw[hG edj]at ed;cases d with
  |bad=>cases hok
  |mk lo hi rw=>
   obtain⟨T,r,b,x2,rfl,mT,tlo,thi,_,_⟩:=hd;rw[qm]at ed;have no:jK n ((ds.take j).map wR) lo hi=false->cJ n 0 [] ds=some (j:Int):=λh=>by
    rw[ed,if_neg (by rw[h];decide)]
   have now:aK n lo hi=false\/vI hi<=vI lo->jK n ((ds.take j).map wR) lo hi=false:=λh=>by
    unfold jK;rcases h with h|h
    .rw[h];rfl
    .rw[decide_eq_false (show ¬ vI lo<vI hi by omega),Bool.and_false,Bool.false_and]
   obtain⟨t1,f1⟩:=tlo.at hs;obtain⟨t2,f2⟩:=thi.at hs;left;refine⟨rfl,?_⟩;refine bH (fz m hs) (ue hx) ?_;left;refine b9 (d9 mT hs) rfl ?_;left;refine bH (fz m hs) (ue hx) ?_;left;refine b9 (d9 mT hs) (i:=1) rfl ?_;left;refine⟨rfl,?_⟩;left;refine⟨rfl,?_⟩;left;refine iK nofun f1 ?_;cases hw1:ja lo with
   |false=>
    right;rw[Int.zero_add];exact q1 _ (no (now (.inl (by cases lo<;>first|rfl|cases hw1)))) _ hs
   |true=>
    obtain⟨i1,rfl⟩:∃ i1,lo=v4 i1:=by cases lo<;>first|(cases hw1;done)|exact⟨_,rfl⟩
    left;refine aR rfl ?_;left;refine⟨rfl,?_⟩;left;refine iK nofun f2 ?_;cases hw2:ja hi with
    |false=>
     right;rw[Int.zero_add];exact q1 _ (no (now (.inl (by cases hi<;>first|rfl|cases hw2)))) _ hs
    |true=>
     obtain⟨i2,rfl⟩:∃ i2,hi=v4 i2:=by cases hi<;>first|(cases hw2;done)|exact⟨_,rfl⟩
     left;refine aR rfl ?_;left;refine aB (p:=0<=i1) (λg0=>?_) (λg0=>?_)
     rotate_left
     .right;rw[Int.zero_add];exact q1 _ (no (now (.inl (by show(decide (0<=i1)&&_)=false;rw[decide_eq_false g0];rfl)))) _ hs
     left;refine aB (p:=i1<i2) (λg1=>?_) (λg1=>?_)
     rotate_left
     .right;rw[Int.zero_add];exact q1 _ (no (now (.inr (by show i2<=i1;omega)))) _ hs
     left;refine gz (λg2=>?_) (λg2=>?_)
     .have g2:¬ i2<=(n:Int):=by simpa using g2
      right;rw[Int.zero_add];exact q1 _ (no (now (.inl (by show(decide (0<=i1)&&(decide (i1<=i2)&&decide (i2<=(n:Int))))=false;rw[decide_eq_false g2,Bool.and_false,Bool.and_false])))) _ hs
     .have g2:i2<=(n:Int):=by simpa using g2
      have hw:aK n (v4 i1) (v4 i2)=true:=by
       show(decide (0<=i1)&&(decide (i1<=i2)&&decide (i2<=(n:Int))))=true;rw[decide_eq_true g0,decide_eq_true (show i1<=i2 by omega),decide_eq_true g2]
       rfl
      right;rw[Int.zero_add];refine xZ hs (fz m hs) (λP H5 hs5=>?_);rw[pE nofun]at hs5;right;refine fE (xs:=xs.take j) (λi U H=>∃ u5,U=[some (v4 n),some (ut a),some (v4 (j:Int)),some (v4 i1),some (v4 i2),u5]/\(∀ (i':Nat) d,i'<i->ds[i']? =some d->i2<=(wR d).1\/(wR d).2<=i1)/\Sep ((pt P (wl (xs.take j))::G)++F) H) ⟨_,rfl,λi d h=>absurd h (Nat.not_lt_zero _),hs5⟩ ?_ ?_ ?_
      .rintro i U H ⟨u5,rfl,_,hs⟩;exact aL.of (Sep.at hs)
      .rintro i y U H hy ⟨u5,rfl,hb,hs6⟩;obtain⟨hij,hy⟩:=lP hy;obtain⟨d,edi,hd2⟩:=al.get hy;obtain⟨l2,h2,rw2,rfl,v0,v1,v2⟩:=hv i d hij edi;obtain⟨T2,r2,b2,x3,rfl,mT2,_⟩:=hd2;left;refine b9 (d9 mT2 hs6) (i:=1) rfl ?_;left;refine aB (p:=i1<h2) (λe1=>?_) (λe1=>?_)
       .left;refine b9 (d9 mT2 hs6) (i:=0) rfl ?_;left;refine aB (p:=l2<i2) (λe2=>?_) (λe2=>?_)
        .right;refine q1 _ (no ?_) _ (Sep.drop hs6);cases hok2:jK n ((ds.take j).map wR) (v4 i1) (v4 i2) with
         |false=>rfl
         |true=>
          unfold jK at hok2;rw[li,List.all_map,all_eq_true]at hok2;have hmem:Md.mk (v4 l2) (v4 h2) rw2 ∈ ds.take j:=cr (i:=i) (by rw[getElem?_take,if_pos hij];exact edi);have:=of_decide_eq_true (hok2.2 _ hmem);have this:i2<=l2\/h2<=i1:=this
          omega
        .right;refine⟨_,rfl,λi' d' hi' e'=>?_,hs6⟩
         by_cases he:i'=i
         .subst he;rw[edi]at e';cases e';show i2<=l2\/h2<=i1
          omega
         .exact hb i' d' nofun e'
       .refine aR rfl ?_;right;refine⟨_,rfl,λi' d' hi' e'=>?_,hs6⟩
        by_cases he:i'=i
        .subst he;rw[edi]at e';cases e';show i2<=l2\/h2<=i1
         omega
        .exact hb i' d' nofun e'
      .rintro U H ⟨u5,rfl,hb,hs6⟩;have hlt:(xs.take j).length=j:=by rw[db];omega
       rw[hlt]at hb;have hok2:jK n ((ds.take j).map wR) (v4 i1) (v4 i2)=true:=by
        unfold jK;rw[hw,decide_eq_true (show vI (v4 i1)<vI (v4 i2) from g1),List.all_map];show List.all _ _=true;rw[all_eq_true];intro d hd;obtain⟨i,hi⟩:=getElem?_of_mem hd;obtain⟨hij,hi⟩:=lP hi;exact decide_eq_true (hb i d hij hi)
       rw[if_pos hok2]at ed;right;refine⟨_,_,_,_,rfl,?_,λi d hi e'=>?_,Sep.drop hs6⟩
       .rw[ed,take_succ,edj,dL]
        rfl
       .by_cases he:i=j
        .subst he;rw[edj]at e';cases e';exact⟨i1,i2,rw,rfl,g0,g1,g2⟩
        .exact hv i d nofun e'
 .obtain⟨u2,u3,u4,u5,rfl,ed,hv,hs⟩:=hI;right;rw[hl,drop_length]at ed;exact q0 ed _ hs
end
section
variable {F G:List ah}{v vC vM:V}
variable {ms:Option (List Md)}{i:Int}
def pH (h:gX fl=some i):fe fl ms=(("store":Str),i):=by
 unfold fe;rw[h]
def lN (hb:bad xs=none)(h:dq xs.length ms=some i):fe (some xs) ms=(("part":Str),i):=by
 unfold fe;rw[show gX (some xs)=none from hb];dsimp only[Option.getD_some];rw[h]
def ER (hb:bad xs=none)(h:dq xs.length (some ds)=none)(hr:fW ds=some i):fe (some xs) (some ds)=(("rows":Str),i):=by
 unfold fe;rw[show gX (some xs)=none from hb];dsimp only[Option.getD_some];rw[h];dsimp only;rw[hr]
def Ah (hb:bad xs=none)(h:dq xs.length (some ds)=none)(hr:fW ds=none):fe (some xs) (some ds)=(("made":Str),(xs.length:Int)):=by
 unfold fe;rw[show gX (some xs)=none from hb];dsimp only[Option.getD_some];rw[h];dsimp only;rw[hr]
def Ek {E:St->XK}{u2 u3 u4:Option V}(hk:10<=k)(hb:bad xs=none)(mC:pt C (wl xs) ∈ F)(hM:sM R F vM ms)(z:Sep (G++F) H)(q:∀ t H',Sep (pt t (wn [v6 (fe (some xs) ms).1,v4 (fe (some xs) ms).2])::(G++F)) H'->D.rt (ut t) H'):
  wB (a7 2 eY.body) ⟨tab,R,aa tab R (k-1),.calm⟩ D E [some (ut C),some vM,u2,u3,u4] H:=by
 cases ms with
 |none=>
  obtain⟨t,hn,f⟩:=hM;have ht:=f G H z;rw[lN hb (show dq xs.length none=some (-1) from rfl)]at q;left;refine aJ ht (b:=false) (by cases aV ht<;>first|rfl|exact absurd rfl hn) ?_;right;rename_i t2 H2 z2;exact q t2 H2 z2
 |some ds=>
  obtain⟨aM,ys,rfl,mM,lM,al⟩:=hM;have hl:=al.1;have e:=fz mM z;have no:¬ (1<=ds.length/\ds.length<=4/\ds.all Md.ok=true)->dq xs.length (some ds)=some (-1):=λh=>by
   show(if 1<=ds.length/\ds.length<=4/\ds.all Md.ok=true then cJ xs.length 0 [] ds else some (-1))=some (-1);rw[if_neg h]
  left;refine aJ (t:="list") (jy e) rfl ?_;right;refine aO e ?_;right;refine aB (λh1=>?_) (λh1=>?_)
  rotate_left
  .rw[lN hb (no nofun)]at q;right;rename_i t2 H2 z2;exact q t2 H2 z2
  right;refine aB (λh2=>?_) (λh2=>?_)
  rotate_left
  .rw[lN hb (no nofun)]at q;right;rename_i t2 H2 z2;exact q t2 H2 z2
  right;refine sA e ?_;refine nU (xs:=ys) nofun (λD ys H=>ys=((ds.take ys.length).map λd=>V.bl d.ok)/\Sep (pt D (wl ys)::(G++F)) H) (λD ys H hI=>aL.of (fz (G:=pt D (wl ys)::G) mM hI.2)) (λD hD=>⟨rfl,z.new (o:=wl []) hD⟩) (λD zs y H hy hI=>?_) (λW zs H hl2 hI=>?_)
  .obtain⟨e2,zz⟩:=hI;obtain⟨d,ed,hd⟩:=al.get hy;have hlt:=(sw.mp hy).1;have snoc:zs++[V.bl d.ok]=((ds.take (zs++[V.bl d.ok]).length).map λd=>V.bl d.ok):=by
    rw[ci,f8,take_succ,ed,dL]
    conv=>lhs;rw[e2]
    rfl
   have tup:∀ {T:Addr}{us:List V},tu T us ∈ F->d.ok=decide (us.length=4)->wE ⟨tab,R,aa tab R (k-1),.calm⟩ (.and (.isi (.v 0) (.ty "tuple")) (.cmp .Eq (.bf .len (.cons (.v 0) .nil)) (Ex.int 4))) [some (ut T)] H (kx (λD ys H=>ys=((ds.take ys.length).map λd=>V.bl d.ok)/\Sep (pt D (wl ys)::(G++F)) H) D zs [] (some (ut T))) (λ_ _=>False):=λ{T us} m4 hok=>by
    have e4:=d9 (G:=pt D (wl zs)::G) m4 zz;left;refine aJ (t:="tuple") (rC e4) rfl ?_;left;refine cn rfl ?_;left;refine lA e4 ?_;left;have h4:gf (v4 (us.length:Int)) (v4 4)=d.ok:=by
     rw[hok]
     by_cases h:us.length=4
     .rw[h];rfl
     .have h1:gf (v4 (us.length:Int)) (v4 4)=false:=by show((us.length:Int) ==4)=false;simp;omega
      rw[h1,decide_eq_false h]
    refine ik rfl rfl ?_;rw[h4];exact kx.mk zz.at nofun ⟨snoc,zz.set rfl⟩
   cases d with
   |bad=>
    rcases hd with⟨t,hn,f⟩|⟨T,us,rfl,m4,l4⟩
    .have ht:=f (pt D (wl zs)::G) H zz;left;refine aJ ht (b:=false) (by cases aV ht<;>first|rfl|exact absurd rfl hn) ?_;left;refine aR rfl ?_;exact kx.mk zz.at nofun ⟨snoc,zz.set rfl⟩
    .exact tup m4 (by rw[decide_eq_false l4];rfl)
   |mk lo hi rw=>
    obtain⟨T,r,b,x2,rfl,m4,_⟩:=hd;exact tup m4 rfl
  .obtain⟨e2,zz⟩:=hI;rw[hl2,hl,take_length]at e2;subst e2;left;refine FE (xs:=ds.map λd=>V.bl d.ok) (aL.of zz.at) rfl (by rw[List.all_map];rw[all_eq_true];exact λ_ _=>rfl) ?_;have hin:BZ (.bl false) (ds.map λd=>V.bl d.ok)= !(ds.all Md.ok):=by
    clear zz hl2 al no hl q
    induction ds with
    |nil=>rfl
    |cons d ds ih=>
     show(gf (.bl d.ok) (.bl false)||BZ (.bl false) (ds.map λd=>V.bl d.ok))= !(d.ok&&ds.all Md.ok);rw[ih];cases d.ok<;>cases ds.all Md.ok<;>rfl
   rw[hin];have z3:=zz.drop;clear zz z;cases hall:ds.all Md.ok with
   |false=>
    rw[lN hb (no (λh=>by rw[hall]at h;exact Bool.noConfusion h.2.2))]at q;right;rename_i t2 H2 z2;exact q t2 H2 z2
   |true=>
    have hdm:dq xs.length (some ds)=cJ xs.length 0 [] ds:=by
     show(if 1<=ds.length/\ds.length<=4/\ds.all Md.ok=true then cJ xs.length 0 [] ds else some (-1))=_;rw[if_pos ⟨by omega,by omega,hall⟩]
    left;refine aR rfl ?_;left;refine⟨rfl,?_⟩;refine aO (fz mC z3) ?_;left;refine sg (n:=xs.length) nofun mM al nofun hall z3 (λhnp H2 z4=>?_) (λi hi H2 z4=>?_)
    rotate_left
    .rw[lN hb (hdm.trans hi)]at q;left;refine dP ?_;refine cn rfl ?_;right;rename_i t2 H3 z5;exact q t2 H3 z5
    clear z3;left;refine dP ?_;refine aR rfl ?_;left;refine⟨rfl,?_⟩;left;refine sA (fz mM z4) ?_;refine fE (xs:=ys) (λj U H=>∃ u2 u4,U=[some (ut C),some (ut aM),u2,some wf,u4]/\fW ds=fW (ds.drop j)/\Sep (G++F) H) ⟨_,_,rfl,rfl,z4⟩ ?_ ?_ ?_
    .rintro j U H ⟨u2,u4,rfl,_,hs⟩;exact aL.of (fz mM hs)
    .rintro j y U H hy ⟨u2,u4,rfl,hr,hs⟩;obtain⟨d,ed,hd⟩:=al.get hy;have hok:d.ok=true:=all_eq_true.mp hall d (cr ed);cases d with
     |bad=>cases hok
     |mk lo hi rw=>
      obtain⟨T,r,b,x2,rfl,mT,_,_,hrw,_⟩:=hd;rw[hG ed,qS]at hr;left;refine⟨rfl,?_⟩;refine b9 (d9 mT hs) (i:=2) rfl ?_;left;refine uS nofun hrw hs (λhw H5 z6=>?_) (λi hi H5 z6=>?_)
      .rw[hw]at hr;left;refine dP ?_;refine aR rfl ?_;exact⟨_,_,rfl,hr,z6⟩
      .rw[hi]at hr;rw[ER hb (hdm.trans hnp) hr]at q;left;refine dP ?_;refine cn rfl ?_;right;rename_i t2 H6 z7;exact q t2 H6 z7
    .rintro U H ⟨u2,u4,rfl,hr,hs⟩;rw[hl,drop_length]at hr;rw[Ah hb (hdm.trans hnp) hr]at q;left;refine aO (fz mC hs) ?_;right;rename_i t2 H6 z7;exact q t2 H6 z7
def B2 (hk:11<=k)(hC:yd F vC fl)(hM:sM R F vM ms)(z:Sep (G++F) H)(q:∀ t H',Sep (pt t (wn [v6 (fe fl ms).1,v4 (fe fl ms).2])::(G++F)) H'->Q (ut t) H'):aa tab R k 64 [vC,vM] H Q E:=by
 delta eY;cases fl with
 |none=>
  obtain⟨t,hn,f⟩:=hC;have ht:=f G H z;rw[pH (show gX none=some (-1) from rfl)]at q;left;refine aJ ht (b:=false) (by cases aV ht<;>first|rfl|exact absurd rfl hn) ?_;right;rename_i t2 H2 z2;exact q t2 H2 z2
 |some xs=>
  obtain⟨C,rfl,mC,lC,tC⟩:=hC;have e:=fz mC z;left;refine aJ (t:="list") (jy e) rfl ?_;right;refine aO e ?_;right;refine aB (λh1=>?_) (λh1=>?_)
  rotate_left
  .rw[pH (show gX (some xs)=some (-1) from og nofun)]at q;right;rename_i t2 H2 z2;exact q t2 H2 z2
  right;refine aB (λh2=>?_) (λh2=>?_)
  rotate_left
  .rw[pH (show gX (some xs)=some (-1) from og nofun)]at q;right;rename_i t2 H2 z2;exact q t2 H2 z2
  have hlen:1<=xs.length/\xs.length<=60:=by omega
  right;refine aO e ?_;right;refine cD (n:=xs.length) (λj U H=>∃ u2 u3 u4,U=[some (ut C),some vM,u2,u3,u4]/\(∀ (i:Nat) y,i<j->xs[i]? =some y->gM y=true)/\Sep (G++F) H) ⟨_,_,_,rfl,λi y h=>absurd h (Nat.not_lt_zero _),z⟩ (λj U H hj hI=>?_) (λU H hI=>?_)
  .obtain⟨u2,u3,u4,rfl,hb,hs⟩:=hI;obtain⟨x,hx⟩:∃ x,xs[j]? =some x:=⟨xs[j]'nofun,jp _⟩;obtain⟨t,ht⟩:=(tC x (cr hx)).at hs;have no:gM x=false->fe (some xs) ms=(("store":Str),((j:Nat):Int)):=λh=>pH (uP hlen hx h hb)
   have ok:gM x=true->∀ (i:Nat) y,i<j+1->xs[i]? =some y->gM y=true:=λh i y hi hy=>by
    by_cases he:i=j
    .subst he;rw[hx]at hy;cases hy;exact h
    .exact hb i y nofun hy
   left;refine⟨rfl,?_⟩;refine bH (fz mC hs) (ue hx) ?_;left;refine iK nofun ht ?_;cases hw:ja x with
   |false=>
    rw[no (by cases x<;>first|rfl|cases hw)]at q;right;rename_i t2 H2 z2;rw[Int.zero_add]at z2;exact q t2 H2 z2
   |true=>
    obtain⟨i,rfl⟩:∃ i,x=v4 i:=by cases x<;>first|(cases hw;done)|exact⟨_,rfl⟩
    have eC:gM (v4 i)=(decide (0<=i)&&decide (i<=1000000000)):=rfl;left;refine aR rfl ?_;left;refine bH (fz mC hs) (ue hx) ?_;left;refine aB (p:=0<=i) (λg0=>?_) (λg0=>?_)
    rotate_left
    .rw[no (by rw[eC,decide_eq_false g0];rfl)]at q;right;rename_i t2 H2 z2;rw[Int.zero_add]at z2;exact q t2 H2 z2
    right;rw[xi];refine aB (p:=i<=1000000000) (λg1=>?_) (λg1=>?_)
    .left;exact⟨_,_,_,rfl,ok (by rw[eC,decide_eq_true g0,decide_eq_true g1];rfl),hs⟩
    .rw[no (by rw[eC,decide_eq_false g1,Bool.and_false])]at q;right;rename_i t2 H2 z2;rw[Int.zero_add]at z2;exact q t2 H2 z2
  .obtain⟨u2,u3,u4,rfl,hb,hs⟩:=hI;exact Ek (k:=k) nofun (fT hlen λi y hy=>hb i y (sw.mp hy).1 hy) mC hM hs q
end
def cat_t (s:Sep O H)(e1:H a=some (wn xs))(e2:H b=some (wn ys))(hx:xs≠[])(hy:ys≠[])(hl:xs.length+ys.length<=1000)(h:∀ p H',Sep (pt p (wn (xs++ys))::O) H'->Q (ut p) H'):qY K a b H Q:=by
 unfold qY;exact .inr ⟨a,b,xs,ys,rfl,rfl,aY.of e1,aY.of e2,hx,by have:bn=bn:=rfl;unfold bn;omega,λz=>absurd z hy,λ_=>al s h⟩
def eq_nil (e1:H a=some (wl xs))(e2:H b=some (wl []))(ne:a≠b)(q:Q (.bl (decide (xs.length=0))) H):eZ K false (ut a) (ut b) H Q:=by
 by_cases h:xs.length=0
 .rw[decide_eq_true h]at q;refine ot (.ll (n:=0) (e:=λ_=>true) (aL.of e1) (aL.of e2) h (λj x y _ hy=>nomatch hy)) (by decide) ne ?_;rw[h];exact q
 .rw[decide_eq_false h]at q;exact ot (.lln (n:=0) (aL.of e1) (aL.of e2) h) (by decide) ne q
section
variable {F G Δ:List ah}{a h:Addr}{xs:List V}{v:V}{m lo hi:Int}
def Aa (h:pt a (wl xs) ∈ F):md F (ut a):=⟨"list",λG H z=>jy (fz h z)⟩
def As (h:tu a xs ∈ F):md F (ut a):=⟨"tuple",λG H z=>rC (d9 h z)⟩
def Dm (h:pt a (.dK []) ∈ F):md F (ut a):=⟨"dict",λG H z=>w4 (fz h z)⟩
def en (h:ai v=true):md F v:=by
 cases v with
 |non=>exact⟨"NoneType",λ_ _ _=>rfl⟩
 |bl b=>exact⟨"bool",λ_ _ _=>rfl⟩
 |int i=>exact⟨"int",λ_ _ _=>rfl⟩
 |str w=>exact⟨"str",λ_ _ _=>rfl⟩
 |_=>cases h
def tF {n:String}(hn:n≠"tuple") (h:tu a xs ∈ F):nF F n (ut a):=⟨"tuple",λe=>hn e.symm,λG H z=>rC (d9 h z)⟩
def DQ {n:String}(hn:n≠"list") (h:pt a (wl xs) ∈ F):nF F n (ut a):=⟨"list",λe=>hn e.symm,λG H z=>jy (fz h z)⟩
def zJ {n:String}(hn:n≠"dict") (h:pt a (.dK []) ∈ F):nF F n (ut a):=⟨"dict",λe=>hn e.symm,λG H z=>w4 (fz h z)⟩
def qt {n:String}(hl:n="list"\/n="tuple") (h:ai v=true):nF F n v:=by
 have ne:∀ t:String,t≠"list"->t≠"tuple"->t≠n:=λt h1 h2 e=>by
  rcases hl with rfl|rfl
  .exact h1 e
  .exact h2 e
 cases v with
 |non=>exact⟨"NoneType",ne _ (by decide) (by decide),λ_ _ _=>rfl⟩
 |bl b=>exact⟨"bool",ne _ (by decide) (by decide),λ_ _ _=>rfl⟩
 |int i=>exact⟨"int",ne _ (by decide) (by decide),λ_ _ _=>rfl⟩
 |str w=>exact⟨"str",ne _ (by decide) (by decide),λ_ _ _=>rfl⟩
 |_=>cases h
def eg.ex {P:V->α->Prop}:∀ {xs:List V},(∀ x ∈ xs,∃ d,P x d)->∃ ds,eg P xs ds
 | [],_=>⟨[],.nil⟩
 |x::xs,h=>by
  obtain⟨d,hd⟩:=h x le;obtain⟨ds,l,al⟩:=eg.ex λy hy=>h y (dl _ hy)
  refine⟨d::ds,by rw[length_cons,length_cons,l],λj v i h1 h2=>?_⟩;cases j with
  |zero=>cases h1;cases h2;exact hd
  |succ j=>exact al j v i h1 h2
def dR {lo hi:Option Int}:∀ y ∈ aZ (sn n xs).flatten lo hi,y ∈ xs:=λy hy=>by
 unfold aZ at hy;have h1:=mem_of_mem_drop (mem_of_mem_take hy);obtain⟨l,hl,hy2⟩:=List.mem_flatten.mp h1
 rwa [(List.mem_replicate.mp hl).2]at hy2
def fq {n:Int}(n0:1<=xs.length)(h0:0<=n):(aZ (sn n.toNat xs).flatten none (some n)).length=n.toNat:=by
 have h25:(sn n.toNat xs).flatten.length=n.toNat*xs.length:=by
  rw[List.length_flatten,map_replicate,List.sum_replicate_nat]
 have h26:n.toNat<=n.toNat*xs.length:=Nat.le_mul_of_pos_right _ n0;generalize (sn n.toNat xs).flatten=ys at h25;unfold aZ HT.bD;rw[db,im];simp
 split<;>omega
def vK (hk:2<=k)(l0: -1000000000<=lo)(l1:hi<=1000000000)(s:Sep (hand h m::(G++F)) H)(hm:m<=1099511000000)(q:∀ v Δ H',md (Δ++F) v->Ct R (Δ++F) 1 v->Sep (hand h (m+3)::(G++(Δ++F))) H'->Q v H'):aa tab R k 59 [ut h,v4 lo,v4 hi] H Q E:=by
 delta i9;walk_at "gd";rename_i r H1 hr0 hr1 hs1;have fin:∀ {v:V}{n:Int}{H:Hp},ai v=true->n<=m+3->Sep (hand h n::(G++F)) H->Q v H:=λ{v n H} hv hn hs=>q v [] _ (en hv) (.fl hv) (ag hs hn)
 refine aB (λh0=>?_) (λh0=>?_)
 .walk_at "gd";rename_i r2 H2 hr02 hr12 hs2 p H3 hs3;obtain⟨v,hv,hmem⟩:=aS (xs:=[v4 0,v4 r2]) hr0 (by simpa using h0);refine bH hs3.at hv ?_;rcases(by simpa using hmem:v=v4 0\/v=v4 r2) with rfl|rfl
  .walk_at "gd";exact fin rfl nofun hs3.drop
  .walk_at "gd";exact fin rfl nofun hs3.drop
 walk_at "gd";refine aB (λh1=>?_) (λh1=>?_)
 .walk_at "gd";rename_i r2 H2 hr02 hr12 hs2 p H3 hs3;obtain⟨v,hv,hmem⟩:=aS (xs:=[v4 0,v4 r2]) (i:=r-2) nofun (by simp;omega);refine bH hs3.at hv ?_;rcases(by simpa using hmem:v=v4 0\/v=v4 r2) with rfl|rfl
  .walk_at "gd";exact fin rfl nofun hs3.drop
  .walk_at "gd";exact fin rfl nofun hs3.drop
 walk_at "gd";refine cK (λh2=>?_) (λh2=>?_)
 .walk_at "gd";rename_i r2 H2 hr02 hr12 hs2;exact fin rfl nofun hs2
 walk_at "gd";refine cK (λh3=>?_) (λh3=>?_)
 .walk_at "gd";rename_i r2 H2 hr02 hr12 hs2;exact fin rfl nofun hs2
 walk_at "gd";rename_i p1 H2 hs2 p2 H3 hs3 p3 H4 hs4 p H5 hs5 i H6 hi0 hi1 hs6;obtain⟨v,hv,hmem⟩:=aS (xs:=[wf,V.bl true,V.bl false,v6 "1",ut p1,ut p2,ut p3,v6 "here",v6 ""]) hi0 (by simpa using hi1);refine bH (by grind) hv ?_;have hs7:Sep (hand h (m+3)::(G++F)) H6:=ag (hs6.sub (by ac_nf)) nofun;simp only[lf,not_mem_nil,or_false]at hmem;rcases hmem with rfl|rfl|rfl|rfl|rfl|rfl|rfl|rfl|rfl
 .exact fin rfl nofun hs7
 .exact fin rfl nofun hs7
 .exact fin rfl nofun hs7
 .exact fin rfl nofun hs7
 .refine q _ [pt p1 (wl [v4 1])] H6 (Aa le) (.ls le (by decide) λx hx=>?_) (by
   have hs9:Sep (pt p1 (wl [v4 1])::hand h (m+3)::(G++F)) H6:=(ag (n:=m+3) (hs6.pull (A:=hand h _) (by symm)) nofun).sub (by ac_nf);exact toF (L:=[_]) (G:=hand h (m+3)::G) hs9)
  rw[mem_singleton.mp hx];exact .fl rfl
 .have hs8:Sep (tu p2 [v4 0]::_) H6:=(hs6.pull (A:=pt p2 (wn [v4 0])) (by symm)).toT;refine q _ [tu p2 [v4 0]] H6 (As le) (.tp le (by decide) λx hx=>?_) (by
   have hs9:Sep (tu p2 [v4 0]::hand h (m+3)::(G++F)) H6:=(ag (n:=m+3) (hs8.pull (A:=hand h _) (by symm)) nofun).sub (by ac_nf);exact toF (L:=[_]) (G:=hand h (m+3)::G) hs9)
  rw[mem_singleton.mp hx];exact .fl rfl
 .exact q _ [pt p3 (.dK [])] H6 (Dm le) (.dc le) (by
   have hs9:Sep (pt p3 (.dK [])::hand h (m+3)::(G++F)) H6:=(ag (n:=m+3) (hs6.pull (A:=hand h _) (by symm)) nofun).sub (by ac_nf);exact toF (L:=[_]) (G:=hand h (m+3)::G) hs9)
 .exact fin rfl nofun hs7
 .exact fin rfl nofun hs7
abbrev GN (R:Rt)(F:List ah)(v:V)(fl:Option (List V)):Prop:=yd F v fl/\Ct R F 2 v
abbrev FL (R:Rt)(F:List ah)(v:V)(cs:List Int):Prop:=∃ a,v=ut a/\pt a (wl (cs.map v4)) ∈ F
def Cj (hk:3<=k)(hm:m<=1099510000000)(c0:1<=cs.length)(c60:cs.length<=60)(hv:FL R F v cs)(z:Sep (hand h m::F) H)(q:∀ v' fl Δ H',GN R (Δ++F) v' fl->Sep (hand h (m+20)::(Δ++F)) H'->Q v' H'):aa tab R k 65 [ut h,v] H Q E:=by
 delta cM;obtain⟨C,rfl,mC⟩:=hv;have hl:(cs.map v4).length=cs.length:=ce ..;have fli:∀ {x:V},x ∈ cs.map v4->ai x=true:=λhx=>by
  obtain⟨i,_,rfl⟩:=List.mem_map.mp hx
  rfl
 walk_at "gd";rename_i w H1 w0 w1 z1;clear z;refine cK (λe=>?_) (λe=>?_)
 .right;rename_i l1 H2 z2;have e2:H2 C=some (wl (cs.map v4)):=fz (G:=[_,_]) mC z2;refine iV z2 e2 (λT H3 z3=>?_);right;have e3:H3 C=some (wl (cs.map v4)):=fz (G:=[_,_,_]) mC z3;refine jI z3 e3 (by decide) (by decide) nofun (λp4 H4 z4=>?_);right;rename_i pA HA zA p5 H5 z5;have e5:H5 C=some (wl (cs.map v4)):=fz (G:=[_,_,_,_,_,_]) mC z5;refine jI z5 e5 (by decide) (by decide) nofun (λp6 H6 z6=>?_);walk_at "gd";rename_i p7 H7 z7 LL H8 z8 r H9 r0 r1 z9;obtain⟨v,hv,hmem⟩:=aS (xs:=[wf,ut l1,ut T,ut pA,ut p5,v4 5,ut p7]) r0 (by simpa using r1);refine bH (by grind) hv ?_;have y0:Sep (hand h (m+20)::pt LL (wl [wf,ut l1,ut T,ut pA,ut p5,v4 5,ut p7])::pt p7 (wl (aZ (sn (Int.toNat 300) (cs.map v4)).flatten none (some 300)))::pt p6 (wl (sn (Int.toNat 300) (cs.map v4)).flatten)::pt p5 (.dK [])::pt pA (wl (aZ (sn (Int.toNat 61) (cs.map v4)).flatten none (some 61)))::pt p4 (wl (sn (Int.toNat 61) (cs.map v4)).flatten)::tu T (cs.map v4)::pt l1 (wl [])::F) H9:=ag (n:=m+20) z9 nofun;clear z1 z2 z3 zA z4 z5 z6 z7 z8 z9;have lst:∀ {p:Addr}{xs:List V},xs.length<=400->(∀ x ∈ xs,ai x=true)->Sep (pt p (wl xs)::hand h (m+20)::F) H9->Q (ut p) H9:=λ{p xs} hx hf z=>q (ut p) (some xs) [pt p (wl xs)] H9 ⟨⟨p,rfl,le,hx,λx h=>en (hf x h)⟩,.ls le hx λx h=>.fl (hf x h)⟩ (toF (L:=[_]) (G:=[_]) z)
  have flt:∀ {v:V},ai v=true->Q v H9:=λ{v} hf=>q v none [] H9 ⟨qt (.inl rfl) hf,.fl hf⟩ (y0.sub (.cons .e (.drop (.drop (.drop (.drop (.drop (.drop (.drop (.drop .refl)))))))) ))
  simp only[lf,not_mem_nil,or_false]at hmem;rcases hmem with rfl|rfl|rfl|rfl|rfl|rfl|rfl
  .exact flt rfl
  .exact lst (xs:=[]) (by decide) (λx hx=>absurd hx (by simp)) (y0.sub (by ac_nf))
  .have y1:Sep (tu T (cs.map v4)::hand h (m+20)::F) H9:=y0.sub (by ac_nf);exact q _ none [tu T (cs.map v4)] H9 ⟨tF (by decide) le,.tp le nofun λx hx=>.fl (fli hx)⟩ (toF (L:=[_]) (G:=[_]) y1)
  .exact lst (xs:=aZ (sn (Int.toNat 61) (cs.map v4)).flatten none (some 61)) (by rw[fq nofun (by decide)];decide) (λx hx=>fli (dR x hx)) (y0.sub (by ac_nf))
  .have y1:Sep (pt p5 (.dK [])::hand h (m+20)::F) H9:=y0.sub (by ac_nf);exact q _ none [pt p5 (.dK [])] H9 ⟨zJ (by decide) le,.dc le⟩ (toF (L:=[_]) (G:=[_]) y1)
  .exact flt rfl
  .exact lst (xs:=aZ (sn (Int.toNat 300) (cs.map v4)).flatten none (some 300)) (by rw[fq nofun (by decide)];decide) (λx hx=>fli (dR x hx)) (y0.sub (by ac_nf))
 .left;refine bq z1 (fz (G:=[_]) mC z1) (λW H2 z2=>?_);walk_at "gd";rename_i r H3 r0 r1 z3;have z4:Sep (pt W (wl (cs.map v4))::hand h (m+2+4*((0:Nat):Int))::([]++F)) H3:=(ag (n:=m+2+4*((0:Nat):Int)) (z3.pull (A:=hand h _) (by symm)) nofun).sub (Γ':=pt W (wl (cs.map v4))::hand h (m+2+4*((0:Nat):Int))::F) (by ac_nf);clear z1 z2 z3;refine cD (λj U H=>∃ (xs:List V) (Δ:List ah) (u4:Option V),U=[some (ut h),some (ut C),some (v4 w),some (ut W),u4]/\xs.length=cs.length/\(∀ x ∈ xs,md (Δ++F) x/\Ct R (Δ++F) 1 x)/\Sep (pt W (wl xs)::hand h (m+2+4*(j:Int))::(Δ++F)) H) ⟨_,[],_,rfl,hl,λx hx=>⟨en (fli hx),.fl (fli hx)⟩,z4⟩ (λj U H hj hI=>?_) (λU H hI=>?_)
  .obtain⟨xs,Δ,u4,rfl,hxl,hx,z5⟩:=hI;clear z4;right;refine vK (G:=[pt W (wl xs)]) (m:=m+2+4*(j:Int)) nofun (by decide) (by decide) (z5.pull .k1) nofun (λv Δ' H5 tv cv z6=>?_);have z7:Sep (hand h (m+2+4*(j:Int)+3)::pt W (wl xs)::(Δ'++(Δ++F))) H5:=z6;clear z6;left;refine⟨rfl,?_⟩;left;refine aO (z7.get .k1) ?_;rw[hxl];walk_at "gd";rename_i r2 H6 r20 r21 z8;refine dB (i:=r2) z8 .k1 (iT r20 nofun) rfl (λH7 z9=>?_);have z10:Sep (pt W (wl (xs.set r2.toNat v))::hand h (m+2+4*((j+1:Nat):Int))::((Δ'++Δ)++F)) H7:=by
    rw[io];exact(ag (n:=m+2+4*((j+1:Nat):Int)) z9 nofun).pull .k1
   refine⟨_,Δ'++Δ,_,rfl,by rw[length_set];exact hxl,λx hx'=>?_,z10⟩;rw[io];rcases List.mem_or_eq_of_mem_set hx' with hx'|rfl
   .exact⟨(hx x hx').1.mono,(hx x hx').2.mono λA m=>ak m⟩
   .exact⟨tv,cv⟩
  .obtain⟨xs,Δ,u4,rfl,hxl,hx,z5⟩:=hI;right;refine q (ut W) (some xs) (pt W (wl xs)::Δ) H ⟨⟨W,rfl,le,by omega,λx h=>(hx x h).1.mono (Δ:=[pt W (wl xs)])⟩,.ls le nofun λx h=>(hx x h).2.mono λA m=>dl _ m⟩ ?_;have z6:Sep (hand h (m+20)::pt W (wl xs)::(Δ++F)) H:=ag (n:=m+20) (z5.pull .k1) nofun;exact z6
end
abbrev kL (R:Rt)(F:List ah)(r:V):Option (List Bool)->Prop
 |none=>nF F "list" r/\Ct R F 2 r
 |some bs=>∃ a xs,r=ut a/\pt a (wl xs) ∈ F/\xs.length<=300/\eg (jX R F) xs bs/\∀ x ∈ xs,Ct R F 1 x
abbrev ff (R:Rt)(F:List ah)(v:V):Prop:=md F v/\Ct R F 1 v
abbrev dO (R:Rt)(F:List ah)(v:V):Md->Prop
 | .bad=>False
 | .mk lo hi rw=>∃ T r b x,v=ut T/\tu T [lo,hi,r,ut b] ∈ F/\ff R F lo/\ff R F hi/\kL R F r rw/\dY R b x ∈ F
abbrev la (R:Rt)(F:List ah)(v:V):Prop:=∃ a ys ds,v=ut a/\pt a (wl ys) ∈ F/\1<=ys.length/\ys.length<=4/\eg (dO R F) ys ds
section
variable {F G Δ:List ah}{v h:Addr}{w:V}{m:Int}
def ff.mono (h:ff R F w):ff R (Δ++F) w:=⟨h.1.mono,h.2.mono λA m=>ak m⟩
def kL.mono (h:kL R F w rw):kL R (Δ++F) w rw:=by
 cases rw with
 |none=>exact⟨h.1.mono,h.2.mono λA m=>ak m⟩
 |some bs=>obtain⟨a,xs,e,m,l,al,ct⟩:=h;exact⟨a,xs,e,ak m,l,al.map λv i=>jX.mono,λx hx=>(ct x hx).mono λA m=>ak m⟩
def dO.mono (h:dO R F w d):dO R (Δ++F) w d:=by
 cases d with
 |bad=>exact h
 |mk lo hi rw=>obtain⟨T,r,b,x,e,m,h1,h2,h3,h4⟩:=h;exact⟨T,r,b,x,e,ak m,h1.mono,h2.mono,h3.mono,ak h4⟩
def kL.ct {rw:Option (List Bool)}(h:kL R F w rw):Ct R F 2 w:=by
 cases rw with
 |none=>exact h.2
 |some bs=>obtain⟨a,xs,rfl,m,l,al,ct⟩:=h;exact .ls m nofun ct
def kL.i (h:kL R F w rw):wN R F w rw:=by
 cases rw with
 |none=>exact h.1
 |some bs=>obtain⟨a,xs,rfl,m,l,al,ct⟩:=h;exact⟨a,xs,rfl,m,by omega,al⟩
def vb (h:dY R b x ∈ F):tj R F b 9:=⟨_,h,λH D z=>by
 obtain⟨dx,fs,e,_⟩:=qh (R:=R) H D z;exact⟨dx,fs,e⟩⟩
def dO.C4 {r:V}(h1:ff R F lo)(h2:ff R F hi)(h3:kL R F r rw)(h4:dY R b x ∈ F):∀ y ∈ [lo,hi,r,ut b],Ct R F 2 y:=λy hy=>by
 simp only[lf,not_mem_nil,or_false]at hy;rcases hy with rfl|rfl|rfl|rfl
 .exact h1.2.up (by decide)
 .exact h2.2.up (by decide)
 .exact h3.ct
 .exact .ob (.inr (.inr (.inr (.inl rfl)))) (vb h4)
def dO.ct (h:dO R F w d):Ct R F 3 w:=by
 cases d with
 |bad=>exact h.elim
 |mk lo hi rw=>
  obtain⟨T,r,b,x,rfl,m,h1,h2,h3,h4⟩:=h;exact .tp m (by show 4<=400;decide) (dO.C4 h1 h2 h3 h4)
def dO.i (h:dO R F w d):vm R F w d:=by
 cases d with
 |bad=>exact h.elim
 |mk lo hi rw=>
  obtain⟨T,r,b,x,e,m,h1,h2,h3,h4⟩:=h;exact⟨T,r,b,x,e,m,h1.1,h2.1,h3.i,h4⟩
abbrev Dd (R:Rt)(F:List ah)(v:V)(ms:Option (List Md)):Prop:=sM R F v ms/\Ct R F 4 v
def la.ms (h:la R F w):∃ ms,Dd R F w ms:=by
 obtain⟨a,ys,ds,rfl,m,l0,l1,al⟩:=h;exact⟨some ds,⟨a,ys,rfl,m,by omega,al.map λv i=>dO.i⟩,.ls m nofun λx hx=>by
  obtain⟨j,hj⟩:=getElem?_of_mem hx;obtain⟨d,_,hd⟩:=al.get hj;exact hd.ct⟩
def lB (al:eg (dO R F) ys ds){r:Int}(h0:0<=r)(h1:r<(ys.length:Int)):∃ j T lo hi rr b rw x,r=((j:Nat):Int)/\j<ys.length/\ys[j]? =some (ut T)/\jw ys r=some (ut T)/\ds[j]? =some (.mk lo hi rw)/\tu T [lo,hi,rr,ut b] ∈ F/\ff R F lo/\ff R F hi/\kL R F rr rw/\dY R b x ∈ F:=by
 obtain⟨j,rfl⟩:=re h0;have hj:j<ys.length:=by omega
 obtain⟨y,hy⟩:∃ y,ys[j]? =some y:=⟨ys[j]'hj,jp _⟩;obtain⟨d,ed,hd⟩:=al.get hy;cases d with
 |bad=>exact hd.elim
 |mk lo hi rw=>
  obtain⟨T,rr,b,x,rfl,m,h1,h2,h3,h4⟩:=hd;exact⟨j,T,lo,hi,rr,b,rw,x,rfl,hj,hy,fN nofun hy,ed,m,h1,h2,h3,h4⟩
def El {E:St->XK}{W T2 sm:Addr}{rr lo2 hi2 rr2 od:V}{b2:Addr}{wy ax ay:Int}{u12:Option V}(hy4:ys.length<=4)(l0:1<=ys.length)(hj1:j1<ys.length)(wy0:0<=wy)(wy1:wy<8)(al:eg (dO R F) ys ds)(g1:ff R F lo)(g2:ff R F hi)(g3:kL R F rr rw)(g4:dY R b x ∈ F)(f1:ff R F lo2)(f2:ff R F hi2)(m2:tu T2 [lo2,hi2,rr2,ut b2] ∈ F)(od':ff R F od)
  (z:Sep (tu sm [v4 ax,v4 ay]::hand h m::pt W (wl ys)::F) H) (q:∀ v' Δ H',la R (Δ++F) v'->Sep (hand h m::(Δ++F)) H'->D.rt v' H'):
  wB (a7 8 a9.body) ⟨tab,R,aa tab R (k-1),.calm⟩ D E [some (ut h),some (v4 n),some (ut a),some (ut W),some (v4 (j1:Int)),some lo,some hi,some rr,some (ut b),some (ut T2),some (v4 wy),some od,u12,some (ut sm),none] H:=by
 have eW:H W=some (wl ys):=z.get .k2;right;rename_i t1 Hd zd t2 He ze t3 Hf zf t4 Hg zg t5 Hh zh t6 Hi zi;clear zd ze zf zg zh;refine Dg zi (d9 (G:=[_,_,_,_,_,_,_,_,_]) m2 zi) (λz=>absurd z.2 (by show ¬ (2=4);decide)) (λt7 Hj zj=>?_);clear zi z;have zj:Sep (pt t7 (wn [lo2,hi2])::pt t6 (wn [lo,od])::pt t5 (wn [od,hi])::pt t4 (wn [v4 (-1),hi])::pt t3 (wn [lo,v4 ((n:Int)+1)])::pt t2 (wn [hi,lo])::pt t1 (wn [lo,lo])::tu sm [v4 ax,v4 ay]::hand h m::pt W (wl ys)::F) Hj:=zj;right;rename_i PL Hk zk;obtain⟨tp,v1,v2,hat,hH,o1,o2⟩:∃ tp v1 v2,jw [ut t1,ut t2,ut t3,ut t4,ut t5,ut t6,ut t7,ut sm] wy=some (ut tp)/\Hk tp=some (wn [v1,v2])/\ff R F v1/\ff R F v2:=by
  have fl:∀ {i:Int},ff R F (v4 i):=⟨en rfl,.fl rfl⟩;rcases(by omega:wy=0\/wy=1\/wy=2\/wy=3\/wy=4\/wy=5\/wy=6\/wy=7) with rfl|rfl|rfl|rfl|rfl|rfl|rfl|rfl
  .exact⟨t1,_,_,rfl,zk.get (by symm),g1,g1⟩
  .exact⟨t2,_,_,rfl,zk.get (by symm),g2,g1⟩
  .exact⟨t3,_,_,rfl,zk.get (by symm),g1,fl⟩
  .exact⟨t4,_,_,rfl,zk.get (by symm),fl,g2⟩
  .exact⟨t5,_,_,rfl,zk.get (by symm),od',g2⟩
  .exact⟨t6,_,_,rfl,zk.get (by symm),g1,od'⟩
  .exact⟨t7,_,_,rfl,zk.get (by symm),f1,f2⟩
  .exact⟨sm,_,_,rfl,zk.mZ (by symm),fl,fl⟩
 have zl:Sep (tu tp [v1,v2]::pt PL (wl [ut t1,ut t2,ut t3,ut t4,ut t5,ut t6,ut t7,ut sm])::hand h m::pt W (wl ys)::F) Hk:=Sep.Fy hH (zk.sub (by ac_nf));clear zj zk;refine bH (zl.get .k1) hat ?_;right;rename_i c1 Hl zm;refine cat_t zm (zm.mZ .k1) zm.at (by simp) (by simp) (by show 4<=1000;decide) (λc2 Hm zn=>?_);right;have zn':Sep (tu c2 [v1,v2,rr,ut b]::pt c1 (wn [rr,ut b])::tu tp [v1,v2]::pt PL (wl [ut t1,ut t2,ut t3,ut t4,ut t5,ut t6,ut t7,ut sm])::hand h m::pt W (wl ys)::F) Hm:=zn.toT;refine dB (i:=(j1:Int)) (ys:=ys.set j1 (ut c2)) (zn'.sub (Γ':=pt W (wl ys)::tu c2 [v1,v2,rr,ut b]::hand h m::F) (by ac_nf)) .e (by rw[iT nofun nofun];rfl) rfl (λHo zo=>?_);right;refine q (ut W) [pt W (wl (ys.set j1 (ut c2))),tu c2 [v1,v2,rr,ut b]] Ho ⟨W,ys.set j1 (ut c2),ds.set j1 (.mk v1 v2 rw),rfl,le,by rw[length_set];exact l0,by rw[length_set];exact hy4,?_⟩ (toF (L:=[_,_]) (G:=[_]) (F:=F) ?_)
 .refine⟨by rw[length_set,length_set];exact al.1,λj v i e1 e2=>?_⟩;rw[getElem?_set]at e1 e2
  by_cases hj:j1=j
  .subst hj;rw[if_pos rfl,if_pos hj1]at e1;rw[if_pos rfl,if_pos (by rw[<-al.1];exact hj1)]at e2;cases e1;cases e2;exact⟨c2,rr,b,x,rfl,dl _ le,o1.mono (Δ:=[_,_]),o2.mono (Δ:=[_,_]),g3.mono (Δ:=[_,_]),ak (Δ:=[_,_]) g4⟩
  .rw[if_neg hj]at e1 e2;exact dO.mono (Δ:=[_,_]) (al.2 j v i e1 e2)
 .exact zo.sub (Γ':=pt W (wl (ys.set j1 (ut c2)))::tu c2 [v1,v2,rr,ut b]::hand h m::F) .refl
end
section
variable {F G Δ:List ah}{v h:Addr}{w:V}{m:Int}
def DX {E:St->XK}{W:Addr}{rr:V}(hk:3<=k)(hm:m<=1099510000000)(n0:1<=n)(n60:n<=60)(l1:ys.length<=4)(l0:1<=ys.length)(hj1:j1<ys.length)(al:eg (dO R F) ys ds)(g1:ff R F lo)(g2:ff R F hi)(g3:kL R F rr rw)(g4:dY R b x ∈ F)
  (pick:∀ {r:Int},0<=r->r<(ys.length:Int)->∃ j T lo hi rr b rw x,r=((j:Nat):Int)/\j<ys.length/\ys[j]? =some (ut T)/\jw ys r=some (ut T)/\ds[j]? =some (.mk lo hi rw)/\tu T [lo,hi,rr,ut b] ∈ F/\ff R F lo/\ff R F hi/\kL R F rr rw/\dY R b x ∈ F)
  (z3:Sep (hand h m::pt W (wl ys)::F) H) (q:∀ v' Δ H',la R (Δ++F) v'->Sep (hand h (m+18)::(Δ++F)) H'->D.rt v' H'):
  wB (a7 3 a9.body) ⟨tab,R,aa tab R (k-1),.calm⟩ D E [some (ut h),some (v4 n),some (ut a),some (ut W),some (v4 (j1:Int)),some lo,some hi,some rr,some (ut b),none,none,none,none,none,none] H:=by
 walk_at "gd";rename_i r2 H4 r20 r21 z4;obtain⟨j2,T2,lo2,hi2,rr2,b2,rw2,x2,rfl,hj2,ey2,at2,ed2,m2,f1,f2,f3,f4⟩:=pick r20 r21;clear z3;refine bH (z4.get .k1) at2 ?_;walk_at "gd";rename_i wy H5 wy0 wy1 z5;clear z4;refine vK (G:=[pt W (wl ys)]) (m:=m+1+1) nofun (by decide) nofun z5 nofun (λod Δ H6 tv cv z6=>?_);have z7:Sep (hand h (m+1+1+3)::pt W (wl ys)::(Δ++F)) H6:=z6;clear z5 z6;have q':∀ v' Δ' H',la R (Δ'++(Δ++F)) v'->Sep (hand h (m+18)::(Δ'++(Δ++F))) H'->D.rt v' H':=λv' Δ' H' h1 h2=>q v' (Δ'++Δ) H' (by rw[io];exact h1) (by rw[io];exact h2)
 left;refine⟨rfl,?_⟩;refine kN nofun z7 nofun nofun nofun (λax Ha at0 at1 za=>?_);left;refine⟨rfl,?_⟩;refine kN nofun za nofun nofun nofun (λr4 Hb r40 r41 zb=>?_);left;refine gI zb (nb rfl) (λsm Hc zc=>?_);have zd:Sep (tu sm [v4 ax,v4 (ax+1+r4)]::hand h (m+18)::pt W (wl ys)::(Δ++F)) Hc:=(ag (n:=m+18) (zc.toT.pull (A:=hand h _) .k1) nofun).pull .k1;exact El (k:=k) (m:=m+18) (F:=Δ++F) (ds:=ds) l1 l0 hj1 wy0 wy1 (al.map λv i=>dO.mono) (g1.mono) (g2.mono) (g3.mono) (ak g4) (f1.mono) (f2.mono) (ak m2) ⟨tv,cv⟩ zd q'
def Bq (hk:3<=k)(hm:m<=1099500000000)(n0:1<=n)(n60:n<=60)(hv:la R F w)(z:Sep (hand h m::F) H)(q:∀ v' Δ H',la R (Δ++F) v'->Sep (hand h (m+20)::(Δ++F)) H'->Q v' H'):aa tab R k 67 [ut h,v4 n,w] H Q E:=by
 delta a9;obtain⟨a,ys,ds,rfl,ma,l0,l1,al⟩:=hv;have pick:∀ {r:Int},0<=r->r<(ys.length:Int)->∃ j T lo hi rr b rw x,r=((j:Nat):Int)/\j<ys.length/\ys[j]? =some (ut T)/\jw ys r=some (ut T)/\ds[j]? =some (.mk lo hi rw)/\tu T [lo,hi,rr,ut b] ∈ F/\ff R F lo/\ff R F hi/\kL R F rr rw/\dY R b x ∈ F:=λ{r} h0 h1=>lB al h0 h1
 left;refine bq z (fz (G:=[_]) ma z) (λW H2 z2=>?_);walk_at "gd";rename_i r1 H3 r10 r11 z3;obtain⟨j1,T1,lo,hi,rr,b,rw,x,rfl,hj1,ey1,at1,ed1,m1,g1,g2,g3,g4⟩:=pick r10 r11;clear z z2;refine bH (z3.get .k1) at1 ?_;left;refine⟨T1,_,rfl,.inl (aY.of (d9 (G:=[_,_]) m1 z3)),rfl,?_⟩;exact DX (k:=k) (m:=m+1) hk nofun n0 n60 l1 l0 hj1 al g1 g2 g3 g4 pick z3 (λv' Δ H' h1 h2=>q v' Δ H' h1 (ag h2 nofun))
end
section
variable {F G Δ:List ah}{v h:Addr}{w:V}{m:Int}
def uV (hp:pt p (wl xs) ∈ F)(hl:xs.length<=400)(h1:∀ x ∈ xs,∃ d,vm R F x d) (h2:∀ x ∈ xs,Ct R F 3 x):∃ ms,Dd R F (ut p) ms:=by
 obtain⟨ds,al⟩:=eg.ex h1;exact⟨some ds,⟨p,xs,rfl,hp,hl,al⟩,.ls hp hl h2⟩
def uW (al:eg (dO R F) ys ds):∀ x ∈ ys,(∃ d,vm R F x d)/\Ct R F 3 x:=λx hx=>by
 obtain⟨j,hj⟩:=getElem?_of_mem hx;obtain⟨d,_,hd⟩:=al.get hj;exact⟨⟨d,hd.i⟩,hd.ct⟩
def Ec {E:St->XK}{W T1:Addr}{rr:V}{u2 u3:Option V}(hk:3<=k)(hm:m<=1099510000000)(l1:ys.length<=4)(hj1:j1<ys.length)(al:eg (dO R F) ys ds)(m1:tu T1 [lo,hi,rr,ut b] ∈ F)(g1:ff R F lo)(g2:ff R F hi)(g3:kL R F rr rw)(g4:dY R b x ∈ F)
  (z:Sep (hand h m::pt W (wl ys)::F) H) (q:∀ v' ms Δ H',Dd R (Δ++F) v' ms->Sep (hand h (m+1)::(Δ++F)) H'->D.rt v' H'):
  wB (a7 5 ba.body) ⟨tab,R,aa tab R (k-1),.calm⟩ D E [some (ut h),some (ut a),u2,u3,some (ut W),some (v4 (j1:Int)),some (ut T1)] H:=by
 have C4:=dO.C4 g1 g2 g3 g4;left;refine t8 z (d9 (G:=[_,_]) m1 z) (λp1 H1 z1=>?_);right;refine Dg z1 (d9 (G:=[_,_,_]) m1 z1) (λz=>absurd z.2 (by show ¬ (3=4);decide)) (λp2 H2 z2=>?_);right;rename_i t3 H3 z3;refine cat_t z3 (d9 (G:=[_,_,_,_,_]) m1 z3) z3.at (by simp) (by simp) (by show 5<=1000;decide) (λp4 H4 z4=>?_);walk_at "gd";rename_i LL H5 z5 r2 H6 r20 r21 z6;have y0:Sep (pt W (wl ys)::hand h (m+1)::pt LL (wl [ut p1,ut p2,ut p4,wf,v4 7,v6 "abcd"])::pt p4 (wn [lo,hi,rr,ut b,v4 1])::pt t3 (wn [v4 1])::pt p2 (wn [lo,hi,rr])::pt p1 (wl [lo,hi,rr,ut b])::F) H6:=z6.pull (A:=pt W (wl ys)) (.j2 (.j2 (.j2 .e)));obtain⟨v,hv,hmem⟩:=aS (xs:=[ut p1,ut p2,ut p4,wf,v4 7,v6 "abcd"]) r20 (by simpa using r21);refine bH (y0.get .k2) hv ?_;clear z z1 z2 z3 z4 z5 z6;left;have fin:∀ {v:V}{Δ0:List ah}{H:Hp},vm R (Δ0++F) v .bad->Ct R (Δ0++F) 3 v->Sep (pt W (wl (ys.set j1 v))::hand h (m+1)::(Δ0++F)) H->D.rt (ut W) H:=λ{v Δ0 H} hb hc zz=>by
  refine q (ut W) (some (ds.set j1 .bad)) (pt W (wl (ys.set j1 v))::Δ0) H ⟨⟨W,_,rfl,le,by rw[length_set];omega,by rw[length_set,length_set];exact al.1,λj u d e1 e2=>?_⟩,.ls le (by rw[length_set];omega) λu hu=>?_⟩ (toF (L:=[_]) (G:=[_]) zz)
  .rw[getElem?_set]at e1 e2
   by_cases hj:j1=j
   .subst hj;rw[if_pos rfl,if_pos hj1]at e1;rw[if_pos rfl,if_pos (by rw[<-al.1];exact hj1)]at e2;cases e1;cases e2;exact hb.mono (Δ:=[_])
   .rw[if_neg hj]at e1 e2;exact((al.2 j u d e1 e2).mono (Δ:=pt W (wl (ys.set j1 v))::Δ0)).i
  .rcases List.mem_or_eq_of_mem_set hu with hu|rfl
   .exact((uW al u hu).2).mono λA m=>ak (Δ:=pt W (wl (ys.set j1 v))::Δ0) m
   .exact hc.mono λA m=>dl _ m
 have flt:∀ {v:V},ai v=true->∀ {H:Hp},Sep (pt W (wl (ys.set j1 v))::hand h (m+1)::F) H->D.rt (ut W) H:=λ{v} hf {H} zz=>fin (Δ0:=[]) (.inl (qt (.inr rfl) hf)) (.fl hf) zz
 have hset:tm ys.length (j1:Int)=some j1:=by rw[iT nofun nofun];rfl
 simp only[lf,not_mem_nil,or_false]at hmem;rcases hmem with rfl|rfl|rfl|rfl|rfl|rfl
 .have y1:Sep (pt W (wl ys)::hand h (m+1)::pt p1 (wl [lo,hi,rr,ut b])::F) H6:=y0.sub (by ac_nf);refine dB (ys:=ys.set j1 (ut p1)) y1 .e hset rfl (λH7 y2=>?_);left;exact fin (Δ0:=[pt p1 (wl [lo,hi,rr,ut b])]) (.inl (DQ (by decide) le)) (.ls le (by show 4<=400;decide) λy hy=>(C4 y hy).mono λA m=>ak (Δ:=[_]) m) y2
 .have y1:Sep (pt p2 (wn [lo,hi,rr])::pt W (wl ys)::hand h (m+1)::F) H6:=y0.sub (by ac_nf);have y2:Sep (pt W (wl ys)::hand h (m+1)::tu p2 [lo,hi,rr]::F) H6:=y1.toT.sub (by ac_nf);refine dB (ys:=ys.set j1 (ut p2)) y2 .e hset rfl (λH7 y3=>?_);left;exact fin (Δ0:=[tu p2 [lo,hi,rr]]) (.inr ⟨p2,_,rfl,le,by show ¬ (3=4);decide⟩) (.tp le (by show 3<=400;decide) λy hy=>(C4 y (by simp only[lf,not_mem_nil,or_false]at hy⊢;rcases hy with rfl|rfl|rfl<;>simp)).mono λA m=>ak (Δ:=[_]) m) y3
 .have y1:Sep (pt p4 (wn [lo,hi,rr,ut b,v4 1])::pt W (wl ys)::hand h (m+1)::F) H6:=y0.sub (by ac_nf);have y2:Sep (pt W (wl ys)::hand h (m+1)::tu p4 [lo,hi,rr,ut b,v4 1]::F) H6:=y1.toT.sub (by ac_nf);refine dB (ys:=ys.set j1 (ut p4)) y2 .e hset rfl (λH7 y3=>?_);left;exact fin (Δ0:=[tu p4 [lo,hi,rr,ut b,v4 1]]) (.inr ⟨p4,_,rfl,le,by show ¬ (5=4);decide⟩) (.tp le (by show 5<=400;decide) λy hy=>by
   rcases mem_append.mp (show y ∈ [lo,hi,rr,ut b]++[v4 1] from hy) with hy|hy
   .exact(C4 y hy).mono λA m=>ak (Δ:=[_]) m
   .rw[mem_singleton.mp hy];exact .fl rfl) y3
 .have y1:Sep (pt W (wl ys)::hand h (m+1)::F) H6:=y0.sub (by ac_nf);refine dB (ys:=ys.set j1 wf) y1 .e hset rfl (λH7 y2=>?_);left;exact flt rfl y2
 .have y1:Sep (pt W (wl ys)::hand h (m+1)::F) H6:=y0.sub (by ac_nf);refine dB (ys:=ys.set j1 (v4 7)) y1 .e hset rfl (λH7 y2=>?_);left;exact flt rfl y2
 .have y1:Sep (pt W (wl ys)::hand h (m+1)::F) H6:=y0.sub (by ac_nf);refine dB (ys:=ys.set j1 (v6 "abcd")) y1 .e hset rfl (λH7 y2=>?_);left;exact flt rfl y2
def B1 (hk:3<=k)(hm:m<=1099500000000)(hv:la R F w)(z:Sep (hand h m::F) H)(q:∀ v' ms Δ H',Dd R (Δ++F) v' ms->Sep (hand h (m+20)::(Δ++F)) H'->Q v' H'):aa tab R k 66 [ut h,w] H Q E:=by
 delta ba;obtain⟨a,ys,ds,rfl,ma,l0,l1,al⟩:=hv;have gm:=uW al;walk_at "gd";rename_i w H1 w0 w1 z1;clear z;refine aB (λe=>?_) (λe=>?_)
 .walk_at "gd";rename_i l1' H2 z2 r H3 r0 r1 z3;obtain⟨v,e2,N,rfl,N0,N1⟩:=nc (xs:=[v4 5,v4 300]) (P:=inR 5 300) (r:=r) r0 (by simpa using r1) (Fo (.mk (by decide) (by decide)) (.mk (by decide) (by decide)));refine bH (by grind) e2 ?_;have z4:Sep (hand h (m+2)::F) H3:=(ag (n:=m+2) z3 nofun).sub (by ac_nf);clear z1 z2 z3;right;rename_i p1 H4 z5;refine iV z5 (fz (G:=[_,_]) ma z5) (λT H5 z6=>?_);right;rename_i p3 H6 z7;refine jI z7 (fz (G:=[_,_,_,_]) ma z7) nofun nofun nofun (λp4 H7 z8=>?_);walk_at "gd";rename_i p5 H8 z9 LL H9 z10 r2 H10 r20 r21 z11;obtain⟨v,hv,hmem⟩:=aS (xs:=[wf,ut p1,ut T,ut p3,ut p5,v6 "x"]) r20 (by simpa using r21);refine bH (by grind) hv ?_;have y0:Sep (hand h (m+20)::pt LL (wl [wf,ut p1,ut T,ut p3,ut p5,v6 "x"])::pt p5 (wl (aZ (sn N.toNat ys).flatten none (some N)))::pt p4 (wl (sn N.toNat ys).flatten)::pt p3 (.dK [])::tu T ys::pt p1 (wl [])::F) H10:=ag (n:=m+20) z11 nofun;clear z4 z5 z6 z7 z8 z9 z10 z11;have flt:∀ {v:V},ai v=true->Q v H10:=λ{v} hf=>q v none [] H10 ⟨qt (.inl rfl) hf,.fl hf⟩ (y0.sub (.cons .e (.drop (.drop (.drop (.drop (.drop (.drop .refl))))))))
  simp only[lf,not_mem_nil,or_false]at hmem;rcases hmem with rfl|rfl|rfl|rfl|rfl|rfl
  .exact flt rfl
  .have y1:Sep (pt p1 (wl [])::hand h (m+20)::F) H10:=y0.sub (by ac_nf);obtain⟨ms,hms⟩:=uV (R:=R) (F:=[pt p1 (wl [])]++F) (p:=p1) (xs:=[]) le (by decide) (λx hx=>absurd hx (by simp)) (λx hx=>absurd hx (by simp));exact q _ ms [pt p1 (wl [])] H10 hms (toF (L:=[_]) (G:=[_]) y1)
  .have y1:Sep (tu T ys::hand h (m+20)::F) H10:=y0.sub (by ac_nf);exact q _ none [tu T ys] H10 ⟨tF (by decide) le,.tp le nofun λx hx=>(gm x hx).2.mono λA m=>ak (Δ:=[_]) m⟩ (toF (L:=[_]) (G:=[_]) y1)
  .have y1:Sep (pt p3 (.dK [])::hand h (m+20)::F) H10:=y0.sub (by ac_nf);exact q _ none [pt p3 (.dK [])] H10 ⟨zJ (by decide) le,.dc le⟩ (toF (L:=[_]) (G:=[_]) y1)
  .have y1:Sep (pt p5 (wl (aZ (sn N.toNat ys).flatten none (some N)))::hand h (m+20)::F) H10:=y0.sub (by ac_nf);obtain⟨ms,hms⟩:=uV (R:=R) (F:=[pt p5 (wl (aZ (sn N.toNat ys).flatten none (some N)))]++F) (p:=p5) le (by rw[fq nofun nofun];omega) (λx hx=>let⟨d,hd⟩:=(gm x (dR x hx)).1;⟨d,hd.mono (Δ:=[_])⟩) (λx hx=>(gm x (dR x hx)).2.mono λA m=>ak (Δ:=[_]) m);exact q _ ms [_] H10 hms (toF (L:=[_]) (G:=[_]) y1)
  .exact flt rfl
 .left;refine bq z1 (fz (G:=[_]) ma z1) (λW H2 z2=>?_);walk_at "gd";rename_i r1 H3 r10 r11 z3;obtain⟨j1,T1,lo,hi,rr,b,rw,x,rfl,hj1,ey1,at1,ed1,m1,g1,g2,g3,g4⟩:=lB al r10 r11;clear z1 z2;refine bH (z3.get .k1) at1 ?_;exact Ec (k:=k) (m:=m+1+1) hk nofun l1 hj1 al m1 g1 g2 g3 g4 z3 (λv' ms Δ H' h1 h2=>q v' ms Δ H' h1 (ag h2 nofun))
end
section
variable {F G Δ:List ah}{v h:Addr}{w:V}{m:Int}
def BK (hp:pt p (wl xs) ∈ F)(hl:xs.length<=300)(h1:∀ x ∈ xs,∃ d,jX R F x d) (h2:∀ x ∈ xs,Ct R F 1 x):∃ rw,kL R F (ut p) rw:=by
 obtain⟨ds,al⟩:=eg.ex h1;exact⟨some ds,p,xs,rfl,hp,hl,al,h2⟩
def D6 {E:St->XK}{W ar OH S9:Addr}{ss:List V}(hk:3<=k)(hm:m<=1099510000000)(l0:1<=ys.length)(l1:ys.length<=4)(hj1:j1<ys.length)(al:eg (dO R F) ys ds)(g1:ff R F lo)(g2:ff R F hi)(g4:dY R b x ∈ F)(mr:pt ar (wl xs) ∈ F)(x0:1<=xs.length)(xl:xs.length<=300)(hx:∀ x ∈ xs,(∃ d,jX R F x d)/\Ct R F 1 x) (sl:ss.length<=300) (hs:∀ x ∈ ss,(∃ d,jX R F x d)/\Ct R F 1 x)
  (z:Sep (pt S9 (wl ss)::hand h m::pt W (wl ys)::F) H) (q:∀ v' Δ H',la R (Δ++F) v'->Sep (hand h (m+1)::(Δ++F)) H'->D.rt v' H'):
  wB (a7 7 a8.body) ⟨tab,R,aa tab R (k-1),.calm⟩ D E [some (ut h),some (ut a),some (ut W),some (v4 (j1:Int)),some lo,some hi,some (ut ar),some (ut b),some (ut OH),some (ut S9)] H:=by
 left;refine iV z (fz (G:=[_,_,_]) mr z) (λT H1 z1=>?_);right;rename_i p2 H2 z2;refine jI z2 (fz (G:=[_,_,_,_,_]) mr z2) (by decide) (by decide) nofun (λp3 H3 z3=>?_);right;rename_i p4 H4 z4;refine jI z4 (fz (G:=[_,_,_,_,_,_,_]) mr z4) (by decide) (by decide) nofun (λp5 H5 z5=>?_);walk_at "gd";rename_i p6 H6 z6 LL H7 z7 r H8 r0 r1 z8;obtain⟨v,hv,hmem⟩:=aS (xs:=[ut S9,ut S9,ut T,ut p2,ut p4,wf,ut p6]) r0 (by simpa using r1);refine bH (by grind) hv ?_;have y0:Sep (hand h (m+1)::pt LL (wl [ut S9,ut S9,ut T,ut p2,ut p4,wf,ut p6])::pt p6 (wl (aZ (sn (Int.toNat 300) xs).flatten none (some 300)))::pt p5 (wl (sn (Int.toNat 300) xs).flatten)::pt p4 (wl (aZ (sn (Int.toNat 25) xs).flatten none (some 25)))::pt p3 (wl (sn (Int.toNat 25) xs).flatten)::pt p2 (wl [])::tu T xs::pt S9 (wl ss)::pt W (wl ys)::F) H8:=z8;clear z z1 z2 z3 z4 z5 z6 z7 z8;obtain⟨Δ0,hrw,y1⟩:∃ Δ0,(∃ rw,kL R (Δ0++F) v rw)/\Sep (hand h (m+1)::pt W (wl ys)::(Δ0++F)) H8:=by
  have flt:∀ {v:V},ai v=true->∃ Δ0,(∃ rw,kL R (Δ0++F) v rw)/\Sep (hand h (m+1)::pt W (wl ys)::(Δ0++F)) H8:=λhf=>⟨[],⟨none,qt (.inl rfl) hf,.fl hf⟩,y0.sub (.cons .e (.drop (.drop (.drop (.drop (.drop (.drop (.drop (.drop .refl)))))))))⟩
  have lst:∀ {p:Addr}{us:List V},us.length<=300->(∀ u ∈ us,(∃ d,jX R F u d)/\Ct R F 1 u)->Sep (pt p (wl us)::hand h (m+1)::pt W (wl ys)::F) H8->∃ Δ0,(∃ rw,kL R (Δ0++F) (ut p) rw)/\Sep (hand h (m+1)::pt W (wl ys)::(Δ0++F)) H8:=λ{p us} hl hu zz=>⟨[pt p (wl us)],BK le hl (λu h=>let⟨d,hd⟩:=(hu u h).1;⟨d,hd.mono (Δ:=[_])⟩) (λu h=>(hu u h).2.mono λA m=>ak (Δ:=[_]) m),toF (L:=[_]) (G:=[_,_]) zz⟩
  simp only[lf,not_mem_nil,or_false]at hmem;rcases hmem with rfl|rfl|rfl|rfl|rfl|rfl|rfl
  .exact lst sl hs (y0.sub (by ac_nf))
  .exact lst sl hs (y0.sub (by ac_nf))
  .have y1:Sep (tu T xs::hand h (m+1)::pt W (wl ys)::F) H8:=y0.sub (by ac_nf);exact⟨[tu T xs],⟨none,tF (by decide) le,.tp le nofun λu h=>(hx u h).2.mono λA m=>ak (Δ:=[_]) m⟩,toF (L:=[_]) (G:=[_,_]) y1⟩
  .exact lst (us:=[]) (by decide) (λu h=>absurd h (by simp)) (y0.sub (by ac_nf))
  .exact lst (us:=aZ (sn (Int.toNat 25) xs).flatten none (some 25)) (by rw[fq x0 (by decide)];decide) (λu h=>hx u (dR u h)) (y0.sub (by ac_nf))
  .exact flt rfl
  .exact lst (us:=aZ (sn (Int.toNat 300) xs).flatten none (some 300)) (by rw[fq x0 (by decide)];decide) (λu h=>hx u (dR u h)) (y0.sub (by ac_nf))
 clear y0;obtain⟨rw,hrw⟩:=hrw;left;refine gI y1 (nb rfl) (λT2 H9 y2=>?_);left;have y3:Sep (pt W (wl ys)::hand h (m+1)::tu T2 [lo,hi,v,ut b]::(Δ0++F)) H9:=y2.toT.sub (by ac_nf);refine dB (ys:=ys.set j1 (ut T2)) y3 .e (by rw[iT nofun nofun];rfl) rfl (λH10 y4=>?_);left;refine q (ut W) (pt W (wl (ys.set j1 (ut T2)))::tu T2 [lo,hi,v,ut b]::Δ0) H10 ⟨W,ys.set j1 (ut T2),ds.set j1 (.mk lo hi rw),rfl,le,by rw[length_set];exact l0,by rw[length_set];exact l1,?_⟩ ?_
 .refine⟨by rw[length_set,length_set];exact al.1,λj v2 i e1 e2=>?_⟩;rw[getElem?_set]at e1 e2
  by_cases hj:j1=j
  .subst hj;rw[if_pos rfl,if_pos hj1]at e1;rw[if_pos rfl,if_pos (by rw[<-al.1];exact hj1)]at e2;cases e1;cases e2;exact⟨T2,v,b,x,rfl,dl _ le,g1.mono (Δ:=_::_::Δ0),g2.mono (Δ:=_::_::Δ0),hrw.mono (Δ:=[_,_]),ak (Δ:=_::_::Δ0) g4⟩
  .rw[if_neg hj]at e1 e2;exact dO.mono (Δ:=_::_::Δ0) (al.2 j v2 i e1 e2)
 .exact toF (L:=[pt W (wl (ys.set j1 (ut T2)))]) (G:=[hand h (m+1)]) y4
end
section
variable {F G:List ah}{v:V}{n:Nat}{ns:List Str}{x dx p p':Addr}{vs vs':List V}
def vH (hk:1<=k)(z:Sep (pt x (wp (R.cad 15) dx [])::O) H)(q:∀ H',Sep (pt x (wp (R.cad 15) dx [("called",v6 w)])::O) H'->Q wf H'):aa tab R k 46 [ut x,v6 w] H Q E:=by
 delta eA;right;exact q _ (by assumption)
def vL (hk:1<=k)(hp:pt p (wl vs) ∈ F)(z:Sep (pt x (wp (R.cad 16) dx [])::(G++F)) H)(q:∀ l H',Sep (pt x (wp (R.cad 16) dx [("many",v4 m),("block",ut l)])::pt l (wl vs)::(G++F)) H'->Q wf H'):aa tab R k 48 [ut x,v4 m,ut p] H Q E:=by
 delta cT;right;rename_i H1 z1;refine bq z1 (fz (G:=_::G) hp z1) (λl H2 z2=>?_);right;rename_i H3 z3;exact q l _ (z3.pull .k1)
def rM {o:Int}(hk:1<=k)(hp:pt p (wl vs) ∈ F)(z:Sep (pt x (wp (R.cad 17) dx [])::(G++F)) H)(q:∀ l l' H',Sep (pt x (wp (R.cad 17) dx [("on",v4 o),("block",ut l),("other",ut l')])::pt l (wl vs)::pt l' (wl [])::(G++F)) H'->Q wf H'):aa tab R k 50 [ut x,v4 o,ut p,wf] H Q E:=by
 delta c7;right;rename_i H1 z1;refine bq z1 (fz (G:=_::G) hp z1) (λl H2 z2=>?_);right;rename_i H3 z3;refine tI ?_;right;rename_i l' H4 z4 H5 z5;exact q l l' _ (z5.sub (.cons .k2 (.cons .k1 (.cons .e .refl))))
end
section
variable {F G Δ:List ah}{v h:Addr}{w:V}{m:Int}
def Ej {E:St->XK}{W ar:Addr}(hk:3<=k)(hm:m<=1099509000000)(l0:1<=ys.length)(l1:ys.length<=4)(hj1:j1<ys.length)(al:eg (dO R F) ys ds)(g1:ff R F lo)(g2:ff R F hi)(g4:dY R b x ∈ F)(mr:pt ar (wl xs) ∈ F)(x0:1<=xs.length)(xl:xs.length<=300)(hx:∀ x ∈ xs,(∃ d,jX R F x d)/\Ct R F 1 x)
  (z:Sep (hand h m::pt W (wl ys)::F) H) (q:∀ v' Δ H',la R (Δ++F) v'->Sep (hand h (m+10)::(Δ++F)) H'->D.rt v' H'):
  wB (a7 4 a8.body) ⟨tab,R,aa tab R (k-1),.calm⟩ D E [some (ut h),some (ut a),some (ut W),some (v4 (j1:Int)),some lo,some hi,some (ut ar),some (ut b),none,none] H:=by
 right;intro d1 e1 h1 h2 h3;refine vH nofun (gi z h1 h2 h3) (λH1 z1=>⟨rfl,?_⟩);clear h1 h2 h3;right;refine wA z1 (λc1 f1 H2 z2=>?_);right;rename_i p1 H3 z3 t1 H4 z4;refine wA z4 (λc2 f2 H5 z5=>?_);right;rename_i p2 H6 z6;intro d2 e2 h1 h2 h3;refine vL (G:=[_]) nofun le (gi z6 h1 h2 h3) (λb2 H7 z7=>⟨rfl,?_⟩);clear h1 h2 h3;right;refine wA z7 (λc3 f3 H8 z8=>?_);right;rename_i p3 H9 z9;intro d3 e3 h1 h2 h3;refine rM (G:=[_]) nofun le (gi z9 h1 h2 h3) (λb3 b4 H10 z10=>⟨rfl,?_⟩);clear h1 h2 h3;clear z z1 z2 z3 z4 z5 z6 z7 z8 z9;left;refine uG z10 (nb rfl) (λOH H11 z11=>?_);have z12:Sep (pt OH (wl [wf,v6 "copy",ut d1,ut p1,ut b,ut t1,ut d2,ut d3])::pt d3 (wp (R.cad 17) e3 [("on",v4 0),("block",ut b3),("other",ut b4)])::pt b3 (wl [ut c3])::pt b4 (wl [])::pt e3 (.own d3)::pt p3 (wl [ut c3])::pt c3 (wp (R.cad 18) f3 [])::pt f3 (.own c3)::pt d2 (wp (R.cad 16) e2 [("many",v4 1),("block",ut b2)])::pt b2 (wl [ut c2])::pt e2 (.own d2)::pt p2 (wl [ut c2])::pt c2 (wp (R.cad 18) f2 [])::pt f2 (.own c2)::pt t1 (wn [v6 "turn"])::pt p1 (wl [ut c1])::pt c1 (wp (R.cad 18) f1 [])::pt f1 (.own c1)::pt d1 (wp (R.cad 15) e1 [("called",v6 "a")])::pt e1 (.own d1)::hand h m::pt W (wl ys)::F) H11:=z11;have z13:=(z12.pull (A:=pt t1 (wn [v6 "turn"])) (by symm)).toT;have z14:Sep (tu t1 [v6 "turn"]::pt d3 (wp (R.cad 17) e3 [("on",v4 0),("block",ut b3),("other",ut b4)])::pt d2 (wp (R.cad 16) e2 [("many",v4 1),("block",ut b2)])::pt p1 (wl [ut c1])::pt c1 (wp (R.cad 18) f1 [])::pt d1 (wp (R.cad 15) e1 [("called",v6 "a")])::pt OH (wl [wf,v6 "copy",ut d1,ut p1,ut b,ut t1,ut d2,ut d3])::hand h m::pt W (wl ys)::F) H11:=z13.sub (by ac_nf);obtain⟨N,hN⟩:∃ N,N=([tu t1 [v6 "turn"],pt d3 (wp (R.cad 17) e3 [("on",v4 0),("block",ut b3),("other",ut b4)]),pt d2 (wp (R.cad 16) e2 [("many",v4 1),("block",ut b2)]),pt p1 (wl [ut c1]),pt c1 (wp (R.cad 18) f1 []),pt d1 (wp (R.cad 15) e1 [("called",v6 "a")])]:List ah):=⟨_,rfl⟩;have z15:Sep ([pt OH (wl [wf,v6 "copy",ut d1,ut p1,ut b,ut t1,ut d2,ut d3]),hand h m,pt W (wl ys)]++(N++F)) H11:=toF (L:=N) (by rw[hN];exact z14);have ob:∀ {a:Addr}{c:Nat}{dx:Addr}{fs:List (Str×V)},pt a (wp (R.cad c) dx fs) ∈ N->tj R (N++F) a c:=λ{a c dx fs} h=>⟨_,mem_append_left _ h,λH D z=>⟨dx,fs,z.2⟩⟩
 have oh:∀ y ∈ [wf,v6 "copy",ut d1,ut p1,ut b,ut t1,ut d2,ut d3],jX R (N++F) y false/\Ct R (N++F) 1 y:=λy hy=>by
  have o1:=ob (a:=d1) (c:=15) (dx:=e1) (fs:=[("called",v6 "a")]) (by rw[hN];simp);have o2:=ob (a:=d2) (c:=16) (dx:=e2) (fs:=[("many",v4 1),("block",ut b2)]) (by rw[hN];simp);have o3:=ob (a:=d3) (c:=17) (dx:=e3) (fs:=[("on",v4 0),("block",ut b3),("other",ut b4)]) (by rw[hN];simp);have o4:=ob (a:=c1) (c:=18) (dx:=f1) (fs:=[]) (by rw[hN];simp);have mp:pt p1 (wl [ut c1]) ∈ N++F:=mem_append_left _ (by rw[hN];simp);have mt:tu t1 [v6 "turn"] ∈ N++F:=mem_append_left _ (by rw[hN];simp);have ob5:=(vb g4).mono (F':=N++F) (λA m=>ak m);simp only[lf,not_mem_nil,or_false]at hy;rcases hy with rfl|rfl|rfl|rfl|rfl|rfl|rfl|rfl
  .exact⟨.inl (en rfl),.fl rfl⟩
  .exact⟨.inl (en rfl),.fl rfl⟩
  .exact⟨.inr ⟨d1,15,rfl,.inr (.inl rfl),o1⟩,.ob (.inr (.inr (.inr (.inr (.inl rfl))))) o1⟩
  .exact⟨.inl (Aa mp),.ls mp (by show 1<=400;decide) λu hu=>by rw[mem_singleton.mp hu];exact .ob (.inl rfl) o4⟩
  .exact⟨.inr ⟨_,9,rfl,.inl rfl,ob5⟩,.ob (.inr (.inr (.inr (.inl rfl)))) ob5⟩
  .exact⟨.inl (As mt),.tp mt (by show 1<=400;decide) λu hu=>by rw[mem_singleton.mp hu];exact .fl rfl⟩
  .exact⟨.inr ⟨d2,16,rfl,.inr (.inr (.inl rfl)),o2⟩,.ob (.inr (.inr (.inr (.inr (.inr (.inl rfl)))))) o2⟩
  .exact⟨.inr ⟨d3,17,rfl,.inr (.inr (.inr rfl)),o3⟩,.ob (.inr (.inr (.inr (.inr (.inr (.inr rfl)))))) o3⟩
 clear z10 z11 z12 z13 z14 ob hN;have q':∀ v' Δ' H',la R (Δ'++(N++F)) v'->Sep (hand h (m+10)::(Δ'++(N++F))) H'->D.rt v' H':=λv' Δ' H' h1 h2=>q v' (Δ'++N) H' (by rw[io];exact h1) (by rw[io];exact h2)
 have al':eg (dO R (N++F)) ys ds:=al.map λv i=>dO.mono
 have g1':=g1.mono (Δ:=N);have g2':=g2.mono (Δ:=N);have g4':=ak (Δ:=N) g4;have mr':=ak (Δ:=N) mr;have hx':∀ x ∈ xs,(∃ d,jX R (N++F) x d)/\Ct R (N++F) 1 x:=λx h=>⟨let⟨d,hd⟩:=(hx x h).1;⟨d,hd.mono⟩,(hx x h).2.mono λA m=>ak m⟩
 generalize N++F=F2 at z15 oh q' al' g1' g2' g4' mr' hx';have z16:Sep (pt OH (wl [wf,v6 "copy",ut d1,ut p1,ut b,ut t1,ut d2,ut d3])::hand h m::pt W (wl ys)::F2) H11:=z15;clear z15;left;refine bq z16 (fz (G:=[_,_,_]) mr' z16) (λS9 H12 z17=>?_);walk_at "gd";rename_i r1 H13 r10 r11 z18;obtain⟨v,hv,hmem⟩:=aS (xs:=[wf,v6 "copy",ut d1,ut p1,ut b,ut t1,ut d2,ut d3]) r10 (by simpa using r11);refine bH (by grind) hv ?_;clear z16 z17;walk_at "gd";rename_i r2 H14 r20 r21 z19;have z19':Sep (pt S9 (wl xs)::hand h (m+2)::pt W (wl ys)::F2) H14:=(ag (n:=m+2) z19 nofun).sub (by ac_nf);clear z18 z19;refine dB (i:=r2) (ys:=xs.set r2.toNat v) z19' .e (iT r20 nofun) rfl (λH15 z20=>?_)
 .obtain⟨o1,o2⟩:=oh v hmem;refine D6 (k:=k) (m:=m+2) hk nofun l0 l1 hj1 al' g1' g2' g4' mr' x0 xl hx' (ss:=xs.set r2.toNat v) (by rw[length_set];exact xl) (λu hu=>?_) z20 (λv' Δ' H' h1 h2=>q' v' Δ' H' h1 (ag h2 nofun));rcases List.mem_or_eq_of_mem_set hu with hu|rfl
  .exact hx' u hu
  .exact⟨⟨false,o1⟩,o2⟩
def BQ (hk:3<=k)(hm:m<=1099500000000)(hv:la R F w)(z:Sep (hand h m::F) H)(q:∀ v' Δ H',la R (Δ++F) v'->Sep (hand h (m+20)::(Δ++F)) H'->Q v' H'):aa tab R k 68 [ut h,w] H Q E:=by
 delta a8;obtain⟨a,ys,ds,rfl,ma,l0,l1,al⟩:=hv;left;refine bq z (fz (G:=[_]) ma z) (λW H2 z2=>?_);walk_at "gd";rename_i r1 H3 r10 r11 z3;obtain⟨j1,T1,lo,hi,rr,b,rw,x,rfl,hj1,ey1,at1,ed1,m1,g1,g2,g3,g4⟩:=lB al r10 r11;clear z z2;have same:∀ {H:Hp},Sep (pt W (wl ys)::hand h (m+20)::F) H->Q (ut W) H:=λzz=>q (ut W) [pt W (wl ys)] _ ⟨W,ys,ds,rfl,le,l0,l1,al.map λv i=>dO.mono (Δ:=[_])⟩ (toF (L:=[_]) (G:=[_]) zz)
 refine bH (z3.get .k1) at1 ?_;left;refine⟨T1,_,rfl,.inl (aY.of (d9 (G:=[_,_]) m1 z3)),rfl,?_⟩;cases rw with
 |none=>
  obtain⟨⟨t,hn,f⟩,_⟩:=g3;have z4:Sep (pt W (wl ys)::hand h (m+20)::F) H3:=(ag (n:=m+20) z3 nofun).pull .k1;have ht:=f [_,_] H3 z4;left;refine aJ ht (b:=false) (by cases aV ht<;>first|rfl|exact absurd rfl hn) ?_;right;exact same z4
 |some bs=>
  obtain⟨ar,xs,rfl,mr,xl,alr,ct⟩:=g3;have er:=fz (G:=[_,_]) mr z3;left;refine aJ (t:="list") (jy er) rfl ?_;right;rename_i E1 H4 z5;have z5':Sep (pt E1 (wl [])::hand h (m+1)::pt W (wl ys)::F) H4:=z5;obtain⟨Δr,pr⟩:=cA mr;refine eq_nil (fz (G:=[_,_,_]) mr z5') z5'.at (Sep.ne (z5'.pull (.j2 (.t pr)))) ?_;refine aB (p:=xs.length=0) (λe=>?_) (λe=>?_)
  .right;exact same ((ag (n:=m+20) (z5'.pull (A:=hand h _) .k1) nofun).sub (by ac_nf))
  .have hx:∀ x ∈ xs,(∃ d,jX R F x d)/\Ct R F 1 x:=λx hx=>by
    obtain⟨j,hj⟩:=getElem?_of_mem hx;obtain⟨d,_,hd⟩:=alr.get hj;exact⟨⟨d,hd⟩,ct x hx⟩
   exact Ej (k:=k) (m:=m+1) hk nofun l0 l1 hj1 al g1 g2 g4 mr nofun xl hx z5'.drop (λv' Δ H' h1 h2=>q v' Δ H' h1 (ag h2 nofun))
end
def yT {es:List V}(s:Sep O H)(hl:es.length<=10000)(h:∀ p H',H p=none->Sep (tu p es::O) H'->Q (ut p) H'):dg es H Q:=by unfold dg;exact⟨hl,λp hp=>h p _ hp (s.dg hp)⟩
def vf {t1 t2:Addr}{i:Int}(e1:H t1=some (wn [v6 w,v4 i]))(e2:H t2=some (wn [v6 w,v4 i])):d5 R.K H 2 (ut t1) (ut t2) true:=
 kY e1 e2 rfl λj x y q1 q2=>by
  match j,q1,q2 with
  |0,q1,q2=>cases q1;cases q2;exact my (t:="str") rfl
  |1,q1,q2=>cases q1;cases q2;exact my (t:="int") rfl
def Ct.eqs {G:List ah}(h:Ct R F n v):d5 R.K H (n+1) v v true:=by
 have rf:∀ a,d5 R.K H (n+1) (ut a) (ut a) true:=λa=>.same a
 cases h with
 |fl h=>
  have:=d5.flat (K:=R.K) (H:=H) (n:=n+1) h h
  rwa [iZ h]at this
 |dc h=>exact rf _
 |ob hc h=>exact rf _
 |ls h hl hx=>exact rf _
 |tp h hl hx=>exact rf _
section
variable {F G:List ah}{vC vM:V}{h A CL ML:Addr}{m:Int}
def B7 {T0 T2:Addr}{k':V}(h0:tu T0 [vC,vM] ∈ F)(hc:Cq F 5 (ut T0) k')(c1:Ct R F 4 vC)(c2:Ct R F 4 vM)(z:Sep (G++F) H)(e2:H T2=some (wn [vC,vM])):∃ T1,k'=ut T1/\(∃ o,H T1=some o)/\d5 R.K H 6 (ut T2) (ut T1) true:=by
 have e0:=d9 h0 z;cases hc with
 |fl h=>cases h
 |sm=>
  refine⟨T0,rfl,⟨_,e0⟩,kY (n:=4) e2 e0 rfl λj x y q1 q2=>?_⟩
  match j,q1,q2 with
  |0,q1,q2=>cases q1;cases q2;exact c1.eqs (G:=G)
  |1,q1,q2=>cases q1;cases q2;exact c2.eqs (G:=G)
 |ls h h2 hl hx=>
  have:=(fz h z).symm.trans e0;cases this
 | @tp _ _ T1 xs ys h h2 hl hx=>
  have e3:=(d9 h z).symm.trans e0;cases e3;refine⟨T1,rfl,⟨_,d9 h2 z⟩,kY (n:=4) e2 (d9 h2 z) hl λj x y q1 q2=>?_⟩;exact(hx j x y q1 q2).eqv z
def Eh {T0:Addr}{k':V}(h0:tu T0 [vC,vM] ∈ F)(hc:Cq F 5 (ut T0) k')(z:Sep (G++F) H):∃ T1 o,k'=ut T1/\H T1=some o:=by
 cases hc with
 |fl h=>cases h
 |sm=>exact⟨T0,_,rfl,d9 h0 z⟩
 |ls h h2 hl hx=>exact⟨_,_,rfl,fz h2 z⟩
 |tp h h2 hl hx=>exact⟨_,_,rfl,d9 h2 z⟩
def Ao {E:St->XK}{u0 u2 u3 u4 u5 u6 u7 u10 u11 u12:Option V}{ms:Option (List Md)}(ro:Ro K R)(hk:12<=k)(hC:GN R F vC fl)(hM:Dd R F vM ms)(z:Sep (hand h m::F) H)(q:∀ Δ u12 H',Sep (hand h m::(Δ++F)) H'->D.nx [u0,some (ut h),u2,u3,u4,u5,u6,u7,some vC,some vM,u10,u11,u12] H'):
  wB (a7 7 (o8 (a7 4 dw.body))) ⟨tab,R,aa tab R (k-1),.calm⟩ D E [u0,some (ut h),u2,u3,u4,u5,u6,u7,some vC,some vM,u10,u11,u12] H:=by
 left;refine⟨rfl,?_⟩;refine gI z (nb rfl) (λT0 H1 z1=>?_);have z2:Sep ([hand h m]++(tu T0 [vC,vM]::F)) H1:=z1.toT.pull .k1;left;have mono:∀ {A:ah},A ∈ F->A ∈ tu T0 [vC,vM]::F:=λm=>dl _ m
 have cc1:Ct R (tu T0 [vC,vM]::F) 4 vC:=(hC.2.up (by decide)).mono λA m=>mono m
 have cc2:Ct R (tu T0 [vC,vM]::F) 4 vM:=hM.2.mono λA m=>mono m
 refine DH ro 5 (k-1) (ut T0) [hand h m] (tu T0 [vC,vM]::F) H1 _ _ nofun (.tp le (by show 2<=400;decide) λx hx=>?_) z2 (λk' Δ H2 hq z3=>?_)
 .simp only[lf,not_mem_nil,or_false]at hx;rcases hx with rfl|rfl
  .exact cc1
  .exact cc2
 left;refine⟨rfl,?_⟩;have hC1:yd (Δ++(tu T0 [vC,vM]::F)) vC fl:=yd.mono (yd.mono (Δ:=[tu T0 [vC,vM]]) hC.1);have hM1:sM R (Δ++(tu T0 [vC,vM]::F)) vM ms:=sM.mono (sM.mono (Δ:=[tu T0 [vC,vM]]) hM.1);refine qc (G:=[hand h m]) ro nofun hC1 hM1 z3 (λt1 H3 z4=>?_);left;refine⟨rfl,?_⟩;refine B2 (G:=[pt t1 (wn [v6 (fe fl ms).1,v4 (fe fl ms).2]),hand h m]) nofun hC1 hM1 z4 (λt2 H4 z5=>?_);left;have z5':Sep (pt t2 (wn [v6 (fe fl ms).1,v4 (fe fl ms).2])::pt t1 (wn [v6 (fe fl ms).1,v4 (fe fl ms).2])::hand h m::(Δ++(tu T0 [vC,vM]::F))) H4:=z5;refine vV (vf (z5'.get .k1) z5'.at) (by decide) (Sep.ne (z5'.pull .k1)) ?_;have z6:Sep ([hand h m]++(Δ++(tu T0 [vC,vM]::F))) H4:=z5'.drop.drop;clear z z1 z2 z3 z4 z5 z5';refine aR rfl ?_;left;refine yT z6 (nb rfl) (λT2 H5 hn z7=>?_);obtain⟨T1,o,rfl,ho⟩:=Eh (ak le) hq z6;have z8:Sep ([tu T2 [vC,vM],hand h m]++(Δ++(tu T0 [vC,vM]::F))) H5:=z7;obtain⟨T1',hT,_,he⟩:=B7 (R:=R) (T2:=T2) (ak le) hq (cc1.mono λA m=>ak (Δ:=Δ) m) (cc2.mono λA m=>ak (Δ:=Δ) m) z8 (Sep.atT z8);cases hT;refine vV he (by decide) (λe=>by rw[e,ho]at hn;cases hn) ?_;refine aR rfl ?_;refine q (Δ++[tu T0 [vC,vM]]) _ H5 ?_;rw[io];exact Sep.drop z8
end
section
variable {F G:List ah}{vC vM w:V}{h A CL:Addr}{m N:Int}{cs:List Int}{D:Ends}{E:St->XK}{u0 u3 u4 u5 u6 u7 u11 u12:Option V}
def zX (ro:Ro K R)(hk:12<=k)(hm:m<=1099400000000)(N0:0<=N)(N1:N<=15)(c0:1<=cs.length)(c60:cs.length<=60)(mA:pt A (wl (cs.map v4)) ∈ F)(hw:la R F w)(z:Sep (hand h m::F) H)(q:∀ Δ v8 v9 u12 H',Sep (hand h (m+40)::(Δ++F)) H'->D.nx [u0,some (ut h),some (ut CL),u3,u4,u5,u6,u7,some v8,some v9,some (v4 N),u11,u12] H'):
  wB (a7 5 (o8 (a7 4 dw.body))) ⟨tab,R,aa tab R (k-1),.calm⟩ D E [u0,some (ut h),some (ut CL),u3,u4,u5,u6,u7,some (ut A),some w,some (v4 N),u11,u12] H:=by
 have two:∀ {F:List ah}{ms:Option (List Md)}{vM:V}{m:Int}{H:Hp},m<=1099450000000->pt A (wl (cs.map v4)) ∈ F->Dd R F vM ms->Sep (hand h m::F) H->(∀ Δ v8 v9 u12 H',Sep (hand h (m+20)::(Δ++F)) H'->D.nx [u0,some (ut h),some (ut CL),u3,u4,u5,u6,u7,some v8,some v9,some (v4 N),u11,u12] H')->
   wB (a7 6 (o8 (a7 4 dw.body))) ⟨tab,R,aa tab R (k-1),.calm⟩ D E [u0,some (ut h),some (ut CL),u3,u4,u5,u6,u7,some (ut A),some vM,some (v4 N),u11,u12] H:=λ{F ms vM m H} hm mA hM z q=>by
  left;refine⟨by decide,?_⟩;left;refine ik rfl rfl ?_;refine cK (λe=>?_) (λe=>?_)
  .left;refine⟨rfl,?_⟩;refine Cj (cs:=cs) nofun nofun c0 c60 ⟨A,rfl,mA⟩ z (λv' fl Δ H1 hC z1=>?_);exact Ao (k:=k) ro hk hC ⟨hM.1.mono,hM.2.mono λA m=>ak m⟩ z1 (λΔ' u12 H' z'=>q (Δ'++Δ) _ _ _ _ (by rw[io];exact z'))
  .exact Ao (k:=k) (fl:=some (cs.map v4)) ro hk ⟨⟨A,rfl,mA,by rw[ce];omega,λx hx=>by
    obtain⟨i,_,rfl⟩:=List.mem_map.mp hx;exact en rfl⟩,.ls mA (by rw[ce];omega) λx hx=>by
    obtain⟨i,_,rfl⟩:=List.mem_map.mp hx;exact .fl rfl⟩ hM z (λΔ' u12 H' z'=>q Δ' _ _ _ _ (ag z' nofun))
 left;refine⟨by decide,?_⟩;left;refine⟨by decide,?_⟩;left;refine ik rfl rfl ?_;refine cK (λe=>?_) (λe=>?_)
 .left;refine⟨rfl,?_⟩;refine B1 nofun nofun hw z (λv' ms Δ H1 hM z1=>?_);exact two (F:=Δ++F) nofun (ak mA) hM z1 (λΔ' v8 v9 u12 H' z'=>q (Δ'++Δ) _ _ _ _ (by rw[io];exact ag z' nofun))
 .obtain⟨ms,hM⟩:=hw.ms;exact two nofun mA hM z (λΔ' v8 v9 u12 H' z'=>q Δ' _ _ _ _ (ag z' nofun))
def jN (ro:Ro K R)(hk:12<=k)(hm:m<=1099300000000)(N0:0<=N)(N1:N<=15)(c0:1<=cs.length)(c60:cs.length<=60)(mC:pt CL (wl (cs.map v4)) ∈ F)(mA:pt A (wl (cs.map v4)) ∈ F)(hw:la R F w)(z:Sep (hand h m::F) H)(q:∀ Δ v8 v9 u11 u12 H',Sep (hand h (m+100)::(Δ++F)) H'->D.nx [u0,some (ut h),some (ut CL),u3,u4,u5,u6,u7,some v8,some v9,some (v4 N),u11,u12] H'):
  wB (a7 4 (o8 (a7 4 dw.body))) ⟨tab,R,aa tab R (k-1),.calm⟩ D E [u0,some (ut h),some (ut CL),u3,u4,u5,u6,u7,some (ut A),some w,some (v4 N),u11,u12] H:=by
 walk_at "gd";rename_i r H1 r0 r1 z1;have hn:0<=N / 4 % 2*(1+r)/\N / 4 % 2*(1+r)<=2:=by
  rcases(by omega:N / 4 % 2=0\/N / 4 % 2=1) with e|e<;>rw[e]<;>omega
 generalize N / 4 % 2*(1+r)=c at hn;refine⟨by omega,by omega,?_⟩;clear z;refine cD (n:=c.toNat) (λj U H=>∃ Δ w u11,U=[u0,some (ut h),some (ut CL),u3,u4,u5,u6,u7,some (ut A),some w,some (v4 N),u11,u12]/\la R (Δ++F) w/\Sep (hand h (m+10+20*(j:Int))::(Δ++F)) H) ⟨[],w,_,rfl,hw,ag (n:=m+10+20*((0:Nat):Int)) z1 nofun⟩ (λj U H hj hI=>?_) (λU H hI=>?_)
 .obtain⟨Δ,w,u11,rfl,hw,zz⟩:=hI;left;refine⟨rfl,?_⟩;refine aO (fz (G:=[_]) (ak mC) zz) ?_;rw[ce];left;refine Bq (n:=cs.length) nofun nofun c0 c60 hw zz (λv' Δ' H2 hw2 z2=>?_);refine⟨Δ'++Δ,v',_,rfl,by rw[io];exact hw2,?_⟩;rw[io];exact ag z2 nofun
 .obtain⟨Δ,w,u11,rfl,hw,zz⟩:=hI;exact zX (k:=k) (F:=Δ++F) ro hk nofun N0 N1 c0 c60 (ak mA) hw zz (λΔ' v8 v9 u12 H' z'=>q (Δ'++Δ) _ _ _ _ _ (by rw[io];exact ag z' nofun))
def HH (ro:Ro K R)(hk:12<=k)(hm:m<=1099200000000)(N0:0<=N)(N1:N<=15)(c0:1<=cs.length)(c60:cs.length<=60)(mC:pt CL (wl (cs.map v4)) ∈ F)(mA:pt A (wl (cs.map v4)) ∈ F)(hw:la R F w)(z:Sep (hand h m::F) H)(q:∀ Δ v8 v9 u11 u12 H',Sep (hand h (m+200)::(Δ++F)) H'->D.nx [u0,some (ut h),some (ut CL),u3,u4,u5,u6,u7,some v8,some v9,some (v4 N),u11,u12] H'):
  wB (a7 3 (o8 (a7 4 dw.body))) ⟨tab,R,aa tab R (k-1),.calm⟩ D E [u0,some (ut h),some (ut CL),u3,u4,u5,u6,u7,some (ut A),some w,some (v4 N),u11,u12] H:=by
 walk_at "gd";rename_i r H1 r0 r1 z1;have hn:0<=N / 8 % 2*(1+r)/\N / 8 % 2*(1+r)<=2:=by
  rcases(by omega:N / 8 % 2=0\/N / 8 % 2=1) with e|e<;>rw[e]<;>omega
 generalize N / 8 % 2*(1+r)=c at hn;refine⟨by omega,by omega,?_⟩;clear z;refine cD (n:=c.toNat) (λj U H=>∃ Δ w u11,U=[u0,some (ut h),some (ut CL),u3,u4,u5,u6,u7,some (ut A),some w,some (v4 N),u11,u12]/\la R (Δ++F) w/\Sep (hand h (m+10+20*(j:Int))::(Δ++F)) H) ⟨[],w,_,rfl,hw,ag (n:=m+10+20*((0:Nat):Int)) z1 nofun⟩ (λj U H hj hI=>?_) (λU H hI=>?_)
 .obtain⟨Δ,w,u11,rfl,hw,zz⟩:=hI;left;refine⟨rfl,?_⟩;refine BQ nofun nofun hw zz (λv' Δ' H2 hw2 z2=>?_);refine⟨Δ'++Δ,v',_,rfl,by rw[io];exact hw2,?_⟩;rw[io];exact ag z2 nofun
 .obtain⟨Δ,w,u11,rfl,hw,zz⟩:=hI;exact jN (k:=k) (F:=Δ++F) ro hk nofun N0 N1 c0 c60 (ak mC) (ak mA) hw zz (λΔ' v8 v9 u11 u12 H' z'=>q (Δ'++Δ) _ _ _ _ _ (by rw[io];exact ag z' nofun))
def CM {ML:Addr}{u8 u9 u10:Option V}(ro:Ro K R)(hk:12<=k)(hm:m<=1099100000000)(c0:1<=cs.length)(c60:cs.length<=60)(mC:pt CL (wl (cs.map v4)) ∈ F)(hw:la R F (ut ML))(z:Sep (hand h m::F) H)(q:∀ Δ u8 u9 u10 u11 u12 H',Sep (hand h (m+300)::(Δ++F)) H'->D.nx [u0,some (ut h),some (ut CL),some (ut ML),u4,u5,u6,u7,u8,u9,u10,u11,u12] H'):
  wB (o8 (a7 4 dw.body)) ⟨tab,R,aa tab R (k-1),.calm⟩ D E [u0,some (ut h),some (ut CL),some (ut ML),u4,u5,u6,u7,u8,u9,u10,u11,u12] H:=by
 obtain⟨a,ys,ds,e,ma,l0,l1,al⟩:=hw;cases e;left;refine bq z (fz (G:=[_]) mC z) (λA H1 z1=>?_);left;refine bq z1 (fz (G:=[_,_]) ma z1) (λB H2 z2=>?_);walk_at "gd";rename_i LL H3 z3 r H4 r0 r1 z4;obtain⟨v,e2,N,rfl,N0,N1⟩:=nc (xs:=[v4 1,v4 2,v4 4,v4 8,v4 3,v4 6,v4 12,v4 10,v4 5,v4 9,v4 15,v4 0]) (P:=inR 0 15) (r:=r) r0 (by simpa using r1) (λv hv=>by
  simp only[lf,not_mem_nil,or_false]at hv;rcases hv with rfl|rfl|rfl|rfl|rfl|rfl|rfl|rfl|rfl|rfl|rfl|rfl<;>exact .mk (by decide) (by decide))
 refine bH (by grind) e2 ?_;have z5:Sep ([pt B (wl ys),pt A (wl (cs.map v4))]++([hand h (m+1)]++F)) H4:=z4.sub (Γ':=pt B (wl ys)::pt A (wl (cs.map v4))::hand h (m+1)::F) (by ac_nf);have z6:=toF z5;clear z z1 z2 z3 z4 z5;exact HH (k:=k) (m:=m+1) (F:=[pt B (wl ys),pt A (wl (cs.map v4))]++F) ro hk nofun N0 N1 c0 c60 (ak mC) (by simp) ⟨B,ys,ds,rfl,by simp,l0,l1,al.map λv i=>dO.mono⟩ z6 (λΔ v8 v9 u11 u12 H' z'=>q (Δ++[pt B (wl ys),pt A (wl (cs.map v4))]) _ _ _ _ _ _ (by rw[io];exact ag z' nofun))
end
def Cr {i:Int}{y:V}(s:Sep O H)(r:e9 (pt a (wl xs)) (pt a (wl (xs.take i.toNat++y::xs.drop i.toNat))) O Γ')(h0:0<=i)(h1:i<=xs.length)(hl:xs.length<=10000)(h:∀ H',Sep Γ' H'->Q wf H'):yo .insert a xs [v4 i,y] H Q:=by unfold yo;exact⟨i,y,rfl,h0,h1,hl,h _ (s.put r rfl)⟩
def tN {f:α->ah}{x:α}{l:List α}{r:Nat}:aj (f x) ((l.take r++x::l.drop r).map f++O) (l.map f++O):=by
 have e:l.map f++O=(l.take r).map f++((l.drop r).map f++O):=by rw[<-io,<-dL,take_append_drop]
 rw[e,dL,io];exact az .e
abbrev dS (n:Int)(L:List Pt):Prop:=(∀ q ∈ L,0<=q.i/\q.i<q.j/\q.j<=n)/\L.Pairwise mY
def mY.symm {a b:Pt}(h:mY a b):mY b a:=by unfold mY at h⊢;omega
def rq {n:Int}{x:Pt}{r:Nat}(h:dS n L)(h0:0<=x.i)(h1:x.i<x.j)(h2:x.j<=n)(hx:∀ q ∈ L,q.j<=x.i):dS n (L.take r++x::L.drop r):=by
 have pm:(L.take r++x::L.drop r).Perm (x::L):=by
  have:=List.perm_middle (a:=x) (l₁:=L.take r) (l₂:=L.drop r)
  rwa [take_append_drop]at this
 refine⟨λq hq=>?_,(pm.pairwise_iff mY.symm).mpr (List.pairwise_cons.mpr ⟨λq hq=>?_,h.2⟩)⟩
 .rcases lf.mp (pm.mem_iff.mp hq) with rfl|hq
  .exact⟨h0,h1,h2⟩
  .exact h.1 q hq
 .have:=hx q hq;unfold mY
  omega
def vk {n:Int}(hk:2<=k)(s:Sep (hand h m::O) H)(hm:m<=1099510000000)(n0:1<=n)(n60:n<=60)
  (q:∀ D (L:List Pt) H',1<=L.length->L.length<=4->dS n L->Sep (pt D (wl (L.map bV))::hand h (m+30)::(L.map cI++O)) H'->Q (ut D) H'):aa tab R k 60 [ut h,v4 n] H Q E:=by
 delta fD;walk_at "gd";rename_i D H1 hs1 r1 H2 r10 r11 hs2 l1 H3 hs3 r2 H4 r20 r21 hs4;obtain⟨v,e2,lo,rfl,lo0,lo1⟩:=nc (xs:=[v4 0,v4 r1]) (P:=inR 0 (n-1)) (r:=r2) r20 (by simpa using r21) (Fo (.mk (by decide) nofun) (.mk nofun nofun));refine bH (by grind) e2 ?_;have hs5:Sep (hand h (m+2)::pt D (wl [])::O) H4:=ag (hs4.sub (Γ':=hand h _::pt D (wl [])::O) (by ac_nf)) nofun;clear hs1 hs2 hs3 hs4 s;walk_at "gd";rename_i r3 H5 r30 r31 hs6;refine cD (λj U H=>∃ lw u v,∃ L:List Pt,U=[some (ut h),some (v4 n),some (ut D),some (v4 lw),u,v]/\0<=lw/\(∀ q ∈ L,q.j<=lw)/\(j=0->lw<n)/\(1<=j->1<=L.length)/\L.length<=j/\dS n L/\Sep (pt D (wl (L.map bV))::hand h (m+3+5*(j:Int))::(L.map cI++O)) H) ?_ ?_ ?_
 .exact⟨lo,none,none,[],rfl,lo0,λq hq=>absurd hq (by simp),λ_=>by omega,λh=>absurd h nofun,pc _,⟨λq hq=>absurd hq (by simp),.nil⟩,(ag hs6 nofun).pull .k1⟩
 .rintro j U H hj ⟨lw,u,v,L,rfl,g0,g1,g2,g3,g4,g5,zz⟩;walk_at "gd";refine aB (λhlt=>?_) (λhlt=>?_)
  .walk_at "gd";rename_i l2 H6 z6 r4 H7 r40 r41 z7;obtain⟨v2,e3,N,rfl,N0,N1⟩:=nc (xs:=[v4 (n-lw),v4 (min 9 (n-lw))]) (P:=inR 1 (n-lw)) (r:=r4) r40 (by simpa using r41) (Fo (.mk nofun nofun) (.mk nofun nofun));refine bH (by grind) e3 ?_;clear z6;walk_at "gd";rename_i r5 H8 r50 r51 z8;have z9:Sep (pt D (wl (L.map bV))::hand h (m+3+5*(j:Int)+2)::(L.map cI++O)) H8:=(ag (z8.sub (Γ':=hand h _::pt D (wl (L.map bV))::(L.map cI++O)) (by ac_nf)) nofun).pull .k1;clear z7 z8;refine⟨D,_,rfl,z9.at,?_⟩;right;rw[ce];refine kN nofun (z9.pull .k1) nofun nofun nofun (λr6 H9 r60 r61 z10=>?_);right;rename_i X H10 z11;have z12:Sep (cI ⟨X,lw,lw+1+r5⟩::pt D (wl (L.map bV))::hand h (m+3+5*(j:Int)+2+1)::(L.map cI++O)) H10:=(z11.pull (A:=pt X _) (by symm)).toT.sub (Γ':=tu X _::pt D (wl (L.map bV))::hand h _::(L.map cI++O)) (by ac_nf);have z13:=Sep.push (.j2 (tN (r:=r6.toNat))) z12;refine⟨_,z13.at,Cr z13 .e r60 (by rw[ce];omega) (by rw[ce];omega) (λH11 z14=>?_)⟩;have em:(L.map bV).take r6.toNat++ut X::(L.map bV).drop r6.toNat=(L.take r6.toNat++(⟨X,lw,lw+1+r5⟩:Pt)::L.drop r6.toNat).map bV:=by
    rw[dL,map_cons,map_take,map_drop]
    rfl
   rw[em]at z14;clear z9 z10 z11 z12 z13;walk_at "gd";rename_i l3 H12 z15 r7 H13 r70 r71 z16;obtain⟨v3,e4,s,rfl,s0,s1⟩:=nc (xs:=[v4 0,v4 0,v4 1,v4 3]) (P:=inR 0 3) (r:=r7) r70 (by simpa using r71) (HJ (.mk (by decide) (by decide)) (.mk (by decide) (by decide)) (.mk (by decide) (by decide)) (.mk (by decide) (by decide)));refine bH (by grind) e4 ?_;right;refine⟨lw+1+r5+s,_,_,_,rfl,by omega,λq hq=>?_,λh=>absurd h nofun,λ_=>?_,?_,rq (r:=r6.toNat) (x:=⟨X,lw,lw+1+r5⟩) g5 (by dsimp only;omega) (by dsimp only;omega) (by dsimp only;omega) (λq hq=>g1 q hq),?_⟩
   .rcases mem_append.mp hq with hq|hq
    .have:=g1 q (mem_of_mem_take hq)
     omega
    .rcases lf.mp hq with rfl|hq
     .dsimp only
      omega
     .have:=g1 q (mem_of_mem_drop hq)
      omega
   .rw[ci,length_cons]
    omega
   .rw[ci,length_cons,db,im]
    omega
   .exact(ag (n:=m+3+5*(((j+1:Nat):Nat):Int)) (z16.pull (A:=hand h _) (by symm)) nofun).sub (by ac_nf)
  .right;refine⟨lw,_,_,L,rfl,g0,g1,λh=>absurd h nofun,λ_=>g3 nofun,by omega,g5,?_⟩;exact(ag (zz.pull .k1) nofun).pull .k1
 .rintro U H ⟨lw,u,v,L,rfl,g0,g1,g2,g3,g4,g5,zz⟩;right;refine q D L H (g3 nofun) nofun g5 ?_;exact(ag (zz.pull .k1) nofun).pull .k1
abbrev iw:V->Bool
 | v4 i=>decide (0<=i)&&decide (i<=24)
 |_=>false
abbrev C8:V->Bool
 | wf=>true
 | v4 i=>i ==0||i ==1
 |_=>false
def sv (ro:Ro K R)(hk:2<=k)(ht:tyName v H=some t)(q:Q (.bl (iw v)) H):aa tab R k 42 [v] H Q E:=by
 delta jQ;right;refine aG nofun ht ?_;cases aV ht
 case int i=>
  right;refine aB (λh0=>?_) (λh0=>?_)
  .left;simp only[ro.g_MOST_HOPPED];right;rw[show iw (v4 i)=decide (i<=24) by simp[iw,h0]]at q;exact q
  .right;rw[show iw (v4 i)=false by simp[iw,h0]]at q;exact q
 all_goals
  right;exact q
def yD (hk:2<=k)(ht:tyName v H=some t)(q:Q (.bl (C8 v)) H):aa tab R k 43 [v] H Q E:=by
 delta pR;right;refine tI ?_;cases aV ht
 case int i=>
  left;refine aR rfl ?_;right;refine aG (t:="int") nofun rfl ?_;right;refine cK (λh0=>?_) (λh0=>?_)
  .right;rw[show C8 (v4 i)=true by simp[C8,h0]]at q;exact q
  .right;rw[show C8 (v4 i)=(i ==1) by simp[C8,h0]]at q;exact q
 case non=>
  left;refine cn rfl ?_;exact q
 all_goals
  left;refine aR rfl ?_;right;refine aG nofun ht ?_;right;exact q
abbrev oV:Option Int->V
 |none=>wf
 |some i=>v4 i
abbrev Hq:Option Int->Prop
 |none=>True
 |some i=>i=0\/i=1
abbrev D0 (R:Rt)(d:Addr)(n:Int)(o:Option Int):ah:=bx λdx:Addr=>[pt d (wp (R.cad 14) dx [("many",v4 n),("on",oV o)]),pt dx (.own d)]
def FV {d:Addr}{n:Int}(s:Sep (pt d (wp (R.cad 14) dx [("many",v4 n),("on",oV o)])::pt dx (.own d)::O) H):Sep (D0 R d n o::O) H:=pf dx s
def DF {d:Addr}{n:Int}:Ob R (D0 R d n o) d 14 ["many","on"]:=by
 rintro H D ⟨dx,D1,D2,_,_,_,⟨_,h⟩,_⟩;exact⟨dx,_,h,rfl⟩
def Dk {x:Addr}{n:Int}(ro:Ro K R)(hk:4<=k)(h0:0<=n)(h1:n<=24)(ho:Hq o)(z:Sep (pt x (wp (R.cad 14) dx [])::pt dx (.own x)::O) H)(q:∀ H',Sep (D0 R x n o::O) H'->Q wf H'):aa tab R k 44 [ut x,v4 n,oV o] H Q E:=by
 delta dI;right;refine sv (t:="int") ro nofun rfl ?_;rw[show iw (v4 n)=true by simp[iw,h0,h1]];right;obtain⟨t,ht⟩:∃ t,tyName (oV o) H=some t:=by cases o<;>exact⟨_,rfl⟩
 refine yD nofun ht ?_;rw[show C8 (oV o)=true by cases o with|none=>rfl|some i=>rcases ho with rfl|rfl<;>rfl];right;exact q _ (FV (by assumption))
abbrev nE (q:Pt×List Bool):Md:=.mk (v4 q.1.i) (v4 q.1.j) (some q.2)
def pV {n:Nat}:∀ {Z:List (Pt×List Bool)}{k:Nat}{s:List (Int×Int)},(∀ q ∈ Z,0<=q.1.i/\q.1.i<q.1.j/\q.1.j<=n)->(Z.map (·.1)).Pairwise mY->(∀ p ∈ s,∀ q ∈ Z,q.1.j<=p.1\/p.2<=q.1.i)->cJ n k s (Z.map nE)=none
 | [],_,_,_,_,_=>rfl
 |q::Z,k,s,hv,hp,hs=>by
  obtain⟨v0,v1,v2⟩:=hv q le;rw[map_cons]at hp;obtain⟨hp1,hp2⟩:=List.pairwise_cons.mp hp;show(if jK n s (v4 q.1.i) (v4 q.1.j)=true then cJ n (k+1) (s++[(q.1.i,q.1.j)]) (Z.map nE) else some (k:Int))=none;have ok:jK n s (v4 q.1.i) (v4 q.1.j)=true:=by
   unfold jK;rw[li,li];refine⟨⟨?_,decide_eq_true v1⟩,?_⟩
   .show(decide (0<=q.1.i)&&(decide (q.1.i<=q.1.j)&&decide (q.1.j<=(n:Int))))=true;rw[decide_eq_true v0,decide_eq_true (show q.1.i<=q.1.j by omega),decide_eq_true v2]
    rfl
   .rw[all_eq_true];intro p hp;exact decide_eq_true (hs p hp q le)
  rw[if_pos ok];refine pV (λq' h=>hv q' (dl _ h)) hp2 (λp hp q' hq'=>?_);rcases mem_append.mp hp with hp|hp
  .exact hs p hp q' (dl _ hq')
  .rw[mem_singleton.mp hp];have:=hp1 q'.1 (List.mem_map.mpr ⟨q',hq',rfl⟩);obtain⟨w0,w1,w2⟩:=hv q' (dl _ hq');unfold mY at this;show q'.1.j<=q.1.i\/q.1.j<=q'.1.i
   omega
def qd:∀ {Z:List (Pt×List Bool)},(∀ q ∈ Z,cW (some q.2)=none)->fW (Z.map nE)=none
 | [],_=>rfl
 |q::Z,h=>by
  show(match cW (some q.2) with|some a=>some a|none=>fW (Z.map nE))=none;rw[h q le];exact qd λq' h'=>h q' (dl _ h')
variable {Z:List (Pt×List Bool)}
def BL (c0:1<=cs.length)(c60:cs.length<=60)(hc:bQ cs)(z1:1<=Z.length)(z4:Z.length<=4)(hp:dS (cs.length:Int) (Z.map (·.1)))(hw:∀ q ∈ Z,cW (some q.2)=none):fe (some (cs.map v4)) (some (Z.map nE))=(("made":Str),(cs.length:Int)):=by
 have hl:(cs.map v4).length=cs.length:=ce ..;have hb:bad (cs.map v4)=none:=fT (by rw[hl];exact⟨c0,c60⟩) λi y e=>by
  rw[ii]at e;obtain⟨x,hx,rfl⟩:=lv.mp e;obtain⟨a,b⟩:=hc x (cr hx);show(decide (0<=x)&&decide (x<=1000000000))=true;rw[decide_eq_true a,decide_eq_true b]
  rfl
 have hd:dq (cs.map v4).length (some (Z.map nE))=none:=by
  show(if 1<=(Z.map nE).length/\(Z.map nE).length<=4/\(Z.map nE).all Md.ok=true then cJ (cs.map v4).length 0 [] (Z.map nE) else some (-1))=none;rw[if_pos ⟨by rw[ce];exact z1,by rw[ce];exact z4,by rw[List.all_map,all_eq_true];exact λ_ _=>rfl⟩];exact pV (λq hq=>by rw[hl];exact hp.1 q.1 (List.mem_map.mpr ⟨q,hq,rfl⟩)) hp.2 λp h=>absurd h (by simp)
 rw[Ah hb hd (qd hw),hl]
section
variable {F:List ah}{h ML CL a:Addr}{m:Int}{cs:List Int}{D:Ends}{E:St->XK}{u4 u5 u6 u7 u8 u9 u10 u11 u12:Option V}
def Eu (ro:Ro K R)(hk:13<=k)(hm:m<=1099000000000)(c0:1<=cs.length)(c60:cs.length<=60)(hc:bQ cs)(z1:1<=Z.length)(z4:Z.length<=4)(hp:dS (cs.length:Int) (Z.map (·.1)))(hw:∀ q ∈ Z,cW (some q.2)=none) (mC:pt CL (wl (cs.map v4)) ∈ F) (mM:pt ML (wl ys) ∈ F) (al:eg (dO R F) ys (Z.map nE)) (z:Sep (hand h m::F) H) (q:∀ H',D.rt (.bl true) H'):
  wB (a7 4 dw.body) ⟨tab,R,aa tab R (k-1),.calm⟩ D E [some (ut a),some (ut h),some (ut CL),some (ut ML),u4,u5,u6,u7,u8,u9,u10,u11,u12] H:=by
 have hly:ys.length=Z.length:=by rw[al.1,ce]
 right;refine cD (n:=6) (λj U H=>∃ Δ u7 u8 u9 u10 u11 u12,U=[some (ut a),some (ut h),some (ut CL),some (ut ML),u4,u5,u6,u7,u8,u9,u10,u11,u12]/\Sep (hand h (m+300*(j:Int))::(Δ++F)) H) ⟨[],_,_,_,_,_,_,rfl,ag (n:=m+300*((0:Nat):Int)) z nofun⟩ (λj U H hj hI=>?_) (λU H hI=>?_)
 .obtain⟨Δ,u7,u8,u9,u10,u11,u12,rfl,zz⟩:=hI;refine CM (k:=k) (F:=Δ++F) (cs:=cs) ro nofun nofun c0 c60 (ak mC) ⟨ML,ys,Z.map nE,rfl,ak mM,by omega,by omega,al.map λv i=>dO.mono⟩ zz (λΔ' u8 u9 u10 u11 u12 H' z'=>⟨Δ'++Δ,_,_,_,_,_,_,rfl,by rw[io];exact ag z' nofun⟩)
 .obtain⟨Δ,u7,u8,u9,u10,u11,u12,rfl,zz⟩:=hI;left;refine⟨rfl,?_⟩;refine qc (G:=[_]) (fl:=some (cs.map v4)) (ms:=some (Z.map nE)) ro nofun ⟨CL,rfl,ak mC,by rw[ce];omega,λx hx=>by
    obtain⟨i,_,rfl⟩:=List.mem_map.mp hx;exact en rfl⟩ ⟨ML,ys,rfl,ak mM,by omega,al.map λv i h=>(dO.mono h).i⟩ zz (λt H2 z2=>?_)
  rw[BL c0 c60 hc z1 z4 hp hw]at z2;have z3:Sep ([pt t (wn [v6 "made",v4 (cs.length:Int)]),hand h (m+300*((6:Nat):Int))]++(Δ++F)) H2:=z2;left;refine aO (fz (ak mC) z3) ?_;rw[ce];left;refine gI z3 (nb rfl) (λt2 H4 z4=>?_);have z5:Sep (pt t2 (wn [v6 "made",v4 (cs.length:Int)])::pt t (wn [v6 "made",v4 (cs.length:Int)])::([hand h (m+300*((6:Nat):Int))]++(Δ++F))) H4:=z4;left;refine ot (vf (z5.get .k1) z5.at) (by decide) (Sep.ne (z5.pull .k1)) ?_;exact q H4
def BR {F0:List ah}{x:Pt}(ro:Ro K R)(hk:13<=k)(hm:m<=1099000000000)(hx:tu x.p [v4 x.i,v4 x.j] ∈ F0)(ly:ys.length<=4)(al:eg (dO R (Δ++F0)) ys (Z.map nE))(z:Sep (pt ML (wl ys)::hand h m::(Δ++F0)) H)
  (q:∀ Δ' bs T u4 u5 u6 H',cW (some bs)=none->eg (dO R (Δ'++F0)) (ys++[ut T]) ((Z++[(x,bs)]).map nE)->Sep (pt ML (wl (ys++[ut T]))::hand h (m+60)::(Δ'++F0)) H'->D.nx [some (ut a),some (ut h),some (ut CL),some (ut ML),u4,u5,u6,u7,u8,u9,u10,u11,u12] H'):
  wB (o8 (a7 3 dw.body)) ⟨tab,R,aa tab R (k-1),.calm⟩ D E [some (ut a),some (ut h),some (ut CL),some (ut ML),some (v4 x.i),some (v4 x.j),u6,u7,u8,u9,u10,u11,u12] H:=by
 walk_at "gd";rename_i r H1 r0 r1 z1;have z2:Sep (pt ML (wl ys)::hand h (m+1)::(Δ++F0)) H1:=z1.pull .k1;clear z z1;generalize hF:Δ++F0=F1 at z2 al;refine lx (n:=(1+r).toNat) nofun (λD1 zs H=>∃ Δ',eg (jX R (Δ'++F1)) zs (sn zs.length true)/\(∀ y ∈ zs,Ct R (Δ'++F1) 1 y)/\Sep (pt D1 (wl zs)::pt ML (wl ys)::hand h (m+1+((zs.length:Nat):Int))::(Δ'++F1)) H) (λD1 hD=>⟨[],.nil,λy hy=>absurd hy (by simp),by
  have y2:Sep (pt D1 (wl [])::pt ML (wl ys)::hand h (m+1+((([]:List V).length:Nat):Int))::F1) (upd H1 D1 (wl [])):=(ag (n:=m+1+((([]:List V).length:Nat):Int)) ((z2.new (o:=wl []) hD).pull (A:=hand h _) .k2) (by simp)).sub (by ac_nf);exact y2⟩) (λD1 zs H hl hI=>?_) (λRW zs H hl hI=>?_)
 .obtain⟨Δ',al1,ct1,zz⟩:=hI;clear z2;left;refine wA zz (λc1 f1 H2 z3=>?_);left;refine wA z3 (λc2 f2 H3 z4=>?_);right;intro c3 f3 g1 g2 g3;refine Dk (n:=1) (o:=none) ro nofun (by decide) (by decide) True.intro (gi z4 g1 g2 g3) (λH4 z5=>⟨rfl,?_⟩);walk_at "gd";rename_i LL H5 z6 r2 H6 r20 r21 z7;have eL:H6 LL=some (wl [ut c1,ut c2,ut c3]):=z7.get .k1;clear z3 z4 z5 z6;have y0:Sep (pt D1 (wl zs)::pt ML (wl ys)::hand h (m+1+(((zs.length+1:Nat):Nat):Int))::D0 R c3 1 none::pt c2 (wp (R.cad 19) f2 [])::pt c1 (wp (R.cad 18) f1 [])::(Δ'++F1)) H6:=(ag (n:=m+1+(((zs.length+1:Nat):Nat):Int)) z7 nofun).sub (by ac_nf);obtain⟨c,Ac,hat,hob,y1⟩:∃ c Ac,jw [ut c1,ut c2,ut c3] r2=some (ut c)/\(∃ cl,GR cl/\DO cl/\tj R ([Ac]++(Δ'++F1)) c cl)/\Sep (pt D1 (wl zs)::pt ML (wl ys)::hand h (m+1+(((zs.length+1:Nat):Nat):Int))::Ac::(Δ'++F1)) H6:=by
   rcases(by omega:r2=0\/r2=1\/r2=2) with rfl|rfl|rfl
   .exact⟨c1,_,rfl,⟨18,.inl rfl,.inl rfl,⟨pt c1 (wp (R.cad 18) f1 []),le,λH D z=>⟨f1,[],z.2⟩⟩⟩,y0.sub (by ac_nf)⟩
   .exact⟨c2,_,rfl,⟨19,.inr (.inl rfl),.inr (.inl rfl),⟨pt c2 (wp (R.cad 19) f2 []),le,λH D z=>⟨f2,[],z.2⟩⟩⟩,y0.sub (by ac_nf)⟩
   .exact⟨c3,_,rfl,⟨14,.inr (.inr rfl),.inr (.inr (.inl rfl)),⟨D0 R c3 1 none,le,λH D z=>let⟨dx,fs,e,_⟩:=DF (R:=R) H D z;⟨dx,fs,e⟩⟩⟩,y0.sub (by ac_nf)⟩
  refine bH eL hat ?_;obtain⟨cl,dc,oc,ob⟩:=hob;refine kx.mk y1.at nofun ⟨[Ac]++Δ',?_,λy hy=>?_,?_⟩
  .rw[ci,f8,List.replicate_succ',io];exact(al1.map λv i=>jX.mono (Δ:=[Ac])).snoc ⟨c,cl,rfl,dc,ob⟩
  .rw[io];rcases mem_append.mp hy with hy|hy
   .exact(ct1 y hy).mono λA m=>ak (Δ:=[Ac]) m
   .rw[mem_singleton.mp hy];exact .ob oc ob
  .rw[ci,f8];exact y1.set rfl
 .obtain⟨Δ',al1,ct1,zz⟩:=hI;clear z2;left;refine⟨ML,_,rfl,zz.get .k1,?_⟩;walk_at "gd";rename_i r2 H2 r20 r21 z3;intro b dx g1 g2 g3;refine ui (h:=0) (t:=1) (l:=r2) (w:=1) (s:=0) (m:=0) ro nofun (by show(_/\_)/\(_/\_)/\(_/\_)/\(_\/_)/\(_/\_)/\(_\/_);dsimp only;omega) (gi z3 g1 g2 g3) (λH3 z4=>⟨rfl,?_⟩);clear zz z3 g1 g2 g3;left;refine gI z4 (nb rfl) (λT H4 z5=>?_);have z6:Sep (pt ML (wl ys)::hand h (m+60)::tu T [v4 x.i,v4 x.j,ut RW,ut b]::dY R b ⟨0,1,r2,1,0,0⟩::pt RW (wl zs)::(Δ'++F1)) H4:=(ag (n:=m+60) (z5.toT.pull (A:=hand h _) .k2) nofun).sub (by ac_nf);clear z4 z5;left;refine⟨_,z6.at,Af z6 .e nofun (λH5 z7=>?_)⟩;left;have ecx:(tu T [v4 x.i,v4 x.j,ut RW,ut b]::dY R b ⟨0,1,r2,1,0,0⟩::pt RW (wl zs)::Δ')++F1=(tu T [v4 x.i,v4 x.j,ut RW,ut b]::dY R b ⟨0,1,r2,1,0,0⟩::pt RW (wl zs)::(Δ'++Δ))++F0:=by
   rw[<-hF];simp
  refine q (tu T [v4 x.i,v4 x.j,ut RW,ut b]::dY R b ⟨0,1,r2,1,0,0⟩::pt RW (wl zs)::(Δ'++Δ)) (sn zs.length true) T _ _ _ H5 (gq (by rw[length_replicate];omega) λi y e=>(List.mem_replicate.mp (cr e)).2) ?_ (by rw[<-ecx];exact z7);rw[<-ecx,dL];refine(al.map λv i=>dO.mono (Δ:=tu T [v4 x.i,v4 x.j,ut RW,ut b]::dY R b ⟨0,1,r2,1,0,0⟩::pt RW (wl zs)::Δ')).snoc ?_;exact⟨T,ut RW,b,⟨0,1,r2,1,0,0⟩,rfl,le,⟨en rfl,.fl rfl⟩,⟨en rfl,.fl rfl⟩,⟨RW,zs,rfl,dl _ (dl _ le),by omega,al1.map λv i=>jX.mono (Δ:=[_,_,_]),λy hy=>(ct1 y hy).mono λA m=>ak (Δ:=[_,_,_]) m⟩,dl _ le⟩
end
def B5 (ro:Ro K R)(hk:13<=k):∀ vs H Q E,gP K 63 vs H Q E->aa tab R k 70 vs H Q E:=by
 rintro vs H Q E ⟨a,is,rfl,hS,h63,hQ⟩;delta dw;right;rw[<-ro.hK]at hS;refine BH nofun Sep.nil hS h63 (λh H1 z1=>?_);right;refine xk (O:=[]) (m:=0) nofun z1 nofun (by decide) (by decide) (λCL cs H2 c0 c60 hc z2=>?_);right;rename_i ML H3 z3;rw[ce];refine vk (n:=(cs.length:Int)) nofun (z3.pull (A:=hand h _) .k2) nofun nofun c60 (λDL L H4 l1 l4 hp z4=>?_);have z5:Sep (pt DL (wl (L.map bV))::hand h (0+300+30)::pt ML (wl [])::pt CL (wl (cs.map v4))::(L.map cI++[])) H4:=Sep.mv (P:=[_,_]) (Δ:=L.map cI) (L:=[_,_]) (O:=[]) z4;obtain⟨F0,hF0⟩:∃ F0,F0=pt DL (wl (L.map bV))::pt CL (wl (cs.map v4))::(L.map cI++[]):=⟨_,rfl⟩;have z6:Sep (pt ML (wl [])::hand h (330+60*((0:Nat):Int))::([]++F0)) H4:=by
  have y:Sep (pt ML (wl [])::hand h (330+60*((0:Nat):Int))::pt DL (wl (L.map bV))::pt CL (wl (cs.map v4))::(L.map cI++[])) H4:=(ag (n:=330+60*((0:Nat):Int)) (z5.pull (A:=hand h _) .k1) nofun).sub (by ac_nf);rw[hF0];exact y
 have mD:pt DL (wl (L.map bV)) ∈ F0:=by rw[hF0];simp
 have mC:pt CL (wl (cs.map v4)) ∈ F0:=by rw[hF0];simp
 have mL:∀ x ∈ L,tu x.p [v4 x.i,v4 x.j] ∈ F0:=λx hx=>by
  rw[hF0];exact dl _ (dl _ (mem_append_left _ (List.mem_map.mpr ⟨x,hx,rfl⟩)))
 clear z1 z2 z3 z4 z5 hF0;left;refine sA (fz (G:=[_,_]) mD z6) ?_;refine fE (xs:=L.map bV) (λj U H=>∃ (Δ:List ah) (Z:List (Pt×List Bool)) (ys:List V) (u4 u5 u6:Option V),U=[some (ut a),some (ut h),some (ut CL),some (ut ML),u4,u5,u6,none,none,none,none,none,none]/\Z.map (·.1)=L.take j/\(∀ q ∈ Z,cW (some q.2)=none)/\eg (dO R (Δ++F0)) ys (Z.map nE)/\Sep (pt ML (wl ys)::hand h (330+60*(j:Int))::(Δ++F0)) H) ⟨[],[],[],_,_,_,rfl,rfl,λq hq=>absurd hq (by simp),.nil,z6⟩ ?_ ?_ ?_
 .rintro j U H ⟨Δ,Z,ys,u4,u5,u6,rfl,_,_,_,hs⟩;exact aL.of (fz (G:=[_,_]) (ak mD) hs)
 .rintro j y U H hy ⟨Δ,Z,ys,u4,u5,u6,rfl,hZ,hw,al,hs⟩;rw[ii]at hy;obtain⟨x,ex,rfl⟩:=lv.mp hy;have hj:=(sw.mp ex).1;have hlZ:Z.length=j:=by
   have:=congrArg List.length hZ;rw[ce,db]at this
   omega
  have hly:ys.length=j:=by rw[al.1,ce,hlZ]
  have hmx:=mL x (cr ex);left;refine⟨x.p,_,rfl,.inl (aY.of (d9 (G:=[_,_]) (ak hmx) hs)),rfl,?_⟩;refine BR (k:=k) (x:=x) (Z:=Z) ro hk nofun hmx nofun al hs (λΔ' bs T u4 u5 u6 H' hbs al' z'=>?_);refine⟨Δ',Z++[(x,bs)],ys++[ut T],_,_,_,rfl,?_,λq hq=>?_,al',?_⟩
  .rw[dL,hZ,take_succ,ex]
   rfl
  .rcases mem_append.mp hq with hq|hq
   .exact hw q hq
   .rw[mem_singleton.mp hq];exact hbs
  .exact(ag (n:=330+60*((j+1:Nat):Int)) (z'.pull .k1) nofun).pull .k1
 .rintro U H ⟨Δ,Z,ys,u4,u5,u6,rfl,hZ,hw,al,hs⟩;rw[ce,take_length]at hZ;have hlZ:Z.length=L.length:=by rw[<-hZ,ce]
  have z7:Sep ([pt ML (wl ys)]++([hand h (330+60*((L.map bV).length:Int))]++(Δ++F0))) H:=hs;exact Eu (k:=k) (F:=[pt ML (wl ys)]++(Δ++F0)) (Z:=Z) ro hk (by rw[ce];omega) c0 nofun hc nofun nofun (by rw[hZ];exact hp) hw (ak (ak mC)) le (al.map λv i=>dO.mono (Δ:=[_])) (toF z7) hQ
def vJ (ro:Ro K R):∀ vs H Q E,gP K 63 vs H Q E->aa tab R 13 70 vs H Q E:=B5 ro (pc _)
end
def walk {l:W.OpenLaw}{q:Program}{loose:List Str}{XP:(Str->Option Value)->Heap->Prop}{YP:World->Heap->Prop}{d:DefRec}{K:Params->W.Frag}(hn:l.most=some 63)(hdf:d.params.defaults=[])
    (hY:∀ (w:World) (h:Heap),YP w h->(K w.params).In h)
    (F:∀ (w:World) (mg:HP) (fa:Addr) (h:Heap),(K w.params).In h->h.Ns mainGlobals mg->mg d.name=some (.ref fa)->
      ∃ fd:FuncData,(∀ (s:Shared) (u:Value),BindsTo s fd ⟨[u],[]⟩ [("_law_script",u)])/\∀ base:Heap,(K w.params).In base->base.Ns mainGlobals mg->cS true l.prog w (K w.params) mg base (uZ l.prog w) 26 fa fd ["_law_script"] (gP (K w.params) 63)):
    W.WalkO q loose XP YP l.row.toRowW d [] (λf vs=>PySem.call f vs):=
  L2.yn (n:=63) (k:=26) (x:="_law_script") (CX:=λw=>uZ l.prog w) (sp:=λw=>gP (K w.params) 63) hn (by decide) hdf ⟨by decide,by decide⟩ hY F (λ_ _ a ns hl _ hS=>⟨a,ns,rfl,hS,hl,λ_=>rfl⟩) λ_ _ _ _ _ z=>uu z
abbrev Gz:List (Str×V):=[("BOUND",.int 1000000000),("MOST_ROWS",.int 24),("MOST_CELLS",.int 60),("MOST_MEMBERS",.int 4),("THINGS_OF_A_MEMBER",.int 4),("MOST_HOPPED",.int 24),("NAMES",.ref 201)]
def Ht (p:Params):L3.yY (K0 p) tab FO GQ Gz=true:=by kernel_rfl
def Hw (p:Params):L3.jl (K0 p) tab FO 0 tab.fns=true:=by kernel_rfl
end My
open PySem PySem.W PyProof.Rows
set_option maxRecDepth 100000 in
set_option maxHeartbeats 0 in
theorem PySem.Challenge.cw_haulbell_k71_no_crews_holds : PySem.Challenge.rw_haulbell_k71_no_crews.Holds := by
  refine holds_law My.EK fun said=>?_
  refine W.holds_open (loose:=My.vB) (N:=14468)
    (q:=My.lJ My.pr)
    (Yf:=fun s=>My.E6.map s.heap.get?)
    (Ya:=fun w=>(My.K0 w.params).map fun p=>some p.2)
    (Xt:=fun s=>xlAt (My.lJ My.pr) [] s&&recOk PySem.Challenge.rw_haulbell_k71_no_crews.row.records s)
    (XP:=XL (My.lJ My.pr) [])
    (YP:=InK My.K0) My.DZ
    (InK.of (as:=My.E6) fun _=>by kernel_rfl) InK.keeps
    (fun s e=>xl_of s (Bool.and_eq_true_iff.mp e).1)
    XL.keeps (by rfl) (by rfl) (by rfl)
    (fun s e=>recFacts_of (Bool.and_eq_true_iff.mp e).2)
    (by rfl) (by assumption) (by decide+kernel)
    ⟨rfl,rfl,rfl,rfl,rfl,by decide+kernel⟩ ?hw ?hc
  case hw=>w_witness2
  refine My.walk (l:=PySem.Challenge.rw_haulbell_k71_no_crews) rfl rfl (fun w h Y=>Y) ?F
  case F=>
    intro w mg fa h KX G hmg;exact L3.xW KX G hmg (T:=My.tab) (fs:=My.FO) (cs:=My.GQ) (gs:=My.Gz) (d:=My.dw) (fl:=70) (k:=13) (My.Ht _) (My.Hw _) (by kernel_rfl) rfl rfl rfl (My.vJ ⟨rfl,by kernel_rfl,by kernel_rfl,by kernel_rfl,by kernel_rfl,by kernel_rfl,by kernel_rfl,⟨201,by kernel_rfl,L3.Bt (by kernel_rfl)⟩⟩)
